import PyProof.Rows.All
import Wide.All
import OpenK.AllK
import Wide.FinOn
import PyProof.EqAt
import PyProof.EqKinds
import PyProof.TupleCall
import Lean
import PyProof.Draws
import PyProof.ListRange
import KE.KIsAll
import PyProof.Rows.Range3
import PySem.Challenge.RW_stillflow_k72_floors
set_option Elab.async false
set_option linter.all false
set_option maxRecDepth 100000
set_option maxHeartbeats 4000000
set_option genInjectivity false
set_option genSizeOf false
set_option compiler.extract_closed false
local macro_rules|`(↑$x)=>`(some $x)
abbrev Γ:=@List
abbrev Δ:=@Option
abbrev Θ:=PySem.Value
abbrev Ξ:=PySem.Shared
abbrev Φ:=PySem.W.Frag
abbrev Ψ:=PySem.Addr
abbrev Ω:=PySem.Stmt
abbrev γ:=PySem.Expr
abbrev δ:=PySem.World
abbrev ε:=PySem.Program
abbrev ζ:=PySem.Scope
abbrev η:=PySem.FuncData
abbrev θ:=Bool
abbrev ι:=PySem.Heap
abbrev ξ:=PySem.Around
abbrev zA:=@Option.bind_some
abbrev zB:=@Option.map_some
abbrev zC:=@List.mem_cons_of_mem
abbrev zD:=@List.length_map
abbrev zE:=@List.mem_cons_self
abbrev zF:=@Bool.and_eq_true
abbrev zG:=@List.getD_eq_getElem?_getD
abbrev zH:=@List.size_toArray
abbrev zI:=@List.map_cons
abbrev zJ:=@decide_eq_true_eq
abbrev zK:=@List.getElem?_eq_getElem
abbrev zL:=@List.length_cons
abbrev zM:=@List.map_map
abbrev zN:=@List.length_append
abbrev zO:=@List.getElem?_map
abbrev zP:=@Nat.lt_of_lt_of_le
abbrev zQ:=@List.mem_cons
abbrev zR:=@List.length_range
abbrev zS:=@List.mem_range
abbrev zT:=@List.getElem?_eq_some_iff
abbrev zU:=@PySem.Heap.get?_push_of_some
abbrev zV:=@PySem.wpAny_bind
abbrev zW:=@PySem.wpAny_pure
abbrev zX:=@PySem.Heap.get?_push_size
abbrev zY:=@PySem.Heap.lt_size
abbrev zZ:=@decide_eq_false
abbrev yA:=@decide_eq_true
abbrev yB:=@List.lookup_cons
abbrev yC:=@List.length_set
abbrev yD:=@Nat.le_trans
abbrev yE:=@List.mem_append_right
abbrev yF:=@List.not_mem_nil
abbrev yG:=@Int.toNat_natCast
abbrev yH:=@List.map_congr_left
abbrev yI:=@List.mem_singleton
abbrev yJ:=@Option.some.injEq
abbrev yK:=@if_pos
abbrev yL:=@Nat.le_refl
abbrev yM:=@if_neg
abbrev yN:=@Bool.false_eq_true
abbrev yO:=@Bool.not_eq_true'
abbrev yP:=@of_decide_eq_true
abbrev yQ:=@Nat.ne_of_lt
abbrev yR:=@List.getElem?_append_left
abbrev yS:=@List.getElem?_append_right
abbrev yT:=@List.map_nil
abbrev yU:=@List.set_cons_zero
abbrev yV:=@List.set_cons_succ
abbrev yW:=@List.getElem?_replicate
abbrev yX:=@List.getElem?_cons_succ
abbrev yY:=@Bool.false_ne_true
abbrev yZ:=@PySem.wpAny_mono
abbrev xA:=@decide_eq_false_iff_not
abbrev xB:=@List.length_singleton
abbrev xC:=@Option.some.inj
abbrev xD:=@List.replicate_succ
abbrev xE:=@List.cons_append
abbrev xF:=@List.all_eq_true
abbrev xG:=@if_true
abbrev xH:=@List.getElem?_set
abbrev xI:=@PySem.Heap.size_push
abbrev xJ:=@List.length_nil
abbrev xK:=@List.length_replicate
abbrev xM:=@PySem.Heap.get?_update_other
abbrev xN:=@List.nil_append
abbrev xO:=@List.length_filter_le
abbrev xP:=@List.getElem?_cons_zero
abbrev xQ:=@PySem.wpAny_pyIter_tuple
abbrev xR:=@List.all_cons
abbrev xS:=@or_false
abbrev xU:=@Nat.zero_le
abbrev xV:=@PySem.wpAny_truthy_bool
abbrev xW:=@PySem.wpAny_holding
abbrev xX:=@Bool.not_true
abbrev xY:=@Int.le_refl
abbrev xZ:=@List.getElem_mem
abbrev qA:=@List.mem_of_getElem?
abbrev qB:=@PySem.wpAny_callSpecial?_slot
abbrev qC:=@Nat.lt_irrefl
abbrev qD:=@List.append_nil
abbrev qE:=@Option.getD_some
abbrev qF:=@List.length_drop
abbrev qG:=@List.mem_append_left
abbrev qH:=@PySem.wpAny_pyIter_list
abbrev qJ:=@PySem.wpAny_newObj_type
abbrev qK:=@PySem.F.plainAttrs_list
abbrev qL:=@if_false
abbrev qM:=@List.getElem_of_mem
abbrev qN:=@PyProof.Rows.callWith_type1
abbrev qP:=@PySem.wpAny_field
abbrev qQ:=@PySem.sizeLine_eq
abbrev qS:=@PySem.wpAny_call_entry
abbrev qT:=@PySem.call_meets
abbrev qU:=@PySem.wpAny_Call_Name_kw
abbrev qV:=@Nat.lt_of_le_of_lt
abbrev qX:=@List.map_append
abbrev qY:=@Bool.or_eq_true
abbrev qZ:=@congrArg
abbrev jA:=@Nat.zero_add
abbrev jB:=@List.pairwise_map
abbrev jC:=@PyProof.Rows.slot_tuple_getitem
abbrev jD:=@List.filterMap_cons
abbrev jE:=@List.ext_getElem
abbrev jF:=@Nat.ne_of_gt
abbrev jG:=@PySem.Calls.spliced_cons
abbrev jH:=@PySem.wpAny_passesOwn
abbrev jI:=@Bool.true_and
abbrev jJ:=@List.getElem?_eq_none
abbrev jK:=@Ne.symm
abbrev jL:=@Nat.lt_succ_of_lt
abbrev jM:=@and_self
abbrev jN:=@decide_true
abbrev jO:=@PySem.F.slot_tuple_iterator_next
abbrev jP:=@PySem.codeAny_mono
abbrev jQ:=@Nat.le_of_lt
abbrev jR:=@Int.le_trans
abbrev jS:=@Nat.le_add_right
abbrev jT:=@List.length_take
abbrev jU:=@List.filter_cons
abbrev jV:=@Array.getElem?_eq_getElem
abbrev jW:=@PySem.mem_of_lookup
abbrev jX:=@PyProof.Rows.listUpdate_at
abbrev jY:=@PyProof.Rows.get?_update_seq
abbrev jZ:=@PySem.codeAny_builtin
abbrev kA:=@List.filter_map
abbrev kC:=@PySem.wpAny_seqItems
abbrev kE:=@PySem.Calls.spliced_nil
abbrev kF:=@PySem.SeqAt.canLay_of_shaped
abbrev kG:=@List.find?_cons_of_neg
abbrev kH:=@List.findIdx_lt_length_of_exists
abbrev kJ:=@Option.getD_none
abbrev kK:=@Nat.lt_succ_self
abbrev kL:=@PySem.wpAny_newList
abbrev kM:=@PySem.wpAny_attempt
abbrev kN:=@List.getElem?_set_ne
abbrev kO:=@List.cons.injEq
abbrev kP:=@Bool.eq_iff_iff
abbrev kR:=@Bool.and_false
abbrev kU:=@PySem.wpAny_setField_rec
abbrev kW:=@List.drop_eq_getElem_cons
abbrev kX:=@List.reverse_cons
abbrev kY:=@List.findIdx_cons
abbrev kZ:=@PySem.wpAny_standAt
abbrev vA:=@List.any_cons
abbrev vB:=@PySem.F.args_tuple_add_2
abbrev vC:=@PySem.wpAny_execs_cons
abbrev vD:=@List.range'_succ
abbrev vE:=@PySem.F.entry_tuple_add
abbrev vF:=@Int.eq_ofNat_of_zero_le
abbrev vG:=@PySem.wpAny_call
abbrev vH:=@beq_iff_eq
abbrev vI:=@PyProof.Rows.listItems_at
abbrev vJ:=@PySem.F.slot_tuple_add
abbrev vK:=@List.range_succ_eq_map
abbrev vL:=@List.getElem?_set_self
abbrev vM:=@PySem.wpAny_execs_nil
abbrev vN:=@Nat.not_lt_zero
abbrev vO:=@List.range_succ
abbrev vP:=@List.of_mem_zip
abbrev vQ:=@PySem.F.slot_zip_next
abbrev vR:=@PySem.F.slot_int_rmul
abbrev vS:=@List.getElem?_toArray
abbrev vT:=@Nat.mul_le_mul
abbrev vU:=@Bool.false_and
abbrev vV:=@PySem.wpAny_loadName_local
abbrev vW:=@PySem.codeAny_call_builtin
abbrev vX:=@List.findIdx_getElem
abbrev vY:=@List.getD_cons_zero
abbrev vZ:=@List.getD_cons_succ
abbrev wA:=@PySem.wpAny_Name
abbrev wC:=@PySem.typeIs_int
abbrev wD:=@PySem.F.args_tuple_mul_2
abbrev wF:=@PySem.Code.quiet_builtin
abbrev wG:=@PySem.Calls.Constant_str
abbrev wH:=@PySem.wpAny_typeOf
abbrev wI:=@decide_false
abbrev wJ:=@PySem.concat_meets
abbrev wK:=@Nat.lt_trans
abbrev wL:=@List.any_map
abbrev wM:=@PySem.wpAny_pyIter_enum
abbrev wN:=@List.nodup_append
abbrev wQ:=@PySem.F.entry_tuple_mul
local macro_rules|`(tactic|simp?[$t,*] $[$l:location]?)=>`(tactic|simp only[$t,*] $[$l]?)
local macro_rules(kind:=«term{_}»)|s=>let a:Array (Lean.TSyntax `term):=s[1].getSepArgs.map (⟨·⟩);`(⟨$a,*⟩)
local macro_rules|`(tactic|let $p:term:=$e)=>do
 let rec f(n:Nat)(t:Lean.Syntax):Lean.MacroM (Lean.TSyntax `rcasesPat):=match n with
 |0=>Lean.Macro.throwUnsupported
 |n+1=>do
  let g(b:Array Lean.Syntax):Lean.MacroM (Lean.TSyntax `rcasesPat):=do
   let c<-b.mapM fun x=>do `(Lean.Parser.Tactic.rcasesPatLo|$(<-f n x):rcasesPat)
   `(rcasesPat|⟨$c,*⟩)
  match t with
  |`(⟨$b,*⟩)=>g b.getElems
  |`(($b,$c,*))=>g (#[b.raw]++c.getElems.map (·.raw))
  |`($x:ident)=>`(rcasesPat|$x:ident)
  |_=>`(rcasesPat|_)
 `(tactic|obtain $(<-f 9 p):rcasesPat:=$e)
local macro_rules|`(def $i:declId $s:optDeclSig $v:declVal)=>`(noncomputable def $i:declId $s:optDeclSig $v:declVal)
local macro_rules|`(abbrev $i:declId $s:optDeclSig $v:declVal)=>`(noncomputable abbrev $i:declId $s:optDeclSig $v:declVal)
namespace L2
open PySem
def fj(s:Ω):Arguments:=match s with
 |.FunctionDef _ a _ _ _ _ _ _ _ _=>a
 |_=>{posonlyargs:=[],args:=[],vararg:=none,kwonlyargs:=[],kw_defaults:=[],kwarg:=none,defaults:=[]}
def aH(s:Ω):Γ Ω:=match s with
 |.FunctionDef _ _ b _ _ _ _ _ _ _=>b
 |_=>[]
def ah(s:Ω):ζ:=match s with
 |.FunctionDef _ _ _ _ _ _ c _ _ _=>c
 |_=>{kind:=.function,names:=[],isGenerator:=false,isCoroutine:=false}
end L2
namespace Hd
open PySem L2 PySem.Spec PyProof.Rows
variable {N:Nat}
def en(P:Params)(x:String)(t:Nat)(v:Θ):DictEntry:={PyData.keyHash P<|Str.ofString x,.str (Str.ofString x) t,v}
def fo(x:Str)(st:Ω)(p:Θ)(c:Ψ):Obj:={.type "function",none,.func<|W.fnOf x x (fj st) (aH st) (ah st) .none .none .none p none (.ref c) .none,#[]}
def co(vs:Γ Θ):Obj:={.type "code",none,.fields vs.toArray,#[]}
def Kx(n:Nat):Θ:=if n=0 then .none else .ref n
def Yq(x:Str)(t l n a b c d e f u:Nat):Obj:=co [.str x t,.str x<|t+1,.str "/claim/cut.py"<|t+2,.int l 0,.int n 0,.int 0 0,.int 0 0,.int 3 0,Kx a,.bool true,.int 181 0,Kx b,Kx c,Kx d,Kx e,Kx f,.int u 0,.int l 0,.str "/claim/cut.py"<|u+1]
def W8(x:Str)(C ns m t u:Nat)(bs up s:Γ Θ):Obj:={.type "type",none,.cls {name:=x,bases:=bs,mro:=.ref C::(up++[.type "ValueError",.type "Exception",.type "BaseException",.type "object"]),ns:=ns,qualname:=x,subclasses:=s},#[↑(.ref m),none,↑(.str x t),↑(.str x u),↑(.builtin "ValueError.__new__"),↑(.bool true)]}
open PySem PySem.W L2
structure Acc where
 a:Nat
 t:Nat
 nm:Θ
 es:Γ DictEntry
 ts:Γ Θ
 os:Γ Obj
def Qm(q:NameKind)(sc:ζ):Γ Str:=sc.names.filterMap λ(x,k)=>if k=q then↑x else none
def UI:Nat->Γ Str->Γ Θ
 |_,[]=>[]
 |t,x::l=>.str x t::UI (t+1) l
def Nr(vs:Γ Θ):Obj:={.type "tuple",none,.seq vs.toArray,#[]}
def VZ:Obj:={.none,none,.fields #[],#[]}
def V7(x:Str)(st:Ω):Obj:={.none,none,.func {name:=x,qualname:=x,params:=fj st,body:=.stmts<|aH st,scope:=ah st,globals:=0,closure:=[],defaults:=.none,kwdefaults:=.none},#[]}
def stA(P:Params)(k:Nat)(st:Ω):Acc->Acc
 |⟨a,t,N,e,T,o⟩=>match st with
  |.FunctionDef x s _ _ _ _ S _ _ p =>
   if k=0 then⟨a+5,t+6,N,{PyData.keyHash P x,.str x<|t+5,.ref<|a+4}::e,.ref (a+3)::.int 0 0::.int p.line 0::T,
    fo x st N (a+3)::Yq x t p.line s.args.length a (a+1) 0 0 0 (a+2) (t+3)::V7 x st::VZ::Nr []::o⟩
   else
    let m:=(Qm .local S).length;let n:=m+(Qm .cell S).length
    ⟨a+7,t+6+n,N,{PyData.keyHash P x,.str x<|t+5+n,.ref<|a+6}::e,.ref (a+5)::.int 0 0::.int p.line 0::T,
    fo x st N (a+5)::Yq x t p.line s.args.length a (a+1) 0 (a+2) (a+3) (a+4) (t+3+n)::V7 x st::Nr (UI (t+3+m)<|Qm .cell S)::Nr (UI (t+3)<|Qm .local S)::VZ::Nr []::o⟩
  |.Assign [.Name x _] (.Constant c _ _) _ =>
   let v:=match c with|.int i=>Value.int i t|.str y=>.str y t|_=>.none
   if k=2 then {a,t+2,v,e,T,o}else {a,t+2,N,{PyData.keyHash P x,.str x<|t+1,v}::e,T,o}
  |_=>⟨a,t,N,e,T,o⟩
def XZ(P:Params):Γ Nat->Γ Ω->Acc->Acc
 |k::s,st::r,A=>XZ P s r (stA P k st A)
 |_,_,A=>A
def Zz:ι->Acc->ι
 |⟨⟨o0::o1::o2::⟨c3,D,.dict ⟨e::E⟩ n,S⟩::r⟩,l⟩,A=>⟨⟨o0::o1::o2::{c3,D,.dict {{e with val:=A.nm}::(E++A.es.reverse)}<|n+A.es.length,S} ::
   (r.modify 8 (fun|⟨c,d,.fields ⟨v⟩,s⟩=>{c,d,.fields {v++A.ts.reverse},s}|o=>o)++A.os.reverse)⟩,l⟩
 |h,_=>h
def fK(s:Ξ)(A:Acc):Ξ:={s with heap:=Zz s.heap A,toks:=A.t}
section
variable (p:ε)(w:δ)
abbrev C0:=behindTheImports p
abbrev MJ:PySem.Env:={scope:=p.main.scope,locals:=3,globals:=3,cells:=[],code:=.ref 13,frame:=↑14}
abbrev CS:Code:=.body (C0 p)<|MJ p
def IF(i:Nat):Pos:=if i=0 then default else((C0 p).getD (i-1) (.Pass default)).pos
abbrev NH:Γ Frame:=[topFrame default]
def S0:Ξ:=(fencedOpening treeTable p w 6000).getD {}
def Sb:Ξ:=((topGo treeTable p w 11 (↑(.ref 6)) 12 (S0 p w)<|topStub p).map (·.1)).getD {}
abbrev Vh(n i j:Nat)(s:Ξ):=segRun treeTable p w 11 (↑(.ref 6)) 1 n s<|piecesOf (((C0 p).drop i).take<|j-i) (MJ p) (CS p) (IF p i) NH
end
def OY{p q:ε}{l:Γ Str}{X:Ξ->θ}{α:Type}{f:Ξ->α}{Y:δ->α}{g0:θ}{s:δ->Ξ}{M:Nat}
  (o:∀w,fencedOpening treeTable p w 6000=↑(S0 p w))(S:∀w,((S0 p w).heap.isNs mainGlobals&&(S0 p w).gens.size==0,(S0 p w).heap.objs.size,(S0 p w).heap.nsMap mainGlobals "__annotations__")=(true,11,↑(.ref 6)))
  (R:∀w,topRun treeTable p w 11 (↑(.ref 6)) M (S0 p w) (topStub p)=↑(s w))(m:M<=6000)
  (H:∀w,(staticsOk (importedModules p.main.body) (S0 p w).heap (s w).heap&&namesBound p (s w).heap&&gensDone (s w)&&laidKept (S0 p w).heap (s w).heap)=true)
  (hk:∀w,openSeen q l (importedModules p.main.body) X g0 (s w)=openGood q l)(y:∀w,f (s w)=Y w):LeftO p q l X f Y 6000 g0:=λw=>by
 have r:=topRun_mono (6000-M) _ _ _ _ (R w);rw[show M+(6000-M)=6000 by lia]at r;have e:=S w;simp?[Prod.mk.injEq]at e;have t:openEnds treeTable p w 6000=↑(s w):=by
  unfold openEnds;rw[o w,zA];unfold topFrom;rw[e.1,e.2.1,e.2.2];dsimp only;rw[r,zA,H w]
 rw[t,zB,hk w,y w]
def T2{p:ε}{w:δ}{r:Ξ}(a:topGo treeTable p w 11 (↑(.ref 6)) 12 (S0 p w) (topStub p)=↑(Sb p w,{denote treeTable<|.body (C0 p)<|MJ p,CS p,default,NH}))
  (b:segRun treeTable p w 11 (↑(.ref 6)) 1 1 (Sb p w) (blockOf (C0 p) (MJ p) (CS p) default NH)=↑(.next,Sb p w,CS p,IF p 0))
  (k:topRun treeTable p w 11 (↑(.ref 6)) N (Sb p w) (restOf (C0 p) (MJ p) (CS p) (IF p 0) NH)=↑r):topRun treeTable p w 11 (↑(.ref 6)) (12+(1+N)) (S0 p w) (topStub p)=↑r:=go_top a<|piece_block b k
def Yl{p:ε}{w:δ}{n N i j:Nat}{s s' r:Ξ}(h:Vh p w n i j s=↑(.next,s',CS p,IF p j))(H:i<=j)(k:topRun treeTable p w 11 (↑(.ref 6)) N s' (restOf ((C0 p).drop j) (MJ p) (CS p) (IF p j) NH)=↑r) :
  topRun treeTable p w 11 (↑(.ref 6)) (n+N) s (restOf ((C0 p).drop i) (MJ p) (CS p) (IF p i) NH)=↑r:=by
 have e:(C0 p).drop i=((C0 p).drop i).take (j-i)++(C0 p).drop j:=by
  have:=List.take_append_drop (j-i) ((C0 p).drop i);simp_all
 rw[e];exact piece_app h k
def N3:Ω->Γ Ω
 |.ClassDef _ _ _ b ..=>b
 |_=>[]
def clo(x:Str)(C ns t u:Nat):Obj:={.type "type",none,.cls {name:=x,bases:=[.type "object"],mro:=[.ref C,.type "object"],ns:=ns,qualname:=x,subclasses:=[]},#[none,none,↑(.str x t),↑(.str x u),↑(.builtin "object.__new__"),↑(.bool true)]}
def Yn(x q:Str)(st:Ω)(p:Θ)(c:Ψ):Obj:={.type "function",none,.func<|W.fnOf x q (fj st) (aH st) (ah st) .none .none .none p none (.ref c) .none,#[]}
def cdm(x q:Str)(t l n a b d e f u:Nat):Obj:=co [.str x t,.str q<|t+1,.str "/claim/cut.py"<|t+2,.int l 0,.int n 0,.int 0 0,.int 0 0,.int 3 0,Kx a,.bool true,.int 181 0,Kx b,.none,Kx d,Kx e,Kx f,.int u 0,.int l 0,.str "/claim/cut.py"<|u+1]
def d5(x:Str)(st:Ω)(p:Θ)(t l n a:Nat):Γ (Ψ×Obj):=[(a+3,Yq x t l n a (a+1) 0 0 0 (a+2)<|t+3),(a+4,fo x st p<|a+3)]
def d7(x:Str)(st:Ω)(p:Θ)(t l n a u:Nat):Γ (Ψ×Obj):=[(a+5,Yq x t l n a (a+1) 0 (a+2) (a+3) (a+4) u),(a+6,fo x st p<|a+5)]
def m7(x q:Str)(st:Ω)(p:Θ)(t l n a u:Nat):Γ (Ψ×Obj):=[(a+5,cdm x q t l n a (a+1) (a+2) (a+3) (a+4) u),(a+6,Yn x q st p<|a+5)]
section
variable (p:ε)(w:δ)
def Sd(n i j:Nat)(s:Ξ):Ξ:=((Vh p w n i j s).map (·.2.1)).getD {}
def SB(s:Ξ)(j:Nat)(A:Acc)(k:Γ Nat)(m:Nat):Ξ:=fK s<|XZ w.params (k.take m) ((C0 p).drop j) A
end
end Hd
namespace K72
open PySem L2 PySem.Spec PyProof.Rows Hd PySem.W
abbrev top(i:Nat):Ω:=PySem.Challenge.pw_stillflow_k72_floors.main.body.getD i<|.Pass {0,0,0,0}
def vw:ε:=W.view PySem.Challenge.pw_stillflow_k72_floors [0,2,3,4,5,6,8,9,10,11,12,13,14,15,16,17,18,19,20,21,22,23,24,25,26,28,29,30,31,32,34,35,36,37,39,41,42,43,44,45,46,47,48,49,50,51,52,53,54,55,56,57,58]
abbrev bF:Ψ:=329
abbrev bG(i:Nat):Ω:=(N3<|top 39).getD i<|.Pass {0,0,0,0}
def wa:Θ:=(.str "stillflow.floors" 490)
abbrev clF:Ψ:=31
abbrev clC:Γ (Str×Ψ):=[("NoWorld",44),("NoPlan",56),("NoPlace",68),("Nothing",80)]
def pm1:Θ:=(.str "__main__" 164)
def mL:Θ:=(.str "stillflow.worlds" 278)
def ML:Θ:=(.str "stillflow.flows" 410)
def Q6:Θ:=(.str "stillflow.walks" 448)
def lA:Θ:=(.str "law_stillflow_k72_floors" 603)
def Kf(P:Params):Φ:=[(3,{.type "dict",none,.dict #[en P "__name__" 165<|.str "law_stillflow_k72_floors" 603,en P "__doc__" 166 .none,en P "__package__" 167 .none,en P "__loader__" 168<|.builtin "__main__.__loader__#opaque",en P "__spec__" 169 .none,en P "__annotations__" 170<|.ref 6,en P "__builtins__" 171<|.ref 4,en P "__file__" 173<|.str "/claim/cut.py" 172,en P "__cached__" 174 .none,en P "_wall" 193<|.ref 21,en P "FlowError" 213<|.ref 31,en P "NoWorld" 229<|.ref 44,en P "NoPlan" 245<|.ref 56,en P "NoPlace" 261<|.ref 68,en P "Nothing" 277<|.ref 80,en P "MOST_PLACES" 281<|.int 4 280,en P "MOST" 283<|.int 9 282,en P "is_whole" 292<|.ref 89,en P "is_number" 300<|.ref 96,en P "is_long" 309<|.ref 103,en P "are_likes" 315<|.ref 108,en P "is_end" 323<|.ref 115,en P "is_way" 332<|.ref 122,en P "are_parts" 338<|.ref 127,en P "liked_pairs" 344<|.ref 132,en P "is_world" 350<|.ref 137,en P "through" 356<|.ref 142,en P "keeps_amounts" 362<|.ref 147,en P "is_plan" 368<|.ref 152,en P "check_world" 375<|.ref 159,en P "check_plan" 383<|.ref 166,en P "check_whole" 392<|.ref 173,en P "check_number" 400<|.ref 180,en P "replaced" 409<|.ref 187,en P "ways_of" 417<|.ref 192,en P "wants_more" 423<|.ref 197,en P "why_kept" 432<|.ref 204,en P "first_leaving" 441<|.ref 211,en P "leaving" 447<|.ref 216,en P "least_liked_used" 455<|.ref 221,en P "pushed_on" 468<|.ref 228,en P "pushed" 477<|.ref 235,en P "walk" 489<|.ref 242,en P "Floor" 602<|.ref 329,en P "_law_cell" 612<|.ref 340,en P "_law_drawn" 622<|.ref 347,en P "_law_orders" 637<|.ref 354,en P "_law_world" 643<|.ref 359,en P "_law_used" 649<|.ref 364,en P "_law_fits" 660<|.ref 371,en P "_law_plan" 674<|.ref 378,en P "_law_wants" 688<|.ref 385,en P "_law_why" 700<|.ref 392,en P "_law_gone" 706<|.ref 397,en P "_law_less" 719<|.ref 404,en P "_law_push" 732<|.ref 411,en P "_law_walked" 742<|.ref 418,en P "_law_refused" 750<|.ref 425,en P "_law_told" 760<|.ref 432,en P "_law_new" 769<|.ref 439,en P "_law_next" 781<|.ref 446,en P "law" 787<|.ref 451] 62,#[]})] ++
 (d7 "_wall" (top 0) pm1 187 1 1 15 191 ++
 ([(30,{.type "dict",none,.dict #[en P "__module__" 203<|.str "stillflow.errors" 194,en P "__firstlineno__" 207<|.int 5 206,en P "__static_attributes__" 208<|.ref 29,en P "__weakref__" 210<|.ref 32,en P "__doc__" 211 .none] 3,#[]})] ++
 ([(31,W8 "FlowError" 31 30 22 196 204 [(.type "ValueError")] [] [(.ref 44),(.ref 56),(.ref 68),(.ref 80)])] ++
 ([(43,{.type "dict",none,.dict #[en P "__module__" 221<|.str "stillflow.errors" 194,en P "__firstlineno__" 225<|.int 7 224,en P "__static_attributes__" 226<|.ref 42,en P "__doc__" 227 .none] 2,#[]})] ++
 ([(44,W8 "NoWorld" 44 43 35 214 222 [(.ref 31)] [(.ref 31)] [])] ++
 ([(55,{.type "dict",none,.dict #[en P "__module__" 237<|.str "stillflow.errors" 194,en P "__firstlineno__" 241<|.int 9 240,en P "__static_attributes__" 242<|.ref 54,en P "__doc__" 243 .none] 2,#[]})] ++
 ([(56,W8 "NoPlan" 56 55 47 230 238 [(.ref 31)] [(.ref 31)] [])] ++
 ([(67,{.type "dict",none,.dict #[en P "__module__" 253<|.str "stillflow.errors" 194,en P "__firstlineno__" 257<|.int 11 256,en P "__static_attributes__" 258<|.ref 66,en P "__doc__" 259 .none] 2,#[]})] ++
 ([(68,W8 "NoPlace" 68 67 59 246 254 [(.ref 31)] [(.ref 31)] [])] ++
 ([(79,{.type "dict",none,.dict #[en P "__module__" 269<|.str "stillflow.errors" 194,en P "__firstlineno__" 273<|.int 13 272,en P "__static_attributes__" 274<|.ref 78,en P "__doc__" 275 .none] 2,#[]})] ++
 ([(80,W8 "Nothing" 80 79 71 262 270 [(.ref 31)] [(.ref 31)] [])] ++
 (d7 "is_whole" (top 10) mL 284 18 3 83 290 ++
 (d7 "is_number" (top 11) mL 293 22 2 90 298 ++
 (d7 "is_long" (top 12) mL 301 24 3 97 307 ++
 (d5 "are_likes" (top 13) mL 310 26 2 104 ++
 (d7 "is_end" (top 14) mL 316 32 2 109 321 ++
 (d7 "is_way" (top 15) mL 324 34 3 116 330 ++
 (d5 "are_parts" (top 16) mL 333 38 3 123 ++
 (d5 "liked_pairs" (top 17) mL 339 46 1 128 ++
 (d5 "is_world" (top 18) mL 345 51 1 133 ++
 (d5 "through" (top 19) mL 351 58 4 138 ++
 (d5 "keeps_amounts" (top 20) mL 357 60 3 143 ++
 (d5 "is_plan" (top 21) mL 363 62 2 148 ++
 (d7 "check_world" (top 22) mL 369 69 1 153 373 ++
 (d7 "check_plan" (top 23) mL 376 72 2 160 381 ++
 (d7 "check_whole" (top 24) mL 384 76 3 167 390 ++
 (d7 "check_number" (top 25) mL 393 79 2 174 398 ++
 (d7 "replaced" (top 26) mL 401 81 3 181 407 ++
 (d5 "ways_of" (top 28) ML 412 84 3 188 ++
 (d5 "wants_more" (top 29) ML 418 89 4 193 ++
 (d7 "why_kept" (top 30) ML 424 96 3 198 430 ++
 (d7 "first_leaving" (top 31) ML 433 104 2 205 439 ++
 (d5 "leaving" (top 32) ML 442 109 2 212 ++
 (d5 "least_liked_used" (top 34) Q6 450 113 4 217 ++
 (d7 "pushed_on" (top 35) Q6 456 115 3 222 466 ++
 (d7 "pushed" (top 36) Q6 469 123 3 229 475 ++
 (d7 "walk" (top 37) Q6 478 129 2 236 487 ++
 (m7 "__init__" "Floor.__init__" (bG 0) wa 504 145 3 250 510 ++
 (m7 "step_to" "Floor.step_to" (bG 1) wa 513 152 3 257 519 ++
 (m7 "push" "Floor.push" (bG 2) wa 522 157 2 264 527 ++
 (m7 "lay" "Floor.lay" (bG 3) wa 530 161 2 271 535 ++
 (m7 "settle" "Floor.settle" (bG 4) wa 538 166 1 278 543 ++
 (m7 "plan" "Floor.plan" (bG 5) wa 546 171 1 285 550 ++
 (m7 "move" "Floor.move" (bG 6) wa 553 174 3 292 560 ++
 (m7 "back" "Floor.back" (bG 7) wa 563 182 1 299 567 ++
 (m7 "forth" "Floor.forth" (bG 8) wa 570 185 1 306 574 ++
 (m7 "counts" "Floor.counts" (bG 9) wa 577 188 1 313 581 ++
 (m7 "twin" "Floor.twin" (bG 10) wa 584 191 1 320 588 ++
 ([(328,{.type "dict",none,.dict #[en P "__module__" 499<|.str "stillflow.floors" 490,en P "__firstlineno__" 503<|.int 143 502,en P "__init__" 512<|.ref 256,en P "step_to" 521<|.ref 263,en P "push" 529<|.ref 270,en P "lay" 537<|.ref 277,en P "settle" 545<|.ref 284,en P "plan" 552<|.ref 291,en P "move" 562<|.ref 298,en P "back" 569<|.ref 305,en P "forth" 576<|.ref 312,en P "counts" 583<|.ref 319,en P "twin" 590<|.ref 326,en P "__static_attributes__" 595<|.ref 327,en P "__dict__" 597<|.ref 330,en P "__weakref__" 599<|.ref 331,en P "__doc__" 600 .none] 4,#[]})] ++
 ([(329,clo "Floor" 329 328 492 500)] ++
 (d7 "_law_cell" (top 41) lA 605 194 2 334 610 ++
 (d7 "_law_drawn" (top 42) lA 613 198 3 341 620 ++
 (d7 "_law_orders" (top 43) lA 623 202 3 348 635 ++
 (d5 "_law_world" (top 44) lA 638 210 3 355 ++
 (d5 "_law_used" (top 45) lA 644 226 4 360 ++
 (d7 "_law_fits" (top 46) lA 650 228 2 365 658 ++
 (d7 "_law_plan" (top 47) lA 661 234 3 372 672 ++
 (d7 "_law_wants" (top 48) lA 675 241 5 379 686 ++
 (d7 "_law_why" (top 49) lA 689 249 3 386 698 ++
 (d5 "_law_gone" (top 50) lA 701 256 2 393 ++
 (d7 "_law_less" (top 51) lA 707 258 4 398 717 ++
 (d7 "_law_push" (top 52) lA 720 266 3 405 730 ++
 (d7 "_law_walked" (top 53) lA 733 270 2 412 740 ++
 (d7 "_law_refused" (top 54) lA 743 278 1 419 748 ++
 (d7 "_law_told" (top 55) lA 751 284 3 426 758 ++
 (d7 "_law_new" (top 56) lA 761 293 2 433 767 ++
 (d7 "_law_next" (top 57) lA 770 298 4 440 779 ++
 (d5 "law" (top 58) lA 782 310 1 447))))))))))))))))))))))))))))))))))))))))))))))))))))))))))))))))))))
def hk:W.Hook:=W.kmHook Kf [3,20,21,30,31,43,44,55,56,67,68,79,80,88,89,95,96,102,103,107,108,114,115,121,122,126,127,131,132,136,137,141,142,146,147,151,152,158,159,165,166,172,173,179,180,186,187,191,192,196,197,203,204,210,211,215,216,220,221,227,228,234,235,241,242,255,256,262,263,269,270,276,277,283,284,290,291,297,298,304,305,311,312,318,319,325,326,328,329,339,340,346,347,353,354,358,359,363,364,370,371,377,378,384,385,391,392,396,397,403,404,410,411,417,418,424,425,431,432,438,439,445,446,450,451] (λ_=>rfl) [189]
abbrev pp:=PySem.Challenge.pw_stillflow_k72_floors
abbrev ZJ(w:δ):Ξ:=Sd pp w 1077 0 7<|Sb pp w
abbrev A0:Acc:={83,278,.str "stillflow.errors" 194,[],[],[]}
abbrev ks0:Γ Nat:=[2,3,3,1,1,1,0,1,1,0,0,0,0,0,0,1,1,1,1,1,2,0,0,1,1,0,2,0,1,1,1]
abbrev Wo(w:δ)(m:Nat):Ξ:=SB pp w (ZJ w) 7 A0 ks0 m
abbrev YX(w:δ):Ξ:=Sd pp w 554 38 40<|Wo w 31
abbrev A2:Acc:={334,603,.str "stillflow.floors" 490,[],[],[]}
abbrev ks2:Γ Nat:=[2,1,1,1,0,0,1,1,1,1,0,1,1,1,1,1,1,1,0]
abbrev Yh(w:δ)(m:Nat):Ξ:=SB pp w (YX w) 40 A2 ks2 m
def o0(w:δ):fencedOpening treeTable pp w 6000=↑(S0 pp w):=by kernel_rfl
def o1(w:δ):((S0 pp w).heap.isNs mainGlobals&&(S0 pp w).gens.size==0,(S0 pp w).heap.objs.size,(S0 pp w).heap.nsMap mainGlobals "__annotations__")=(true,11,↑(.ref 6)):=by kernel_rfl
def o2(w:δ):topGo treeTable pp w 11 (↑(.ref 6)) 12 (S0 pp w) (topStub pp)=↑(Sb pp w,{denote treeTable<|.body (C0 pp)<|MJ pp,CS pp,default,NH}):=by kernel_rfl
def o3(w:δ):segRun treeTable pp w 11 (↑(.ref 6)) 1 1 (Sb pp w) (blockOf (C0 pp) (MJ pp) (CS pp) default NH)=↑(.next,Sb pp w,CS pp,IF pp 0):=by kernel_rfl
def q0(w:δ):Vh pp w 1077 0 7 (Sb pp w)=↑(.next,ZJ w,CS pp,IF pp 7):=by kernel_rfl
def p0(w:δ):ZJ w=Wo w 0:=by kernel_rfl
def r0(w:δ):Vh pp w 798 7 38 (Wo w 0)=↑(.next,Wo w 31,CS pp,IF pp 38):=by kernel_rfl
def q2(w:δ):Vh pp w 554 38 40 (Wo w 31)=↑(.next,YX w,CS pp,IF pp 40):=by kernel_rfl
def p2(w:δ):YX w=Yh w 0:=by kernel_rfl
def r1(w:δ):Vh pp w 581 40 59 (Yh w 0)=↑(.next,Yh w 19,CS pp,IF pp 59):=by kernel_rfl
abbrev fs(w:δ):Ξ:=Yh w 19
def qe(w:δ):topRun treeTable pp w 11 (↑(.ref 6)) 3 (fs w) (restOf ((C0 pp).drop 59) (MJ pp) (CS pp) (IF pp 59) NH)=↑(fs w):=by kernel_rfl
def rl(w:δ):topRun treeTable pp w 11 (↑(.ref 6)) (12+(1+(1077+(798+(554+(581+3)))))) (S0 pp w) (topStub pp)=↑(fs w):=T2 (o2 w) (o3 w)<|Yl (i:=0) (q0 w) (by decide) (by rw[p0 w];exact(Yl (r0 w) (by decide)<|Yl (q2 w) (by decide) (by rw[p2 w];exact(Yl (r1 w) (by decide)<|qe w))))
abbrev sn(w:δ):=openSeen vw [] (importedModules pp.main.body) (λs=>xlAt vw [] s&&recOk [] s) true<|fs w
abbrev gd:=openGood vw []
def l0(w:δ):(staticsOk (importedModules pp.main.body) (S0 pp w).heap (fs w).heap&&namesBound pp (fs w).heap&&gensDone (fs w)&&laidKept (S0 pp w).heap (fs w).heap)=true:=by kernel_rfl
def lf0(w:δ):(sn w).1=gd.1:=by kernel_rfl
def lf1(w:δ):(sn w).2.1=gd.2.1:=by kernel_rfl
def lf2(w:δ):(sn w).2.2.1=gd.2.2.1:=by kernel_rfl
def lf3(w:δ):(sn w).2.2.2.1=gd.2.2.2.1:=by kernel_rfl
def lf4(w:δ):(sn w).2.2.2.2.1=gd.2.2.2.2.1:=by kernel_rfl
def lf5(w:δ):(sn w).2.2.2.2.2.1=gd.2.2.2.2.2.1:=by kernel_rfl
def lf6(w:δ):(sn w).2.2.2.2.2.2=gd.2.2.2.2.2.2:=by kernel_rfl
def lf7(w:δ):hk.obs (fs w)=hk.val w:=by kernel_rfl
def left:LeftO pp vw [] (λs=>xlAt vw [] s&&recOk [] s) hk.obs hk.val 6000:=OY o0 o1 rl (by decide) l0 (λw=>Prod.ext (lf0 w)<|Prod.ext (lf1 w)<|Prod.ext (lf2 w)<|Prod.ext (lf3 w)<|Prod.ext (lf4 w)<|Prod.ext (lf5 w)<|lf6 w) lf7
def YO:PySem.Challenge.rw_stillflow_k72_floors.wellSaid=true:=by kernel_rfl
end K72
namespace L2
open PySem PySem.Spec PyProof.Rows
abbrev AR:=Sum Int Str
def FS:AR->Θ->θ
 |.inl k,v=>Value.isInt k v
 |.inr x,v=>Value.isStrOf x v
def ZK(w:δ):AR->Int
 |.inl k=>hashInt k
 |.inr x=>hashStr w x
def cB:∀{k:AR}{v:Θ},FS k v=true->(∃i t,k=Sum.inl i/\v=Value.int i t)\/(∃x t,k=Sum.inr x/\v=Value.str x t)
 |.inl i,v,h=>by
  let(t,e):=Value.isInt_shape h;exact .inl {i,t,rfl,e}
 |.inr x,v,h=>by
  let(t,e):=Value.isStrOf_shape h;exact .inr {x,t,rfl,e}
def GE(i:Int)(t:Tok):FS (.inl i) (.int i t)=true:=by simp[FS,Value.isInt]
def UJ(a b:Int):decide ((Sum.inl a:AR)=Sum.inl b)=(a==b):=by
 grind
def UP(a b:Str):decide ((Sum.inr a:AR)=Sum.inr b)=decide (a=b):=by
 simp
def Ss(a:Int)(b:Str):decide (Sum.inl a=Sum.inr b)=false:=zZ<|nofun
def SD(a:Str)(b:Int):decide (Sum.inr a=Sum.inl b)=false:=zZ<|nofun
def o4(prog:ε)(w:δ):PySem.KeyKind prog w AR where
 is:=FS
 hash:=ZK w
 inj:=λv a b A B=>by
  rcases cB A with ⟨i,t,rfl,rfl⟩|⟨x,t,rfl,rfl⟩
  .rcases cB B with ⟨j,u,rfl,e⟩|⟨y,u,rfl,e⟩
   .injection e with E _;rw[E]
   .exact nomatch e
  .rcases cB B with ⟨j,u,rfl,e⟩|⟨y,u,rfl,e⟩
   .exact nomatch e
   .injection e with E _;rw[E]
 byValue:=λk v h=>by
  rcases cB h with ⟨i,t,rfl,rfl⟩|⟨x,t,rfl,rfl⟩<;>rfl
 pyHash:=λH h=>by
  rcases cB H with ⟨i,t,rfl,rfl⟩|⟨x,t,rfl,rfl⟩
  .exact wpAny_pyHash_int h
  .exact wpAny_pyHash_str h
 eqBool:=λU H h=>by
  rcases cB U with ⟨i,t,rfl,rfl⟩|⟨x,t,rfl,rfl⟩
  .rcases cB H with ⟨j,u,rfl,rfl⟩|⟨y,u,rfl,rfl⟩
   .rw[UJ]at h;exact wpAny_eqBool_int h
   .rw[Ss]at h;exact SeqAt.EqAt.int_str i t y u _ _ _ _ h
  .rcases cB H with ⟨j,u,rfl,rfl⟩|⟨y,u,rfl,rfl⟩
   .rw[SD]at h;exact SeqAt.EqAt.str_int x t j u _ _ _ _ h
   .rw[UP]at h;exact wpAny_eqBool_str h
 «strs»:=λk x t v h=>by
  rcases cB h with ⟨i,u,rfl,e⟩|⟨y,u,rfl,e⟩
  .exact nomatch e
  .injection e with E _
   subst E;cases v<;>rfl
def AX(prog:ε)(w:δ)(i:Int)(t:Tok):(o4 prog w).is (.inl i) (.int i t)=true:=GE i t
set_option genInjectivity true in
inductive V where
 |non|bl (b:θ)|int (i:Int)|str (x:Str)|byt (b:Array UInt8)|flt (b:UInt64)|ref (a:Ψ)|ty (n:String)
 deriving DecidableEq
def RelV:V->Θ->Prop
 |.non,u=>u=Value.none
 |.bl b,u=>u=Value.bool b
 |.int i,u=>∃t,u=Value.int i t
 |.str x,u=>∃t,u=Value.str x t
 |.byt b,u=>∃t,u=Value.bytes b t
 |.flt b,u=>∃t,u=Value.float b t
 |.ref a,u=>u=Value.ref a
 |.ty n,u=>u=Value.type n
abbrev aO:Γ V->Γ Θ->Prop:=Paired RelV
def aO.length(r:aO xs us):xs.length=us.length:=Paired.length r
def aO.get:∀{xs:Γ V}{us:Γ Θ}{i:Nat}{x:V},aO xs us->xs[i]?=↑x->∃u,us[i]?=↑u/\RelV x u
 |_,_,_,_,.nil,e=>by simp at e
 |_,_,0,_,.cons r _,e=>by simp at e;subst e;exact{_,rfl,r}
 |_,_,i+1,x,.cons _ t,e=>by
  let(u,H,a):=aO.get (i:=i) (x:=x) t (by simpa using e);exact{u,by simpa using H,a}
def aO.append:∀{xs ys:Γ V}{us w:Γ Θ},aO xs us->aO ys w->aO (xs++ys) (us++w)
 |_,_,_,_,.nil,s=>s
 |_,_,_,_,.cons r t,s=>.cons r<|aO.append t s
def aO.take:∀{xs:Γ V}{us:Γ Θ}n,aO xs us->aO (xs.take n) (us.take n)
 |_,_,0,_=>.nil
 |_,_,_+1,.nil=>.nil
 |_,_,n+1,.cons r t=>.cons r<|aO.take n t
def aO.drop:∀{xs:Γ V}{us:Γ Θ}n,aO xs us->aO (xs.drop n) (us.drop n)
 |_,_,0,r=>r
 |_,_,_+1,.nil=>.nil
 |_,_,n+1,.cons _ t=>aO.drop n t
def AK:Δ V->Δ Θ->Prop
 |some v,↑u=>RelV v u
 |none,none=>True
 |_,_=>False
def KV:Γ (I×V)->Γ (I×Θ)->Prop:=Paired λ(p:I×V)(q:I×Θ)=>p.1=q.1/\RelV p.2 q.2
def kV:AR->V
 |.inl i=>.int i
 |.inr x=>.str x
set_option genInjectivity true in
inductive HO where
  |lst (xs:Γ V)
  |tup (xs:Γ V)
  |dK (kvs:Γ (AR×V))|dT (xs:Γ (Γ AR×Ψ×Θ))
  |set (S:Int->θ) (n:Nat)
  |ins (C dx:Ψ) (fs:Γ (Str×V))
  |own (x:Ψ)
  |xd (fs:Γ (Str×V))
  |met (f x:Ψ)
  |rng (lo hi:Int)
  |frz (o:Obj) (u:HO)
  |tab (q:Str)
 |cod (q:Str)
  |ext (φ:ι->Prop)
abbrev Hp:=Ψ->Δ HO
def upd(H:Hp)(a:Ψ)(o:HO):Hp:=λb=>if b=a then↑o else H b
def av:upd H a o a=↑o:=by unfold upd;simp
def ar(h:b≠a):upd H a o b=H b:=by unfold upd;rw[yM h]
def aS{H:Hp}{a b:Ψ}{o:HO}(h:H a=↑o)(h':H b=none):a≠b:=by
 grind
def Gx(h:ι)(a:Ψ)(i:Array Θ):Prop:=IsTup h a i/\∃o,h.get? a=↑o/\o.dict=none
def Gx.new(h:ι)(i:Array Θ):Gx (h.push {cls:=.type "tuple",data:=.seq i}) h.objs.size i:={.new _ _,_,zX _ rfl,rfl}
section
variable (P:ε)(w:δ)
def gh(H:Hp)(h:ι)(a:Ψ):HO->Prop
 |.lst s=>s.length<=sizeLine/\∃ (i:Γ Θ) (n:Nat),aO s i/\h.get? a=some {cls:=.type "list",data:=.seq i.toArray n}
 |.tup s=>s.length<=sizeLine/\∃i:Γ Θ,aO s i/\Gx h a i.toArray
 |.dK k=>k.length<=sizeLine/\(a==sysModules)=false/\∃V,KV k V/\h.DictOf (o4 P w) a V
 |.dT s=>s.length<=sizeLine/\(a==sysModules)=false /\
   ∃o E l,h.get? a=↑o/\o.ExactDict/\o.data=.dict E l/\E.toList=s.map (entryOfKey<|tupleKind<|o4 P w)/\(s.map (·.1)).Nodup
 |.set S n=>h.SetOf (intKind P w) a S n
 |.ins C d fs=>H d=↑(.own a)/\fs.length<=1000/\d≠a/\h.get? a=↑(W.instObj C d) /\
   ∃m,h.Ns1 d m/\(∀f,AK (fs.lookup f)<|m f)/\PySem.Within m (fs.map (·.1))
 |.own _=>∃o,h.get? a=↑o
 |.xd fs=>∃m,h.Ns1 a m/\∀f,AK (fs.lookup f) (m f)
 |.rng L I=>∃t u v,h.get? a=some {cls:=.type "range",data:=.fields #[.int L t,.int I u,.int 1 v]}
 |.frz o u=>h.get? a=↑o/\gh H h a u
 |.tab q=>∃b:Array Θ,h.get? a=some {cls:=.none,data:=.fields b}/\TriplesOk b.toList/\∀p v,codeAmong p b.toList=↑v->∃c,v=.ref c/\H c=↑(.cod q)
 |.cod q=>h.CodeRec (.ref a) q
 |.met f x=>h.get? a=↑(W.methodObj (.ref f)<|.ref x)
 |.ext e=>e h/\(∃o,h.get? a=↑o)/\∀g j:ι,e g->(∀o,g.get? a=↑o->j.get? a=↑o)->e j
def o5(H:Hp)(h:ι):Prop:=∀a o,H a=↑o->gh P w H h a o
end
def gh.lt(x:gh P w H h a o):a<h.objs.size:=by
 cases o with
 |lst s=>let(_,_,_,_,e):=x;exact zY e
 |tup s=>let(_,_,_,p):=x;exact p.1.lt
 |dK k=>let(_,_,_,_,o,_,_,e,_):=x;exact zY e
 |dT k=>let(_,_,o,_,_,e,_):=x;exact zY e
 |set S n=>let(o,_,_,_,e,_):=x;exact zY e
 |ins C d fs=>let(_,_,_,e,_):=x;exact zY e
 |own y=>let(_,e):=x;exact zY e
 |xd fs=>let(_,(_,_,_,e,_),_):=x;exact zY e
 |rng l i=>let(_,_,_,e):=x;exact zY e
 |frz b u=>let(e,_):=x;exact zY e
 |tab q=>let(_,e,_):=x;exact zY e
 |cod q=>let(_,_,_,_,E,e,_):=x;cases E;exact zY e
 |met f y=>exact zY (x)
 |ext c=>let(_,(_,e),_):=x;exact zY e
def Paired.afT:∀{U:Γ α}{V:Γ β},Paired F U V->(∀a b,F a b->G a b)->Paired G U V
 |_,_,.nil,_=>.nil
 |_,_,.cons r t,f=>.cons (f _ _ r)<|Paired.afT t f
def Hrd:HO->Prop
 |.tup _=>True
 |.cod _=>True
 |_=>False
def gh.aaH(x:gh P w H h a o)(k:∀b u,(b=a\/H b=↑(.own a))->h.get? b=↑u->h'.get? b=↑u)
  (B:∀b,H b=↑(.own a)->H' b=↑(.own a))(ht:∀b u,H b=↑u->Hrd u->H' b=↑u):gh P w H' h' a o:=by
 induction o with
 |lst X=>let(z,i,n,r,e):=x;exact{z,i,n,r,k _ _ (.inl rfl) e}
 |tup X=>let(z,i,r,(O,e,c),o2,g,l):=x;exact{z,i,r,{O,k _ _ (.inl rfl) e,c},o2,k _ _ (.inl rfl) g,l}
 |dK K=>let(z,y,V,r,O,s,E,e,c):=x;exact{z,y,V,r,O,s,E,k _ _ (.inl rfl) e,c}
 |dT K =>
  let(z,y,O,s,E,e,c):=x;exact{z,y,O,s,E,k _ _ (.inl rfl) e,c}
 |set S n=>let(O,s,E,t,e,c):=x;exact{O,s,E,t,k _ _ (.inl rfl) e,c}
 |ins C J fs =>
  let(d,z,N,e,m,(D,s,E,g,c),r):=x;exact{B _ d,z,N,k _ _ (.inl rfl) e,m,{D,s,E,k _ _ (.inr d) g,c},r}
 |own y=>let(O,e):=x;exact{O,k _ _ (.inl rfl) e}
 |xd fs=>let(m,(D,s,E,e,c),r):=x;exact{m,{D,s,E,k _ _ (.inl rfl) e,c},r}
 |rng M L=>let(t,u,v,e):=x;exact{t,u,v,k _ _ (.inl rfl) e}
 |frz O u I=>let(e,q):=x;exact{k _ _ (.inl rfl) e,I q}
 |tab q=>let(G,e,t,c):=x;exact{G,k a _ (.inl rfl) e,t,λj v z=>let ⟨c0,z1,z2⟩:=c j v z;{c0,z1,ht _ _ z2 trivial}}
 |cod q=>let(c,F,V,t,A,e,r):=x;cases A;exact{_,F,V,t,rfl,k _ _ (.inl rfl) e,r}
 |met f y =>
  have e:h.get? a=↑_:=x;show h'.get? a=↑_;exact k a _ (.inl rfl) e
 |ext Q=>let(p,(o,e),st):=x;exact{st _ _ p λo=>k _ _<|.inl rfl,{o,k _ _ (.inl rfl) e},st}
def o5.lt(x:o5 P w H h)(e:H a=↑o):a<h.objs.size:=(x a o e).lt
def o5.fresh(x:o5 P w H h)(e:h.objs.size<=a):H a=none:=by
 cases q:H a with
 |none=>rfl
 |some u=>exact absurd (zP (x.lt q) e)<|qC _
def o5.kept(x:o5 P w H h)(k:∀b u,h.get? b=↑u->h'.get? b=↑u):o5 P w H h':=λa o e =>
 (x a o e).aaH (λb u _=>k b u) (λ_ q=>q) λ_ _ q _=>q
def o5.laid(x:o5 P w H h)(k:∀b u,h.get? b=↑u->h'.get? b=↑u)(p:h.objs.size<=a)(N:gh P w (upd H a o) h' a o):o5 P w (upd H a o) h':=λb u e=>by
 have n:=x.fresh p;by_cases B:b=a
 .subst B;rw[av]at e;grind
 .rw[ar B]at e;exact(x b u e).aaH (λc v _=>k c v) (λc q=>by rw[ar<|aS q n];lia) λc s q _=>by rw[ar<|aS q n];lia
def Rd(H:Hp)(a:Ψ)(u:HO):Prop:=H a=↑u\/∃o,H a=↑(.frz o u)
def Rd.ok(r:Rd H a u)(x:o5 P w H h):gh P w H h a u:=by
 rcases r with r|⟨o,r⟩
 .exact x a u r
 .let(_,q):=x a _ r;lia
def Wz:Δ HO->Prop
 |some (.lst _)=>True
 |some (.dK _)=>True
 |some (.dT _)=>True
 |some (.set _ _)=>True
 |some (.ins _ _ _)=>True
 |some (.ext _)=>True
 |_=>False
def o5.write(O:o5 P w H h)(m:Wz (H x))(d:e=x\/H e=↑(.own x))(k:∀b u,b≠e->h.get? b=↑u->h'.get? b=↑u)(o:∃u,h'.get? e=↑u)
  (n:gh P w (upd H x I) h' x I):o5 P w (upd H x I) h':=λb u q=>by
 have a:∀c y,H c=↑(.own y)->c≠x:=λc y r z=>by subst z;rwa[r]at m
 by_cases B:b=x
 .subst B;rw[av]at q;grind
 .rw[ar B]at q;by_cases E:b=e
  .have Q:H b=↑(.own x):=by
    grind
   rw[q]at Q;cases Q;let(v,V):=o;exact{v,by grind}
  .refine (O b u q).aaH (λc v hc=>k c v ?_) (λc r=>by rw[ar<|a c b r];lia) λc s r R=>by rw[ar<|(λc u r R z=>by subst z;rw[r]at m;cases u<;>first|exact m|exact R:∀c u,H c=↑u->Hrd u->c≠x) c s r R];lia
   grind
def Yk:HO->Prop
 |.tab _=>True
 |.cod _=>True
 |_=>False
def Yk.adM(h:Yk u):¬Wz (↑u):=by cases u<;>first|exactλz=>z|exact h.elim
structure Q2(H H':Hp)(h h':Heap):Prop where
 st:∀b u,H b=↑u->Yk u->H' b=↑u
 gr:∀b q ps,H b=↑(.tab q)->h.get? b=some {cls:=.none,data:=.fields ps}->∃more:Array Θ,h'.get? b=some {cls:=.none,data:=.fields (ps++more)}
def Q2.kept(k:∀b u,(∃q,H b=↑(.tab q))->h.get? b=↑u->h'.get? b=↑u)(st:∀b u,H b=↑u->Yk u->H' b=↑u):Q2 H H' h h':=
 {st,λb q p e z=>{#[],by exact k b _ {q,e} z}}
def Q2.trans(a:Q2 H I h h1)(b:Q2 I U h1 h2):Q2 H U h h2:=
 ⟨λc u q t=>b.st c u (a.st c u q t) t,λc q p e z=>by
  let(m1,z1):=a.gr c q p e z;let(m2,z2):=b.gr c q _ (a.st c _ e trivial) z1;exact{m1++m2,by rw[z2,Array.append_assoc]}⟩
structure Un(fs ex:List Addr)(H H':Hp)(h h':Heap):Prop where
 keep:∀b o,h.get? b=↑o->H b=none->b∉fs->b∉ex->h'.get? b=↑o
 slot:∀b o,h.get? b=↑o->H b=none->b∈fs->b∉ex->∃sl,h'.get? b=some {o with slots:=sl}
 free:∀b o,h.get? b=↑o->H b=none->b∉ex->H' b=none
 there:∀b o,h.get? b=↑o->b∉ex->∃o',h'.get? b=↑o'
 abe:∀b xs,H b=↑(.tup xs)->H' b=↑(.tup xs)
 aa4:∀b o u,H b=↑(.frz o u)->H' b=↑(.frz o u)
 aaZ:Q2 H H' h h'
def Un.any(u:Un fs ex H U h I)(q:h.get? b=↑ob)(n:H b=none)(x:b∉ex):∃s,I.get? b=some {ob with slots:=s}:=by
 by_cases B:b∈fs
 .exact u.slot b ob q n B x
 .exact{ob.slots,u.keep b ob q n B x}
def Un.kept(k:∀b u,h.get? b=↑u->h'.get? b=↑u):Un fs ex H H h h':=
 {λb o q _ _ _=>k b o q,λb o q _ _ _=>{o.slots,k b o q},λ_ _ _ n _=>n,λb o q _=>{o,k b o q},λ_ _ q=>q,λ_ _ _ q=>q,.kept (λb u _=>k b u) λ_ _ e _=>e}
def Un.refl:Un fs ex H H h h:=Un.kept λ_ _ q=>q
def Un.laid(k:∀b u,h.get? b=↑u->h'.get? b=↑u)(p:h.objs.size<=a)(N:H a=none):Un fs ex H (upd H a o) h h' where
 keep:=λb u q _ _ _=>k b u q
 slot:=λb u q _ _ _=>{u.slots,k b u q}
 free:=λb u q n _=>by rw[ar<|yQ<|zP (zY q) p];lia
 there:=λb u q _=>{u,k b u q}
 abe:=λb x q=>by rw[ar<|aS q N];lia
 aa4:=λb u x q=>by rw[ar<|aS q N];lia
 aaZ:=.kept (λb u _=>k b u) λb u q _=>by rw[ar<|aS q N];lia
def Un.write(m:Wz (H x))(E:e=x\/H e=↑(.own x))(k:∀b u,b≠e->h.get? b=↑u->h'.get? b=↑u)(O:∃u,h'.get? e=↑u):Un fs ex H (upd H x o) h h':=by
 have X:∀b,H b=none->b≠x:=λb n z=>by subst z;rwa[n]at m
 have B:∀b,H b=none->b≠e:=λb n z=>by
  grind
 have M:∀b u,H b=↑u->¬Wz (↑u)->b≠x:=λb u q N z=>by subst z;rw[q]at m;exact N m
 refine⟨λb u q n _ _=>k b u (B b n) q,λb u q n _ _=>{u.slots,k b u (B b n) q},λb u q n _=>by rw[ar<|X b n];lia,λb u q _=>?_,
  λb s q=>by rw[ar<|M b _ q λz=>z];lia,λb u s q=>by rw[ar<|M b _ q λz=>z];lia,.kept (λb u z=>k b u (λr=>by subst r;rcases E with r|r<;>first|(subst r;rcases z with ⟨q,z⟩;rw[z]at m;exact m)|grind)) λb u q N=>by rw[ar<|M b _ q<|N.adM];lia⟩
 grind
def MQ(h:ι)(H:Hp):Γ Ψ:=(List.range h.objs.size).filter λa=>(H a).isSome
def Ho(h:ι)(H:Hp):ι:=W.hideAll h<|MQ h H
def Gq(h:ι)(H:Hp):(Ho h H).objs.size=h.objs.size:=W.hideAll_size _ _
def KB(e:h.get? b=↑o)(n:H b=none):(Ho h H).get? b=↑o:=
 W.hideAll_get _ e λm=>by
  have q:(H b).isSome=true:=(List.mem_filter.mp m).2;rw[n]at q;simp at q
def Qw(e:(Ho h H).get? b=↑o):h.get? b=↑o/\H b=none:=by
 have E:h.get? b=↑o:=W.of_hideAll (MQ h H) e;refine{E,?_};cases q:H b with
 |none=>rfl
 |some x =>
  have m:b∈MQ h H:=List.mem_filter.mpr {List.mem_range.mpr<|zY E,by simp[q]};have z:(Ho h H).get? b=none:=W.hideAll_none (MQ h H) m;rw[z]at e;cases e
def Yj(m:Str->Δ Θ)(base:ι):Prop:=∃b o,m "__builtins__"=↑(.ref b)/\b≠builtinsNs/\b≠mainGlobals/\base.get? b=↑o/\o.cls=.type "module"/\o.dict=↑builtinsNs/\o.data=.plain
structure Mod(K:W.Frag)(mg:Str->Option Value)(base:Heap):Prop where
 kin:K.In base
 glob:base.Ns mainGlobals mg
 blt:∃mb,base.Ns builtinsNs mb/\∀x:Str,x≠"__name__"->mb x=bootBuiltins x
 nolimit:base.NoLimit
 bmd:Yj mg base
structure Cx where
 prog:ε
 w:δ
 K:Φ
 mg:Str->Δ Θ
 base:ι
 A:ξ
 N:Γ Str
 aar:Ξ
 aab:Hp
 env:Env
 outer:Γ Env
 stack:Γ Env
 ex:Γ Ψ
 fn:Str->θ
 calm:θ
 pn:Γ (Ψ×Obj)
 xe:Θ->Ξ->Prop
def j5(l:Γ Env):Γ Ψ:=l.filterMap (·.frame)
abbrev Cx.fs(X:Cx):Γ Ψ:=j5 X.outer
def pM(sc:ζ)(x:Str):Prop:=sc.names.lookup x=↑.local \/ sc.names.lookup x=↑.cell\/sc.names.lookup x=↑.free
def Loc(sc:ζ)(x:Str):Prop:=sc.names.lookup x=↑.local \/ sc.names.lookup x=↑.cell
def Look(env:Env)(h:ι)(m:Str->Δ Θ)(x:Str)(u:Θ):Prop:=
 (env.kindOf x=↑.local /\ m x=↑u)\/((env.kindOf x=↑.cell\/env.kindOf x=↑.free)/\∃c,env.cells.lookup x=↑c/\h.IsCell c (↑u))
structure Cx.Ok(X:Cx):Prop where
 mod:Mod X.K X.mg X.base
 kind:X.env.scope.kind=.function
 glob:X.env.globals=mainGlobals
 blt:X.env.builtins=builtinsNs
 above:X.aar.heap.objs.size<=X.env.locals
 inj:∀x y c,X.env.cells.lookup x=↑c->X.env.cells.lookup y=↑c->x=y
 has:∀x,(X.env.kindOf x=↑.cell\/X.env.kindOf x=↑.free)->∃c,X.env.cells.lookup x=↑c
 cab:∀x c,X.fn x=true->X.env.cells.lookup x=↑c->X.aar.heap.objs.size<=c
 hd:X.calm=true->X.A.handled=none
 frames:X.A.frames=↑X.stack
 stk:X.stack=X.outer\/(X.stack=X.env::X.outer/\X.env.frame=↑X.env.locals)
 exf:∀b∈X.ex,b≠X.env.locals/\∀x c,X.env.cells.lookup x=↑c->c≠b
 bs:∀b o,X.base.get? b=↑o->X.aar.heap.get? b=↑o/\X.aab b=none
 bsz:X.base.objs.size<=X.aar.heap.objs.size
 abT:∀b o,X.base.get? b=↑o->b∉X.ex
 aca:∀b∈X.ex,b∉X.fs
 aa0:X.aar.heap.FunFrames X.base X.outer
 frf:∀b∈X.fs,X.aab b=none
structure Inv(X:Cx)(pins:List (Addr×Obj))(σ:List (Option V))(H:Hp)(s:Shared):Prop where
 ok:X.Ok
 os:s.os=X.aar.os
 bare:AllBare s.gens
 base:Un X.fs X.ex X.aab H X.aar.heap s.heap
 loc:∃m,s.heap.Ns X.env.locals m/\∀(i:Nat)(x:Str)(v:V),X.N[i]?=↑x->σ[i]?=↑(↑v)->pM X.env.scope x->∃u,RelV v u/\Look X.env s.heap m x u
 cell:∀x c,X.env.cells.lookup x=↑c->∃v,s.heap.IsCell c v
 free:H X.env.locals=none
 aax:∀x c,X.env.cells.lookup x=↑c->H c=none
 pin:∀p∈X.pn++pins,s.heap.get? p.1=↑p.2/\H p.1=none/\p.1≠X.env.locals/\p.1∉X.fs/\∀v,p.2.data≠.cell v
 hok:o5 X.prog X.w H s.heap
 len:σ.length=X.N.length
def Cx.Ok.aiq{X:Cx}(k:X.Ok)(e:X.base.get? b=↑o):b∉X.fs:=λH=>by
 have:=(k.aa0.mem H).1
 grind
def Inv.bs{X:Cx}{s:Ξ}(I:Inv X pins σ H s):∀b o,X.base.get? b=↑o->s.heap.get? b=↑o/\H b=none:=λb o e =>
 {I.base.keep b o (I.ok.bs b o e).1 (I.ok.bs b o e).2 (I.ok.aiq e)<|I.ok.abT b o e,I.base.free b o (I.ok.bs b o e).1 (I.ok.bs b o e).2<|I.ok.abT b o e}
def Inv.bk(I:Inv X pins σ H s):∀b o,X.base.get? b=↑o->s.heap.get? b=↑o:=λb o e=>(I.bs b o e).1
def Inv.mod(I:Inv X pins σ H s):Mod X.K X.mg X.base:=I.ok.mod
def Inv.kIn(I:Inv X pins σ H s):X.K.In s.heap:=I.ok.mod.kin.keeps I.bk
def Inv.nolimit(I:Inv X pins σ H s):s.heap.NoLimit:=I.ok.mod.nolimit.keeps I.bk
def Inv.lt(I:Inv X pins σ H s):X.env.locals<s.heap.objs.size:=let ⟨_,n,_⟩:=I.loc;n.lt
def Inv.sz(I:Inv X pins σ H s):X.aar.heap.objs.size<=s.heap.objs.size:=yD I.ok.above<|jQ I.lt
def Inv.air(I:Inv X pins σ H s)(h:s.heap.objs.size<=a):a∉X.fs:=λb=>by
 let(_,o,O,_):=I.ok.aa0.mem b;exact absurd (zP (zY O)<|yD I.sz h)<|qC _
def Inv.cne(I:Inv X pins σ H s):∀x c,X.env.cells.lookup x=↑c->c≠X.env.locals:=λx c e z=>by
 let(v,o,a,D):=I.cell x c e;let(m,(b,E,p,O,d,_),_):=I.loc
 grind
def Inv.aa0(I:Inv X pins σ H s):s.heap.FunFrames X.base X.outer:=by
 have a:∀(l:Γ Env),(∀b∈j5 l,b∈X.fs)->X.aar.heap.FunFrames X.base l->s.heap.FunFrames X.base l:=by
  intro l
  induction l with
  |nil=>intro _ _;trivial
  |cons v r i =>
   intro S g;let(hk,(L,o,f,n,O,d),R):=g;have c:L∈X.fs:=S L (by unfold j5;rw[jD,f];exact zE);let(j,e):=I.base.slot L o O (I.ok.frf L c) c λz=>I.ok.aca L z c;exact{hk,{L,_,f,n,e,d},i (λb B=>S b (by unfold j5;rw[jD,f];exact zC _ B)) R}
 exact a X.outer (λ_ B=>B) I.ok.aa0
def Inv.stack(I:Inv X pins σ H s):s.heap.FunFrames X.base X.stack:=by
 rcases I.ok.stk with e|⟨e,f⟩
 .rw[e];exact I.aa0
 .rw[e];let(m,n,_):=I.loc;exact .cons (by rw[I.ok.kind];simp) f n (Heap.get?_none_of_le<|yD I.ok.bsz I.ok.above) I.aa0
def Inv.acb(I:Inv X pins σ H s):∀b∈j5 X.stack,b∈X.env.locals::X.fs:=λb B=>by
 rcases I.ok.stk with e|⟨e,f⟩
 .rw[e]at B;exact zC _ B
 .rw[e,j5,jD,f]at B;exact B
def Inv.aa5(I:Inv X pins σ H s):∀b∈j5 X.stack,H b=none:=λb B=>by
 rcases List.mem_cons.mp (I.acb b B)with e|B
 .rw[e];exact I.free
 .let(_,o,O,_):=I.ok.aa0.mem B;exact I.base.free b o O (I.ok.frf b B) λz=>I.ok.aca b z B
def Inv.step{g':Array GenState}{t':Nat}{d':Drawn}{ch:Γ Ψ}(I:Inv X pins σ H s)
  (g:∀b∈ch,(b∈X.ex\/X.aar.heap.objs.size<=b)/\b≠X.env.locals/\(∀x c,X.env.cells.lookup x=↑c->c≠b)/\∀p∈X.pn++pins,p.1≠b)
  (P:∀b o,b≠X.env.locals->b∉X.fs->b∉ch->s.heap.get? b=↑o->H b=none->h'.get? b=↑o)
  (t:∀b o,b≠X.env.locals->b∈X.fs->b∉ch->s.heap.get? b=↑o->H b=none->∃S,h'.get? b=some {o with slots:=S})(f:∀b o,b∉ch->s.heap.get? b=↑o->H b=none->H' b=none)
  (T:∀b o,b∉ch->s.heap.get? b=↑o->∃j,h'.get? b=↑j)
  (y:∀b xs,H b=↑(.tup xs)->H' b=↑(.tup xs))(A:∀b o u,H b=↑(.frz o u)->H' b=↑(.frz o u))(Z:Q2 H H' s.heap h')
  (ns:∀m,s.heap.Ns X.env.locals m->h'.Ns X.env.locals m)(G:o5 X.prog X.w H' h')(V:AllBare g') :
  Inv X pins σ H' {s with heap:=h',gens:=g',drawn:=d',toks:=t'}:=by
 have L:∀b o,X.aar.heap.get? b=↑o->b≠X.env.locals:=λb o e=>yQ<|zP (zY e) I.ok.above;have C:∀b o,X.aar.heap.get? b=↑o->b∉X.ex->b∉ch:=λb o e a B=>by
  rcases(g b B).1 with z|z
  .exact a z
  .exact absurd (zP (zY e) z)<|qC _
 have K:∀x c,X.env.cells.lookup x=↑c->∀v,s.heap.IsCell c v->h'.IsCell c v:=λx c e v z=>by
  let(o,O,F):=z;have N:=λz=>(g c z).2.2.1 x c e rfl;by_cases hc:c∈X.fs
  .let(S,q):=t c o (I.cne x c e) hc N O<|I.aax x c e;exact{_,q,F}
  .exact{o,P c o (I.cne x c e) hc N O<|I.aax x c e,F}
 refine{I.ok,I.os,V,{λb o e n B a=>(P b o (L b o e) B (C b o e a) (I.base.keep b o e n B a)<|I.base.free b o e n a),λb o e n B a=>?_,λb o e n a=>?_,λb o e a=>?_,λb xs e=>y b xs<|I.base.abe b xs e,λb o xs e=>A b o xs<|I.base.aa4 b o xs e,I.base.aaZ.trans Z},?_,λx c e=>?_,?_,λx c e=>?_,λp M=>?_,G,I.len}
 .let(S,E):=I.base.slot b o e n B a;let(J,D):=t b _ (L b o e) B (C b o e a) E<|I.base.free b o e n a;exact{J,D}
 .let(j,E):=I.base.there b o e a;exact f b j (C b o e a) E<|I.base.free b o e n a
 .let(j,E):=I.base.there b o e a;exact T b j (C b o e a) E
 .let(m,Y,W):=I.loc;refine{m,ns m Y,λi x v E D U=>?_};let(u,r,l):=W i x v E D U;refine{u,r,?_};rcases l with l|⟨k,c,e,z⟩
  .exact .inl l
  .exact .inr {k,c,e,K x c e _ z}
 .let(v,z):=I.cell x c e;exact{v,K x c e v z}
 .let(m,(o,_,_,O,_),_):=I.loc;exact f _ o (λz=>(g _ z).2.1 rfl) O I.free
 .let(v,o,O,F):=I.cell x c e;exact f c o (λz=>(g c z).2.2.1 x c e rfl) O<|I.aax x c e
 .let(e,n,Q,R,d):=I.pin p M;have N:=λz=>(g _ z).2.2.2 p M rfl;exact{P _ _ Q R N e n,f _ _ N e n,Q,R,d}
def Inv.un{t':Nat}(I:Inv X pins σ H s)(u:Un X.fs [] H H' s.heap h')(k:o5 X.prog X.w H' h'):Inv X pins σ H' {s with heap:=h',toks:=t'}:=by
 let(m,(o,S,P,a,r),_):=I.loc;let(l,L):=u.any a I.free (by simp);exact I.step (ch:=[]) (nofun) (λb o _ B _ e n=>u.keep b o e n B<|by lia) (λb o _ B _ e n=>u.slot b o e n B<|by lia) (λb o _ e n=>u.free b o e n<|by lia) (λb o _ e=>u.there b o e<|by lia) u.abe u.aa4 u.aaZ (λc M=>by
  let(d,E,p,O,R):=M;rw[a]at O;cases O;exact{_,E,p,L,R}) k I.bare
def Inv.call{t':Nat}{d':Drawn}{ch:Γ Ψ}(I:Inv X pins σ H s)(u:Un (j5 X.stack) ch H H' s.heap h')(k:o5 X.prog X.w H' h')(g:AllBare g')
  (a:∀b∈ch,(b∈X.ex\/X.aar.heap.objs.size<=b)/\b≠X.env.locals/\(∀x c,X.env.cells.lookup x=↑c->c≠b)/\∀p∈X.pn++pins,p.1≠b) :
  Inv X pins σ H' {s with heap:=h',gens:=g',drawn:=d',toks:=t'}:=by
 let(m,(o,f,P,d,r),_):=I.loc;let(l,L):=u.any d I.free λz=>(a _ z).2.1 rfl;exact I.step a (λb o L B hc e n=>u.keep b o e n (λz=>(List.mem_cons.mp<|I.acb b z).elim L B) hc) (λb o _ _ hc e n=>u.any e n hc) (λb o hc e n=>u.free b o e n hc) (λb o hc e=>u.there b o e hc) u.abe u.aa4 u.aaZ (λi M=>by
  let(j,S,E,O,R):=M;rw[d]at O;cases O;exact{_,S,E,L,R}) k g
def Inv.turned{t':Nat}(I:Inv X pins σ H s)(k:∀b o,b≠it->s.heap.get? b=↑o->h'.get? b=↑o)(N:H it=none)(L:it≠X.env.locals)
  (a:it∈X.ex\/X.aar.heap.objs.size<=it)(d:∀x c,X.env.cells.lookup x=↑c->c≠it)(f:∀p∈X.pn++pins,p.1≠it):Inv X pins σ H {s with heap:=h',toks:=t'}:=by
 refine I.step (ch:=[it]) (λb B=>?_) (λb o _ _ hc e _=>k b o (λz=>hc<|by grind) e) (λb o _ _ hc e _=>{o.slots,k b o (λz=>hc<|by grind) e}) (λ_ _ _ _ n=>n)
  (λb o hc e=>{o,k b o (λz=>hc<|by grind) e}) (λ_ _ e=>e) (λ_ _ _ e=>e) (.kept (λb u z=>k b u λr=>by grind) λ_ _ e _=>e) (λm M=>?_) (λb u e=>?_) I.bare
 .have e:=by simpa using B
  subst e;exact{a,L,d,f}
 .let(o,S,E,O,r):=M;exact{o,S,E,k _ o (jK L) O,r}
 .refine (I.hok b u e).aaH (λc v hc=>k c v ?_) (λ_ q=>q) λ_ _ q _=>q
  grind
def Inv.tok(I:Inv X pins σ H s)(t:Nat):Inv X pins σ H {s with toks:=t}:=I.un Un.refl I.hok
def Inv.kept{t':Nat}(I:Inv X pins σ H s)(k:∀b u,s.heap.get? b=↑u->h'.get? b=↑u):Inv X pins σ H {s with heap:=h',toks:=t'}:=I.un (Un.kept k)<|I.hok.kept k
def Inv.laid{t':Nat}(I:Inv X pins σ H s)(k:∀b u,s.heap.get? b=↑u->h'.get? b=↑u)(p:s.heap.objs.size<=a)(n:gh X.prog X.w (upd H a o) h' a o) :
  Inv X pins σ (upd H a o) {s with heap:=h',toks:=t'}:=I.un (Un.laid k p<|I.hok.fresh p)<|I.hok.laid k p n
def Inv.write{t':Nat}(I:Inv X pins σ H s)(m:Wz (H x))(E:e=x\/H e=↑(.own x))(k:∀b u,b≠e->s.heap.get? b=↑u->h'.get? b=↑u)(O:∃u,h'.get? e=↑u)
  (n:gh X.prog X.w (upd H x o) h' x o):Inv X pins σ (upd H x o) {s with heap:=h',toks:=t'}:=I.un (Un.write m E k O)<|I.hok.write m E k O n
def Inv.abG(I:Inv X pins σ H s)(h:∀p∈pins',s.heap.get? p.1=↑p.2/\H p.1=none/\p.1≠X.env.locals/\p.1∉X.fs/\∀v,p.2.data≠.cell v):Inv X pins' σ H s:=
 {I.ok,I.os,I.bare,I.base,I.loc,I.cell,I.free,I.aax,λp P=>(List.mem_append.mp P).elim (λz=>I.pin p<|qG _ z)<|h p,I.hok,I.len}
def A8{N:Γ Str}(H:N.Nodup){i j:Nat}(a:N[i]?=↑x)(b:N[j]?=↑x):i=j:=by
 let(c,e):=List.getElem?_eq_some_iff.mp a;let(d,E):=List.getElem?_eq_some_iff.mp b;exact(List.getElem_inj H).mp<|e.trans E.symm
def rf{M:Model}{A:ξ}{E:Θ->Ξ->Prop}{i:Nat}{Q:Unit->Ξ->Prop}(I:Inv X pins σ H s)(hN:X.N.Nodup)(hi:X.N[i]?=↑x)(g:Loc X.env.scope x)(r:RelV v u)
  (h:∀s',Inv X pins (σ.set i<|↑v) H s'->(∃a,Heap.SameBut a s.heap s'.heap/\(a=X.env.locals\/X.env.cells.lookup x=↑a))->Q () s')(hf:X.fn x=true\/X.env.scope.names.lookup x=↑.local:=by first|exact .inl rfl|exact .inr rfl|assumption):wpAny M A (storeName X.env x u) Q E s:=by
 let(m,Z,hl):=id I.loc;have V:(X.env.scope.kind==.class||(X.env.scope.kind==.module&&X.env.locals != X.env.globals))=false:=by rw[I.ok.kind];rfl
 have Y:i<σ.length:=by rw[I.len];exact(List.getElem?_eq_some_iff.mp hi).1
 have C:=I.cne;have t:∀{a:Ψ}{F:ι},(∃o,s.heap.get? a=↑o/\H a=none)->Heap.SameBut a s.heap F->o5 X.prog X.w H F:=λ{a F}ha S b ob e=>by
  let(_,_,G):=ha;refine(I.hok b ob e).aaH (λc W hc q=>(S.2 c ?_).trans q) (λ_ q=>q) λ_ _ q _=>q;rintro rfl;rcases hc with rfl|hc
  .rw[G]at e;cases e
  .rw[G]at hc;cases hc
 rcases g with hk|hk
 .refine wpAny_storeName_local hk Z (λF hn' S=>?_) V;let(oL,_,_,hoL,_):=id Z;refine h _ {I.ok,I.os,I.bare,{λb o e n B g=>?_,λb o e n B g=>?_,I.base.free,λb o e g=>?_,I.base.abe,I.base.aa4,I.base.aaZ.trans<|.kept (λb u z e=>(S.2 b (λr=>by rcases z with ⟨q,z⟩;rw[r,I.free]at z;cases z)).trans e) λ_ _ e _=>e},{_,hn',λj y v' f l U=>?_},λy c e=>?_,I.free,I.aax,λp hp=>?_,t {oL,hoL,I.free} S,by simpa using I.len} {_,S,.inl rfl}
  .exact (S.2 b<|yQ<|zP (zY e) I.ok.above).trans<|I.base.keep b o e n B g
  .let(sl,f):=I.base.slot b o e n B g;exact{sl,(S.2 b<|yQ<|zP (zY e) I.ok.above).trans f}
  .let(o',f):=I.base.there b o e g;exact{o',(S.2 b<|yQ<|zP (zY e) I.ok.above).trans f}
  .by_cases J:j=i
   .subst J;rw[hi]at f;cases f;rw[vL Y]at l;cases l;exact{u,r,.inl {hk,by simp}}
   .rw[kN<|jK J]at l;let(u',r',q):=hl j y v' f l U;refine{u',r',?_};rcases q with ⟨k,e⟩|⟨k,c,e,z⟩
    .refine .inl {k,?_};have:y≠x:=λe=>J<|A8 hN f<|e▸hi;simp[this,e]
    .exact .inr {k,c,e,z.sameBut S<|C y c e}
  .let(W,z):=I.cell y c e;exact{W,z.sameBut S<|C y c e}
  .let(e,n,R,nf,d):=I.pin p hp;exact{(S.2 p.1 R).trans e,n,R,nf,d}
 .have D:X.fn x=true:=by
   rcases hf with z|z
   .exact z
   .rw[z]at hk;cases hk
  let(c,hc):=I.ok.has x<|.inl hk;let(W,z):=I.cell x c hc;refine wpAny_storeName_cell I.ok.kind hk hc z λF K S=>?_;let(oc,O,T):=id z;refine h {s with heap:=F} {I.ok,I.os,I.bare,{λb o e n B g=>?_,λb o e n B g=>?_,I.base.free,λb o e g=>?_,I.base.abe,I.base.aa4,I.base.aaZ.trans<|.kept (λb u z e=>(S.2 b (λr=>by rcases z with ⟨q,z⟩;rw[r,I.aax x c hc]at z;cases z)).trans e) λ_ _ e _=>e},{m,Z.sameBut S<|jK<|C x c hc,λj y v' f l U=>?_},λy P e=>?_,I.free,I.aax,λp hp=>?_,t {oc,O,I.aax x c hc} S,by simpa using I.len} {c,S,.inr hc}
  .exact (S.2 b<|yQ<|zP (zY e)<|I.ok.cab x c D hc).trans<|I.base.keep b o e n B g
  .let(sl,f):=I.base.slot b o e n B g;exact{sl,(S.2 b<|yQ<|zP (zY e)<|I.ok.cab x c D hc).trans f}
  .let(o',f):=I.base.there b o e g;exact{o',(S.2 b<|yQ<|zP (zY e)<|I.ok.cab x c D hc).trans f}
  .by_cases J:j=i
   .subst J;rw[hi]at f;cases f;rw[vL Y]at l;cases l;exact{u,r,.inr {.inl hk,c,hc,K}}
   .rw[kN<|jK J]at l;let(u',r',q):=hl j y v' f l U;refine{u',r',?_};rcases q with q|⟨k,P,e,z'⟩
    .exact .inl q
    .refine .inr {k,P,e,z'.sameBut S ?_};rintro rfl;exact J<|A8 hN f<|I.ok.inj _ _ _ e hc▸hi
  .by_cases L:P=c
   .subst L;exact{_,K}
   .let(w2,z2):=I.cell y P e;exact{w2,z2.sameBut S L}
  .let(e,n,R,nf,d):=I.pin p hp;refine{(S.2 p.1 ?_).trans e,n,R,nf,d};intro q;rw[q,O]at e;have q':oc=p.2:=xC e;exact d W (by rw[<-q'];exact T)
def B8{M:Model}{A:ξ}{E:Θ->Ξ->Prop}(I:Inv X pins σ H s)(n:X.N.Nodup)(hi:X.N[i]?=↑x)(b:Loc X.env.scope x)(r:RelV v u)
  (h:∀s',Inv X pins (σ.set i<|↑v) H s'->Q () s')(f:X.fn x=true\/X.env.scope.names.lookup x=↑.local:=by first|exact .inl rfl|exact .inr rfl|assumption):wpAny M A (storeName X.env x u) Q E s:=
 rf I n hi b r (λs' a _=>h s' a) f
def Inv.ac9{ch:Γ Ψ}(I:Inv X pins σ H s)(o:s'.os=s.os)(u:Un (j5 X.stack) ch H H' s.heap s'.heap)(k:o5 X.prog X.w H' s'.heap)(g:AllBare s'.gens)
  (a:∀b∈ch,(b∈X.ex\/X.aar.heap.objs.size<=b)/\b≠X.env.locals/\(∀x c,X.env.cells.lookup x=↑c->c≠b)/\∀p∈X.pn++pins,p.1≠b):Inv X pins σ H' s':=by
 let(e,G,d,t,O):=s';subst o;exact I.call u k g a
abbrev XK:=Θ->Δ Ψ->Hp->Prop
abbrev St:=Γ<|Δ V
abbrev VK:=V->Hp->Prop
abbrev TE:=St->Hp->VK->Prop
abbrev TT:=St->Hp->(θ->Hp->Prop)->Prop
abbrev TA:=St->Hp->(Γ V->Hp->Prop)->Prop
structure Ends where
 nx:St->Hp->Prop
 rt:VK
 bk:St->Hp->Prop:=λ_ _=>False
 ct:St->Hp->Prop:=λ_ _=>False
abbrev TS:=Ends->St->Hp->Prop
def EP(X:Cx)(pins:Γ (Ψ×Obj))(σ:St)(Q:VK)(u:Θ)(s':Ξ):Prop:=∃v H,Inv X pins σ H s'/\RelV v u/\Q v H
def TP(X:Cx)(pins:Γ (Ψ×Obj))(σ:St)(Q:θ->Hp->Prop)(b:θ)(s':Ξ):Prop:=∃H,Inv X pins σ H s'/\Q b H
def AP(X:Cx)(pins:Γ (Ψ×Obj))(σ:St)(Q:Γ V->Hp->Prop)(us:Γ Θ)(s':Ξ):Prop:=∃v H,Inv X pins σ H s'/\aO v us/\Q v H
def SP(X:Cx)(pins:Γ (Ψ×Obj))(D:Ends)(f:Flow)(s':Ξ):Prop:=
 match f with
 |.next=>∃a H,Inv X pins a H s'/\D.nx a H
 |.brk=>∃a H,Inv X pins a H s'/\D.bk a H
 |.cont=>∃a H,Inv X pins a H s'/\D.ct a H
 |.ret u=>∃v a H,Inv X pins a H s'/\RelV v u/\D.rt v H
def PE(X:Cx)(e:γ)(t:TE):Prop:=
 ∀(p:Γ (Ψ×Obj))(s:Ξ)(a:St)(H:Hp)(Q:VK),Inv X p a H s->t a H Q->wpAny (model X.prog X.w) X.A (eval e X.env) (EP X p a Q) X.xe s
def PT(X:Cx)(e:γ)(t:TT):Prop:=
 ∀(p:Γ (Ψ×Obj))(s:Ξ)(a:St)(H:Hp)(Q:θ->Hp->Prop),Inv X p a H s->t a H Q->wpAny (model X.prog X.w) X.A (isTrue e X.env<|eval e X.env) (TP X p a Q) X.xe s
def PW(X:Cx)(e:γ)(t:TT):Prop:=
 ∀(whole:Sem Θ)(p:Γ (Ψ×Obj))(s:Ξ)(a:St)(H:Hp)(Q:θ->Hp->Prop),Inv X p a H s->t a H Q->wpAny (model X.prog X.w) X.A (isTrue e X.env whole) (TP X p a Q) X.xe s
def PW.pt(h:PW X e t):PT X e t:=h _
def PA(X:Cx)(es:Γ γ)(t:TA):Prop:=
 ∀(P:Pos)(p:Γ (Ψ×Obj))(s:Ξ)(a:St)(H:Hp)(Q:Γ V->Hp->Prop),Inv X p a H s->t a H Q->wpAny (model X.prog X.w) X.A (spliced<|backTo P<|starEach es X.env) (AP X p a Q) X.xe s
def PS(X:Cx)(st:Ω)(t:TS):Prop:=
 ∀(p:Γ (Ψ×Obj))(s:Ξ)(a:St)(H:Hp)(D:Ends),Inv X p a H s->t D a H->wpAny (model X.prog X.w) X.A (exec st X.env) (SP X p D) X.xe s
def su(X:Cx)(st:Γ Ω)(t:TS):Prop:=
 ∀(p:Γ (Ψ×Obj))(s:Ξ)(a:St)(H:Hp)(D:Ends),Inv X p a H s->t D a H->wpAny (model X.prog X.w) X.A (execs st X.env) (SP X p D) X.xe s
def bZ(h:wpAny M A t Q E s)(H:∀a s,Q a s->I a s):wpAny M A t I E s:=yZ h H λ_ _ x=>x
section
def rj(i:Nat):TE:=λa H Q=>∃v,a[i]?=↑(↑v)/\Q v H
def tC(v:V):TE:=λ_ H Q=>Q v H
def aY(n:X.N[i]?=↑x)(V:pM X.env.scope x)(D:(x=="__debug__")=false:=by decide)(d:(x=="__classdict__")=false:=by decide):PE X (.Name x pos) (rj i):=by
 intro p s f H Q I h;let(v,e,h):=h;let(m,b,L):=I.loc;let(u,r,l):=L i x v n e V;have fin:EP X p f Q u s:={v,H,I,r,h}
 rcases l with ⟨hk,M⟩|⟨hk,c,hc,a⟩
 .exact wA (vV I.ok.kind hk b M fin) D
 .rcases hk with hk|hk
  .exact wA (wpAny_loadName_cell I.ok.kind hk hc a fin) D
  .exact wA (wpAny_loadName_free I.ok.kind hk hc a fin d) D
def Ep{i j pos}:PE X (.Constant (.int i) j pos) (tC<|.int i):=λ_ _ _ H _ I h=>wpAny_Constant_int {.int i,H,I.tok _,{_,rfl},h}
def Lb{b j pos}:PE X (.Constant (.bool b) j pos) (tC<|.bl b):=λ_ _ _ H _ I h=>Constant_bool {.bl b,H,I,rfl,h}
def TR{j pos}:PE X (.Constant .none j pos) (tC .non):=λ_ _ _ H _ I h=>Constant_none {.non,H,I,rfl,h}
def KL{x j pos}:PE X (.Constant (.str x) j pos) (tC<|.str x):=λ_ _ _ H _ I h=>wG {.str x,H,I.tok _,{_,rfl},h}
def Gl(X:Cx)(x:Str):Prop:=X.env.kindOf x=↑.globalImplicit
def lg{E:Θ->Ξ->Prop}{pos:Pos}(I:Inv X pins σ H s)(g:Gl X x)(m:X.mg x=↑u)(h:Q u s)
  (d:(x=="__debug__")=false:=by decide):wpAny (model X.prog X.w) X.A (eval (.Name x pos) X.env) Q E s:=
 Calls.Name_function_global I.ok.kind g (Calls.loadGlobal_global (by rw[I.ok.glob];exact I.mod.glob.keeps I.bk) m h) d
def kr{E:Θ->Ξ->Prop}{pos:Pos}(I:Inv X pins σ H s)(g:Gl X x)(m:X.mg x=none)(v:bootBuiltins x=↑u)(h:Q u s)
  (n:x≠"__name__":=by decide)(d:(x=="__debug__")=false:=by decide):wpAny (model X.prog X.w) X.A (eval (.Name x pos) X.env) Q E s:=by
 let(M,a,b):=I.mod.blt;exact Calls.Name_function_global I.ok.kind g (Calls.loadGlobal_builtin (by rw[I.ok.glob];exact I.mod.glob.keeps I.bk) m (by rw[I.ok.blt];exact a.keeps I.bk) ((b x n).trans v) h) d
def OZ(g:Gl X x)(m:X.mg x=↑u)(r:RelV v u)(d:(x=="__debug__")=false:=by decide):PE X (.Name x pos) (tC v):=
 λ_ _ _ H _ I h=>lg I g m {v,H,I,r,h} d
def Om(g:Gl X x)(m:X.mg x=none)(V:bootBuiltins x=↑u)(r:RelV v u)(n:x≠"__name__":=by decide)(d:(x=="__debug__")=false:=by decide):PE X (.Name x pos) (tC v):=
 λ_ _ _ H _ I h=>kr I g m V {v,H,I,r,h} n d
def My(b:γ)(h:op≠.In)(H:op≠.NotIn):behindInMarks op b=false:=by
 have e:(op==.In)=false:=by grind
 cases b<;>simp[behindInMarks,e,(show(op==CmpOp.NotIn)=false by grind)]
def tB(t:TE):TT:=λb H Q=>t b H λx a=>∃c,x=.bl c/\Q c a
def LK(h:PE X e t)(E:∀whole,isTrue e X.env whole=(do let v <- whole;standAt e.pos;holding [v]<|truthy v):=by intro _;rfl):PT X e (tB t):=by
 refineλp s c H Q I hw=>isTrue_plain (bZ (h p s c H _ I hw) λv S z=>?_)<|E _;let(x,a,i,r1,b):=z;let(d,rfl,q):=b;cases r1;exact xV {a,i,q}
variable {rest:Γ γ}
def YA(t u:TT):TT:=λb H Q=>t b H λc a=>if c=true then u b a Q else Q false a
def tOr(t u:TT):TT:=λb H Q=>t b H λc a=>if c=true then Q true a else u b a Q
def ZC(t:TT):TT:=λb H Q=>t b H λc a=>Q (!c) a
def OQ(A:PT X a tA):PW X (.BoolOp .And [a] pos) tA:=by
 refineλw p s b H Q I h=>isTrue_and<|bZ (A p s b H Q I h) λc S e=>?_;cases c with
 |true=>exact isTrue_and_nil e
 |false=>exact e
def Ku(A:PT X a tA):PW X (.BoolOp .Or [a] pos) tA:=by
 refineλw p s b H Q I h=>isTrue_or<|bZ (A p s b H Q I h) λc S e=>?_;cases c with
 |false=>exact isTrue_or_nil e
 |true=>exact e
def S9(A:PT X a tA)(B:PW X (.BoolOp .And (b::rest) pos) U):PW X (.BoolOp .And (a::b::rest) pos) (YA tA U):=by
 refineλw p s e H Q I h=>isTrue_and<|bZ (A p s e H _ I h) λc S z=>?_;let(d,i,q):=z;cases c with
 |true=>exact B w p S e d Q i q
 |false=>exact{d,i,q}
def Q9(A:PT X a tA)(B:PW X (.BoolOp .Or (b::rest) pos) U):PW X (.BoolOp .Or (a::b::rest) pos) (tOr tA U):=by
 refineλw p s e H Q I h=>isTrue_or<|bZ (A p s e H _ I h) λc S z=>?_;let(d,i,q):=z;cases c with
 |true=>exact{d,i,q}
 |false=>exact B w p S e d Q i q
def JL(A:PT X a tA):PT X (.UnaryOp .Not a pos) (ZC tA):=by
 exactλp s b H Q I h=>isTrue_not<|A p s b H _ I h
def Wb(ta tb:TE):TE:=λb H Q=>ta b H λx a=>∃c,x=.bl c/\if c=true then tb b a Q else Q (.bl false) a
def Zs(ta tb:TE):TE:=λb H Q=>ta b H λx a=>∃c,x=.bl c/\if c=true then Q (.bl true) a else tb b a Q
def SI{op}(h:PE X a t):PE X (.BoolOp op [a] pos) t:=λp s b H Q I hw=>BoolOp_one<|h p s b H Q I hw
def RC(A:PE X a ta)(B:PE X (.BoolOp .And (b::rest) pos) tb):PE X (.BoolOp .And (a::b::rest) pos) (Wb ta tb):=by
 refineλp s e H Q I h=>BoolOp_and<|bZ (A p s e H _ I h) λv S z=>?_;let(x,d,i,r1,q):=z;let(c,rfl,q):=q;cases r1;apply xV;cases c with
 |true=>exact B p S e d Q i q
 |false=>exact{.bl false,d,i,rfl,q}
def Rb(A:PE X a ta)(B:PE X (.BoolOp .Or (b::rest) pos) tb):PE X (.BoolOp .Or (a::b::rest) pos) (Zs ta tb):=by
 refineλp s e H Q I h=>BoolOp_or<|bZ (A p s e H _ I h) λv S z=>?_;let(x,d,i,r1,q):=z;let(c,rfl,q):=q;cases r1;apply xV;cases c with
 |false=>exact B p S e d Q i q
 |true=>exact{.bl true,d,i,rfl,q}
def tIf(t:TT)(ta tb:TE):TE:=λa H Q=>t a H λc b=>if c=true then ta a b Q else tb a b Q
def oU(hc:PT X c tA)(A:PE X a ta)(B:PE X b tb):PE X (.IfExp c a b pos) (tIf tA ta tb):=by
 refineλp s e H Q I h=>wpAny_IfExp<|bZ (hc p s e H _ I h) λd S z=>?_;let(f,i,q):=z;cases d with
 |true=>exact A p S e f Q i q
 |false=>exact B p S e f Q i q
end
def iL(K:Φ)(H:Hp)(a:Ψ)(xs:Γ V):Prop:=
 Rd H a (.lst xs) \/
  ∃ (o:Obj) (i:Array Θ) (n:Nat),K.lookup a=↑o/\o.cls=.type "list"/\o.dict=none/\o.data=.seq i n/\i.size<=sizeLine/\aO xs i.toList
def iF(K:Φ)(H:Hp)(a:Ψ)(xs:Γ V):Prop:=
 Rd H a (.tup xs) \/
  ∃ (o:Obj) (i:Array Θ) (n:Nat),K.lookup a=↑o/\o.cls=.type "tuple"/\o.dict=none/\o.data=.seq i n/\i.size<=sizeLine/\aO xs i.toList
def ZN:Θ->Δ V
 |.none=>↑.non
 |.bool b=>↑(.bl b)
 |.int i _=>↑(.int i)
 |.str x _=>↑(.str x)
 |.bytes b _=>↑(.byt b)
 |.float b _=>↑(.flt b)
 |.ref a=>↑(.ref a)
 |.type n=>↑(.ty n)
 |_=>none
def RelV.abs(r:RelV x u):ZN u=↑x:=by
 cases x with
 |non=>cases r;rfl
 |bl _=>cases r;rfl
 |int _=>let(t,rfl):=r;rfl
 |str _=>let(t,rfl):=r;rfl
 |byt _=>let(t,rfl):=r;rfl
 |flt _=>let(t,rfl):=r;rfl
 |ref _=>cases r;rfl
 |ty _=>cases r;rfl
def RelV.inj(r:RelV x u)(q:RelV y u):x=y:=xC<|r.abs.symm.trans q.abs
def aO.inj(h:aO xs us):aO ys us->xs=ys:=by
 induction h generalizing ys with
 |nil=>intro h;cases h;rfl
 |cons r t i=>intro h;cases h with|cons R T=>rw[r.inj R,i T]
def iL.of{K:Φ}(h:H a=↑(.lst xs)):iL K H a xs:=.inl<|.inl h
def Inv.list(I:Inv X pins σ H s)(h:iL X.K H a xs):∃i ,aO xs i/\PlainL s.heap a i.toArray/\xs.length<=sizeLine:=by
 rcases h with h|⟨o,i,n,hk,hc,d,S,Z,r⟩
 .let(z,i,n,r,e):=h.ok I.hok;exact{i,r,{_,n,e,rfl,rfl,rfl},z}
 .refine{i.toList,r,{o,n,I.kIn a o hk,hc,d,by omega},?_};have e:=r.length
  grind
def Inv.tuple(I:Inv X pins σ H s)(h:iF X.K H a xs):∃i ,aO xs i/\IsTup s.heap a i.toArray/\xs.length<=sizeLine:=by
 rcases h with h|⟨o,i,n,hk,hc,_,S,Z,r⟩
 .let(z,i,r,p):=h.ok I.hok;exact{i,r,p.1,z}
 .refine{i.toList,r,{o,I.kIn a o hk,hc,n,by omega},?_};have e:=r.length
  grind
def Inv.abW(I:Inv X pins σ H s)(h:iL X.K H a xs)(h':iL X.K H a ys):xs=ys:=by
 let(S,r,(o,n,e,_,_,d),_):=I.list h;let(i,R,(O,N,E,_,_,D),_):=I.list h';have:S=i:=by grind
 subst this;exact r.inj R
def Inv.abE(I:Inv X pins σ H s)(h:iF X.K H a xs)(h':iF X.K H a ys):xs=ys:=by
 let(S,r,(o,e,_,n,d),_):=I.tuple h;let(i,R,(O,E,_,N,D),_):=I.tuple h';have:S=i:=by grind
 subst this;exact r.inj R
abbrev Cx.aa1(X:Cx)(E:Θ->Ξ->Prop):Cx:={X with xe:=E}
abbrev Cx.nox(X:Cx):Cx:=X.aa1 λ_ _=>False
def Cx.Ok.aa1{X:Cx}(o:X.Ok)(E:Θ->Ξ->Prop):(X.aa1 E).Ok:=
 {o.mod,o.kind,o.glob,o.blt,o.above,o.inj,o.has,o.cab,o.hd,o.frames,o.stk,o.exf,o.bs,o.bsz,o.abT,o.aca,o.aa0,o.frf}
def Cx.Ok.aaB{X:Cx}{E:Θ->Ξ->Prop}(o:(X.aa1 E).Ok):X.Ok:=
 {o.mod,o.kind,o.glob,o.blt,o.above,o.inj,o.has,o.cab,o.hd,o.frames,o.stk,o.exf,o.bs,o.bsz,o.abT,o.aca,o.aa0,o.frf}
def Inv.aa1(I:Inv X pins σ H s)(E:Θ->Ξ->Prop):Inv (X.aa1 E) pins σ H s:={I.ok.aa1 E,I.os,I.bare,I.base,I.loc,I.cell,I.free,I.aax,I.pin,I.hok,I.len}
def Inv.aaB(I:Inv (X.aa1 E) pins σ H s):Inv X pins σ H s:={I.ok.aaB,I.os,I.bare,I.base,I.loc,I.cell,I.free,I.aax,I.pin,I.hok,I.len}
def SP.aaB{D:Ends}(h:SP (X.aa1 E) pins D f s'):SP X pins D f s':=by
 cases f with
 |next=>let(a,H,I,q):=h;exact{a,H,I.aaB,q}
 |brk=>let(a,H,I,q):=h;exact{a,H,I.aaB,q}
 |cont=>let(a,H,I,q):=h;exact{a,H,I.aaB,q}
 |ret u=>let(v,a,H,I,r,q):=h;exact{v,a,H,I.aaB,r,q}
def PE.nox(h:PE X.nox e t):PE X e t:=λp s b H Q I hw =>
 yZ (h p s b H Q (I.aa1 _) hw) (λ_ _ z=>by let(v,a,i,r,q):=z;exact {v,a,i.aaB,r,q}) λ_ _=>False.elim
def PT.nox(h:PT X.nox e t):PT X e t:=λp s b H Q I hw =>
 yZ (h p s b H Q (I.aa1 _) hw) (λ_ _ z=>by let(a,i,q):=z;exact {a,i.aaB,q}) λ_ _=>False.elim
def su.nox{st:Γ Ω}(h:su X.nox st t):su X st t:=λp s a H D I hw =>
 yZ (h p s a H D (I.aa1 _) hw) (λ_ _ q=>q.aaB) λ_ _=>False.elim
section
variable {st:Ω}{rest:Γ Ω}
def xn:TS:=λD a H=>D.nx a H
def GQ(t u:TS):TS:=λD a H=>t {D with nx:=u D} a H
def j1:su X [] xn:=λ_ _ a H _ I h=>vM {a,H,I,h}
def cP(c:PS X st t)(d:su X rest u):su X (st::rest) (GQ t u):=by
 refineλp s e H D I h=>vC<|bZ (c p s e H _ I h) λf S q=>?_;cases f with
 |next =>
  let(a,b,i,q):=q;exact d p S a b D i q
 |ret v=>exact q
 |brk=>exact q
 |cont=>exact q
def iJ(a:PS X st t):su X [st] t:=by
 refineλp s b H D I h=>vC<|bZ (a p s b H D I h) λf S q=>?_;cases f with
 |next=>exact vM q
 |ret v=>lia
 |brk=>lia
 |cont=>lia
def Ny:PS X (.Pass pos) xn:=λ_ _ a H _ I h=>wpAny_Pass {a,H,I,h}
def Inv.quiet(I:Inv X pins σ H s):interactive X.env=false:=by simp[interactive,I.ok.kind]
def UA{x j pos pos'}:PS X (.Expr (.Constant (.str x) j pos) pos') xn:=λ_ s a H _ I h=>wpAny_Expr (wG<|{a,H,I.tok _,h}) I.quiet
def FK(te:TE):TS:=λD a H=>te a H λ_ b=>D.nx a b
def hU(E:PE X e te)(S:swapsWith e none pos.line X.env=pure false:=by rfl):PS X (.Expr e pos) (FK te):=by
 exactλp s a H D I h=>wpAny_Expr_any (bZ (E p s a H _ I h) λv c z=>by let(x,b,i,r1,q):=z;exact {a,b,i,q}) I.quiet S
def Tq(te:TE):TS:=λD a H=>te a H D.rt
def lJ(E:PE X e te):PS X (.Return (↑e) pos) (Tq te):=by
 exactλp s a H D I h=>wpAny_Return_some (bZ (E p s a H _ I h) λv S z=>by let(x,b,i,r1,q):=z;exact {x,a,b,i,r1,q})
def Qe(c:TT)(t u:TS):TS:=λD a H=>c a H λb d=>if b=true then t D a d else u D a d
def rY(hc:PT X c U)(A:su X a t)(B:su X b u):PS X (.If c a b pos) (Qe U t u):=by
 refineλp s e H D I h=>wpAny_If<|bZ (hc p s e H _ I h) λd S z=>?_;let(f,i,q):=z;cases d with
 |true=>exact A p S e f D i q
 |false=>exact B p S e f D i q
end
abbrev TG:=V->St->Hp->(St->Hp->Prop)->Prop
abbrev Xl:=Γ V->St->Hp->(St->Hp->Prop)->Prop
def PG(X:Cx)(T:γ)(t:TG):Prop:=
 ∀(p:Γ (Ψ×Obj))(s:Ξ)(c:St)(H:Hp)(v:V)(u:Θ)(Q:St->Hp->Prop),Inv X p c H s->RelV v u->t v c H Q ->
  wpAny (model X.prog X.w) X.A (assign T X.env u) (λ_ S=>∃a b,Inv X p a b S/\Q a b) X.xe s
def X7(X:Cx)(ts:Γ γ)(t:Xl):Prop:=
 ∀(p:Γ (Ψ×Obj))(s:Ξ)(c:St)(H:Hp)(v:Γ V)(u:Γ Θ)(Q:St->Hp->Prop),Inv X p c H s->aO v u->t v c H Q ->
  wpAny (model X.prog X.w) X.A (assignInOrder ((assignEach ts X.env).map (·.2)) u) (λ_ S=>∃a b,Inv X p a b S/\Q a b) X.xe s
abbrev Xi:=V->V->V->Hp->(Hp->Prop)->Prop
def Xm(X:Cx)(t:Xi):Prop:=
 ∀(p:Γ (Ψ×Obj))(s:Ξ)(b:St)(H:Hp)(o i v:V)(ov I u:Θ)(Q:Hp->Prop),Inv X p b H s->RelV o ov->RelV i I->RelV v u->t o i v H Q ->
  wpAny (model X.prog X.w) X.A (setItem ov I u) (λ_ S=>∃a,Inv X p b a S/\Q a) X.xe s
def tL(i:Nat):TG:=λv a H Q=>Q (a.set i<|↑v) H
def dB(n:X.N.Nodup)(hi:X.N[i]?=↑x)(b:Loc X.env.scope x)(f:X.fn x=true\/X.env.scope.names.lookup x=↑.local:=by first|exact .inl rfl|exact .inr rfl|assumption):PG X (.Name x pos) (tL i):=by
 exactλp s c H v u Q I r h=>wpAny_assign_Name<|B8 I n hi b r (λS a=>{_,H,a,h}) f
def YY:Xl:=λv a H Q=>v=[]/\Q a H
def WN(t:TG)(u:Xl):Xl:=λs c H Q=>∃v r,s=v::r/\t v c H λa b=>u r a b Q
def pd:X7 X [] YY:=by
 intro p s a H v u Q I r h;let(e,h):=h;exact assignInOrder_nil {a,H,I,h}
def dq(c:PG X e t)(d:X7 X es u)
  (S:(assignEach (e::es) X.env).map (·.2)=assign e X.env::(assignEach es X.env).map (·.2):=by rfl):X7 X (e::es) (WN t u):=by
 intro p s g H j U Q I r h;let(v,V,E,h):=h;subst E;cases r with
 |cons r R =>
  rw[S];exact assignInOrder_cons (bZ (c p s g H _ _ _ I r h) λ_ f z=>by let(a,b,i,q):=z;exact(d p f a b _ _ Q i R q))
def Zu(K:Φ)(n:Nat)(t:Xl):TG:=λv b H Q=>∃a x,v=.ref a/\iF K H a x/\x.length=n/\t x b H Q
def uS{k:Nat}(hc:X.calm=true)(h:X7 X es t)
  (N:(assignEach es X.env).length=n:=by rfl)(T:(assignEach es X.env).findIdx? (·.1)=none:=by rfl):PG X (.Tuple es k pos) (Zu X.K n t):=by
 intro p s c H v u Q I r hw;let(a,S,E,q,l,hw):=hw;subst E;cases r;let(i,R,ht,z):=I.tuple q;exact assign_Tuple_tuple (I.ok.hd hc) ht (by simp[N,<-l,R.length]) T λd x=>(h p _ c H S _ Q (I.kept λb o e=>x b o (yQ<|zY e) e:Inv X p c H {s with heap:=d}) (by lia) hw)
def eK(O T:TE)(t:Xi):TG:=λv a H Q=>O a H λo b=>T a b λi c=>t o i v c λd=>Q a d
def Rz(O:PE X o to)(hi:PE X i ti)(S:Xm X t)
  (A:∀v,assign (.Subscript o i pos) X.env v=(do
   let ov <- holding [v]<|eval o X.env
   let V <- holding [v,ov]<|eval i X.env
   standAt pos
   holding [v,ov,V] (setItem ov V v)
   release [v,ov,V] []):=by intro _;rfl):PG X (.Subscript o i pos) (eK to ti t):=λp s a H v u Q I r h=>zV<|xW (bZ (O p s a H _ I h) λov k z=>by let(x,b,e,r1,q):=z;exact(zV<|xW (bZ (hi p k a b _ e q) λV l z=>by let(y,c,f,R,q2):=z;exact(zV<|kZ<|zV<|xW (bZ (S p l a c x y v ov V u _ f r1 R r q2) λ_ m z=>by let(d,g,j):=z;exact(wpAny_release {a,d,g,j}))))))
def Di(te:TE)(g:TG):TS:=λD a H=>te a H λx b=>g x a b D.nx
def Dz(E:PE X e te)(G:PG X tg g)(S:swapsWithSole [tg] e pos.line X.env=pure false:=by rfl)(hw:swappedStores [tg] e X.env=pure none:=by rfl)
  (c:(assignEach [tg] X.env).map (·.2)=[assign tg X.env]:=by rfl):PS X (.Assign [tg] e pos) (Di te g):=by
 refineλp s a H D I h=>wpAny_Assign_stores (bZ (E p s a H _ I h) λv d z=>?_) S hw;let(x,b,i,r1,Q):=z;rw[c];exact bZ (G p d a b x v _ i r1 Q) λ_ f q=>q
def lb(n:X.N.Nodup)(hi:X.N[i]?=↑x)(d:Loc X.env.scope x)(E:PE X e te)(S:swapsWith e (↑(.Name x pos')) pos.line X.env=pure false:=by rfl)(f:X.fn x=true\/X.env.scope.names.lookup x=↑.local:=by first|exact .inl rfl|exact .inr rfl|assumption) :
  PS X (.Assign [.Name x pos'] e pos) (Di te<|tL i):=by
 exactλp s g H D I h=>wpAny_Assign_Name (bZ (E p s g H _ I h) λv j z=>by let(y,a,b,r1,q):=z;exact(B8 b n hi d r1 (λk c=>{_,a,c,q}) f)) S
def Sz(c:TT)(tb:TS):TS:=λD a H=>∃W:Nat->St->Hp->Prop,(∃m,W m a H)/\∀m a H,W m a H ->
 c a H λb f=>if b=true then ∃N:St->Hp->Prop,(∀d e,N d e->∃M,M<m/\W M d e)/\tb {D with nx:=N,ct:=N,bk:=D.nx} a f else D.nx a f
def Md(P:PassesOwn (model X.prog X.w) X.A X.env X.xe)(hc:PT X c U)(B:su X body tb):PS X (.While c body [] pos) (Sz U tb):=by
 intro p s G H D I h;let(W,(y,E),turn):=h;refine wpAny_While<|codeAny_whileLoop (λn S=>∃g l,Inv X p g l S/\W n g l) ?_ y {G,H,I,E};rintro n z ⟨d,o,x,F⟩;refine jH P<|bZ (hc p z d o _ x<|turn n d o F) λb C z=>?_;let(r,t,q2):=z;cases b with
 |true =>
  let(N,u,q2):=q2;refine jH P<|bZ (B p C d r _ t q2) λf J q=>?_;cases f with
  |next =>
   let(a,e,i,j):=q;let(M,m,k):=u a e j;exact{M,m,a,e,i,k}
  |cont =>
   let(a,e,i,j):=q;let(M,m,k):=u a e j;exact{M,m,a,e,i,k}
  |brk=>exact q
  |ret v=>exact q
 |false =>
  exact vM {d,r,t,q2}
structure It where
 go:Nat->Hp->Prop
 yld:Nat->Hp->V->Hp->Prop
 stop:Nat->Hp->Prop
def dM(X:Cx)(pins:Γ (Ψ×Obj))(H:Hp)(b:Ψ):Prop:=
 H b=none/\b≠X.env.locals/\b∉X.fs/\(b∈X.ex\/X.aar.heap.objs.size<=b)/\(∀x c,X.env.cells.lookup x=↑c->c≠b)/\∀p∈X.pn++pins,p.1≠b
def Inv.abq(I:Inv X pins σ H s)(B:s.heap.objs.size<=b)(n:H' b=none):dM X pins H' b:=by
 refine{n,jF<|zP I.lt B,I.air B,.inr<|yD I.sz B,λx c e z=>?_,λp P z=>(absurd (zP (zY (I.pin p P).1) (by rw[z];lia))<|qC _)}
 .let(v,q):=I.cell x c e;exact absurd (zP q.lt (by rw[z];lia))<|qC _
structure Turn(P:Program)(w:World)(K:W.Frag)(tg:Expr)(J:It)(fp:List Addr)(it:Addr)(tn:Nat->Heap->Prop):Prop where
 mem:it∈fp
 obj:∀i h,tn i h->∀b∈fp,∃o,h.get? b=↑o/\∀v,o.data≠.cell v
 keep:∀i h h',tn i h->(∀b∈fp,∀o,h.get? b=↑o->h'.get? b=↑o)->tn i h'
 item:∀(X:Cx),X.prog=P->X.w=w->X.K=K->X.calm=true->∀(i:Nat)(pins:Γ (Ψ×Obj))(s:Ξ)(σ:St)(H:Hp)(E:Θ->Ξ->Prop),Inv X pins σ H s->(∀b∈fp,dM X pins H b)->tn i s.heap->J.go i H ->
  wpAny (model P w) X.A (pyNext<|.ref it) (λr s1=>∃u,r=↑u /\
   wpAny (model P w) X.A (letOwnedTupleGo tg (.ref it) u) (λ_ s2=>∃x H',Inv X pins σ H' s2/\RelV x u/\J.yld i H x H'/\tn (i+1) s2.heap/\∀b∈fp,H' b=none) E s1) E s
 done:∀(X:Cx),X.prog=P->X.w=w->X.K=K->X.calm=true->∀(i:Nat)(pins:Γ (Ψ×Obj))(s:Ξ)(σ:St)(H:Hp)(E:Θ->Ξ->Prop),Inv X pins σ H s->(∀b∈fp,dM X pins H b)->tn i s.heap->J.stop i H ->
  wpAny (model P w) X.A (pyNext<|.ref it) (λr s1=>r=none/\Inv X pins σ H s1) E s
 self:∀(A:ξ)(i:Nat)(s:Ξ)(Q:Θ->Ξ->Prop)(E:Θ->Ξ->Prop),tn i s.heap->Q (.ref it) s->wpAny (model P w) A (pyIter<|.ref it) Q E s
abbrev TI:=St->Hp->(It->Hp->Prop)->Prop
def ZV(X:Cx)(pins:Γ (Ψ×Obj))(σ:St)(tg:γ)(R:It->Hp->Prop)(i:Θ)(s2:Ξ):Prop:=
 ∃ (t:Ψ) (f:Γ Ψ) (n:Nat->ι->Prop) (J:It) (H:Hp),i=.ref t/\Inv X pins σ H s2/\Turn X.prog X.w X.K tg J f t n/\n 0 s2.heap/\(∀b∈f,dM X pins H b)/\R J H
def PI(X:Cx)(tg iter:γ)(wi:TI):Prop:=
 ∀(p:Γ (Ψ×Obj))(s:Ξ)(a:St)(H:Hp)(R:It->Hp->Prop),Inv X p a H s->wi a H R ->
  wpAny (model X.prog X.w) X.A (eval iter X.env) (λv S=>wpAny (model X.prog X.w) X.A (pyIter v) (ZV X p a tg R) X.xe S) X.xe s
def Jl(O:s.heap.get? it=↑o)(hc:o.cls=.type n)(d:o.data=.fields vs)
  (N:["enumerate","zip","dict_itemiterator","dict_reverseitemiterator","odict_iterator","itertools.zip_longest","itertools.pairwise"].contains n=false)(H:Q () s):wpAny M A (letOwnedTupleGo tg (.ref it) u) Q E s:=by
 cases tg<;>first
  |exact zW H
  | (cases u<;>first
    |exact zW H
    | (refine zV (wpAny_load O ?_)
       rw[hc,d];show wpAny M A (if(["enumerate","zip","dict_itemiterator","dict_reverseitemiterator","odict_iterator","itertools.zip_longest","itertools.pairwise"].contains n&&vs[0]?==some _)=true then _ else _) Q E s;rw[yM<|by grind];exact zW H))
def YK(K:Φ)(a:Ψ):It:=
 {λi H=>∃s x,iL K H a s/\s[i]?=↑x,λi H x b=>b=H/\∀s,iL K H a s->s[i]?=↑x,λi H=>∃s,iL K H a s/\s.length<=i}
def Zo(K:Φ)(a:Ψ):It:=
 {λi H=>∃s x,iF K H a s/\s[i]?=↑x,λi H x b=>b=H/\∀s,iF K H a s->s[i]?=↑x,λi H=>∃s,iF K H a s/\s.length<=i}
def Yg(lo:Int)(n:Nat):It:={λi _=>i<n,λi H x a=>a=H/\x=.int (lo+i),λi _=>n<=i}
def Hu{K:Φ}(a t:Ψ):Turn P w K tg (YK K a) [t] t (λi h=>h.IsListIter t a i) where
 mem:=by simp
 obj:=λi h st b B=>by
  have e:b=t:=by simpa using B
  subst e;let(o,e,c,d):=st;exact{o,e,λv z=>by rw[d]at z;cases z}
 keep:=λi h f st k=>st.at λo e=>k t (by simp) o e
 item:=by
  intro X l hw j hc i S s y H E I F st G;subst l hw j;let(J,x,q,m):=G;let(n,r,p,Z):=I.list q;let(u,U,R):=r.get m;let(g,f1,f2,f3,f4,f5):=F t (by simp);refine wpAny_pyNext_list_item st p.isList (x:=u) (by simpa using U) λf T D=>?_;have A:Inv X S y H {s with heap:=f}:=I.turned (t':=s.toks) (λb o B e=>(D.2 b B).trans e) g f1 f3 f4 f5;let(o,e,c,d):=id T;exact{u,rfl,Jl (s:={s with heap:=f}) e c d (by decide) {x,H,A,R,{rfl,λM Y=>by rw[I.abW Y q];exact m},T,λb B=>(F b B).1}}
 done:=by
  intro X l hw j hc i S s y H E I F st G;subst l hw j;let(J,q,m):=G;let(n,r,p,Z):=I.list q;let(g,f1,f2,f3,f4,f5):=F t (by simp);have L:=r.length;exact wpAny_pyNext_list_end (I.ok.hd hc) st p.isList (by simp;lia) λf C=>{rfl,I.turned (t':=s.toks) (λb o B e=>C b o B e) g f1 f3 f4 f5}
 self:=λ_ _ _ _ _ st h=>wpAny_pyIter_listiter st h
def Ea{K:Φ}(a t:Ψ):Turn P w K tg (Zo K a) [t] t (λi h=>h.IsTupleIter t a i) where
 mem:=by simp
 obj:=λi h st b B=>by
  let(o,e,c,d):=st
  grind
 keep:=λi h m st k=>st.at λo=>k t (by simp) o
 item:=by
  intro X j hw g hc i S s D H E I f st G;subst j hw g;let(C,x,q,n):=G;let(l,r,p,z):=I.tuple q;let(u,U,R):=r.get n;let(F,f1,f2,f3,f4,f5):=f t (by simp);refine wpAny_pyNext_tuple_item st (p) (x:=u) (by grind) λm T A=>?_;let(o,e,c,d):=id T;exact{u,rfl,Jl e c d (by rfl) {x,H,I.turned (λb o B=>(A.2 b B).trans) F f1 f3 f4 f5,R,{rfl,λY y=>by rw[I.abE y q];lia},T,λb B=>(f b B).1}}
 done:=by
  intro X j hw g hc i S s D H E I f st G;subst j hw g;let(C,q,n):=G;let(l,r,p,z):=I.tuple q;let(F,f1,f2,f3,f4,f5):=f t (by simp);have L:=r.length;exact wpAny_pyNext_tuple_end (I.ok.hd hc) st (p) (by grind) λm v=>{rfl,I.turned (v) F f1 f3 f4 f5}
 self:=λ_ _ _ _ _=>wpAny_pyIter_tupleiter
def Dx{K:Φ}(T:Ψ)(lo:Int)(n:Nat):Turn P w K tg (Yg lo n) [T] T (λi h=>IsRangeIter h T (lo+i*1) (n-i) 1) where
 mem:=by simp
 obj:=λi h st b B=>by
  have e:=by simpa using B
  subst e;exact⟨_,st,λv z=>by
   cases z⟩
 keep:=λi h a st k=>k T (by simp) _ st
 item:=by
  intro X j hw d hc i p s m H E I f st g;let(F,f1,f2,f3,f4,f5):=f T (by simp);refine(Walks.range (I.ok.hd hc) T lo 1 n).item i s _ _ g st λv a q V S l=>?_;let(t,rfl):=V;refine{_,rfl,Jl S rfl rfl (by rfl) {.int _,H,(I.turned (λb o B=>l b o<|by grind) F f1 f3 f4 f5),{t,?_},{rfl,rfl},S,λb B=>(f b B).1}};simp
 done:=by
  intro X j hw d hc i p s m H E I f st g;let(F,f1,f2,f3,f4,f5):=f T (by simp);exact wpAny_pyNext_range_end (I.ok.hd hc) st (by have:n<=i:=g;lia) λa c=>{rfl,I.turned (c) F f1 f3 f4 f5}
 self:=λ_ _ _ _ _=>wpAny_pyIter_rangeiter
def IU{lo:Int}{t u v:Tok}{k:Nat}(I:Inv X pins σ H s)(a:-(2^62)<=lo)(c:lo<2^62)(d:-(2^62)<=hi)(h4:hi<2^62)
  (q:R (Yg lo (hi-lo).toNat) H):wpAny (model X.prog X.w) X.A (pyIter<|.ref s.heap.objs.size) (ZV X pins σ tg R) E {s with heap:=s.heap.push {cls:=.type "range",data:=.fields #[.int lo t,.int hi u,.int 1 v]},toks:=k}:=by
 apply wpAny_pyIter_range (.new ..)<|small_one a c d h4;have i:Inv X pins σ H {s with heap:=s.heap.push {cls:=.type "range",data:=.fields #[.int lo t,.int hi u,.int 1 v]},toks:=k}:=I.kept λb o=>zU _;refine⟨(s.heap.push _).objs.size,[(s.heap.push _).objs.size],_,_,H,rfl,
  i.kept λb o=>zU _,Dx _ lo _,?_,λb B=>?_,q⟩
 .rw[(show lo+(0:Nat)*1=lo by lia),(show(hi-lo).toNat-(0:Nat)=Builtin.Range.rangeSize lo hi 1 by rw[rangeSize_one];split<;>lia)];exact zX _ rfl
 .have e:b=(s.heap.push {cls:=.type "range",data:=.fields #[.int lo t,.int hi u,.int 1 v]}).objs.size:=by grind
  subst e;exact i.abq (yL _)<|i.hok.fresh<|yL _
def VM(ta:TA):TI:=λb H R=>ta b H λv a=>∃j:Int,v=[.int j]/\-(2^62)<=j/\j<2^62/\R (Yg 0 j.toNat) a
def Iq(g:Gl X "range")(m:X.mg "range"=none)(A:PA X [a] ta)(S:starEach [a] X.env=[(false,eval a X.env)]:=by rfl):PI X tg (.Call (.Name "range" p) [a] [] pos) (VM ta):=by
 refineλP s c H R I h=>Call_<|kr I g m boot_range<|qN (bZ (A pos P s c H _ I h) λu f z=>?_) S rfl;let(v,d,i,r1,Q):=z;let(j,e,Q,q2,q):=Q;subst e;cases r1 with
 |cons r b =>
  cases b;let(t,rfl):=r;exact call_range_1<|IU i (by lia) (by lia) Q q2<|by simpa using q
def Zy(wi:TI)(g:TG)(tb:TS):TS:=λD a H=>wi a H λJ e=>∃W:Nat->Nat->St->Hp->Prop,(∃m,W 0 m a e)/\∀i m a H,W i m a H ->
 (J.stop i H/\D.nx a H)\/(J.go i H/\∃N:St->Hp->Prop,(∀c b,N c b->∃M,M<m/\W (i+1) M c b)/\∀x b,J.yld i H x b->g x a b λd f=>tb {D with nx:=N,ct:=N,bk:=D.nx} d f)
def AA(fp:Γ Ψ)(h:ι):Γ (Ψ×Obj):=fp.filterMap λb=>(h.get? b).map λo=>(b,o)
def fT(H:b∈fp)(e:h.get? b=↑o):(b,o)∈AA fp h:=List.mem_filterMap.mpr {b,H,by rw[e];rfl}
def Hl(P:p∈AA fp h):p.1∈fp/\h.get? p.1=↑p.2:=by
 let(b,H,e):=List.mem_filterMap.mp P;cases q:h.get? b with
 |none=>rw[q]at e;cases e
 |some o =>
  rw[q]at e;have E:(b,o)=p:=xC e;subst E;exact{H,q}
def Inv.pinned(I:Inv X pins σ H s)(F:∀b∈fp,dM X pins H b)(O:∀b∈fp,∃o,s.heap.get? b=↑o/\∀v,o.data≠.cell v):Inv X (pins++AA fp s.heap) σ H s:=
 I.abG λp P=>(List.mem_append.mp P).elim (λz=>I.pin p<|yE _ z) λz=>by
  let(B,e):=Hl z;let(f,f1,f2,_):=F _ B;let(o,E,d):=O _ B;rw[e]at E;cases E;exact{e,f,f1,f2,d}
def Inv.aaN(I:Inv X (pins++pl) σ H s):Inv X pins σ H s:=I.abG λp P=>I.pin p<|yE _<|qG _ P
def KR{pos:Pos}(P:PassesOwn (model X.prog X.w) X.A X.env X.xe)(hc:X.calm=true)(hi:PI X tg iter wi)(hg:PG X tg g)(B:su X body tb)
  (hs:∀x,foldedSetIterable iter X.env x=pure x:=by intro _;rfl):PS X (.For tg iter body [] pos) (Zy wi g tb):=by
 refineλp s σ H D I h=>wpAny_For (bZ (hi p s σ H _ I h) λv s1 h1=>bZ h1 λitv s2 h2=>?_) hs;let(it,E,tn,J,H2,e,I2,T,L,f2,W,(m0,w0),turn):=h2;subst e;have V:∀{q:Hp},(∀b∈E,q b=none)->∀b∈E,dM X p q b:=λhn b B=>{hn b B,(f2 b B).2}
 refine codeAny_forLoop_any (λn Y=>∃i k q,Inv X p k q Y/\tn i Y.heap/\(∀b∈E,q b=none)/\W i n k q) ?_ m0 {0,σ,H2,I2,L,λb B=>(f2 b B).1,w0};rintro n Z ⟨i,l,C,U,y,F,w3⟩;rcases turn i n l C w3 with ⟨z,qn⟩|⟨go,N,hN,step⟩
 .refine jH P<|bZ (T.done X rfl rfl rfl hc i p Z l C X.xe U (V F) y z) λr s4 z=>?_;let(R,I4):=z;subst R;exact vM {l,C,I4,qn}
 .refine jH P<|bZ (T.item X rfl rfl rfl hc i p Z l C X.xe U (V F) y go) λr s4 z=>?_;let(u,R,h4):=z;subst R;refine jH P<|bZ h4 λ_ s5 ⟨x,O,I5,r5,y5,S,G⟩=>(jH P<|bZ (hg _ s5 l O x u _ (I5.pinned (V G)<|T.obj _ _ S) r5<|step x O y5) λ_ s6 ⟨M,H6,I6,q6⟩=>(jH P<|bZ (B _ s6 M H6 _ I6 q6) λf K Q=>?_));have again:∀{a:St}{c:Hp},Inv X _ a c K->N a c->∃m,m<n/\∃i k q,Inv X p k q K/\tn i K.heap/\(∀b∈E,q b=none)/\W i m k q:=λ{a c}j t=>by
   let(m',hm,w7):=hN a c t;refine{m',hm,i+1,a,c,j.aaN,T.keep _ _ _ S λb B o e=>(j.pin _<|yE _<|yE _<|fT B e).1,λb B=>?_,w7};let(o,e,d):=T.obj _ _ S b B;exact(j.pin _<|yE _<|yE _<|fT B e).2.1
  cases f with
  |next=>let(a,c,j,t):=Q;exact again j t
  |cont=>let(a,c,j,t):=Q;exact again j t
  |brk=>let(a,c,j,Q):=Q;exact{a,c,j.aaN,Q}
  |ret v=>let(x7,a,c,j,r7,Q):=Q;exact{x7,a,c,j.aaN,r7,Q}
abbrev R2:=V->V->Hp->VK->Prop
def iG(X:Cx)(f:Θ->Θ->Sem Θ)(r:R2):Prop:=
 ∀(p:Γ (Ψ×Obj))(s:Ξ)(a:St)(H:Hp)(x y:V)(v u:Θ)(Q:VK),Inv X p a H s->RelV x v->RelV y u->r x y H Q ->
  wpAny (model X.prog X.w) X.A (f v u) (EP X p a Q) X.xe s
def ZL(X:Cx)(f:Θ->Sem Θ)(r:V->Hp->VK->Prop):Prop:=
 ∀(p:Γ (Ψ×Obj))(s:Ξ)(a:St)(H:Hp)(x:V)(v:Θ)(Q:VK),Inv X p a H s->RelV x v->r x H Q ->
  wpAny (model X.prog X.w) X.A (f v) (EP X p a Q) X.xe s
def fF(X:Cx)(f:Θ)(r:Γ V->Hp->VK->Prop):Prop:=
 ∀(p:Γ (Ψ×Obj))(s:Ξ)(a:St)(H:Hp)(x:Γ V)(u:Γ Θ)(Q:VK),Inv X p a H s->aO x u->r x H Q ->
  wpAny (model X.prog X.w) X.A (call f u) (EP X p a Q) X.xe s
def Vg(r:R2)(ta tb:TE):TE:=λa H Q=>ta a H λx b=>tb a b λy c=>r x y c Q
def tUn(r:V->Hp->VK->Prop)(ta:TE):TE:=λb H Q=>ta b H λx a=>r x a Q
def rI(C:Int->Int->Prop)(g:Int->Int->V):R2:=λx y H Q=>∃i j,x=.int i/\y=.int j/\C i j/\Q (g i j) H
def Nc(g:Int->Int->V):R2:=λx y H Q=>∃i j,x=.int i/\y=.int j/\Q (g i j) H
def rU(g:Int->V):V->Hp->VK->Prop:=λx H Q=>∃i,x=.int i/\Q (g i) H
def UH(j:PE X a ta)(B:PE X b tb){pins:Γ _}{σ:St}{R:V->V->Hp->Prop}(I:Inv X pins σ H s)
  (h:ta σ H λx d=>tb σ d λy c=>R x y c){Q:Θ->Ξ->Prop}{f:Θ->Θ->Sem Θ}
  (F:∀v u s2 x y c,Inv X pins σ c s2->RelV x v->RelV y u->R x y c->wpAny (model X.prog X.w) X.A (f v u) Q X.xe s2) :
  wpAny (model X.prog X.w) X.A (eval a X.env) (λv i=>wpAny (model X.prog X.w) X.A (eval b X.env) (λu P=>wpAny (model X.prog X.w) X.A (f v u) Q X.xe P) X.xe i) X.xe s:=by
 refine bZ (j pins s σ H _ I h) λv S z=>?_;let(x,d,e,r1,q):=z;refine bZ (B pins S σ d _ e q) λu s2 z=>?_;let(y,c,g,r,q2):=z;exact F v u s2 x y c g r1 r q2
def EF(o:iG X (binaryOp op) r)(A:PE X a ta)(B:PE X b tb):PE X (.BinOp a op b pos) (Vg r ta tb):=by
 exactλp s d H Q I h=>wpAny_BinOp<|UH A B I h λv u S x y c i R Y=>o p S d c x y v u Q i R Y
def Rp(o:ZL X (unaryOp op) r)(A:PE X a ta):PE X (.UnaryOp op a pos) (tUn r ta):=by
 exactλp s b H Q I h=>UnaryOp_ (bZ (A p s b H _ I h) λv S z=>by let(x,c,i,r1,q):=z;exact o p S b c x v Q i r1 q)
def Zq{f:Θ->Θ->Sem Θ}{C:Int->Int->Prop}{g:Int->Int->Int}
  (r:∀i j t u s Q E,C i j->Q (.int (g i j) s.toks) {s with toks:=s.toks+1}->wpAny (model X.prog X.w) X.A (f (.int i t)<|.int j u) Q E s) :
  iG X f (rI C λi j=>.int<|g i j):=by
 intro p s a H x y v u Q I R Y h;let(i,j,rfl,rfl,hc,q):=h;let(t,rfl):=R;let(T,rfl):=Y;exact r i j t T s _ _ hc {.int _,H,I.tok _,{_,rfl},q}
def WR{f:Θ->Θ->Sem Θ}{g:Int->Int->Int}
  (r:∀i j t u s Q E,Q (.int (g i j) s.toks) {s with toks:=s.toks+1}->wpAny (model X.prog X.w) X.A (f (.int i t)<|.int j u) Q E s) :
  iG X f (Nc λi j=>.int<|g i j):=by
 intro p s a H x y v u Q I R Y h;let(i,j,rfl,rfl,q):=h;let(t,rfl):=R;let(T,rfl):=Y;exact r i j t T s _ _ {.int _,H,I.tok _,{_,rfl},q}
def U9{f:Θ->Θ->Sem Θ}{g:Int->Int->θ}
  (r:∀i j t u s Q E,Q (.bool<|g i j) s->wpAny (model X.prog X.w) X.A (f (.int i t)<|.int j u) Q E s) :
  iG X f (Nc λi j=>.bl<|g i j):=by
 intro p s a H x y v u Q I R Y h;let(i,j,rfl,rfl,q):=h;let(t,rfl):=R;let(T,rfl):=Y;exact r i j t T s _ _ {.bl _,H,I,rfl,q}
def NF(i j:Int):Prop:=0<j/\j<1073741824
def wb(i j:Int):Prop:=(-(2^64)<i/\i<2^64)\/(-(2^64)<j/\j<2^64)
def wb.ok(h:wb i j):IntMulOk i j:=by
 rcases h with ⟨H,a⟩|⟨H,a⟩
 .exact .of_left<|intBits_le_64 H a
 .exact .of_right<|intBits_le_64 H a
def To:iG X (binaryOp .Add) (Nc λi j=>.int<|i+j):=WR λ_ _ _ _ _ _ _=>add_int
def RN:iG X (binaryOp .Sub) (Nc λi j=>.int<|i-j):=WR λ_ _ _ _ _ _ _=>sub_int
def RG:iG X (binaryOp .Mult) (rI wb λi j=>.int<|i*j):=Zq λ_ _ _ _ _ _ _ hc q=>mul_int q hc.ok
def Qd:iG X (binaryOp .FloorDiv) (rI NF λi j=>.int<|i/j):=Zq λi j _ _ _ _ _ hc q=>by
 have H:=hc.1;have a:=hc.2;exact floordiv_int (by lia) (by rw[Int.fdiv_eq_ediv_of_nonneg i<|by lia];lia)<|.inl<|PyProof.noPylong_small<|by lia
def R3:iG X (binaryOp .Mod) (rI (λ_ j=>0<j) λi j=>.int<|i%j):=Zq λi j _ _ _ _ _ hc q=>by
 exact mod_int' (by lia) (by rw[Int.fmod_eq_emod_of_nonneg i<|by lia];lia)
def unI{f:Θ->Sem Θ}{g:Int->Int}
  (r:∀i t s Q E,Q (.int (g i) s.toks) {s with toks:=s.toks+1}->wpAny (model X.prog X.w) X.A (f<|.int i t) Q E s) :
  ZL X f (rU λi=>.int<|g i):=by
 intro p s a H x v Q I R h;let(i,rfl,q):=h;let(t,rfl):=R;exact r i t s _ _ {.int _,H,I.tok _,{_,rfl},q}
def Kb:ZL X (unaryOp .USub) (rU λi=>.int<|-i):=unI λ_ _ _ _ _=>neg_int
def ki:V->V->θ
 |.non,.non=>true|.non,.int _=>true|.int _,.non=>true|.non,.bl _=>true|.bl _,.non=>true|.non,.str _=>true|.str _,.non=>true
 |.int _,.int _=>true|.bl _,.bl _=>true|.str _,.str _=>true|.byt _,.byt _=>true
 |.int _,.str _=>true|.str _,.int _=>true|.bl _,.str _=>true|.str _,.bl _=>true
 |_,_=>false
def rNe:R2:=λx y H Q=>ki x y=true/\Q (.bl<|!decide (x=y)) H
def Oy:decide (V.int i=V.int j)=(i==j):=by
 rw[kP];simp
def SZ:decide (V.bl i=V.bl j)=(i==j):=by
 rw[kP];simp
def NI:decide (V.str i=V.str j)=(i==j):=by
 rw[kP];simp
def Qo:decide (V.byt i=V.byt j)=(i.toList==j.toList):=by
 rw[kP];simp
def dG(I:Inv X pins σ H s)(q:Q (.bl k) H)(e:k=k'):EP X pins σ Q (.bool k') s:=by
 subst e;exact{.bl k,H,I,rfl,q}
def XM:iG X (compareOp .NotEq) rNe:=by
 intro p s a H x y v u Q I R r h;let(S,q):=h;cases x with
 |non =>
  cases R;cases y with
  |non=>cases r;exact PySem.EqNone.ne_none_none (dG I q<|by rfl)
  |bl j=>cases r;exact PySem.EqNone.ne_none_bool (dG I q<|by rfl)
  |int j=>let(T,rfl):=r;exact PySem.EqNone.ne_none_int (dG I q<|by rfl)
  |str j=>let(T,rfl):=r;exact PySem.EqNone.ne_none_str (dG I q<|by rfl)
  |_=>exact absurd (S) yY
 |bl i =>
  cases R;cases y with
  |non=>cases r;exact PySem.EqNone.ne_bool_none (dG I q<|by rfl)
  |bl j=>cases r;exact ne_bool (dG I q<|qZ not SZ)
  |str j=>let(T,rfl):=r;exact PySem.EqMixed.ne_bool_str (dG I q<|by rfl)
  |_=>exact absurd (S) yY
 |int i =>
  let(t,rfl):=R;cases y with
  |non=>cases r;exact PySem.EqNone.ne_int_none (dG I q<|by rfl)
  |int j=>let(T,rfl):=r;exact ne_int (dG I q<|qZ not Oy)
  |str j=>let(T,rfl):=r;exact PySem.EqMixed.ne_int_str (dG I q<|by rfl)
  |_=>exact absurd (S) yY
 |str i =>
  let(t,rfl):=R;cases y with
  |non=>cases r;exact PySem.EqNone.ne_str_none (dG I q<|by rfl)
  |bl j=>cases r;exact PySem.EqMixed.ne_str_bool (dG I q<|by rfl)
  |int j=>let(T,rfl):=r;exact PySem.EqMixed.ne_str_int (dG I q<|by rfl)
  |str j=>let(T,rfl):=r;exact ne_str (dG I q<|qZ not NI)
  |_=>exact absurd (S) yY
 |byt i =>
  let(t,rfl):=R;cases y with
  |byt j=>let(T,rfl):=r;exact W.ne_bytes (dG I q<|qZ not Qo)
  |_=>exact absurd (S) yY
 |_=>cases y<;>exact absurd (S) yY
def LV:iG X (compareOp .Lt) (Nc λi j=>.bl<|decide (i<j)):=U9 λ_ _ _ _ _ _ _=>lt_int
def IM:iG X (compareOp .LtE) (Nc λi j=>.bl<|decide (i<=j)):=U9 λ_ _ _ _ _ _ _=>le_int
def QO:iG X (compareOp .Gt) (Nc λi j=>.bl<|decide (j<i)):=U9 λ_ _ _ _ _ _ _=>gt_int
def IL:iG X (compareOp .Is) (λx y H Q=>y=.non/\Q (.bl<|decide (x=.non)) H):=by
 intro p s a H x y v u Q I r R h;let(rfl,q):=h;cases R;refine is_none_gen<|dG I q ?_;cases x<;>(let(t,rfl):=r;rfl)
def Fm:iG X (compareOp .IsNot) (λx y H Q=>y=.non/\Q (.bl<|!decide (x=.non)) H):=by
 intro p s a H x y v u Q I r R h;let(rfl,q):=h;cases R;refine isnot_none_gen<|dG I q ?_;cases x<;>(let(t,rfl):=r;rfl)
def isObj:HO->θ
 |.lst _=>true
 |.ins _ _ _=>true
 |_=>false
def wq(I:Inv X pins σ H s)(h:H a=↑o)(p:isObj o=true):∃b,s.heap.get? a=↑b/\b.cls≠.type "tuple":=by
 cases o with
 |lst x =>
  obtain⟨_,i,n,_,e⟩:x.length<=sizeLine/\∃ (i:Γ Θ) (n:Nat),aO x i/\s.heap.get? a=↑_:=I.hok a _ h;exact{_,e,(by show Value.type _≠.type _;decide +kernel)}
 |ins C d fs =>
  let(_,_,_,e,_):=(I.hok a _ h)
  grind
 |_=>exact absurd (show false=true from p) yY
def iG.or(h:iG X f r)(h':iG X f U):iG X f (λx y H Q=>r x y H Q\/U x y H Q):=by
 intro p s a H x y v u Q I R Y q;rcases q with q|q
 .exact h p s a H x y v u Q I R Y q
 .exact h' p s a H x y v u Q I R Y q
def fA(b:γ)(h:op≠.In:=by decide)(H:op≠.NotIn:=by decide):behindInMarks op b=false:=by
 have e:(op==.In)=false:=by grind
 cases b<;>simp[behindInMarks,e,(show(op==CmpOp.NotIn)=false by grind)]
def Pw(o:iG X (compareOp op) r)(A:PE X a ta)(B:PE X b tb)(m:behindInMarks op b=false):PE X (.Compare a [op] [b] pos) (Vg r ta tb):=by
 exactλp s d H Q I h=>wpAny_Compare1 (UH A B I h λv u S x y c i R Y=>o p S d c x y v u Q i R Y) m
def QW(t:TE):TT:=λb H Q=>t b H λx a=>∃k,x=.bl k/\Q k a
def sN(o:iG X (compareOp op) r)(A:PE X a ta)(B:PE X b tb)(M:behindInMarks op b=false):PT X (.Compare a [op] [b] pos) (QW<|Vg r ta tb):=by
 intro p s d H Q I h;refine wpAny_isTrue_Compare1 (bZ (A p s d H _ I h) λv S ⟨x,f,j,r1,q⟩=>bZ (B p S d f _ j q) λu w ⟨y,g,l,R,q2⟩ =>
  bZ (o p w d g x y v u _ l r1 R q2) λc C ⟨z,i,m,t,k,e,n⟩=>?_) M
 subst e;cases t;exact xV ⟨i,m,n⟩
def Dj(r R:R2)(ta tb t:TE):TE:=λa H Q=>ta a H λx c=>tb a c λy d=>r x y d λz b=>∃k,z=.bl k /\
 (if k=true then t a b λw e=>R y w e Q else Q (.bl false) b)
def Lf(O:iG X (compareOp op) r)(o:iG X (compareOp U) r')(A:PE X a ta)(B:PE X b tb)(hc:PE X c tc)
  (M:lastMarks [op,U] [b,c]=false:=by with_unfolding_all rfl):PE X (.Compare a [op,U] [b,c] pos) (Dj r r' ta tb tc):=by
 intro p s f H Q I h;refine Compare_chain (bZ (A p s f H _ I h) λv S ⟨x,j,n,r1,C⟩=>chain_link (bZ (B p S f j _ n C) λu G ⟨y,l,t,R,q2⟩ =>
  bZ (O p G f l x y v u _ t r1 R q2) λd J ⟨z,g,i,E,k,e,q⟩=>?_)) M
 subst e;cases E;apply xV;cases k with
 |false=>exact ite_ff {.bl false,g,i,rfl,q}
 |true=>exact ite_tt<|chain_last (bZ (hc p J f g _ i q) λW K z=>by let(Z,m,w,F,D):=z;exact o p K f m y Z u W Q w R F D)
def Lp(O:iG X (compareOp op) r)(o:iG X (compareOp U) r')(D:PE X a ta)(F:PE X b tb)(hc:PE X c tc)
  (M:lastMarks [op,U] [b,c]=false:=by with_unfolding_all rfl):PT X (.Compare a [op,U] [b,c] pos) (QW<|Dj r r' ta tb tc):=by
 intro p s f H Q I h;refine isTrue_chain (bZ (D p s f H _ I h) λv T ⟨x,j,t,r1,J⟩=>test_link (bZ (F p T f j _ t J) λu V ⟨y,l,w,R,q2⟩ =>
  bZ (O p V f l x y v u _ w r1 R q2) λd W ⟨z,g,i,N,k,e,q⟩=>?_)) M
 subst e;cases N;apply xV;cases k with
 |false =>
  let(k',E,G):=q;cases E;exact ite_ff {g,i,G}
 |true =>
  refine ite_tt<|test_last<|bZ (hc p W f g _ i q) λZ Y ⟨z',m,A,P,K⟩=>bZ (o p Y f m y z' u Z _ A R P K) λd' s5 z=>?_;let(z2,n,B,S,k2,C,L):=z;subst C;cases S;exact xV {n,B,L}
def zz:sizeLine<2^63:=by decide
def vals1(r:aO [x] us):∃u,us=[u]/\RelV x u:=by
 cases r with
 |cons r1 R=>cases R;exact{_,rfl,r1}
def vals2(r:aO [x,y] us):∃u w,us=[u,w]/\RelV x u/\RelV y w:=by
 cases r with
 |cons r1 R =>
  cases R with
  |cons a b=>cases b;exact{_,_,rfl,r1,a}
structure Eu(h:Heap)(x dx C:Addr)(mA:Str->Option Value):Prop where
 obj:h.get? x=↑(W.instObj C dx)
 ns:h.Ns1 dx mA
 ne:dx≠x
def HE{h:ι}(n:h.Ns1 dx mA):∃d,h.get? dx=↑d/\∀name,W.lookIn name d=↑(mA name):=by
 let(o,s,p,O,H,hk,_,m):=n;refine{o,O,λname=>?_};have e:=m name;unfold nsFind findBy at e;rw[<-Array.find?_toList]at e;unfold W.lookIn;rw[H];dsimp only;split
 .rename_i y q;rw[q]at e;exact qZ some e
 .rename_i q;rw[q]at e;have a:s.toList.any (·.refKey)=false:=by
   rw[List.any_eq_false];intro y Y;let(z,t,v):=hk y<|Array.mem_toList_iff.mp Y;simp[DictEntry.refKey,v]
  have A:¬s.toList.any (·.refKey)=true:=by rw[a];exact yY
  rw[yM A];exact qZ some e
def Eu.look(I:Eu h x dx C mA):∃o,W.InstAt h x (W.instObj C dx) C (↑o)/\∀name,W.lookIn name o=↑(mA name):=
 let ⟨o,H,l⟩:=HE I.ns
 {o,{I.obj,rfl,rfl,H},l}
section
variable {K:Φ}
def Nu{e:θ}(X:K.In s.heap)(I:Eu s.heap x dx C mA)(g:W.plainGet K C name=true)(b:W.hasDictIn K C=true)
  (a:W.findIn K (.ref C) name=↑none)(V:mA name=↑v)(H:W.handedIn v=true)(h:Q v {s with toks:=s.toks+1}) :
  wpAny (model prog w) A (getAttr (.ref x) name e) Q E s:=by
 let(o,J,l):=I.look;exact W.get_value X J (W.plainGet_of g).1 (W.findObj_own b a rfl (by rw[l,V])) H h
def Ka(X:K.In s.heap)(I:Eu s.heap x dx C mA)(g:W.plainGet K C name=true)
  (H:W.findIn K (.ref C) name=↑(↑(.ref f)))(ht:W.isFn K (.ref f)=true)(v:mA name=none)(h:Q (.ref f,[.ref x]) s) :
  wpAny (model prog w) A (getMethod (.ref x) name pl) Q E s:=by
 let(o,J,l):=I.look;exact W.method_fn X J (W.plainGet_of g).1 (W.plainGet_of g).2 H (beq_iff_eq.mp ht) (by show(W.lookIn name o).map _=↑false;rw[l,v];rfl) h
def FO(X:K.In s.heap)(I:Eu s.heap x dx C mA)
  (S:W.findIn K (.ref C) "__setattr__"=↑(↑(.builtin "object.__setattr__")))(p:W.plainOver K C=true)(ht:W.takerIn K C name=↑none)(i:W.hasDictIn K C=true)
  (hw:PySem.Within mA ns)(z:ns.length<=sizeLine)
  (h:∀h',Eu h' x dx C (λy=>if y=name then↑v else mA y)->Heap.SameBut dx s.heap h'->Q () {s with heap:=h',toks:=s.toks+2}) :
  wpAny (model prog w) A (setAttr (.ref x) name v) Q E s:=by
 let(o,J,l):=I.look;refine W.set_plain X J S<|W.osa_open X J p ht λb=>?_;let(j,hc,d):=W.any_some i;refine zV<|zW<|zV<|zV<|wpAny_loadPart I.obj<|zV<|W.Looks.here (W.looks_clsIn X hc) ?_;rw[d];refine zW<|zV<|zW<|zV<|wpAny_nsSet1 I.ns λh' H a=>?_;let(oD,g,f,e,c,D):=H.count<|.cons name v hw;exact zV<|wpAny_lookBehind e (by rw[c];exact pastItsLine_dict<|yD D<|by grind)<|zW<|h _ {(a.2 _<|jK I.ne).trans I.obj,H,I.ne} a
def Mj(X:K.In s.heap)(m:W.makesIn K C=true)
  (hi:W.findIn K (.ref C) "__init__"=↑(↑(.ref f)))(H:W.typeIn K (.ref f)=↑(.type "function"))
  (h:codeAny (model prog w) (A.under<|.builtin "type.__call__" {.ref C::vs,kw}) (.call (.ref f) {.ref (s.heap.objs.size+1)::vs,kw}) (W.InitBack (s.heap.objs.size+1) R)
   {s with heap:=(s.heap.push W.emptyDict).push (W.instObj C s.heap.objs.size)}) :
  codeAny (model prog w) A (.call (.ref C) {vs,kw}) R s:=by
 exact W.make_core (W.makes_of X m) (W.looks_findIn X hi) (λS=>W.bind_fn X S H) (.inl rfl) h
end
def fO(f:Str)(v:V):Γ (Str×V)->Γ (Str×V)
 |[]=>[(f,v)]
 | (g,x)::r=>if g=f then(g,v)::r else(g,x)::fO f v r
def rG(f g:Str)(v:V):∀fs ,(fO f v fs).lookup g=if g=f then↑v else fs.lookup g
 |[]=>by
  show List.lookup g [(f,v)]=_
  grind
 | (k,x)::r=>by
  have i:=rG f g v r;rw[show fO f v _=(if k=f then(k,v)::r else(k,x)::fO f v r)from rfl]
  grind
def qc(f:Str)(v:V):∀fs:Γ (Str×V),f∈(fO f v fs).map (·.1)/\∀g,g∈fs.map (·.1)->g∈(fO f v fs).map (·.1)
 |[]=>{by simp[fO],λg h=>by grind}
 | (k,x)::r=>by
  let(i,I):=qc f v r;rw[show fO f v _=(if k=f then(k,v)::r else(k,x)::fO f v r)from rfl]
  grind
def rR(f:Str)(v:V):∀fs ,(fO f v fs).length<=fs.length+1
 |[]=>by simp[fO]
 | (k,x)::r=>by
  have i:=rR f v r;rw[show fO f v _=(if k=f then(k,v)::r else(k,x)::fO f v r)from rfl]
  grind
def AK.some_of(r:AK (↑v) o):∃u,o=↑u/\RelV v u:=by
 cases o with
 |none=>exact(r).elim
 |some u=>exact{u,rfl,r}
def AK.none_of(r:AK none o):o=none:=by
 cases o with
 |none=>rfl
 |some u=>exact(r).elim
def Ii(r:RelV v u):W.handedIn u=true:=by
 cases v with
 |non=>cases(r);rfl
 |bl b=>cases(r);rfl
 |int i=>let(t,e):=(r);cases e;rfl
 |str x=>let(t,e):=(r);cases e;rfl
 |byt b=>let(t,e):=(r);cases e;rfl
 |flt b=>let(t,e):=(r);cases e;rfl
 |ref a=>cases(r);rfl
 |ty n=>cases(r);rfl
def Ag(k:o5 P w H h)(e:H a=↑(.ins C dx fs)):∃m,Eu h a dx C m/\(∀f,AK (fs.lookup f)<|m f)/\PySem.Within m (fs.map (·.1))/\fs.length<=1000/\H dx=↑(.own a):=by
 let(d,z,N,o,m,n,r,q):=(k a _ e)
 exact{m,⟨o,n,N⟩,r,q,z,d}
structure qt(K:W.Frag)(C:Addr):Prop where
 pg:W.plainGet K C Str.empty=true
 hd:W.hasDictIn K C=true
 po:W.plainOver K C=true
 sa:W.findIn K (.ref C) "__setattr__"=↑(↑(.builtin "object.__setattr__"))
def qt.get{K:Φ}(c:qt K C)(f:Str):W.plainGet K C f=true:=c.pg
def bV(K:Φ)(C:Ψ)(f:Str):Prop:=W.findIn K (.ref C) f=↑none
def bV.af1{K:Φ}(n:bV K C f):W.takerIn K C f=↑none:=by
 rw[W.takerIn,n];rfl
structure vp(K:W.Frag)(C:Addr)(m:Str)(f:Addr):Prop where
 at_:W.findIn K (.ref C) m=↑(↑(.ref f))
 fn:W.isFn K (.ref f)=true
 kp:W.keepIn K (.ref f)=true
def D8(I:Inv X pins σ H s)(e:H a=↑(.ins C dx fs))(c:qt X.K C)(n:bV X.K C f)(l:fs.lookup f=↑v)
  (h:∀u s',Inv X pins σ H s'->RelV v u->Q u s'):wpAny (model X.prog X.w) A (getAttr (.ref a) f b) Q E s:=by
 let(m,O,r,_,_,_):=Ag I.hok e;let(u,U,R):=AK.some_of (by rw[<-l];exact r f);exact Nu I.kIn O (c.get f) c.hd n U (Ii R)<|h u _ (I.tok _) R
def tU(I:Inv X pins σ H s)(e:H a=↑(.ins C dx fs))(c:qt X.K C)(k:vp X.K C m g)(l:fs.lookup m=none)
  (h:Q (.ref g,[.ref a]) s):wpAny (model X.prog X.w) A (getMethod (.ref a) m pl) Q E s:=by
 let(M,O,r,_,_,_):=Ag I.hok e;exact Ka I.kIn O (c.get m) k.at_ k.fn (AK.none_of (by rw[<-l];exact r m)) h
def D0(I:Inv X pins σ H s)(e:H a=↑(.ins C dx fs))(c:qt X.K C)(n:bV X.K C f)(L:fs.length<1000)(R:RelV y u)
  (h:∀s',Inv X pins σ (upd H a<|.ins C dx<|fO f y fs) s'->Q () s'):wpAny (model X.prog X.w) A (setAttr (.ref a) f u) Q E s:=by
 let(m,O,r,i,_,k):=Ag I.hok e;refine FO I.kIn O c.sa c.po n.af1 c.hd i (by rw[zD,qQ];lia) λl d S=>h _ ?_;apply I.write (by rw[e];exact True.intro) (.inr k) (λb q B=>(S.2 b B).trans) (let ⟨o,_,_,j,_⟩:=d.ns;⟨o,j⟩);refine{by rw[ar O.ne];lia,?_,O.ne,d.obj,_,d.ns,λg=>?_,λg G=>?_}
 .have:=rR f y fs;lia
 .rw[rG];by_cases q:g=f
  .rw[yK q,yK q];exact R
  grind
 .by_cases q:g=f
  .rw[q];exact(qc f y fs).1
  .refine (qc f y fs).2 g (i g λz=>G ?_)
   grind
def Inv.made(I:Inv X pins σ H s):Inv X pins σ (upd (upd H s.heap.objs.size<|.own<|s.heap.objs.size+1) (s.heap.objs.size+1)<|.ins C s.heap.objs.size [])
  {s with heap:=(s.heap.push W.emptyDict).push (W.instObj C s.heap.objs.size)}:=by
 have E:(s.heap.push W.emptyDict).get? s.heap.objs.size=↑W.emptyDict:=zX s.heap rfl;have a:((s.heap.push W.emptyDict).push<|W.instObj C s.heap.objs.size).get? (s.heap.objs.size+1)=↑(W.instObj C s.heap.objs.size):=by
  have:=zX (s.heap.push W.emptyDict) (o:=W.instObj C s.heap.objs.size) rfl;simp_all
 apply(I.laid (o:=.own _) (t':=s.toks) (λb u=>zU _) (yL _) {_,E}).laid (λb u=>zU _)<|Nat.le_of_eq<|xI _ _;have n:s.heap.objs.size≠s.heap.objs.size+1:=yQ<|kK _;exact{by rw[ar n,av],xU _,n,a,λ_=>none,(Heap.Ns1.of_empty {W.emptyDict,#[],_,E,rfl,(λe c=>absurd c<|by simp),λ_=>rfl}).at λo=>zU _,λ_=>True.intro,nofun}
def PV{env:Env}(b:attributeBase e f env (eval e env)=eval e env)
  (h:wpAny (model prog w) A (eval e env) (λo a=>wpAny (model prog w) A (getAttr o f true) Q E a) E s):wpAny (model prog w) A (eval (.Attribute e f pos) env) Q E s:=
 Attribute_any_ h (by rw[arm_eval_Attribute,b])
def Jc(K:Φ)(ta:TE)(f:Str):TE:=λc H Q=>ta c H λx b=>∃a C d fs v,x=.ref a/\b a=↑(.ins C d fs)/\qt K C/\bV K C f/\fs.lookup f=↑v/\Q v b
def R8(K:Φ)(ta t:TE)(f:Str):TS:=λD b H=>t b H λy e=>ta b e λx c=>∃a C d fs,x=.ref a/\c a=↑(.ins C d fs)/\qt K C/\bV K C f/\fs.length<1000 /\
 D.nx b (upd c a<|.ins C d<|fO f y fs)
def kh(j:PE X e ta)(B:attributeBase e f X.env (eval e X.env)=eval e X.env):PE X (.Attribute e f pos) (Jc X.K ta f):=by
 refineλp s k H Q I h=>PV B<|bZ (j p s k H _ I h) λu S z=>?_;let(x,b,i,R,a,C,D,fs,v,g,E,c,n,l,q):=z;subst g;obtain rfl:u=.ref a:=R;exact D8 i E c n l λU m d r=>{v,b,d,r,q}
def Da(A:PE X o ta)(v:PE X value U)(S:swapsWith value (↑(.Attribute o f pos')) pos.line X.env=pure false):PS X (.Assign [.Attribute o f pos'] value pos) (R8 X.K ta U f):=by
 refineλp s b H D I h=>plainObj_wpAny_Assign_Attribute (bZ (v p s b H _ I h) λu k ⟨y,d,i,R,q⟩=>bZ (A p k b d _ i q) λov w z=>?_) S;let(x,m,e,r,a,C,t,fs,j,E,c,n,l,q2):=z;subst j;obtain rfl:ov=.ref a:=r;exact D0 e E c n l R λz g=>{b,_,g,q2}
structure cA(k:Nat)(A:Around):Prop where
 hd:A.handled=none
 dp:A.depth+3*k+5<recursionLimit
 un:A.units+16*k+200<cLine
def cA.mono(r:cA k A)(h:j<=k):cA j A:={r.hd,by have:=r.dp;lia,by have:=r.un;lia}
def cA.deeper(r:cA (k+1) A)(env:Env):cA k (A.deeper env):=
 {r.hd,by have:=r.dp;show A.depth+1+3*k+5<_;lia,by have:=r.un;show A.units+3+16*k+200<_;lia}
def cA.in1(r:cA (k+1) A):cA k A.in1:=
 {r.hd,by have:=r.dp;grind,by have:=r.un;grind}
def EA{A:ξ}{us:Γ Θ}:(A.under<|.builtin "type.__call__" {.ref C::us,kw}).depth=A.depth+1:=by
 rfl
def Ei{A:ξ}{us:Γ Θ}:(A.under<|.builtin "type.__call__" {.ref C::us,kw}).units=A.units+1:=by
 rfl
def cA.make(r:cA (k+1) A)(C:Ψ)(us:Γ Θ)(w:Γ _):cA k (A.under<|.builtin "type.__call__" {.ref C::us,w}):=
 {r.hd,by have:=r.dp;rw[EA];lia,by have:=r.un;rw[Ei];lia}
def cA.depth(r:cA k A):A.depth<recursionLimit:=by have:=r.dp;lia
def cA.units(r:cA k A):A.units+64<cLine:=by have:=r.un;lia
def Hf:TA:=λ_ H Q=>Q [] H
def uw(ta:TE)(tr:TA):TA:=λa H Q=>ta a H λx b=>tr a b λs c=>Q (x::s) c
def bJ:PA X [] Hf:=λ_ _ _ _ H Q I h=>kE {[],H,I,.nil,h}
def aL(A:PE X e te)(r:PA X es t)(S:starEach (e::es) X.env=(false,eval e X.env)::starEach es X.env:=by rfl):PA X (e::es) (uw te t):=by
 intro P p s a H Q I h;rw[S];exact jG (bZ (A p s a H _ I h) λu f z=>by let(x,b,i,r1,q):=z;exact(bZ (r P p f a b _ i q) λU j z=>by let(g,c,d,R,q2):=z;exact {x::g,c,d,.cons r1 R,q2}))
def Ts(t:TA):TE:=λb H Q=>t b H λx a=>x.length<=sizeLine/\∀p,a p=none->Q (.ref p) (upd a p<|.tup x)
def YG(t:TA):TE:=λb H Q=>t b H λx a=>x.length<=sizeLine/\∀p,a p=none->Q (.ref p) (upd a p<|.lst x)
def zk{x1}(h:PA X es t):PE X (.Tuple es x1 pos) (Ts t):=by
 refineλp s d H Q I c=>wpAny_Tuple_spliced<|bZ (h pos p s d H _ I c) λU S ⟨x,a,i,r,z,q⟩=>{by rw[<-r.length];lia,({.ref S.heap.objs.size,upd a S.heap.objs.size _,i.laid (λb u=>zU _) (yL _) ?_,rfl,q _<|i.hok.fresh<|yL _})};exact{z,U,r,{_,zX _ rfl,rfl,_,rfl},_,zX _ rfl,rfl}
def Ek(h:PA X es t):PE X (.List es pos) (YG t):=by
 refineλp s d H Q I c=>wpAny_List_spliced<|bZ (h pos p s d H _ I c) λU S ⟨x,a,i,r,z,q⟩=>{by rw[<-r.length];lia,({.ref S.heap.objs.size,upd a S.heap.objs.size _,i.laid (λb u=>zU _) (yL _) ?_,rfl,q _<|i.hok.fresh<|yL _})};exact{z,U,0,r,zX _ rfl}
abbrev Sp:=Γ V->Hp->VK->XK->Prop
abbrev M8:=Γ Env->Hp->Ξ->XK->Θ->Ξ->Prop
structure vz(P:Program)(w:World)(K:W.Frag)(mg:Str->Option Value)(base:Heap)(A:Around)(outer:List Env)(s:Shared)(H:Hp):Prop where
 frames:A.frames=↑outer
 mod:Mod K mg base
 bs:∀b o,base.get? b=↑o->s.heap.get? b=↑o/\H b=none
 bsz:base.objs.size<=s.heap.objs.size
 aa0:s.heap.FunFrames base outer
 frf:∀b∈j5 outer,H b=none
 hok:o5 P w H s.heap
 bare:AllBare s.gens
def CE(o:Γ Env)(P:ε)(w:δ)(H:Hp)(s:Ξ)(Q:VK)(u:Θ)(s':Ξ):Prop:=
 ∃v a,s'.os=s.os/\AllBare s'.gens/\Un (j5 o) [] H a s.heap s'.heap/\o5 P w a s'.heap/\RelV v u/\Q v a
def CR(C:M8)(o:Γ Env)(P:ε)(w:δ)(H:Hp)(s:Ξ)(Q:VK)(E:XK)(r:Result)(s':Ξ):Prop:=
 match r with
 |.ok (.ret u)=>CE o P w H s Q u s'
 |.ok _=>False
 |.error e=>C o H s E e s'
structure dc(P:Program)(w:World)(K:W.Frag)(mg:Str->Option Value)(base:Heap)(CX:M8)(k:Nat)(f:Addr)(fd:FuncData)(ps:List Str)(sp:Sp):Prop where
 len:∀vs H Q E,sp vs H Q E->vs.length=ps.length
 run:∀(A:ξ)(outer:Γ Env)(s:Ξ)(H:Hp)(args:Args)(us:Γ Θ)(vs:Γ V)(Q:VK)(E:XK),cA k A->vz P w K mg base A outer s H->BindsTo s fd args (ps.zip us)->aO vs us->sp vs H Q E ->
  codeAny (model P w) A (.call (.ref f) args) (CR CX outer P w H s Q E) s
def dc.mono{K:Φ}(F:dc P w K mg base CX j f fd ps sp)(h:j<=k) :
  dc P w K mg base CX k f fd ps sp:={F.len,λA o s H a u v Q E r=>F.run A o s H a u v Q E<|r.mono h}
def vz.make{K:Φ}(e:vz P w K mg base A outer s H)(C:Ψ)(us:Γ Θ)(k:Γ _) :
  vz P w K mg base (A.under<|.builtin "type.__call__" {.ref C::us,k}) outer s H:={by (exact e.frames),e.mod,e.bs,e.bsz,e.aa0,e.frf,e.hok,e.bare}
def Inv.aeW(I:Inv X pins σ H s):vz X.prog X.w X.K X.mg X.base X.A X.stack s H:=
 {I.ok.frames,I.ok.mod,I.bs,yD I.ok.bsz I.sz,I.stack,I.aa5,I.hok,I.bare}
def Inv.after(I:Inv X pins σ H s)(h:CE X.stack X.prog X.w H s Q u s'):EP X pins σ Q u s':=by
 let(v,a,O,b,n,k,r,q):=h;let(c,g,d,t,o):=s';obtain rfl:o=s.os:=O;exact{v,a,I.call n k b<|nofun,r,q}
def Wh(s:Sp)(d:Γ V)(E:XK)(t:TA):TE:=λb H Q=>t b H λv a=>s (v++d) a Q E
def Fg(C:Ψ)(m:Str)(s:Sp)(d:Γ V)(E:XK)(ta:TE)(t:TA):TE:=λc H Q=>ta c H λx b=>∃a D fs,x=.ref a/\b a=↑(.ins C D fs)/\fs.lookup m=none /\
 t c b λv e=>s (x::(v++d)) e Q E
def Xj(C:Ψ)(p:Sp)(s:Γ V)(E:XK)(t:TA):TE:=λc H Q=>t c H λS a=>∀x d,a x=none->a d=none->d≠x ->
 p (.ref x::(S++s)) (upd (upd a d<|.own x) x<|.ins C d []) (λv b=>v=.non/\Q (.ref x) b) E
def Binds(K:Φ)(f:η)(ps:Γ Str)(ds:Γ Θ):Prop:=
 ∀(s:Ξ)(u:Γ Θ),K.In s.heap->(u++ds).length=ps.length->BindsTo s f {u,[]} (ps.zip<|u++ds)
def Binds.all{K:Φ}(h:∀us ,us.length=ps.length->bindArgs fd {us,[]}=pure (ps.zip us)):Binds K fd ps []:=λs us _ l=>by
 rw[qD]at l ⊢;exact .of_eq<|h us l
def bw(C:M8)(X:Cx)(E:XK):Prop:=∀(p:Γ (Ψ×Obj))(a:St)(H:Hp)(s:Ξ)(e:Θ)(S:Ξ),Inv X p a H s->C X.stack H s E e S->X.xe e S
def ED(F:dc X.prog X.w X.K X.mg X.base CX k f fd ps sp)(a:cA k X.A)(b:Binds X.K fd ps ds)(d:aO U ds)(x:bw CX X E)
  (I:Inv X pins σ H s)(r:aO vs us)(h:sp (vs++U) H Q E):wpAny (model X.prog X.w) X.A (call (.ref f) us) (EP X pins σ Q) X.xe s:=by
 have R:=r.append d;refine vG<|jP (F.run X.A X.stack s H _ _ _ Q E a I.aeW (b s us I.kIn (by rw[<-R.length];exact F.len _ _ _ _ h)) R h) λr S q=>?_;cases r with
 |error e=>exact x pins σ H s e S I q
 |ok l =>
  cases l with
  |ret u=>exact I.after q
  |next=>exact False.elim q
  |brk=>exact False.elim q
  |cont=>exact False.elim q
def j6(F:dc X.prog X.w X.K X.mg X.base CX k f fd ps sp)(R:cA k X.A)(g:Gl X x)(m:X.mg x=↑(.ref f))(hk:W.keepIn X.K (.ref f)=true)(B:Binds X.K fd ps ds)(d:aO U ds)(j:bw CX X E)
  (a:PA X (e::es) t)(b:(x==("__debug__":Str))=false:=by decide)(c:starEach (e::es) X.env=(false,eval e X.env)::starEach es X.env:=by rfl)(l:(backTo pos<|starEach es X.env).any (·.1)=false:=by rfl) :
  PE X (.Call (.Name x p) (e::es) [] pos) (Wh sp U E t):=λP s n H Q I h=>qU<|lg I g m (W.callWith_K I.ok.mod.kin hk (bZ (a pos P s n H _ I h) λu S z=>by let(v,o,i,r,q):=z;exact {i.kIn,(ED F R B d j i r q)}) c l) b
def oG{pl:Sem θ}(z:PE X o ta)(c:qt X.K C)(M:vp X.K C m f)(F:dc X.prog X.w X.K X.mg X.base CX k f fd ps sp)(R:cA k X.A)(B:Binds X.K fd ps ds)(D:aO U ds)(G:bw CX X E)(y:PA X (e::es) t)
  (T:starEach (e::es) X.env=(false,eval e X.env)::starEach es X.env:=by rfl)(L:(backTo pos<|starEach es X.env).any (·.1)=false:=by rfl)
  (ht:eval (.Call (.Attribute o m apos) (e::es) [] pos) X.env=(do
   let ov <- eval o X.env
   standAt apos.atName
   let (f,first) <- holding [ov]<|getMethod ov m pl
   callWith pos f first (backTo pos<|starEach (e::es) X.env) (backToKw pos<|keywordEach [] X.env)):=by rfl) :
  PE X (.Call (.Attribute o m apos) (e::es) [] pos) (Fg C m sp U E ta t):=by
 refineλp s d H Q I h=>W.methodCall_KW (bZ (z p s d H _ I h) λu S z=>?_) ht;let(x,g,i,J,a,O,fs,n,j,l,q):=z;subst n;obtain rfl:u=.ref a:=J;apply tU i j c M l;exact W.callWith_K I.ok.mod.kin M.kp (bZ (y pos p S d g _ i q) λV P z=>by let(v,N,b,r,q2):=z;exact {b.kIn,(ED (vs:=.ref a::v) F R B D G b (.cons rfl r) q2)}) T L
def Bc(g:PE X o ta)(c:qt X.K C)(M:vp X.K C m f)(F:dc X.prog X.w X.K X.mg X.base CX k f fd ps sp)(r:cA k X.A)(B:Binds X.K fd ps ds)(d:aO U ds)(j:bw CX X E)
  (ht:eval (.Call (.Attribute o m apos) [] [] pos) X.env=(do
   let ov <- eval o X.env
   standAt apos.atName
   let (f,first) <- holding [ov]<|getMethod ov m pl
   callWith pos f first (backTo pos<|starEach [] X.env) (backToKw pos<|keywordEach [] X.env)):=by rfl) :
  PE X (.Call (.Attribute o m apos) [] [] pos) (Fg C m sp U E ta Hf):=by
 refineλp s n H Q I h=>W.methodCall_KW (bZ (g p s n H _ I h) λu S z=>?_) ht;let(x,t,i,R,a,D,fs,b,e,l,q):=z;subst b;obtain rfl:u=.ref a:=R;apply tU i e c M l;exact W.callWith_K0 i.kIn M.kp<|ED (vs:=[.ref a]) F r B d j i (.cons rfl .nil) q
structure Mk(K:W.Frag)(C f:Addr):Prop where
 makes:W.makesIn K C=true
 init:W.findIn K (.ref C) "__init__"=↑(↑(.ref f))
 fn:W.isFn K (.ref f)=true
 kp:W.keepIn K (.ref C)=true
def Jh(M:Mk X.K C f)(F:dc X.prog X.w X.K X.mg X.base CX k f fd ps sp)(m:cA (k+1) X.A)(B:Binds X.K fd ps ds)(D:aO U ds)
  (n:bw CX X E)(I:Inv X pins σ H s)(r:aO vs us)
  (h:∀x d,H x=none->H d=none->d≠x->sp (.ref x::(vs++U)) (upd (upd H d<|.own x) x<|.ins C d []) (λv c=>v=.non/\Q (.ref x) c) E) :
  wpAny (model X.prog X.w) X.A (call (.ref C) us) (EP X pins σ Q) X.xe s:=by
 have a:=h _ s.heap.objs.size (I.hok.fresh<|Nat.le_succ _) (I.hok.fresh<|yL _)<|yQ<|kK _;have i:=Inv.made (C:=C) I;have R:aO (V.ref (s.heap.objs.size+1)::(vs++U)) _:=.cons rfl (r.append D);have L:(.ref (s.heap.objs.size+1)::us++ds).length=ps.length:=by
  have e:=R.length;rw[F.len _ _ _ _ a]at e
  grind
 refine vG (Mj I.kIn M.makes M.init (beq_iff_eq.mp M.fn) (jP (F.run _ X.stack _ _ _ _ _ _ E (m.make C us [])
  (i.aeW.make C us []) (B _ _ i.kIn L) R a) λr S q=>?_))
 cases r with
 |error e=>exact n pins σ _ _ e S i q
 |ok l =>
  cases l with
  |ret u =>
   let(v,b,g,p,j,o):=i.after q;subst j;exact{p,V.ref _,b,g,rfl,o}
  |next=>exact False.elim q
  |brk=>exact False.elim q
  |cont=>exact False.elim q
def Fy(M:Mk X.K C f)(F:dc X.prog X.w X.K X.mg X.base CX k f fd ps sp)(R:cA (k+1) X.A)(g:Gl X x)(m:X.mg x=↑(.ref C))(B:Binds X.K fd ps ds)(d:aO U ds)(j:bw CX X E)
  (a:PA X (e::es) t)(b:(x==("__debug__":Str))=false:=by decide)(c:starEach (e::es) X.env=(false,eval e X.env)::starEach es X.env:=by rfl)(l:(backTo pos<|starEach es X.env).any (·.1)=false:=by rfl) :
  PE X (.Call (.Name x p) (e::es) [] pos) (Xj C sp U E t):=λP s n H Q I h=>qU<|lg I g m (W.callWith_K I.ok.mod.kin M.kp (bZ (a pos P s n H _ I h) λu S z=>by let(v,o,i,r,q):=z;exact {i.kIn,(Jh M F R B d j i r q)}) c l) b
structure aZ(N P:List Str)(sc:Scope):Prop where
 kind:sc.kind=.function
 co:sc.isCoroutine=false
 gen:sc.isGenerator=false
 nd:N.Nodup
 pre:N.take P.length=P
 par:∀x∈P,sc.names.lookup x=↑.local \/ sc.names.lookup x=↑.cell
 aeX:∀y∈sc.names,y.2≠.free
def xx{k:Str->Δ NameKind}:∀{b:Γ (Str×Θ)}{m:Str->Δ Θ},(∀v,(x,v)∉b)->bindL k b m x=m x
 |[],_,_=>rfl
 | (n,v)::r,m,h=>by
  unfold bindL;rw[xx λw hw=>h w<|zC _ hw];split
  .have:x≠n:=by rintro rfl;exact h v zE
   simp[this]
  .rfl
def yu{k:Str->Δ NameKind}:∀{b:Γ _}{m:Str->Δ Θ},(∀v,(x,v)∉b)->bindC k b m x=m x
 |[],_,_=>rfl
 | (n,v)::r,m,h=>by
  rw[bindC,yu λw hw=>h w<|zC _ hw];split<;>grind
def wz{k:Str->Δ NameKind}:∀{P:Γ Str}{vs:Γ Θ}{i:Nat}{m:Str->Δ Θ},P.Nodup->P[i]?=↑x->vs[i]?=↑v->k x=↑.local ->
  bindL k (P.zip vs) m x=↑v
 |[],_,_,_,_,h,_,_=>by simp at h
 |_::_,[],_,_,_,_,h,_=>by simp at h
 |p::P,w::vs,0,m,n,H,a,hk=>by
  simp at H a;subst H;subst a;show bindL k ((p,w)::P.zip vs) m p=_;rw[bindL,xx λv V=>(List.nodup_cons.mp n).1 (vP V).1,yK hk];simp
 |p::P,w::vs,i+1,m,n,H,a,hk=>by
  show bindL k ((p,w)::P.zip vs) m x=_;exact wz (i:=i) (List.nodup_cons.mp n).2 (by simpa using H) (by simpa using a) hk
def yr{k:Str->Δ NameKind}:∀{P:Γ Str}{vs:Γ Θ}{i:Nat}{m:Str->Δ Θ},P.Nodup->P[i]?=↑x->vs[i]?=↑v->k x≠some .local ->
  bindC k (P.zip vs) m x=↑v
 |[],_,_,_,_,h,_,_=>by simp at h
 |_::_,[],_,_,_,_,h,_=>by simp at h
 |p::P,w::vs,0,m,n,H,a,hk=>by
  simp at H a;subst H;subst a;show bindC k ((p,w)::P.zip vs) m p=_;rw[bindC,yu λv V=>(List.nodup_cons.mp n).1 (vP V).1,yM hk];simp
 |p::P,w::vs,i+1,m,n,H,a,hk=>by
  show bindC k ((p,w)::P.zip vs) m x=_;exact yr (i:=i) (List.nodup_cons.mp n).2 (by simpa using H) (by simpa using a) hk
def start(N:Γ Str)(vs:Γ V):St:=vs.map some++List.replicate (N.length-vs.length) none
def qp(C:M8)(P:ε)(w:δ)(K:Φ)(m:Str->Δ Θ)(base:ι)(N:Γ Str)(q:Str)(scope:ζ)(f:Ψ)(c:Θ)(A:ξ)(o:Γ Env)(s:Ξ)(H:Hp)(E:XK):Cx where
 prog:=P
 w:=w
 K:=K
 mg:=m
 base:=base
 A:=A.deeper<|envOfC q scope s.heap.objs.size f c
 N:=N
 aar:=s
 aab:=H
 env:=envOfC q scope s.heap.objs.size f c
 outer:=o
 stack:=envOfC q scope s.heap.objs.size f c::o
 ex:=[]
 calm:=true
 fn:=λ_=>true
 pn:=[]
 xe:=λe b=>wpAny (model P w) (A.deeper<|envOfC q scope s.heap.objs.size f c) (leaving (envOfC q scope s.heap.objs.size f c) e) (λ_ S=>C o H s E e S) (λa S=>C o H s E a S) b
def tY{sc:ζ}{n:Nat}(h:sc.names.lookup x=↑.cell):∃c,(cellsFrom n sc.names []).lookup x=↑c:=by
 exact Option.isSome_iff_exists.mp<|W.cellsFrom_some sc.names n []<|.inl h
def xv{X:M8}{K:Φ}{M:Str->Δ Θ}{ps:Γ Str}{scope:ζ}{C:Θ}{A:ξ}{o:Γ Env}{s:Ξ}{E:XK}{us:Γ Θ}{vs:Γ V}
  (S:aZ N ps scope)(D:A.handled=none)(g:vz P w K M base A o s H)(G:vs.length=ps.length)(r:aO vs us)
  (x:InCallC s s.heap.objs.size (bindL (envOfC qual scope s.heap.objs.size f C).kindOf (ps.zip us) λ_=>none) (cellsFrom (s.heap.objs.size+1) scope.names []) (bindC (envOfC qual scope s.heap.objs.size f C).kindOf (ps.zip us) λ_=>none) s1) :
  Inv (qp X P w K M base N qual scope f C A o s H E) [] (start N vs) H s1:=by
 have L:ps.length<=N.length:=by have:=qZ List.length S.pre;rw[jT]at this;lia
 let(t,T,rfl,hk):=x.done;have j:∀b:Ψ,b∉(qp X P w K M base N qual scope f C A o s H E).ex:=λb z=>absurd (show b∈([]:Γ Ψ)from z) (by simp);refine⟨{g.mod,S.kind,rfl,rfl,yL _,λy z c t d=>?_,λy Y=>?_,λy c _ h=>?_,λ_=>D,Around.frames_deeper g.frames,.inr {rfl,rfl},λb z=>absurd z<|j b,g.bs,g.bsz,λb _ _=>j b,λb z=>absurd z<|j b,g.aa0,g.frf},
  rfl,g.bare,Un.kept hk,{_,x.toInCall.ns,λi y v t d F=>?_},λy c h=>{_,x.cell y c h},g.hok.fresh<|yL _,λy c h=>?_,λp l=>absurd (show p∈([]:Γ (Ψ×Obj))from l)<|by simp,g.hok.kept hk,?_⟩
 .exact name_of_addr x.apart (jW t)<|jW d
 .have Y:scope.names.lookup y=↑.cell\/scope.names.lookup y=↑.free:=Y;rcases Y with Y|Y
  .exact tY Y
  .exact absurd rfl (S.aeX _<|jW Y)
 .exact jQ<|x.above y c<|jW h
 .have I:i<vs.length:=by
   unfold start at d;by_cases I:i<vs.length
   .exact I
   .rw[yS<|by simpa using I]at d;rw[yW]at d;split at d<;>cases d
  have B:vs[i]?=↑v:=by
   unfold start at d;rw[yR<|by simpa using I,zO]at d;cases e:vs[i]? with
   |none=>rw[e]at d;cases d
   |some a=>rw[e]at d;cases d;rfl
  let(u,U,R):=r.get B;have l:ps[i]?=↑y:=by
   rw[<-S.pre,List.getElem?_take_of_lt<|by lia];exact t
  have m:ps.Nodup:=by rw[<-S.pre];exact S.nd.sublist<|List.take_sublist _ _
  refine{u,R,?_};rcases S.par y (qA l)with k|k
  .exact .inl {k,wz m l U k}
  .let(c,e):=tY (n:=s.heap.objs.size+1) k;refine .inr {.inl k,c,e,?_};have q:=x.cell y c e;rwa[yr m l U (by show scope.names.lookup y≠_;rw[k];decide)]at q
 .exact g.hok.fresh<|jQ<|x.above y c<|jW h
 .unfold start;show _=N.length;rw[zN,zD,xK];lia
def n6{K:Φ}{kV:Θ}
  {L:Array (Δ Θ)}{N ps:Γ Str}{z:Sp}(lk:K.lookup f=↑{oc,od,.func<|W.fnOf name qual params body scope dV kV doc pm an U ct,L})(D:W.codeIn K U qual=true)(S:aZ N ps scope)
  (l:∀vs H Q E,z vs H Q E->vs.length=ps.length)
  (g:∀(A:ξ)(O:Γ Env)(s:Ξ)(H:Hp)(vs:Γ V)(Q:VK)(E:XK),cA k (A.deeper<|envOfC qual scope s.heap.objs.size f U)->z vs H Q E ->
   ∃t,su (qp CX P w K mg base N qual scope f U A O s H E) body t/\t {nx:=λ_ H'=>Q .non H',rt:=Q} (start N vs) H) :
  dc P w K mg base CX (k+1) f (W.fnOf name qual params body scope dV kV doc pm an U ct) ps z:=by
 refine{l,λA O s H B us vs Q E R d T r p=>?_};have Z:=l _ _ _ _ p;have X:K.In s.heap:=d.mod.kin.keeps λb o e=>(d.bs b o e).1;have m:s.heap.NoLimit:=d.mod.nolimit.keeps λb o e=>(d.bs b o e).1;have F:∀y∈ps.zip us,scope.names.lookup y.1=↑.local \/ (scope.names.lookup y.1=↑.cell/\((cellsFrom (s.heap.objs.size+1) scope.names []).lookup y.1).isSome=true):=λz hy=>by
  let(n,v):=z
  rcases S.par n (vP hy).1 with q|q
  .exact .inl q
  .exact .inr {q,W.cellsFrom_some _ _ _<|.inl q}
 refine codeAny_call_function R.depth (X _ _ lk) rfl S.co S.gen rfl (W.codeRec_of X D) (T _ _ _ _ ?_);refine wpAny_newFunctionEnv_cells S.kind F λG Y C x=>?_;subst Y;refine{m.keeps x.toInCall.keep,codeAny_func ?_};let(t,ht,hq):=g A O s H vs Q E (R.deeper _) p;have I:Inv (qp CX P w K mg base N qual scope f U A O s H E) [] (start N vs) H C:=xv S R.hd d Z r x;refine yZ (ht [] C (start N vs) H _ I hq) (λM j c=>?_) λe j c=>c;have fin:∀{a:St}{H':Hp}{v:V}{u:Θ},Inv (qp CX P w K mg base N qual scope f U A O s H E) [] a H' j->RelV v u->Q v H'->CE O P w H s Q u j:=
  λ{a H' v u}J i q=>{v,H',J.os,J.bare,J.base,J.hok,i,q}
 cases M with
 |ret u =>
  let(v,a,H',J,i,q):=c;exact fin J i q
 |next =>
  let(a,H',J,q):=c;exact fin (v:=V.non) (u:=Value.none) J rfl q
 |brk =>
  let(_,_,_,q):=c;exact False.elim q
 |cont =>
  let(_,_,_,q):=c;exact False.elim q
section
variable {id T:String}
def Yp(r:Γ V->Hp->VK->Prop)(t:TA):TE:=λb H Q=>t b H λv a=>r v a Q
def mh(hc:fF X (.builtin id) r)(g:Gl X x)(m:X.mg x=none)(v:bootBuiltins x=↑(.builtin id))(A:PA X (e::es) t)(n:x≠"__name__":=by decide)(b:(x==("__debug__":Str))=false:=by decide)
  (E:starEach (e::es) X.env=(false,eval e X.env)::starEach es X.env:=by rfl)(l:(backTo pos<|starEach es X.env).any (·.1)=false:=by rfl):PE X (.Call (.Name x p) (e::es) [] pos) (Yp r t):=by
 exactλP s a H Q I h=>qU<|kr I g m v (PyProof.Rows.callWith_builtin1 (bZ (A pos P s a H _ I h) λu S z=>by let(V,c,i,r1,q):=z;exact hc P S a c V u Q i r1 q) E l) n b
def rh(hc:fF X (.type T) r)(g:Gl X x)(m:X.mg x=none)(v:bootBuiltins x=↑(.type T))(A:PA X (e::es) t)(n:x≠"__name__":=by decide)(b:(x==("__debug__":Str))=false:=by decide)
  (E:starEach (e::es) X.env=(false,eval e X.env)::starEach es X.env:=by rfl)(l:(backTo pos<|starEach es X.env).any (·.1)=false:=by rfl):PE X (.Call (.Name x p) (e::es) [] pos) (Yp r t):=by
 exactλP s a H Q I h=>qU<|kr I g m v (qN (bZ (A pos P s a H _ I h) λu S z=>by let(V,c,i,r1,q):=z;exact hc P S a c V u Q i r1 q) E l) n b
end
end L2
namespace HT
open PySem PyProof.Rows
def lexLt:Γ Int->Γ Int->θ
 |[],[]=>false
 |[],_::_=>true
 |_::_,[]=>false
 |x::s,y::Y=>if x=y then lexLt s Y else decide (x<y)
def fN(x y:Int)(xs ys:Γ Int):lexLt (x::xs) (y::ys)=if x=y then lexLt xs ys else decide (x<y):=rfl
section
open PySem.SeqAt
open PySem.AutoSeq1 (wpAny_loadPart')
open PySem.MeetsSeq PySem.MeetsSeq2 PySem.MeetsSeq3
end
def ON(ht:IsTup s.heap t vs.toArray)(B:IsTup s.heap b ws.toArray)(v:vs≠[])
  (j:ws=[]->Q (.ref t) s)(k:ws≠[]->Q (.ref s.heap.objs.size) {s with heap:=s.heap.push {cls:=.type "tuple",data:=.seq (vs++ws).toArray}})
  (z:vs.length+ws.length<=sizeLine):wpAny (model prog w) A (binaryOp .Add (.ref t)<|.ref b) Q E s:=by
 let((cls,g,d,l),o,hc,n,m):=ht;let((i,D,a,S),H,c,N,f):=B;subst hc m c f;have e:vs.toArray++ws.toArray=(vs++ws).toArray:=by simp
 by_cases hw:ws=[]
 .exact wJ {_,o,rfl} {_,H,rfl} noFill_tuple_add seq_tuple_add vJ vE (vB _ _)
   (tuple_addW1 t b vs.toArray ws.toArray n N g D l S (by simpa using v)<|by grind) {o,H,j hw}
 .refine wJ {_,o,rfl} {_,H,rfl} noFill_tuple_add seq_tuple_add vJ vE (vB _ _)
   (tuple_addW2 t b vs.toArray ws.toArray n N g D l S (by simpa using v) (by simpa using hw)<|by omega) {o,H,?_}
  rw[e];exact k hw
def gm(n d:Nat):Δ Int->Nat
 |none=>d
 |some v=>if v<0 then(v+(n:Int)).toNat else min v.toNat n
def ur(n d:Nat):gm n d none=d:=rfl
def Ad(n d k:Nat):gm n d (↑k)=min k n:=by
 rfl
def S8(n d:Nat)(H:d<=n)(o:Δ Int):gm n d o<=n:=by
 cases o with
 |none=>exact H
 |some v =>
  show(if v<0 then(v+n).toNat else min v.toNat n)<=n
  grind
def ET(v:Int)(n d:Nat):(if v<0 then max (v+n) 0 else min v n)=gm n d (↑v):=by
 show(if v<0 then max _ 0 else min v n)=(if v<0 then(v+n).toNat else min v.toNat n)
 grind
def Dt(lo hi:Δ Int)(n:Nat):Builtin.Slice.sliceAdjust lo hi 1 n=((gm n 0 lo:Int),(gm n n hi:Int)):=by
 apply Prod.ext
 .cases lo with
  |none=>rfl
  |some v=>exact ET v n 0
 .cases hi with
  |none=>rfl
  |some v=>exact ET v n n
def DY(i j:Nat):Builtin.Slice.slicePlaces (i) j 1=j-i:=by
 unfold Builtin.Slice.slicePlaces;simp ;lia
def uX(p:IsPart v o)(h:Q o s):wpAny (model prog w) A (Builtin.Slice.slicePartIndex v) Q E s:=by
 cases p with
 |none=>exact slicePart_none h
 |int i t=>exact slicePart_int h
def js{vl:Θ}{lo hi:Δ Int}{n:Nat}{Q:Int×Int×Nat->Ξ->Prop}(b:s.heap.IsSliceOf sl vl U .none)(pl:IsPart vl lo)(p:IsPart U hi)
  (h:Q (gm n 0 lo,1,gm n n hi-gm n 0 lo) s):wpAny (model prog w) A (Builtin.Slice.sliceApplied (.ref sl)<|pure n) Q E s:=by
 let(o,S,a,H):=b;refine zV<|zV<|qP S H rfl (zV<|qP S H rfl (zV<|qP S H rfl (zW<|zV<|slicePart_none<|zV<|uX pl<|zV<|uX p<|zV<|zW ?_)));show wpAny _ _ (match Builtin.Slice.sliceAdjust lo hi 1 (n)with|(lo,hi)=>pure (lo,(1:Int),Builtin.Slice.slicePlaces lo hi 1)) _ _ s;rw[Dt lo hi n];show wpAny _ _ (pure _) _ _ s;rw[DY];exact zW h
def K9(xs:Array Θ)(i k:Nat):((List.range k).filterMap λ(m:Nat)=>xs[((i:Int)+(m:Int)*1).toNat]?).toArray=((xs.toList.drop i).take k).toArray:=by
 have e:(λ(m:Nat)=>xs[((i:Int)+(m:Int)*1).toNat]?)=λm=>xs[i+m]?:=by
  funext m;have:((i:Int)+(m:Int)*1).toNat=i+m:=by lia
  rw[this]
 rw[e];have:=pick_run xs i k;rw[List.filterMap_map]at this;have E:((λx=>xs[x]?) ∘ λx=>i+x)=λm=>xs[i+m]?:=rfl;rw[E]at this;rw[this]
def oV{items:Array Θ}{vl:Θ}{lo:Δ Int}(ht:IsTup s.heap t items)(c:s.heap.IsSliceOf sl vl U .none)(pl:IsPart vl lo)(p:IsPart U hi)
  (hw:¬(gm items.size 0 lo=0/\gm items.size items.size hi=items.size))
  (h:Q (.ref s.heap.objs.size) {s with heap:=s.heap.push {cls:=.type "tuple",data:=.seq ((items.toList.drop<|gm items.size 0 lo).take<|gm items.size items.size hi-gm items.size 0 lo).toArray}})
  (z:items.size<=sizeLine):wpAny (model prog w) A (getItem (.ref t)<|.ref sl) Q E s:=by
 have a:sizeOk (.seq ((items.toList.drop<|gm items.size 0 lo).take<|gm items.size items.size hi-gm items.size 0 lo).toArray):=by
  show((items.toList.drop<|gm items.size 0 lo).take<|gm items.size items.size hi-gm items.size 0 lo).toArray.size<=sizeLine;rw[zH,jT,qF,Array.length_toList];lia
 have j:gm items.size items.size hi<=items.size:=S8 _ _ (yL _) hi;let(O,b,S,d):=id c;have H:s.TypeIs (.ref sl) "slice":={O,b,S}
 unfold getItem
 try with_reducible refine xW ?_
 first|refine zV (zW ?_)|skip
 refine zV<|wpAny_sequenceKey ht.typeIs (by decide) ?_;refine zV (qB (name:=Str.ofString "__getitem__") ht.typeIs jC
  (qS jC ht.typeIs entry_tuple_getitem ?_<|args_tuple_getitem _ _))
 show wpAny _ _ (Builtin.Tuple.tupleItemsOf (.ref t) >>= _) _ _ s;refine zV<|tupleItemsOf_ ht ?_;refine zV<|wH H ?_;rw[yK<|by decide];refine zV<|js c pl p ?_;have o:¬((((gm items.size 0 lo:Nat):Int)==0&&(1:Int)==1&&(gm items.size items.size hi-gm items.size 0 lo)==items.size)=true):=by
  intro q;rw[zF,zF]at q;have e:((gm items.size 0 lo:Nat):Int)=0:=eq_of_beq q.1.1;have q2:gm items.size items.size hi-gm items.size 0 lo=items.size:=eq_of_beq q.2;exact hw {by lia,by lia}
 show wpAny _ _ (if(((gm items.size 0 lo:Nat):Int)==0&&(1:Int)==1&&(gm items.size items.size hi-gm items.size 0 lo)==items.size)=true then _ else _) _ _ s;rw[yM o,K9]
 first
  |exact zV (m:=Builtin.Tuple.tupleExact _) (qJ (zW {_,rfl,zW h}) a)
  |exact zV (m:=Builtin.Tuple.tupleExact _) (qJ (zV<|zW<|zW {_,rfl,zW h}) a)
  |exact zV (zV (m:=Builtin.Tuple.tupleExact _)<|qJ (zW<|zW {_,rfl,zW h}) a)
  |exact zV<|zV (m:=Builtin.Tuple.tupleExact _)<|qJ (zW {_,rfl,zW h}) a
end HT
namespace L2
open PySem PySem.Spec PyProof.Rows
abbrev TO:=St->Hp->(Δ Int->Hp->Prop)->Prop
def PO(X:Cx)(e:Δ γ)(t:TO):Prop:=
 ∀(p:Γ (Ψ×Obj))(s:Ξ)(a:St)(H:Hp)(Q:Δ Int->Hp->Prop),Inv X p a H s->t a H Q ->
  wpAny (model X.prog X.w) X.A (evalPart e X.env) (λu S=>∃o b,Inv X p a b S/\IsPart u o/\Q o b) X.xe s
def PP:TO:=λ_ H Q=>Q none H
def Wn(t:TE):TO:=λb H Q=>t b H λx a=>∃i,x=.int i/\Q (↑i) a
def intsAre_of:∀{us:Γ Θ},aO (ns.map V.int) us->IntsAre us ns:=by
 induction ns with
 |nil=>intro us r;cases r;exact .nil
 |cons n ns i =>
  intro us r;cases r with
  |cons r1 R =>
   let(t,e):=r1;subst e;exact .cons n t<|i R
section
variable {lo hi:Δ γ}
def Oa:PO X none PP:=by
 exactλp s a H Q I h=>zW {none,H,I,.none,h}
def FN(h:PE X e te):PO X (↑e) (Wn te):=by
 refineλp s d H Q I hw=>bZ (h p s d H _ I hw) λu S z=>?_;let(x,a,b,r1,c):=z;let(i,rfl,q):=c;let(t,rfl):=r1;exact{↑i,a,b,.int i t,q}
def QT(X:Cx)(r:V->Δ Int->Δ Int->Hp->VK->Prop):Prop:=
 ∀(p:Γ (Ψ×Obj))(s:Ξ)(a:St)(H:Hp)(x:V)(v vl u:Θ)(l i:Δ Int)(S:Ψ)(Q:VK),Inv X p a H s->RelV x v->s.heap.IsSliceOf S vl u .none->IsPart vl l->IsPart u i->r x l i H Q ->
  ∃T id,typeLookup (.type T) "__getitem__"=pure (↑(.builtin id))/\s.TypeIs v T/\wpAny (model X.prog X.w) X.A (getItem v<|.ref S) (EP X p a Q) X.xe s
def QT.or(h:QT X r)(h':QT X U):QT X (λx lo hi H Q=>r x lo hi H Q\/U x lo hi H Q):=by
 intro p s a H x v vl V lo hi L Q I R S l u q;rcases q with q|q
 .exact h p s a H x v vl V lo hi L Q I R S l u q
 .exact h' p s a H x v vl V lo hi L Q I R S l u q
def tSl(r:V->Δ Int->Δ Int->Hp->VK->Prop)(te:TE)(T t:TO):TE:=λa H Q=>te a H λx b=>T a b λl c=>t a c λu d=>r x l u d Q
def KQ(R:QT X r)(E:PE X e te)(L:PO X lo tl)(U:PO X hi th):PE X (.Subscript e (.Slice lo hi none p2) pos) (tSl r te tl th):=by
 refineλp s a H Q I h=>Subscript_<|bZ (E p s a H _ I h) λv S ⟨x,c,i,r1,q⟩=>(wpAny_Slice<|bZ (L p S a c _ i q) λvl n ⟨l,d,g,P,q2⟩=>bZ (U p n a d _ g q2) λV o z=>?_);let(u,f,j,k,m):=z;apply zW;let(T,id,t,ht,G):=R p _ a f x v vl V l u o.heap.objs.size Q (j.kept λb O=>zU _) r1 (.new ..) P k m;exact tail_any ht t G (by rfl)
def Sh(xs:Γ V)(lo hi:Δ Int):Γ V:=(xs.drop<|HT.gm xs.length 0 lo).take<|HT.gm xs.length xs.length hi-HT.gm xs.length 0 lo
def A9(xs:Γ V)(lo hi:Δ Int):(Sh xs lo hi).length<=xs.length:=by
 unfold Sh;rw[jT,qF];lia
def Zt(K:Φ):V->Δ Int->Δ Int->Hp->VK->Prop:=λx l i H Q=>∃a s,x=.ref a/\iF K H a s /\
 ¬(HT.gm s.length 0 l=0/\HT.gm s.length s.length i=s.length)/\∀p,H p=none->Q (.ref p) (upd H p<|.tup<|Sh s l i)
def SN:QT X (Zt X.K):=by
 intro p s f H x v vl V l c L Q I R d P u h;let(a,S,rfl,e,hw,q):=h;cases R;let(i,r,ht,z):=I.tuple e;have n:i.toArray.size=S.length:=by exact r.length.symm
 refine{"tuple",_,PyProof.Rows.slot_tuple_getitem.lookup,ht.typeIs,(HT.oV ht d P u (by grind) ?_ (by rw[n];exact z))};rw[n];refine{.ref s.heap.objs.size,_,I.laid (λb o=>zU _) (yL _) ?_,rfl,q _<|I.hok.fresh<|yL _};exact{yD (A9 S l c) z,_,(r.drop _).take _,.new _ _}
def Wp(K:Φ):R2:=λx y H Q=>∃a b X s,x=.ref a/\y=.ref b/\iF K H a X/\iF K H b s/\X≠[]/\X.length+s.length<=sizeLine /\
 (s=[]->Q (.ref a) H)/\(s≠[]->∀p,H p=none->Q (.ref p) (upd H p<|.tup<|X++s))
def aO.abo(r:aO xs us):us=[]↔xs=[]:=by
 cases r with
 |nil=>simp
 |cons _ _=>simp
def N0:iG X (binaryOp .Add) (Wp X.K):=by
 intro p s e H x y v u Q I R Y h;let(a,b,S,d,rfl,rfl,A,B,c,Z,q,q2):=h;cases R;cases Y;let(i,r1,P,_):=I.tuple A;let(f,r,p2,_):=I.tuple B;refine HT.ON P p2 (λz=>c<|r1.abo.mp z) (λz=>{.ref a,H,I,rfl,q<|r.abo.mp z}) (λz=>({.ref s.heap.objs.size,_,I.laid (λb o=>zU _) (yL _) ?_,rfl,q2 (λw=>z<|r.abo.mpr w) _<|I.hok.fresh<|yL _})) (by rw[<-r1.length,<-r.length];lia);exact{by rw[zN];exact Z,_,r1.append r,.new _ _}
end
def QP(n:Nat)(i:Int):Δ Nat:=if 0<=i then(if i<n then↑i.toNat else none)else if -(n:Int)<=i then↑(i+n).toNat else none
def vy(xs:Γ α)(i:Int):Δ α:=(QP xs.length i).bind λj=>xs[j]?
def NP(h:QP n i=↑j):seqIndex? i n=↑j/\j<n/\-(n:Int)<=i/\i<n:=by
 unfold QP at h;by_cases a:0<=i
 .rw[yK a]at h;by_cases H:i<n
  .rw[yK H]at h;have e:i.toNat=j:=xC h;exact{by rw[seqIndex_of a H,e],by lia,by lia,H}
  .rw[yM H]at h;cases h
 .rw[yM a]at h;by_cases H:-(n:Int)<=i
  .rw[yK H]at h;have e:(i+n).toNat=j:=xC h;exact{by rw[seqIndex_neg (by lia) H,e],by lia,H,by lia}
  .rw[yM H]at h;cases h
def zf(h:vy xs i=↑v):∃j,seqIndex? i xs.length=↑j/\xs[j]?=↑v/\j<xs.length/\-(xs.length:Int)<=i/\i<xs.length:=by
 unfold vy at h;cases e:QP xs.length i with
 |none=>rw[e]at h;cases h
 |some j =>
  rw[e]at h;let(H,a,b,c):=NP e;exact⟨j,H,h,a,b,c⟩
def As{α:Type}{xs:Γ α}{j:Nat}{v:α}(h:xs[j]?=↑v):vy xs (j:Int)=↑v:=by
 have H:j<xs.length:=(List.getElem?_eq_some_iff.mp h).1;have e:QP xs.length (j:Int)=↑j:=by
  unfold QP;rw[yK<|by lia,yK<|by lia];simp
 unfold vy;rw[e];exact h
def Al(b:γ):Prop:=∀o i,subscripted b false o i=operate [o,i] (getItem o i)
def MS(X:Cx)(r:R2):Prop:=
 ∀(E e:γ)(p:Γ (Ψ×Obj))(s:Ξ)(a:St)(H:Hp)(x y:V)(v u:Θ)(Q:VK),Inv X p a H s->RelV x v->RelV y u->r x y H Q ->
  subscripted e false v u=operate [v,u] (getItem v u)->wpAny (model X.prog X.w) X.A (subscriptTail E e v u) (EP X p a Q) X.xe s
def ZM(X:Cx)(id:String)(r:V->Γ V->Hp->VK->Prop):Prop:=
 ∀(p:Γ (Ψ×Obj))(s:Ξ)(a:St)(H:Hp)(x:V)(S:Γ V)(v:Θ)(u:Γ Θ)(Q:VK),Inv X p a H s->RelV x v->aO S u->r x S H Q ->
  wpAny (model X.prog X.w) X.A (call (.builtin id) (v::u)) (EP X p a Q) X.xe s
section
def MS.or(h:MS X r)(h':MS X U):MS X (λx y H Q=>r x y H Q\/U x y H Q):=by
 intro V e p s a H x y v u Q I R Y q S;rcases q with q|q
 .exact h V e p s a H x y v u Q I R Y q S
 .exact h' V e p s a H x y v u Q I R Y q S
def WC(R:MS X r)(A:PE X a ta)(B:PE X b tb)(S:Al b):PE X (.Subscript a b pos) (Vg r ta tb):=by
 exactλp s f H Q I h=>Subscript_<|UH A B I h λv u e x y c i d Y q=>R a b p e f c x y v u Q i d Y q<|S _ _
def Xc(K:Φ):R2:=λx y H Q=>∃p s i v,x=.ref p/\y=.int i/\iL K H p s/\vy s i=↑v/\Q v H
def Vz(K:Φ):R2:=λx y H Q=>∃p s i v,x=.ref p/\y=.int i/\iF K H p s/\vy s i=↑v/\Q v H
def VJ:R2:=λx y H Q=>∃z i c,x=.str z/\y=.int i/\z.length<=sizeLine/\vy z.cps.toList i=↑c/\Q (.str {#[c]}) H
def Oi:MS X (Xc X.K):=by
 intro V e P s d H x y v u Q I o Y h c;let(p,C,i,z,rfl,rfl,n,m,q):=h;cases o;let(t,rfl):=Y;let(S,r,l,Z):=I.list n;let(j,a,f,B,g,k):=zf m;let(w,E,R):=r.get f;have L:=r.length;have N:=zz;have fin:EP X P d Q w s:={z,H,I,R,q}
 by_cases b:0<=i
 .have J:i.toNat=j:=by
   rw[seqIndex_of b k]at a;exact xC a
  exact item_listR l.isList b (by lia) (by rw[J];simpa using E) fin c
 .have J:(i+(S.toArray.size:Int)).toNat=j:=by
   rw[seqIndex_neg (by lia) g]at a;rw[zH,<-L];exact xC a
  exact subscriptTail_builtinR (x:=w) l.isList.typeIs slot_list_getitem.lookup
   (wpAny_getItem_list_neg (Q:=λr A=>r=w/\EP X P d Q r A) l.isList (by lia) (by rw[zH]<;>lia) (by lia) (by rw[J];simpa using E) {rfl,fin}) c
def DN:MS X (Vz X.K):=by
 intro V e P s a H x y v u Q I k Y h S;let(p,B,i,z,rfl,rfl,f,d,q):=h;cases k;let(t,rfl):=Y;let(g,r,l,Z):=I.tuple f;let(j,b,c,n,o,A):=zf d;let(w,E,R):=r.get c;have L:=r.length;have N:=zz;have fin:EP X P a Q w s:={z,H,I,R,q}
 exact subscriptTail_builtinR (x:=w) l.typeIs slot_tuple_getitem.lookup
  (getItem_tuple (j:=j) (Q:=λr m=>r=w/\EP X P a Q r m) l (by lia) (by lia) (by rw[zH,<-L];exact b) (by simpa using E) {rfl,fin}) S
def Tn:MS X VJ:=by
 intro V e p s k H x y v u Q I r R h S;let(z,i,c,rfl,rfl,Z,E,q):=h;let(t,rfl):=r;let(T,rfl):=R;let(j,a,b,d,f,g):=zf E;have l:z.cps.toList.length=z.length:=by rfl
 have n:=zz;exact tail_any (typeIs_str s z t) slot_str_getitem.lookup (getItem_str (by
  grind) (by grind) {.str _,H,I.tok _,{_,rfl},q}) S
def rIx(K:Φ):R2:=λx y H Q=>Xc K x y H Q\/Vz K x y H Q\/VJ x y H Q
def Uy:MS X (rIx X.K):=Oi.or<|DN.or Tn
def oJ:fF X (.builtin "len") (λxs H Q=>∃p ys,xs=[.ref p]/\(iL X.K H p ys\/iF X.K H p ys)/\Q (.int ys.length) H):=by
 intro P s b H xs U Q I r h;let(p,ys,rfl,a,q):=h;let(u,rfl,x):=vals1 r;cases x;have N:=zz;rcases a with a|a
 .let(i,R,l,z):=I.list a;have n:=R.length;exact Calls.call_len_list l.isList (by simp?[zH]<;>lia) {.int ys.length,H,I.tok _,{s.toks+1,by rw[zH,n]},q}
 .let(i,R,l,z):=I.tuple a;have n:=R.length;exact len_tuple l (by simp?[zH]<;>lia) {.int ys.length,H,I.tok _,{s.toks+1,by rw[zH,n]},q}
def AI:fF X (.type "list") (λxs H Q=>∃p ys,xs=[.ref p]/\(iL X.K H p ys\/iF X.K H p ys)/\∀l,H l=none->Q (.ref l) (upd H l<|.lst ys)):=by
 intro P s g H xs U Q I r h;let(p,ys,rfl,d,q):=h;let(u,rfl,x):=vals1 r;cases x;have fin:∀(i:Γ Θ),aO ys i->ys.length<=sizeLine->∀(a:ι)(c:Nat),(∀b f,s.heap.get? b=↑f->a.get? b=↑f) ->
   a.get? s.heap.objs.size=some {cls:=.type "list",dict:=none,data:=.seq i.toArray c,slots:=#[]}->EP X P g Q (.ref s.heap.objs.size) {s with heap:=a}:=λi R z a c k e =>
  {.ref s.heap.objs.size,_,I.laid (t':=s.toks) k (yL _) (show gh X.prog X.w _ a _ (.lst ys)from {z,i,c,R,e}),rfl,q _<|I.hok.fresh<|yL _}
 rcases d with d|d
 .let(i,R,L,z):=I.list d;have N:=R.length;let(o,O,hc,n,D):=L.isList;exact call_list_seq p (.inl rfl) O hc D (λa c k e=>fin i R z a c k e) (by simp?[zH]<;>lia)
 .let(i,R,L,z):=I.tuple d;have N:=R.length;let(o,O,hc,n,D):=L;exact call_list_seq p (.inr rfl) O hc D (λa c k e=>fin i R z a c k e) (by simp?[zH]<;>lia)
def wc:fF X (.type "tuple") (λxs H Q=>∃p ys,xs=[.ref p]/\((iL X.K H p ys/\∀l,H l=none->Q (.ref l) (upd H l<|.tup ys))\/(iF X.K H p ys/\Q (.ref p) H))):=by
 intro P s e H xs U Q I r h;let(p,ys,rfl,h):=h;let(u,rfl,x):=vals1 r;cases x;rcases h with ⟨c,q⟩|⟨c,q⟩
 .let(i,R,L,z):=I.list c;have n:=R.length;refine call_tuple_list L.isList (λa k=>?_) (by grind);have d:Inv X P e H {s with heap:=a}:=I.kept k;exact{.ref a.objs.size,_,(d.laid (λb o=>zU _) (yL _) ({z,i,R,.new _ _}):Inv X P e (upd H a.objs.size<|.tup ys) _),rfl,q _<|d.hok.fresh<|yL _}
 .let(i,R,L,z):=I.tuple c;exact call_tuple_same L {.ref p,H,I,rfl,q}
def ZH(K:Φ)(T:String)(x:V)(H:Hp):Prop:=match x with
 |.str _=>T="str"
 |.int _=>T="int"
 |.ref p=>(T="list"/\∃s,iL K H p s)\/(T="tuple"/\∃s,iF K H p s) \/
   (T="dict"/\((∃k,H p=↑(.dK k))\/∃k,H p=↑(.dT k)))\/(T="set"/\∃S n,H p=↑(.set S n))
 |_=>False
def JW(I:Inv X pins σ H s)(r:RelV x v)(y:ZH X.K T x H) :
  s.TypeIs v T/\∀a,v=.ref a->∃O,s.heap.get? a=↑O/\O.dict=none:=by
 cases x with
 |str z =>
  let(t,rfl):=r;cases(show T="str"from y);exact{typeIs_str s z t,λ_ e=>nomatch e}
 |int i =>
  let(t,rfl):=r;cases(show T="int"from y);exact{wC s i t,λ_ e=>nomatch e}
 |ref p =>
  cases r;rcases y with ⟨rfl,u,q⟩|⟨rfl,u,q⟩|⟨rfl,hk⟩|⟨rfl,S,n,hk⟩
  .let(f,_,l,_):=I.list q;refine{l.isList.typeIs,λa e=>?_};cases e;let(o,n,e,c,d,_):=l;exact⟨o,e,d⟩
  .rcases q with q|⟨o,f,n,hk,hc,d,_⟩
   .let(_,_,_,(o,g,b,_),o2,j,m):=q.ok I.hok;exact{{o,g,b},λa e=>by cases e;exact{o2,j,m}}
   .exact{{o,I.kIn p o hk,hc},λa e=>by cases e;exact{o,I.kIn _ o hk,d}}
  .have z:∃o,s.heap.get? p=↑o/\o.ExactDict:=by
    rcases hk with ⟨k,hk⟩|⟨k,hk⟩
    .let(_,_,_,_,o,_,_,e,E,_):=I.hok p _ hk;exact⟨o,e,E⟩
    .let(_,_,o,_,_,e,E,_):=I.hok p _ hk;exact⟨o,e,E⟩
   let(o,e,E):=z;refine{{o,e,E.1},λa b=>?_};cases b;exact{o,e,E.2.1}
  .let(o,_,_,_,e,E,_):=I.hok p _ hk;refine{{o,e,E.1},λa b=>?_};cases b;exact{o,e,E.2.1}
 |_=>exact False.elim y
def Ui(K:Φ)(T:String)(r:V->Γ V->Hp->VK->Prop)(t:TE):TE:=λb H Q=>t b H λx a=>ZH K T x a/\r x [] a Q
def X8(K:Φ)(T:String)(r:V->Γ V->Hp->VK->Prop)(o:TE)(t:TA):TE:=λb H Q=>o b H λx a=>ZH K T x a/\t b a λs c=>r x s c Q
variable {T id:String}
def Sw(pa:PlainAttrs T)(t:Slot T name id)(y:typeOf (.builtin id)=pure (.type "method_descriptor"))(m:ZM X id r)(O:PE X o to)
  (a:attributeBase o name X.env (eval o X.env)=eval o X.env:=by rfl)(l:(apos.endLine==cpos.line)=true:=by rfl):PE X (.Call (.Attribute o name apos) [] [] cpos) (Ui X.K T r to):=by
 refineλp s b H Q I h=>wpAny_Call_method0_late a l<|bZ (O p s b H _ I h) λv S z=>?_;let(x,c,i,r1,Y,q):=z;let(d,e):=JW i r1 Y;exact{T,id,pa,t,y,d,e,Calls.callWith_builtin rfl (PySem.evalArgs_none<|m p S b c x [] v [] Q i r1 .nil q)}
def pq(pa:PlainAttrs T)(S:Slot T name id)(y:typeOf (.builtin id)=pure (.type "method_descriptor"))(M:ZM X id r)(O:PE X o to)(m:PA X (e::es) t)
  (A:attributeBase o name X.env (eval o X.env)=eval o X.env:=by rfl)
  (a:((backTo cpos<|starEach (e::es) X.env).all (λx=>!x.1)&&(backToKw cpos<|keywordEach [] X.env).all (λx=>x.1.isSome)
   &&decide ((e::es).length+([]:Γ Keyword).length+(if([]:Γ Keyword).isEmpty then 0 else 1)<30))=true:=by rfl)
  (l:(apos.endLine==cpos.line)=true:=by rfl)(n:starEach (e::es) X.env=(false,eval e X.env)::starEach es X.env:=by rfl)(Z:(backTo cpos<|starEach es X.env).any (·.1)=false:=by rfl) :
  PE X (.Call (.Attribute o name apos) (e::es) [] cpos) (X8 X.K T r to t):=by
 intro p s b H Q I h;refine wpAny_Call_method_late A a l rfl (bZ (O p s b H _ I h) λv u ⟨x,d,i,r1,Y,q⟩=>?_);let(j,k):=JW i r1 Y;refine{T,id,pa,S,y,j,k,?_};have c:=m cpos p u b d _ i q;rw[n]at c ⊢;refine Calls.callWith_builtin (by show(false||(backTo cpos<|starEach es X.env).any (·.1))=false;rw[Z]<;>rfl)<|Calls.evalArgs_plain ?_;exact bZ c λU w z=>by let(V,f,g,R,q2):=z;exact M p w b f x V v U Q g r1 R q2
/- xs.append(e),list.index on a af5 tuple .. are ZM facts of 06m -/
end
def Rx(X:Cx)(id:String)(r:V->Γ V->Hp->VK->Prop):Prop:=
 ∀(p:Γ (Ψ×Obj))(s:Ξ)(a:St)(H:Hp)(x:V)(S:Γ V)(v:Θ)(u:Γ Θ)(Q:VK),Inv X p a H s->RelV x v->aO S u->r x S H Q ->
  wpAny (model X.prog X.w) X.A (call (.builtin id) (v::u)) (EP X p a Q) X.xe s
def aO.one(h:aO [x] us):∃u,us=[u]/\RelV x u:=by
 cases h with|cons r t=>cases t;exact{_,rfl,r}
def aO.two(h:aO [x,y] us):∃u v,us=[u,v]/\RelV x u/\RelV y v:=by
 cases h with|cons r t=>let(v,rfl,q):=aO.one t;exact{_,_,rfl,r,q}
def aO.zero:∀{us:Γ Θ},aO [] us->us=[]
 |_,.nil=>rfl
def aO.dropLast(h:aO xs us):aO xs.dropLast us.dropLast:=by
 induction h with
 |nil=>exact .nil
 |cons r t i =>
  cases t with
  |nil=>exact .nil
  |cons q T=>exact .cons r i
def aO.reverse(h:aO xs us):aO xs.reverse us.reverse:=by
 induction h with
 |nil=>exact .nil
 |cons r t i=>rw[kX,kX];exact aO.append i<|.cons r .nil
def aO.rep(h:aO xs us):∀k ,aO (List.replicate k xs).flatten (List.replicate k us).flatten
 |0=>.nil
 |k+1=>by
  exact aO.append h<|.rep h k
def Dp(l:Γ α):l.eraseIdx (l.length-1)=l.dropLast:=by
 simp
def foldl_rep(i:Γ Θ):∀(k:Nat)(acc:Γ Θ),
  List.foldl (λx1 x=>x1++x) acc.toArray (List.replicate k i.toArray)=(acc++(List.replicate k i).flatten).toArray
 |0,acc=>by simp
 |k+1,acc=>by
  have e:acc.toArray++i.toArray=(acc++i).toArray:=by simp
  have E:(acc++i)++(List.replicate k i).flatten=acc++(List.replicate (k+1) i).flatten:=by
   rw[xD,List.flatten_cons,List.append_assoc]
  rw[<-E,<-foldl_rep i k<|acc++i,<-e,xD,List.foldl_cons]
section
variable {xs ys zs:Γ V}
def Inv.adS{i its':Γ Θ}{n:Nat}{f:Array Θ->Array Θ}{t':Nat}(I:Inv X pins σ H s)(a:H l=↑(.lst xs))
  (e:s.heap.get? l=some {cls:=.type "list",data:=.seq i.toArray n})(F:f i.toArray=its'.toArray)(v:aO ys its')(z:ys.length<=sizeLine) :
  Inv X pins σ (upd H l<|.lst ys) {s with heap:=s.heap.update l<|Obj.mapSeq f,toks:=t'}:=by
 have q:=PySem.IsL.update e f;rw[F]at q;apply I.write (by rw[a];exact trivial) (.inl rfl) (λB u b=>(xM s.heap _<|jK b).trans) {_,q};exact{z,its',_,v,q}
def Inv.adT{t':Nat}(I:Inv X pins σ H s)(v:aO ys its)(z:ys.length<=sizeLine) :
  Inv X pins σ (upd H s.heap.objs.size<|.lst ys) {s with heap:=s.heap.push {cls:=.type "list",data:=.seq its.toArray},toks:=t'}:=
 I.laid (λ_ _=>zU _) (yL _) {z,its,0,v,zX _ rfl}
def Inv.fresh(I:Inv X pins σ H s):H s.heap.objs.size=none:=I.hok.fresh<|yL _
def Inv.acH(I:Inv X pins σ H s)(a:H l=↑(.lst xs)):xs.length<=sizeLine/\∃ (i:Γ Θ) (n:Nat),aO xs i/\xs.length=i.length/\s.heap.get? l=some {cls:=.type "list",data:=.seq i.toArray n}:=by
 let(z,i,n,r,e):=I.hok l _ a;exact{z,i,n,r,r.length,e}
def Co(h:n<=sizeLine):Builtin.List.listTooLong n=false:=by
 unfold Builtin.List.listTooLong
 grind
end
def Ai:V->Γ V->Hp->VK->Prop:=λx v H Q=>∃l s y,x=.ref l/\v=[y]/\H l=↑(.lst s)/\s.length<sizeLine/\Q .non (upd H l<|.lst<|s++[y])
def mG:Rx X "list.append" Ai:=by
 intro p s d H x S v U Q I b V h;let(l,c,y,rfl,rfl,a,Z,q):=h;cases b;let(u,rfl,R):=V.one;let(z,i,n,r,L,e):=I.acH a;refine qT F.slot_list_append {_,e,rfl} F.entry_list_append (F.args_list_append_2 _ _) (PySem.list_append l i.toArray n u<|by grind) {e,({.non,_,I.adS a e (by simp) (r.append<|.cons R .nil) ?_,rfl,q})}
 grind
def Qv:V->Γ V->Hp->VK->Prop:=λx v H Q=>∃l b s zs,x=.ref l/\v=[.ref b]/\H l=↑(.lst s)/\H b=↑(.lst zs)/\s.length+zs.length<=sizeLine/\Q .non (upd H l<|.lst<|s++zs)
def G7:Rx X "list.extend" Qv:=by
 intro p s m H x j v S Q I f V h;let(l,b,k,zs,rfl,rfl,c,B,g,q):=h;cases f;let(u,rfl,U):=V.one;cases U;let(z,i,n,r,L,e):=I.acH c;let(z2,a,N,R,d,E):=I.acH B;have Z:i.toArray.size+a.toArray.size<=sizeLine:=by rw[zH,zH];lia
 have A:¬(!i.toArray.isEmpty&&Builtin.List.listTooLong (i.toArray.size+a.toArray.size))=true:=by
  rw[Co Z,kR];exact yY
 refine qT F.slot_list_extend {_,e,rfl} F.entry_list_extend (F.args_list_extend_2 _ _)
  (AutoSeq1.list_extend_list_list_0 l i.toArray n b a.toArray N A (by rw[zH];lia)<|by lia) {e,E,?_}
 refine{.non,_,I.adS (its':=i++a) c e (by simp) (r.append R) ?_,rfl,q};rw[zN];lia
def TQ:V->Γ V->Hp->VK->Prop:=λx v H Q=>∃l s y,x=.ref l/\v=[]/\H l=↑(.lst s)/\s[s.length-1]?=↑y/\Q y (upd H l<|.lst s.dropLast)
def SX:Rx X "list.pop" TQ:=by
 intro p s j H x f v d Q I c V h;let(l,g,y,rfl,rfl,a,b,q):=h;cases c;have S:=V.zero;subst S;let(z,i,n,r,L,e):=I.acH a;let(u,U,R):=r.get b;have Y:i.toArray[i.toArray.size-1]?=↑u:=by
  show i.toArray[i.length-1]?=↑u;rw[<-Array.getElem?_toList,<-L];exact U
 refine qT F.slot_list_pop {_,e,rfl} F.entry_list_pop (F.args_list_pop_1 _) (MeetsSeq.list_pop_last l i.toArray n u Y (by rw[zH];lia)) {e,?_};refine{y,_,I.adS (its':=i.dropLast) a e ?_ r.dropLast ?_,R,q}
 .show i.toArray.eraseIdxIfInBounds (i.toArray.size-1)=i.dropLast.toArray;rw[zH,List.eraseIdxIfInBounds_toArray,Dp]
 .rw[List.length_dropLast];lia
def YR:R2:=λx y H Q=>∃l k s,x=.ref l/\y=.int k/\H l=↑(.lst s)/\-(2^63)<=k/\k<2^63/\s.length*k.toNat<=sizeLine /\
 ∀p,H p=none->Q (.ref p) (upd H p<|.lst (List.replicate k.toNat s).flatten)
def len_rep(xs:Γ α)(k:Nat):(List.replicate k xs).flatten.length=k*xs.length:=by
 simp
def So:iG X (binaryOp .Mult) YR:=by
 intro p s D H x y v u Q I R Y h;let(l,k,C,rfl,rfl,o,g,j,Z,q):=h;cases R;let(t,rfl):=Y;let(z,i,n,r,L,e):=I.acH o;have N:i.toArray.size*k.toNat<=sizeLine:=by rw[zH,<-L];exact Z
 have b:¬i.toArray.size*k.toNat > (2^63-1)/8:=by
  have:(sizeLine:Nat)<=(2^63-1)/8:=by decide
  lia
 have K:¬(!Builtin.List.listFitsIndex k)=true:=by
  rw[fitsIndex_both g j];exact yY
 have A:¬Builtin.List.listTooLong (i.toArray.size*k.toNat)=true:=by
  rw[Co N];exact yY
 have w:List.foldl (λc d=>c++d) #[] (List.replicate (if i.toArray.isEmpty=true then 0 else k.toNat) i.toArray)=(List.replicate k.toNat i).flatten.toArray:=by
  have f:∀m:Nat,List.foldl (λc d=>c++d) #[] (List.replicate m i.toArray)=(List.replicate m i).flatten.toArray:=λm=>by
   have:=foldl_rep i m [];rw[xN]at this;exact this
  rw[f];cases i with
  |nil=>simp
  |cons a B=>rw[yM<|by simp]
 refine wpAny_binaryOp_repeat_ref (T:="list") (U:="int") (by decide) {_,e,rfl} (λS=>wC S k t) noFill_list_mul F.fills_int_mul vR repeat_list F.slot_int_index.lookup
  (qT vR (wC s k t) F.entry_int_rmul (F.args_int_rmul_2 _ _) (int___rmul___int_list k t l i.toArray n)
   {e,rfl,{_,e,rfl},qT F.slot_list_mul {_,e,rfl} F.entry_list_mul (F.args_list_mul_2 _ _) (AutoListH.list___mul___list_int_3 l i.toArray n k t K b A) {e,?_}})
 rw[w];exact{.ref _,_,I.adT (t':=s.toks) (r.rep k.toNat) (by rw[len_rep,Nat.mul_comm];exact Z),rfl,q _ I.fresh}
end L2
namespace Att
open PySem PySem.W PySem.Calls PyProof.Rows
variable {n:Nat}
def abm:∀ns vs,WellAll P h vs (ns.map WData.int)->IntsAre vs ns:=by
 intro ns
 induction ns with
 |nil =>
  intro vs w;cases w;exact .nil
 |cons n ns i =>
  intro vs w;cases w with
  |cons a b =>
   cases a;exact .cons _ _<|i _ b
def acI{l:OpenLaw}(N:l.most=↑n){P:Params}{h:ι}{args:Γ WData}{v:Γ Θ}
  (U:l.row.toRowW.claim.pre args=true)(L:WellAll P h v args) :
  ∃a vs ns,v=[Value.ref a]/\args=[WData.list<|ns.map WData.int]/\h.get? a=some {cls:=.type "list",data:=.seq vs.toArray}/\IntsAre vs ns/\ns.length<=n:=by
 have hc:l.pre.holds [] _=true:=(pre_splitW U).2;let(d,r,rfl,c,e):=hasAllW_cons<|(pre_splitW U).1;obtain rfl:=hasAllW_nil e;let(x,rfl,f):=hasW_list c;let(ns,rfl):=items_int f;have H:ns.length<=n:=by
  have b:(WTm.not<|.lt (.lit<|.int n)<|.len<|.arg 0).holds [] {args:=[.list<|ns.map .int]}=true:=by
   have b:=(holds_andW hc).1
   grind
  have g:=condW_of b<|w_not<|w_lt w_lit<|w_len_list<|w_arg rfl
  grind
 cases L with
 |cons w W =>
  cases W;cases w with
  |list o A=>exact{_,_,ns,rfl,rfl,o,abm ns _ A,H}
def acJ(l:OpenLaw)(args:Γ WData):l.row.toRowW.claim.post args (.bool true) args=true:=
 postW_of
  (by rfl)
  (w_eq_bool (w_res rfl) w_lit) rfl
def abX{l:OpenLaw}{q:ε}{e:Γ Str}{XP:(Str->Δ Θ)->ι->Prop}{YP:δ->ι->Prop}{d:DefRec}
  (N:l.most=↑n)(F:d.params.defaults=[])
  (C:∀w A i m M fa o p D c a vs ns,
   Ground q e [] XP w A m M i.heap->YP w i.heap ->
   i.heap.get? fa=↑o->o.data=.func (docDef d.name d.params d.body d.scope p D c)->i.heap.CodeRec D d.name->m d.name=↑(.ref fa) ->
   i.heap.get? a=some {cls:=.type "list",data:=.seq vs.toArray}->IntsAre vs ns->ns.length<=n->i.gens=#[] ->
   codeAny (model l.prog w) callerA (.call (.ref fa) {[.ref a],[]}) (λr s'=>r=.ok (.ret<|.bool true)/\OldK i.heap s'.heap/\s'.os=i.os/\AllBare s'.gens) i) :
  WalkO q e XP YP l.row.toRowW d [] (λf vs=>PySem.call f vs):=by
 intro w A i m M G Y fa o p D c V kV B y g k j z S v J U I E L O;obtain rfl:V=.none:=Dflts.none k F;obtain rfl:kV=.none:=Dflts.noKw k;let(a,vs,ns,rfl,rfl,b,s,H):=acI N U L;refine enter_call<|jP (C w A i m M fa o p D c a vs ns G Y B (fd_plain y) g j b s H z) λr s' Q=>?_;let(rfl,t,u,x):=Q;exact{.inl {.bool true,.bool true,[],rfl,λ_=>rfl,.bool true,acJ l _,λ_=>{.nil,nofun}},t,u,x}
section
variable {K:Frag}
end
end Att
namespace L2
open PySem PySem.Spec PyProof.Rows
variable {B:Prop}
def wk:∀{vs:Γ Θ}{ns:Γ Int},IntsAre vs ns->aO (ns.map V.int) vs
 |_,_,.nil=>.nil
 |_,_,.cons n t h=>.cons {t,rfl}<|wk h
abbrev rO:M8:=λ_ _ _ _ _ _=>False
abbrev E0:XK:=λ_ _ _=>False
def o7:bw rO X E0:=λ_ _ _ _ _ _ _ h=>h.elim
structure zv(K:W.Frag)(x qual:Str)(st:Stmt)(f:Addr)(fd:FuncData):Prop where
 ex:∃ (oc:Θ) (od:Δ Ψ) (kV doc pm:Θ) (an:Δ Ψ) (cdv ct:Θ) (osl:Array (Δ Θ)),
  fd=W.fnOf x qual (fj st) (aH st) (ah st) .none kV doc pm an cdv ct/\K.lookup f=↑{oc,od,.func fd,osl}/\W.codeIn K cdv qual=true
 kp:W.keepIn K (.ref f)=true
section
variable {K:Φ}
def zv.binds{st:Ω}(F:zv K x qual st f fd)
  (h:∀kV d p a c t us,us.length=ps.length->bindArgs (W.fnOf x qual (fj st) (aH st) (ah st) .none kV d p a c t) {us,[]}=pure (ps.zip us)):Binds K fd ps []:=by
 let(O,D,kV,d,p,a,c,t,o,rfl,l,H):=F.ex;exact .all<|h kV d p a c t
def rg{st:Ω}{kV:Θ}(l:K.lookup f=↑{oc,od,.func<|W.fnOf x qual (fj st) (aH st) (ah st) .none kV doc pm an I ct,osl})
  (c:W.codeIn K I qual=true)(k:W.keepIn K (.ref f)=true):zv K x qual st f (W.fnOf x qual (fj st) (aH st) (ah st) .none kV doc pm an I ct):={{oc,od,kV,doc,pm,an,I,ct,osl,rfl,l,c},k}
end
def lK{A B:Prop}(h:B):if false=true then A else B:=by
 rw[yM yY];exact h
def nT{A B:Prop}(h:A):if true=true then A else B:=by
 rw[yK rfl];exact h
def aA(H H':Hp):Prop:=∀b o,H b=↑o->H' b=↑o
def aA.refl(H:Hp):aA H H:=λ_ _ h=>h
def aA.trans(a:aA H I)(b:aA I U):aA H U:=λc o h=>b c o<|a c o h
def aA.free(e:aA H H')(h:H' l=Option.none):H l=Option.none:=by
 cases q:H l with
 |none=>rfl
 |some o =>
  rw[e l o q]at h;lia
def aA.seq{K:Φ}(e:aA H H')(h:iL K H a xs):iL K H' a xs:=by
 rcases h with (h|⟨o,h⟩)|h
 .exact .inl<|.inl<|e _ _ h
 .exact .inl<|.inr {o,e _ _ h}
 .exact .inr h
def cG:∀s n acc,cellsFrom n s acc=cellsFrom n s []++acc
 |[],_,_=>rfl
 | (e,k)::r,n,acc=>by
  unfold cellsFrom;split
  .rw[cG r _ _,cG r _ [(e,n)]];simp
  .exact cG r n acc
def lr:∀{l m:Γ (Str×α)},(l++m).lookup x=↑c->l.lookup x=↑c\/(l.lookup x=none/\m.lookup x=↑c)
 |[],_,h=>.inr {rfl,h}
 | (k,v)::r,m,h=>by
  have i:=@lr α x c r m;rw[xE,yB]at h;rw[yB];cases e:x==k with
  |true=>rw[e]at h;exact .inl h
  |false=>rw[e]at h;exact i h
def sr:∀{l m:Γ (Str×α)},l.lookup x=↑c->(l++m).lookup x=↑c
 |[],_,h=>by grind
 | (k,v)::r,m,h=>by
  grind
def qo:∀{l m:Γ (Str×α)},l.lookup x=none->(l++m).lookup x=m.lookup x
 |[],_,_=>rfl
 | (k,v)::r,m,h=>by
  grind
def iE:∀s n x c,(x,c)∈cellsFrom n s []->(x,NameKind.cell)∈s
 |[],_,_,_,h=>by cases h
 | (e,k)::r,n,x,c,h=>by
  unfold cellsFrom at h;split at h
  .rw[cG]at h;rcases List.mem_append.mp h with h|h
   .exact zC _<|iE r _ x c h
   grind
  .exact zC _<|iE r n x c h
def gY(env:Env):Γ (Str×NameKind)->Γ (Str×Ψ)->Γ (Str×Ψ)
 |[],a=>a
 | (n,k)::r,a=>if k==.free then gY env r ((n,(env.cells.lookup n).getD 0)::a)else gY env r a
def nH(env:Env):∀s acc,(∀x∈s,x.2=.free->∃c,env.cells.lookup x.1=↑c) ->
  (forIn s acc λ(p:Str×NameKind)cs=>if p.2==.free then(do let a <- cellOf env p.1;pure<|.yield ((p.1,a)::cs))else pure (.yield cs))=pure (gY env s acc)
 |[],acc,_=>rfl
 | (n,k)::r,acc,h=>by
  rw[List.forIn_cons];have R:=λx X=>h x<|zC _ X;unfold gY;by_cases hk:k=.free
  .let(c,hc):=h _ zE hk;subst hk;have e:cellOf env n=pure c:=by
    rw[cellOf,hc]
   have H:=hc;simp?[beq_self_eq_true,xG,e,pure_bind,H,qE];exact nH env r _ R
  .simp?[(show(k==NameKind.free)=false by grind),yN,qL,pure_bind];exact nH env r _ R
def nW{env:Env}(h:∀x∈scope.names,x.2=.free->∃c,env.cells.lookup x.1=↑c):closureFor scope env=pure (gY env scope.names []):=by
 have:=nH env scope.names [] h;exact(bind_pure _).trans this
def mD{env:Env}:∀{s:Γ _}{acc:Γ _},(∀x∈s,x.2=.free->∃c,env.cells.lookup x.1=↑c)->(∀x c,(x,c)∈acc->env.cells.lookup x=↑c) ->
  ∀x c,(x,c)∈gY env s acc->env.cells.lookup x=↑c
 |[],acc,_,a,x,c,m=>a x c m
 | (n,k)::r,acc,h,a,x,c,m=>by
  unfold gY at m;have H:=λx X=>h x<|zC _ X;split at m
  .let(C,hc):=h _ zE (show k=.free by grind);refine mD H (λy d Y=>?_) x c m
   grind
  .exact mD H a x c m
def ij{env:Env}:∀{s:Γ (Str×NameKind)}{acc:Γ (Str×Ψ)}{x:Str},(s.lookup x=↑.free\/∃c,acc.lookup x=↑c)->∃c,(gY env s acc).lookup x=↑c
 |[],acc,x,h=>by
  rcases h with h|h
  .cases h
  .exact h
 | (n,k)::r,acc,x,h=>by
  unfold gY;split
  .apply ij;rcases h with h|⟨c,h⟩
   .rw[yB]at h;cases e:x==n with
    |true=>exact .inr {_,by rw[yB,e]}
    |false=>rw[e]at h;exact .inl h
   .refine .inr ?_;rw[yB];cases e:x==n with
    |true=>exact{_,rfl}
    |false=>exact⟨c,h⟩
  .rename_i hk;apply ij;rcases h with h|h
   .rw[yB]at h;cases e:x==n with
    |true =>
     rw[e]at h;cases h;exact absurd rfl hk
    |false=>rw[e]at h;exact .inl h
   .exact .inr h
def oW{env:Env}:∀{s:Γ (Str×NameKind)}{x:Str}{k:NameKind},s.lookup x=↑k ->
  (s.map λ(n,k)=>if(k==NameKind.free&&env.scope.kind==.function&&env.kindOf n==some .cell)then(n,NameKind.cell)else(n,k)).lookup x=↑(if(k==NameKind.free&&env.scope.kind==.function&&env.kindOf x==some .cell)then NameKind.cell else k)
 |[],_,_,h=>by cases h
 | (n,k)::r,x,K,h=>by
  have i:=@oW env r x K;rw[zI];dsimp only;cases H:x==n with
  |true =>
   have e:x=n:=by simpa using H
   subst e;rw[yB,H]at h;cases h;split<;>simp[yB, *]
  |false =>
   rw[yB,H]at h;have i:=i h;split
   .rw[yB,H];exact i
   .rw[yB,H];exact i
def rW{env:Env}:∀{s:Γ (Str×NameKind)}{x:Str},s.lookup x=none ->
  (s.map λ(n,k)=>if(k==NameKind.free&&env.scope.kind==.function&&env.kindOf n==some .cell)then(n,NameKind.cell)else(n,k)).lookup x=none
 |[],_,h=>rfl
 | (n,k)::r,x,h=>by
  have i:=@rW env r x;rw[zI];dsimp only;cases H:x==n with
  |true=>rw[yB,H]at h;cases h
  |false =>
   rw[yB,H]at h;split
   .rw[yB,H];exact i h
   .rw[yB,H];exact i h
def gE(X:Cx)(scope:ζ)(C:Ψ):Env:=
 {scope:=relabel scope X.env,locals:=C,globals:=X.env.globals,cells:=cellsFrom (C+1) scope.names<|gY X.env scope.names [],qual:=X.env.qual,func:=none,code:=X.env.code,frame:=X.env.frame,builtins:=X.env.builtins}
def bA(X:Cx)(scope:ζ)(N:Γ Str)(fp:Γ Ψ)(s:Ξ)(H:Hp):Cx:=
 {X with N:=N,aar:=s,aab:=H,env:=gE X scope s.heap.objs.size,outer:=X.stack,ex:=fp,fn:=λx=>decide (scope.names.lookup x=↑.cell),pn:=[],xe:=λ_ _=>False}
def DH{M:Model}{A:ξ}{E:Θ->Ξ->Prop}{g:Ψ}{l:Γ (Str×Ψ)}{q:Str}{env:Env}
  (H:∀h',h'.Ns s.heap.objs.size (λ_=>none)->(∀b o,s.heap.get? b=↑o->h'.get? b=↑o)->CellsOk h' (s.heap.objs.size+1) (cellsFrom (s.heap.objs.size+1) scope.names []) ->
   Q {scope:=scope,locals:=s.heap.objs.size,globals:=g,cells:=cellsFrom (s.heap.objs.size+1) scope.names l,qual:=q,func:=none,code:=env.code,frame:=env.frame,builtins:=env.builtins} {s with heap:=h'}) :
  wpAny M A (newFunctionEnv scope g l [] q none .none<|↑env) Q E s:=by
 refine zV<|wpAny_alloc<|zV<|wpAny_layCells _ (λn k c=>by rfl) _ _ _ _ ?_;have O:=cellsFrom_ok scope.names (s.heap.push {cls:=.type "dict",data:=.dict #[]}) (s.heap.objs.size+1) [] {nofun,.nil} (by simp);rw[xI]at O;rw[xI ..];exact zV<|zW<|zW<|H _ ((Heap.Ns.new s.heap _).keeps<|pushCells_keeps _ _) (λb o e=>pushCells_keeps _ _ b o<|zU _ e) O
section
variable {X:Cx}{pins:Γ (Ψ×Obj)}{σ σ':St}{H:Hp}{s:Ξ}{fp:Γ Ψ}{scope:ζ}{N:Γ Str}{h4:ι}
def me(o:X.Ok)(a:∀x∈scope.names,x.2=.free->X.env.kindOf x.1=↑.cell\/X.env.kindOf x.1=↑.free):∀x∈scope.names,x.2=.free->∃c,X.env.cells.lookup x.1=↑c:=
 λx H hk=>o.has _<|a x H hk
def qq(h:scope.names.lookup x=↑k):(gE X scope C).kindOf x=↑k\/(k=.free/\(gE X scope C).kindOf x=↑.cell):=by
 have q:(gE X scope C).kindOf x=↑_:=(oW (env:=X.env) h)
 rw[q];split
 .rename_i hc;have:k=.free:=by
   simp  at hc
   grind
  exact .inr {this,rfl}
 simp
def m8(h:(gE X scope C).kindOf x=↑k):scope.names.lookup x=↑k\/(k=.cell/\scope.names.lookup x=↑.free):=by
 cases e:scope.names.lookup x with
 |none =>
  have q:(gE X scope C).kindOf x=none:=rW (env:=X.env) e;rw[q]at h;cases h
 |some K =>
  rcases qq (X:=X) (C:=C) e with q|⟨q,Q⟩
  .rw[q]at h;cases h;exact .inl rfl
  .rw[Q]at h;cases h;subst q;exact .inr {rfl,rfl}
def Jm(I:Inv X pins σ H s)(S:∀b∈fp,dM X pins H b)(L:∀b∈fp,b<s.heap.objs.size)(hk:scope.kind=.function)
  (t:∀x∈scope.names,x.2=.free->X.env.kindOf x.1=↑.cell\/X.env.kindOf x.1=↑.free)
  (T:h4.Ns s.heap.objs.size (λ_=>none))(A:∀b o,s.heap.get? b=↑o->h4.get? b=↑o)(O:CellsOk h4 (s.heap.objs.size+1) (cellsFrom (s.heap.objs.size+1) scope.names []))
  (K:∀{x:Str},(x,NameKind.cell)∈scope.names->(x,NameKind.free)∈scope.names->False)(J:∀(i:Nat)(x:Str)(v:V),N[i]?=↑x->σ'[i]?=↑(↑v)->scope.names.lookup x=↑.free/\∃j:Nat,X.N[j]?=↑x/\σ[j]?=↑(↑v))(E:σ'.length=N.length)(t':Nat) :
  Inv (bA X scope N fp s H) [] σ' H {s with heap:=h4,toks:=t'}:=by
 have Q:=me I.ok t;have D:∀x c,(gY X.env scope.names []).lookup x=↑c->X.env.cells.lookup x=↑c:=λx c e=>mD Q (λ_ _ z=>by cases z) x c<|mem_of_lookup e;have l:∀x c,(gE X scope s.heap.objs.size).cells.lookup x=↑c->(x,c)∈cellsFrom (s.heap.objs.size+1) scope.names []\/X.env.cells.lookup x=↑c:=λx c e=>by
  have e:(cellsFrom (s.heap.objs.size+1) scope.names<|gY X.env scope.names []).lookup x=↑c:=e;rw[cG]at e;rcases lr e with q|⟨_,q⟩
  .exact .inl<|mem_of_lookup q
  .exact .inr<|D x c q
 have G:∀x c,X.env.cells.lookup x=↑c->c<s.heap.objs.size:=λx c e=>let ⟨_,q⟩:=I.cell x c e;q.lt;have w:∀x c,(x,c)∈cellsFrom (s.heap.objs.size+1) scope.names []->s.heap.objs.size<c:=λx c e=>(O.empty x c e).2;refine⟨{I.ok.mod,?_,I.ok.glob,I.ok.blt,yL _,?_,?_,?_,I.ok.hd,I.ok.frames,.inl rfl,?_,I.bs,yD I.ok.bsz I.sz,?_,?_,I.stack,I.aa5},rfl,I.bare,Un.kept A,{_,T,?_},?_,I.hok.fresh<|yL _,?_,
  λp hp=>absurd (show p∈([]:Γ (Ψ×Obj))from hp)<|by simp,I.hok.kept A,E⟩
 .show (relabel scope X.env).kind=_;exact hk
 .intro x y c M P;rcases l x c M with a|a<;>rcases l y c P with b|b
  .exact name_of_addr O.apart a b
  .exact absurd (wK (w x c a)<|G y c b)<|qC _
  .exact absurd (wK (w y c b)<|G x c a)<|qC _
  .exact I.ok.inj x y c a b
 .intro x F;show ∃c,(cellsFrom (s.heap.objs.size+1) scope.names<|gY X.env scope.names []).lookup x=↑c;refine Option.isSome_iff_exists.mp<|W.cellsFrom_some _ _ _ ?_;rcases F with F|F
  .rcases m8 F with q|⟨_,q⟩
   .exact .inl q
   .exact .inr<|Option.isSome_iff_exists.mpr<|ij<|.inl q
  .rcases m8 F with q|⟨q,_⟩
   .exact .inr<|Option.isSome_iff_exists.mpr<|ij<|.inl q
   .cases q
 .intro x c g e;have g:scope.names.lookup x=↑.cell:=yP g;have e:(cellsFrom (s.heap.objs.size+1) scope.names<|gY X.env scope.names []).lookup x=↑c:=e;let(Y,f):=tY (n:=s.heap.objs.size+1) g;rw[cG,sr f]at e;cases e;exact jQ<|w x c<|mem_of_lookup f
 .intro b B;refine{yQ<|L b B,λx c e z=>?_};rcases l x c e with a|a
  .exact absurd (wK (w x c a) (by rw[z];exact L b B))<|qC _
  .exact (S b B).2.2.2.2.1 x c a z
 .intro b o e B;let(f0,f1,f2,f3,f4,f5):=S b B;rcases f3 with z|z
  .exact I.ok.abT b o e z
  .exact absurd (zP (zY (I.ok.bs b o e).1) z)<|qC _
 .intro b B hz;let(f0,f1,f2,f3,f4,f5):=S b B;rcases List.mem_cons.mp (I.acb b hz)with z|z
  .exact f1 z
  .exact f2 z
 .intro i x v M P e3;let(r,j,hj,hv):=J i x v M P;have hm:(x,NameKind.free)∈scope.names:=mem_of_lookup r;let(m,hn,hl):=I.loc;have kx:=t _ hm rfl;let(u,ru,lk):=hl j x v hj hv<|kx.elim (λk=>.inr<|.inl k) λk=>.inr<|.inr k;refine{u,ru,.inr {?_,?_}}
  .rcases qq (X:=X) (C:=s.heap.objs.size) r with q|⟨_,q⟩
   .exact .inr q
   .exact .inl q
  .rcases lk with ⟨k,_⟩|⟨_,c,ec,ic⟩
   .have k:X.env.kindOf x=↑.local:=k;rcases kx with U|U<;>· rw[k]at U;cases U
   .let(Y,f):=ij (env:=X.env) (acc:=[])<|.inl r;have Z:=D x Y f;rw[ec]at Z;cases Z;refine{c,?_,ic.keeps A};show(cellsFrom (s.heap.objs.size+1) scope.names<|gY X.env scope.names []).lookup x=↑c;rw[cG];cases eo:(cellsFrom (s.heap.objs.size+1) scope.names []).lookup x with
    |none=>rw[qo eo];exact f
    |some d =>
     have R:=iE _ _ _ _<|mem_of_lookup eo;exact(K R hm).elim
 .intro x c e;rcases l x c e with a|a
  .exact{_,(O.empty x c a).1}
  .let(v,q):=I.cell x c a;exact{v,q.keeps A}
 .intro x c e;rcases l x c e with a|a
  .exact I.hok.fresh<|jQ<|w x c a
  .exact I.aax x c a
end
abbrev BK(ifs:Γ γ)(env:Env):Sem θ:=forIn ifs true λc r=>if r=true then do let o <- isTrue c env<|eval c env;pure (ForInStep.yield o)else pure (ForInStep.yield r)
def Vq(X:Cx)(ifs:Γ γ)(t:TT):Prop:=
 ∀(p:Γ (Ψ×Obj))(s:Ξ)(a:St)(H:Hp)(Q:θ->Hp->Prop),Inv X p a H s->t a H Q->wpAny (model X.prog X.w) X.A (BK ifs X.env) (TP X p a Q) X.xe s
def N5:Vq X [] (λ_ H Q=>Q true H):=λ_ _ _ H _ I h=>wpAny_tests_nil {H,I,h}
def M5(h:PT X c t):Vq X [c] t:=λp s a H Q I q=>wpAny_tests_one<|h p s a H Q I q
def zu{R:Result->Ξ->Prop}{elt t iter:γ}{ifs:Γ γ}{scope:ζ}{pos:Pos}{acc:Θ}{env:Env}(I:Nat->Ξ->Prop)
  (turn:∀n s,I n s->wpAny (model prog w) A (pyNext it) (λr a=>match r with
   |none=>R (.ok .next) a
   |some v=>wpAny (model prog w) A (letOwnedTupleGo t it v) (λ_ i=>wpAny (model prog w) A (assign t env v) (λ_ P =>
     wpAny (model prog w) A (BK ifs env) (λo l =>
      if o=true then wpAny (model prog w) A (eval elt env) (λx V =>
       wpAny (model prog w) A (call (.builtin "list.append") [acc,x]) (λ_ b=>∃m,m<n/\I m b) (λ_ _=>False) V) (λ_ _=>False) l
      else ∃m,m<n/\I m l) (λ_ _=>False) P) (λ_ _=>False) i) (λ_ _=>False) a) (λ_ _=>False) s)
  (n:Nat)(h:I n s) :
  codeAny (model prog w) A (.compLoop (.ListComp elt [{t,iter,ifs,0}] scope pos) 0 it acc env) R s:=by
 refine codeAny_loop rfl I (λn s g=>?_) n h;apply wpAny_noted;rw[compTurn_list];refine zV<|kZ<|zV<|yZ (turn n s g) (λr a c=>?_) λ_ _ H=>H.elim;cases r with
 |none=>exact zW c
 |some v =>
  refine zV<|yZ c (λ_ i e=>(zV<|yZ e (λ_ P y=>zV<|yZ y (λo l d=>?_) λ_ _ H=>H.elim) λ_ _ H=>H.elim)) λ_ _ H=>H.elim;cases o with
  |false=>exact zW {rfl,d}
  |true =>
   exact zV<|zV<|yZ d (λx V z=>zV<|yZ z (λ_ b f=>zW<|zW ⟨rfl,f⟩) λ_ _ H=>H.elim) λ_ _ H=>H.elim
def Gd(X:Cx)(pins:Γ (Ψ×Obj))(σ:St)(Q:VK)(acc:Θ)(C:Ψ)(r:Result)(s5:Ξ):Prop:=
 ∃ (D:Ψ) (H:Hp) (m:Str->Δ Θ),acc=.ref D/\r=.ok .next/\Inv X pins σ H s5/\s5.heap.Ns C m/\dM X pins H C/\Q (.ref D) H
def IP(J:It)(g:TG)(tt:TT)(te:TE)(D:Ψ)(c:St)(k:Hp)(Q:VK):Prop:=
 ∃W:Nat->Nat->St->Hp->Prop,(∃m,W 0 m c k)/\∀i m j H,W i m j H ->
  (J.stop i H/\Q (.ref D) H)\/(J.go i H/\∀x d,J.yld i H x d->g x j d λa l=>tt a l λb e =>
   if b=true then te a e λv f=>∃y,f D=↑(.lst y)/\y.length<sizeLine/\∃M,M<m/\W (i+1) M a (upd f D<|.lst<|y++[v])
   else ∃M,M<m/\W (i+1) M a e)
section
variable {X:Cx}{pins:Γ (Ψ×Obj)}{σ σ':St}{H:Hp}{s:Ξ}{scope:ζ}{N:Γ Str}
 {tg iter elt:γ}{ifs:Γ γ}{pos:Pos}{g:TG}{tt:TT}{te:TE}
def wx(hc:X.calm=true)(I:Inv X pins σ H s)(T:Turn X.prog X.w X.K tg J fp it tn)(st:tn 0 s.heap)(hf:∀b∈fp,dM X pins H b)(hk:scope.kind=.function)
  (aa6:∀x∈scope.names,x.2=.free->X.env.kindOf x.1=↑.cell\/X.env.kindOf x.1=↑.free)(ae1:∀{x:Str},(x,NameKind.cell)∈scope.names->(x,NameKind.free)∈scope.names->False)
  (adi:∀(i:Nat)(x:Str)(v:V),N[i]?=↑x->σ'[i]?=↑(↑v)->scope.names.lookup x=↑.free/\∃j:Nat,X.N[j]?=↑x/\σ[j]?=↑(↑v))(hlen:σ'.length=N.length)
  (hY:∀fp s H,PG (bA X scope N fp s H) tg g/\Vq (bA X scope N fp s H) ifs tt/\PE (bA X scope N fp s H) elt te)
  (hrd:∀D,H D=none->IP J g tt te D σ' (upd H D<|.lst []) Q){E:Θ->Ξ->Prop} :
  wpAny (model X.prog X.w) X.A (newList []) (λacc adl=>wpAny (model X.prog X.w) X.A (newFunctionEnv scope X.env.globals (gY X.env scope.names []) [] X.env.qual none .none<|↑X.env) (λZ adV =>
   codeAny (model X.prog X.w) X.A (.compStart (.ListComp elt [{tg,iter,ifs,0}] scope pos) 0 (.ref it) acc {Z with scope:=relabel scope X.env}) (Gd X pins σ Q acc Z.locals) adV) E adl) E s:=by
 refine qJ ?_;have hfl:=λb B=>let ⟨o,e,_⟩:=T.obj _ _ st b B;zY e;have Y:=I.adT (t':=s.toks) .nil<|xU _;let(W,(m0,w0),turn):=hrd _ I.fresh;generalize e3:{s with heap:=s.heap.push _,toks:=s.toks}=S at Y;have e3h:S.heap=s.heap.push {cls:=.type "list",data:=.seq [].toArray}:=by rw[<-e3]
 generalize hH3:upd H s.heap.objs.size _=G at Y w0 turn;have hlt:s.heap.objs.size<S.heap.objs.size:=by simp_all
 generalize s.heap.objs.size=D at *;have f3:∀b∈fp,dM X pins G b:=λb B=>by
  let(f0,f):=hf b B;refine{?_,f};rw[<-hH3,ar<|yQ<|hfl b B];lia
 have st3:=T.keep _ _ _ st λb _ o=>(λb o e=>by rw[e3h];exact zU _ e:∀b o,s.heap.get? b=↑o->S.heap.get? b=↑o) b o;refine DH λh4 hns C hco=>?_;have I4:=Jm Y f3 (λb B=>wK (hfl b B) hlt) hk aa6 hns C hco ae1 adi hlen S.toks;let(hg,htt,hte):=hY fp S G;have P:∀b∈fp,∀a ,a b=none->dM _ [] a b:=λb B a hn=>by
  refine{hn,(I4.ok.exf b B).1,I4.ok.aca b B,.inl B,(I4.ok.exf b B).2,λp hp=>?_};cases hp
 have L:codeAny (model X.prog X.w) X.A (.compLoop (.ListComp elt [{tg,iter,ifs,0}] scope pos) 0 (.ref it) (.ref D)<|gE X scope S.heap.objs.size) (Gd X pins σ Q (.ref D) S.heap.objs.size) {S with heap:=h4}:=by
  refine zu (λn s'=>∃i σ' a,Inv _ [] σ' a s'/\tn i s'.heap/\(∀b∈fp,a b=none)/\W i n σ' a) ?_ m0
   {0,σ',G,I4,T.keep _ _ _ st3 λb _ o=>C b o,λb B=>(f3 b B).1,w0}
  rintro n s5 ⟨i,c,t,I5,st5,fr5,w5⟩;rcases turn i n c t w5 with ⟨stop,q⟩|⟨go,step⟩
  .refine bZ (T.done (bA X scope N fp S G) rfl rfl rfl hc i [] s5 c t _ I5 (λb B=>P b B t<|fr5 b B) st5 stop) λr s6 z=>?_;let(hr,O):=z;subst hr;let(m,hn6,_):=O.loc;refine{D,t,m,rfl,rfl,Y.ac9 O.os O.base O.hok O.bare λb B=>?_,hn6,(λa hn=>Y.abq (yL _) hn:∀a,a S.heap.objs.size=none->dM X pins a S.heap.objs.size) t O.free,q};let(f0,f1,f2,f4,f5,f6):=f3 b B;exact{f4,f1,f5,f6}
  .refine bZ (T.item (bA X scope N fp S G) rfl rfl rfl hc i [] s5 c t _ I5 (λb B=>P b B t<|fr5 b B) st5 go) λr s6 z=>?_;let(u,hr,h6):=z;subst hr;refine bZ h6 λ_ s7 z=>?_;let(x,H7,I7,r7,y7,F,fr7):=z;have again:∀{pl:Γ (Ψ×Obj)}{l:St}{M:Hp}{U:Ξ}{n':Nat},Inv (bA X scope N fp S G) _ l M U->W _ n' l M->∃i σ' a,Inv _ [] σ' a U/\tn i U.heap/\(∀b∈fp,a b=none)/\W i n' σ' a:=λ{pl l M U n'}R w9=>by
    refine{i+1,l,M,R.aaN,T.keep _ _ _ F λb B o e=>(R.pin _<|yE _<|yE _<|fT B e).1,λb B=>?_,w9};let(o,e,d):=T.obj _ _ F b B;exact(R.pin _<|yE _<|yE _<|fT B e).2.1
   refine bZ (hg _ s7 c H7 x u _ (I7.pinned (λb B=>P b B H7<|fr7 b B)<|T.obj _ _ F) r7<|step x H7 y7) λ_ s8 z=>?_;let(k,H8,I8,q8):=z;refine bZ (htt _ s8 k H8 _ I8 q8) λok U z=>?_;let(M,R,q9):=z;cases ok with
   |false =>
    let(m',hm,w9):=q9;exact{m',hm,again (pl:=[]) R w9}
   |true =>
    refine bZ (hte _ U k M _ R q9) λy s10 z=>?_;let(v,H10,I10,r10,ys,aiF,hz,m',hm,w10):=z;refine bZ (mG _ s10 k H10 (.ref D) _ _ _ (λ_=>W _ m' k) I10 rfl (.cons r10 .nil) {D,ys,v,rfl,rfl,aiF,hz,w10}) λ_ s11 z=>?_;let(_,H11,I11,_,w11):=z;exact{m',hm,again (pl:=[]) I11 w11}
 exact codeAny_compStart_list L<|T.self _ 0 _ _ _ (T.keep _ _ _ st3 λb _ o=>C b o) L
end
def MD(wi:TI)(g:TG)(tt:TT)(te:TE)(aaV:St->St):TE:=λb H Q=>wi b H λJ a=>∀D,a D=none->IP J g tt te D (aaV b) (upd a D<|.lst []) Q
structure j7(X:Cx)(scope:Scope)(N:List Str)(aaV:St->St):Prop where
 kind:scope.kind=.function
 free:∀x∈scope.names,x.2=.free->X.env.kindOf x.1=↑.cell\/X.env.kindOf x.1=↑.free
 dup:∀{x:Str},(x,NameKind.cell)∈scope.names->(x,NameKind.free)∈scope.names->False
 loc:∀x∈scope.names,x.2=.local -> scope.names.lookup x.1=↑.local
 cap:∀(σ:St)(i:Nat)(x:Str)(v:V),N[i]?=↑x->(aaV σ)[i]?=↑(↑v)->scope.names.lookup x=↑.free/\∃j:Nat,X.N[j]?=↑x/\σ[j]?=↑(↑v)
 len:∀σ:St,(aaV σ).length=N.length
section
variable {X:Cx}{scope:ζ}{N:Γ Str}{aaV:St->St}{tg iter elt:γ}{ifs:Γ γ}{pos:Pos}{wi:TI}{g:TG}{tt:TT}{te:TE}
def Oq(hc:X.calm=true)(S:j7 X scope N aaV)(hi:PI X tg iter wi)
  (Y:∀fp s H,PG (bA X scope N fp s H) tg g/\Vq (bA X scope N fp s H) ifs tt/\PE (bA X scope N fp s H) elt te)
  (y:∀x,foldedSetIterable iter X.env x=pure x:=by intro _;rfl):PE X (.ListComp elt [{tg,iter,ifs,0}] scope pos) (MD wi g tt te aaV):=by
 refineλp s c H Q I h=>wpAny_comprehension_free rfl y (nW<|me I.ok S.free) S.kind S.loc (bZ (hi p s c H _ I h) λv K k=>bZ k λV L l=>?_);let(G,fp,W,J,C,e,i,T,a,f2,R):=l;subst e;refine bZ (wx hc i T a f2 S.kind S.free S.dup (S.cap c) (S.len c) Y R) λA O n=>bZ n λM P t=>(jP t λr U u=>?_)
 let(D,d,m,rfl,rfl,f,w,fC,q):=u;refine{m,w,λE z=>?_};let(F,f1,j,f3,f4,f5):=fC;exact{.ref D,d,f.turned (λb o B=>(z.2 b B).trans) F f1 f3 f4 f5,rfl,q}
def NC(hc:X.calm=true)(S:j7 X scope N aaV)(hi:PI X tg iter wi)
  (Z:∀fp s H,PG (bA X scope N fp s H) tg g/\Vq (bA X scope N fp s H) ifs tt/\PE (bA X scope N fp s H) elt te)
  (V:X.N.Nodup)(Y:X.N[i]?=↑y)(k:X.env.scope.names.lookup y=↑.local)
  (W:swapsWith (.ListComp elt [{tg,iter,ifs,0}] scope pos) (↑(.Name y py)) U.line X.env=pure true)
  (hs:∀x,foldedSetIterable iter X.env x=pure x:=by intro _;rfl):PS X (.Assign [.Name y py] (.ListComp elt [{tg,iter,ifs,0}] scope pos) U) (Di (MD wi g tt te aaV)<|tL i):=by
 intro p s f H D I h;rw[exec_Assign_Name_used _ _ _ _ W];refine zV<|kZ<|zV ?_;show wpAny _ X.A (do let _ <- comprehension (.ListComp elt [{tg,iter,ifs,0}] scope pos) scope X.env _ (newList []) false (eval iter X.env)<|↑(assign (.Name y py) X.env)) _ _ s;refine zV (yZ (wpAny_comprehension_free (use:=↑(assign (.Name y py) X.env)) (Q:=λ_ l=>SP X p D .next l) rfl hs (nW<|me I.ok S.free) S.kind S.loc
  (bZ (hi p s f H _ I h) λv s1 K=>bZ K λitv s2 L=>?_)) (λ_ l hq=>zW<|zW hq) λ_ _ e=>e)
 let(it,fp,tn,J,H2,e,t,T,d,f2,rd):=L;subst e;refine bZ (wx (iter:=iter) (pos:=pos) (E:=X.xe) hc t T d f2 S.kind S.free S.dup (S.cap f) (S.len f) Z rd) λC s3 O=>bZ O λM s4 P=>?_;refine jP P λr s5 R=>?_;let(j,n,m,rfl,rfl,u,hn,fC,q):=R;show wpAny _ X.A (assign (.Name y py) X.env<|.ref j) _ _ _;refine wpAny_assign_Name<|rf (v:=.ref j) u V Y (.inl k) rfl (λs6 B z=>?_) (.inr k);let(a,sa,ha):=z;let(F,f1,G,f3,f4,f5):=fC;have c:M.locals≠a:=by
  rcases ha with z|z
  .rw[z];exact f1
  .exactλw=>f4 y a z w.symm
 refine{m,hn.sameBut sa c,λh' sb=>?_};exact{_,n,B.turned (t':=s6.toks) (λb o hb e=>(sb.2 b hb).trans e) F f1 f3 f4 f5,q}
end
abbrev Y0(X:Cx)(q:Str)(scope:ζ)(f c L:Ψ):Env:=W.envX q scope L f (.ref c)<|gY X.env scope.names []
def lx(X:Cx)(A:ξ)(q:Str)(scope:ζ)(N:Γ Str)(f c:Ψ)(s:Ξ)(H:Hp):Cx where
 prog:=X.prog
 w:=X.w
 K:=X.K
 mg:=X.mg
 base:=X.base
 A:=A.deeper<|Y0 X q scope f c s.heap.objs.size
 N:=N
 aar:=s
 aab:=H
 env:=Y0 X q scope f c s.heap.objs.size
 outer:=X.stack
 stack:=Y0 X q scope f c s.heap.objs.size::X.stack
 ex:=[]
 fn:=λ_=>false
 calm:=true
 pn:=[]
 xe:=λ_ _=>False
def Ox(I:Inv X pins σ H s)(Y:A.handled=none)(V:A.frames=↑X.stack)(S:j7 X scope N aaV)(J:∀x∈scope.names,x.2≠.cell)(l:N[0]?=↑p)(hp:scope.names.lookup p=↑.local)(W:N.Nodup)(r:RelV v u)
  (K:U.Ns s.heap.objs.size (λx=>[(p,u)].reverse.lookup x))(a:∀b o,s.heap.get? b=↑o->U.get? b=↑o)(t':Nat) :
  Inv (lx X A qual scope N f c s H) [] ((aaV σ).set 0<|↑v) H {s with heap:=U,toks:=t'}:=by
 have L:=me I.ok S.free;have C:∀x c,(gY X.env scope.names []).lookup x=↑c->X.env.cells.lookup x=↑c:=λx c e=>mD L (λ_ _ z=>by cases z) x c<|mem_of_lookup e;have n:∀b:Ψ,b∉(lx X A qual scope N f c s H).ex:=λb z=>absurd (show b∈([]:Γ Ψ)from z) (by simp);refine⟨{I.ok.mod,S.kind,rfl,rfl,yL _,λx y d E g=>I.ok.inj x y d (C x d E)<|C y d g,λx B=>?_,λx d z=>?_,λ_=>Y,Around.frames_deeper V,.inr {rfl,rfl},λb z=>absurd z<|n b,I.bs,yD I.ok.bsz I.sz,λb _ _=>n b,λb z=>absurd z<|n b,I.stack,I.aa5},
  rfl,I.bare,Un.kept a,{_,K,λi x w E g e3=>?_},λx d e=>?_,I.hok.fresh<|yL _,λx d e=>I.aax x d<|C x d e,λq hq=>absurd (show q∈([]:Γ (Ψ×Obj))from hq)<|by simp,I.hok.kept a,?_⟩
 .rcases B with B|B
  .exact absurd rfl (J _<|mem_of_lookup (show scope.names.lookup x=↑.cell from B))
  .exact ij<|.inl B
 .cases z
 .cases i with
  |zero =>
   have E:N[0]?=↑x:=E;rw[l]at E;cases E;have G:0<(aaV σ).length:=by rw[S.len];exact(List.getElem?_eq_some_iff.mp l).1
   rw[vL G]at g;cases g;exact{u,r,.inl {hp,by simp}}
  |succ i =>
   have F:(aaV σ)[i+1]?=↑(↑w):=by
    rwa[kN<|by lia]at g
   let(R,j,Z,hv):=S.cap σ (i+1) x w E F;have hm:(x,NameKind.free)∈scope.names:=mem_of_lookup R;let(m,hn,G):=I.loc;have P:=S.free _ hm rfl;let(u',ru,lk):=G j x w Z hv<|P.elim (λk=>.inr<|.inl k) λk=>.inr<|.inr k;refine{u',ru,.inr {.inr R,?_}};rcases lk with ⟨k,_⟩|⟨_,Q,T,ic⟩
   .have k:X.env.kindOf x=↑.local:=k;rcases P with M|M<;>· rw[k]at M;cases M
   .let(D,t):=ij (env:=X.env) (acc:=[])<|.inl R;have O:=C x D t;rw[T]at O;cases O;exact{Q,t,ic.keeps a}
 .let(w,q):=I.cell x d<|C x d e;exact{w,q.keeps a}
 .rw[yC];exact S.len σ
def Mm(I:Inv X pins σ H s)(R:cA (k+1) A)(m:A.frames=↑X.stack)(S:j7 X scope N aaV)(C:∀x∈scope.names,x.2≠.cell)
  (g:N[0]?=↑p)(P:scope.names.lookup p=↑.local)(D:N.Nodup)(O:scope.isCoroutine=false)(a:scope.isGenerator=false)
  (F:s.heap.get? f=↑(W.kla_obj name qual params body scope (gY X.env scope.names []) pm c U))(d:H c=↑(.cod qual))(n:bindArgs (W.kla_fn name qual params body scope (gY X.env scope.names []) pm (.ref c) U) {[u],[]}=pure [(p,u)])
  (r:RelV v u)(Y:PE (lx X A qual scope N f c s H) body te)(q:te ((aaV σ).set 0<|↑v) H Q) :
  wpAny (model X.prog X.w) A (call (.ref f) [u]) (EP X pins σ Q) (λ_ _=>False) s:=by
 refine vG<|W.kla_callFunE R.depth F rfl O a rfl (I.hok c _ d) ?_;rw[n];refine zW<|wpAny_newFunctionEnv C (λy t=>?_) (λJ j B=>{(I.nolimit.fresh _ B),(W.kla_codeExpr<|yZ (Y [] _ _ H Q (Ox I R.hd m S C g P D r j (λb o e=>B.extBut b o (yQ<|zY e)<|zU _ e) _) q) (λw G ⟨V,l,i,E,z⟩=>(⟨V,l,I.ac9 i.os i.base i.hok i.bare<|nofun,E,z⟩)) λe G=>False.elim)}) S.kind
 .rw[List.mem_singleton.mp t];lia
def Ds{pos:Pos}(l:Γ Θ)(h:TriplesOk l)(e:codeAmong pos' (l++[rawInt pos.line,rawInt pos.col,c])=↑v):codeAmong pos' l=↑v\/v=c:=by
 fun_induction TriplesOk l with
 |case1 =>
  simp?[xN,codeAmong,rawInt]at e;split at e
  .cases e;exact .inr rfl
  .cases e
 |case2 a t b u x r i =>
  simp?[xE,codeAmong]at e ⊢;split at e
  .rename_i hc;rw[yK hc];exact .inl e
  .rename_i hc;rw[yM hc];exact i h e
 |case3 l H d=>exact h.elim
def Me(I:Inv X pins σ H s)(S:j7 X scope N aaV)(hq:X.env.qual++"<lambda>"=qual)(l:X.env.code=.ref c)(C:W.CodeHd X.base c P)(T:H P=↑(.tab qual))(hB:Yj X.mg X.base)
  (G:defaultsOf params X.env=([],[]))
  (h:∀(f a:Ψ)(pm V:Θ)(s':Ξ)(H':Hp),Inv X pins σ H' s'->s'.heap.get? f=↑(W.kla_obj "<lambda>" qual params body scope (gY X.env scope.names []) pm a V)->H' f=none->H' a=↑(.cod qual)->aA H H'->dM X pins H' f->(∀b,H' b≠none->H b≠none\/H' b=↑(.cod qual))->Q (.ref f) s') :
  wpAny (model X.prog X.w) X.A (eval (.Lambda params body scope U) X.env) Q X.xe s:=by
 have L:=nW<|me I.ok S.free;have m:=C.keeps I.bk;have hg:s.heap.Ns mainGlobals X.mg:=by
  let(o,es,ep,e,r):=I.ok.mod.glob;exact{o,es,ep,I.bk _ _ e,r}
 have x:X.base.get? P=none:=by
  cases e:X.base.get? P with
  |none=>rfl
  |some o=>rw[(I.bs P o e).2]at T;grind
 let(ps,K,ht,O):=I.hok P _ T;have B:s.heap.BuiltinsAt X.mg P:=by
  let(bm,o,b1,b2,b3,J,b5):=hB;exact{bm,o,b1,b2,b3,(λz=>by rw[z,x]at J;cases J),I.bk _ _ J,b5}
 refine W.kla_eval G ?_;rw[hq];cases Y:codeAmong U ps.toList with
 |some cv =>
  let(a,rfl,M):=O U cv Y;refine W.kla_makeFunctionHit L I.ok.glob hg l m K ht Y B λV i tk k Z=>?_;have E:H i.objs.size=none:=I.hok.fresh Z;exact h _ a _ V _ H (I.kept (t':=tk) λb o e=>zU _<|k b o e) (zX _ rfl) E M (.refl _) (I.abq Z E) λb z=>.inl z
 |none =>
  have hgP:mainGlobals≠P:=λz=>by
   let(o,es,ep,e,r):=I.ok.mod.glob;rw[z,x]at e;cases e
  refine W.kla_makeFunction L I.ok.glob hg l m K ht Y hgP B λa V i tk hx j y R p=>?_;have E:H a=none:=I.hok.fresh j;have Z:s.heap.objs.size<=i.objs.size:=jQ<|qV j y;have k:∀b o,b≠P->s.heap.get? b=↑o->(i.push<|W.kla_obj "<lambda>" qual params body scope (gY X.env scope.names []) ((X.mg "__name__").getD .none) a V).get? b=↑o:=λb o B e=>zU _<|hx b o B e;have hPc:P≠a:=λz=>by grind
  have up:∀b u,H b=↑u->upd H a (.cod qual) b=↑u:=λb u e=>by rw[ar<|aS e E];lia
  have un:Un X.fs [] H (upd H a<|.cod qual) s.heap (i.push<|W.kla_obj "<lambda>" qual params body scope (gY X.env scope.names []) ((X.mg "__name__").getD .none) a V):=by
   refine{λb o e n _ _=>k b o (λz=>by rw[z,T]at n;cases n) e,λb o e n _ _=>{o.slots,k b o (λz=>by rw[z,T]at n;cases n) e},λb o e n _=>?_,λb o e _=>?_,λb xs e=>up b _ e,λb o u e=>up b _ e,{λb u e _=>up b u e,λb q ps' e z=>?_}}
   .rw[ar<|yQ<|zP (zY e) j];lia
   .by_cases B:b=P
    .subst B;exact{_,zU _ p}
    .exact{o,k b o B e}
   .by_cases B:b=P
    .subst B;rw[K]at z;cases z;exact{_,zU _ p}
    simp_all
  have hok:o5 X.prog X.w (upd H a<|.cod qual) (i.push<|W.kla_obj "<lambda>" qual params body scope (gY X.env scope.names []) ((X.mg "__name__").getD .none) a V):=by
   intro b u e;by_cases g:b=a
   .subst g;rw[av]at e;cases e;let(c0,oc,vs,t,e0,e1,r):=R;exact{c0,oc,vs,t,e0,zU _ e1,r}
   .rw[ar g]at e;by_cases B:b=P
    .subst B;rw[T]at e;cases e;refine{_,zU _ p,?_,λpos v hv=>?_}
     .have:=TriplesOk_snoc U.line U.col (.ref a) ps.toList ht;simpa using this
     .rcases Ds ps.toList ht (by simpa using hv)with z|z
      .let(c0,z1,z2):=O pos v z;exact{c0,z1,up _ _ z2}
      .exact{a,z,av}
    .exact (I.hok b u e).aaH (λd o D eo=>k d o (by
      rcases D with rfl|D
      .exact B
      .exact (λ{b u}e hne z=>by grind:∀{b:Ψ}{u:HO},H b=↑u->(∀q,u≠.tab q)->b≠P) D λq z=>by cases z) eo) (λd D=>up d _ D) λd o D _=>up d _ D
  have F:upd H a (.cod qual) i.objs.size=none:=by
   rw[ar<|jF y];exact I.hok.fresh Z
  refine h _ a _ V _ _ (I.un (t':=tk) un hok) (zX _ rfl) F av up (I.abq Z F) λb z=>?_;by_cases g:b=a
  .subst g;exact .inr av
  .rw[ar g]at z;exact .inl z
end L2
namespace Dl
open PySem L2 PySem.Spec PyProof.Rows
abbrev D:=PyData
mutual
def Rep(K:Φ)(H:Hp):D->V->Prop
 |.none,v=>v=.non
 |.bool b,v=>v=.bl b
 |.int i,v=>v=.int i
 |.str x,v=>v=.str x
 |.tuple d,v=>∃a s,v=.ref a/\iF K H a s/\aw K H d s
 |.list d,v=>∃a s,v=.ref a/\iL K H a s/\aw K H d s
 |.dict _,_=>False
def aw(K:Φ)(H:Hp):Γ D->Γ V->Prop
 |[],s=>s=[]
 |d::S,s=>∃v r,s=v::r/\Rep K H d v/\aw K H S r
end
def aG{K:Φ}(e:aA H H')(h:iF K H a xs):iF K H' a xs:=by
 rcases h with (h|⟨o,h⟩)|h
 .exact .inl<|.inl<|e _ _ h
 .exact .inl<|.inr {o,e _ _ h}
 .exact .inr h
mutual
theorem Rep.mono{K:Φ}{H H':Hp}(e:aA H H'):∀{d:D}{v:V},Rep K H d v->Rep K H' d v
 |.none,_,h=>h
 |.bool _,_,h=>h
 |.int _,_,h=>h
 |.str _,_,h=>h
 |.tuple S,_,h=>by
  simp?[Rep]at h ⊢;let(a,s,rfl,q,r):=h;exact{a,s,rfl,aG e q,aw.mono e r}
 |.list S,_,h=>by
  simp?[Rep]at h ⊢;let(a,s,rfl,q,r):=h;exact{a,s,rfl,e.seq q,aw.mono e r}
 |.dict _,_,h=>h
theorem aw.mono{K:Φ}{H H':Hp}(e:aA H H'):∀{ds:Γ D}{vs:Γ V},aw K H ds vs->aw K H' ds vs
 |[],_,h=>h
 |d::ds,_,h=>by
  simp?[aw]at h ⊢;let(v,r,rfl,a,b):=h;exact{v,r,rfl,Rep.mono e a,aw.mono e b}
end
section
variable {K:Φ}
def aw.nil:aw K H [] []:=by rfl
def aw.cons(a:Rep K H d v)(b:aw K H ds vs):aw K H (d::ds) (v::vs):=by
 exact{v,vs,rfl,a,b}
def aw.cons_inv(h:aw K H (d::ds) vs):∃v r,vs=v::r/\Rep K H d v/\aw K H ds r:=by exact h
def aw.nil_inv(h:aw K H [] vs):vs=[]:=by exact h
def aw.length:∀{ds:Γ D}{vs:Γ V},aw K H ds vs->vs.length=ds.length
 |[],_,h=>by rw[h.nil_inv];rfl
 |d::ds,_,h=>by let(v,r,rfl,_,b):=h.cons_inv;simp[aw.length b]
def aw.get:∀{ds:Γ D}{vs:Γ V}{i:Nat}{v:V},aw K H ds vs->vs[i]?=↑v->∃d,ds[i]?=↑d/\Rep K H d v
 |[],_,i,v,h,e=>by rw[h.nil_inv]at e;simp at e
 |d::ds,_,i,v,h,e=>by
  let(j,r,rfl,a,b):=h.cons_inv;cases i with
  |zero=>simp at e;subst e;exact{d,rfl,a}
  |succ i=>simp at e;let(c,f,g):=aw.get b e;exact{c,by simpa using f,g}
def aw.getD:∀{ds:Γ D}{vs:Γ V}{i:Nat}{d:D},aw K H ds vs->ds[i]?=↑d->∃v,vs[i]?=↑v/\Rep K H d v
 |[],_,i,d,h,e=>by simp at e
 |d::ds,_,i,j,h,e=>by
  let(g,r,rfl,a,b):=h.cons_inv;cases i with
  |zero=>simp at e;subst e;exact{g,rfl,a}
  |succ i=>simp at e;let(v,c,f):=aw.getD b e;exact{v,by simpa using c,f}
def aw.append:∀{ds es:Γ D}{vs us:Γ V},aw K H ds vs->aw K H es us->aw K H (ds++es) (vs++us)
 |[],_,_,_,h,g=>by rw[h.nil_inv];exact g
 |d::ds,_,_,_,h,g=>by let(v,r,rfl,a,b):=h.cons_inv;exact aw.cons a<|aw.append b g
def aw.take:∀{ds:Γ D}{vs:Γ V}n,aw K H ds vs->aw K H (ds.take n) (vs.take n)
 |[],_,n,h=>by rw[h.nil_inv];simp[aw]
 |d::ds,_,0,h=>by rfl
 |d::ds,_,n+1,h=>by let(v,r,rfl,a,b):=h.cons_inv;exact aw.cons a<|aw.take n b
def aw.drop:∀{ds:Γ D}{vs:Γ V}n,aw K H ds vs->aw K H (ds.drop n) (vs.drop n)
 |[],_,n,h=>by rw[h.nil_inv];simp[aw]
 |d::ds,_,0,h=>h
 |d::ds,_,n+1,h=>by let(v,r,rfl,a,b):=h.cons_inv;exact aw.drop n b
def aw.reverse:∀{ds:Γ D}{vs:Γ V},aw K H ds vs->aw K H ds.reverse vs.reverse
 |[],_,h=>by rw[h.nil_inv];rfl
 |d::ds,_,h=>by
  let(v,r,rfl,a,b):=h.cons_inv;rw[kX,kX];exact aw.append (aw.reverse b)<|aw.cons a .nil
end
structure bo(HF H HF' H':Hp):Prop where
 hh:aA H H'
 ff:aA HF HF'
 fh:aA HF' H'
 nw:∀a o,HF' a=↑o->HF a=↑o\/H a=none
def bo.refl(s:aA HF H):bo HF H HF H:={.refl _,.refl _,s,λ_ _=>.inl}
def bo.trans(a:bo HF H I H1)(b:bo I H1 U H2):bo HF H U H2:=
 {a.hh.trans b.hh,a.ff.trans b.ff,b.fh,λx o e=>(b.nw x o e).elim (a.nw x o) λz=>.inr<|a.hh.free z}
def cS(h:H p=none):aA H (upd H p o):=λb u e=>by rw[ar<|aS e h];lia
def bo.new(s:aA HF H)(h:H p=none):bo HF H (upd HF p o) (upd H p o):=by
 have f:HF p=none:=s.free h;refine{cS h,cS f,λb u e=>?_,λb u e=>?_}
 .by_cases B:b=p
  .subst B;rw[av]at e ⊢;exact e
  .rw[ar B]at e ⊢;exact s b u e
 .by_cases B:b=p
  .subst B;exact .inr h
  .rw[ar B]at e;exact .inl e
def bo.own(s:aA HF H)(h:H p=none):bo HF H HF (upd H p o):=
 {cS h,.refl _,λb u e=>by rw[ar<|aS (s b u e) h];exact s b u e,λ_ _=>.inl}
def bo.freeze(g:bo HF H I U)(h:H p=none)(a:U p=↑o)(f:I p=none):bo HF H (upd I p o) U:=
 ⟨g.hh,g.ff.trans<|cS f,λb u e=>by
  by_cases B:b=p
  .subst B;rw[av]at e;rw[a,<-e]
  .rw[ar B]at e;exact g.fh b u e,λb u e=>by
  by_cases B:b=p
  .subst B;exact .inr h
  .rw[ar B]at e;exact g.nw b u e⟩
def lO:Γ Str:=["ways_of","turned_order","fairest"]
def bN(K:Φ)(HF:Hp):Prop:=∀(f:Ψ)(o:Θ)(O:Δ Ψ)(d:η)(s:Array (Δ Θ))(c P:Ψ),K.lookup f=↑{o,O,.func d,s}->d.qualname∈lO->d.code=.ref c->W.codeHdIn K c P=true->HF P=↑(.tab<|d.qualname++".<locals>."++"<lambda>")
def bN.mono{K:Φ}(h:bN K HF)(e:aA HF HF'):bN K HF':=λf o O F s c P a b d q=>e _ _<|h f o O F s c P a b d q
abbrev Env:=Γ<|Δ D
structure cK(K:W.Frag)(HF:Hp)(ρ:Env)(σ:L2.St):Prop where
 get:∀(i:Nat)(d:D),ρ[i]?=↑(↑d)->∃v,σ[i]?=↑(↑v)/\Rep K HF d v
 len:ρ.length<=σ.length
 tb:bN K HF
def cK.mono{K:Φ}(h:cK K HF ρ σ)(e:aA HF HF'):cK K HF' ρ σ:={λi d q=>let ⟨v,a,b⟩:=h.get i d q;{v,a,b.mono e},h.len,h.tb.mono e}
def tD(K:Φ)(f:Env->Δ D):TE:=λe H Q=>∃a c d,aA a H/\cK K a c e/\f c=↑d/\∀v b F,bo a H F b->Rep K F d v->Q v b
def DE(X:Cx)(e:γ)(f:Env->Δ D):Prop:=PE X e<|tD X.K f
def tF(K:Φ)(f:Env->Δ (Γ D)):TE:=λg H Q=>∃c e d,aA c H/\cK K c e g/\f e=↑d /\
 ∀a v b F,bo c H F b->H a=none->F a=none->b a=↑(.lst v)->aw K F d v->Q (.ref a) b
def DF(X:Cx)(e:γ)(f:Env->Δ (Γ D)):Prop:=PE X e<|tF X.K f
def Jy(K:Φ)(f:Env->Δ θ):TT:=λe H Q=>∃F d b,aA F H/\cK K F d e/\f d=↑b/\∀c a,bo F H a c->Q b c
def DT(X:Cx)(e:γ)(f:Env->Δ θ):Prop:=PT X e<|Jy X.K f
def YN(K:Φ)(f:Env->Δ (Γ D)):TA:=λe H Q=>∃a c d,aA a H/\cK K a c e/\f c=↑d/\∀v b F,bo a H F b->aw K F d v->Q v b
def DA(X:Cx)(es:Γ γ)(f:Env->Δ (Γ D)):Prop:=PA X es<|YN X.K f
def aE(h:PE X e t)(i:∀σ H Q,t' σ H Q->t σ H Q):PE X e t':=λp s σ H Q I q=>h p s σ H Q I<|i σ H Q q
def qm(h:PT X e t)(i:∀σ H Q,t' σ H Q->t σ H Q):PT X e t':=λp s σ H Q I q=>h p s σ H Q I<|i σ H Q q
def iV(h:PA X e t)(i:∀σ H Q,t' σ H Q->t σ H Q):PA X e t':=λP p s σ H Q I q=>h P p s σ H Q I<|i σ H Q q
def bs(h:x.bind f=↑b):∃a,x=↑a/\f a=↑b:=by
 cases x with
 |none=>cases h
 |some a=>exact{a,rfl,h}
def DF.de(h:DF X e f):DE X e (λρ=>(f ρ).map PyData.list):=aE h λl H Q z=>by
 let(c,ρ,d,sm,o,b,q):=z;have b:(f ρ).map PyData.list=↑d:=b;cases E:f ρ with
 |none=>grind
 |some s =>
  rw[E]at b;obtain rfl:PyData.list s=d:=xC b;exact{c,ρ,s,sm,o,E,λa v k i g A F j r=>q _ _ _ (g.freeze A j F)<|{a,v,rfl,.inl<|.inl av,r.mono<|cS F}}
def ae(i:Nat):Env->Δ D:=λa=>(a[i]?).getD none
def U6(i:Nat)(n:X.N[i]?=↑x)(V:pM X.env.scope x)(g:(x==("__debug__":Str))=false:=by decide)(D:(x==("__classdict__":Str))=false:=by decide):DE X (.Name x pos) (ae i):=
 aE (aY n V g D) λj H Q z=>by
  let(F,c,d,sm,E,f,q):=z;have f:(c[i]?).getD none=↑d:=f;cases e:c[i]? with
  |none=>rw[e]at f;cases f
  |some o =>
   rw[e]at f;have f:o=↑d:=f;subst f;let(v,a,b):=E.get i d e;exact{v,a,q v H F (.refl sm) b}
def fC(d:D):Env->Δ D:=λ_=>↑d
def Se{i j pos}:DE X (.Constant (.int i) j pos) (fC<|.int i):=aE Ep λb H Q z=>by let(F,a,d,sm,e,f,q):=z;cases f;exact q _ H F (.refl sm) (by rfl)
def WQ{b j pos}:DE X (.Constant (.bool b) j pos) (fC<|.bool b):=aE Lb λc H Q z=>by let(F,a,d,sm,e,f,q):=z;cases f;exact q _ H F (.refl sm) (by rfl)
def RI{j pos}:DE X (.Constant .none j pos) (fC .none):=aE TR λb H Q z=>by let(F,a,d,sm,e,f,q):=z;cases f;exact q _ H F (.refl sm) (by rfl)
def Uw{x j pos}:DE X (.Constant (.str x) j pos) (fC<|.str x):=aE KL λb H Q z=>by let(F,a,d,sm,e,f,q):=z;cases f;exact q _ H F (.refl sm) (by rfl)
def PQ(g:Gl X x)(m:X.mg x=↑(.int i t))(D:(x=="__debug__")=false:=by decide):DE X (.Name x pos) (fC<|.int i):=
 aE (OZ (v:=.int i) g m {t,rfl} D) λb H Q z=>by let(F,a,d,sm,e,f,q):=z;cases f;exact q _ H F (.refl sm) (by rfl)
def gw(K:Φ)(r:R2)(g:D->D->Δ D):Prop:=∀f H x y V b d Q,aA f H->Rep K f x V->Rep K f y b->g x y=↑d->(∀v a F,bo f H F a->Rep K F d v->Q v a)->r V b H Q
def f2(g:D->D->Δ D)(f1 f2:Env->Δ D):Env->Δ D:=λa=>(f1 a).bind λx=>(f2 a).bind λy=>g x y
def OI{X:Cx}{fa fb:Env->Δ D}(R:gw X.K r g):∀σ H Q,tD X.K (f2 g fa fb) σ H Q->Vg r (tD X.K fa) (tD X.K fb) σ H Q:=λσ H Q z=>by
 let(l,i,d,sm,e,f,q):=z;let(x,o,f):=bs f;let(y,Y,n):=bs f;exact{l,i,x,sm,e,o,λV t a G r1=>{a,i,y,G.fh,e.mono G.ff,Y,λs k b c p=>R b k x y V s d Q c.fh (r1.mono c.ff) p n λv j F m=>q v j F<|(G.trans c).trans m}}
def BY(o:iG X (binaryOp op) r)(R:gw X.K r g)(H:DE X a fa)(B:DE X b fb):DE X (.BinOp a op b pos) (f2 g fa fb):=aE (EF o H B)<|OI R
def kz(o:iG X (compareOp op) r)(R:gw X.K r g)(H:DE X a fa)(B:DE X b fb)(m:behindInMarks op b=false):DE X (.Compare a [op] [b] pos) (f2 g fa fb):=aE (Pw o H B m)<|OI R
def AM(C:Int->Int->Prop)[∀i j,Decidable<|C i j](g:Int->Int->D):D->D->Δ D
 |.int i,.int j=>if C i j then↑(g i j)else none
 |_,_=>none
def KH{K:Φ}{C:Int->Int->Prop}[∀i j,Decidable<|C i j]{gi:Int->Int->Int}:gw K (rI C λi j=>.int<|gi i j) (AM C λi j=>.int<|gi i j):=by
 intro F H x y v V d Q sm r1 r g q;cases x<;>cases y<;>simp?[AM]at g<;>try grind
 rename_i i j;by_cases hc:C i j
 .rw[yK hc]at g;cases g;exact{i,j,r1,r,hc,q _ H F (.refl sm)<|by rfl}
 grind
def Jb{K:Φ}{gi:Int->Int->Int}:gw K (Nc λi j=>.int<|gi i j) (AM (λ_ _=>True) λi j=>.int<|gi i j):=by
 intro F H x y v V d Q sm r1 r g q;cases x<;>cases y<;>simp[AM]at g<;>try cases g
 rename_i i j;exact{i,j,r1,r,q _ H F (.refl sm)<|by rfl}
def l8{K:Φ}{gi:Int->Int->θ}:gw K (Nc λi j=>.bl<|gi i j) (AM (λ_ _=>True) λi j=>.bool<|gi i j):=by
 intro F H x y v V d Q sm r1 r g q;cases x<;>cases y<;>simp[AM]at g<;>try cases g
 rename_i i j;exact{i,j,r1,r,q _ H F (.refl sm)<|by rfl}
noncomputable instance (i j:Int):Decidable (wb i j):=by unfold wb;infer_instance
noncomputable instance (i j:Int):Decidable (NF i j):=by unfold NF;infer_instance
section
variable {X:Cx}{a b c:γ}{fa fb fc:Env->Δ D}{pos:Pos}{rest:Γ γ}
def lL(fa fb:Env->Δ D):Env->Δ D:=λa=>(fa a).bind fun|.bool true=>fb a|.bool false=>↑(.bool false)|_=>none
def fOr(fa fb:Env->Δ D):Env->Δ D:=λa=>(fa a).bind fun|.bool true=>↑(.bool true)|.bool false=>fb a|_=>none
def W5:D->Δ D|.bool b=>↑(.bool<|!b)|_=>none
def Zj(fa:Env->Δ D):Env->Δ D:=λa=>(fa a).bind W5
def RE{op}(h:DE X a fa):DE X (.BoolOp op [a] pos) fa:=SI h
def T8(A:DE X a fa)(B:DE X (.BoolOp .And (b::rest) pos) fb):DE X (.BoolOp .And (a::b::rest) pos) (lL fa fb):=aE (RC A B) λo H Q z=>by
 let(m,i,d,sm,e,f,q):=z;let(x,n,f):=bs f;refine{m,i,x,sm,e,n,λV l c G r1=>?_};cases x<;>try cases f
 rename_i k;refine{k,r1,?_};cases k with
 |true=>exact nT {c,i,d,G.fh,e.mono G.ff,f,λv j F g=>q v j F<|G.trans g}
 |false=>cases f;exact lK<|q _ l c G<|by rfl
def gB:D->Δ θ|.bool b=>↑b|_=>none
def fB(f:Env->Δ D):Env->Δ θ:=λa=>(f a).bind gB
def DM:∀σ H(Q:θ->Hp->Prop),Jy X.K (fB f) σ H Q->tD X.K f σ H λx a=>∃c,x=.bl c/\Q c a:=λσ H Q z=>by
 let(d,j,k,sm,e,F,q):=z;let(x,i,F):=bs F;refine{d,j,x,sm,e,i,λv a b g r1=>?_};cases x<;>try cases F
 simp?[Rep]at r1;exact{_,r1,q a b g}
def EC(h:DE X a f)(e:∀whole,isTrue a X.env whole=(do let v <- whole;standAt a.pos;holding [v]<|truthy v):=by intro _;rfl):DT X a (fB f):=qm (LK h e) DM
def j3(o:iG X (compareOp op) r)(R:gw X.K r g)(A:DE X a fa)(B:DE X b fb)(m:behindInMarks op b=false):DT X (.Compare a [op] [b] pos) (fB<|f2 g fa fb):=
 qm (sN o A B m) λc H Q h=>OI R c H _<|DM c H Q h
def fy(fa fb:Env->Δ θ):Env->Δ θ:=λa=>(fa a).bind fun|true=>fb a|false=>↑false
def pU(fa fb:Env->Δ θ):Env->Δ θ:=λa=>(fa a).bind fun|true=>↑true|false=>fb a
def cD(fa:Env->Δ θ):Env->Δ θ:=λa=>(fa a).map (!·)
variable {ta tb:Env->Δ θ}
def DW(X:Cx)(e:γ)(f:Env->Δ θ):Prop:=PW X e<|Jy X.K f
def IR(h:PW X e t)(i:∀σ H Q,t' σ H Q->t σ H Q):PW X e t':=λw p s σ H Q I q=>h w p s σ H Q I<|i σ H Q q
def DW.dt(h:DW X a ta):DT X a ta:=PW.pt h
def MZ(H:DT X a ta):DW X (.BoolOp .And [a] pos) ta:=OQ H
def RZ(H:DT X a ta):DW X (.BoolOp .Or [a] pos) ta:=Ku H
def SY(A:DT X a ta)(B:DW X (.BoolOp .And (b::rest) pos) tb):DW X (.BoolOp .And (a::b::rest) pos) (fy ta tb):=IR (S9 A B) λn H Q z=>by
 let(l,i,d,sm,e,f,q):=z;let(x,m,f):=bs f;refine{l,i,x,sm,e,m,λk c G=>?_};cases x with
 |true=>exact nT {c,i,d,G.fh,e.mono G.ff,f,λj F g=>q j F<|G.trans g}
 |false=>cases f;exact lK<|q k c G
def V6(A:DT X a ta)(B:DW X (.BoolOp .Or (b::rest) pos) tb):DW X (.BoolOp .Or (a::b::rest) pos) (pU ta tb):=IR (Q9 A B) λn H Q z=>by
 let(l,i,d,sm,e,f,q):=z;let(x,m,f):=bs f;refine{l,i,x,sm,e,m,λk c G=>?_};cases x with
 |false=>exact lK {c,i,d,G.fh,e.mono G.ff,f,λj F g=>q j F<|G.trans g}
 |true=>cases f;exact nT<|q k c G
def Sf(A:DT X a ta):DT X (.UnaryOp .Not a pos) (cD ta):=qm (JL A) λi H Q z=>by
 let(F,c,d,sm,o,f,q):=z;have f:(ta c).map (!·)=↑d:=f;cases e:ta c with
 |none=>rw[e]at f;cases f
 |some k=>rw[e]at f;cases f;exact{F,c,k,sm,o,e,λg b G=>q g b G}
def tM(t:Env->Δ θ)(fa fb:Env->Δ D):Env->Δ D:=λa=>(t a).bind fun|true=>fa a|false=>fb a
def XY(hc:DT X c ta)(A:DE X a fa)(B:DE X b fb):DE X (.IfExp c a b pos) (tM ta fa fb):=aE (oU hc A B) λn H Q z=>by
 let(k,j,d,sm,o,f,q):=z;let(x,l,f):=bs f;refine{k,j,x,sm,o,l,λm e G=>?_};cases x with
 |true=>exact nT {e,j,d,G.fh,o.mono G.ff,f,λv i F g=>q v i F<|G.trans g}
 |false=>exact lK {e,j,d,G.fh,o.mono G.ff,f,λv i F g=>q v i F<|G.trans g}
def gR(g g':D->D->Δ D)(fa fb fc:Env->Δ D):Env->Δ D:=λa=>(fa a).bind λx=>(fb a).bind λy=>(g x y).bind fun|.bool true=>(fc a).bind λz=>g' y z|.bool false=>↑(.bool false)|_=>none
def FH(E:gw X.K r g)(R:gw X.K U g'):∀σ H Q,tD X.K (gR g g' fa fb fc) σ H Q->Dj r U (tD X.K fa) (tD X.K fb) (tD X.K fc) σ H Q:=λσ H Q z=>by
 let(B,m,d,sm,o,f,q):=z;let(x,I,f):=bs f;let(y,Y,f):=bs f;let(z,Z,f):=bs f;refine{B,m,x,sm,o,I,λM O b i r1=>{b,m,y,i.fh,o.mono i.ff,Y,λV t c j p=>E c t x y M V z _ j.fh (r1.mono j.ff) p Z λP u a n J=>?_}};cases z<;>try cases f
 rename_i k;refine{k,J,?_};have G:=(i.trans j).trans n;cases k with
 |false=>cases f;exact lK (q _ u a G<|by rfl)
 |true =>
  let(w,hw,D):=bs f;exact nT {a,m,w,G.fh,o.mono G.ff,hw,λN A e l L=>R e A y w V N d Q l.fh (p.mono<|n.ff.trans l.ff) L D λv s F C=>q v s F<|(G.trans l).trans C}
def Mv(O:iG X (compareOp op) r)(R:gw X.K r g)(o:iG X (compareOp I) U)(H:gw X.K U g')(A:DE X a fa)(B:DE X b fb)(hc:DE X c fc)
  (m:lastMarks [op,I] [b,c]=false:=by with_unfolding_all rfl):DE X (.Compare a [op,I] [b,c] pos) (gR g g' fa fb fc):=aE (Lf O o A B hc m)<|FH R H
def JF(O:iG X (compareOp op) r)(e:gw X.K r g)(o:iG X (compareOp I) U)(R:gw X.K U g')(A:DE X a fa)(B:DE X b fb)(hc:DE X c fc)
  (m:lastMarks [op,I] [b,c]=false:=by with_unfolding_all rfl):DT X (.Compare a [op,I] [b,c] pos) (fB<|gR g g' fa fb fc):=
 qm (Lp O o A B hc m) λd H Q h=>FH e R d H _<|DM d H Q h
def ag:Env->Δ (Γ D):=λ_=>↑[]
def aa(f:Env->Δ D)(g:Env->Δ (Γ D)):Env->Δ (Γ D):=λa=>(f a).bind λx=>(g a).map (x::·)
def KZ:DA X [] ag:=iV bJ λb H Q z=>by let(F,a,d,sm,e,f,q):=z;cases f;exact q [] H F (.refl sm) .nil
def FB(l:DE X e f)(s:DA X es g)(t:starEach (e::es) X.env=(false,eval e X.env)::starEach es X.env:=by rfl):DA X (e::es) (aa f g):=
 iV (aL l s t) λp H Q z=>by
  let(k,c,d,sm,o,F,q):=z;let(x,m,F):=bs F;cases E:g c with
  |none=>grind
  |some S =>
   rw[E]at F;cases F;exact{k,c,x,sm,o,m,λv n a G r1=>{a,c,S,G.fh,o.mono G.ff,E,λV j b i r=>q _ j b (G.trans i)<|aw.cons (r1.mono i.ff) r}}
variable {es:Γ γ}{fs:Env->Δ (Γ D)}
def small(ds:Γ D):Δ (Γ D):=if ds.length<=sizeLine then↑ds else none
def eJ{ds es:Γ D}(h:small ds=↑es):es=ds/\ds.length<=sizeLine:=by
 unfold small at h;split at h
 .cases h;exact{rfl,‹_›}
 .cases h
def aX(g:Env->Δ (Γ D)):Env->Δ D:=λa=>(g a).bind λd=>(small d).map PyData.tuple
def dD(g:Env->Δ (Γ D)):Env->Δ (Γ D):=λa=>(g a).bind small
def Sr{x1}(h:DA X es fs):DE X (.Tuple es x1 pos) (aX fs):=aE (zk h) λi H Q z=>by
 let(F,b,d,sm,o,f,q):=z;let(s,x,f):=bs f;cases e:small s with
 |none=>grind
 |some E =>
  rw[e]at f;cases f;let(rfl,Z):=eJ e;exact{F,b,_,sm,o,x,λv c a g r1=>{by rw[r1.length];lia,λp P=>q _ _ _ (g.trans<|.new g.fh P)<|{p,v,rfl,.inl<|.inl av,r1.mono<|cS<|g.fh.free P}}}
def Sx(h:DA X es fs):DF X (.List es pos) (dD fs):=aE (Ek h) λi H Q z=>by
 let(F,b,d,sm,e,f,q):=z;let(s,x,f):=bs f;let(rfl,Z):=eJ f;exact{F,b,_,sm,e,x,λv c a g r1=>{by rw[r1.length];lia,λp P=>q p v _ a (g.trans<|.own g.fh P) (g.hh.free P) (g.fh.free P) av r1}}
def aK:D->D->Δ D
 |.tuple d,.int i=>vy d i
 |.list d,.int i=>vy d i
 |_,_=>none
def CI{K:Φ}(r:aw K HF ds vs)(h:vy ds i=↑d):∃v,vy vs i=↑v/\Rep K HF d v:=by
 unfold vy at h ⊢;rw[r.length];let(j,H,h):=bs h;let(v,a,b):=r.getD h;exact{v,by rw[H];exact a,b}
def U0{K:Φ}:gw K (rIx K) aK:=by
 intro F H x y c e d Q sm r1 b g q;cases x<;>cases y<;>simp[aK]at g<;>try grind
 .let(a,S,rfl,s,r):=r1;let(v,V,R):=CI r g;exact .inl {a,S,_,v,rfl,b,sm.seq s,V,q v H F (.refl sm) R}
 .let(a,S,rfl,s,r):=r1;let(v,V,R):=CI r g;exact .inr<|.inl {a,S,_,v,rfl,b,aG sm s,V,q v H F (.refl sm) R}
def VR(H:DE X a fa)(B:DE X b fb)(s:Al b:=by intro _ _;rfl):DE X (.Subscript a b pos) (f2 aK fa fb):=aE (WC Uy H B s)<|OI U0
mutual
theorem cQ{pins:Γ (Ψ×Obj)}{σ:L2.St}{H HF:Hp}{s:Ξ}(I:Inv X pins σ H s)(sm:aA HF H):∀{d:D}{v:V}{u:Θ},Rep X.K HF d v->RelV v u->∃A,Reads s.heap u d A
 |.none,_,_,h,r=>by simp?[Rep]at h;subst h;cases r;exact{_,.none}
 |.bool b,_,_,h,r=>by simp?[Rep]at h;subst h;cases r;exact{_,.bool b}
 |.int i,_,_,h,r=>by simp?[Rep]at h;subst h;let(t,rfl):=r;exact{_,.int i t}
 |.str i,_,_,h,r=>by simp?[Rep]at h;subst h;let(t,rfl):=r;exact{_,.str i t}
 |.tuple g,_,_,h,r=>by
  simp?[Rep]at h;let(a,j,rfl,S,R):=h;cases r;let(e,f,(o,O,hc,n,c),_):=I.tuple<|aG sm S;let(A,q):=rE I sm R f;exact{A,.tuple O hc c<|by simpa using q}
 |.list g,_,_,h,r=>by
  simp?[Rep]at h;let(a,j,rfl,S,R):=h;cases r;let(e,f,p,_):=I.list<|sm.seq S;let(o,O,hc,n,c):=p.isList;let(A,q):=rE I sm R f;exact{_,.list O hc c<|by simpa using q}
 |.dict _,_,_,h,r=>by simp?[Rep]at h
theorem rE{pins:Γ (Ψ×Obj)}{σ:L2.St}{H HF:Hp}{s:Ξ}(I:Inv X pins σ H s)(sm:aA HF H):∀{ds:Γ D}{vs:Γ V}{us:Γ Θ},aw X.K HF ds vs->aO vs us->∃A,ReadsAll s.heap us ds A
 |[],_,_,h,r=>by rw[h.nil_inv]at r;cases r;exact{_,.nil}
 |d::ds,_,_,h,r=>by
  let(v,c,rfl,a,b):=h.cons_inv;cases r with
  |cons r R =>
   let(A,q):=cQ I sm a r;let(bs,p):=rE I sm b R;exact{_,.cons q p}
end
def W9(K:Φ)(g:D->D->Δ θ):R2:=λv V H Q=>∃F x y k,aA F H/\Rep K F x v/\Rep K F y V/\g x y=↑k/\Q (.bl k) H
def lh{K:Φ}:gw K (W9 K g) (λx y=>(g x y).map PyData.bool):=by
 intro F H x y v V d Q sm r1 r G q;have G:(g x y).map PyData.bool=↑d:=G;cases e:g x y with
 |none=>rw[e]at G;cases G
 |some k=>rw[e]at G;cases G;exact{F,x,y,k,sm,r1,r,e,q _ H F (.refl sm)<|by simp[Rep]}
def Tw(x y:D):Δ θ:=if SeqAt.shaped x=true/\SeqAt.shaped y=true then↑(PyData.eqv x y)else none
def RY(x y:D):Δ θ:=if SeqAt.shaped x=true/\SeqAt.shaped y=true then↑(!PyData.eqv x y)else none
def Lu(u:X.A.units+64<cLine):iG X (compareOp .Eq) (W9 X.K Tw):=by
 intro p s e H v V U d Q I c Y h;let(F,x,y,k,sm,r1,r,g,q):=h;unfold Tw at g;split at g<;>cases g;rename_i a;let(S,R):=cQ I sm r1 c;let(bs,b):=cQ I sm r Y;exact eq_dataH R b a.1 a.2 u {.bl _,H,I,rfl,q}
def Ey(u:X.A.units+64<cLine):iG X (compareOp .NotEq) (W9 X.K RY):=by
 intro p s e H v V U d Q I c Y h;let(F,x,y,k,sm,r1,r,g,q):=h;unfold RY at g;split at g<;>cases g;rename_i a;let(S,R):=cQ I sm r1 c;let(bs,b):=cQ I sm r Y;exact ne_dataH R b a.1 a.2 u {.bl _,H,I,rfl,q}
def items:D->Δ (Γ D)|.tuple d=>↑d|.list d=>↑d|_=>none
def Yi(x y:D):Δ θ:=match y with
 |.tuple d=>if SeqAt.shaped x=true/\SeqAt.shaped y=true then↑(d.any λz=>PyData.eqv z x)else none
 |.list d=>if SeqAt.shaped x=true/\SeqAt.shaped y=true then↑(d.any λz=>PyData.eqv z x)else none
 |_=>none
def Kp(u:X.A.units+66<cLine):iG X (compareOp .In) (W9 X.K Yi):=by
 intro p s f H v V U e Q I c Y h;let(F,x,y,k,sm,r1,R,g,q):=h;let(S,r):=cQ I sm r1 c;let(bs,b):=cQ I sm R Y;cases y<;>simp?[Yi]at g<;>try cases g
 all_goals
  split at g<;>cases g;rename_i d a;have c1:=kF a.1;have c2:=kF a.2;have D:=SeqAt.depth_of_shaped a.1;simp?[PyData.canLay0]at c2;have m:=Nat.min_le_right (PyData.depthAll d) x.depth
  first
   |exact SeqAt.in_list_reads b r c2 c1 (by lia) {.bl _,H,I,rfl,q}
   |exact SeqAt.in_tuple_reads b r c2 c1 (by lia) {.bl _,H,I,rfl,q}
end
def Vu(K:Φ)(n:Nat)(m:Γ D->Δ D):Sp:=λV H Q _=>∃f s d,aA f H/\bN K f/\aw K f s V/\s.length=n/\m s=↑d/\∀v a F,bo f H F a->Rep K F d v->Q v a
structure Ig(P:Program)(w:World)(K:W.Frag)(mg:Str->Option Value)(base:Heap)(k:Nat)(x:Str)(n:Nat)(m:List D->Option D):Prop where
 ex:∃ (f:Ψ) (fd:η) (ps:Γ Str),dc P w K mg base rO k f fd ps (Vu K n m)/\mg x=↑(.ref f)/\W.keepIn K (.ref f)=true/\Binds K fd ps []
def Ig.mono{K:Φ}(F:Ig P w K mg base k x n m)(h:k<=j):Ig P w K mg base j x n m:=by
 let(f,D,p,a,b,c,d):=F.ex;exact{f,D,p,a.mono h,b,c,d}
def aj(n:Nat)(m:Γ D->Δ D)(fs:Env->Δ (Γ D)):Env->Δ D:=λa=>(fs a).bind λd=>if d.length=n then m d else none
def PN(F:Ig X.prog X.w X.K X.mg X.base k x n m)(R:cA k X.A)(C:Gl X x)(t:DA X (e::es) fs)(B:(x==("__debug__":Str))=false:=by decide)
  (y:starEach (e::es) X.env=(false,eval e X.env)::starEach es X.env:=by rfl)(l:(backTo pos<|starEach es X.env).any (·.1)=false:=by rfl):DE X (.Call (.Name x p) (e::es) [] pos) (aj n m fs):=by
 let(f,N,P,O,M,hk,u):=F.ex;refine aE (j6 (E:=E0) O R C M hk u .nil o7 t B y l) λS H Q z=>?_;let(j,I,d,sm,o,a,q):=z;let(s,D,a):=bs a;split at a
 .rename_i L;exact{j,I,s,sm,o,D,λV J c G r1=>{c,s,d,G.fh,o.tb.mono G.ff,by rw[qD];exact r1,L,a,λv i b g r=>q v i b (G.trans g) r}}
 .cases a
def Js(K:Φ)(r:Γ V->Hp->VK->Prop)(g:Γ D->Δ D):Prop:=∀f H s S d Q,aA f H->aw K f s S->g s=↑d->(∀v a F,bo f H F a->Rep K F d v->Q v a)->r S H Q
def bT(g:Γ D->Δ D)(fs:Env->Δ (Γ D)):Env->Δ D:=λa=>(fs a).bind g
def Wv{X:Cx}{fs:Env->Δ _}(S:Js X.K r g):∀σ H Q,tD X.K (bT g fs) σ H Q->Yp r (YN X.K fs) σ H Q:=λσ H Q z=>by
 let(e,j,d,sm,o,f,q):=z;let(s,x,f):=bs f;exact{e,j,s,sm,o,x,λV c a G r1=>S a c s V d Q G.fh r1 f λv b F i=>q v b F<|G.trans i}
def FV(K:Φ)(r:Γ V->Hp->VK->Prop)(g:Γ D->Δ (Γ D)):Prop:=∀f H d v e Q,aA f H->aw K f d v->g d=↑e ->
 (∀a u b F,bo f H F b->H a=none->F a=none->b a=↑(.lst u)->aw K F e u->Q (.ref a) b)->r v H Q
def o6(g:Γ D->Δ (Γ D))(fs:Env->Δ (Γ D)):Env->Δ (Γ D):=λa=>(fs a).bind g
def Re{X:Cx}{fs:Env->Δ _}(S:FV X.K r g):∀σ H Q,tF X.K (o6 g fs) σ H Q->Yp r (YN X.K fs) σ H Q:=λσ H Q z=>by
 let(j,m,d,sm,o,f,q):=z;let(s,x,f):=bs f;exact{j,m,s,sm,o,x,λv i b G r1=>S b i s v d Q G.fh r1 f λa u e F k A c l=>q a u e F (G.trans k) (G.hh.free A) c l}
structure sx(X:Cx)(x:Str)(v:Value):Prop where
 gl:Gl X x
 mg:X.mg x=none
 bt:bootBuiltins x=↑v
def jq{id:String}(hc:fF X (.builtin id) r)(s:Js X.K r g)(B:sx X x (.builtin id))(a:DA X (e::es) fs)(n:x≠"__name__":=by decide)(b:(x==("__debug__":Str))=false:=by decide)
  (H:starEach (e::es) X.env=(false,eval e X.env)::starEach es X.env:=by rfl)(l:(backTo pos<|starEach es X.env).any (·.1)=false:=by rfl):DE X (.Call (.Name x p) (e::es) [] pos) (bT g fs):=
 aE (mh hc B.gl B.mg B.bt a n b H l) (Wv s)
def L5{id:String}(hc:fF X (.builtin id) r)(s:FV X.K r g)(B:sx X x (.builtin id))(a:DA X (e::es) fs)(n:x≠"__name__":=by decide)(b:(x==("__debug__":Str))=false:=by decide)
  (H:starEach (e::es) X.env=(false,eval e X.env)::starEach es X.env:=by rfl)(l:(backTo pos<|starEach es X.env).any (·.1)=false:=by rfl):DF X (.Call (.Name x p) (e::es) [] pos) (o6 g fs):=
 aE (mh hc B.gl B.mg B.bt a n b H l) (Re s)
def GZ(hc:fF X (.type T) r)(s:Js X.K r g)(B:sx X x (.type T))(a:DA X (e::es) fs)(n:x≠"__name__":=by decide)(b:(x==("__debug__":Str))=false:=by decide)
  (H:starEach (e::es) X.env=(false,eval e X.env)::starEach es X.env:=by rfl)(l:(backTo pos<|starEach es X.env).any (·.1)=false:=by rfl):DE X (.Call (.Name x p) (e::es) [] pos) (bT g fs):=
 aE (rh hc B.gl B.mg B.bt a n b H l) (Wv s)
def HL(hc:fF X (.type T) r)(s:FV X.K r g)(B:sx X x (.type T))(a:DA X (e::es) fs)(n:x≠"__name__":=by decide)(b:(x==("__debug__":Str))=false:=by decide)
  (H:starEach (e::es) X.env=(false,eval e X.env)::starEach es X.env:=by rfl)(l:(backTo pos<|starEach es X.env).any (·.1)=false:=by rfl):DF X (.Call (.Name x p) (e::es) [] pos) (o6 g fs):=
 aE (rh hc B.gl B.mg B.bt a n b H l) (Re s)
def iw:D->Δ (Γ D)|.tuple d=>↑d|.list d=>↑d|_=>none
def oneOf:Γ D->Δ D|[d]=>↑d|_=>none
def iB(h:oneOf ds=↑d):ds=[d]:=by
 cases ds with
 |nil=>cases h
 |cons x r=>cases r with
  |nil=>cases h;rfl
  |cons _ _=>cases h
def nL(h:iw d=↑ds):d=.tuple ds\/d=.list ds:=by
 cases d<;>cases h
 .exact .inr rfl
 .exact .inl rfl
def dF:Γ D->Δ (Γ D):=λd=>(oneOf d).bind iw
def iT{ds es:Γ D}(h:dF ds=↑es):ds=[.tuple es]\/ds=[.list es]:=by
 let(d,H,a):=bs h;rw[iB H];rcases nL a with rfl|rfl
 .exact .inl rfl
 .exact .inr rfl
def bX:Γ D->Δ D:=λd=>(dF d).map λe=>.int e.length
def af{α c:Type}{x:Δ α}{f:α->c}{b:c}(h:x.map f=↑b):∃a,x=↑a/\f a=b:=by
 simp_all
def Qi{K:Φ}:Js K (λxs H Q=>∃p ys,xs=[.ref p]/\(iL K H p ys\/iF K H p ys)/\Q (.int ys.length) H) bX:=by
 intro F H s V d Q sm r g q;let(e,c,rfl):=af g;rcases iT c with rfl|rfl
 all_goals
  let(v,f,rfl,a,b):=r.cons_inv;rw[b.nil_inv];let(p,u,rfl,h,R):=a
 .exact{p,u,rfl,.inr<|aG sm h,q _ H F (.refl sm)<|by simp[Rep,R.length]}
 .exact{p,u,rfl,.inl<|sm.seq h,q _ H F (.refl sm)<|by simp[Rep,R.length]}
def TK(B:sx X "len" (.builtin "len"))(a:DA X [e] fs)(H:starEach [e] X.env=(false,eval e X.env)::starEach [] X.env:=by rfl):DE X (.Call (.Name "len" p) [e] [] pos) (bT bX fs):=
 jq oJ Qi B a (by decide) (by rfl) H rfl
def IJ{K:Φ}:FV K (λxs H Q=>∃p ys,xs=[.ref p]/\(iL K H p ys\/iF K H p ys)/\∀l,H l=none->Q (.ref l) (upd H l<|.lst ys)) dF:=by
 intro F H s V d Q sm r g q;rcases iT g with rfl|rfl
 all_goals
  let(v,c,rfl,a,b):=r.cons_inv;rw[b.nil_inv];let(p,u,rfl,h,R):=a
 .exact{p,u,rfl,.inr<|aG sm h,λl L=>q l u _ F (.own sm L) L (sm.free L) av R}
 .exact{p,u,rfl,.inl<|sm.seq h,λl L=>q l u _ F (.own sm L) L (sm.free L) av R}
def Pe(B:sx X "list" (.type "list"))(a:DA X [e] fs)(H:starEach [e] X.env=(false,eval e X.env)::starEach [] X.env:=by rfl):DF X (.Call (.Name "list" p) [e] [] pos) (o6 dF fs):=
 HL AI IJ B a (by decide) (by rfl) H rfl
def eI{K:Φ}(h:HF l=none)(r:aw K HF ds vs):Rep K (upd HF l<|.tup vs) (.tuple ds) (.ref l):=by
 exact{l,vs,rfl,.inl<|.inl av,r.mono<|cS h}
def GY{K:Φ}:Js K (λxs H Q=>∃p ys,xs=[.ref p]/\((iL K H p ys/\∀l,H l=none->Q (.ref l) (upd H l<|.tup ys))\/(iF K H p ys/\Q (.ref p) H))) (λds=>(dF ds).map PyData.tuple):=by
 intro F H ds s d Q sm r g q;let(e,c,rfl):=af g;rcases iT c with rfl|rfl
 all_goals
  let(v,f,rfl,a,b):=r.cons_inv;rw[b.nil_inv];have A:=a;let(p,u,rfl,h,R):=a
 .exact{p,u,rfl,.inr {aG sm h,q _ H F (.refl sm) A}}
 .exact{p,u,rfl,.inl {sm.seq h,λl L=>q _ _ _ (.new sm L)<|eI (sm.free L) R}}
def JY(B:sx X "tuple" (.type "tuple"))(a:DA X [e] fs)(H:starEach [e] X.env=(false,eval e X.env)::starEach [] X.env:=by rfl):DE X (.Call (.Name "tuple" p) [e] [] pos) (bT (λds=>(dF ds).map PyData.tuple) fs):=
 GZ wc GY B a (by decide) (by rfl) H rfl
def kf:D->String|.none=>"NoneType" | .bool _=>"bool" | .int _=>"int" | .str _=>"str" | .tuple _=>"tuple" | .list _=>"list" | .dict _=>"dict"
def zr(a b:String):Δ θ:=if((Value.type a)==(Value.type b))=true then↑true else if W.kitMeta b=true then(fastBuiltinMro a).map (·.contains (Value.type b))else none
def Qb:∀a∈["NoneType","bool","int","str","tuple","list"],zr a "int"=↑(a=="int"||a=="bool"):=by decide +kernel
def MA:∀a∈["NoneType","bool","int","str","tuple","list"],zr a "bool"=↑(a=="bool"):=by decide +kernel
def kit_tuple:∀a∈["NoneType","bool","int","str","tuple","list"],zr a "tuple"=↑(a=="tuple"):=by decide +kernel
def J8{A:ξ}{E:Θ->Ξ->Prop}(I:Inv X pins σ H s)(sm:aA HF H)(r:Rep X.K HF d v)(R:RelV v u)
  (e:zr (kf d) T=↑k)(h:∀f,Q (.bool k) {s with toks:=f}):wpAny (model X.prog X.w) A (call (.builtin "isinstance") [u,.type T]) Q E s:=by
 have b:=e;cases d<;>simp?[Rep]at r
 .subst r;cases R;exact W.kia_one W.kitx_none I.kIn True.intro b (nofun) h
 .subst r;cases R;exact W.kia_one W.kitx_bool I.kIn True.intro b (nofun) h
 .subst r;let(t,rfl):=R;exact W.kia_one W.kitx_int I.kIn True.intro b (nofun) h
 .subst r;let(t,rfl):=R;exact W.kia_one W.kitx_str I.kIn True.intro b (nofun) h
 .let(a,V,rfl,S,c):=r;cases R;let(i,R,p,_):=I.list<|sm.seq S;let(o,O,hc,n,D):=p.isList;exact W.kia_one W.kitx_list I.kIn {o,O,hc} b (nofun) h
 .let(a,V,rfl,S,c):=r;cases R;let(i,R,(o,O,hc,n,D),_):=I.tuple<|aG sm S;exact W.kia_one W.kitx_tuple I.kIn {o,O,hc} b (nofun) h
def IE(T:String)(f:Env->Δ D):Env->Δ D:=λa=>(f a).bind λd=>(zr (kf d) T).map PyData.bool
def VB(B:sx X "isinstance" (.builtin "isinstance"))(C:sx X U (.type T))(h:DE X e f)(n:U≠"__name__":=by decide)(D:(U=="__debug__")=false:=by decide)
  (E:starEach [e,.Name U pT] X.env=(false,eval e X.env)::starEach [.Name U pT] X.env:=by rfl):DE X (.Call (.Name "isinstance" p) [e,.Name U pT] [] pos) (IE T f):=by
 have hc:fF X (.builtin "isinstance") (λS H Q=>∃F d v k,S=[v,.ty T]/\aA F H/\Rep X.K F d v/\zr (kf d) T=↑k/\Q (.bl k) H):=by
  intro P s u H S y Q I r h;let(F,d,v,k,rfl,sm,l,hk,q):=h;cases r with
  |cons R m =>
   cases m with
   |cons j N =>
    cases N;cases j;exact J8 I sm l R hk λw=>{.bl k,H,I.tok _,rfl,q}
 refine aE (mh hc B.gl B.mg B.bt (aL h (aL (Om (v:=.ty T) C.gl C.mg C.bt rfl n D) bJ) E) (by decide) (by rfl) E rfl) λu H Q z=>?_;let(F,t,d,sm,o,b,q):=z;let(x,i,b):=bs b;let(k,hk,rfl):=af b;exact{F,t,x,sm,o,i,λV c a g r1=>{a,x,V,k,rfl,g.fh,r1,hk,q _ c a g<|by rfl}}
def P5:D->D->Δ D
 |.tuple x,.tuple y=>(small<|x++y).map PyData.tuple
 |_,_=>none
def E2(K:Φ):R2:=λx y H Q=>∃a b s Y,x=.ref a/\y=.ref b/\iF K H a s/\iF K H b Y/\s.length+Y.length<=sizeLine /\
 (s=[]->Q (.ref b) H)/\(Y=[]->Q (.ref a) H)/\(∀p,H p=none->Q (.ref p) (upd H p<|.tup<|s++Y))
def Hm:iG X (binaryOp .Add) (E2 X.K):=by
 intro P s G H x y v u Q I r R h;let(a,b,q,Y,rfl,rfl,l,B,Z,q0,F,q2):=h;by_cases j:q=[]
 .cases r;cases R;let(i,r1,E,_):=I.tuple l;let(A,J,p2,_):=I.tuple B;let((C,w,k,L),o,hc,n,m):=id E;let((t,g,D,S),f,c,N,d):=id p2;simp only at hc m c d;subst hc m c d;have e:i=[]:=(L2.aO.abo r1).mpr j;exact wJ {_,o,rfl} {_,f,rfl} noFill_tuple_add seq_tuple_add vJ vE (vB _ _)
   (tuple_addW0 a b i.toArray A.toArray n N w g L S<|by simp[e]) {o,f,{.ref b,H,I,rfl,q0 j}}
 .exact N0 P s G H _ _ v u Q I r R {a,b,q,Y,rfl,rfl,l,B,j,Z,F,λ_ p z=>q2 p z}
def PZ{K:Φ}:gw K (E2 K) P5:=by
 intro F H x y V k d Q sm r1 c g q;cases x<;>cases y<;>simp?[P5]at g<;>try grind
 rename_i s Y;let(E,f,rfl):=af g;let(rfl,z):=eJ f;have r:=r1;have R:=c;let(a,v,rfl,i,A):=r1;let(b,u,rfl,j,B):=c;refine{a,b,v,u,rfl,rfl,aG sm i,aG sm j,by rw[A.length,B.length,<-zN];lia,λe=>?_,λe=>?_,λp P=>q _ _ _ (.new sm P)<|eI (sm.free P)<|A.append B}
 .have:s=[]:=by have:=A.length;grind
  subst this;exact q _ H F (.refl sm) R
 .have:Y=[]:=by have:=B.length;grind
  subst this;rw[qD]at q;exact q _ H F (.refl sm) r
structure wu(K:W.Frag)(J:It)(HF:Hp)(ds:List D):Prop where
 go:∀i d aaR aaz,ds[i]?=↑d->aA HF aaz->aA aaz aaR->J.go i aaR/\∀x acf,J.yld i aaR x acf->∃aej,bo aaz aaR aej acf/\Rep K aej d x
 stop:∀aaR aaz,aA HF aaz->aA aaz aaR->J.stop ds.length aaR
def tDI(K:Φ)(f:Env->Δ (Γ D)):TI:=λe H R=>∃a c d,aA a H/\cK K a c e/\f c=↑d/\∀J b F,bo a H F b->wu K J F d->R J b
def DI(X:Cx)(tg iter:γ)(f:Env->Δ (Γ D)):Prop:=PI X tg iter<|tDI X.K f
def Gu{K:Φ}(h:iL K HF a vs)(r:aw K HF ds vs):wu K (YK K a) HF ds where
 go:=λi d R z e s S=>by
  let(v,H,V):=r.getD e;have q:=S.seq<|s.seq h;refine{{vs,v,q,H},λx f ⟨E,y⟩=>{z,by rw[E];exact .refl S,?_}};have:=y vs q;rw[H]at this;cases this;exact V.mono s
 stop:=λR z s S=>{vs,S.seq<|s.seq h,by rw[r.length];apply yL}
def Kz{K:Φ}(h:iF K HF a vs)(r:aw K HF ds vs):wu K (Zo K a) HF ds where
 go:=λi d R z e s S=>by
  let(v,H,V):=r.getD e;have q:=aG S<|aG s h;refine{{vs,v,q,H},λx f ⟨E,y⟩=>{z,by rw[E];exact .refl S,?_}};have:=y vs q;rw[H]at this;cases this;exact V.mono s
 stop:=λR z s S=>{vs,aG S<|aG s h,by rw[r.length];apply yL}
def DP{K:Φ}{lo:Int}:wu K (Yg lo n) HF ((List.range n).map λi=>PyData.int<|lo+(i:Nat)) where
 go:=λi d R a e S s=>by
  rw[zO]at e;let(j,b,rfl):=af e;let(I,J):=List.getElem?_eq_some_iff.mp b;have H:=by simpa using I
  have:j=i:=by rw[<-J];simp
  subst this;exact{H,λx f z=>by let(E,X):=z;exact {a,by rw[E];exact .refl s,by simp[Rep,X]}}
 stop:=λR a S s=>by
  show n<=_;simp
section
variable {X:Cx}{tg l e:γ}{f:Env->Δ D}{fs:Env->Δ (Γ D)}{pos p:Pos}
def Ac(h:PI X tg l t)(i:∀σ H R,t' σ H R->t σ H R):PI X tg l t':=λp s σ H R I q=>h p s σ H R I<|i σ H R q
def Uc(L:PE X l tl):PI X tg l (λσ H R=>tl σ H λx c=>∃a,x=.ref a/\((∃xs,iL X.K c a xs/\R (YK X.K a) c)\/∃xs,iF X.K c a xs/\R (Zo X.K a) c)):=by
 refineλp s σ H R I h=>bZ (L p s σ H _ I h) λv S z=>?_;let(x,c,i,r1,f):=z;let(a,e,q):=f;subst e;cases r1;rcases q with ⟨xs,Q,q⟩|⟨xs,Q,q⟩
 .let(d,r,P,Z):=i.list Q;refine qH P.isList {S.heap.objs.size,[S.heap.objs.size],_,_,c,rfl,i.kept λb o=>zU _,Hu a _,{_,zX _ rfl,rfl,rfl},λb B=>?_,q};cases List.mem_singleton.mp B;exact i.abq (yL _) i.fresh
 .let(d,r,P,Z):=i.tuple Q;refine xQ (P) {S.heap.objs.size,[S.heap.objs.size],_,_,c,rfl,i.kept λb o=>zU _,Ea a _,{_,zX _ rfl,rfl,rfl},λb B=>?_,q};cases List.mem_singleton.mp B;exact i.abq (yL _) i.fresh
def dg(f:Env->Δ D):Env->Δ (Γ D):=λa=>(f a).bind iw
def Mz(h:DE X l f):DI X tg l (dg f):=Ac (Uc h) λk H R z=>by
 let(d,j,D,sm,e,F,q):=z;let(x,i,F):=bs F;refine{d,j,x,sm,e,i,λV c b g r1=>?_};rcases nL F with rfl|rfl
 .let(a,v,rfl,s,r):=r1;exact{a,rfl,.inr {v,aG g.fh s,q _ c b g<|Kz s r}}
 .let(a,v,rfl,s,r):=r1;exact{a,rfl,.inl {v,g.fh.seq s,q _ c b g<|Gu s r}}
def Cj(i:Int):θ:=decide (-(2^62)<=i)&&decide (i<2^62)
def nC:Γ D->Δ (Γ D)
 |[.int j]=>if Cj j then↑((List.range j.toNat).map λi=>PyData.int ((i:Nat):Int))else none
 |_=>none
def BA(h:nC ds=↑es):∃j,ds=[.int j]/\Cj j=true/\es=(List.range j.toNat).map λi=>PyData.int ((i:Nat):Int):=by
 unfold nC at h;split at h
 .split at h
  .cases h;exact{_,rfl,‹_›,rfl}
  .cases h
 .cases h
def da(fs:Env->Δ (Γ D)):Env->Δ (Γ D):=λa=>(fs a).bind nC
def Kk(B:sx X "range" (.type "range"))(h:DA X [e] fs)(s:starEach [e] X.env=[(false,eval e X.env)]:=by rfl):DI X tg (.Call (.Name "range" p) [e] [] pos) (da fs):=
 Ac (Iq B.gl B.mg h s) λl H R z=>by
  let(F,k,D,sm,o,f,q):=z;let(x,i,f):=bs f;let(j,rfl,J,rfl):=BA f;refine{F,k,_,sm,o,i,λV d c g r1=>?_};let(v,r,rfl,a,b):=r1.cons_inv;rw[b.nil_inv];simp[Rep]at a;subst a;unfold Cj at J;rw[zF]at J;refine{j,rfl,yP J.1,yP J.2,q _ d c g ?_};have:=DP (K:=X.K) (HF:=c) (lo:=0) (n:=j.toNat);simpa using this
def Yv(K:Φ)(f:Env->D->Δ Env):TG:=λv e H Q=>∃F c d b,aA F H/\cK K F c e/\Rep K F d v/\f c d=↑b/\∀a,cK K F b a->cK K F c a->Q a H
def DG(X:Cx)(tg:γ)(f:Env->D->Δ Env):Prop:=PG X tg<|Yv X.K f
def ue(h:PG X tg t)(i:∀v σ H Q,t' v σ H Q->t v σ H Q):PG X tg t':=λp s σ H v u Q I r q=>h p s σ H v u Q I r<|i v σ H Q q
def isFree(ρ:Env)(i:Nat):θ:=((ρ[i]?).getD none).isNone
def j9{K:Φ}(o:cK K HF ρ σ)(r:Rep K HF d v):cK K HF (ρ.set i<|↑d) (σ.set i<|↑v):=by
 refine{λj e h=>?_,by rw[yC,yC];exact o.len,o.tb};rw[xH]at h ⊢;by_cases H:i=j
 .rw[yK H]at h ⊢;by_cases l:i<ρ.length
  .rw[yK l]at h;cases h;rw[yK<|zP l o.len];exact{v,rfl,r}
  .rw[yM l]at h;cases h
 .rw[yM H]at h ⊢;exact o.get j e h
def mS{K:Φ}(o:cK K HF ρ σ)(f:isFree ρ i=true):cK K HF ρ (σ.set i<|↑v):=by
 refine{λj e h=>?_,by rw[yC];exact o.len,o.tb};have H:i≠j:=by
  intro z;subst z;unfold isFree at f;rw[h]at f;cases f
 rw[xH,yM H];exact o.get j e h
def fG(i:Nat):Env->D->Δ Env:=λa d=>if isFree a i=true then↑(a.set i<|↑d)else none
def O6(i:Nat)(n:X.N.Nodup)(hi:X.N[i]?=↑x)(a:Loc X.env.scope x)(f:X.fn x=true\/X.env.scope.names.lookup x=↑.local:=by first|exact .inl rfl|exact .inr rfl|assumption):DG X (.Name x pos) (fG i):=
 ue (dB n hi a f) λv g H Q z=>by
  let(F,c,d,b,sm,e,r,f,q):=z;unfold fG at f;split at f
  .cases f;exact q _ (j9 e r)<|mS e ‹_›
  .cases f
def my(i j:Nat):Env->D->Δ Env:=λa d=>match d with
 |.tuple [x,y]=>if isFree a i=true/\isFree a j=true then↑((a.set i<|↑x).set j<|↑y)else none
 |_=>none
def Ur(i j:Nat){px p:Pos}{k:Nat}(hc:X.calm=true)(n:X.N.Nodup)(hi:X.N[i]?=↑x)(l:Loc X.env.scope x)(J:X.N[j]?=↑y)(Y:Loc X.env.scope y)
  (f:X.fn x=true\/X.env.scope.names.lookup x=↑.local:=by first|exact .inl rfl|exact .inr rfl|assumption)(F:X.fn y=true\/X.env.scope.names.lookup y=↑.local:=by first|exact .inl rfl|exact .inr rfl|assumption) :
  DG X (.Tuple [.Name x px,.Name y p] k pos) (my i j):=
 ue (uS hc<|dq (dB n hi l f)<|dq (dB n J Y F) pd) λv C H Q z=>by
  let(t,w,d,o,sm,e,r,f,q):=z;unfold my at f;split at f
  .split at f
   .rename_i b;cases f;let(a,S,rfl,s,R):=r;let(V,r1,rfl,A,B):=R.cons_inv;let(m,u,rfl,c,g):=B.cons_inv;rw[g.nil_inv]at s;exact{a,_,rfl,aG sm s,rfl,V,_,rfl,m,_,rfl,rfl,q _ (j9 (j9 e A) c)<|mS (mS e b.1) b.2}
   .cases f
  .cases f
def fJ(tgt:Env->D->Δ Env)(tt:Env->Δ θ)(te:Env->Δ D)(ρ:Env):Γ D->Δ (Γ D)
 |[]=>↑[]
 |d::s=>(tgt ρ d).bind λa=>(tt a).bind λb=>if b=true then(te a).bind λx=>(fJ tgt tt te ρ s).map (x::·)else fJ tgt tt te ρ s
def WX(X:Cx)(ifs:Γ γ)(f:Env->Δ θ):Prop:=Vq X ifs<|Jy X.K f
def O9:WX X [] (λ_=>↑true):=λp s a H Q I z=>by let(F,c,b,sm,e,f,q):=z;exact N5 p s a H Q I (by cases f;exact q H F<|.refl sm)
def Pz(h:DT X c t):WX X [c] t:=M5 h
def lU(t:Nat)(cs:Γ Nat)(σ:L2.St):L2.St:=List.replicate t none++cs.map λj=>(σ[j]?).getD none
def iC(t:Nat)(cs:Γ Nat)(ρ:Env):Env:=List.replicate t none++cs.map λj=>(ρ[j]?).getD none
def FI{K:Φ}{cs:Γ Nat}(E:cK K HF ρ σ):cK K HF (iC t cs ρ) (lU t cs σ):=by
 refine{λi d h=>?_,by simp[iC,lU],E.tb};unfold iC at h;unfold lU;by_cases H:i<t
 .rw[yR<|by simpa using H,yW,yK H]at h;cases h
 .rw[yS<|by simpa using H,zO,xK]at h;rw[yS<|by simpa using H,zO,xK];let(j,J,h):=af h;rw[J];cases e:ρ[j]? with
  |none=>rw[e]at h;cases h
  |some o =>
   rw[e]at h;subst (h);let(v,a,b):=E.get j d e;exact{v,by show some ((σ[j]?).getD none)=_;rw[a];rfl,b}
def aD(t:Nat)(cs:Γ Nat)(fi:Env->Δ (Γ D))(tgt:Env->D->Δ Env)(tt:Env->Δ θ)(te:Env->Δ D):Env->Δ (Γ D):=λa=>(fi a).bind λd=>(fJ tgt tt te (iC t cs a) d).bind small
variable {elt iter:γ}{ifs:Γ γ}{scope:ζ}{N:Γ Str}{t:Nat}{cs:Γ Nat}{fi:Env->Δ (Γ D)}{tgt:Env->D->Δ Env}{tt:Env->Δ θ}{te:Env->Δ D}
def LR:∀σ H Q,tF X.K (aD t cs fi tgt tt te) σ H Q->MD (tDI X.K fi) (Yv X.K tgt) (Jy X.K tt) (tD X.K te) (lU t cs) σ H Q:=λσ H Q z=>by
 let(HF,ρ,O,sm,eo,B,q):=z;let(s,hx,B):=bs B;let(amZ,ho,B):=bs B;let(rfl,hz):=eJ B;refine{HF,ρ,s,sm,eo,hx,λJ H1 j w it Dn T=>?_};refine⟨λi m L f=>m+i=s.length/\∃F S Y r,bo j H1 F f/\F Dn=none/\f Dn=↑(.lst Y)/\aw X.K F S Y/\cK X.K F (iC t cs ρ) L/\fJ tgt tt te (iC t cs ρ) (s.drop i)=↑r/\S++r=O,
  {s.length,rfl,j,[],[],O,.own w.fh T,(w.fh.free T:j Dn=none),av,aw.nil,(FI (t:=t) (cs:=cs)<|eo.mono w.ff),ho,rfl},?_⟩
 rintro i m L f ⟨hm,F,S,Y,r,G,u,D,U,W,hc,A⟩;by_cases hi:i<s.length
 .refine .inr ?_;have hd:s.drop i=s[i]::s.drop (i+1):=kW hi;have he:s[i]?=↑_:=List.getElem?_eq_some_iff.mpr {hi,rfl};generalize s[i]=d at hd he;rw[hd]at hc;let(k,h1,hc):=bs hc;let(b,h2,hc):=bs hc;let(go,yld):=it.go i d f F he G.ff G.fh;refine{go,λx H2 y=>?_};let(l,c,rx):=yld x H2 y;refine{l,_,d,k,c.fh,W.mono c.ff,rx,h1,λσ2 E I=>({l,k,b,c.fh,E,h2,λH3 n g=>?_})};have C:∀a V,bo F f a V->a Dn=none:=λa V M=>by
   cases e4:a Dn with
   |none=>rfl
   |some o =>
    rcases M.nw Dn o e4 with z|z
    .rw[u]at z;cases z
    .rw[D]at z;cases z
  cases b with
  |false =>
   exact lK {m-1,by lia,by lia,n,S,Y,r,(G.trans c).trans g,C _ _<|c.trans g,(c.trans g).hh _ _ D,U.mono (c.trans g).ff,I.mono g.ff,by exact hc,A}
  |true =>
   let(z,h3,hc):=bs hc;let(p,h4,rfl):=af hc;refine nT {n,k,z,g.fh,E.mono g.ff,h3,λv V a M rv=>?_};have R:=(c.trans g).trans M;have n4:=C _ _ R;have N:Y.length<sizeLine:=by
    have e1:=U.length;have e2:O.length=S.length+(p.length+1):=by rw[<-A];simp
    lia
   refine{Y,(R.hh _ _ D),N,m-1,by lia,by lia,a,S++[z],Y++[v],p,?_,n4,av,(U.mono R.ff).append<|aw.cons rv .nil,I.mono<|g.ff.trans M.ff,h4,by simp[<-A]};have P:=G.trans R;refine{λb o e=>?_,P.ff,λb o e=>?_,P.nw}
   .rw[ar<|aS e T];exact P.hh b o e
   .rw[ar<|aS e n4];exact P.fh b o e
 .have Z:i=s.length:=by lia
  subst Z;rw[List.drop_length]at hc;cases hc;rw[qD]at A;subst A;exact .inl {it.stop f F G.ff G.fh,q Dn Y f F (w.trans G) (w.hh.free T) u D U}
def P0(hc:X.calm=true)(S:j7 X scope N (lU t cs))(hi:DI X tg iter fi)
  (Y:∀fp s H,DG (bA X scope N fp s H) tg tgt/\WX (bA X scope N fp s H) ifs tt/\DE (bA X scope N fp s H) elt te)
  (a:∀x,foldedSetIterable iter X.env x=pure x:=by intro _;rfl):DF X (.ListComp elt [{tg,iter,ifs,0}] scope pos) (aD t cs fi tgt tt te):=aE (Oq (g:=Yv X.K tgt) (tt:=Jy X.K tt) (te:=tD X.K te) hc S hi Y a) LR
end
set_option genInjectivity true in
inductive Slot where
 |non|val (d:D)|own (ds:Γ D)|tab (ks:Γ (Γ Int))|obj (k:Nat)
abbrev aq:=Γ Slot
def Slot.all:Slot->Δ D|.non=>none|.val d=>↑d|.own s=>↑(.list s)|.tab _=>none|.obj _=>none
def Slot.frz:Slot->Δ D|.val d=>↑d|_=>none
def Slot.aam:Slot->Slot|.own d=>.val (.list d)|s=>s
def aI(ρ:aq):Env:=ρ.map Slot.all
def bx(ρ:aq):Env:=ρ.map Slot.frz
def hand(f:Γ Nat):Nat->aq->aq
 |_,[]=>[]
 |k,s::r=>(if f.contains k=true then s.aam else s)::hand f (k+1) r
def fg(f:Γ Nat):∀ρ k i,(hand f k ρ)[i]?=(ρ[i]?).map λs=>if f.contains (k+i)=true then s.aam else s
 |[],k,i=>by rfl
 |s::r,k,0=>by rfl
 |s::r,k,i+1=>by
  simp?[hand,yX];rw[fg f r _ i,Nat.add_assoc,Nat.add_comm 1 i]
def CG(f:Γ Nat):∀ρ k,(hand f k ρ).length=ρ.length
 |[],k=>rfl
 |s::r,k=>by simp[hand,CG f r _]
def IC(K:Φ)(HF:Hp)(xs:Γ (Γ AR×Ψ×Θ)):Prop:=∀x∈xs,∃n:Γ Int,x.1=n.map Sum.inl/\iF K HF x.2.1 (n.map V.int)
def IC.mono{K:Φ}{xs:Γ _}(h:IC K HF xs)(s:aA HF HF'):IC K HF' xs:=λx H=>let ⟨n,a,b⟩:=h x H;{n,a,aG s b}
structure Hq where
 h:Hp
 ad:Nat->Ψ
instance:CoeFun Hq λ_=>Ψ->Δ HO:={Hq.h}
instance:Coe Hq Hp:={Hq.h}
structure gJ(K:W.Frag)(aaa:Hp)(aab:Hq)(HF H:Hp)(ρ:aq)(σ:L2.St):Prop where
 gr:bo aaa aab HF H
 val:∀(i:Nat)(d:D),ρ[i]?=↑(.val d)->∃v,σ[i]?=↑(↑v)/\Rep K HF d v
 own:∀(i:Nat)(ds:Γ D),ρ[i]?=↑(.own ds)->∃a vs,σ[i]?=↑(↑(.ref a))/\H a=↑(.lst vs)/\HF a=none/\aab a=none/\aw K HF ds vs
 inj:∀(i j:Nat)(ds es:Γ D)(a:Ψ),ρ[i]?=↑(.own ds)->ρ[j]?=↑(.own es)->σ[i]?=↑(↑(.ref a))->σ[j]?=↑(↑(.ref a))->i=j
 len:ρ.length<=σ.length
 tb:bN K HF
 tab:∀(i:Nat)(ks:Γ (Γ Int)),ρ[i]?=↑(.tab ks)->∃a kvs,σ[i]?=↑(↑(.ref a))/\H a=↑(.dT kvs)/\HF a=none/\aab a=none/\kvs.map (·.1)=ks.map (·.map Sum.inl)/\IC K HF kvs
 one:∀(i j:Nat)(ks ls:Γ (Γ Int)),ρ[i]?=↑(.tab ks)->ρ[j]?=↑(.tab ls)->i=j
 ob:∀(i k:Nat),ρ[i]?=↑(.obj k)->σ[i]?=↑(↑(.ref<|aab.ad k))
section
variable {K:Φ}
def gJ.all(S:gJ K aaa aab HF H ρ σ):cK K H (aI ρ) σ:=by
 refine{λi d h=>?_,by simpa [aI]using S.len,S.tb.mono S.gr.fh};rw[aI,zO]at h;let(s,c,h):=af h;cases s with
 |non=>cases h
 |val e=>cases h;let(v,a,b):=S.val i _ c;exact{v,a,b.mono S.gr.fh}
 |own D =>
  cases h;let(a,V,E,f,j,_,g):=S.own i D c;exact{.ref a,E,by exact{a,V,rfl,.of f,g.mono S.gr.fh}}
 |tab k=>cases h
 |obj k=>cases h
def gJ.frz(S:gJ K aaa aab HF H ρ σ):cK K HF (bx ρ) σ:=by
 refine{λi d h=>?_,by simpa [bx]using S.len,S.tb};unfold bx at h;rw[zO]at h;let(s,a,h):=af h;cases s with
 |non=>cases h
 |val e=>cases h;exact S.val i _ a
 |own D=>cases h
 |tab k=>cases h
 |obj k=>cases h
def bo.aaH(g:bo HF H HF' H')(b:HF a=none)(E:H a=↑u):HF' a=none:=by
 cases e:HF' a with
 |none=>rfl
 |some o =>
  rcases g.nw a o e with z|z<;>grind
def gJ.grow(S:gJ K aaa aab HF H ρ σ)(g:bo HF H HF' H'):gJ K aaa aab HF' H' ρ σ where
 gr:=S.gr.trans g
 val:=λi d h=>let ⟨v,a,b⟩:=S.val i d h;{v,a,b.mono g.ff}
 own:=λi s h=>by
  let(a,V,c,e,f,j,E):=S.own i s h;exact{a,V,c,g.hh _ _ e,g.aaH f e,j,E.mono g.ff}
 inj:=S.inj
 len:=S.len
 tb:=S.tb.mono g.ff
 tab:=λi l h=>by
  let(a,k,c,e,f,j,E):=S.tab i l h;exact{a,k,c,g.hh _ _ e,g.aaH f e,j,E.1,E.2.mono g.ff}
 one:=S.one
 ob:=S.ob
def gJ.step(S:gJ K aaa aab HF H ρ σ)(g:aA H H'):gJ K aaa aab HF H' ρ σ:=S.grow {g,.refl _,S.gr.fh.trans g,λ_ _=>.inl}
def uk{ρ:aq}{f:Γ Nat}{i:Nat}{k:Γ _}(h:(Dl.hand f 0 ρ)[i]?=↑(Slot.tab k)):ρ[i]?=↑(Slot.tab k):=by
 rw[fg]at h;let(s,H,h):=af h;cases s<;>(split at h<;>cases h)<;>exact H
def K5{ρ:aq}{f:Γ Nat}{i k:Nat}(h:(Dl.hand f 0 ρ)[i]?=↑(Slot.obj k)):ρ[i]?=↑(Slot.obj k):=by
 rw[fg]at h;let(s,H,h):=af h;cases s<;>(split at h<;>cases h)<;>exact H
def gJ.hand(S:gJ K aaa aab HF H ρ σ)(F:Γ Nat):∃g,aA HF g/\gJ K aaa aab g H (hand F 0 ρ) σ:=by
 let P:Ψ->Prop:=λa=>∃i D,F.contains i=true/\ρ[i]?=↑(.own D)/\σ[i]?=↑(↑(.ref a));have G:=Classical.propDecidable;let g:Hp:=λa=>if P a then H a else HF a
 have y:∀a,P a->HF a=none/\aab a=none:=λa z=>by
  let(i,D,_,c,f):=z;let(A,V,E,n,r,t,p):=S.own i D c;rw[f]at E;cases E;exact⟨r,t⟩
 have q:aA HF g:=λb o e=>by
  show(if P b then H b else HF b)=↑o;by_cases h:P b
  .rw[(y b h).1]at e;cases e
  .rw[yM h];exact e
 have C:aA g H:=λb o e=>by
  have e:(if P b then H b else HF b)=↑o:=e;by_cases h:P b
  .rw[yK h]at e;exact e
  .rw[yM h]at e;exact S.gr.fh b o e
 refine{g,q,{S.gr.hh,S.gr.ff.trans q,C,λb o e=>?_},λi d h=>?_,λi D h=>?_,λi j D u a c f=>?_,by rw[CG];exact S.len,S.tb.mono q,λi l h=>?_,λi j l L c f=>S.one i j l L (uk c)<|uk f,λi k h=>S.ob i k<|K5 h}
 .have e:(if P b then H b else HF b)=↑o:=e;by_cases h:P b
  .exact .inr (y b h).2
  .rw[yM h]at e;exact S.gr.nw b o e
 .rw[fg]at h;let(s,m,h):=af h;rw[jA]at h;cases s with
  |non=>split at h<;>cases h
  |tab l=>split at h<;>cases h
  |obj l=>split at h<;>cases h
  |val e =>
   have:Slot.val e=Slot.val d:=by split at h<;>exact h
   cases this;let(v,a,b):=S.val i _ m;exact{v,a,b.mono q}
  |own D =>
   split at h
   .rename_i hc;cases h;let(a,V,E,n,r,t,p):=S.own i D m;refine{.ref a,E,?_};simp?[Rep];refine{a,V,rfl,.inl<|.inl ?_,p.mono q};show(if P a then H a else HF a)=_;rw[yK {i,D,hc,m,E}];exact n
   .cases h
 .rw[fg]at h;let(s,m,h):=af h;rw[jA]at h;cases s with
  |non=>split at h<;>cases h
  |tab l=>split at h<;>cases h
  |obj l=>split at h<;>cases h
  |val e=>split at h<;>cases h
  |own u =>
   split at h
   .cases h
   .rename_i hc;cases h;let(a,V,E,n,r,t,p):=S.own i D m;refine{a,V,E,n,?_,t,p.mono q};show(if P a then H a else HF a)=none;rw[yM ?_]
    .exact r
    .rintro⟨j,u,J,c,f⟩;have:=S.inj i j D u a m c E f;subst this;exact hc J
 .rw[fg]at c f;let(s,m,c):=af c;let(B,w,f):=af f;rw[jA]at c f;cases s with
  |non=>split at c<;>cases c
  |tab l=>split at c<;>cases c
  |obj l=>split at c<;>cases c
  |val e=>split at c<;>cases c
  |own X =>
   cases B with
   |non=>split at f<;>cases f
   |tab l=>split at f<;>cases f
   |obj l=>split at f<;>cases f
   |val e=>split at f<;>cases f
   |own Y=>exact S.inj i j _ _ a m w
 .let(a,x,E,n,r,t,p):=S.tab i l<|uk h;refine{a,x,E,n,?_,t,p.1,p.2.mono q};show(if P a then H a else HF a)=none;rw[yM ?_]
  .exact r
  .rintro⟨j,u,J,c,f⟩;let(A,V,f1,f2,_):=S.own j u c;rw[f]at f1;cases f1;rw[n]at f2;cases f2
def gJ.aaO(S:gJ K aaa aab HF H ρ σ)(r:Rep K HF d v):gJ K aaa aab HF H (ρ.set i<|.val d) (σ.set i<|↑v):=by
 have n:∀{j:Nat}{s:Slot},(ρ.set i<|.val d)[j]?=↑s->(∀e,s≠.val e)->i≠j/\ρ[j]?=↑s:=λ{j s}h N=>by
  rw[xH]at h;by_cases J:i=j
  .rw[yK J]at h;split at h
   .cases h;exact absurd rfl (N _)
   .cases h
  .rw[yM J]at h;exact⟨J,h⟩
 refine{S.gr,λj e h=>?_,λj D h=>?_,λj k D E a b c g l=>?_,by rw[yC,yC];exact S.len,S.tb,λj f h=>?_,λj k f m b c=>S.one j k f m (n b λe z=>by cases z).2 (n c λe z=>by cases z).2,λj k h=>by rw[xH,yM (n h λe z=>by cases z).1];exact S.ob j k (n h λe z=>by cases z).2}
 .rw[xH]at h ⊢;by_cases J:i=j
  .rw[yK J]at h ⊢;split at h
   .rename_i L;cases h;rw[yK<|zP L S.len];exact{v,rfl,r}
   .cases h
  .rw[yM J]at h ⊢;exact S.val j e h
 .let(J,h):=n h λe z=>by cases z
  rw[xH,yM J];exact S.own j D h
 .let(o,b):=n b λe z=>by cases z
  let(p,c):=n c λe z=>by cases z
  rw[xH,yM o]at g;rw[xH,yM p]at l;exact S.inj j k D E a b c g l
 .let(J,h):=n h λe z=>by cases z
  rw[xH,yM J];exact S.tab j f h
def gJ.aiJ(S:gJ K aaa aab HF H ρ σ)(q:aA H H')(l:H' a=↑(.lst vs))(m:HF a=none)(p:aab a=none)(r:aw K HF ds vs)
  (F:∀j es,i≠j->ρ[j]?=↑(.own es)->σ[j]?≠some (↑(.ref a))):gJ K aaa aab HF H' (ρ.set i<|.own ds) (σ.set i<|↑(.ref a)):=by
 have S:=S.step q;have o:∀{j k:Nat},(ρ.set i<|.own ds)[j]?=↑(.obj k)->i≠j/\ρ[j]?=↑_:=λ{j k}h=>by
  rw[xH]at h;by_cases J:i=j
  .rw[yK J]at h;split at h<;>cases h
  .rw[yM J]at h;exact⟨J,h⟩
 have n:∀{j:Nat}{s:Γ _},(ρ.set i<|.own ds)[j]?=↑(.tab s)->i≠j/\ρ[j]?=↑_:=λ{j s}h=>by
  rw[xH]at h;by_cases J:i=j
  .rw[yK J]at h;split at h<;>cases h
  .rw[yM J]at h;exact⟨J,h⟩
 refine{S.gr,λj e h=>?_,λj es h=>?_,λj k x y b f g E d=>?_,by rw[yC,yC];exact S.len,S.tb,λj s h=>by rw[xH,yM (n h).1];exact S.tab j s (n h).2,λj k s t l m=>S.one j k s t (n l).2 (n m).2,λj k h=>by rw[xH,yM (o h).1];exact S.ob j k (o h).2}
 .rw[xH]at h ⊢;by_cases J:i=j
  .rw[yK J]at h;split at h<;>cases h
  .rw[yM J]at h ⊢;exact S.val j e h
 .rw[xH]at h ⊢;by_cases J:i=j
  .rw[yK J]at h ⊢;split at h
   .rename_i L;cases h;rw[yK<|zP L S.len];exact{a,vs,rfl,l,m,p,r}
   .cases h
  .rw[yM J]at h ⊢;exact S.own j es h
 .rw[xH]at f g E d;by_cases J:i=j
  .by_cases c:i=k
   .exact J.symm.trans c
   .rw[yK J]at f E;rw[yM c]at g d;split at E
    .cases E;exact absurd d<|F k y c g
    .cases E
  .by_cases c:i=k
   .rw[yM J]at f E;rw[yK c]at g d;split at d
    .cases d;exact absurd E<|F j x J f
    .cases d
   .rw[yM J]at f E;rw[yM c]at g d;exact S.inj j k x y b f g E d
end
set_option genInjectivity true in
inductive Out where
 |nx (ρ:aq)|rt (d:D)
def F8(K:Φ)(aaa:Hp)(aab:Hq)(HF:Hp)(E:Ends):Out->Prop
 |.nx c=>∀b a H,gJ K aaa aab H a c b->aA HF H->E.nx b a
 |.rt d=>∀v a H,bo aaa aab H a->Rep K H d v->E.rt v a
def tS(K:Φ)(aaa:Hp)(aab:Hq)(g:aq->Δ Out):TS:=λE b H=>∃F a o,gJ K aaa aab F H a b/\g a=↑o/\F8 K aaa aab F E o
def DS(X:Cx)(aaa:Hp)(aab:Hq)(st:Ω)(g:aq->Δ Out):Prop:=PS X st<|tS X.K aaa aab g
def EI(X:Cx)(aaa:Hp)(aab:Hq)(st:Γ Ω)(g:aq->Δ Out):Prop:=su X st<|tS X.K aaa aab g
section
variable {X:Cx}{aaa:Hp}{aab:Hq}{st:Ω}{rest:Γ Ω}{g g1 g2:aq->Δ Out}{e:γ}{pos:Pos}
def bp(h:PS X st t)(i:∀E σ H,t' E σ H->t E σ H):PS X st t':=λp s σ H E I q=>h p s σ H E I<|i E σ H q
def kn(h:su X rest t)(i:∀E σ H,t' E σ H->t E σ H):su X rest t':=λp s σ H E I q=>h p s σ H E I<|i E σ H q
def fI:aq->Δ Out:=λa=>↑(.nx a)
def az(g1 g2:aq->Δ Out):aq->Δ Out:=λb=>(g1 b).bind fun|.nx a=>g2 a|.rt d=>↑(.rt d)
def F8.mono{K:Φ}(s:aA HF HF')(h:F8 K aaa aab HF E o):F8 K aaa aab HF' E o:=by
 cases o with
 |nx e=>exactλa b H S c=>h a b H S (s.trans c)
 |rt d=>exact h
def NG:EI X aaa aab [] fI:=kn j1 λE a H z=>by let(F,b,o,S,g,q):=z;cases g;exact q a H F S<|.refl _
def LO(c:DS X aaa aab st g1)(e:EI X aaa aab rest g2):EI X aaa aab (st::rest) (az g1 g2):=kn (cP c e) λE l H z=>by
 let(f,i,o,S,g,q):=z;let(o1,h,g):=bs g;refine{f,i,o1,S,h,?_};cases o1 with
 |nx a=>exactλj k F b s=>{F,a,o,b,g,q.mono s}
 |rt d=>cases g;exact q
def N7(H:DS X aaa aab st g1):EI X aaa aab [st] g1:=iJ H
def NU:DS X aaa aab (.Pass pos) fI:=bp Ny λE a H z=>by let(F,b,o,S,g,q):=z;cases g;exact q a H F S<|.refl _
def RU{x j pos pos'}:DS X aaa aab (.Expr (.Constant (.str x) j pos) pos') fI:=bp UA λE a H z=>by let(F,b,o,S,g,q):=z;cases g;exact q a H F S<|.refl _
def iH(t:Env->Δ θ)(g1 g2:aq->Δ Out):aq->Δ Out:=λa=>(t<|aI a).bind λb=>if b=true then g1 a else g2 a
def W3(hc:DT X c t)(A:EI X aaa aab a g1)(B:EI X aaa aab b g2):DS X aaa aab (.If c a b pos) (iH t g1 g2):=bp (rY hc A B) λE i H z=>by
 let(F,d,o,S,g,q):=z;let(b,h,g):=bs g;refine{H,aI d,b,.refl _,S.all,h,λe f G=>?_};cases b with
 |true=>exact nT {F,d,o,S.step G.hh,g,q}
 |false=>exact lK {F,d,o,S.step G.hh,g,q}
def BJ:∀ρ k n,k+ρ.length<=n->bx (hand (List.range n) k ρ)=aI ρ
 |[],k,n,h=>rfl
 |s::r,k,n,h=>by
  have i:=BJ r (k+1) n (by grind);unfold bx aI at i ⊢;rw[hand,yK (show(List.range n).contains k=true by grind),zI,zI,i];cases s<;>rfl
def bg(f:Env->Δ D):aq->Δ Out:=λa=>(f<|aI a).map Out.rt
def Ul(h:DE X e f):DS X aaa aab (.Return (↑e) pos) (bg f):=bp (lJ h) λE k H z=>by
 let(i,b,o,S,g,q):=z;let(d,h,rfl):=af g;let(a,j,s):=S.hand _;refine{a,aI b,d,s.gr.fh,?_,h,λv c F G=>q v c F<|s.gr.trans G};have:=s.frz;rw[BJ b 0 b.length<|by lia]at this;lia
def ki:D->θ|.none=>true|.bool _=>true|.int _=>true|.str _=>true|_=>false
def tZ{K:Φ}(h:ki d=true)(r:Rep K HF d v):Rep K HF' d v:=by
 cases d<;>cases h<;>(simp[Rep]at r ⊢;lia)
mutual
def fH:D->θ
 |.tuple d=>qb d
 |.list _=>false
 |.dict _=>false
 |_=>true
def qb:Γ D->θ
 |[]=>true
 |d::s=>fH d&&qb s
end
mutual
theorem AY{K:Φ}{H b:Hp}(ht:∀a xs,iF K H a xs->iF K b a xs):∀{d:D}{v:V},fH d=true->Rep K H d v->Rep K b d v
 |.none,_,_,r=>by simp?[Rep]at r ⊢;exact r
 |.bool _,_,_,r=>by simp?[Rep]at r ⊢;exact r
 |.int _,_,_,r=>by simp?[Rep]at r ⊢;exact r
 |.str _,_,_,r=>by simp?[Rep]at r ⊢;exact r
 |.tuple S,v,h,r=>by
  simp?[fH]at h;simp?[Rep]at r ⊢;let(a,s,e,q,R):=r;exact{a,s,e,ht _ _ q,xy ht h R}
 |.list _,_,h,_=>by simp[fH]at h
 |.dict _,_,h,_=>by simp[fH]at h
theorem xy{K:Φ}{H c:Hp}(ht:∀a xs,iF K H a xs->iF K c a xs):∀{ds:Γ D}{vs:Γ V},qb ds=true->aw K H ds vs->aw K c ds vs
 |[],_,_,r=>by simp?[aw]at r ⊢;exact r
 |d::ds,vs,h,r=>by
  simp?[qb,zF]at h;simp?[aw]at r ⊢;let(v,R,e,a,b):=r;exact{v,R,e,AY ht h.1 a,xy ht h.2 b}
end
def gJ.back{K:Φ}(S:gJ K aaa aab HF H ρ σ)(F:gJ K aaa aab I H U σ)(P:aA HF I)(G:bo I H HF' H'):∃c,aA HF c/\gJ K aaa aab c H' ρ σ/\(∀d v,fH d=true->Rep K HF' d v->Rep K c d v)/\∀b o,c b=↑o->HF' b=↑o:=by
 have Q:=Classical.propDecidable;let O:Ψ->Prop:=λa=>(∃ (i:Nat) (j:Γ D),ρ[i]?=↑(Slot.own j)/\σ[i]?=↑(↑(V.ref a)))\/∃ (i:Nat) (l:Γ (Γ Int)),ρ[i]?=↑(Slot.tab l)/\σ[i]?=↑(↑(V.ref a));let c:Hp:=λa=>if O a then none else HF' a
 have C:∀a,O a->HF a=none/\((∃s,H a=↑(.lst s))\/∃k,H a=↑(.dT k)):=λa z=>by
  rcases z with ⟨i,j,u,g⟩|⟨i,l,u,g⟩
  .let(J,s,E,f,m,_,_):=S.own i j u;rw[g]at E;cases E;exact{m,.inl ⟨s,f⟩}
  .let(J,k,E,f,m,_,_):=S.tab i l u;rw[g]at E;cases E;exact{m,.inr ⟨k,f⟩}
 have g:∀a,¬O a->c a=HF' a:=λa n=>yM n;have w:∀a,O a->c a=none:=λa n=>yK n;have A:aA HF c:=λb o e=>by
  have M:¬O b:=λz=>by rw[(C b z).1]at e;cases e
  rw[g b M];exact G.ff b o<|P b o e
 have B:∀b o,c b=↑o->HF' b=↑o:=λb o e=>by
  by_cases z:O b
  .rw[w b z]at e;cases e
  .rwa [g b z]at e
 have y:=F.gr.trans G;refine{c,A,{{y.hh,S.gr.ff.trans A,λb o e=>G.fh b o<|B b o e,λb o e=>y.nw b o<|B b o e},λi d h=>?_,λi j h=>?_,S.inj,S.len,S.tb.mono A,λi l h=>?_,S.one,S.ob},λd v L=>AY (λa X q=>?_) L,B}
 .let(v,E,r):=S.val i d h;exact{v,E,r.mono A}
 .let(a,s,E,f,m,t,p):=S.own i j h;exact{a,s,E,G.hh _ _ f,w a<|.inl ⟨i,j,h,E⟩,t,p.mono A}
 .let(a,k,E,f,m,t,p):=S.tab i l h;exact{a,k,E,G.hh _ _ f,w a<|.inr ⟨i,l,h,E⟩,t,p.1,p.2.mono A}
 .have N:∀o,HF' a=↑o->(∀s,o≠.lst s)->(∀k,o≠.dT k)->c a=↑o:=λo e x vm=>by
   by_cases z:O a
   .rcases (C a z).2 with ⟨s,f⟩|⟨s,f⟩
    .have:=G.hh _ _ f;rw[G.fh a o e]at this;cases this;exact absurd rfl (x s)
    .have:=G.hh _ _ f;rw[G.fh a o e]at this;cases this;exact absurd rfl (vm s)
   .rw[g a z];exact e
  rcases q with (q|⟨o,q⟩)|q
  .exact .inl<|.inl<|N _ q (λs z=>by cases z) λs z=>by cases z
  .exact .inl<|.inr {o,N _ q (λs z=>by cases z) λs z=>by cases z}
  .exact .inr q
def aR(i:Nat)(z:Γ Nat)(f:Env->Δ D):aq->Δ Out:=λa=>(f<|aI a).bind λd=>if ki d=true then↑(.nx<|a.set i<|.val d)else(f<|bx<|hand z 0 a).map λb=>.nx<|(if fH b=true then a else hand z 0 a).set i<|.val b
def VA:∀E σ H,tS X.K aaa aab (aR i I f) E σ H->Di (tD X.K f) (tL i) E σ H:=λE σ H z=>by
 let(j,t,o,S,g,q):=z;let(d,h,g):=bs g;split at g
 .rename_i m;cases g;exact{H,aI t,d,.refl _,S.all,h,λv a F G r=>q _ a j ((S.step G.hh).aaO<|tZ m r)<|.refl _}
 .let(D,l,rfl):=af g;let(b,e,s):=S.hand I;refine{b,_,D,s.gr.fh,s.frz,l,λv a F G r=>?_};by_cases n:fH D=true
  .rw[yK n]at q;let(c,p,k,B,_):=S.back s e G;exact q _ a c (k.aaO<|B D v n r) p
  .rw[yM n]at q;exact q _ a F ((s.grow G).aaO r)<|e.trans G.ff
def Sj(i:Nat)(z:Γ Nat)(H:X.N.Nodup)(hi:X.N[i]?=↑x)(a:Loc X.env.scope x)(E:DE X e f)(s:swapsWith e (↑(.Name x pos')) pos.line X.env=pure false:=by rfl)
  (F:X.fn x=true\/X.env.scope.names.lookup x=↑.local:=by first|exact .inl rfl|exact .inr rfl|assumption):DS X aaa aab (.Assign [.Name x pos'] e pos) (aR i z f):=bp (lb H hi a E s F) VA
def bH(i:Nat)(z:Γ Nat)(f:Env->Δ (Γ D)):aq->Δ Out:=λa=>(f<|bx<|hand z 0 a).map λd=>.nx<|(hand z 0 a).set i<|.own d
def Ml:∀E σ H,tS X.K aaa aab (bH i I f) E σ H->Di (tF X.K f) (tL i) E σ H:=λE σ H z=>by
 let(n,w,o,S,l,q):=z;let(D,h,rfl):=af l;let(c,m,s):=S.hand I;refine{c,_,D,s.gr.fh,s.frz,h,λa v d F G A k g r=>q _ d F ((s.grow G).aiJ (.refl _) g k (s.gr.hh.free A) r λj e _ J z=>?_)<|m.trans G.ff};let(b,u,p,t,_):=s.own j e J
 grind
def AG(i:Nat)(z:Γ Nat)(H:X.N.Nodup)(hi:X.N[i]?=↑x)(a:Loc X.env.scope x)(E:DF X e f)(s:swapsWith e (↑(.Name x pos')) pos.line X.env=pure false:=by rfl)
  (F:X.fn x=true\/X.env.scope.names.lookup x=↑.local:=by first|exact .inl rfl|exact .inr rfl|assumption):DS X aaa aab (.Assign [.Name x pos'] e pos) (bH i z f):=bp (lb H hi a E s F) Ml
def M3(i:Nat)(f:Γ Nat){cs:Γ Nat}
  (hc:X.calm=true)(S:j7 X scope N (lU t cs))(hi:DI X tg iter fi)
  (b:∀fp s H,DG (bA X scope N fp s H) tg tgt/\WX (bA X scope N fp s H) ifs tt/\DE (bA X scope N fp s H) elt te)
  (n:X.N.Nodup)(Y:X.N[i]?=↑y)(d:X.env.scope.names.lookup y=↑.local)
  (w:swapsWith (.ListComp elt [{tg,iter,ifs,0}] scope pos) (↑(.Name y py)) I.line X.env=pure true)
  (c:∀x,foldedSetIterable iter X.env x=pure x:=by intro _;rfl):DS X aaa aab (.Assign [.Name y py] (.ListComp elt [{tg,iter,ifs,0}] scope pos) I) (bH i f<|aD t cs fi tgt tt te):=
 bp (NC (g:=Yv X.K tgt) (tt:=Jy X.K tt) (te:=tD X.K te) hc S hi b n Y d w c) λE a H q=>by
  have:=Ml E a H q;exact LR a H _ this
def tSG(K:Φ)(aaa:Hp)(aab:Hq)(f:aq->D->Δ aq):TG:=λv e H Q=>∃F c d a,gJ K aaa aab F H c e/\Rep K F d v/\f c d=↑a/\∀b,gJ K aaa aab F H a b->Q b H
def Vn(X:Cx)(aaa:Hp)(aab:Hq)(tg:γ)(f:aq->D->Δ aq):Prop:=PG X tg<|tSG X.K aaa aab f
def CY(i:Nat):aq->D->Δ aq:=λa d=>↑(a.set i<|.val d)
def Ja(i:Nat)(n:X.N.Nodup)(hi:X.N[i]?=↑x)(a:Loc X.env.scope x)(f:X.fn x=true\/X.env.scope.names.lookup x=↑.local:=by first|exact .inl rfl|exact .inr rfl|assumption):Vn X aaa aab (.Name x pos) (CY i):=
 ue (dB n hi a f) λv e H Q z=>by let(F,c,d,b,S,r,f,q):=z;cases f;exact q _<|S.aaO r
def g9(i j:Nat):aq->D->Δ aq:=λa d=>match d with
 |.tuple [x,y]=>↑((a.set i<|.val x).set j<|.val y)
 |_=>none
def Pr(i j:Nat){px p:Pos}{k:Nat}(hc:X.calm=true)(n:X.N.Nodup)(hi:X.N[i]?=↑x)(e:Loc X.env.scope x)(J:X.N[j]?=↑y)(Y:Loc X.env.scope y)
  (f:X.fn x=true\/X.env.scope.names.lookup x=↑.local:=by first|exact .inl rfl|exact .inr rfl|assumption)(F:X.fn y=true\/X.env.scope.names.lookup y=↑.local:=by first|exact .inl rfl|exact .inr rfl|assumption) :
  Vn X aaa aab (.Tuple [.Name x px,.Name y p] k pos) (g9 i j):=
 ue (uS hc<|dq (dB n hi e f)<|dq (dB n J Y F) pd) λv w H Q z=>by
  let(m,u,d,l,S,r,f,q):=z;unfold g9 at f;split at f
  .cases f;let(a,t,rfl,s,R):=r;let(V,r1,rfl,A,B):=R.cons_inv;let(g,o,rfl,b,c):=B.cons_inv;rw[c.nil_inv]at s;exact{a,_,rfl,aG S.gr.fh s,rfl,V,_,rfl,g,_,rfl,rfl,q _<|(S.aaO A).aaO b}
  .cases f
def gL(tgt:aq->D->Δ aq)(gb:aq->Δ Out):Γ D->aq->Δ Out
 |[],a=>↑(.nx a)
 |d::s,a=>(tgt a d).bind λb=>(gb b).bind fun|.nx c=>gL tgt gb s c|.rt v=>↑(.rt v)
def gX(f:Γ Nat)(fi:Env->Δ (Γ D))(tgt:aq->D->Δ aq)(gb:aq->Δ Out):aq->Δ Out:=λa=>(fi<|bx<|hand f 0 a).bind λd=>gL tgt gb d<|hand f 0 a
def SW(Z:Γ Nat)(hp:PassesOwn (model X.prog X.w) X.A X.env X.xe)(hc:X.calm=true)(hi:DI X tg iter fi)(l:Vn X aaa aab tg tgt)(hb:EI X aaa aab body gb)
  (hs:∀x,foldedSetIterable iter X.env x=pure x:=by intro _;rfl):DS X aaa aab (.For tg iter body [] pos) (gX Z fi tgt gb):=bp (KR hp hc hi l hb hs) λE σ H z=>by
 let(HF,ρ,o,S,l,q):=z;let(s,h,l):=bs l;let(u,s1,B):=S.hand Z;refine{u,_,s,B.gr.fh,B.frz,h,λJ H2 e G T=>({λi m g k=>m+i=s.length/\∃F b,gJ X.K aaa aab F k b g/\aA e F/\gL tgt gb (s.drop i) b=↑o,{s.length,rfl,e,_,B.grow G,.refl _,l},?_})};rintro i m g k ⟨hm,F,b,r,t,f⟩;by_cases hi:i<s.length
 .refine .inr ?_;have L:=kW hi;have M:=List.getElem?_eq_some_iff.mpr {hi,rfl};generalize s[i]=d at L M;rw[L]at f;let(n,V,f):=bs f;let(o1,W,f):=bs f;let(U,Y):=T.go i d k F M t r.gr.fh;refine{U,λj p=>∃a c,gJ X.K aaa aab a p c j/\aA e a/\gL tgt gb _ c=↑o,λj p z=>by let(a,c,P,Q,R):=z;exact {m-1,by lia,by lia,a,c,P,Q,R},λx p y=>?_};let(a,D,rx):=Y x p y;refine{a,b,d,n,r.grow D,rx,V,λj N=>{a,n,o1,N,W,?_}};cases o1 with
  |nx C=>exactλσ4 H4 v O s4=>{v,C,O,(t.trans D.ff).trans s4,f}
  |rt d=>cases f;exact q
 .have I:i=s.length:=by lia
  subst I;rw[List.drop_length]at f;cases f;exact .inl {T.stop k F t r.gr.fh,q g k F r<|(s1.trans G.ff).trans t}
end
def OM(X:Cx)(sc:ζ):Prop:=∀x k,sc.names.lookup x=↑k->X.env.kindOf x=↑k\/(k=.free/\X.env.kindOf x=↑.cell)
structure Bk(X:Cx)(N:List Str)(sc:Scope)(k:Nat):Prop where
 n:X.N=N
 nd:N.Nodup
 tb:OM X sc
 calm:X.calm=true
 fn:∀x,sc.names.lookup x=↑.cell->X.fn x=true
 room:cA k X.A
 xe:X.xe=λ_ _=>False
 kd:X.env.scope.kind=.function
def dk:Γ Str:=["len","isinstance","int","bool","tuple","list","range","all","any","set","sorted","enumerate","zip","sum","min","max","reversed","abs","dict","str","type","iter","next"]
def Bn(X:Cx):Prop:=∀x∈dk,X.mg x=none
def pN(sc:ζ)(x:Str):θ:=decide (sc.names.lookup x=↑.globalImplicit)
def nv(N:Γ Str)(sc:ζ)(i:Nat)(x:Str):θ:=decide (N[i]?=↑x)&&(decide (sc.names.lookup x=↑.local)||decide (sc.names.lookup x=↑.cell)||decide (sc.names.lookup x=↑.free))&&!(x==("__debug__":Str))&&!(x==("__classdict__":Str))
def lE(N:Γ Str)(sc:ζ)(i:Nat)(x:Str):θ:=decide (N[i]?=↑x)&&(decide (sc.names.lookup x=↑.local)||decide (sc.names.lookup x=↑.cell))
def Bk.gl(C:Bk X N sc k)(h:pN sc x=true):Gl X x:=by
 rcases C.tb x _ (yP h)with q|⟨q,_⟩
 .exact q
 .cases q
def Bk.vis(C:Bk X N sc k)(h:nv N sc i x=true):X.N[i]?=↑x/\pM X.env.scope x/\(x==("__debug__":Str))=false/\(x==("__classdict__":Str))=false:=by
 unfold nv at h;simp?[zF,qY,zJ,yO]at h;let(((a,H),b),c):=h;refine{by rw[C.n];exact a,?_,b,c};rcases H with (H|H)|H
 .rcases C.tb x _ H with q|⟨q,_⟩
  .exact .inl q
  .cases q
 .rcases C.tb x _ H with q|⟨q,_⟩
  .exact .inr<|.inl q
  .cases q
 .rcases C.tb x _ H with q|⟨_,q⟩
  .exact .inr<|.inr q
  .exact .inr<|.inl q
def Bk.loc(C:Bk X N sc k)(h:lE N sc i x=true):X.N.Nodup/\X.N[i]?=↑x/\Loc X.env.scope x/\(X.fn x=true\/X.env.scope.names.lookup x=↑.local):=by
 unfold lE at h;simp  at h;let(a,H):=h;refine{by rw[C.n];exact C.nd,by rw[C.n];lia,?_};rcases H with H|H
 .rcases C.tb x _ H with q|⟨q,_⟩
  .exact{.inl q,.inr q}
  .cases q
 .rcases C.tb x _ H with q|⟨q,_⟩
  .exact{.inr q,.inl<|C.fn x H}
  .cases q
def Bk.blt(C:Bk X N sc k)(B:Bn X)(h:pN sc x=true)(m:x∈dk)(H:bootBuiltins x=↑v):sx X x v:={C.gl h,B x m,H}
def Bk.v(C:Bk X N sc k)(i:Nat)(h:nv N sc i x=true):DE X (.Name x pos) (ae i):=let ⟨a,b,c,d⟩:=C.vis h;U6 i a b c d
def Bk.pass(C:Bk X N sc k):PassesOwn (model X.prog X.w) X.A X.env X.xe:=by rw[C.xe];exact PassesOwn.never
def qx(sc scope:ζ)(N n:Γ Str)(t:Nat)(cs:Γ Nat):θ:=
 decide (scope.kind=.function)&&scope.names.all (λp=>(!decide (p.2=NameKind.free)||decide (sc.names.lookup p.1=↑.cell)||decide (sc.names.lookup p.1=↑.free))&&(!decide (p.2=NameKind.local)||decide (scope.names.lookup p.1=↑.local)))
  &&scope.names.all (λp=>!decide (p.2=NameKind.cell)||!scope.names.any λq=>decide (q.1=p.1)&&decide (q.2=NameKind.free))
  &&decide (n.length=t+cs.length)&&decide (n.drop t=cs.filterMap λj=>N[j]?)&&cs.all (λj=>decide (j<N.length))&&(n.drop t).all (λx=>decide (scope.names.lookup x=↑.free))&&decide n.Nodup
def filterMap_get(N:Γ α):∀(cs:Γ Nat),(∀j∈cs,j<N.length)->∀(i:Nat),(cs.filterMap λj=>N[j]?)[i]?=(cs[i]?).bind λj=>N[j]?
 |[],_,i=>by rfl
 |c::cs,h,i=>by
  rw[jD,zK<|h c zE];cases i with
  |zero=>simp
  |succ i =>
   exact filterMap_get N cs (λj H=>h j<|zC _ H) i
def Bk.comp(C:Bk X N sc k){cs:Γ Nat}(h:qx sc scope N N' t cs=true):j7 X scope N' (lU t cs)/\∀fp s H,Bk (bA X scope N' fp s H) N' scope k:=by
 unfold qx at h;simp?[zF,zJ,xF,qY,yO,xA]at h;obtain⟨⟨⟨⟨⟨⟨⟨f,g⟩,p⟩,r⟩,u⟩,w⟩,y⟩,A⟩:=h;refine{{f,λx c hk=>?_,λ{x}a b=>?_,λx c hk=>?_,λl i x v m E=>?_,λl=>?_},λfp s H=>{rfl,A,λx k c=>qq c,C.calm,λx c=>yA c,C.room,rfl,f}}
 .rcases (g x c).1 with (q|q)|q
  .exact absurd hk q
  .rcases C.tb _ _ q with z|⟨z,_⟩
   .exact .inl z
   .cases z
  .rcases C.tb _ _ q with z|⟨_,z⟩
   .exact .inr z
   .exact .inl z
 .rcases p _ a with q|q
  .exact q rfl
  .have:(scope.names.any λq=>decide (q.1=x)&&decide (q.2=NameKind.free))=true:=List.any_eq_true.mpr {_,b,by simp};rw[this]at q;cases q
 .rcases (g x c).2 with q|q
  .exact absurd hk q
  .exact q
 .unfold lU at E;by_cases I:i<t
  .rw[yR<|by simpa using I,yW,yK I]at E;cases E
  .rw[yS<|by simpa using I,zO,xK]at E;let(j,J,E):=af E;have d:(N'.drop t)[i-t]?=↑x:=by rw[List.getElem?_drop];rw[show t+(i-t)=i by lia];exact m
   refine{y x<|qA d,j,?_,?_}
   .rw[u,filterMap_get N cs w,J]at d;rw[C.n];exact d
   .cases e:l[j]? with
    |none=>rw[e]at E;cases E
    |some o=>rw[e]at E;have E:o=↑v:=E;rw[E]
 .unfold lU;rw[zN,xK,zD,r]
def bK(g:aq->Δ Out)(n:Nat)(args:Γ D):Δ D:=(g<|args.map Slot.val++List.replicate (n-args.length) .non).map fun|.rt d=>d|.nx _=>.none
def zw{ds:Γ D}{n i:Nat}{k:Γ (Γ Int)}:¬(ds.map Slot.val++List.replicate n .non)[i]?=↑(.tab k):=λh=>by
 rcases List.mem_append.mp (qA h)with z|z
 .let(d,_,e):=List.mem_map.mp z;cases e
 .cases List.eq_of_mem_replicate z
def Ly{ds:Γ D}{n i:Nat}{k:Nat}:¬(ds.map Slot.val++List.replicate n .non)[i]?=↑(.obj k):=λh=>by
 rcases List.mem_append.mp (qA h)with z|z
 .let(d,_,e):=List.mem_map.mp z;cases e
 .cases List.eq_of_mem_replicate z
def VY{K:Φ}{st:Ω}(F:zv K x qual st f fd)(S:aZ N ps (ah st))
  (body:∀X ,X.prog=P->X.w=w->X.K=K->X.mg=mg->X.base=base->Bk X N (ah st) k->X.env.code=fd.code->X.env.qual=qual++".<locals>."->∀aaa aab,EI X aaa aab (aH st) g):dc P w K mg base rO (k+1) f fd ps (Vu K ps.length<|bK g N.length):=by
 let(oc,od,kV,u,pm,an,C,ct,Z,rfl,Y,r):=F.ex;refine n6 Y r S (λvs H Q E z=>by let(n,c,d,h1,_,J,L,_):=z;rw[J.length,L]) λA O s H vs Q E T z=>?_;let(n,c,d,sm,tb,R,hl,l,q):=z;refine{_,(body _ rfl rfl rfl rfl rfl {rfl,S.nd,λy kd=>.inl,rfl,λ_ _=>rfl,T,rfl,S.kind} rfl rfl n {H,λ_=>0}).nox,?_};let(o,M,l):=af l;refine{n,_,o,{.refl sm,λi e h=>?_,λi B h=>?_,λi j B fs a h=>?_,?_,tb,λi U h=>absurd h zw,λi j U ls h=>absurd h zw,λi k h=>absurd h Ly},M,?_}
 .have I:i<c.length:=by
   by_cases I:i<c.length
   .exact I
   .rw[yS<|by simpa using I,yW]at h;split at h<;>cases h
  rw[yR<|by grind,zO]at h;let(p,D,h):=af h;cases h;let(v,V,rv):=R.getD D;refine{v,?_,rv};rw[L2.start,yR<|by simpa [R.length]using I,zO,V];rfl
 .by_cases I:i<c.length
  .rw[yR<|by simpa using I,zO]at h;let(p,D,h):=af h;cases h
  .rw[yS<|by simpa using I,yW]at h;split at h<;>cases h
 .by_cases I:i<c.length
  .rw[yR<|by simpa using I,zO]at h;let(p,D,h):=af h;cases h
  .rw[yS<|by simpa using I,yW]at h;split at h<;>cases h
 .rw[L2.start,zN,zN,zD,zD,xK,xK,R.length];apply yL
 .cases o with
  |rt p=>cases l;exactλv m b G=>q v m b G
  |nx ρ'=>cases l;exactλσ' m b t _=>q _ m b t.gr (by rfl)
def fnD{K:Φ}{st:Ω}(F:zv K x qual st f fd)(S:aZ N ps (ah st))(b:Binds K fd ps [])(m:mg x=↑(.ref f))
  (body:∀X ,X.prog=P->X.w=w->X.K=K->X.mg=mg->X.base=base->Bk X N (ah st) k->X.env.code=fd.code->X.env.qual=qual++".<locals>."->∀aaa aab,EI X aaa aab (aH st) g):Ig P w K mg base (k+1) x ps.length (bK g N.length):={f,fd,ps,VY F S body,m,F.kp,b}
def uz(z:Γ Nat)(f:Env->Δ D)(ρ:aq):Δ (D×aq):=(f<|aI ρ).bind λd=>if ki d=true then↑(d,ρ)else(f<|bx<|hand z 0 ρ).map λa=>(a,hand z 0 ρ)
def yg{K:Φ}(S:gJ K aaa aab HF H ρ σ)(h:uz I f ρ=↑(d,ρ'))
  (q:∀v H' HF',aA HF HF'->gJ K aaa aab HF' H' ρ' σ->aA H H'->Rep K HF' d v->Q v H'):tD K f σ H Q:=by
 let(D,b,h):=bs h;split at h
 .rename_i e;cases h;exact{H,aI ρ,d,.refl _,S.all,b,λv H' HF' G r=>q v H' HF (.refl _) (S.step G.hh) G.hh<|tZ e r}
 .let(i,c,h):=af h;cases h;let(a,g,s):=S.hand I;exact{a,_,d,s.gr.fh,s.frz,c,λv H' HF' G=>q v H' HF' (g.trans G.ff) (s.grow G) G.hh}
def u5(i:Nat)(m:Γ D->Δ (Γ D))(ρ:aq):Δ Out:=match ρ[i]? with
 |some (.own d)=>(m d).map λe=>.nx (ρ.set i<|.own e)
 |_=>none
def qr(h:u5 i m ρ=↑o):∃ds es,ρ[i]?=↑(.own ds)/\m ds=↑es/\o=.nx (ρ.set i<|.own es):=by
 unfold u5 at h;split at h
 .rename_i ds d;let(es,H,a):=af h;exact{ds,es,d,H,a.symm}
 .cases h
def gJ.mut{K:Φ}(S:gJ K aaa aab HF H ρ σ)(h:ρ[i]?=↑(.own ds))(A:σ[i]?=↑(↑(.ref a)))(I:H a=↑(.lst vs))(r:aw K HF es us) :
  gJ K aaa aab HF (upd H a<|.lst us) (ρ.set i<|.own es) σ:=by
 let(C,V,E,p,l,m,F):=S.own i ds h;rw[A]at E;cases E;have N:∀{j k:Nat},(ρ.set i<|.own es)[j]?=↑(.obj k)->i≠j/\ρ[j]?=↑_:=λ{j k}h=>by
  rw[xH]at h;by_cases J:i=j
  .rw[yK J]at h;split at h<;>cases h
  .rw[yM J]at h;exact⟨J,h⟩
 have n:∀{j:Nat}{s:Γ _},(ρ.set i<|.own es)[j]?=↑(.tab s)->ρ[j]?=↑_:=λ{j s}h=>by
  rw[xH]at h;by_cases J:i=j
  .rw[yK J]at h;split at h<;>cases h
  .rw[yM J]at h;exact h
 refine{{λb o e=>by rw[ar<|aS e m];exact S.gr.hh b o e,S.gr.ff,λb o e=>by rw[ar<|aS e l];exact S.gr.fh b o e,S.gr.nw},λj d c=>?_,λj x c=>?_,λj k x Y b f1 f2 f3 f4=>?_,by rw[yC];exact S.len,S.tb,λj s c=>?_,λj k s L v w=>S.one j k s L (n v)<|n w,λj k h=>S.ob j k (N h).2}
 .rw[xH]at c;by_cases J:i=j
  .rw[yK J]at c;split at c<;>cases c
  .rw[yM J]at c;exact S.val j d c
 .rw[xH]at c;by_cases J:i=j
  .subst J;rw[yK rfl,yK<|(List.getElem?_eq_some_iff.mp h).1]at c;cases c;exact{a,us,A,av,l,m,r}
  .rw[yM J]at c;let(b,B,f1,f2,f3,f5,f4):=S.own j x c;refine{b,B,f1,?_,f3,f5,f4};rw[ar]
   .lia
   .rintro rfl;exact J<|S.inj i j ds x b h c A f1
 .have O:∀{j:Nat}{x:Γ D},(ρ.set i<|.own es)[j]?=↑_->∃Y,ρ[j]?=↑(.own Y):=λ{j x}c=>by
   rw[xH]at c;by_cases J:i=j
   .subst J;exact⟨ds,h⟩
   .rw[yM J]at c;exact⟨x,c⟩
  let(X,G):=O f1;let(y,g):=O f2;exact S.inj j k X y b G g f3 f4
 .let(b,f,G,g,q,u,t):=S.tab j s<|n c;refine{b,f,G,?_,q,u,t};rw[ar λz=>by rw[z,p]at g;cases g];exact g
def nA(i:Nat)(z:Γ Nat)(f:Env->Δ D):aq->Δ Out:=λa=>(uz z f a).bind λp=>u5 i (λd=>if d.length<sizeLine then↑(d++[p.1])else none) p.2
def Hv(i:Nat)(Z:Γ Nat)(y:X.N[i]?=↑x)(C:pM X.env.scope x)(h:DE X e f)(B:(x==("__debug__":Str))=false:=by decide)(p:(x==("__classdict__":Str))=false:=by decide)
  (k:((backTo cpos<|starEach [e] X.env).all (λx=>!x.1)&&(backToKw cpos<|keywordEach [] X.env).all (λx=>x.1.isSome)&&decide ([e].length+([]:Γ Keyword).length+(if([]:Γ Keyword).isEmpty then 0 else 1)<30))=true:=by rfl)
  (l:(apos.endLine==cpos.line)=true:=by rfl)(g:starEach [e] X.env=(false,eval e X.env)::starEach [] X.env:=by rfl) :
  DS X aaa aab (.Expr (.Call (.Attribute (.Name x px) "append" apos) [e] [] cpos) pos) (nA i Z f):=
 bp (hU<|pq qK PySem.F.slot_list_append PySem.F.type_list_append mG (aY y C B p) (aL h bJ g) rfl k l g rfl) λE P H z=>by
  let(R,M,o,S,G,q):=z;let((d,O),c,G):=bs G;let(u,es,b,n,rfl):=qr G;have A:∃D,M[i]?=↑(.own D):=by
   let(U,_,c):=bs c;split at c
   .cases c;exact{u,b}
   .let(W,_,c):=af c;cases c;rw[fg]at b;let(s,g,b):=af b;cases s with
    |non=>split at b<;>cases b
    |tab _=>split at b<;>cases b
    |obj _=>split at b<;>cases b
    |val _=>split at b<;>cases b
    |own L=>exact{L,g}
  let(D,A):=A;let(a,K,m,w,Y,e5,e4):=S.own i D A;refine{.ref a,m,.inl {rfl,K,iL.of w},yg S c λv Q j J t sh r=>?_};let(T,V,f1,f2,f3,f5,f4):=t.own i u b;rw[m]at f1;cases f1;split at n
  .rename_i I;cases n;exact{a,V,v,rfl,rfl,f2,by rw[f4.length];exact I,q P _ j (t.mut b m f2<|f4.append<|aw.cons r aw.nil) J}
  .cases n
def zc(K:Φ)(o:Obj):Δ (Ψ×Str):=match o.data with
 |.func f=>if lO.contains f.qualname=true then(match f.code with
   |.ref c=>(match K.lookup c with
    |some ⟨_,_,.fields v,_⟩=>(match(v[11]?:Δ Θ)with
     |some (.ref P)=>if W.codeHdIn K c P=true then↑(P,f.qualname++".<locals>."++"<lambda>")else none
     |_=>none)
    |_=>none)
   |_=>none)else none
 |_=>none
def iZ(K:Φ):Γ (Ψ×Str):=K.filterMap λp=>zc K p.2
def pC(K:Φ)(ts:Γ Ψ):θ:=(iZ K).all λp=>ts.contains p.1&&(K.lookup p.1).isNone&&decide ((iZ K).lookup p.1=↑p.2)
def BE{K:Φ}(h:zc K o=↑(P,q)):∃c,W.codeHdIn K c P=true:=by
 unfold zc at h;split at h
 .split at h
  .split at h
   .split at h
    .split at h
     .split at h
      .cases h;exact{_,‹_›}
      .cases h
     .cases h
    .cases h
   .cases h
  .cases h
 .cases h
def Bj{K:Φ}(h:(P,q)∈iZ K):∃c,W.codeHdIn K c P=true:=by
 let(p,_,e):=List.mem_filterMap.mp h;exact BE e
def Em{K:Φ}(a:K.lookup f=↑{oc,od,.func fd,sl})(b:fd.qualname∈lO)(d:fd.code=.ref c)(e:W.codeHdIn K c P=true) :
  (P,fd.qualname++".<locals>."++"<lambda>")∈iZ K:=by
 refine List.mem_filterMap.mpr {(f,_),W.mem_of_lookupK a,?_};have E:=e;unfold W.codeHdIn at E;unfold zc;simp?[d,List.contains_iff_mem,b,xG];split at E
 .rename_i V s l;simp?[l];simp?[zF]at E;have g:=E.1.1.1.1.1;split at g
  .rename_i p v;have:p=P:=by simpa using g
   subst this;simp?[v,e,xG]
  .cases g
 .cases E
def IH:∀{l:Γ (Ψ×α)},l.lookup b=↑q->(b,q)∈l
 |[],e=>by cases e
 | (c,x)::r,e=>by
  rw[yB]at e;cases h:b==c with
  |true=>rw[h]at e;cases e;rw[eq_of_beq h];exact zE
  |false=>rw[h]at e;exact zC _<|IH e
def lD(K:Φ)(H:Hp):Hp:=λb=>match(iZ K).lookup b with|some q=>↑(.tab q)|none=>H b
def GB{K:Φ}(h:pC K ts=true):bN K (lD K h0):=λf o O F s c P a b d e=>by
 have:=List.all_eq_true.mp h _<|Em a b d e;simp?[zF,zJ]at this;unfold lD;rw[this.2]
def Gy{w:δ}{K:Φ}{CX:M8}{k:Nat}{fa:Ψ}{fd:η}{sp:Sp}{vs:Γ Θ}{ns:Γ Int}
  (X:K.In I.heap)(S:I.heap.Ns mainGlobals mg)(B:I.heap.Ns builtinsNs mb)(U:∀x:Str,x≠"__name__"->mb x=bootBuiltins x)(L:I.heap.NoLimit)(Y:Yj mg I.heap)(hg:I.gens=#[])
  (ht:pC K ts=true)(hts:∀P∈ts,I.heap.get? P=↑(W.tabObj #[]))
  (A:I.heap.get? a=some {cls:=.type "list",data:=.seq vs.toArray})(hi:IntsAre vs ns)(hl:ns.length<=sizeLine)(hr:cA k callerA)
  (F:∀base:ι,K.In base->base.Ns mainGlobals mg->dc P w K mg base CX k fa fd [x] sp)(J:∀(s:Ξ)(u:Θ),BindsTo s fd {[u],[]} [(x,u)])
  (Z:∀H:Hp,bN K H->iL K H a (ns.map V.int)->sp [.ref a] H (λv _=>v=.bl true) λ_ _ _=>False)
  (R:∀H e s',CX [] H I (λ_ _ _=>False) e s'->False) :
  codeAny (model P w) callerA (.call (.ref fa) {[.ref a],[]}) (λr s'=>r=.ok (.ret<|.bool true)/\OldK I.heap s'.heap/\s'.os=I.os/\AllBare s'.gens) I:=by
 have rv:=wk hi;have O:=hi.length;have T:∀b q,(iZ K).lookup b=↑q->I.heap.get? b=↑(W.tabObj #[])/\K.lookup b=none/\∃c,W.CodeHd I.heap c b:=λb q e=>by
  have hm:=IH e;have:=List.all_eq_true.mp ht _ hm;simp?[zF,zJ,List.contains_iff_mem,Option.isNone_iff_eq_none]at this;let(c,hc):=Bj hm;exact{hts b this.1.1,this.1.2,c,W.codeHd_of_K X hc}
 have aT:(iZ K).lookup a=none:=by
  cases e:(iZ K).lookup a with
  |none=>rfl
  |some q=>have:=(T a q e).1;rw[A]at this;cases this
 have C:∀f:Hp,iL K (lD K f) a (ns.map V.int)->o5 P w (lD K f) I.heap->(∀b,f b≠none->b=a)->(f a≠none->K.lookup a=none)->(∀b,f b=none\/∃o xs,f b=↑(.frz o<|.lst xs)) ->
   codeAny (model P w) callerA (.call (.ref fa) {[.ref a],[]}) (λr s'=>r=.ok (.ret<|.bool true)/\OldK I.heap s'.heap/\s'.os=I.os/\AllBare s'.gens) I:=by
  intro f hS j hA hK hO;have l:∀b u,lD K f b=↑u->(∃q,(iZ K).lookup b=↑q/\u=.tab q)\/(b=a/\f b=↑u):=λb u e=>by
   unfold lD at e;split at e
   .rename_i q p;cases e;exact .inl {q,p,rfl}
   .exact .inr {hA b (by rw[e];simp),e}
  have pk:∀{b:Ψ}{o:Obj},I.heap.get? b=↑o->lD K f b=none->(Ho I.heap _).get? b=↑o:=λe=>KB e;have D:∀{b:Ψ}{o:Obj},I.heap.get? b=↑o->(∀vs n,o.data≠.seq vs n)->(∀vs,o.data≠.fields vs)->lD K f b=none:=λ{b o}e d d2=>by
   cases q:lD K f b with
   |none=>rfl
   |some u =>
    rcases l b u q with ⟨Q,z,_⟩|⟨z,_⟩
    .rw[(T b Q z).1]at e;cases e;exact absurd rfl (d2 _)
    .subst z;rw[A]at e;cases e;exact absurd rfl (d _ _)
  have N:∀{b:Ψ}{m:Str->Δ Θ},I.heap.Ns b m->(Ho I.heap _).Ns b m:=λ{b m}z=>by let(o,es,ep,e,d,r):=z;exact {o,es,ep,pk e<|D e (λ_ _ z=>by grind) λ_ z=>by grind,d,r}
  have g:=λb o e=>pk (X b o e) (by
   cases q:lD K f b with
   |none=>rfl
   |some u =>
    rcases l b u q with ⟨Q,z,_⟩|⟨z,z2⟩
    .rw[(T b Q z).2.1]at e;cases e
    .subst z;rw[hK (by rw[z2];simp)]at e;cases e)
  have hM:Mod K mg _:=⟨g,N S,{mb,N B,U},let ⟨mc,h1,h2⟩:=L;{mc,N h1,h2},
   let ⟨bm,o,b1,b2,b3,b4,b5,b6,b7⟩:=Y;{bm,o,b1,b2,b3,pk b4<|D b4 (λ_ _ z=>by grind) λ_ z=>by grind,b5,b6,b7}⟩
  have e0:vz P w K mg _ callerA [] I _:={rfl,hM,λb o=>Qw,Nat.le_of_eq<|Gq _ _,trivial,nofun,j,.of_eq hg}
  refine jP ((F _ g<|N S).run callerA [] I _ _ _ [.ref a] _ _ hr e0 (J I _) (.cons rfl .nil)<|Z _ (GB ht) hS) λr s' h=>?_;cases r with
  |error e=>exact(R _ e s' h).elim
  |ok fl =>
   cases fl with
   |next=>exact False.elim h
   |brk=>exact False.elim h
   |cont=>exact False.elim h
   |ret u =>
    let(v,H',os,E,un,M,r',q):=h;have Q:=q;subst Q;obtain rfl:u=Value.bool true:=r';have y:∀b o,I.heap.get? b=↑o->s'.heap.get? b=↑o\/(isCodeTable I.heap b/\o=W.tabObj _/\∃G,s'.heap.get? b=↑(W.tabObj G)):=λb o e=>by
     cases q:lD K f b with
     |none=>exact .inl (un.keep b o e q (by intro z;exact absurd (show b∈[]from z)<|by simp)<|by simp)
     |some u =>
      rcases l b u q with ⟨Q,z,rfl⟩|⟨z,z2⟩
      .let(t1,_,c,t3):=T b Q z;let(more,m1):=un.aaZ.gr b Q #[] q t1;rw[e]at t1;cases t1;exact .inr {(t3.tab e).isCodeTable,rfl,_,m1}
      .rcases hO b with z3|⟨ob,xs,z3⟩
       .rw[z2]at z3;cases z3
       .rw[z2]at z3;cases z3;let(e1,_):=j b _ q;let(e2,_):=M b _<|un.aa4 b ob _ q;rw[e]at e1;cases e1;exact .inl e2
    refine{rfl,{λb o e=>?_,λb o e=>?_},os,E}
    .rcases y b o e with z|⟨t,rfl,G,z⟩
     .exact .inl z
     .exact .inr<|.inl {t,rfl,#[],G,rfl,by rw[Array.empty_append];exact z}
    .rcases y b o e with z|⟨_,_,G,z⟩
     .exact⟨o,z⟩
     .exact{_,z}
 have i:∀f b q,(iZ K).lookup b=↑q->gh P w (lD K f) I.heap b (.tab q):=λf b q e=>{#[],(T b q e).1,trivial,λpos v z=>by cases z}
 cases hk:K.lookup a with
 |some o =>
  have e:=X a o hk;rw[A]at e;cases e;refine C _ (.inr {_,vs.toArray,_,hk,rfl,rfl,rfl,by rw[zH,O];exact hl,by exact rv}) (λb u z=>?_) (λb z=>absurd rfl z) (λz=>absurd rfl z) λ_=>.inl rfl;unfold lD at z;split at z
  .rename_i q p;cases z;exact i _ b q p
  .cases z
 |none =>
  refine C (λb=>if b=a then↑(.frz {cls:=.type "list",data:=.seq vs.toArray}<|.lst<|ns.map V.int)else none) (.inl<|.inr {{cls:=.type "list",data:=.seq vs.toArray},?_}) (λb u z=>?_) (λb z=>?_) (λ_=>hk) λb=>?_
  .unfold lD;rw[aT];exact yK rfl
  .unfold lD at z;split at z
   .rename_i q p;cases z;exact i _ b q p
   .by_cases B:b=a
    .replace z:=(yK B).symm.trans z;cases z;subst B;exact{A,by rw[zD];exact hl,vs,_,rv,A}
    .replace z:=(yM B).symm.trans z;cases z
  .by_cases B:b=a
   .exact B
   .exact absurd (yM B) z
  .by_cases B:b=a
   .exact .inr {_,_,yK B}
   .exact .inl<|yM B
def Ll{l:W.OpenLaw}{n k:Nat}{q:ε}{L:Γ Str}{XP:(Str->Δ Θ)->ι->Prop}{YP:δ->ι->Prop}{d:DefRec}{K:Params->Φ}{C:δ->M8}{B:δ->Sp}{x:Str}{ts:Γ Ψ}
  (hn:l.most=↑n)(p:n<=sizeLine)(c:d.params.defaults=[])(hr:cA k callerA)
  (hY:∀w h,YP w h->(K w.params).In h/\∀P∈ts,h.get? P=↑(W.tabObj #[]))(ht:∀w:δ,pC (K w.params) ts=true)
  (F:∀w(m:Str->Δ Θ)fa h,(K w.params).In h->h.Ns mainGlobals m->m d.name=↑(.ref fa) ->
   ∃D:η,(∀s u,BindsTo s D {[u],[]} [(x,u)]) /\
    ∀base:ι,(K w.params).In base->base.Ns mainGlobals m->dc l.prog w (K w.params) m base (C w) k fa D [x] (B w))
  (r:∀w H a(ns:Γ Int),ns.length<=n->bN (K w.params) H->iL (K w.params) H a (ns.map V.int)->B w [.ref a] H (λv _=>v=.bl true) λ_ _ _=>False)
  (X:∀w H s e s',C w [] H s (λ_ _ _=>False) e s'->False) :
  W.WalkO q L XP YP l.row.toRowW d [] (λf vs=>PySem.call f vs):=by
 refine Att.abX hn c λw R i m mb fa o pm cd doc a vs ns G Y ho hd hcd j A S N hg=>?_;let(y,t):=hY w _ Y;let(D,hb,hF):=F w m fa _ y G.T.g j;have M:Yj m i.heap:=by
  let(Z,ob,E,I,J,O,Q,U):=G.T.bmain;refine{Z,ob,E,I,λz=>?_,J,O,Q,U};let(o',es,ep,e1,e2,_):=G.T.g
  grind
 exact Gy y G.T.g G.T.b G.T.builtins G.T.nolimit M hg (ht w) t A S (yD N p) hr hF hb (λH hT=>r w H a ns N hT) λH e=>X w H i e
end Dl
namespace SP
open PySem PySem.W PyProof.Rows
def run(l:Nat->Nat->θ):KasT α->α
 |.ret a=>a
 |.ask i j k=>run l<|k<|l i j
def jc(l:Nat->Nat->θ)(f:α->KasT β):∀t ,run l (t.bind f)=run l (f<|run l t)
 |.ret a=>rfl
 |.ask i j k=>by
  show run l ((k _).bind f)=run l _;exact jc l f _
def TX(n:Nat):KasT α->Prop
 |.ret _=>True
 |.ask i j k=>i<n/\j<n/\∀b,TX n<|k b
def wp_run(hc:∀i j C,i<n->j<n->C (lt i j) s->cmp i j C s):∀t{Q:α->Ξ->Prop},TX n t->Q (run lt t) s->t.kasWp cmp Q s
 |.ret a,Q,_,h=>h
 |.ask i j k,Q,b,h=>hc i j _ b.1 b.2.1<|wp_run hc _ (b.2.2 _) h
def tP(n:Nat)(R:α->Prop):KasT α->Prop
 |.ret a=>R a
 |.ask i j k=>i<n/\j<n/\∀b,tP n R<|k b
def pW:∀{t:KasT α},tP n R t->(∀a,R a->TX n (f a))->TX n (t.bind f)
 |.ret a,b,h=>h a b
 |.ask i j k,b,h=>{b.1,b.2.1,λc=>pW (b.2.2 c) h}
def j8:∀{t:KasT α},tP n R t->(∀a,R a->tP n S (f a))->tP n S (t.bind f)
 |.ret a,b,h=>h a b
 |.ask i j k,b,h=>{b.1,b.2.1,λc=>j8 (b.2.2 c) h}
def Bd(n:Nat)(p:Array Nat):Prop:=∀a,p.getD a 0<n
def Bd.perm(h:Bd n p)(e:q.Perm p):Bd n q:=by
 intro a;rw[Array.getD_eq_getD_getElem?];cases H:q[a]? with
 |none=>have:=h p.size;simpa using this
 |some x =>
  let(i,I,rfl):=Array.mem_iff_getElem.mp<|e.mem_iff.mp<|Array.mem_of_getElem? H;have:=h i;simp_all
def Ko(h:Bd n p):∀f m,tP n (λ_=>True) (kas_asc p f m)
 |0,m=>trivial
 |f+1,m=>⟨h _,h _,λc=>by
  dsimp only;split
  .trivial
  .exact Ko h f _⟩
def A7(h:Bd n p)(i j:Nat):Bd n (kas_rev p i j):=h.perm<|mirror_perm _ _ _ _
def AJ:∀f{p:Array Nat}(h:Bd n p)m q,tP n (λr=>Bd n r.1) (kas_desc f p m q)
 |0,p,h,m,q=>h
 |f+1,p,h,m,q=>⟨h _,h _,λc=>by
  dsimp only;split
  .split
   .exact AJ f (A7 h _ _) _ 0
   .exact AJ f h _ 0
  .exact⟨h _,h _,λd=>by
    dsimp only;split
    .exact h
    .exact AJ f h _ _⟩⟩
def Gc(h:Bd n p)(m a:Nat):tP n (λr=>Bd n r.2) (kas_tail3 m a p):=j8 (Ko (A7 h 0 m) _ _) λ_ _=>A7 h 0 m
def tH(h:Bd n p)(m a:Nat):tP n (λr=>Bd n r.2) (kas_descPart m a p):=j8 (AJ _ h _ _) λr H=>by
 split
 .apply Gc<|A7 H _ _
 .apply Gc H
def Py(h:Bd n p)(a:Nat):tP n (λr=>Bd n r.2) (kas_count a p):=j8 (Ko h _ _) λm _=>by
 split
 .exact h
 .split
  .exact⟨h _,h _,λc=>by
    dsimp only;split
    .exact h
    .apply tH<|A7 h _ _⟩
  .apply tH h
def zd(h:Bd n p)(k:Nat):∀f l r,tP n (λ_=>True) (kas_place p k f l r)
 |0,l,r=>trivial
 |f+1,l,r=>by
  unfold kas_place;split
  .trivial
  .exact⟨h _,h _,λc=>by
    dsimp only;split
    .apply zd h k f
    .apply zd h k f⟩
def Ra:∀f{p:Array Nat}(h:Bd n p)k,TX n (kas_bin f p k)
 |0,p,h,k=>trivial
 |f+1,p,h,k=>pW (zd h k _ _ _) λl _=>Ra f (h.perm<|bubble_perm _ _ _) _
def JD(b:1<=n):TX n (kas_sort n):=by
 have h:Bd n (List.toArray<|List.range n):=λa=>by
  by_cases H:a<n
  .simp[H]
  .simp[H];lia
 refine pW (Py h n) λr R=>?_;split
 .apply Ra _ R
 .trivial
section
variable (z:Nat->Int)
def Z(p:Array Nat)(a:Nat):Int:=z<|p.getD a 0
def jw:Nat->Nat->θ:=λi j=>decide (z i<z j)
def oZ(h:p[a]?=q[b]?):Z z p a=Z z q b:=by
 unfold Z;simp_all
def Kg(J:j<=p.size)(k:Nat):Z z (kas_rev p i j) k=if i<=k/\k<j then Z z p (i+j-1-k)else Z z p k:=by
 have e:=getElem?_mirror_all (i:=i) J k;by_cases H:i<=k/\k<j
 .rw[yK H]at e ⊢;exact oZ z e
 .rw[yM H]at e ⊢;exact oZ z e
def J3(s:src<p.size)(D:d<=src)(k:Nat):Z z (bubble p src d) k=if k=src-d then Z z p src else if src-d<k/\k<=src then Z z p (k-1)else Z z p k:=by
 have e:=getElem?_bubble s d D k;by_cases H:k=src-d
 .rw[yK H]at e ⊢;exact oZ z e
 .rw[yM H]at e ⊢;by_cases a:src-d<k/\k<=src
  .rw[yK a]at e ⊢;exact oZ z e
  .rw[yM a]at e ⊢;exact oZ z e
def Up(p:Array Nat)(n:Nat):Prop:=∀a b,a<=b->b<n->Z z p a<=Z z p b
def Dn(p:Array Nat)(n:Nat):Prop:=∀a b,a<=b->b<n->Z z p b<=Z z p a
variable {z}
def Na(h:Up z p n)(d:1<=n)(c:Z z p (n-1)<=Z z p n):Up z p (n+1):=by
 intro a b H B;by_cases N:b<n
 .exact h a b H N
 .have e:b=n:=by lia
  subst e;by_cases A:a=b
  .subst A;exact xY _
  .exact jR (h a (b-1) (by lia) (by lia)) c
def Y1:∀f n,1<=n->Up z p n->n<=run (jw z) (kas_asc p f n)/\run (jw z) (kas_asc p f n)<=n+f/\Up z p (run (jw z)<|kas_asc p f n)/\(run (jw z) (kas_asc p f n)<n+f->Z z p (run (jw z)<|kas_asc p f n)<Z z p (run (jw z) (kas_asc p f n)-1))
 |0,n,H,h=>{yL _,yL _,h,λq=>absurd q<|qC _}
 |f+1,n,H,h=>by
  show n<=run _ (if jw z _ _=true then .ret n else kas_asc p f _)/\run _ (if jw z _ _=true then .ret n else kas_asc p f _)<=n+(f+1)/\Up z p (run _ (if jw z _ _=true then .ret n else kas_asc p f _))/\(run _ (if jw z _ _=true then .ret n else kas_asc p f _)<n+(f+1)->Z z p (run _ (if jw z _ _=true then .ret n else kas_asc p f _))<Z z p (run _ (if jw z _ _=true then .ret n else kas_asc p f _)-1))
  by_cases hc:jw z (p.getD n 0) (p.getD (n-1) 0)=true
  .rw[yK hc];exact{yL _,jS _ _,h,λ_=>yP hc}
  .have e:Z z p (n-1)<=Z z p n:=by
    have:¬(Z z p n<Z z p _):=λq=>hc<|yA q;lia
   let(a,b,c,d):=Y1 f _ (by lia)<|Na h H e
   grind
def DL(H:j<=p.size)(h:∀a b,i<=a->a<j->i<=b->b<j->Z z p a=Z z p b)(k:Nat):Z z (kas_rev p i j) k=Z z p k:=by
 rw[Kg z H]
 grind
def uC(e:∀k,Z z q k=Z z p k)(h:Dn z p n):Dn z q n:=λa b H B=>by rw[e,e];exact h a b H B
def Ua(H:n<=p.size)(h:Dn z p n):Up z (kas_rev p 0 n) n:=by
 intro a b B c;rw[Kg z H,Kg z H,yK {xU _,by lia},yK {xU _,c}];exact h _ _ (by lia) (by lia)
def oQ(p:Array Nat)(i j:Nat):(kas_rev p i j).size=p.size:=mirror_size _ _ _ _
def pJ(p:Array Nat)(i j:Nat):(kas_rev p i j).Perm p:=mirror_perm _ _ _ _
structure SQ(z:Nat->Int)(aaF p:Array Nat)(n q aaq:Nat):Prop where
 perm:p.Perm aaF
 size:p.size=aaF.size
 le:n<=aaq
 qn:q+1<=n
 dn:Dn z p n
 eq:∀a b,n-(q+1)<=a->a<n->n-(q+1)<=b->b<n->Z z p a=Z z p b
def Nw(j:aaq<=aaF.size):∀(f:Nat)(p:Array Nat)(n q:Nat),n+f<=aaq->SQ z aaF p n q aaq ->
  let r:=run (jw z)<|kas_desc f p n q;SQ z aaF r.1 r.2.1 r.2.2 aaq
 |0,p,n,q,x,h=>h
 |f+1,p,n,q,x,h=>by
  intro r;have R:r=run (jw z) (if jw z (p.getD n 0) (p.getD (n-1) 0)=true then(if q > 0 then kas_desc f (kas_rev p (n-(q+1)) n) (n+1) 0 else kas_desc f p (n+1) 0)
   else .ask (p.getD (n-1) 0) (p.getD n 0) λd=>if d=true then .ret (p,n,q)else kas_desc f p (n+1) (q+1)):=rfl
  have C:=h.qn;by_cases hc:jw z (p.getD n 0) (p.getD (n-1) 0)=true
  .rw[yK hc]at R;have step:∀P ,P.Perm aaF->P.size=aaF.size->(∀k,Z z P k=Z z p k)->SQ z aaF P (n+1) 0 aaq:=λP l m A=>by
    refine{l,m,by lia,by lia,λa b B w=>?_,λa b o s t u=>by grind};rw[A,A];by_cases N:b<n
    .exact h.dn a b B N
    .have e:b=n:=by lia
     subst e;by_cases v:a=b
     .grind
     .exact jR (Int.le_of_lt<|yP hc)<|h.dn a _ (by lia)<|by lia
   by_cases g:q > 0
   .rw[yK g]at R;rw[R];exact Nw j f _ _ 0 (by lia)<|step _ ((pJ _ _ _).trans h.perm) (by rw[oQ,h.size])<|DL (by rw[h.size];lia) h.eq
   .rw[yM g]at R;rw[R];exact Nw j f p _ 0 (by lia)<|step p h.perm h.size λ_=>rfl
  .rw[yM hc]at R;have E:=by
    have:¬(Z z p n<Z z p _):=λq=>hc<|yA q;omega
   have H:r=run _ (if jw z _ _=true then .ret _ else kas_desc f p _ _):=R;by_cases D:jw z (p.getD (n-1) 0) (p.getD n 0)=true
   .rw[yK D]at H;rw[H];exact h
   .rw[yM D]at H;rw[H];have Q:Z z p n=Z z p (n-1):=by
     have:¬(Z z p _<Z z p n):=λq=>D<|yA q;omega
    refine Nw j f p _ _ (by lia) {h.perm,h.size,by lia,by lia,λa b B w=>?_,λa b o s t u=>?_}
    .by_cases N:b<n
     .exact h.dn a b B N
     .have e:b=n:=by lia
      subst e;by_cases v:a=b
      .grind
      .rw[Q];exact h.dn a _ (by lia)<|by lia
    .have y:∀c,n+1-(q+1+1)<=c->c<n+1->Z z p c=Z z p (n-1):=λc c1 c2=>by
      by_cases i:c<n
      .exact h.eq c _ (by lia) i (by lia)<|by lia
      grind
     grind
structure X4(z:Nat->Int)(aaF:Array Nat)(aaq:Nat)(r:Nat×Array Nat):Prop where
 perm:r.2.Perm aaF
 size:r.2.size=aaF.size
 ge:1<=r.1
 le:r.1<=aaq
 up:Up z r.2 r.1
def tail3(Z:aaq<=aaF.size)(H:1<=n)(N:n<=aaq)(P:p.Perm aaF)(s:p.size=aaF.size)(d:Dn z p n):X4 z aaF aaq (run (jw z)<|kas_tail3 n aaq p):=by
 rw[kas_tail3,jc];let(a,b,c,_):=Y1 _ n H<|Ua (by lia) d;exact{(pJ _ _ _).trans P,by show(kas_rev p 0 n).size=_;rw[oQ,s],by show 1<=run _ _;lia,by show run _ _<=aaq;lia,c}
def descPart(c:aaq<=aaF.size)(f:1<=n)(k:n<aaq)(P:p.Perm aaF)(s:p.size=aaF.size)(d:Dn z p n)(t:Z z p n<=Z z p (n-1)):X4 z aaF aaq (run (jw z)<|kas_descPart n aaq p):=by
 rw[kas_descPart,jc];have D:=Nw c (aaq-(n+1)) p (n+1) 0 (by lia) ⟨P,s,by lia,by lia,λa b H B=>by
  by_cases N:b<n
  .exact d a b H N
  .have e:b=n:=by lia
   subst e;by_cases A:a=b
   .grind
   .exact jR t<|d a _ (by lia)<|by lia,λa b f g i j=>by grind⟩
 have q:=D.qn;split
 .exact tail3 c (by lia) D.le ((pJ _ _ _).trans D.perm) (by rw[oQ,D.size])<|uC (DL (by have:=D.size;have:=D.le;lia) D.eq) D.dn
 .exact tail3 c (by lia) D.le D.perm D.size D.dn
def count(f:aaq<=p.size)(r:1<=aaq):X4 z p aaq (run (jw z)<|kas_count aaq p):=by
 unfold kas_count;rw[jc];let(a,b,c,d):=Y1 (z:=z) (p:=p) (aaq-1) 1 (yL _) (λx y H Y=>by rw[show x=y by lia];exact xY _);generalize run (jw z) (kas_asc p (aaq-1) 1)=n at a b c d;split
 .exact{Array.Perm.refl _,rfl,a,by show n<=aaq;lia,c}
 .rename_i E;have t:n<aaq:=by
   have:n≠aaq:=λe=>E (by simp[e]);lia
  have D:=d (by lia);split
  .rename_i k;show X4 z p aaq (run (jw z) (if jw z (p.getD 0 0) (p.getD (n-1) 0)=true then .ret (n,p)else kas_descPart n aaq (kas_rev p 0 n)));by_cases hc:jw z (p.getD 0 0) (p.getD (n-1) 0)=true
   .rw[yK hc];exact{Array.Perm.refl _,rfl,a,by show n<=aaq;lia,c}
   .rw[yM hc];have g:Z z p (n-1)<=Z z p 0:=by
     have:¬(Z z p 0<Z z p (n-1)):=λq=>hc<|yA q;lia
    have l:∀x,x<n->Z z p x=Z z p 0:=λx X=>by
     have m:=c 0 x (xU _) X;have o:=c x (n-1) (by lia) (by lia);lia
    have s:=DL (z:=z) (p:=p) (i:=0) (j:=n) (by lia) λx y _ X _ Y=>by rw[l x X,l y Y]
    refine descPart f (by lia) t (pJ _ _ _) (by rw[oQ]) (λx y H Y=>?_) ?_
    .rw[s,s,l x<|by lia,l y Y];exact xY _
    .rw[s,s];lia
  .exact descPart f (by lia) t (Array.Perm.refl _) rfl (λx y H Y=>by rw[show x=y by lia];exact xY _) (by lia)
def place(u:Up z p k):∀f l r,r-l<=f->l<=r->r<=k->(∀a,a<l->Z z p a<=Z z p k)->(∀a,r<=a->a<k->Z z p k<=Z z p a) ->
  let m:=run (jw z)<|kas_place p k f l r;m<=k/\(∀a,a<m->Z z p a<=Z z p k)/\(∀a,m<=a->a<k->Z z p k<=Z z p a)
 |0,l,r,F,L,d,b,c=>by
  have e:l=r:=by lia
  subst e;exact⟨d,b,c⟩
 |f+1,l,r,F,L,d,b,c=>by
  intro m;have M:m=run _ (if l >= r then .ret l else .ask _ _ _):=rfl;by_cases R:l >= r
  .rw[yK R]at M;rw[M];have e:l=r:=by lia
   subst e;exact⟨d,b,c⟩
  .rw[yM R]at M;have H:m=run _ (if jw z _ _=true then kas_place p k f l _ else kas_place p k f _ r):=M;by_cases hc:jw z (p.getD k 0) (p.getD ((l+r)/2) 0)=true
   .rw[yK hc]at H;rw[H];exact place u f l _ (by lia) (by lia) (by lia) b λa A K=>jR (Int.le_of_lt<|yP hc)<|u _ a A K
   .rw[yM hc]at H;rw[H];have E:Z z p ((l+r)/2)<=Z z p k:=by
     have:¬(Z z p k<Z z p _):=λq=>hc<|yA q;lia
    exact place u f _ r (by lia) (by lia) d (λa A=>jR (u a _ (by lia)<|by lia) E) c
def bin:∀f p k,p.Perm aaF->p.size=aaF.size->k+f<=aaF.size->Up z p k ->
  (run (jw z)<|kas_bin f p k).Perm aaF/\(run (jw z)<|kas_bin f p k).size=aaF.size/\Up z (run (jw z)<|kas_bin f p k) (k+f)
 |0,p,k,i,s,hk,u=>{i,s,u}
 |f+1,p,k,i,s,hk,u=>by
  rw[kas_bin,jc];have P:=place u k 0 k (by lia) (by lia) (yL _) (nofun) λa A K=>absurd A (by lia);generalize run _ _=l at P;have Z:=J3 z (p:=p) (src:=k) (d:=k-l) (by lia) (by lia);rw[(show k-(k-l)=l by lia)]at Z;let(q,q2,Q):=bin f (bubble p k<|k-l) (k+1) ((bubble_perm _ _ _).trans i) (by rw[bubble_size,s]) (by lia) λa b B j=>by
   rw[Z,Z];by_cases c:a=l
   .grind
   .rw[yM c];by_cases e:b=l
    .grind
    .rw[yM e];by_cases H:l<a/\a<=k
     .rw[yK H,yK<|by lia];exact u _ _ (by lia)<|by lia
     .rw[yM H];by_cases g:l<b/\b<=k
      .grind
      .rw[yM g];exact u _ _ B<|by lia
  grind
def kg(f:1<=n):(run (jw z)<|kas_sort n).toList.Perm (List.range n)/\((run (jw z)<|kas_sort n).toList.map z).Pairwise (·<=·):=by
 have d:(List.toArray<|List.range n).size=n:=by simp
 have C:=count (z:=z) (p:=List.toArray<|List.range n) (by lia) f;have fin:∀p ,p.Perm (List.toArray<|List.range n)->p.size=n->Up z p n->p.toList.Perm _/\(p.toList.map z).Pairwise (·<=·):=λp a b c=>by
  refine{by have:=a.toList;omega,?_};rw[List.pairwise_iff_getElem];intro i j l m H;have I:i<n:=by grind
  have J:j<n:=by grind
  have:=c i j (jQ H) J;unfold Z at this;simp_all
 rw[kas_sort,jc];generalize run _ _=r at C;let(k,p):=r;have s:=C.size;rw[d]at s;split
 .have E:=C.ge;rw[(show max k 1=k by lia)];let(q,q2,Q):=bin (n-k) p k C.perm C.size (by lia) C.up;apply fin _ q (by grind);rw[show k+(n-k)=n by lia]at Q;lia
 .have g:=C.le;have e:k=n:=by lia
  subst e;exact fin p C.perm s C.up
end
end SP
namespace Srt
open PySem PySem.W PySem.Calls PyProof.Rows
def aaI(z:Nat->Int)(vs:Γ Θ):Γ Θ:=if vs.length<2 then vs else(SP.run (SP.jw z)<|kas_sort vs.length).toList.map λi=>vs.getD i Value.none
def abZ(z:Nat->Int)(vs:Γ Θ):(aaI z vs).length=vs.length:=by
 unfold aaI;split
 .rfl
 .rename_i h;have:=(SP.kg (z:=z) (n:=vs.length)<|by lia).1.length_eq;simpa using this
def aci{P:PySem.Fin->Ξ->Prop}(O:s.heap.get? a=↑(seqObj "list" vs.toArray n))(u:vs.length<64)(z:Nat->Int)(y:SortKind)
  (hk:2<=vs.length->∀h':ι,(∀b o,b≠a->s.heap.get? b=↑o->h'.get? b=↑o)->∀D:SortKind->Ξ->Prop,D y {s with heap:=h'}->wpAny (model prog w) A (keyKind' vs.toArray) D (λ_ _=>False) {s with heap:=h'})
  (T:2<=vs.length->∀h':ι,(∀b o,b≠a->s.heap.get? b=↑o->h'.get? b=↑o)->∀i j C,i<vs.length->j<vs.length->C (SP.jw z i j) {s with heap:=h'}->kas_ask prog w A y vs i j C {s with heap:=h'})
  (h:∀(h':ι)(c:Nat),(∀b o,b≠a->s.heap.get? b=↑o->h'.get? b=↑o)->h'.get? a=↑(seqObj "list" (aaI z vs).toArray c)->P (.done<|.ret .none) {s with heap:=h'}) :
  wpAny (model prog w) A (Builtin.«list.sort» {[.ref a],[]}) P E s:=by
 rw[list_sort_plain];have W:a<s.heap.objs.size:=zY O;have U:vs.length<=sizeLine:=by rw[qQ];lia
 refine zV<|vI O rfl (zV<|jX O rfl ?_ (by omega) (xU _));obtain⟨I,q⟩:∃e,(s.heap.update a (Obj.mapSeq λ_=>(#[]:Array Θ))).get? a=↑(seqObj "list" #[] e):={_,jY O λ_=>#[]}
 have K:∀b o,b≠a->s.heap.get? b=↑o->(s.heap.update a<|Obj.mapSeq λ_=>(#[]:Array Θ)).get? b=↑o:=λb o B e=>(xM _ _<|jK B).trans e;refine zV<|seqEpoch_at q rfl (zV<|wpAny_newTuple (zV<|kL (xW ?_)<|xU _)<|by lia);have H:(((s.heap.update a<|Obj.mapSeq λ_=>(#[]:Array Θ)).push<|seqObj "tuple" vs.toArray 0).push<|seqObj "list" #[] 0).get? a=↑(seqObj "list" #[] I):=zU _<|zU _ q;have k:∀b o,b≠a->s.heap.get? b=↑o->(((s.heap.update a<|Obj.mapSeq λ_=>(#[]:Array Θ)).push<|seqObj "tuple" vs.toArray 0).push<|seqObj "list" #[] 0).get? b=↑o:=λb o B e=>zU _<|zU _<|K b o B e;show wpAny _ A _ P E {s with heap:=((s.heap.update a<|Obj.mapSeq λ_=>(#[]:Array Θ)).push<|seqObj "tuple" vs.toArray 0).push (seqObj "list" #[] 0)};generalize ((s.heap.update a<|Obj.mapSeq λ_=>(#[]:Array Θ)).push<|seqObj "tuple" vs.toArray 0).push (seqObj "list" #[] 0)=m at H k;clear q K;dsimp only;have fin:∀t:SortSt,(arrOf t).map (·.2)=(aaI z vs).toArray->failedOf t=none ->
   wpAny (model prog w) A (do
    let S:=(arrOf t).map (·.2);let d:=(<- seqEpoch a) != I
    Builtin.List.listUpdate (.ref a) λ_=>S
    if let some e:=failedOf t then rule "list.sort.comparison-raised";throw e
    if d then rule "list.sort.modified";raiseError "ValueError" "list modified during sort"
    ret .none) P E {s with heap:=m}:=λt M g=>by
  dsimp only;rw[M,g];refine zV<|seqEpoch_at H rfl (zV<|jX H rfl ?_ (xU _) (by show(aaI z vs).toArray.size<=_;rw[zH,abZ];lia));obtain⟨c,hc⟩:∃c,(m.update a (Obj.mapSeq λ_=>(aaI z vs).toArray)).get? a=↑(seqObj "list" (aaI z vs).toArray c):={_,jY H λ_=>(aaI z vs).toArray}
  simp ;exact zW<|h _ c (λb o B e=>(xM _ _<|jK B).trans<|k b o B e) hc
 by_cases g:vs.toArray.size<2
 .rw[yK g,yK g];refine zV<|zW<|fin _ ?_ rfl;rw[aaI,yK<|by omega];show((vs.toArray.zip vs.toArray).map _)=vs.toArray;simp ;exact List.map_snd_zip<|yL _
 .rw[yM g,yM g];have l:2<=vs.length:=by
   have:¬vs.length<2:=by exact g
   lia
  refine zV<|yZ (hk l m k (λr f=>r=y/\f={s with heap:=m}) ⟨rfl,rfl⟩) (λr f v=>?_) λ_ _ x=>x.elim;let(rfl,rfl):=v;refine zV (yZ (kat_run (Q:=λt f=>f={s with heap:=m}/\(arrOf t).map (·.2)=(aaI z vs).toArray/\failedOf t=none) (G:=λp f=>f={s with heap:=m}/\p=SP.run _ _)
   rfl l u (λp t f V J L F=>{F.1,?_,L}) (SP.wp_run (T l m k) _ (SP.JD<|by lia) {rfl,rfl})) ?_ λ_ _ e=>e)
  .rw[kat_snds rfl J,F.2,aaI,yM<|by lia]
  .rintro⟨⟨⟩,t⟩ f ⟨v,N,R⟩;subst v;exact fin t N R
def adX(h:ι)(l:Ψ)(vs:Γ Θ):Prop:=∃ (o:Obj) (T:String) (n:Nat),(T="list"\/T="tuple")/\h.get? l=↑o/\o.cls=.type T/\o.data=.seq vs.toArray n
def adp(L:adX s.heap l vs)
  (h:Q vs {s with heap:=(s.heap.push<|seqObj "list" #[] 0).update s.heap.objs.size (Obj.mapSeq (·++vs.toArray))})(z:vs.length<=sizeLine):wpAny (model prog w) A (collect<|.ref l) Q E s:=by
 let(o,T,n,t,O,hc,d):=L;refine zV<|wpAny_runValue<|jZ entry_proto_collect'<|zV<|kL<|zW {wF _<|by simp,jZ entry_list_iadd' ?_};show wpAny _ _ (Builtin.List.listExtendWith _ _ _) _ _ _;have H:(s.heap.push<|seqObj "list" #[] 0).get? l=↑o:=zU _ O;refine zV<|wH {o,H,hc} ?_;rw[yK<|by grind];refine zV<|vI H d<|zV<|vI (zX _ rfl) rfl (zV<|jX (zX _ rfl) rfl ?_ (xU _) (by grind));apply zW;refine zV<|wpAny_load (jY (zX _ rfl) _) ?_;show wpAny _ _ (pure _) Q E _;rw[show((#[]:Array Θ)++vs.toArray).toList=vs by simp];exact zW h
def adY{s:Ξ}{Q:Θ->Ξ->Prop}(n:adX s.heap l vs)(d:vs.length<64)(z:Nat->Int)(f:SortKind)
  (hk:2<=vs.length->∀h' ,(∀b o,s.heap.get? b=↑o->h'.get? b=↑o)->∀g:SortKind->Ξ->Prop,g f {s with heap:=h'}->wpAny (model prog w) A.in1.in1 (keyKind' vs.toArray) g (λ_ _=>False) {s with heap:=h'})
  (t:2<=vs.length->∀h' ,(∀b o,s.heap.get? b=↑o->h'.get? b=↑o)->∀i j C,i<vs.length->j<vs.length->C (SP.jw z i j) {s with heap:=h'}->kas_ask prog w A.in1.in1 f vs i j C {s with heap:=h'})
  (h:∀(h':ι)(D:Ψ)c,(∀b o,s.heap.get? b=↑o->h'.get? b=↑o)->s.heap.objs.size<=D->h'.get? D=↑(seqObj "list" (aaI z vs).toArray c)->Q (.ref D) {s with heap:=h'}) :
  wpAny (model prog w) A (call (.builtin "sorted") [.ref l]) Q E s:=by
 have L:vs.length<=sizeLine:=by rw[qQ];lia
 apply Calls.call_function_entry kind_sorted plain_sorted entry_sorted<|args_sorted1 _;refine zV<|zW<|zV<|adp n (zV<|kL ?_<|by lia) L;have Z:((s.heap.push<|seqObj "list" #[] 0).update s.heap.objs.size (Obj.mapSeq (·++vs.toArray))).objs.size=s.heap.objs.size+1:=by simp
 have p:∀b o,s.heap.get? b=↑o->(((s.heap.push<|seqObj "list" #[] 0).update s.heap.objs.size (Obj.mapSeq (·++vs.toArray))).push<|seqObj "list" vs.toArray 0).get? b=↑o:=λb o e =>
  zU _ ((xM _ _<|jF<|zY e).trans<|zU _ e)
 have H:(((s.heap.push<|seqObj "list" #[] 0).update s.heap.objs.size (Obj.mapSeq (·++vs.toArray))).push<|seqObj "list" vs.toArray 0).get? (s.heap.objs.size+1)=↑(seqObj "list" vs.toArray 0):=by
  rw[<-Z];exact zX _ rfl
 rw[Z];generalize ((s.heap.push _).update s.heap.objs.size _).push _=m at p H;have k:∀h':ι,(∀b o,b≠s.heap.objs.size+1->m.get? b=↑o->h'.get? b=↑o)->∀b o,s.heap.get? b=↑o->h'.get? b=↑o:=λh' q b o e=>q b o (yQ<|jL<|zY e)<|p b o e;exact zV<|xW<|qS slot_list_sort {_,H,rfl} entry_list_sort (aci H d z f (λa h' q=>hk a h'<|k h' q) (λa h' q=>t a h'<|k h' q) λh' c q e=>{_,rfl,(zW {_,rfl,h h' _ c (k h' q) (by lia) e})})<|args_list_sort _
end Srt
namespace Dl
open PySem L2 PySem.Spec PyProof.Rows
def GP(i:Nat)(z:Γ Nat)(f:Env->Δ (Γ D)):aq->Δ Out:=λa=>(f<|bx<|hand z 0 a).bind λu=>u5 i (λd=>if d.length+u.length<=sizeLine then↑(d++u)else none)<|hand z 0 a
def Hj(i:Nat)(Z:Γ Nat)(B:X.N[i]?=↑x)(V:pM X.env.scope x)(h:DF X e f)(C:(x=="__debug__")=false:=by decide)(D:(x=="__classdict__")=false:=by decide)
  (A:((backTo cpos<|starEach [e] X.env).all (λx=>!x.1)&&(backToKw cpos<|keywordEach [] X.env).all (λx=>x.1.isSome)&&decide ([e].length+([]:Γ Keyword).length+(if([]:Γ Keyword).isEmpty then 0 else 1)<30))=true:=by rfl)
  (l:(apos.endLine==cpos.line)=true:=by rfl)(t:starEach [e] X.env=(false,eval e X.env)::starEach [] X.env:=by rfl) :
  DS X aaa aab (.Expr (.Call (.Attribute (.Name x px) "extend" apos) [e] [] cpos) pos) (GP i Z f):=
 bp (hU<|pq qK PySem.F.slot_list_extend PySem.F.type_list_extend G7 (aY B V C D) (aL h bJ t) rfl A l t rfl) λE K H z=>by
  let(M,ρ,o,S,m,q):=z;let(U,y,m):=bs m;let(p,T,j,k,rfl):=qr m;let(d,I,s):=S.hand Z;let(a,J,g,u,P,R,Q):=s.own i p j;refine{.ref a,g,.inl {rfl,J,.of u},d,_,U,s.gr.fh,s.frz,y,λb W L c G Y hf w r=>?_};have n:=s.grow G;let(O,v,f1,f2,f3,f5,f4):=n.own i p j;rw[g]at f1;cases f1;split at k
  .cases k;exact{a,b,v,W,rfl,rfl,f2,w,by rw[f4.length,r.length];lia,q K _ c (n.mut j g f2<|f4.append r)<|I.trans G.ff}
  .cases k
def F9(ds:Γ D)(k:Int)(d:D):Γ D:=let j:=if k<0 then(k+(ds.length:Int)).toNat else min k.toNat ds.length;ds.take j++d::ds.drop j
def N1:V->Γ V->Hp->VK->Prop:=λx v H Q=>∃l s k y,x=.ref l/\v=[.int k,y]/\H l=↑(.lst s)/\s.length<sizeLine/\-(2^62)<=k/\k<2^62 /\
 Q .non (upd H l<|.lst (s.take (if k<0 then(k+(s.length:Int)).toNat else min k.toNat s.length)++y::s.drop (if k<0 then(k+(s.length:Int)).toNat else min k.toNat s.length)))
def HU:Rx X "list.insert" N1:=by
 intro p s j H x V v S Q I c R h;let(l,g,k,y,rfl,rfl,b,Z,K,d,q):=h;cases c;let(f,U,rfl,(t,rfl),u):=L2.aO.two R;let(z,i,n,r,L,e):=I.acH b;have a:¬(!Builtin.List.listFitsIndex k)=true:=by
  have:Builtin.List.listFitsIndex k=true:=by
   unfold Builtin.List.listFitsIndex
   grind
  grind
 refine qT F.slot_list_insert {_,e,rfl} F.entry_list_insert (F.args_list_insert_3 _ _ _) (AutoListH.list_insert_list_int_val_1 l i.toArray n k t U a<|by grind) {e,?_};refine{.non,_,I.adS b e ?_ ((r.take _).append<|.cons u<|r.drop _) ?_,rfl,q}<;>grind
def IV(i:Nat)(z:Γ Nat)(F f:Env->Δ D):aq->Δ Out:=λa=>(F<|aI a).bind λK=>match K with
 |.int k=>(uz z f a).bind λp=>u5 i (λd=>if Cj k=true/\d.length<sizeLine then↑(F9 d k p.1)else none) p.2
 |_=>none
def HH(i:Nat)(J:Γ Nat)(M:X.N[i]?=↑x)(Q:pM X.env.scope x)(hk:DE X e U)(h:DE X c f)(P:(x==("__debug__":Str))=false:=by decide)(u:(x==("__classdict__":Str))=false:=by decide)
  (n:((backTo cpos<|starEach [e,c] X.env).all (λx=>!x.1)&&(backToKw cpos<|keywordEach [] X.env).all (λx=>x.1.isSome)&&decide ([e,c].length+([]:Γ Keyword).length+(if([]:Γ Keyword).isEmpty then 0 else 1)<30))=true:=by rfl)
  (L:(apos.endLine==cpos.line)=true:=by rfl)(l:starEach [e,c] X.env=(false,eval e X.env)::starEach [c] X.env:=by rfl)(j:starEach [c] X.env=(false,eval c X.env)::starEach [] X.env:=by rfl) :
  DS X aaa aab (.Expr (.Call (.Attribute (.Name x px) "insert" apos) [e,c] [] cpos) pos) (IV i J U f):=
 bp (hU<|pq qK PySem.F.slot_list_insert PySem.F.type_list_insert HU (aY M Q P u) (aL hk (aL h bJ j) l) rfl n L l (by rw[j];rfl)) λE σ H z=>by
  let(HF,C,o,S,G,q):=z;let(R,w,G):=bs G;cases R<;>try cases G
  rename_i k;let((d,ρ'),g,G):=bs G;let(B,es,b,t,rfl):=qr G;have A:∃D,C[i]?=↑(.own D):=by
   let(d1,_,g):=bs g;split at g
   .cases g;exact{B,b}
   .let(d2,_,g):=af g;cases g;rw[fg]at b;let(s,l,b):=af b;cases s with
    |non=>split at b<;>cases b
    |tab _=>split at b<;>cases b
    |obj _=>split at b<;>cases b
    |val _=>split at b<;>cases b
    |own Y=>exact{Y,l}
  let(D,A):=A;let(a,W,p,c,e3,e5,e4):=S.own i D A;refine{.ref a,p,.inl {rfl,W,iL.of c},H,aI C,_,.refl _,S.all,w,λvk Hk I K rk=>?_};simp?[Rep]at rk;subst rk;refine yg (S.step K.hh) g λv H' m T y sh r=>?_;let(a',V,f1,f2,f3,f5,f4):=y.own i B b;rw[p]at f1;cases f1;split at t
  .rename_i Z;cases t;have O:=Z.1;unfold Cj at O;rw[zF]at O;refine{a,V,k,v,rfl,rfl,f2,by rw[f4.length];exact Z.2,yP O.1,yP O.2,q σ _ m (y.mut b p f2 ?_) T};unfold F9;rw[f4.length];exact(f4.take _).append<|aw.cons r<|f4.drop _
  .cases t
def lz:D->D->Δ (Γ D)
 |.list x,.list y=>small (x++y)
 |_,_=>none
def J5(K:Φ):R2:=λx y H Q=>∃a b s Y,x=.ref a/\y=.ref b/\iL K H a s/\iL K H b Y/\s.length+Y.length<=sizeLine/\∀p,H p=none->Q (.ref p) (upd H p<|.lst<|s++Y)
def vj:iG X (binaryOp .Add) (J5 X.K):=by
 intro p s E H x y v u Q I R Y h;let(a,b,t,w,rfl,rfl,l,B,z,q):=h;cases R;cases Y;let(i,r1,P,_):=I.list l;let(f,r,p2,_):=I.list B;let((C,k,A,L),o,hc,n,m):=P.isList;let((j,D,d,S),c,e,N,g):=p2.isList;subst hc m e g;refine wJ {_,o,rfl} {_,c,rfl} noFill_list_add seq_list_add PySem.F.slot_list_add PySem.F.entry_list_add (PySem.F.args_list_add_2 _ _) (list_addW a b i.toArray f.toArray n N k D L S (by rw[zH,zH,<-r1.length,<-r.length];lia)) {o,c,?_};rw[(show i.toArray++f.toArray=(i++f).toArray by simp)];exact{.ref s.heap.objs.size,_,I.adT (r1.append r) (by rw[zN];exact z),rfl,q _ I.fresh}
def MN(g:D->D->Δ (Γ D))(f1 f2:Env->Δ D):Env->Δ (Γ D):=λa=>(f1 a).bind λx=>(f2 a).bind λy=>g x y
def RJ(A:DE X a fa)(B:DE X b fb):DF X (.BinOp a .Add b pos) (MN lz fa fb):=aE (EF vj A B) λw H Q z=>by
 let(k,j,d,sm,o,F,q):=z;let(x,l,F):=bs F;let(y,Y,i):=bs F;refine{k,j,x,sm,o,l,λV n c f r1=>{c,j,y,f.fh,o.mono f.ff,Y,λt s e g m=>?_}};cases x<;>cases y<;>simp[lz]at i<;>try cases i
 let(rfl,Z):=eJ i;let(a,v,rfl,A,r):=(r1.mono g.ff)
 let(b,u,rfl,B,R):=m;have G:=f.trans g;exact{a,b,v,u,rfl,rfl,g.fh.seq A,g.fh.seq B,by rw[r.length,R.length,<-zN];lia,λp P=>q p _ _ e (G.trans<|.own G.fh P) (G.hh.free P) (G.fh.free P) av<|r.append R}
def boolsOf:Γ D->Δ (Γ θ)
 |[]=>↑[]
 |.bool b::r=>(boolsOf r).map (b::·)
 |_::_=>none
def j4:∀{ds:Γ D}{bs:Γ θ},boolsOf ds=↑bs->ds=bs.map PyData.bool
 |[],bs,h=>by cases h;rfl
 |d::r,bs,h=>by
  cases d<;>simp?[boolsOf]at h<;>try cases h
  let(b,H,rfl):=af h;rw[j4 H];rfl
def fU{K:Φ}:∀{bs:Γ θ}{vs:Γ V},aw K H (bs.map PyData.bool) vs->vs=bs.map V.bl
 |[],vs,h=>h.nil_inv
 |b::bs,vs,h=>by
  let(v,r,rfl,a,c):=h.cons_inv;rw[a,fU c];rfl
def ny:∀{bs:Γ θ}{us:Γ Θ},aO (bs.map V.bl) us->us=bs.map Value.bool
 |[],us,h=>by cases h;rfl
 |b::bs,us,h=>by
  cases h with
  |cons r R=>cases r;rw[ny R];rfl
def range_all(bs:Γ θ):(List.range bs.length).all (λi=>bs.getD i false)=bs.all id:=by
 induction bs with
 |nil=>rfl
 |cons b bs I=>rw[zL,vK,xR,List.all_map,xR];exact qZ _ I
def range_any(bs:Γ θ):(List.range bs.length).any (λi=>bs.getD i false)=bs.any id:=by
 induction bs with
 |nil=>rfl
 |cons b bs I=>rw[zL,vK,vA,wL,vA];exact qZ _ I
def Er(hc:X.calm=true):fF X (.builtin "all") (λxs H Q=>∃ (a:Ψ) (bs:Γ θ),xs=[.ref a]/\iL X.K H a (bs.map V.bl)/\Q (.bl<|bs.all id) H):=by
 intro S s C H xs U Q I r h;let(a,bs,rfl,f,q):=h;let(u,rfl,x):=vals1 r;cases x;let(j,R,p,z):=I.list f;have g:=ny R;subst g;have d:X.A.in1.handled=none:=I.ok.hd hc;refine call_all_walk<|qH p.isList ?_;let(o,O,l,n,D):=p.isList;refine{_,_,_,_,_,_,λi=>bs.getD i false,rfl,Walks.list d s.heap.objs.size a (yQ<|zY O) _,{{_,zX _ rfl,rfl,rfl},p.isList.push _},λi v y t E P c=>?_,λw T k=>?_}
 .have e:v=Value.bool (bs.getD i false):=by
   have P:(bs.map Value.bool).toArray[i]?=↑v:=P;rw[vS,zO]at P;let(b,B,rfl):=af P;rw[zG,B];rfl
  subst e;exact xV c
 .refine{.bl _,H,(I.kept λb m e=>k b m (by simp;exact yQ<|zY e)<|zU _ e),?_,q}
  .show Value.bool _=Value.bool _;have:=range_all bs
   grind
def oP:Γ D->Δ D:=λs=>(oneOf s).bind λd=>match d with
 |.list e=>(boolsOf e).map λbs=>.bool (bs.all id)
 |_=>none
def T3(hc:X.calm=true)(B:sx X "all" (.builtin "all"))(A:DA X [e] fs)(E:starEach [e] X.env=(false,eval e X.env)::starEach [] X.env:=by rfl):DE X (.Call (.Name "all" p) [e] [] pos) (bT oP fs):=
 jq (Er hc) (by
  intro F H s V d Q sm r g q;let(x,f,g):=bs g;rw[iB f]at r;cases x<;>try cases g
  let(bs,c,rfl):=af g;let(v,i,rfl,a,b):=r.cons_inv;rw[b.nil_inv];let(p,u,rfl,h,R):=a;rw[j4 c]at R;have:=fU R;subst this;exact{p,bs,rfl,sm.seq h,q _ H F (.refl sm)<|by rfl}) B A (by decide) (by rfl) E rfl
abbrev lexLt:=HT.lexLt
def ix:∀a ,lexLt a a=false
 |[]=>rfl
 |x::a=>by show HT.lexLt _ _=false;rw[HT.fN,yK rfl];exact ix a
def fW:∀{a b c:Γ Int},lexLt a b=true->lexLt b c=true->lexLt a c=true
 |[],[],_,h,_=>by lia
 |[],_::_,[],_,h=>by cases h
 |[],_::_,_::_,_,_=>rfl
 |_::_,[],_,h,_=>by cases h
 |_::_,_::_,[],_,h=>by cases h
 |x::a,y::b,z::c,H,d=>by
  have H:HT.lexLt _ _=true:=H;have d:HT.lexLt _ _=true:=d;show HT.lexLt _ _=true;rw[HT.fN]at H d ⊢;by_cases e:x=y
  .rw[yK e]at H;by_cases E:y=z
   .rw[yK E]at d;rw[yK<|e.trans E];exact fW H d
   grind
  grind
def mC:∀{a b:Γ Int},lexLt a b=false->lexLt b a=false->a=b
 |[],[],_,_=>rfl
 |[],_::_,h,_=>by cases h
 |_::_,[],_,h=>by cases h
 |x::a,y::b,H,c=>by
  have H:HT.lexLt _ _=false:=H;have c:HT.lexLt _ _=false:=c;rw[HT.fN]at H c;by_cases e:x=y
  .rw[yK e]at H;rw[yK e.symm]at c;rw[e,mC H c]
  grind
def lexLe(a b:Γ Int):θ:=!lexLt b a
def CK(a b c:Γ Int)(H:lexLe a b=true)(d:lexLe b c=true):lexLe a c=true:=by
 rw[lexLe,yO]at *;cases e:lexLt c a with
 |false=>rfl
 |true =>
  cases E:lexLt a b with
  |true=>rw[fW e E]at d;lia
  |false =>
   have:=mC E H
   grind
def CL(a b:Γ Int):(lexLe a b||lexLe b a)=true:=by
 unfold lexLe;cases e:lexLt b a with
 |false=>rfl
 |true =>
  cases E:lexLt a b with
  |false=>rfl
  |true=>have:=fW e E;rw[ix]at this;grind
def DZ(H:lexLe a b=true)(c:lexLe b a=true):a=b:=by
 unfold lexLe at *;rw[yO]at *;exact mC c H
def wo{α:Type}{L:α->α->θ}(R:∀a b,L a b=true->L b a=true->a=b):∀{l m:Γ α},l.Perm m->l.Pairwise (λa b=>L a b=true)->m.Pairwise (λa b=>L a b=true)->l=m
 |[],m,p,_,_=>p.nil_eq
 |a::l,[],p,_,_=>by simp_all
 |a::l,b::m,p,c,d=>by
  let(A,H):=List.pairwise_cons.mp c;let(f,B):=List.pairwise_cons.mp d;have e:a=b:=by
   have g:=p.mem_iff.mp zE;have i:=p.mem_iff.mpr zE
   grind
  subst e;rw[wo R (List.perm_cons a |>.mp p) H B]
def v7(l:Γ (Γ Int)):Γ (Γ Int):=l.mergeSort lexLe
def KG(l:Γ _):(v7 l).Perm l:=List.mergeSort_perm l lexLe
def RT(l:Γ _):(v7 l).Pairwise (λa b=>lexLe a b=true):=List.pairwise_mergeSort CK CL l
def K2{l:Γ _}(p:l.Perm m)(h:l.Pairwise (λa b=>lexLe a b=true)):l=v7 m:=wo (λ_ _=>DZ) (p.trans (KG m).symm) h<|RT m
def rk(l:Γ (Γ Int))(a:Γ Int):Int:=((l.countP λb=>lexLt b a:Nat):Int)
def QV(H:a∈l):lexLt a b=decide (rk l a<rk l b):=by
 unfold rk;have o:∀{a b:Γ Int},lexLt a b=true->(l.countP λc=>lexLt c a)<=l.countP λc=>lexLt c b:=λ{a b}h=>List.countP_mono_left λc _ hc=>fW hc h;have s:∀{a b:Γ Int}(H:a∈l),lexLt a b=true->(l.countP λc=>lexLt c a)<l.countP λc=>lexLt c b:=λ{a b}H h=>by
  have k:∀m:Γ (Γ Int),a∈m->(m.countP λc=>lexLt c a)<m.countP λc=>lexLt c b:=λm M=>by
   induction m with
   |nil=>cases M
   |cons x m i =>
    rw[List.countP_cons,List.countP_cons];have O:(m.countP λc=>lexLt c a)<=m.countP λc=>lexLt c b:=List.countP_mono_left λc _ hc=>fW hc h;rcases List.mem_cons.mp M with e|M
    .subst e;rw[ix,h];simp?[yN,qL,xG];lia
    .have:=i M;by_cases X:lexLt x a=true
     .rw[X,fW X h];simp?[xG];lia
     .have d:lexLt x a=false:=by simpa using X
      rw[d];simp?[yN,qL];split<;>lia
  exact k l H
 cases e:lexLt a b with
 |true=>exact(yA (by have:=s H e;lia)).symm
 |false =>
  refine(zZ ?_).symm;cases E:lexLt b a with
  |true=>have:=o E;lia
  |false=>rw[mC e E];lia
section
variable {prog:ε}{w:δ}{A:ξ}{E:Θ->Ξ->Prop}{s:Ξ}
def BV:∀{us S:Γ Θ}{ns M:Γ Int}i,IntsAre us ns->IntsAre S M->Q (lexLt ns M) s->W.KatLex prog w A true (decide (ns.length<M.length)) Q (us.zip S) i s
 |[],[],_,_,i,.nil,.nil,h=>h
 |[],_::_,_,_,i,.nil,.cons _ _ _,h=>by
  exact h
 |_::_,[],_,_,i,.cons _ _ _,.nil,h=>by
  exact h
 |_::us,_::S,_,_,i,.cons n t r1,.cons m u r,h=>by
  have h:Q (HT.lexLt _ _) s:=h;rw[HT.fN]at h;refine W.kat_cons<|SeqAt.EqAt.int_int n t m u prog w _ _ ?_;cases e:(n==m)with
  |true =>
   have E:=eq_of_beq e;rw[yK E]at h;have:=BV (i+1) r1 r h;simp ;exact this
  |false =>
   rw[yM λq=>by grind]at h;apply W.kat_no;by_cases H:(true&&i==0)=true
   .rw[H];exact oneLt_int h
   .rw[(show(true&&i==0)=false by grind)];exact W.kat_one _ _<|lt_int h
end
def ai(ns:Γ Int):D:=.tuple<|ns.map PyData.int
def intsOf:Γ D->Δ (Γ Int)
 |[]=>↑[]
 |.int n::r=>(intsOf r).map (n::·)
 |_::_=>none
def eX:∀{ds:Γ D}{ns:Γ Int},intsOf ds=↑ns->ds=ns.map PyData.int
 |[],ns,h=>by cases h;rfl
 |d::r,ns,h=>by
  cases d<;>simp?[intsOf]at h<;>try cases h
  let(n,H,rfl):=af h;rw[eX H];rfl
def bO:∀ns ,intsOf (ns.map PyData.int)=↑ns
 |[]=>rfl
 |n::ns=>by simp[intsOf,bO ns]
def Fj:D->Δ (Γ Int)|.tuple d=>(intsOf d).bind λn=>if n=[]then none else↑n|_=>none
def Dr(h:Fj d=↑ns):d=ai ns/\ns≠[]:=by
 cases d<;>try cases h
 let(m,a,H):=bs h;split at H
 .cases H
 .rename_i n;cases H;rw[eX a];exact{rfl,n}
def HI(h:ns≠[]):Fj (ai ns)=↑ns:=by
 simp?[ai,Fj,bO,zA];rw[yM h]
def rowsOf:Γ D->Δ (Γ<|Γ Int)
 |[]=>↑[]
 |d::r=>(Fj d).bind λn=>(rowsOf r).map (n::·)
def r8:∀{ds:Γ D}{n:Γ _},rowsOf ds=↑n->ds=n.map ai/\∀ns∈n,ns≠[]
 |[],n,h=>by cases h;simp
 |d::r,n,h=>by
  let(ns,H,h):=bs h;let(t,a,rfl):=af h;let(e,N):=Dr H;let(E,b):=r8 a
  grind
def tm:∀{n:Γ _},(∀ns∈n,ns≠[])->rowsOf (n.map ai)=↑n
 |[],_=>rfl
 |ns::r,h=>by
  simp[zI,rowsOf,HI<|h ns zE,zA,tm λm H=>h m<|zC _ H,zB]
structure Br(h:Heap)(v:Value)(ns:List Int):Prop where
 ex:∃ (a:Ψ) (o:Obj) (its:Array Θ) (n:Nat),v=.ref a/\h.get? a=↑o/\o.cls=.type "tuple"/\o.data=.seq its n/\IntsAre its.toList ns
def Br.keep(r:Br h v ns)(k:∀b o,h.get? b=↑o->h'.get? b=↑o):Br h' v ns:=let ⟨a,o,i,n,e,E,c,d,f⟩:=r.ex;{a,o,i,n,e,k _ _ E,c,d,f}
def CH:∀{vs:Γ Θ}{N:Γ (Γ Int)},Paired (Br h) vs N->(∀ns∈N,ns≠[])->∃fs:Γ Θ,W.KatTups h vs fs/\fs.length=vs.length/\∀f∈fs,∃n t,f=Value.int n t
 |_,_,.nil,_=>{[],trivial,rfl,λ_ z=>by grind}
 |_,_,.cons (a:=v) (b:=ns) r p,H=>by
  let(fs,k,l,u):=CH p λm M=>H m<|zC _ M;let(a,o,i,n,rfl,E,c,d,e):=r.ex;cases s:i.toList with
  |nil =>
   rw[s]at e;cases e;exact absurd rfl (H [] zE)
  |cons f R =>
   rw[s]at e;cases e with
   |cons m t w =>
    have j:i[0]?=↑(.int m t):=by
     have:i.toList[0]?=↑(.int m t):=by rw[s];rfl
     simpa using this
    exact⟨.int m t::fs,.cons E c d j k,by simp[l],λg G=>by
     rcases List.mem_cons.mp G with q|q
     .exact{m,t,q}
     .exact u g q⟩
def nU:∀{l:Γ α}{m:Γ β}{i:Nat},Paired R l m->i<l.length->R (l.getD i d) (m.getD i d')
 |_,_,i,.nil,h=>by simp at h
 |_,_,0,.cons r _,_=>r
 |_,_,i+1,.cons _ p,h=>by simpa using nU p (by simpa using h)
def Ck(L:Srt.adX s.heap l vs)(p:Paired (Br s.heap) vs I)(N:∀ns∈I,ns≠[])(e:vs.length<64)
  (h:∀(h':ι)(D:Ψ)(c:Nat),(∀b o,s.heap.get? b=↑o->h'.get? b=↑o)->s.heap.objs.size<=D->h'.get? D=↑(seqObj "list" (Srt.aaI (λi=>rk I<|I.getD i []) vs).toArray c)->Q (.ref D) {s with heap:=h'}) :
  wpAny (model prog w) A (call (.builtin "sorted") [.ref l]) Q E s:=by
 refine Srt.adY L e _ (tuples' true) (λy h' k K q=>?_) (λy h' k i j C z J q=>?_) h
 .let(fs,t,H,F):=CH (Paired.afT p λ_ _ r=>r.keep k) N;refine W.kat_kind (T:=.type "int") t (by lia) (λv V=>?_) (by rfl) q;let(n,t,rfl):=F v V;exact .of_pure rfl
 .have H:=p.length;let(a,o,f,n,x,m,M,u,g):=((nU p z).keep k).ex;let(b,P,S,O,B,f1,f2,f3,f4):=((nU p J).keep k).ex;rw[W.kas_ask,x,B];have d:I.getD i []∈I:=by
   rw[zG,zK<|by lia];apply xZ
  have G:C (lexLt (I.getD i [])<|I.getD j []) {s with heap:=h'}:=by
   rw[QV d];exact q
  apply W.kat_lt m u f1 f3;have:=BV (prog:=prog) (w:=w) (A:=A.in1.in1) 0 g f4 G;rw[(show f.size=(I.getD i []).length by have:=IntsAre.length g;omega),(show S.size=(I.getD j []).length by have:=IntsAre.length f4;omega)];exact this
def CZ(z:Nat->Int)(l:Γ α)(d:α):Γ α:=if l.length<2 then l else(SP.run (SP.jw z)<|W.kas_sort l.length).toList.map λi=>l.getD i d
def md(l:Γ α)(d:α):(List.range l.length).map (λi=>l.getD i d)=l:=by
 apply jE
 .simp
 .intro i a H;simp[H]
def nZ(z:Nat->Int)(l:Γ α)(d:α):(CZ z l d).Perm l:=by
 unfold CZ;split
 .rfl
 .have:=((SP.kg (z:=z) (n:=l.length)<|by lia).1).map λi=>l.getD i d;rw[md]at this;lia
def NV(s:Γ (Γ Int)):CZ (λi=>rk s<|s.getD i []) s []=v7 s:=by
 refine K2 (nZ _ _ _) ?_;unfold CZ;split
 .rename_i h
  match s,h with
  |[],_=>exact List.Pairwise.nil
  |[a],_=>exact List.pairwise_singleton _ _
 .rename_i h;let(p,S):=SP.kg (z:=λi=>rk s<|s.getD i []) (n:=s.length) (by lia);rw[jB]at S ⊢;refine S.imp_of_mem λ{i j}I b J=>?_;have H:j<s.length:=by have:=p.mem_iff.mp b;simpa using this
  unfold lexLe;rw[QV (l:=s) (a:=s.getD j []) (by rw[zG,zK H];exact xZ _)];simp?[yO,xA];lia
def Ci{K:Φ}(z:Nat->Int)(r:aw K HF ds vs):aw K HF (CZ z ds .none) (CZ z vs .non):=by
 unfold CZ;rw[r.length];split
 .lia
 .let(p,_):=SP.kg (n:=ds.length) (by lia);have k:∀l:Γ Nat,(∀i∈l,i<ds.length)->aw K HF (l.map λi=>ds.getD i .none) (l.map λi=>vs.getD i .non):=λl=>by
   induction l with
   |nil=>exactλ_=>.nil
   |cons i l I =>
    intro L;have H:=L i zE;let(v,e,E):=r.getD<|zK H;refine aw.cons ?_<|I λj J=>L j<|zC _ J;dsimp only;rw[zG,zG,e,zK H];exact E
  exact k _ λi H=>by have:=p.mem_iff.mp H;simpa using this
def AZ(z:Nat->Int)(r:aO vs us):aO (CZ z vs .non) (Srt.aaI z us):=by
 unfold CZ Srt.aaI;rw[r.length];split
 .exact r
 .rename_i h;let(p,_):=SP.kg (z:=z) (n:=us.length) (by lia);have k:∀l:Γ Nat,(∀i∈l,i<vs.length)->aO (l.map λi=>vs.getD i .non) (l.map λi=>us.getD i Value.none):=λl=>by
   induction l with
   |nil=>exactλ_=>.nil
   |cons i l I =>
    intro L;have H:=L i zE;let(v,e,E):=r.get<|zK H;refine .cons ?_<|I λj J=>L j<|zC _ J;dsimp only;rw[zG,zG,e,zK H];exact E
  exact k _ λi H=>by have:=p.mem_iff.mp H;rw[r.length];simpa using this
def Oo(z:Nat->Int)(s:Γ _):CZ z (s.map ai) .none=(CZ z s []).map ai:=by
 unfold CZ;rw[zD];split
 .rfl
 .rw[zM];let(p,_):=SP.kg (n:=s.length) (by lia);refine yH λi I=>?_;have H:=by have:=p.mem_iff.mp I;simpa using this
  simp[H]
def Gg(I:Inv X pins σ H s)(sm:aA HF H):∀{S:Γ (Γ Int)}{vs:Γ V}{us:Γ Θ},aw X.K HF (S.map ai) vs->aO vs us->Paired (Br s.heap) us S
 |[],_,_,h,r=>by rw[h.nil_inv]at r;cases r;exact .nil
 |N::S,_,_,h,r=>by
  let(v,j,rfl,a,b):=h.cons_inv;cases r with
  |cons r f =>
   refine .cons ?_<|Gg I sm b f;unfold ai at a;simp?[Rep]at a;let(p,w,rfl,c,R):=a;cases r;let(i,g,(o,O,hc,n,d),_):=I.tuple<|aG sm c;have:w=N.map V.int:=by
    have k:∀{N:Γ Int}{w:Γ V},aw X.K HF (N.map PyData.int) w->w=N.map V.int:=λ{N}=>by
     induction N with
     |nil=>exactλh=>h.nil_inv
     |cons n N e =>
      intro w h;let(v,r,rfl,a,b):=h.cons_inv;simp?[Rep]at a;rw[a,e b];rfl
    exact k R
   subst this;exact{p,o,i.toArray,n,rfl,O,hc,d,intsAre_of g}
def pZ:fF X (.builtin "sorted") (λxs H Q=>∃ (HF:Hp) (a:Ψ) (vs:Γ V) (N:Γ _),xs=[.ref a]/\aA HF H/\(iL X.K HF a vs\/iF X.K HF a vs)/\aw X.K HF (N.map ai) vs/\(∀ns∈N,ns≠[])/\N.length<64 /\
  ∀Dn us,H Dn=none->aw X.K HF ((v7 N).map ai) us->Q (.ref Dn) (upd H Dn<|.lst us)):=by
 intro P s t H xs us Q I r h;let(HF,a,vs,N,rfl,sm,b,R,k,j,q):=h;let(u,rfl,x):=vals1 r;cases x;obtain⟨S,v,p,z⟩:∃S ,aO vs S/\Srt.adX s.heap a S/\vs.length<=sizeLine:=by
  rcases b with b|b
  .let(S,v,p,z):=I.list<|sm.seq b;let(o,O,hc,n,d):=p.isList;exact{S,v,{o,"list",n,.inl rfl,O,hc,d},z}
  .let(S,v,p,z):=I.tuple<|aG sm b;let(o,O,hc,n,d):=(p)
   exact{S,v,{o,"tuple",n,.inr rfl,O,hc,d},z}
 have f:=R.length;rw[zD]at f;refine Ck p (Gg I sm R v) k (by have:=v.length;lia) λm Dn c l D e=>?_;have g:=Ci (λi=>rk N<|N.getD i []) R;rw[Oo,NV]at g;refine{.ref Dn,_,I.laid (o:=.lst _) l D {?_,_,c,(AZ (λi=>rk N<|N.getD i []) v),e},rfl,q Dn _ (I.hok.fresh D) g};rw[(nZ _ _ _).length_eq];lia
def iK:Γ D->Δ (Γ D):=λs=>(oneOf s).bind λd=>match d with
 |.list e=>(rowsOf e).bind λn=>if n.length<64 then↑((v7 n).map ai)else none
 |.tuple e=>(rowsOf e).bind λn=>if n.length<64 then↑((v7 n).map ai)else none
 |_=>none
def Io(B:sx X "sorted" (.builtin "sorted"))(A:DA X [e] fs)(l:starEach [e] X.env=(false,eval e X.env)::starEach [] X.env:=by rfl):DF X (.Call (.Name "sorted" p) [e] [] pos) (o6 iK fs):=
 L5 pZ (by
  intro F H o S d Q sm r g q;let(x,m,g):=bs g;rw[iB m]at r;have k:∀(b:θ)s,aw X.K F [if b then .tuple s else .list s] S->((rowsOf s).bind λn=>if n.length<64 then↑((v7 n).map ai)else none)=↑d->(∃ (F:Hp) (a:Ψ) (u:Γ V) (n:Γ _),S=[.ref a]/\aA F H/\(iL X.K F a u\/iF X.K F a u)/\aw X.K F (n.map ai) u/\(∀N∈n,N≠[])/\n.length<64/\∀Dn w,H Dn=none->aw X.K F ((v7 n).map ai) w->Q (.ref Dn) (upd H Dn<|.lst w)):=λb s r g=>by
   let(n,j,g):=bs g;split at g
   .rename_i c;cases g;let(v,t,rfl,a,E):=r.cons_inv;rw[E.nil_inv];let(f,i):=r8 j;obtain⟨p,u,rfl,h,R⟩:∃p u,v=.ref p/\(iL X.K F p u\/iF X.K F p u)/\aw X.K F s u:=by
     cases b
     .let(p,u,rfl,h,R):=a;exact{p,u,rfl,.inl h,R}
     .let(p,u,rfl,h,R):=a;exact{p,u,rfl,.inr h,R}
    rw[f]at R;exact{F,p,u,n,rfl,sm,h,R,i,c,λDn w D=>q Dn w _ F (.own sm D) D (sm.free D) av}
   grind
  cases x<;>try cases g
  .exact k false _ r g
  .exact k true _ r g) B A (by decide) (by rfl) l rfl
end Dl
namespace En
open PySem PyProof.Rows
open AutoSeq1 (wpAny_loadPart')
def acj(H:s.heap.IsTupleIter j t k)(ht:s.heap.IsTuple t its)(V:its[k]?=↑v)
  (q:∀g,g.IsTupleIter j t (k+1)->Heap.SameBut j s.heap g->Q v {s with heap:=g}):wpAny (model prog w) A (Builtin.SmallTypes.nextOf<|.ref j) Q E s:=by
 let(o,G,c,d):=id H;let(O,T,_,n,D):=ht;refine zV<|qB H.typeIs jO<|qS jO H.typeIs F.entry_tuple_iterator_next (zV (m:=field _ 0)<|qP G d rfl (zV<|qP G d rfl (zV<|kC T D ?_)))<|F.args_tuple_iterator_next_1 _;simp[yG,V];refine zV<|wpAny_setField G d (by simp)<|zW {v,rfl,zW<|q _ {_,Heap.get?_update_self _ G<|Obj.isFreed_of_fields<|Obj.data_mapFields d _,(Obj.cls_mapFields ..).trans c,?_}<|.update ..};rw[Obj.data_mapFields d];rfl
def acL{Q:Θ->Ξ->Prop}(a:A.handled=none)(H:s.heap.IsTupleIter j t k)(ht:s.heap.IsTuple t its)(v:its[k]?=none)
  (e:∀g x,Heap.ExtBut j s.heap g->(∃o,g.get? x=↑o/\o.cls=.type "StopIteration")->E (.ref x) {s with heap:=g}):wpAny (model prog w) A (Builtin.SmallTypes.nextOf<|.ref j) Q E s:=by
 let(O,G,c,d):=id H;let(b,T,_,n,D):=ht;refine zV<|qB H.typeIs jO<|qS jO H.typeIs F.entry_tuple_iterator_next (zV (m:=field _ 0)<|qP G d rfl (zV<|qP G d rfl (zV<|kC T D ?_)))<|F.args_tuple_iterator_next_1 _;simp[yG,v];refine zV<|wpAny_rule<|zV<|wpAny_setField G d (by simp)<|zV<|zV<|qJ (zV<|wpAny_of_eq (by rfl)<|qJ (zV<|wpAny_handled ?_)<|by size_fits) (by size_fits);rw[a];exact zV<|zW<|wpAny_throw<|e _ _ (((Heap.SameBut.update ..).extBut.push _).push _) {_,zX _ rfl,rfl}
def ab0(t:Ψ)(i:Array Θ)(n:Nat)(dd:Δ Ψ)(S:Array (Δ Θ)) :
  Meets (Builtin.«enumerate.__new__» {[.type "enumerate",.ref t],[]}) (λ_ R s=>s.heap.get? t=some {cls:=.type "tuple",dict:=dd,data:=.seq i n,slots:=S} /\
   R (.ok<|.ret<|.ref (s.heap.push {cls:=.type "tuple_iterator",data:=.fields #[.ref t,.int 0 0]}).objs.size)
    {s with heap:=(s.heap.push {cls:=.type "tuple_iterator",data:=.fields #[.ref t,.int 0 0]}).push {cls:=.type "enumerate",data:=.fields #[.none,.bool false,.ref s.heap.objs.size,rawInt 0,.none,.none]}}):=
 .of_wp λp w A R s h=>by
  let(H,g,d,k,o):=s;let(l,h):=h;have a:=sub_enumerate;have L:Heap.IsTuple (Shared.heap {H,g,d,k,o}) t i:={_,l,rfl,n,rfl}
  wp_walk using wpAny_loadPart' l
  refine wpAny_stack_any λst=>zW ?_;split
  .rename_i c _ _ _ _ _;cases(c==Value.type "enumerate")
   .wp_walk using wpAny_loadPart' l,xQ L
    exact{_,rfl,h}
   .wp_walk using wpAny_loadPart' l,xQ L
    exact{_,rfl,h}
  .wp_walk using wpAny_loadPart' l,xQ L
   exact{_,rfl,h}
def ack(ht:s.heap.IsTuple t its)
  (h:∀h',IsEnum h' (s.heap.objs.size+1) s.heap.objs.size 0 .none->h'.IsTupleIter s.heap.objs.size t 0->h'.objs.size=s.heap.objs.size+2->(∀b o,s.heap.get? b=↑o->h'.get? b=↑o)->Q (.ref<|s.heap.objs.size+1) {s with heap:=h'}) :
  wpAny (model prog w) A (call (.type "enumerate") [.ref t]) Q E s:=by
 let((c,d,D,S),l,hc,n,H):=ht;subst hc H;refine callType_new F.called_enumerate (by rfl) (F.typeCall_enumerate_1 _) (F.newCall_enumerate_1 _) (λobj=>F.args_object_init_2 obj _) F.entry_enumerate_new (ab0 t its n d S) {l,?_};have e:=zX (s.heap.push {cls:=.type "tuple_iterator",data:=.fields #[.ref t,.int 0 0]}) (o:={cls:=.type "enumerate",data:=.fields #[.none,.bool false,.ref s.heap.objs.size,rawInt 0,.none,.none]}) rfl;rw[(show(s.heap.push {cls:=.type "tuple_iterator",data:=.fields #[.ref t,.int 0 0]}).objs.size=s.heap.objs.size+1 by simp)]at e ⊢;refine{{_,e,rfl},h _ e {_,zU _<|zX _ rfl,rfl,rfl} ?_ λb o x=>zU _<|zU _ x};simp
end En
namespace Dl
open PySem L2 PySem.Spec PyProof.Rows
section
variable {ch:Γ Ψ}
def BZ(I:Inv X pins σ H s)(a:∀b∈ch,dM X pins H b)(k:∀b o,b∉ch->s.heap.get? b=↑o->h'.get? b=↑o){T:Ψ}{S:Γ Θ}{xs:Γ V}(t:s.heap.objs.size<=T)(ht:Gx h' T S.toArray)
  (R:aO xs S)(Z:xs.length<=sizeLine):Inv X pins σ (upd H T<|.tup xs) {s with heap:=h',toks:=t'}:=by
 have N:∀b o,H b=↑o->b≠T:=λb o e=>aS e<|I.hok.fresh t;have d:∀b o,H b=↑o->b∉ch:=λb o e z=>by rw[(a b z).1]at e;grind
 refine I.step (λb B=>?_) (λb o _ _ hc e _=>k b o hc e) (λb o _ _ hc e _=>{o.slots,k b o hc e}) (λb o _ e n=>by rw[ar<|(λb o e=>yQ (zP (zY e) t):∀b o,s.heap.get? b=↑o->b≠T) b o e];lia)
  (λb o hc e=>{o,k b o hc e}) (λb y e=>by rw[ar<|N b _ e];lia) (λb o u e=>by rw[ar<|N b _ e];lia) (.kept (λb u ⟨q,z⟩=>k b u<|d b _ z) λb u e _=>by rw[ar<|N b _ e];lia) (λm M=>?_) (λb u e=>?_) I.bare
 .let(f,f1,f2,f3,f4,f5):=a b B;exact{f3,f1,f4,f5}
 .let(o,E,p,O,r):=M;exact{o,E,p,k _ o (λz=>(a _ z).2.1 rfl) O,r}
 .by_cases B:b=T
  .subst B;rw[av]at e;cases e;exact{Z,S,R,ht}
  .rw[ar B]at e;refine(I.hok b u e).aaH (λc v hc=>k c v ?_) (λ_ q=>?_) λc v q _=>?_
   .grind
   all_goals (rw[ar<|N _ _ q];lia)
def XJ(I:Inv X pins σ H s)(f:dM X pins H b)(h:X.K.lookup a=↑o):a≠b:=by
 rintro rfl;have B:=I.ok.mod.kin a o h;rcases f.2.2.2.1 with z|z
 .exact I.ok.abT a o B z
 .exact absurd (zP (zY (I.ok.bs a o B).1) z)<|qC _
def Tc(I:Inv X pins σ H s)(f:dM X pins H b)(h:iL X.K H a xs):a≠b:=by
 rcases h with (h|⟨o,h⟩)|⟨o,its,n,h,_⟩
 .exact aS h f.1
 .exact aS h f.1
 .exact XJ I f h
def RH(I:Inv X pins σ H s)(f:dM X pins H b)(h:iF X.K H a xs):a≠b:=by
 rcases h with (h|⟨o,h⟩)|⟨o,its,n,h,_⟩
 .exact aS h f.1
 .exact aS h f.1
 .exact XJ I f h
end
def Zl(q:Hp->Γ V->Prop):It:={λi H=>∃s x,q H s/\s[i]?=↑x,λi H v a=>∃T y,v=.ref T/\H T=none/\a=upd H T (.tup [.int (i:Nat),y])/\∀s,q H s->s[i]?=↑y,λi H=>∃s,q H s/\s.length<=i}
def cI(k:Nat):Γ D->Γ D
 |[]=>[]
 |d::s=>.tuple [.int (k:Nat),d]::cI (k+1) s
def yt:∀{ds:Γ D}{k i:Nat}{d:D},(cI k ds)[i]?=↑d->∃x,ds[i]?=↑x/\d=.tuple [.int ((k+i:Nat):Int),x]
 |[],k,i,d,h=>by simp[cI]at h
 |x::ds,k,0,d,h=>by simp[cI]at h;exact{x,rfl,h.symm}
 |x::ds,k,i+1,d,h=>by
  simp?[cI,yX]at h;let(y,H,a):=yt h;refine{y,by simpa using H,?_};rw[a,show k+1+i=k+(i+1)by lia]
def wX:∀ds k,(cI k ds).length=ds.length
 |[],k=>rfl
 |x::ds,k=>by simp[cI,wX ds _]
def GL{K:Φ}(h:I HF vs)(mo:∀H H',aA H H'->I H vs->I H' vs)(r:aw K HF ds vs):wu K (Zl I) HF (cI 0 ds) where
 go:=λi d a A e S s=>by
  let(x,X,rfl):=yt e;rw[jA];let(v,V,R):=r.getD X;have q:=mo _ _ s<|mo _ _ S h;refine{{vs,v,q,V},λy f ⟨T,z,E,t,b,Y⟩=>?_};have:=Y vs q;rw[V]at this;cases this;subst E b;exact{_,.new s t,eI (s.free t)<|aw.cons (by rfl)<|aw.cons (R.mono S) .nil}
 stop:=λa A S s=>{vs,mo _ _ s<|mo _ _ S h,by rw[wX,r.length];apply yL}
def Y2(S a:Hp->Γ V->Prop):It:=⟨λi H=>∃s Y x y,S H s/\a H Y/\s[i]?=↑x/\Y[i]?=↑y,
 λi H v b=>∃T x y,v=.ref T/\H T=none/\b=upd H T (.tup [x,y])/\(∀s,S H s->s[i]?=↑x)/\∀Y,a H Y->Y[i]?=↑y,
 λi H=>∃s Y,S H s/\a H Y/\(s.length<=i\/Y.length<=i)⟩
section
variable {ch:Γ Ψ}
def GV(I:Inv X pins σ H s)(a:∀b∈ch,dM X pins H b)(k:∀b o,b∉ch->s.heap.get? b=↑o->h'.get? b=↑o):Inv X pins σ H {s with heap:=h',toks:=t'}:=by
 have N:∀b o,H b=↑o->b∉ch:=λb o e z=>by rw[(a b z).1]at e;cases e
 refine I.step (g':=s.gens) (d':=s.drawn) (ch:=ch) (λb B=>?_) (λb o _ _ hc e _=>k b o hc e) (λb o _ _ hc e _=>{o.slots,k b o hc e}) (λb o _ e n=>n)
  (λb o hc e=>{o,k b o hc e}) (λb y e=>e) (λb o u e=>e) (.kept (λb u ⟨q,z⟩ e=>k b u (N b _ z) e) λb u e _=>e) (λm M=>?_) (λb u e=>?_) I.bare
 .let(f,f1,f2,f3,f4,f5):=a b B;exact{f3,f1,f4,f5}
 .let(o,E,p,O,r):=M;exact{o,E,p,k _ o (λz=>(a _ z).2.1 rfl) O,r}
 .refine (I.hok b u e).aaH (λc v hc q=>k c v ?_ q) (λ_ q=>q) λc v q _=>q;rcases hc with z|z
  .rw[z];exact N b u e
  .exact N c _ z
end
structure ZAp(z TI TO i1 i2:Addr):Prop where
 a1:TI≠z
 a2:TO≠z
 a3:i1≠z
 a4:i2≠z
 a5:TI≠TO
 a6:TI≠i1
 a7:TI≠i2
 a8:TO≠i1
 a9:TO≠i2
 a0:i1≠i2
def nO:Γ D->Γ D->Γ D
 |x::s,y::Y=>.tuple [x,y]::nO s Y
 |_,_=>[]
def uf:∀{xs ys:Γ D}{i:Nat}{d:D},(nO xs ys)[i]?=↑d->∃x y,xs[i]?=↑x/\ys[i]?=↑y/\d=.tuple [x,y]
 |[],_,i,d,h=>by simp[nO]at h
 |_::_,[],i,d,h=>by simp[nO]at h
 |x::xs,y::ys,0,d,h=>by simp[nO]at h;exact{x,y,rfl,rfl,h.symm}
 |x::xs,y::ys,i+1,d,h=>by
  simp?[nO,yX]at h;let(a,b,H,c,e):=uf h;exact{a,b,by simpa using H,by simpa using c,e}
def pA:∀xs ys,(nO xs ys).length=min xs.length ys.length
 |[],_=>by rfl
 |_::_,[]=>by rfl
 |x::xs,y::ys=>by simp[nO,pA xs ys]
def JI{K:Φ}(c:I HF vs)(m:∀H H',aA H H'->I H vs->I H' vs)(f:U HF us)(M:∀H H',aA H H'->U H us->U H' us)(r1:aw K HF xs vs)(r:aw K HF ys us) :
  wu K (Y2 I U) HF (nO xs ys) where
 go:=λi d R z e s S=>by
  let(x,y,X,Y,rfl):=uf e;let(v,V,p):=r1.getD X;let(u,g,o):=r.getD Y;have q:=m _ _ S<|m _ _ s c;have q2:=M _ _ S<|M _ _ s f;refine{{vs,us,v,u,q,q2,V,g},λw A z=>?_};let(T,a,b,j,t,k,l,n):=z;have E:=l vs q;have B:=n us q2;rw[V]at E;rw[g]at B;cases E;cases B;subst j k;exact{_,.new S t,eI (S.free t)<|aw.cons (p.mono s)<|aw.cons (o.mono s) .nil}
 stop:=λR z s S=>{vs,us,m _ _ S<|m _ _ s c,M _ _ S<|M _ _ s f,by rw[pA,r1.length,r.length];lia}
def cut(xs:Γ α)(lo hi:Δ Int):Γ α:=(xs.drop<|HT.gm xs.length 0 lo).take<|HT.gm xs.length xs.length hi-HT.gm xs.length 0 lo
def NT(xs:Γ α)(lo hi:Δ Int):(cut xs lo hi).length<=xs.length:=by
 unfold cut;rw[jT,qF];lia
def um{K:Φ}(r:aw K H ds vs)(lo hi:Δ Int):aw K H (cut ds lo hi) (cut vs lo hi):=by
 unfold cut;rw[r.length];exact(r.drop _).take _
section
def Gw{vl:Θ}{lo:Δ Int}(ht:IsTup s.heap t its)(a:s.heap.IsSliceOf sl vl U .none)(pl:IsPart vl lo)(p:IsPart U hi)
  (hw:HT.gm its.size 0 lo=0/\HT.gm its.size its.size hi=its.size)(h:Q (.ref t) s):wpAny (model prog w) A (getItem (.ref t)<|.ref sl) Q E s:=by
 let(o,S,H,b):=id a;unfold getItem
 try with_reducible apply xW
 refine zV<|wpAny_sequenceKey ht.typeIs (by rfl)<|zV<|qB ht.typeIs jC<|qS jC ht.typeIs entry_tuple_getitem (zV (m:=Builtin.Tuple.tupleItemsOf _)<|tupleItemsOf_ ht<|zV<|wH (⟨o,S,H⟩:s.TypeIs (.ref sl) _)<|zV<|HT.js a pl p ?_)<|args_tuple_getitem _ _;show wpAny _ _ (if((HT.gm its.size 0 lo:Int)==0&&1==1&&(HT.gm its.size its.size hi-HT.gm its.size 0 lo)==its.size)=true then _ else _) _ _ s;rw[hw.1,hw.2,yK<|by simp];exact zV<|zV<|wH ht.typeIs<|zW<|zV<|wpAny_rule<|zW {_,rfl,zW h}
def Y8(K:Φ):V->Δ Int->Δ Int->Hp->VK->Prop:=λx l i H Q=>∃a s,x=.ref a/\iF K H a s/\(cut s l i=s->Q (.ref a) H)/\∀p,H p=none->Q (.ref p) (upd H p<|.tup<|cut s l i)
def UR:QT X (Y8 X.K):=by
 intro p s e H x v vl V l b L Q I R c P u h;let(a,S,rfl,d,q,q2):=h;by_cases hw:HT.gm S.length 0 l=0/\HT.gm S.length S.length b=S.length
 .cases R;let(i,r,ht,z):=I.tuple d;have n:i.toArray.size=S.length:=by rw[zH];exact r.length.symm
  refine{"tuple",_,PyProof.Rows.slot_tuple_getitem.lookup,ht.typeIs,Gw ht c P u (by rw[n];exact hw) {.ref a,H,I,rfl,q ?_}};unfold cut;rw[hw.1,hw.2,List.drop_zero,Nat.sub_zero,List.take_length]
 .exact SN p s e H (.ref a) v vl V l b L Q I R c P u {a,S,rfl,d,hw,q2}
def Y5(K:Φ):V->Δ Int->Δ Int->Hp->VK->Prop:=λx l i H Q=>∃a s,x=.ref a/\iL K H a s/\∀p,H p=none->Q (.ref p) (upd H p<|.lst<|cut s l i)
def Dg(lo hi:Δ Int)(n:Nat):sliceBounds lo hi none n=(((HT.gm n 0 lo:Nat):Int),((HT.gm n n hi:Nat):Int),1):=by
 have H:(1:Int) > 0:=by lia
 refine Prod.ext ?_<|Prod.ext ?_ rfl
 .cases lo with
  |none=>simp[sliceBounds,HT.gm]
  |some x =>
   by_cases h:x<0
   .simp?[sliceBounds,HT.gm,kJ,H,xG,yK h];lia
   .simp?[sliceBounds,HT.gm,kJ,H,xG,yM h];lia
 .cases hi with
  |none=>simp[sliceBounds,HT.gm]
  |some x =>
   by_cases h:x<0
   .simp?[sliceBounds,HT.gm,kJ,H,xG,yK h];lia
   .simp?[sliceBounds,HT.gm,kJ,H,xG,yM h];lia
def Nh:QT X (Y5 X.K):=by
 intro P s f H x v vl V l b e Q I R c L u h;let(a,S,rfl,d,q):=h;cases R;let(i,r,p,z):=I.list d;have n:=r.length;refine{"list",_,slot_list_getitem.lookup,p.isList.typeIs,wpAny_getItem_list_slice p.isList c L u .none (by simp) ?_<|by grind};rw[W.kmk_pick_nat i.toArray<|Dg l b i.toArray.size];exact{.ref s.heap.objs.size,_,I.adT (show aO (cut S l b) (cut i l b)by rw[cut,n];apply(r.drop _).take)<|yD (NT S l b) z,rfl,q _ I.fresh}
def tDO(K:Φ)(f:Env->Δ (Δ Int)):TO:=λd H Q=>∃F c o,aA F H/\cK K F c d/\f c=↑o/\∀b a,bo F H a b->Q o b
def DO(X:Cx)(e:Δ γ)(f:Env->Δ (Δ Int)):Prop:=PO X e<|tDO X.K f
def gK:Env->Δ (Δ Int):=λ_=>↑none
def gI:D->Δ Int|.int i=>↑i|_=>none
def rN(f:Env->Δ D):Env->Δ (Δ Int):=λa=>(f a).bind λd=>(gI d).map some
def Ou:DO X none gK:=λp s a H Q I z=>by let(F,b,o,sm,e,f,q):=z;exact Oa p s a H Q I (by cases f;exact q H F<|.refl sm)
def M7(h:DE X e f):DO X (↑e) (rN f):=λp s l H Q I ⟨c,k,o,sm,E,F,q⟩=>FN h p s l H Q I (by
 let(d,D,F):=bs F;let(i,j,rfl):=af F;cases d<;>try cases j
 exact{c,k,_,sm,E,D,λv b a g r1=>{_,by exact r1,q b a g}})
variable {lo hi:Δ γ}{fl fh:Env->Δ (Δ Int)}
def fQ(g:D->Δ Int->Δ Int->Δ β)(fa:Env->Δ D)(fl fh:Env->Δ (Δ Int)):Env->Δ β:=λa=>(fa a).bind λx=>(fl a).bind λl=>(fh a).bind λh=>g x l h
end
def BB:∀{l:Γ α},(∀x∈l,f x=g x)->l.filterMap f=l.filterMap g
 |[],_=>rfl
 |x::l,h=>by rw[jD,jD,h x zE,BB λy H=>h y<|zC _ H]
def IT(xs:Γ Θ):((List.range xs.length).filterMap λ(k:Nat)=>xs.toArray[((xs.length:Int)-1+k*(-1)).toNat]?)=xs.reverse:=by
 have e:∀k∈List.range xs.length,xs.toArray[((xs.length:Int)-1+k*(-1)).toNat]?=xs.reverse[k]?:=λk hk=>by
  have H:=by simpa using hk
  have:((xs.length:Int)-1+k*(-1)).toNat=xs.length-1-k:=by lia
  simp_all
 rw[BB e];have y:∀(l:Γ Θ),(List.range l.length).filterMap (λk=>l[k]?)=l:=λl=>by
  induction l with
  |nil=>rfl
  |cons x l i =>
   rw[zL,vK,jD];simp?[xP];rw[List.filterMap_map]
   congr 1
 grind
def NK{prog:ε}{w:δ}{A:ξ}{E:Θ->Ξ->Prop}{s:Ξ}{t l:Ψ}{i:Γ Θ}{k:Tok}{Q:Θ->Ξ->Prop}(ht:IsTup s.heap t i.toArray)(b:s.heap.IsSliceOf l .none .none (.int (-1) k))
  (z:i.length<=sizeLine)(h:Q (.ref s.heap.objs.size) {s with heap:=s.heap.push {cls:=.type "tuple",data:=.seq i.reverse.toArray}}):wpAny (model prog w) A (getItem (.ref t)<|.ref l) Q E s:=by
 let(O,H,a,S):=id b;unfold getItem
 try with_reducible refine xW ?_
 first|refine zV (zW ?_)|skip
 refine zV<|wpAny_sequenceKey ht.typeIs (by rfl)<|zV<|qB (name:=Str.ofString "__getitem__") ht.typeIs jC<|qS jC ht.typeIs entry_tuple_getitem (zV (m:=Builtin.Tuple.tupleItemsOf<|.ref t)<|tupleItemsOf_ ht<|zV<|wH ({O,H,a}) ?_)<|args_tuple_getitem _ _;rw[yK<|by rfl];have p:∀{R:Int×Int×Nat->Ξ->Prop},R (((i.length:Nat):Int)-1,-1,i.length) s->wpAny (model prog w) A.in1 (Builtin.Slice.sliceApplied (.ref l)<|pure ((i.toArray.size:Nat):Int)) R E s:=λ{R}hR=>by
  unfold Builtin.Slice.sliceApplied Builtin.Slice.sliceFields;refine zV<|zV<|qP H S (x:=.none) rfl (zV<|qP H S (x:=.none) rfl (zV<|qP H S (x:=.int (-1) k) rfl (zW ?_)));refine zV<|slicePart_int ?_;show wpAny _ _ (if((-1:Int)==0)=true then _ else _) _ _ s;rw[yM<|by simp];refine zV<|slicePart_none<|zV<|slicePart_none<|zV<|zW ?_;show wpAny _ _ (match Builtin.Slice.sliceAdjust none none (-1) _ with|(o,I)=>pure (o,-1,Builtin.Slice.slicePlaces o I<|-1)) _ _ s;rw[(show Builtin.Slice.sliceAdjust none none (-1) ((i.toArray.size:Nat):Int)=(((i.length:Nat):Int)-1,-1)by rfl)];have e:Builtin.Slice.slicePlaces (i.length-1) (-1) (-1)=i.length:=by
   unfold Builtin.Slice.slicePlaces
   grind
  show wpAny _ _ (pure _) _ _ s;rw[e];exact zW hR
 refine zV<|p ?_;show wpAny _ _ (if(((i.length:Int)-1)==0&&-1==1&&i.length==i.toArray.size)=true then _ else _) _ _ s;rw[yM<|by simp,IT];exact zV<|qJ (zW {_,rfl,zW h}) (by show i.reverse.toArray.size<=sizeLine;grind)
def Sl(A:PE X a ta):PE X (.Subscript a (.Slice none none (↑(.UnaryOp .USub (.Constant (.int 1) j p4) U)) p2) pos) (λσ H Q=>ta σ H λx c=>∃b xs,x=.ref b/\iF X.K c b xs/\∀p,c p=none->Q (.ref p) (upd c p<|.tup xs.reverse)):=by
 refineλP s σ H Q I h=>Subscript_<|bZ (A P s σ H _ I h) λv u z=>?_;let(x,c,k,r1,b,xs,e,n,q):=z;subst e;cases r1;apply wpAny_Slice;refine zW<|zW<|bZ (FN (Rp Kb (Ep (j:=j) (pos:=p4)) (pos:=U)) P u σ c (λo f=>o=↑_/\f=c) k ⟨1,rfl,-1,rfl,rfl,rfl⟩) λV d z=>?_;let(o,g,l,T,E,m):=z;subst E m;cases T with
 |int _ w =>
 have i:Inv X P σ g {d with heap:=d.heap.push {cls:=.type "slice",data:=.fields #[.none,.none,.int (-1) w]}}:=l.kept λb O=>zU _;let(S,r,t,_):=i.tuple n;exact tail_any t.typeIs PyProof.Rows.slot_tuple_getitem.lookup (NK t (.new ..) (by rw[<-r.length];lia)<|{.ref _,_,i.laid (o:=.tup xs.reverse) (λb O=>zU _) (yL _) {by grind,_,(L2.aO.reverse r),.new _ _},rfl,q _ i.fresh}) (by rfl)
def Qs:D->Δ D|.tuple d=>↑(.tuple d.reverse)|_=>none
def f1(g:D->Δ D)(f:Env->Δ D):Env->Δ D:=λa=>(f a).bind g
def RA(A:DE X a fa):DE X (.Subscript a (.Slice none none (↑(.UnaryOp .USub (.Constant (.int 1) j U) I)) p2) pos) (f1 Qs fa):=aE (Sl A) λm H Q z=>by
 let(F,k,d,sm,e,f,q):=z;let(x,i,f):=bs f;refine{F,k,x,sm,e,i,λV l c g r1=>?_};cases x<;>try cases f
 let(b,v,rfl,s,r):=r1;exact{b,v,rfl,aG g.fh s,λp P=>q _ _ _ (g.trans<|.new g.fh P)<|eI (g.fh.free P) r.reverse}
end Dl
namespace HT
open PySem PyProof.Rows
section
open PySem.SeqAt
open PySem.AutoSeq1 (wpAny_loadPart')
open PySem.MeetsSeq PySem.MeetsSeq2 PySem.MeetsSeq3
end
end HT
namespace Dl
open PySem L2 PySem.Spec PyProof.Rows
def pj:D->Δ (Γ Int)|.tuple d=>intsOf d|_=>none
def oA(h:pj x=↑ns):x=.tuple (ns.map PyData.int):=by
 cases x<;>try cases h
 rw[eX h]
end Dl
namespace En
open PySem PyProof.Rows
open AutoSeq1 (wpAny_loadPart')
def acm:fillsNumberSlot (.type "tuple") "mul"=pure false:=PySem.fillsNumberSlot_seq F.slot_tuple_mul.lookup (by rfl) F.slot_tuple_rmul.lookup (by rfl)
def acn:seqRepeat? (.type "tuple")=pure (↑(.builtin "tuple.__mul__")):=by
 rw[seqRepeat?,PySem.seqSlot_of (name:="__mul__") F.slot_tuple_mul.lookup<|by rfl,PySem.seqSlot_of (name:="__rmul__") F.slot_tuple_rmul.lookup<|by rfl];rfl
def adt(a:Int)(t:Tok)(l:Ψ)(i:Array Θ)(n:Nat)(dd:Δ Ψ)(S:Array (Δ Θ)) :
  Meets (Builtin.«int.__rmul__» {[.int a t,.ref l],[]}) (λ_ R s=>s.heap.get? l=some {cls:=.type "tuple",dict:=dd,data:=.seq i n,slots:=S}/\R (.ok<|.ret Value.notImplemented) s):=
 .of_wp λp w A R s h=>by
  let(H,h):=h
  wp_walk
  exact{_,rfl,h}
def acM(l:Ψ)(i:Array Θ)(n:Nat)(dd:Δ Ψ)(S:Array (Δ Θ))(k:Int)(t:Tok)(a:¬(decide (k < -(2^63))||decide (k >= 2^63))=true)(b:(i.isEmpty||k==1)=true) :
  Meets (Builtin.«tuple.__mul__» {[.ref l,.int k t],[]}) (λ_ R s=>s.heap.get? l=some {cls:=.type "tuple",dict:=dd,data:=.seq i n,slots:=S}/\R (.ok<|.ret<|.ref l) s):=
 .of_wp λp w A R s h=>by
  let(P,g,d,T,o):=s;let(H,h):=h;have f1:=AutoSeq1.idx_int
  wp_walk using wpAny_loadPart' H
  rw[yM a]
  wp_walk using wpAny_loadPart' H
  exact{_,rfl,h}
def acN(l:Ψ)(i:Array Θ)(n:Nat)(dd:Δ Ψ)(S:Array (Δ Θ))(k:Int)(t:Tok)(a:¬(decide (k < -(2^63))||decide (k >= 2^63))=true)(b:¬(i.isEmpty||k==1)=true)(c:(decide (k<=0)||i.isEmpty)=true) :
  Meets (Builtin.«tuple.__mul__» {[.ref l,.int k t],[]}) (λ_ R s=>s.heap.get? l=some {cls:=.type "tuple",dict:=dd,data:=.seq i n,slots:=S}/\R (.ok<|.ret<|.ref s.heap.objs.size) {s with heap:=s.heap.push {cls:=.type "tuple",data:=.seq #[]}}):=
 .of_wp λp w A R s h=>by
  let(P,g,d,T,o):=s;let(H,h):=h;have f1:=AutoSeq1.idx_int
  wp_walk using wpAny_loadPart' H
  rw[yM a]
  wp_walk using wpAny_loadPart' H
  exact{_,rfl,h}
def acO(l:Ψ)(i:Array Θ)(n:Nat)(dd:Δ Ψ)(S:Array (Δ Θ))(k:Int)(t:Tok)(a:¬(decide (k < -(2^63))||decide (k >= 2^63))=true)(b:¬(i.isEmpty||k==1)=true)(c:¬(decide (k<=0)||i.isEmpty)=true)
  (h4:¬((i.size:Nat):Int)*k > (2^63-1)/8)(d:¬Builtin.Tuple.tupleTooMany (((i.size:Nat):Int)*k)=true)(z:((List.replicate k.toNat i).foldl (·++·) #[]).size<=sizeLine) :
  Meets (Builtin.«tuple.__mul__» {[.ref l,.int k t],[]}) (λ_ R s=>s.heap.get? l=some {cls:=.type "tuple",dict:=dd,data:=.seq i n,slots:=S}/\R (.ok<|.ret<|.ref s.heap.objs.size) {s with heap:=s.heap.push {cls:=.type "tuple",data:=.seq ((List.replicate k.toNat i).foldl (·++·) #[])}}):=
 .of_wp λp w A R s h=>by
  let(H,h):=h
  wp_walk using wpAny_loadPart' H
  rw[yM a]
  wp_walk using wpAny_loadPart' H
  rw[yM h4]
  wp_walk using wpAny_loadPart' H
  exact{_,rfl,h}
end En
namespace Dl
open PySem L2 PySem.Spec PyProof.Rows
def Rl(K:Φ):R2:=λx y H Q=>∃a k s,x=.ref a/\y=.int k/\iF K H a s/\-(2^62)<=k/\k<2^62/\s.length*k.toNat<=sizeLine/\((List.replicate k.toNat s).flatten=s->Q (.ref a) H) /\
 ∀p,H p=none->Q (.ref p) (upd H p<|.tup (List.replicate k.toNat s).flatten)
def Qr:iG X (binaryOp .Mult) (Rl X.K):=by
 intro p s σ H x y v u Q I S Y h;let(a,k,xs,rfl,rfl,E,k1,k2,hz,R,q2):=h;cases S;let(t,rfl):=Y;let(i,r,P,J):=I.tuple E;have hl:=r.length;let((C,d,D,l),O,hc,n,g):=id P;simp only at hc g;subst hc g;have B:¬(decide (k < -(2^63))||decide (k >= 2^63))=true:=by
  grind
 refine wpAny_binaryOp_repeat_ref (T:="tuple") (U:="int") (by rfl) {_,O,rfl} (λV=>wC V k t) En.acm F.fills_int_mul vR En.acn F.slot_int_index.lookup
  (qT vR (wC s k t) F.entry_int_rmul (F.args_int_rmul_2 _ _) (En.adt k t a i.toArray n d l) {O,rfl,{_,O,rfl},?_})
 have L:∀m:Nat,List.foldl (λW Z=>W++Z) #[] (List.replicate m i.toArray)=(List.replicate m i).flatten.toArray:=λm=>by
  have:=foldl_rep i m []
  grind
 by_cases c:(i.toArray.isEmpty||k==1)=true
 .refine qT F.slot_tuple_mul {_,O,rfl} wQ (wD _ _) (En.acM a i.toArray n d l k t B c) {O,{.ref a,H,I,rfl,R ?_}};rw[qY]at c;rcases c with c|c<;>simp_all
 .by_cases f:(decide (k<=0)||i.toArray.isEmpty)=true
  .refine qT F.slot_tuple_mul {_,O,rfl} wQ (wD _ _) (En.acN a i.toArray n d l k t B c f) {O,?_};have e:k.toNat=0:=by
    grind
   have j:=q2 s.heap.objs.size I.fresh;rw[e]at j;exact{.ref s.heap.objs.size,_,I.laid (t':=s.toks) (o:=.tup []) (λb M q=>zU _ q) (yL _) {xU _,[],.nil,Gx.new _ _},rfl,j}
  .have hm:i.length*k.toNat<=sizeLine:=by grind
   have N:(k.toNat:Int)=k:=by
    grind
   have z:((i.toArray.size:Nat))*k=i.length*k.toNat:=by grind
   have A:(List.replicate k.toNat xs).flatten.length<=sizeLine:=by rw[len_rep,Nat.mul_comm];lia
   have G:sizeLine<=(2^63-1)/8:=by decide
   have w:¬Builtin.Tuple.tupleTooMany (i.toArray.size*k)=true:=by
    unfold Builtin.Tuple.tupleTooMany
    grind
   refine qT F.slot_tuple_mul {_,O,rfl} wQ (wD _ _) (En.acO a i.toArray n d l k t B c f (by lia) w<|by simp_all) {O,?_};rw[L];exact{.ref s.heap.objs.size,_,I.laid (o:=.tup _) (λb M=>zU _) (yL _) {A,_,(L2.aO.rep r k.toNat),.new _ _},rfl,q2 _ I.fresh}
def FW:D->D->Δ D
 |.tuple d,.int k=>if Cj k=true/\d.length*k.toNat<=sizeLine then↑(.tuple (List.replicate k.toNat d).flatten)else none
 |_,_=>none
def ph{K:Φ}(r:aw K HF ds vs):∀k ,aw K HF (List.replicate k ds).flatten (List.replicate k vs).flatten
 |0=>.nil
 |k+1=>by exact r.append<|ph r k
def Ke{K:Φ}:gw K (Rl K) FW:=by
 intro F H x y V c d Q sm r1 R g q;cases x<;>cases y<;>simp?[FW]at g<;>try grind
 split at g
 .rename_i s k b;cases g;let(a,v,rfl,A,r):=r1;have o:=b.1;rw[Cj,zF]at o;refine{a,k,v,rfl,R,aG sm A,yP o.1,yP o.2,by rw[r.length];exact b.2,λe=>q _ H F (.refl sm) ?_,λp P=>q _ _ _ (.new sm P)<|eI (sm.free P)<|ph r _};simp[Rep];have:=ph r k.toNat
  grind
 grind
end Dl
namespace En
open PySem PyProof.Rows
def acP(hh:A.handled=none)(hl:s.heap.IsTuple l its)(hi:IntsAre its.toList ns)(hb:its.size+1<scanBound)
  (h:∀(h':ι)(k:Nat),h'.SetOf (intKind prog w) s.heap.objs.size (λk'=>(firstMet (λi=>ns.getD i 0) its.size).any (· == k')) (firstMet (λi=>ns.getD i 0) its.size).length->(∀b o,b<s.heap.objs.size->s.heap.get? b=↑o->h'.get? b=↑o)->Q (.ref s.heap.objs.size) {s with heap:=h',toks:=k}) :
  wpAny (model prog w) A (call (.type "set") [.ref l]) Q E s:=by
 let(c,tl,P):=F.called_set.mro;have Z:=F.called_set.made;have J:=F.called_set.sub;refine vG<|codeAny_of_tree ?_;show wpAny _ _ (callAny (.type "set") _) _ _ _;refine zW {wF _<|by decide +kernel,jZ F.entry_type_call ?_};rw[Around.under_plain (weight_type_call_type "set" [.ref l] []) rfl];have h1:=F.called_set.notType;have h2:=F.called_set.canCreate;have hct:=F.typeCall_set_1<|.ref l
 repeat (any_goals (first|assumption|wp_step))
 refine jP (code_set_new_1 (.ref l) (E:=E) (Q₁:=λobj C=>∃d:θ,obj=.ref s.heap.objs.size/\C={s with heap:=s.heap.push {cls:=.type "set",dict:=none,data:=.set #[] 0 (.fresh 0 0 d)}}) λd=>{d,rfl,rfl}) λr C y=>?_;cases r with
 |error e=>exact y
 |ok fl =>
  cases fl with
  |ret obj =>
   let(d,rfl,rfl):=y;have z:(s.heap.push {cls:=.type "set",dict:=none,data:=.set #[] 0 (.fresh 0 0 d)}).get? s.heap.objs.size=some {cls:=.type "set",dict:=none,data:=.set #[] 0 (.fresh 0 0 d)}:=by exact zX _ rfl
   have hT:Shared.TypeIs {s with heap:=s.heap.push {cls:=.type "set",dict:=none,data:=.set #[] 0 (.fresh 0 0 d)}} (.ref s.heap.objs.size) "set":={_,z,rfl}
   have hli:=F.called_set.init.lookup;have hbi:=F.called_set.init.bind<|.ref s.heap.objs.size
   repeat (any_goals (first|assumption|wp_step))
   refine jP (vW (R:=wants (λr G=>r=.none/\∃h' k,G={s with heap:=h',toks:=k}/\h'.SetOf (intKind prog w) s.heap.objs.size (λk'=>(firstMet (λi=>ns.getD i 0) its.size).any (· == k')) (firstMet (λi=>ns.getD i 0) its.size).length /\
     (∀b o,b<s.heap.objs.size->s.heap.get? b=↑o->h'.get? b=↑o)) E) F.called_set.init.plain F.entry_set_init<|check_set_init_1 hT ?_) λr2 G H=>?_
   .let(ol,j,L,N,f):=hl;let(X,n,M,D):=ol;simp only at L f;subst L f;have a:(s.heap.push {cls:=.type "set",dict:=none,data:=.set #[] 0 (.fresh 0 0 d)}).get? l=some {cls:=.type "tuple",dict:=n,data:=.seq its N,slots:=D}:=zU _ j;have Y:=F.sub_tuple_set;have anj:=F.sub_tuple_frozenset;have hne:(Value.type "tuple"==Value.type "dict")=false:=by decide
    have x:(s.heap.push {cls:=.type "set",dict:=none,data:=.set #[] 0 (.fresh 0 0 d)}).IsTuple l its:={_,a,rfl,N,rfl}
    unfold Builtin.«set.__init__» noKeywords Builtin.Frozenset.updateFrom;generalize I:pyIter=PI
    wp_walk
    subst I;refine xQ x<|zV<|wpAny_runValue ?_;have g:l<s.heap.objs.size:=zY j;have u:A.in1.in1.in1.handled=none:=by simp[hh]
    have U:l≠(s.heap.push {cls:=.type "set",dict:=none,data:=.set #[] 0 (.fresh 0 0 d)}).objs.size:=by rw[xI];exact yQ<|jL g
    have q:s.heap.objs.size∉[(s.heap.push {cls:=.type "set",dict:=none,data:=.set #[] 0 (.fresh 0 0 d)}).objs.size,l]:=by
     rw[xI];simp?[zQ,yF,xS,not_or];exact{yQ<|kK _,jF g}
    have V:∀(i:Nat)(v:Θ),its[i]?=↑v->∃t,v=.int ((λi=>ns.getD i 0) i) t:=λi v hv=>IntsAre.int_at hi i v (by rw[Array.getElem?_toList];exact hv);refine codeAny_set_update_loopS ((Walks.tuple u _ l U its).toS) s.heap.objs.size q (λi=>ns.getD i 0) V hb (its.size-0) 0 _ (by lia) (xU _) {{_,zX _ rfl,rfl,rfl},?ht} ?hS0 ?hR
    case ht=>exact{_,zU _ a,rfl,N,rfl}
    case hS0 =>
     have W:((s.heap.push {cls:=.type "set",dict:=none,data:=.set #[] 0 (.fresh 0 0 d)}).push {cls:=.type "tuple_iterator",data:=.fields #[.ref l,.int 0 0]}).get? s.heap.objs.size=some {cls:=.type "set",dict:=none,data:=.set #[] 0 (.fresh 0 0 d)}:=by exact zU _ z
     exact SetOf_congr ((setObjOf_fresh (knd:=intKind prog w) d).setOf W (by unfold scanBound;lia)) (λ_=>rfl) rfl
    case hR =>
     intro s' m S;let(h',g',d',T,O):=s';have eg:g'=s.gens:=m.gens;have ed:d'=s.drawn:=m.drawn;have eo:O=s.os:=m.os;subst eg ed eo;show wpAny _ _ _ _ _ _;refine zW ?_;show wpAny _ _ (ret Value.none) _ _ _;refine zW {rfl,h',T,rfl,S,λb o B e=>?_};refine m.heap b o ?_<|zU _<|zU _ e;simp?[zQ,yF,xS,not_or];exact{yQ B,by rw[xI];exact yQ<|jL B}
   .cases r2 with
    |error e=>exact H
    |ok p =>
     cases p with
     |ret r =>
      let(rfl,h',k,rfl,S,K):=H
      repeat (any_goals (first|assumption|wp_step))
      exact h _ _ S K
     |_=>exact H.elim
  |_=>exact y.elim
end En
namespace Dl
open PySem L2 PySem.Spec PyProof.Rows
variable {env:PySem.Env}
def many(ns:Γ Int):Nat:=(firstMet (λi=>ns.getD i 0) ns.length).length
def HQ(hc:X.calm=true):fF X (.type "set") (λxs H Q=>∃ (a:Ψ) (ns:Γ Int),xs=[.ref a]/\iF X.K H a (ns.map V.int)/\ns.length+1<scanBound/\∀q S,H q=none->Q (.ref q) (upd H q<|.set S<|many ns)):=by
 intro p s g H xs U Q I r h;let(a,ns,rfl,f,B,q):=h;let(u,rfl,x):=vals1 r;cases x;let(i,v,l,z):=I.tuple f;have n:i.toArray.size=ns.length:=by have:=v.length;grind
 refine En.acP (I.ok.hd hc) (l) (intsAre_of v) (by rw[n];exact B) λd t c hk=>?_;rw[n]at c;exact{.ref s.heap.objs.size,_,I.laid (λb o e=>hk b o (zY e) e) (yL _) (show gh X.prog X.w _ d _ (.set _ _)from c),rfl,q _ _ I.fresh}
def HN:fF X (.builtin "len") (λxs H Q=>∃ (a:Ψ) (S:Int->θ) (n:Nat),xs=[.ref a]/\H a=↑(.set S n)/\Q (.int n) H):=by
 intro p s c H xs U Q I r h;let(a,S,n,rfl,b,q):=h;let(u,rfl,R):=vals1 r;cases R;let(o,e,E,t,O,x,d,l,A,T,f,N):=(show s.heap.SetOf (intKind X.prog X.w) a S n from I.hok a _ b)
 have k:((e.size:Nat):Int)<2^63:=by unfold scanBound at T;lia
 refine call_len_set O x d f k {.int n,H,I.tok _,{s.toks+1,by rw[N]},q}
def mJ:D->Δ D:=λd=>(pj d).bind λn=>if n.length+1<scanBound then↑(.int<|many n)else none
def HR(hc:X.calm=true)(B:sx X "len" (.builtin "len"))(C:sx X "set" (.type "set"))(h:DE X e f)(E:starEach [e] X.env=(false,eval e X.env)::starEach [] X.env:=by rfl) :
  DE X (.Call (.Name "len" p) [.Call (.Name "set" U) [e] [] pos'] [] pos) (f1 mJ f):=
 aE (mh HN B.gl B.mg B.bt (aL (rh (HQ hc) C.gl C.mg C.bt (aL h bJ E) (by decide) (by decide) E rfl) bJ) (by decide) (by decide) rfl rfl) λJ H Q z=>by
  let(j,y,d,sm,o,F,q):=z;let(x,u,F):=bs F;let(s,l,F):=bs F;split at F
  .rename_i m;cases F;refine{j,y,x,sm,o,u,λD A c g r1=>?_};rw[oA l]at r1;simp?[Rep]at r1;let(a,G,rfl,t,R):=r1;have k:∀{s:Γ Int}{w:Γ V},aw X.K c (s.map PyData.int) w->w=s.map V.int:=λ{s}=>by
    induction s with
    |nil=>exactλh=>h.nil_inv
    |cons n s I =>
     intro w h;let(v,r,rfl,a,b):=h.cons_inv;simp?[Rep]at a;rw[a,I b];rfl
   have:=k R;subst this;refine{a,s,rfl,aG g.fh t,m,λb S i=>{b,S,_,rfl,av,q _ _ c (g.trans<|.own g.fh i)<|by simp[Rep]}}
  .cases F
def mq(v:Nat->Int):∀i,(firstMet v i).length=i↔((List.range i).map v).Nodup
 |0=>by simp[firstMet]
 |i+1=>by
  have f:=firstMet_length_le v i;rw[firstMet_succ,step_length,vO,qX,wN];have A:=firstMet_any v i<|v i;have I:=mq v i;constructor
  .intro h;by_cases n:(firstMet v i).any (· == v i)=true
   .rw[yK n]at h;lia
   .rw[yM n]at h;refine{I.mp<|by lia,by simp,λa m b B z=>?_};have H:b=v i:=by simpa using B
    subst z H;rw[A]at n;exact n<|List.any_eq_true.mpr {_,m,by simp}
  .rintro⟨c,_,d⟩;rw[yM ?_]
   .rw[I.mpr c]
   .rw[A];intro n;let(x,X,E):=List.any_eq_true.mp n;have e:x=v i:=by simpa using E
    exact d x X (v i) (by simp) e
def EB(ns:Γ Int):many ns=ns.length↔ns.Nodup:=by
 unfold many;rw[mq];have:(List.range ns.length).map (λi=>ns.getD i 0)=ns:=md ns 0;rw[this]
def C3{K:Φ}(h:gw K r g)(h':gw K I g'):gw K (λx y H Q=>r x y H Q\/I x y H Q) (λx y=>(g x y).or<|g' x y):=by
 intro F H x y v V d Q sm r1 R G q;cases e:g x y with
 |some D =>
  have G:(g x y).or _=↑d:=G;rw[e]at G;cases G;exact .inl (h F H x y v V d Q sm r1 R e q)
 |none =>
  have G:(g x y).or _=↑d:=G;rw[e]at G;exact .inr<|h' F H x y v V d Q sm r1 R G q
def G9{K:Φ}:gw K (J5 K) (λx y=>(lz x y).map PyData.list):=by
 intro F H x y V e d Q sm r1 r G q;let(zs,g,rfl):=af G;clear G;cases x<;>cases y<;>simp?[lz]at g<;>try cases g
 let(rfl,z):=eJ g;simp?[Rep]at r1 r;let(a,v,rfl,A,R):=r1;let(b,u,rfl,c,B):=r;refine{a,b,v,u,rfl,rfl,sm.seq A,sm.seq c,by rw[R.length,B.length,<-zN];exact z,λp P=>q _ _ _ (.new sm P) ?_};simp?[Rep];exact{p,_,rfl,.inl<|.inl av,(R.append B).mono<|cS<|sm.free P}
def aC:D->D->Δ D:=λx y=>((AM (λ_ _=>True) λi j=>.int<|i+j) x y).or<|(P5 x y).or<|(lz x y).map PyData.list
def Bk.add(C:Bk X N sc k)(H:DE X a fa)(B:DE X b fb):DE X (.BinOp a .Add b pos) (f2 aC fa fb):=BY (To.or<|Hm.or vj) (C3 Jb<|C3 PZ G9) H B
def eK:D->D->Δ D:=AM (λ_ _=>True) λi j=>.int<|i-j
def Bk.sub(C:Bk X N sc k)(H:DE X a fa)(B:DE X b fb):DE X (.BinOp a .Sub b pos) (f2 eK fa fb):=BY RN Jb H B
def eH:D->D->Δ D:=λx y=>((AM wb λi j=>.int<|i*j) x y).or<|FW x y
def Bk.mul(C:Bk X N sc k)(H:DE X a fa)(B:DE X b fb):DE X (.BinOp a .Mult b pos) (f2 eH fa fb):=BY (RG.or Qr) (C3 KH Ke) H B
def pX:D->D->Δ D:=AM NF λi j=>.int<|i/j
def Bk.div(C:Bk X N sc k)(H:DE X a fa)(B:DE X b fb):DE X (.BinOp a .FloorDiv b pos) (f2 pX fa fb):=BY Qd KH H B
def nS:D->D->Δ D:=AM (λ_ j=>0<j) λi j=>.int<|i%j
def Bk.mod(C:Bk X N sc k)(H:DE X a fa)(B:DE X b fb):DE X (.BinOp a .Mod b pos) (f2 nS fa fb):=BY R3 KH H B
def AN:D->D->Δ D:=AM (λ_ _=>True) λi j=>.bool<|decide (i<j)
def CD:D->D->Δ D:=AM (λ_ _=>True) λi j=>.bool<|decide (i<=j)
def yc:D->D->Δ D:=AM (λ_ _=>True) λi j=>.bool<|decide (j<i)
def bc:D->D->Δ D:=λx y=>(Tw x y).map PyData.bool
def gq:D->D->Δ D:=λx y=>(RY x y).map PyData.bool
def Dk:D->D->Δ D:=λx y=>(Yi x y).map PyData.bool
def Bk.u64(C:Bk X N sc k):X.A.units+64<cLine:=C.room.units
def Bk.u66(C:Bk X N sc k):X.A.units+66<cLine:=by have:=C.room.un;lia
def Bk.lt(C:Bk X N sc k)(H:DE X a fa)(B:DE X b fb):DE X (.Compare a [.Lt] [b] pos) (f2 AN fa fb):=kz LV l8 H B<|fA _
def Bk.le(C:Bk X N sc k)(H:DE X a fa)(B:DE X b fb):DE X (.Compare a [.LtE] [b] pos) (f2 CD fa fb):=kz IM l8 H B<|fA _
def Bk.gt(C:Bk X N sc k)(H:DE X a fa)(B:DE X b fb):DE X (.Compare a [.Gt] [b] pos) (f2 yc fa fb):=kz QO l8 H B<|fA _
def Bk.eq(C:Bk X N sc k)(H:DE X a fa)(B:DE X b fb):DE X (.Compare a [.Eq] [b] pos) (f2 bc fa fb):=kz (Lu C.u64) lh H B<|fA _
def Bk.ne(C:Bk X N sc k)(H:DE X a fa)(B:DE X b fb):DE X (.Compare a [.NotEq] [b] pos) (f2 gq fa fb):=kz (Ey C.u64) lh H B<|fA _
def Bk.isin(C:Bk X N sc k)(H:DE X a fa)(B:DE X b fb)(m:behindInMarks .In b=false:=by rfl):DE X (.Compare a [.In] [b] pos) (f2 Dk fa fb):=kz (Kp C.u66) lh H B m
def Bk.tlt(C:Bk X N sc k)(H:DE X a fa)(B:DE X b fb):DT X (.Compare a [.Lt] [b] pos) (fB<|f2 AN fa fb):=j3 LV l8 H B<|fA _
def Bk.tle(C:Bk X N sc k)(H:DE X a fa)(B:DE X b fb):DT X (.Compare a [.LtE] [b] pos) (fB<|f2 CD fa fb):=j3 IM l8 H B<|fA _
def Bk.tgt(C:Bk X N sc k)(H:DE X a fa)(B:DE X b fb):DT X (.Compare a [.Gt] [b] pos) (fB<|f2 yc fa fb):=j3 QO l8 H B<|fA _
def Bk.teq(C:Bk X N sc k)(H:DE X a fa)(B:DE X b fb):DT X (.Compare a [.Eq] [b] pos) (fB<|f2 bc fa fb):=j3 (Lu C.u64) lh H B<|fA _
def Bk.tne(C:Bk X N sc k)(H:DE X a fa)(B:DE X b fb):DT X (.Compare a [.NotEq] [b] pos) (fB<|f2 gq fa fb):=j3 (Ey C.u64) lh H B<|fA _
def Bk.tin(C:Bk X N sc k)(H:DE X a fa)(B:DE X b fb)(m:behindInMarks .In b=false:=by rfl):DT X (.Compare a [.In] [b] pos) (fB<|f2 Dk fa fb):=j3 (Kp C.u66) lh H B m
def cY:D->Δ Int->Δ Int->Δ D|.tuple d,l,i=>↑(.tuple<|cut d l i)|.list d,l,i=>↑(.list<|cut d l i)|_,_,_=>none
def Bk.cut(C:Bk X N sc k){lo:Δ γ}{fl:Env->Δ (Δ Int)}(A:DE X a fa)(L:DO X lo fl)(y:DO X hi fh):DE X (.Subscript a (.Slice lo hi none p2) pos) (fQ cY fa fl fh):=aE (KQ (UR.or Nh) A L y) λI H Q z=>by
 let(F,n,d,sm,o,f,q):=z;let(x,B,f):=bs f;let(l,L,f):=bs f;let(u,U,f):=bs f;refine{F,n,x,sm,o,B,λV D i g r1=>{i,n,l,g.fh,o.mono g.ff,L,λE j c=>{j,n,u,c.fh,o.mono<|g.ff.trans c.ff,U,λw m t=>?_}}};have G:=(g.trans c).trans t;have r:=r1.mono<|c.ff.trans t.ff;cases x<;>try cases f
 .simp?[Rep]at r;let(b,v,rfl,s,R):=r;refine .inr {b,v,rfl,G.fh.seq s,λp P=>q _ _ _ (G.trans<|.new G.fh P) ?_};simp?[Rep];exact{p,_,rfl,.inl<|.inl av,(um R l u).mono<|cS<|G.fh.free P}
 .simp?[Rep]at r;let(b,v,rfl,s,R):=r;refine .inl {b,v,rfl,aG G.fh s,λe=>q _ w m G ?_,λp P=>q _ _ _ (G.trans<|.new G.fh P)<|eI (G.fh.free P)<|um R l u};simp?[Rep];refine{b,v,rfl,s,?_};have:=um R l u;rw[e]at this;exact this
def IW:D->Δ D|.int i=>↑(.int<|-i)|_=>none
def Bk.neg(C:Bk X N sc k)(A:DE X a fa):DE X (.UnaryOp .USub a pos) (f1 IW fa):=aE (Rp Kb A) λl H Q z=>by
 let(F,j,d,sm,e,f,q):=z;let(x,i,f):=bs f;refine{F,j,x,sm,e,i,λv c b g r1=>?_};cases x<;>try cases f
 exact{_,by exact r1,q _ c b g<|by rfl}
def Mr:bootBuiltins "len"=↑(.builtin "len"):=by rfl
def v5:bootBuiltins "isinstance"=↑(.builtin "isinstance"):=by rfl
def MG:bootBuiltins "tuple"=↑(.type "tuple"):=by rfl
def NJ:bootBuiltins "list"=↑(.type "list"):=by rfl
def Ma:bootBuiltins "range"=↑(.type "range"):=by rfl
def T6:bootBuiltins "all"=↑(.builtin "all"):=by rfl
def SC:bootBuiltins "set"=↑(.type "set"):=by rfl
def yh:bootBuiltins "sorted"=↑(.builtin "sorted"):=by rfl
def AH:bootBuiltins "enumerate"=↑(.type "enumerate"):=by rfl
def Sk:bootBuiltins "zip"=↑(.type "zip"):=by rfl
abbrev dh(f:Env->Δ (Γ D)):Env->Δ D:=λa=>(f a).map PyData.list
abbrev gO:Γ D->Δ D:=λd=>(dF d).map PyData.tuple
def Bk.agr(C:Bk X N sc k)(h:decide (sc.names.lookup x=↑.local)=true):X.env.scope.names.lookup x=↑.local:=by
 rcases C.tb x _ (yP h)with q|⟨q,_⟩
 .exact q
 .cases q
def isStar(e:γ):θ:=e.ctorIdx==22
def aQ(h:isStar e=false):starEach (e::es) env=(false,eval e env)::starEach es env:=by
 cases e<;>first|rfl|cases h
def Tj(H:DE X e f)(s:DA X es g)(h:isStar e=false:=by rfl):DA X (e::es) (aa f g):=FB H s<|aQ h
def vd:swapsWith (.ListComp elt gens scope pos) (↑(.Name x py)) line env=pure (env.blockKind==.function&&env.kindOf x==some .local && py.line==pos.line
     &&!(scope.names.any λ(n,k)=>n==x&&(k==.local || k==.cell))):=rfl
def QB(h:env.scope.kind=.function):env.blockKind=.function:=by unfold PySem.Env.blockKind;rw[h];rfl
def Bk.swap(C:Bk X N sc k)(h:decide (sc.names.lookup x=↑.local)=true)(H:(py.line==pos.line&&!(scope.names.any λ(n,k)=>n==x&&(k==.local || k==.cell)))=true) :
  swapsWith (.ListComp elt gens scope pos) (↑(.Name x py)) line X.env=pure true:=by
 rw[vd,QB C.kd,show X.env.kindOf x=↑_ from C.agr h,Bool.and_assoc,H];rfl
def Bk.aff(C:Bk X N sc k)(h:decide (sc.names.lookup x=↑.cell)=true) :
  swapsWith (.ListComp elt gens scope pos) (↑(.Name x py)) line X.env=pure false:=by
 have q:X.env.kindOf x=↑.cell:=by
  rcases C.tb x _ (yP h)with q|⟨q,_⟩<;>lia
 rw[vd,q,QB C.kd];rfl
section
variable {K:Φ}
structure iu(K:W.Frag)(x:Str)(st:Stmt)(ps:List Str):Prop where
 ex:∃ (f:Ψ) (fd:η),W.nsIn K mainGlobals x=↑(↑(.ref f))/\zv K x x st f fd/\Binds K fd ps []
structure Dd(K:W.Frag)(mg:Str->Option Value)(x:Str)(st:Stmt)(ps:List Str):Prop where
 ex:∃ (f:Ψ) (fd:η),mg x=↑(.ref f)/\zv K x x st f fd/\Binds K fd ps []
def iu.mg{h:ι}{mg:Str->Δ Θ}{st:Ω}(D:iu K x st ps)(X:K.In h)(G:h.Ns mainGlobals mg):Dd K mg x st ps:=by
 let(f,d,a,b,c):=D.ex;exact{f,d,W.mg_of X G a,b,c}
def fu(st:Ω)(ps:Γ Str):Prop:=∀(x q:Str)(kV d p:Θ)(a:Δ Ψ)(c t:Θ)(u:Γ Θ),u.length=ps.length->bindArgs (W.fnOf x q (fj st) (aH st) (ah st) .none kV d p a c t) {u,[]}=pure (ps.zip u)
def Xa{st:Ω}{kV:Θ}(b:fu st ps)(a:W.nsIn K mainGlobals x=↑(↑(.ref f)))(l:K.lookup f=↑{oc,od,.func<|W.fnOf x x (fj st) (aH st) (ah st) .none kV d p n v t,osl})
  (c:W.codeIn K v x=true)(k:W.keepIn K (.ref f)=true):iu K x st ps:={f,_,a,rg l c k,(rg l c k).binds λkV d p n v t u=>b _ _ kV d p n v t u}
structure uF(K:W.Frag)(x:Str)(st:Stmt)(ps:List Str):Prop where
 ex:∃ (f:Ψ) (fd:η) (c P:Ψ),W.nsIn K mainGlobals x=↑(↑(.ref f))/\zv K x x st f fd/\Binds K fd ps []/\fd.code=.ref c/\W.codeHdIn K c P=true
structure Ud(K:W.Frag)(mg:Str->Option Value)(x:Str)(st:Stmt)(ps:List Str):Prop where
 ex:∃ (f:Ψ) (fd:η) (c P:Ψ),mg x=↑(.ref f)/\zv K x x st f fd/\Binds K fd ps []/\fd.code=.ref c/\W.codeHdIn K c P=true
def uF.mg{h:ι}{mg:Str->Δ Θ}{st:Ω}(D:uF K x st ps)(X:K.In h)(G:h.Ns mainGlobals mg):Ud K mg x st ps:=by
 let(f,d,c,P,a,b):=D.ex;exact{f,d,c,P,W.mg_of X G a,b}
def N9(K:Φ)(c:Ψ):Ψ:=match K.lookup c with
 |some ⟨_,_,.fields v,_⟩=>(match(v[11]?:Δ Θ)with|some (.ref P)=>P|_=>0)
 |_=>0
def Wf{st:Ω}{kV:Θ}(b:fu st ps)(a:W.nsIn K mainGlobals x=↑(↑(.ref f)))(l:K.lookup f=↑{oc,od,.func<|W.fnOf x x (fj st) (aH st) (ah st) .none kV d p n (.ref c) t,osl})
  (C:W.codeIn K (.ref c) x=true)(k:W.keepIn K (.ref f)=true)(H:W.codeHdIn K c (N9 K c)=true):uF K x st ps:={f,_,c,N9 K c,a,rg l C k,(rg l C k).binds λkV d p n v t u=>b _ _ kV d p n v t u,rfl,H}
def SE{K:Φ}(h:(dk.all λx=>match W.nsIn K mainGlobals x with|some none=>true|_=>false)=true):∀x∈dk,W.nsIn K mainGlobals x=↑none:=by
 intro x H;have:=List.all_eq_true.mp h x H;split at this
 .assumption
 .cases this
def Dw{K:Φ}{H:Hp}{a:Ψ}{ns:Γ Int}{m:Γ D->Δ D}(S:iL K H a (ns.map V.int))(T:bN K H)(h:m [.list<|ns.map PyData.int]=↑(.bool true)){X:_}:Vu K 1 m [.ref a] H (λv _=>v=.bl true) X:=by
 refine{H,[.list _],.bool true,.refl _,T,aw.cons ({a,_,rfl,S,?_}) .nil,rfl,h,λv b F G r=>by exact r};clear h S T
 induction ns with
 |nil=>rfl
 |cons n ns i=>exact aw.cons (by rfl) i
end
def Yy(h:isStar e=false)(H:DE X e f)(s:DA X es g):DA X (e::es) (aa f g):=Tj H s h
def Vd:aq->Δ Out:=λ_=>none
def VO{st:Ω}:DS X aaa aab st Vd:=λp s b H E I z=>by let(F,a,o,S,g,q):=z;cases g
def lG(f:Env->Δ D):aq->Δ Out:=λa=>(f<|aI a).map λ_=>.nx a
def Nb(s:swapsWith e none pos.line X.env=pure false)(h:DE X e f):DS X aaa aab (.Expr e pos) (lG f):=bp (hU h s) λE i H z=>by
 let(F,c,o,S,g,q):=z;let(d,h,rfl):=af g;exact{H,aI c,d,.refl _,S.all,h,λv a b G r=>q i a F (S.step G.hh)<|.refl _}
def ID(t:Env->Δ θ)(gb:aq->Δ Out):Nat->aq->Δ Out
 |0,_=>none
 |n+1,a=>(t<|aI a).bind λb=>if b=true then(gb a).bind fun|.nx c=>ID t gb n c|.rt d=>↑(.rt d)else↑(.nx a)
def KI(n:Nat)(P:PassesOwn (model X.prog X.w) X.A X.env X.xe)(hc:DT X c t)(B:EI X aaa aab body gb):DS X aaa aab (.While c body [] pos) (ID t gb n):=
 bp (Md P hc B) λE T H z=>by
  let(l,O,o,S,M,q):=z;refine{λm i k=>∃F a,gJ X.K aaa aab F k a i/\aA l F/\ID t gb m a=↑o,{n,l,O,S,.refl _,M},?_};rintro m i k ⟨F,a,s,v,g⟩;cases m with
  |zero=>cases g
  |succ m =>
   let(b,B,g):=bs g;refine{k,aI a,b,.refl _,s.all,B,λx y G=>?_};cases b with
   |false =>
    cases g;exact q i x F (s.step G.hh) v
   |true =>
    let(o1,L,g):=bs g;refine{λj u=>∃e f,gJ X.K aaa aab e u f j/\aA l e/\ID t gb m f=↑o,λj u z=>by let(e,f,D,I,J):=z;exact {m,kK _,e,f,D,I,J},F,a,o1,s.step G.hh,L,?_};cases o1 with
    |nx r=>exactλQ R p C N=>{p,r,C,v.trans N,g}
    |rt d=>cases g;exact q
def Pk:Γ D->Δ D
 |[.int a,.int b]=>↑(.int<|min a b)
 |[.int a,.int b,.int c]=>↑(.int<|min (min a b) c)
 |_=>none
def JC(hc:X.calm=true):fF X (.builtin "min") (λxs H Q=>(∃a b ,xs=[.int a,.int b]/\Q (.int<|min a b) H)\/(∃a b c ,xs=[.int a,.int b,.int c]/\Q (.int<|min (min a b) c) H)):=by
 intro p s i H xs U Q I r h;have e:=I.ok.hd hc;rcases h with ⟨a,b,rfl,q⟩|⟨a,b,c,rfl,q⟩
 .cases r with
  |cons r1 r =>
   cases r with
   |cons R r =>
    cases r;let(t,rfl):=r1;let(u,rfl):=R;refine min_two_ints e λf T k=>{.int _,H,I.kept k,?_,q}
    by_cases h:b<a
    .rw[yK h,show min a b=b by lia];exact{_,rfl}
    .rw[yM h,show min a b=a by lia];exact{_,rfl}
 .cases r with
  |cons r1 r =>
   cases r with
   |cons R r =>
    cases r with
    |cons g r =>
     cases r;let(t,rfl):=r1;let(u,rfl):=R;let(x,rfl):=g;refine min_three_ints e λf T k=>{.int _,H,I.kept k,?_,q}
     by_cases h:b<a
     .rw[yK h];by_cases d:c<b
      .rw[yK d,show min _ c=c by lia];exact{_,rfl}
      .rw[yM d,show min _ c=b by lia];exact{_,rfl}
     .rw[yM h];by_cases d:c<a
      .rw[yK d,show min _ c=c by lia];exact{_,rfl}
      .rw[yM d,show min _ c=a by lia];exact{_,rfl}
def XQ:D->θ|.none=>true|_=>false
def sJ{K:Φ}(r:Rep K HF d v):decide (v=.non)=XQ d:=by
 cases d<;>simp?[Rep]at r<;>first
  | (subst r;rfl)
  | (let(a,s,rfl,_):=r;rfl)
  |exact r.elim
def sk:D->D->Δ D:=λx y=>if XQ y=true then↑(.bool<|XQ x)else match x,y with
 |.bool a,.bool b=>↑(.bool<|a==b)
 |_,_=>none
def mY:D->D->Δ D:=λx y=>if XQ y=true then↑(.bool<|!XQ x)else match x,y with
 |.bool a,.bool b=>↑(.bool<|!(a==b))
 |_,_=>none
def L4{X:Cx}:iG X (compareOp .Is) (λx y H Q=>∃a b,x=.bl a/\y=.bl b/\Q (.bl<|a==b) H):=by
 intro p s c H x y v u Q I r R q;let(a,b,rfl,rfl,q):=q;cases r;cases R;exact wpAny_is_plain rfl {.bl _,H,I,rfl,by cases a<;>cases b<;>exact q}
def Gn{X:Cx}:iG X (compareOp .IsNot) (λx y H Q=>∃a b,x=.bl a/\y=.bl b/\Q (.bl<|!(a==b)) H):=by
 intro p s c H x y v u Q I r R q;let(a,b,rfl,rfl,q):=q;cases r;cases R;exact wpAny_isNot_plain rfl {.bl _,H,I,rfl,by cases a<;>cases b<;>exact q}
def FA{K:Φ}:gw K (λx y H Q=>(y=.non/\Q (.bl<|decide (x=.non)) H)\/∃a b,x=.bl a/\y=.bl b/\Q (.bl<|a==b) H) sk:=by
 intro F H x y v V d Q sm r1 r g q;unfold sk at g;split at g
 .rename_i h;cases g;have c:=sJ r;rw[h,zJ]at c;refine .inl {c,?_};rw[sJ r1];exact q _ H F (.refl sm)<|by simp[Rep]
 .split at g
  .cases g;simp?[Rep]at r1 r;exact .inr {_,_,r1,r,q _ H F (.refl sm)<|by simp[Rep]}
  .cases g
def CO{K:Φ}:gw K (λx y H Q=>(y=.non/\Q (.bl<|!decide (x=.non)) H)\/∃a b,x=.bl a/\y=.bl b/\Q (.bl<|!(a==b)) H) mY:=by
 intro F H x y v V d Q sm r1 r g q;unfold mY at g;split at g
 .rename_i h;cases g;have c:=sJ r;rw[h,zJ]at c;refine .inl {c,?_};rw[sJ r1];exact q _ H F (.refl sm)<|by simp[Rep]
 .split at g
  .cases g;simp?[Rep]at r1 r;exact .inr {_,_,r1,r,q _ H F (.refl sm)<|by simp[Rep]}
  .cases g
def Bk.is0(C:Bk X N sc k)(H:DE X a fa)(B:DE X b fb):DE X (.Compare a [.Is] [b] pos) (f2 sk fa fb):=kz (IL.or L4) FA H B<|fA _
def Bk.aiY(C:Bk X N sc k)(H:DE X a fa)(B:DE X b fb):DE X (.Compare a [.IsNot] [b] pos) (f2 mY fa fb):=kz (Fm.or Gn) CO H B<|fA _
def Bk.aiZ(C:Bk X N sc k)(H:DE X a fa)(B:DE X b fb):DT X (.Compare a [.Is] [b] pos) (fB<|f2 sk fa fb):=j3 (IL.or L4) FA H B<|fA _
def Bk.ags(C:Bk X N sc k)(H:DE X a fa)(B:DE X b fb):DT X (.Compare a [.IsNot] [b] pos) (fB<|f2 mY fa fb):=j3 (Fm.or Gn) CO H B<|fA _
def TB(hc:X.calm=true)(B:sx X "min" (.builtin "min"))(E:starEach (e::es) X.env=(false,eval e X.env)::starEach es X.env)(l:(backTo pos<|starEach es X.env).any (·.1)=false)(j:DA X (e::es) fs):DE X (.Call (.Name "min" p) (e::es) [] pos) (bT Pk fs):=
 jq (JC hc) (by
  intro F H s S d Q sm r g q;unfold Pk at g;split at g
  .cases g;let(v,r1,rfl,a,b):=r.cons_inv;let(V,R,rfl,A,c):=b.cons_inv;rw[c.nil_inv];exact .inl {_,_,by rw[a,A],q _ H F (.refl sm)<|by rfl}
  .cases g;let(v,r1,rfl,a,b):=r.cons_inv;let(V,R,rfl,A,c):=b.cons_inv;let(m,k,rfl,f,i):=c.cons_inv;rw[i.nil_inv];exact .inr {_,_,_,by rw[a,A,f],q _ H F (.refl sm)<|by rfl}
  grind) B j (by decide) (by rfl) E l
section
variable {fl fs:Env->Δ (Γ D)}
def Mb(ds:Γ D):D->Δ (Γ D)
 |.int k=>if Cj k=true/\ds.length*k.toNat<=sizeLine then↑(List.replicate k.toNat ds).flatten else none
 |_=>none
def BC(fl:Env->Δ (Γ D))(fb:Env->Δ D):Env->Δ (Γ D):=λa=>(fl a).bind λd=>(fb a).bind<|Mb d
def US(A:DF X a fl)(B:DE X b fb):DF X (.BinOp a .Mult b pos) (BC fl fb):=aE (EF So A B) λC H Q z=>by
 let(m,j,d,sm,o,F,q):=z;let(s,x,F):=bs F;let(y,Y,g):=bs F;refine{m,j,s,sm,o,x,λl v t c f w N n r1=>{c,j,y,f.fh,o.mono f.ff,Y,λV u e i r=>?_}};cases y<;>try cases g
 rename_i k;have g:(if Cj k=true/\s.length*k.toNat<=sizeLine then↑_ else none)=↑d:=g;split at g
 .rename_i Z;cases g;have r1:=r1.mono i.ff;have G:=f.trans i;have O:=Z.1;simp[Cj,zF,zJ]at O;exact{l,k,v,rfl,r,i.hh _ _ n,by lia,by lia,by rw[r1.length];exact Z.2,λp P=>q p _ _ e (G.trans<|.own G.fh P) (G.hh.free P) (G.fh.free P) av<|ph r1 _}
 grind
def DV(hc:X.calm=true):fF X (.builtin "any") (λxs H Q=>∃ (a:Ψ) (bs:Γ θ),xs=[.ref a]/\iL X.K H a (bs.map V.bl)/\Q (.bl<|bs.any id) H):=by
 intro S s C H xs U Q I r h;let(a,bs,rfl,f,q):=h;let(u,rfl,x):=vals1 r;cases x;let(j,R,p,z):=I.list f;have g:=ny R;subst g;have d:X.A.in1.handled=none:=I.ok.hd hc;refine call_any_walk<|qH p.isList ?_;let(o,O,l,n,D):=p.isList;refine{_,_,_,_,_,_,λi=>bs.getD i false,rfl,Walks.list d s.heap.objs.size a (yQ<|zY O) _,{{_,zX _ rfl,rfl,rfl},p.isList.push _},λi v y t E P c=>?_,λw T k=>?_}
 .have e:v=Value.bool (bs.getD i false):=by
   have P:(bs.map Value.bool).toArray[i]?=↑v:=P;rw[vS,zO]at P;let(b,B,rfl):=af P;rw[zG,B];rfl
  subst e;exact xV c
 .refine{.bl _,H,(I.kept λb m e=>k b m (by simp;exact yQ<|zY e)<|zU _ e),?_,q}
  .show Value.bool _=Value.bool _;have:=range_any bs
   grind
end
def UN(hc:X.calm=true)(B:sx X "any" (.builtin "any"))(E:starEach [e] X.env=(false,eval e X.env)::starEach [] X.env)(A:DA X [e] fs):DE X (.Call (.Name "any" p) [e] [] pos) (bT (λds=>(oneOf ds).bind λd=>match d with
 |.list es=>(boolsOf es).map λbs=>.bool (bs.any id)
 |_=>none) fs):=
 jq (DV hc) (by
  intro F H ds s d Q sm r g q;let(x,f,g):=bs g;rw[iB f]at r;cases x<;>try cases g
  let(bs,c,rfl):=af g;let(v,i,rfl,a,b):=r.cons_inv;rw[b.nil_inv];let(p,u,rfl,h,R):=a;rw[j4 c]at R;have:=fU R;subst this;exact{p,bs,rfl,sm.seq h,q _ H F (.refl sm)<|by rfl}) B A (by decide) (by rfl) E rfl
def rP(ns:Γ Int):∀j:Nat,preSum (λi=>ns.getD i 0) j=(ns.take j).sum
 |0=>by simp[preSum]
 |j+1=>by
  rw[preSum,rP ns j,List.take_add_one,List.sum_append]
  congr 1
  rw[zG];cases ns[j]?<;>simp
def xj(v:Nat->Int)(B:Int)(h:∀i,-B<=v i/\v i<=B):∀j ,-(B*j)<=preSum v j/\preSum v j<=B*j
 |0=>by simp[preSum]
 |j+1=>by
  have I:=xj v B h j;rw[preSum]
  grind
def Vk(ns:Γ Int):θ:=decide (ns.length<=1000)&&ns.all λn=>decide (-1000000<=n)&&decide (n<=1000000)
def RD(h:Vk ns=true):ns.length<=1000/\∀i,-1000000<=ns.getD i 0/\ns.getD i 0<=1000000:=by
 unfold Vk at h;rw[zF,zJ,xF]at h;refine{h.1,λi=>?_};rw[zG];cases e:ns[i]? with
 |none=>simp
 |some n =>
  have:=h.2 n<|qA e;simpa using this
def td{ns:Γ Int}{s:Γ Θ}(r:aO (ns.map V.int) s){i:Nat}(h:s.toArray[i]?=↑v):∃t,v=.int (ns.getD i 0) t:=by
 rw[vS]at h
 induction ns generalizing s i with
 |nil=>cases r;simp at h
 |cons n ns I =>
  cases r with
  |cons r1 R =>
   cases i with
   |zero =>
    simp?[xP,yJ]at h;subst h;let(t,rfl):=r1;exact{t,rfl}
   |succ i =>
    simp?[yX]at h;exact I R h
def Es(hc:X.calm=true):fF X (.builtin "sum") (λxs H Q=>∃ (a:Ψ) (ns:Γ Int),xs=[.ref a]/\(iL X.K H a (ns.map V.int)\/iF X.K H a (ns.map V.int))/\Vk ns=true/\Q (.int ns.sum) H):=by
 intro z s Y H xs W Q I r h;let(a,ns,rfl,f,k,q):=h;let(u,rfl,F):=vals1 r;cases F;have y:X.A.in1.handled=none:=I.ok.hd hc;let(N,d):=RD k;have c:∀n:Nat,n<=1000->∀j,j<n->InLong ((λi=>ns.getD i 0) j)/\InLong (preSum (λi=>ns.getD i 0)<|j+1):=λn U j M=>by
  have G:=d j;have J:=xj (λi=>ns.getD i 0) 1000000 d<|j+1;refine{{?_,?_},?_,?_}
  .show -(2^63)<=ns.getD j 0;lia
  .show ns.getD j 0<2^63;lia
  .lia
  .lia
 have T:preSum (λi=>ns.getD i 0) ns.length=ns.sum:=by rw[rP,List.take_length]
 rcases f with f|f
 .let(S,R,p,Z):=I.list f;have l:S.length=ns.length:=by rw[<-R.length,zD]
  refine call_sum_walk<|qH p.isList ?_;let(o,O,L,n,D):=p.isList;have t:=zY O;have E:a≠s.heap.objs.size:=yQ t;refine{_,_,_,_,_,_,λi=>ns.getD i 0,rfl,Walks.list y s.heap.objs.size a E S.toArray,{{_,zX _ rfl,rfl,rfl},p.isList.push _},λb B=>?_,λi v P=>td R P,by rw[zH,l];exact c _ N,λC x g m=>?_}
  .show b<(s.heap.push _).objs.size;rw[xI];simp?[zQ,yF,xS]at B;rcases B with rfl|rfl
   .exact kK _
   .exact jL t
  .refine{.int ns.sum,H,I.kept (t':=x) λb w e=>m b w (by simp;exact yQ<|zY e)<|zU _ e,{g,?_},q};rw[zH,l,T]
 .let(S,R,p,Z):=I.tuple f;have p:s.heap.IsTuple a S.toArray:=p;have l:S.length=ns.length:=by rw[<-R.length,zD]
  refine call_sum_walk<|xQ p ?_;let(o,O,L,n,D):=id p;have t:=zY O;have E:a≠s.heap.objs.size:=yQ t;refine{_,_,_,_,_,_,λi=>ns.getD i 0,rfl,Walks.tuple y s.heap.objs.size a E S.toArray,{{_,zX _ rfl,rfl,rfl},p.push _},λb B=>?_,λi v P=>td R P,by rw[zH,l];exact c _ N,λC x g m=>?_}
  .show b<(s.heap.push _).objs.size;rw[xI];simp?[zQ,yF,xS]at B;rcases B with rfl|rfl
   .exact kK _
   .exact jL t
  .refine{.int ns.sum,H,I.kept (t':=x) λb w e=>m b w (by simp;exact yQ<|zY e)<|zU _ e,{g,?_},q};rw[zH,l,T]
def Bh:Γ D->Δ D:=λd=>(dF d).bind λe=>(intsOf e).bind λn=>if Vk n=true then↑(.int n.sum)else none
def jv{K:Φ}:∀{ns:Γ Int}{vs:Γ V},aw K H (ns.map PyData.int) vs->vs=ns.map V.int
 |[],vs,h=>h.nil_inv
 |b::bs,vs,h=>by
  let(v,r,rfl,a,c):=h.cons_inv;rw[a,jv c];rfl
def Te(hc:X.calm=true)(B:sx X "sum" (.builtin "sum"))(i:starEach [e] X.env=(false,eval e X.env)::starEach [] X.env)(A:DA X [e] fs):DE X (.Call (.Name "sum" p) [e] [] pos) (bT Bh fs):=
 jq (Es hc) (by
  intro F H s V d Q sm r g q;let(S,c,g):=bs g;let(n,f,g):=bs g;split at g
  .rename_i k;cases g;have E:=eX f;subst E;rcases iT c with rfl|rfl
   all_goals
    let(v,j,rfl,a,b):=r.cons_inv;rw[b.nil_inv];let(p,u,rfl,h,R):=a;have:=jv R;subst this
   .exact{p,n,rfl,.inr<|aG sm h,k,q _ H F (.refl sm)<|by rfl}
   .exact{p,n,rfl,.inl<|sm.seq h,k,q _ H F (.refl sm)<|by rfl}
  grind) B A (by decide) (by rfl) i rfl
def Vl(i:Int):Θ->θ|.int a _=>a==i|_=>false
def GT:Rx X "list.index" (λx vs H Q=>∃ (l:Ψ) (ns:Γ Int) (i:Int) (j:Nat),x=.ref l/\vs=[.int i]/\iL X.K H l (ns.map V.int)/\ns[j]?=↑i/\(∀m,m<j->ns[m]?≠some i)/\Q (.int j) H):=by
 intro p s G H x vs v U Q I B w h;let(l,ns,i,j,rfl,rfl,k,f,o,q):=h;cases B;let(u,rfl,R):=w.one;let(t,rfl):=R;let(S,r,P,z):=I.list k;let((C,g,d,E),O,hc,n,D):=id P.isList;simp only at hc D;subst hc D;have L:S.length=ns.length:=by rw[<-r.length,zD]
 have b:j<ns.length:=(List.getElem?_eq_some_iff.mp f).1;have Z:ns.length<=sizeLine:=by rwa[zD]at z
 have A:(sizeLine:Nat)<2^62:=by decide
 have a:∀m(M:m<S.toArray.size),∃T,S.toArray[m]=.int (ns.getD m 0) T:=λm M=>td r<|jV M;refine qT F.slot_list_index {_,O,rfl} F.entry_list_index (F.args_list_index_2 _ _) (PySem.SeqAt.list_indexAt l S.toArray n g E (.int i t) (Vl i) j (by rw[zH,L];exact b) (by lia) ?_ ?_) {O,?_,?_}
 .let(T,e):=a j (by rw[zH,L];exact b);rw[e,Vl,zG,f];simp
 .intro m M J;let(T,e):=a m M;have c:m<ns.length:=by lia
  have:=o m J;rw[e,Vl,zG];rw[zK c]at this ⊢;simp?[qE,beq_eq_false_iff_ne];exactλh=>this<|by rw[h]
 .intro y Y;let(m,M,rfl):=Array.getElem_of_mem Y;let(T,e):=a m M;rw[e];exact PySem.SeqAt.EqAt.int_int _ _ _ _
 .exact{.int j,H,I.tok _,{_,rfl},q}
def Bt(i:Int):Γ Int->Δ Nat
 |[]=>none
 |n::s=>if n=i then↑0 else(Bt i s).map (·+1)
def p9:∀{ns:Γ Int}{j:Nat},Bt i ns=↑j->ns[j]?=↑i/\∀m,m<j->ns[m]?≠some i
 |[],j,h=>by cases h
 |n::ns,j,h=>by
  unfold Bt at h;split at h
  .cases h;rename_i e;exact{by rw[e];rfl,λm H=>absurd H<|vN _}
  .rename_i e;let(k,hk,rfl):=af h;let(a,b):=p9 hk;refine{by simpa using a,λm H=>?_};cases m with
   |zero=>simpa using e
   |succ m=>simpa using b m (by lia)
def Y3:D->D->Δ D
 |.list e,.int i=>(intsOf e).bind λn=>(Bt i n).map λj=>.int ((j:Nat):Int)
 |_,_=>none
def JV{fo:Env->Δ D}(k:attributeBase o "index" X.env (eval o X.env)=eval o X.env)
  (A:((backTo cpos<|starEach [e] X.env).all (λx=>!x.1)&&(backToKw cpos<|keywordEach [] X.env).all (λx=>x.1.isSome)&&decide ([e].length+([]:Γ Keyword).length+(if([]:Γ Keyword).isEmpty then 0 else 1)<30))=true)
  (L:(apos.endLine==cpos.line)=true)(s:starEach [e] X.env=(false,eval e X.env)::starEach [] X.env)(O:DE X o fo)(I:DE X e fe):DE X (.Call (.Attribute o "index" apos) [e] [] cpos) (f2 Y3 fo fe):=
 aE (pq qK PySem.F.slot_list_index PySem.F.type_list_index GT O (aL I bJ s) k A L s rfl) λP H Q z=>by
  let(v,t,d,sm,E,n,q):=z;let(x,J,n):=bs n;let(y,Y,g):=bs n;refine{v,t,x,sm,E,J,λV K c G r1=>?_};cases x<;>try cases g
  cases y<;>try cases g
  rename_i S i;let(N,B,g):=bs g;let(j,C,rfl):=af g;have w:=eX B;subst w;simp?[Rep]at r1;let(l,U,rfl,p,R):=r1;have:=jv R;subst this;refine{.inl {rfl,_,G.fh.seq p},c,t,.int i,G.fh,E.mono G.ff,Y,λM u f m r=>?_};simp?[Rep]at r;let(a,b):=p9 C;exact{l,N,i,j,rfl,by rw[r],m.fh.seq<|m.ff.seq p,a,b,q _ u f (G.trans m)<|by simp[Rep]}
abbrev Z9(X:Cx):=tupleKind<|o4 X.prog X.w
def tR{P:ε}{w:δ}:∀{ns:Γ Int}{us:Γ Θ},aO (ns.map V.int) us->ItemsAre (o4 P w) (ns.map Sum.inl) us
 |[],_,r=>by cases r;exact .nil
 |n::ns,_,r=>by
  cases r with
  |cons h t=>let(T,rfl):=h;exact .cons (AX P w n T)<|tR t
def AF{X:Cx}{ns:Γ Int}(I:Inv X pins σ H s)(h:iF X.K H b (ns.map V.int)):(Z9 X).is s.heap (ns.map Sum.inl) b:=by
 let(i,r,(o,a,c,n,d),_):=I.tuple h;exact{o,i.toArray,n,a,c,d,by exact tR r}
def Mw{X:Cx}{xs:Γ _}(I:Inv X pins σ H s)(e:H a=↑(.dT xs))(k:IC X.K H xs):xs.length<=sizeLine/\(a==sysModules)=false/\s.heap.DictOfH (Z9 X) a xs:=by
 let(z,y,o,E,p,b,c,d,f,g):=(I.hok a _ e)
 refine{z,y,o,E,p,b,c,d,f,λx i=>?_,g};let(n,q,q2):=k x i;rw[q];exact AF I q2
def Zk(K:Φ):R2:=λx y H Q=>∃ (b:Ψ) (n:Γ Int) (a:Ψ) (s:Γ (Γ AR×Ψ×Θ)),x=.ref b/\iF K H b (n.map V.int)/\y=.ref a/\H a=↑(.dT s)/\IC K H s/\Q (.bl (atKey s<|n.map Sum.inl).isSome) H
def Uu{X:Cx}(U:X.A.units+1<cLine):iG X (compareOp .In) (Zk X.K):=by
 intro p s e H x y v u Q I r R h;let(b,n,a,S,rfl,B,rfl,c,hk,q):=h;cases r;cases R;let(z,D,d):=Mw I c hk;exact wpAny_in_heap (tupleKind_room_in1 U) (AF I B) D d {.bl _,H,I.tok _,rfl,q}
def XW(K:Φ):V->V->V->Hp->(Hp->Prop)->Prop:=λo i v H Q=>∃ (a:Ψ) (x:Γ (Γ AR×Ψ×Θ)) (b:Ψ) (n:Γ Int),o=.ref a/\i=.ref b/\H a=↑(.dT x)/\iF K H b (n.map V.int)/\IC K H x/\x.length<sizeLine/\∀u:Θ,Q<|upd H a<|.dT<|storedH x (n.map Sum.inl) b u
def DK{xs:Γ _}{k:Γ AR}{b:Ψ}{u:Θ}(h:xs.length<sizeLine):(storedH xs k b u).length<=sizeLine:=by
 unfold storedH
 grind
def Qy{X:Cx}(U:X.A.units+1<cLine):Xm X (XW X.K):=by
 intro p s y H o i v ov V u Q I O R w h;let(a,x,b,N,rfl,rfl,e,B,hk,L,q):=h;cases O;cases R;let(z,n,D):=Mw I e hk;refine wpAny_setItem_heap (tupleKind_room_in1 U) (AF I B) D λt d r=>?_;let(g,S,E,f,j,k,l,_,m):=d;exact{_,I.write (o:=.dT _) (by rw[e];exact True.intro) (.inl rfl) (λc W hc=>(r.2 c hc).trans) ⟨g,f⟩ ⟨DK L,n,g,S,E,f,j,k,l,m⟩,q u}
def VN(K:Φ)(t v:TE):TE:=λc H Q=>∀p,H p=none->t c (upd H p<|.dT []) λx d=>v c d λ_ a=>∃ (b:Ψ) (n:Γ Int),x=.ref b/\iF K a b (n.map V.int)/\a p=↑(.dT [])/\∀u:Θ,Q (.ref p)<|upd a p<|.dT [(n.map Sum.inl,b,u)]
def Nx{X:Cx}{k v:γ}(U:X.A.units+1<cLine)(hk:PE X k tk)(V:PE X v tv):PE X (.Dict [↑k] [v] pos) (VN X.K tk tv):=by
 intro p s g H Q I q;have j:=I.laid (o:=.dT []) (h':=s.heap.push {cls:=.type _,data:=.dict _}) (t':=s.toks) (λ_ _=>zU _) (yL _)
  {xU _,beq_eq_false_iff_ne.mpr<|jK<|yQ<|wK (by decide)<|(I.mod.glob.keeps I.bk).lt,_,#[],0,zX _ rfl,{rfl,rfl,rfl},rfl,rfl,List.nodup_nil}
 rw[arm_eval_Dict,zip_pairTrees _ _ _ _ rfl rfl,dictDisplay_pairs _ (by simp[pairTrees])<|by simp[pairTrees]];refine zV<|kZ<|zV<|zV<|wpAny_alloc<|zV<|xW<|zV<|pairTrees_cons_walk<|bZ (hk p _ g _ _ j<|q _<|I.hok.fresh<|yL s.heap.objs.size) λu L ⟨x,i,l,R,G⟩=>bZ (V p L g i _ l G) λW T ⟨y,M,J,Y,b,O,e,B,P,q2⟩=>pairTrees_nil_walk ?_;subst e;cases R;apply xW;let(z,C,D):=Mw J P (λx N=>by grind);refine zV<|zV<|zV<|wpAny_dictSet_heap (Nat.lt_of_succ_lt U) (AF J B) D λm d F=>?_;let(f,S,E,a,n,r,t,_,w):=d;refine zW<|zW<|zW<|zW<|zW {.ref _,_,?_,rfl,q2 W};exact J.write (by rw[P];exact True.intro) (.inl rfl) (λc Z hc=>(F.2 c hc).trans) ⟨f,a⟩ ⟨by rw[qQ];simp,C,f,S,E,a,n,r,t,w⟩
def yz:Slot->θ|.tab _=>false|_=>true
def gJ.ai3{K:Φ}{xs:Γ (Γ AR×Ψ×Θ)}{s:Γ (Γ Int)}(S:gJ K aaa aab HF H ρ σ)(p:H a=↑(.dT xs))(q:HF a=none)(r:aab a=none)(h4:xs.map (·.1)=s.map (·.map Sum.inl))(u:IC K HF xs)(T:ρ.all yz=true) :
  gJ K aaa aab HF H (ρ.set i<|.tab s) (σ.set i<|↑(.ref a)):=by
 have o:∀{j:Nat}{t:Slot},(ρ.set i<|.tab s)[j]?=↑t->yz t=true->i≠j/\ρ[j]?=↑t:=λ{j t}h N=>by
  rw[xH]at h;by_cases J:i=j
  .rw[yK J]at h;split at h
   .cases h;cases N
   .cases h
  .rw[yM J]at h;exact⟨J,h⟩
 have n:∀{j:Nat}{l:Γ _},(ρ.set i<|.tab s)[j]?=↑(.tab l)->i=j/\l=s/\i<ρ.length:=λ{j l}h=>by
  rw[xH]at h;by_cases J:i=j
  .rw[yK J]at h;split at h
   .rename_i L;cases h;exact{J,rfl,J▸L}
   .cases h
  .rw[yM J]at h;have:=List.all_eq_true.mp T _<|qA h;cases this
 refine{S.gr,λj e h=>?_,λj g h=>?_,λj k xs y b E c d f=>?_,by rw[yC,yC];exact S.len,S.tb,λj l h=>?_,λj k l M G m=>(n G).1.symm.trans (n m).1,λj k h=>by rw[xH,yM (o h rfl).1];exact S.ob j k (o h rfl).2}
 .let(J,h):=o h rfl;rw[xH,yM J];exact S.val j e h
 .let(J,h):=o h rfl;rw[xH,yM J];exact S.own j g h
 .let(v,E):=o E rfl;let(w,c):=o c rfl;rw[xH,yM v]at d;rw[xH,yM w]at f;exact S.inj j k xs y b E c d f
 .let(rfl,rfl,L):=n h;rw[xH,yK rfl,yK<|zP L S.len];exact{a,xs,rfl,p,q,r,h4,u}
def gJ.ai4{K:Φ}{xs:Γ (Γ AR×Ψ×Θ)}{s:Γ (Γ Int)}(S:gJ K aaa aab HF H ρ σ)(h:ρ[i]?=↑(.tab ls))(A:σ[i]?=↑(↑(.ref a)))(h4:xs.map (·.1)=s.map (·.map Sum.inl))(u:IC K HF xs) :
  gJ K aaa aab HF (upd H a<|.dT xs) (ρ.set i<|.tab s) σ:=by
 let(w,y,E,p,c,f,_):=S.tab i ls h;rw[A]at E;cases E;have l:i<ρ.length:=(List.getElem?_eq_some_iff.mp h).1;have R:bo aaa aab HF (upd H a<|.dT xs):={λb o e=>by rw[ar<|aS e f];exact S.gr.hh b o e,S.gr.ff,λb o e=>by rw[ar<|aS e c];exact S.gr.fh b o e,S.gr.nw}
 have d:∀{j:Nat}{t:Slot},(ρ.set i<|.tab s)[j]?=↑t->yz t=true->ρ[j]?=↑t:=λ{j t}h N=>by
  rw[xH]at h;by_cases J:i=j
  .rw[yK J,yK l]at h;cases h;cases N
  .rw[yM J]at h;exact h
 have n:∀{j:Nat}{m:Γ (Γ Int)},(ρ.set i<|.tab s)[j]?=↑(.tab m)->i=j/\m=s:=λ{j m}g=>by
  rw[xH]at g;by_cases J:i=j
  .rw[yK J,yK l]at g;cases g;exact{J,rfl}
  .rw[yM J]at g;exact absurd (S.one i j ls m h g) J
 refine{R,λj e g=>S.val j e<|d g rfl,λj q g=>?_,λj k xs y b f1 f2=>S.inj j k xs y b (d f1 rfl)<|d f2 rfl,by rw[yC];exact S.len,S.tb,λj m g=>?_,λj k m Q G r=>(n G).1.symm.trans (n r).1,λj k h=>S.ob j k<|d h rfl}
 .let(b,v,f1,f2,f3,f5,f4):=S.own j q<|d g rfl;refine{b,v,f1,?_,f3,f5,f4};rw[ar λz=>by rw[z,p]at f2;cases f2];exact f2
 .let(rfl,rfl):=n g;exact{a,xs,A,av,c,f,h4,u}
def Dv:Δ Slot->Δ (Γ Int)
 |some (.val d)=>pj d
 |_=>none
def rq{K:Φ}{ρ:aq}{σ:L2.St}{i:Nat}(S:gJ K aaa aab HF H ρ σ)(h:Dv ρ[i]?=↑ns):∃b,σ[i]?=↑(↑(V.ref b))/\iF K HF b (ns.map V.int):=by
 cases D:ρ[i]? with
 |none=>rw[D]at h;cases h
 |some t =>
  rw[D]at h;cases t with
  |val d =>
   let(v,e,r):=S.val i d D;rw[oA h]at r;let(b,a,rfl,s,R):=r;rw[jv R]at s;exact⟨b,e,s⟩
  |_=>cases h
def tabS:Δ Slot->Δ (Γ<|Γ Int)
 |some (.tab k)=>↑k
 |_=>none
def qu{ρ:aq}{i:Nat}(h:tabS ρ[i]?=↑ks):ρ[i]?=↑(.tab ks):=by
 cases d:ρ[i]? with
 |none=>rw[d]at h;cases h
 |some t =>
  rw[d]at h;cases t with
  |tab l=>cases h;rfl
  |obj l=>cases h
  |_=>cases h
def Ji:∀{a b:Γ Int},(a.map Sum.inl:Γ AR)=b.map Sum.inl->a=b
 |[],[],_=>rfl
 |[],_::_,h=>by simp at h
 |_::_,[],h=>by simp at h
 |x::a,y::b,h=>by
  injection h with H c
  injection H with H
  rw[H,Ji c]
def Rt{xs:Γ (Γ AR×Ψ×Θ)}{s:Γ (Γ Int)}{ns:Γ Int}(h:xs.map (·.1)=s.map (·.map Sum.inl)):(atKey xs<|ns.map Sum.inl).isSome=s.contains ns:=by
 rw[kP,List.contains_iff_mem,atKey,Option.isSome_map,List.find?_isSome];constructor
 .rintro⟨x,H,a⟩;have:=h▸List.mem_map_of_mem H;rw[yP a]at this;let(k,b,c):=List.mem_map.mp this;exact Ji c▸b
 .intro z;have:=h▸List.mem_map.mpr {ns,z,rfl};let(x,H,a):=List.mem_map.mp this;exact{x,H,yA a}
def wR(i j:Nat)(g1 g2:aq->Δ Out):aq->Δ Out:=λa=>(Dv a[i]?).bind λn=>(tabS a[j]?).bind λk=>if k.contains n=true then g1 a else g2 a
def Qf{X:Cx}(i j:Nat)(U:X.A.units+1<cLine)(p:X.N[i]?=↑x)(V:pM X.env.scope x)(n:X.N[j]?=↑y)(v:pM X.env.scope y)(r:EI X aaa aab a g1)(B:EI X aaa aab b g2)
  (t:(x=="__debug__")=false)(d:(x=="__classdict__")=false)(D:(y=="__debug__")=false)(G:(y=="__classdict__")=false) :
  DS X aaa aab (.If (.Compare (.Name x px) [.In] [.Name y py] I) a b pos) (wR i j g1 g2):=
 bp (rY (sN (Uu U) (aY p V t d) (aY n v D G) rfl) r B) λE C H z=>by
  let(F,c,o,S,g,q):=z;let(s,l,g):=bs g;let(k,m,g):=bs g;let(b,e,u):=rq S l;let(a,w,f1,f2,f3,f5,f4,f):=S.tab j k<|qu m;refine{_,e,_,f1,b,s,a,w,rfl,aG S.gr.fh u,rfl,f2,f.mono S.gr.fh,_,rfl,?_};rw[Rt f4];cases hc:k.contains s with
  |true=>rw[hc]at g;exact nT {F,c,o,S,g,q}
  |false=>rw[hc]at g;exact lK {F,c,o,S,g,q}
def wt(j i:Nat)(f:Env->Δ D):aq->Δ Out:=λa=>(Dv a[i]?).bind λn=>(tabS a[j]?).bind λk=>(f<|aI a).bind λd=>if(ki d&&decide (k.length<sizeLine))=true then↑(.nx<|a.set j<|.tab (if k.contains n=true then k else k++[n]))else none
def AW{xs:Γ (Γ AR×Ψ×Θ)}{k:Γ (Γ Int)}{ns:Γ Int}(h:xs.map (·.1)=k.map (·.map Sum.inl)):(storedH xs (ns.map Sum.inl) b u).map (·.1)=(if k.contains ns=true then k else k++[ns]).map (·.map Sum.inl):=by
 rw[storedH,Rt h];split
 .rw[<-h,zM];refine yH λx _=>?_;show(putAt _ _ x).1=x.1;unfold putAt;split<;>rfl
 .rw[qX,qX,h];rfl
def IC.stored{K:Φ}{xs:Γ _}{ns:Γ Int}(h:IC K HF xs)(B:iF K HF b (ns.map V.int)):IC K HF (storedH xs (ns.map Sum.inl) b u):=λx H=>by
 unfold storedH at H;split at H
 .let(y,Y,rfl):=List.mem_map.mp H;let(m,e,E):=h y Y;refine{m,?_,?_}<;>(unfold putAt;split<;>assumption)
 .rcases List.mem_append.mp H with H|H
  .exact h x H
  .rw[yI]at H;subst H;exact{ns,rfl,B}
def P8{X:Cx}(j i:Nat)(M:X.A.units+1<cLine)(J:X.N[i]?=↑x)(O:pM X.env.scope x)(n:X.N[j]?=↑y)(V:pM X.env.scope y)(h:DE X U f)
  (L:(x==("__debug__":Str))=false)(D:(x==("__classdict__":Str))=false)(l:(y==("__debug__":Str))=false)(e:(y==("__classdict__":Str))=false)
  (K:∀v,assign (.Subscript (.Name y py) (.Name x px) I) X.env v=(do
   let ov <- holding [v]<|eval (.Name y py) X.env
   let m <- holding [v,ov]<|eval (.Name x px) X.env
   standAt I
   holding [v,ov,m] (setItem ov m v)
   release [v,ov,m] []):=by intro _;rfl)
  (c:swapsWithSole [.Subscript (.Name y py) (.Name x px) I] U pos.line X.env=pure false:=by rfl)(hw:swappedStores [.Subscript (.Name y py) (.Name x px) I] U X.env=pure none:=by rfl)
  (k:(assignEach [.Subscript (.Name y py) (.Name x px) I] X.env).map (·.2)=[assign (.Subscript (.Name y py) (.Name x px) I) X.env]:=by rfl) :
  DS X aaa aab (.Assign [.Subscript (.Name y py) (.Name x px) I] U pos) (wt j i f):=
 bp (Dz h (Rz (aY n V l e) (aY J O L D) (Qy M) K) c hw k) λE W H z=>by
  let(t,T,o,S,g,q):=z;let(Q,k,g):=bs g;let(P,p,g):=bs g;let(d,C,g):=bs g;split at g
  .rename_i hc;rw[zF,zJ]at hc;cases g;refine{H,aI T,d,.refl _,S.all,C,λv Y w G r=>?_};have s:=S.step G.hh;let(b,B,c):=rq s k;let(a,R,f1,f2,f3,f5,f4,F):=s.tab j P<|qu p;refine{_,f1,_,B,a,R,b,Q,rfl,rfl,f2,aG s.gr.fh c,F.mono s.gr.fh,?_,λu=>q W _ t (s.ai4 (qu p) f1 (AW f4)<|F.stored c)<|.refl _};have:=qZ List.length f4;rw[zD,zD]at this;lia
  .cases g
def ym(j i:Nat)(f:Env->Δ D):aq->Δ Out:=λa=>(Dv a[i]?).bind λn=>(f<|aI a).bind λd=>if(ki d&&a.all yz)=true then↑(.nx<|a.set j<|.tab [n])else none
def PH{X:Cx}(j i:Nat)(U:X.A.units+1<cLine)(C:X.N[i]?=↑x)(V:pM X.env.scope x)(J:(x=="__debug__")=false)(D:(x=="__classdict__")=false)(h:DE X I f)(n:X.N.Nodup)(hi:X.N[j]?=↑y)(Y:Loc X.env.scope y)
  (s:swapsWith (.Dict [↑(.Name x px)] [I] dp) (↑(.Name y pos')) pos.line X.env=pure false:=by rfl)
  (K:X.fn y=true\/X.env.scope.names.lookup y=↑.local:=by first|exact .inl rfl|exact .inr rfl|assumption):DS X aaa aab (.Assign [.Name y pos'] (.Dict [↑(.Name x px)] [I] dp) pos) (ym j i f):=
 bp (lb n hi Y (Nx U (aY C V J D) h) s K) λE O H z=>by
  let(F,L,o,S,g,q):=z;let(k,t,g):=bs g;let(d,B,g):=bs g;split at g
  .rename_i hc;rw[zF]at hc;cases g;let(b,m,s):=rq S t;refineλp P=>{_,m,upd H p _,aI L,d,.refl _,?_,B,λv M l G r=>{b,k,rfl,aG ((S.step<|cS P).step G.hh).gr.fh s,(G.hh _ _ av),λu=>(q _ _ F ((S.step λc w e=>by rw[ar<|aS e P];exact G.hh c w<|cS P c w e).ai3 av (S.gr.fh.free P) (S.gr.hh.free P) rfl (λx a=>by rw[yI]at a;subst a;exact{k,rfl,s}) hc.2)<|.refl _)}}
   .exact (S.step<|cS P).all
  grind
end Dl
namespace Tx
open PySem PySem.SeqAt PyProof.Rows
open PySem.AutoSeq1 (wpAny_loadPart')
open PySem.MeetsSeq PySem.MeetsSeq2 PySem.MeetsSeq3
def wpR(f:Nat->β->Sem (ForInStep β))(I:Γ Nat->β->Ξ->Prop)(Q:β->Ξ->Prop)
  (turn:∀x rest b s,I (x::rest) b s->wpAny M A (f x b) (λr s'=>match r with|.yield B=>I rest B s'|.done B=>Q B s') E s)
  (fin:∀b s,I [] b s->Q b s)(n:Nat)(b:β)(h:I (List.range' 0 n 1) b s):wpAny M A (forIn [:n] b f) Q E s:=by
 have e:forIn [:n] b f=forIn (List.range' 0 n 1) b f:=by
  simp
 rw[e];exact wpAny_forIn_list f I Q turn fin _ b h
def aby(l:Ψ)(items:Array Θ)(n:Nat)(dd:Δ Ψ)(u:Array (Δ Θ))(x:Θ)(e:Θ->θ)(j:Nat)(J:j<items.size)(f:e items[j]=true)(k:∀m(M:m<items.size),m<j->e items[m]=false) :
  Meets (Builtin.«tuple.index» {[.ref l,x],[]})
   (λA R s=>s.heap.get? l=some {cls:=.type "tuple",dict:=dd,data:=.seq items n,slots:=u}/\(∀y,y∈items->EqAt A.in1 s y x (e y))/\R (.ok<|.ret<|.int (j:Nat) s.toks) {s with toks:=s.toks+1}):=
 .of_wp λp w A R s h=>by
  let(P,g,d,T,O):=s;let(L,o,h):=h
  wp_walk using wpAny_loadPart' L,wpR _ (λr b S=>S={P,g,d,T,O}/\b.1=none/\∃i,i<=j/\r=List.range' i (items.size-i) 1) _
  case turn =>
   rintro i r b S ⟨rfl,B,I,q,E⟩;have t:I<items.size:=by lia
   rw[show items.size-I=(items.size-(I+1))+1 by lia,vD]at E;injection E with a c
   subst a;subst c;simp?[jV t];refine zV<|o _ (Array.getElem_mem t) p w _ _ ?_;by_cases H:i=j
   .subst H;rw[f]
    wp_walk
    exact{_,rfl,h}
   .rw[k i t<|by lia]
    wp_walk
    exact{rfl,rfl,i+1,by lia,rfl}
  case fin =>
   rintro b S ⟨rfl,B,i,q,E⟩;have:=qZ List.length E;simp at this;lia
  case h =>
   exact{rfl,rfl,0,xU _,by simp}
end Tx
namespace Dl
open PySem L2 PySem.Spec PyProof.Rows
def HP:Rx X "tuple.index" (λx vs H Q=>∃ (l:Ψ) (ns:Γ Int) (i:Int) (j:Nat),x=.ref l/\vs=[.int i]/\iF X.K H l (ns.map V.int)/\ns[j]?=↑i/\(∀m,m<j->ns[m]?≠some i)/\Q (.int j) H):=by
 intro p s B H x vs v U Q I z w h;let(l,ns,i,j,rfl,rfl,k,f,o,q):=h;cases z;let(u,rfl,R):=w.one;let(t,rfl):=R;let(S,r,P,Z):=I.tuple k;let((C,g,d,A),O,hc,n,D):=id P;simp only at hc D;subst hc D;have L:S.length=ns.length:=by rw[<-r.length,zD]
 have b:j<ns.length:=(List.getElem?_eq_some_iff.mp f).1;have a:∀m(M:m<S.toArray.size),∃T,S.toArray[m]=.int (ns.getD m 0) T:=λm M=>td r<|jV M;refine qT F.slot_tuple_index {_,O,rfl} F.entry_tuple_index (F.args_tuple_index_2 _ _) (Tx.aby l S.toArray n g A (.int i t) (Vl i) j (by rw[zH,L];exact b) ?_ ?_) {O,?_,?_}
 .let(T,e):=a j (by rw[zH,L];exact b);rw[e,Vl,zG,f];simp
 .intro m M J;let(T,e):=a m M;have c:m<ns.length:=by
   rw[zH]at M;lia
  have:=o m J;rw[e,Vl,zG];rw[zK c]at this ⊢;simp?[qE,beq_eq_false_iff_ne];exactλh=>this<|by rw[h]
 .intro y Y;let(m,M,rfl):=Array.getElem_of_mem Y;let(T,e):=a m M;rw[e];exact PySem.SeqAt.EqAt.int_int _ _ _ _
 .exact{.int j,H,I.tok _,{_,rfl},q}
def Rb(h:PE X e t)(g:PE X e u):PE X e (λσ H Q=>t σ H Q\/u σ H Q):=λp s σ H Q I q=>q.elim (h p s σ H Q I)<|g p s σ H Q I
def nV:D->D->Δ D
 |.list e,.int i=>(intsOf e).bind λn=>(Bt i n).map λj=>.int ((j:Nat):Int)
 |.tuple e,.int i=>(intsOf e).bind λn=>(Bt i n).map λj=>.int ((j:Nat):Int)
 |_,_=>none
def Gs{fo:Env->Δ D}(c:attributeBase o "index" X.env (eval o X.env)=eval o X.env)
  (A:((backTo cpos<|starEach [e] X.env).all (λx=>!x.1)&&(backToKw cpos<|keywordEach [] X.env).all (λx=>x.1.isSome)&&decide ([e].length+([]:Γ Keyword).length+(if([]:Γ Keyword).isEmpty then 0 else 1)<30))=true)
  (L:(apos.endLine==cpos.line)=true)(s:starEach [e] X.env=(false,eval e X.env)::starEach [] X.env)(O:DE X o fo)(t:DE X e fe):DE X (.Call (.Attribute o "index" apos) [e] [] cpos) (f2 nV fo fe):=
 aE (Rb (JV c A L s O t)<|pq PySem.F.plainAttrs_tuple PySem.F.slot_tuple_index PySem.F.type_tuple_index HP O (aL t bJ s) c A L s rfl) λP H Q z=>by
  let(r,p,d,sm,E,n,q):=z;let(x,v,n):=bs n;let(y,Y,g):=bs n;cases x<;>try cases g
  .cases y<;>try cases g
   exact .inl {r,p,d,sm,E,by simp[f2,v,Y,zA];exact g,q}
  .cases y<;>try cases g
   rename_i S i;let(N,C,g):=bs g;let(j,I,rfl):=af g;have B:=eX C;subst B;refine .inr {r,p,_,sm,E,v,λV K f G r1=>?_};let(l,U,rfl,u,J):=r1;have:=jv J;subst this;refine{(.inr<|.inl {rfl,_,aG G.fh u}),f,p,.int i,G.fh,E.mono G.ff,Y,λM w k m R=>?_}
   .simp[Rep]at R;let(a,b):=p9 I;exact{l,N,i,j,rfl,by grind,aG m.fh<|aG m.ff u,a,b,q _ w k (G.trans m)<|by rfl}
end Dl
namespace Zp
open PySem PyProof.Rows
def IsI(b:θ)(h:ι)(i l:Ψ)(k:Nat):Prop:=match b with|true=>h.IsTupleIter i l k|false=>h.IsListIter i l k
def IsS(b:θ)(h:ι)(l:Ψ)(xs:Array Θ):Prop:=match b with|true=>h.IsTuple l xs|false=>h.IsList l xs
def IsI.obj(x:IsI b h it l k):∃o,h.get? it=↑o/\∀v,o.data≠.cell v:=by
 cases b
 .let(o,e,_,d):=(x);exact{o,e,λv q=>by grind}
 .let(o,e,_,d):=(x);exact{o,e,λv q=>by grind}
def IsI.at(x:IsI b h it l k)(e:∀o,h.get? it=↑o->h'.get? it=↑o):IsI b h' it l k:=by
 cases b
 .exact Heap.IsListIter.at x e
 .exact Heap.IsTupleIter.at x e
def IsI.extBut(x:IsI b h it l k)(e:Heap.ExtBut a h h')(n:it≠a):IsI b h' it l k:=x.at λo=>e it o n
def IsS.at(x:IsS b h l xs)(e:∀o,h.get? l=↑o->h'.get? l=↑o):IsS b h' l xs:=by
 cases b
 .let(o,q,r):=(x);exact{o,e o q,r}
 .let(o,q,r):=(x);exact{o,e o q,r}
def IsS.extBut(x:IsS b h l xs)(e:Heap.ExtBut a h h')(n:l≠a):IsS b h' l xs:=x.at λo=>e l o n
section
def nxt(J:IsI b s.heap j t k)(ht:IsS b s.heap t its)(V:its[k]?=↑v)
  (H:∀g,IsI b g j t (k+1)->Heap.SameBut j s.heap g->Q v {s with heap:=g}):wpAny (model prog w) A (Builtin.SmallTypes.nextOf<|.ref j) Q E s:=by
 cases b
 .exact wpAny_nextOf_list_item J ht V H
 .exact En.acj J ht V H
def adZ{Q:Θ->Ξ->Prop}(a:A.handled=none)(J:IsI b s.heap j t k)(ht:IsS b s.heap t its)(v:its[k]?=none)
  (H:∀g x,Heap.ExtBut j s.heap g->(∃o,g.get? x=↑o/\o.cls=.type "StopIteration")->E (.ref x) {s with heap:=g}):wpAny (model prog w) A (Builtin.SmallTypes.nextOf<|.ref j) Q E s:=by
 cases b
 .exact wpAny_nextOf_list_end a J ht v H
 .exact En.acL a J ht v H
structure ZS(aaA aaL:Bool)(h₀ h:Heap)(z TI TO i j l m:Addr)(xs ys:Array Value)(f:Value)(p q:Nat)(a b:Value):Prop where
 zo:IsZip h z TI TO f
 ti:IsPair h TI (.ref i) (.ref j)
 to:IsPair h TO a b
 wi:IsI aaA h i l p
 wj:IsI aaL h j m q
 sl:IsS aaA h l xs
 sm:IsS aaL h m ys
 kp:∀c o,c≠z->c≠TO->c≠i->c≠j->h₀.get? c=↑o->h.get? c=↑o
 sz:h.objs.size=h₀.objs.size
section
variable {z TI TO i j l m:Ψ}
def ZS.fl(Z:ZS I aaL h₀ h z TI TO i j l m xs ys f p q a b)(D:ZipApart z TI TO i j l m)(e:IsZip g z TI TO f')(t:Heap.SameBut z h g):ZS I aaL h₀ g z TI TO i j l m xs ys f' p q a b:=
 {e,t.extBut _ _ D.TIz Z.ti,t.extBut _ _ D.TOz Z.to,Z.wi.extBut t.extBut D.i1z,Z.wj.extBut t.extBut D.i2z,Z.sl.extBut t.extBut D.l1z,Z.sm.extBut t.extBut D.l2z,λc o n N d k r=>t.extBut _ _ n<|Z.kp c o n N d k r,t.1.trans Z.sz}
def ZS.fst(Z:ZS I aaL h₀ h z TI TO i j l m xs ys f p q a b)(D:ZipApart z TI TO i j l m)(e:IsI I g i l (p+1))(t:Heap.SameBut i h g):ZS I aaL h₀ g z TI TO i j l m xs ys f (p+1) q a b:=
 {t.extBut _ _ D.i1z.symm Z.zo,t.extBut _ _ D.TIi1 Z.ti,t.extBut _ _ D.TOi1 Z.to,e,Z.wj.extBut t.extBut D.i12.symm,Z.sl.extBut t.extBut D.l1i1,Z.sm.extBut t.extBut D.l2i1,λc o N d n k r=>t.extBut _ _ n<|Z.kp c o N d n k r,t.1.trans Z.sz}
def ZS.snd(Z:ZS I aaL h₀ h z TI TO i j l m xs ys f p q a b)(D:ZipApart z TI TO i j l m)(e:IsI aaL g j m (q+1))(t:Heap.SameBut j h g):ZS I aaL h₀ g z TI TO i j l m xs ys f p (q+1) a b:=
 {t.extBut _ _ D.i2z.symm Z.zo,t.extBut _ _ D.TIi2 Z.ti,t.extBut _ _ D.TOi2 Z.to,Z.wi.extBut t.extBut D.i12,e,Z.sl.extBut t.extBut D.l1i2,Z.sm.extBut t.extBut D.l2i2,λc o N d k n r=>t.extBut _ _ n<|Z.kp c o N d k n r,t.1.trans Z.sz}
def ZS.put(Z:ZS I aaL h₀ h z TI TO i j l m xs ys f p q a b)(D:ZipApart z TI TO i j l m)(e:IsPair g TO x y)(t:Heap.SameBut TO h g):ZS I aaL h₀ g z TI TO i j l m xs ys f p q x y:=
 {t.extBut _ _ D.TOz.symm Z.zo,t.extBut _ _ D.TITO Z.ti,e,Z.wi.extBut t.extBut D.TOi1.symm,Z.wj.extBut t.extBut D.TOi2.symm,Z.sl.extBut t.extBut D.l1TO,Z.sm.extBut t.extBut D.l2TO,λc o N n d k r=>t.extBut _ _ n<|Z.kp c o N n d k r,t.1.trans Z.sz}
end
variable {z TI TO i j l m:Ψ}
def agw{Q:Θ->Ξ->Prop}(R:A.handled=none)(D:ZipApart z TI TO i j l m)(Z:ZS I aaL s.heap s.heap z TI TO i j l m xs ys .none p q a b)
  (M:∀x y g g',xs[p]?=↑x->ys[q]?=↑y->ZS I aaL s.heap g z TI TO i j l m xs ys .ellipsis (p+1) (q+1) x y->IsZip g' z TI TO (rawInt g.objs.size) ->
   Heap.SameBut z (g.push {cls:=.type "tuple",data:=.seq #[x,y]}) g'->Q (.ref g.objs.size) {s with heap:=g'})
  (O:(xs[p]?=none\/ys[q]?=none)->∀g e,(∀c o,c≠z->c≠TO->c≠i->c≠j->s.heap.get? c=↑o->g.get? c=↑o)->(∃o,g.get? e=↑o/\o.cls=.type "StopIteration")->E (.ref e) {s with heap:=g}) :
  wpAny (model prog w) A (Builtin.«zip.__next__» {[.ref z],[]}) (λr s'=>∃v,r=.done (.ret v)/\Q v s') E s:=by
 have S:∀{B G:ι}{e:Ψ}{c:Ψ}{U V:Nat}{L N:Θ},ZS I aaL s.heap B z TI TO i j l m xs ys .ellipsis U V L N->(c=i\/c=j)->(xs[p]?=none\/ys[q]?=none)->Heap.ExtBut c B G ->
   (∃o,G.get? e=↑o/\o.cls=.type "StopIteration")->wpAny (model prog w) A (setField (.ref z) 0 Value.none) (λ_ t=>E (.ref e) t) E {s with heap:=G}:=by
  intro B G e c U V L N Y hc hv k ⟨o,ho,ht⟩;have W:IsZip G z TI TO .ellipsis:=k _ _ (hc.elim (λe=>e▸D.i1z.symm) λe=>e▸D.i2z.symm) Y.zo;refine kU W (by simp) λP _ t=>O hv P e (λd u T n2 n3 n4 r=>t.extBut _ _ T<|k _ _ ?_<|Y.kp d u T n2 n3 n4 r) {o,t.extBut _ _ ?_ ho,ht}<;>grind
 show wpAny _ _ (field (.ref z) 2 >>= _) _ _ _;refine zV<|qP Z.zo rfl (x:=.bool false) rfl (zV<|qP Z.zo rfl (x:=.ref TI) rfl (zV<|kC Z.ti rfl (zV (m:=Builtin.SmallTypes.ownedTupleIsFree _)<|zV<|qP Z.zo rfl (x:=.none) rfl (zW ?_))));rw[yK rfl];refine zV<|wpAny_rule<|zV<|qP Z.zo rfl (x:=.ref TO) rfl (zV<|kU Z.zo (by simp) λB X t1=>?_);have f:=Z.fl D (f':=.ellipsis) X t1;refine zV ?_;simp?[List.zipIdx_cons,List.zipIdx_nil,List.forIn_cons,List.forIn_nil];refine zV<|zV<|wpAny_onRaise<|zV (m:=Builtin.SmallTypes.nextOf _) ?_;cases H:xs[p]? with
 |none=>exact adZ R f.wi f.sl H λG e k o=>S f (.inl rfl) (.inl H) k o
 |some x =>
 refine nxt f.wi f.sl H λG e2 t2=>zW ?_;have F:=f.fst D e2 t2;refine zV<|kC F.to rfl (zV<|wpAny_updateSeq_pair F.to λP e3 t3=>zV<|wpAny_letGo<|zW ?_);have n:=F.put D (x:=x) (y:=b) e3 t3;refine zV<|zV<|wpAny_onRaise<|zV (m:=Builtin.SmallTypes.nextOf _) ?_;cases C:ys[q]? with
 |none=>exact adZ R n.wj n.sm C λg4 e k=>S n (.inr rfl) (.inr C) k
 |some y =>
 refine nxt n.wj n.sm C λg4 e4 t4=>zW ?_;have J:=n.snd D e4 t4;refine zV<|kC J.to rfl (zV<|wpAny_updateSeq_pair J.to λg5 e5 t5=>zV<|wpAny_letGo<|zW<|zW ?_);have K:=J.put D e5 t5;exact zV<|kC K.to rfl (zV<|wpAny_newTuple<|zV<|zV<|kU (zU _ K.zo) (by simp) λg6 e6 t6=>kU e6 (by simp) λg7 e7 t7=>zW {_,rfl,(M x y g5 g7 H C K e7<|t6.trans t7)})
def agx(v:A.handled=none)(D:ZipApart z TI TO i j l m)
  (u:IsZip s.heap z TI TO .none)(M:IsPair s.heap TI (.ref i) (.ref j))(O:IsPair s.heap TO a b)
  (P:IsI I s.heap i l p)(p2:IsI aaL s.heap j m q)(r1:IsS I s.heap l xs)(R:IsS aaL s.heap m ys)(X:xs[p]?=↑x)(d:ys[q]?=↑y)
  (K:∀g,IsZip g z TI TO (rawInt s.heap.objs.size)->IsPair g TO x y->IsI I g i l (p+1)->IsI aaL g j m (q+1)->IsPair g s.heap.objs.size x y->g.objs.size=s.heap.objs.size+1 ->
   (∀c o,c≠z->c≠TO->c≠i->c≠j->s.heap.get? c=↑o->g.get? c=↑o)->Q (↑(.ref s.heap.objs.size)) {s with heap:=g}) :
  wpAny (model prog w) A (pyNext<|.ref z) Q E s:=by
 have T:s.TypeIs (.ref z) "zip":={_,u,rfl}
 have Z:ZS I aaL s.heap s.heap z TI TO i j l m xs ys .none p q a b:={u,M,O,P,p2,r1,R,λ_ _ _ _ _ _ e=>e,rfl}
 refine zV<|kM<|qB (name:=Str.ofString "__next__") T vQ<|qS vQ T F.entry_zip_next (agw v D Z ?_ ?_)<|F.args_zip_next_1 _
 .intro S U g G H k Y f t;rw[X]at H;rw[d]at k;cases H;cases k;rw[Y.sz]at f ⊢;have L:=zY Y.zo;have up:∀c o,c≠z->g.get? c=↑o->G.get? c=↑o:=λc o n e=>t.extBut _ _ n<|zU _ e;refine zW<|K G f (up _ _ D.TOz Y.to) (Y.wi.at λo e=>up _ _ D.i1z e) (Y.wj.at λo e=>up _ _ D.i2z e) ?_ (by rw[t.1,xI,Y.sz]) λc o r B C J e=>up c o r<|Y.kp c o r B C J e;rw[<-Y.sz];exact t.extBut _ _ (jF L)<|zX _ rfl
 .intro N;rw[X,d]at N;rcases N with N|N<;>cases N
def afh(H:A.handled=none)(D:ZipApart z TI TO i j l m)
  (d:IsZip s.heap z TI TO .none)(f:IsPair s.heap TI (.ref i) (.ref j))(r:IsPair s.heap TO a b)
  (P:IsI I s.heap i l p)(p2:IsI aaL s.heap j m q)(r1:IsS I s.heap l xs)(R:IsS aaL s.heap m ys)(S:xs[p]?=none\/ys[q]?=none)
  (k:∀g,(∀c o,c≠z->c≠TO->c≠i->c≠j->s.heap.get? c=↑o->g.get? c=↑o)->Q none {s with heap:=g}):wpAny (model prog w) A (pyNext<|.ref z) Q E s:=by
 have t:s.TypeIs (.ref z) "zip":={_,d,rfl}
 have Z:ZS I aaL s.heap s.heap z TI TO i j l m xs ys .none p q a b:={d,f,r,P,p2,r1,R,λ_ _ _ _ _ _ e=>e,rfl}
 refine zV<|kM<|qB (name:=Str.ofString "__next__") t vQ<|qS vQ t F.entry_zip_next (agw H D Z ?_ ?_)<|F.args_zip_next_1 _
 .intro x y g G X Y;rw[X,Y]at S;rcases S with n|n<;>cases n
 .rintro _ g e K ⟨o,O,ht⟩;exact zV<|wpAny_isInstance (T:="StopIteration") (b:=true) {o,O,ht} isSubtype_stop<|zW<|k _ K
end
abbrev itO(b:θ)(l:Ψ):Obj:={cls:=.type (if b then "tuple_iterator"else "list_iterator"),data:=.fields #[.ref l,.int 0 0]}
abbrev z1(b:θ)(h:ι)(l:Ψ):ι:=h.push<|itO b l
abbrev z2(b c:θ)(h:ι)(l m:Ψ):ι:=(z1 b h l).push<|itO c m
abbrev z3(b c:θ)(h:ι)(l m:Ψ):ι:=(z2 b c h l m).push {cls:=.type "tuple",data:=.seq #[.ref h.objs.size,.ref (z1 b h l).objs.size]}
abbrev z4(b c:θ)(h:ι)(l m:Ψ):ι:=(z3 b c h l m).push {cls:=.type "tuple",data:=.seq #[.none,.none]}
abbrev z5(b c:θ)(h:ι)(l m:Ψ):ι:=(z4 b c h l m).push {cls:=.type "zip",data:=.fields #[.none,.bool false,.bool false,.ref (z2 b c h l m).objs.size,.ref (z3 b c h l m).objs.size]}
def IsS.push(x:IsS b h l xs)(o:Obj):IsS b (h.push o) l xs:=x.at λO=>zU _
def ad0(b c:θ)(l m:Ψ)(xs ys:Array Θ):Meets (Builtin.«zip.__new__» {[.type "zip",.ref l,.ref m],[]}) (λ_ R s=>IsS b s.heap l xs/\IsS c s.heap m ys/\R (.ok<|.ret<|.ref (z4 b c s.heap l m).objs.size) {s with heap:=z5 b c s.heap l m}):=
 .of_wp λP w A R s h=>by
  let(p,g,d,t,o):=s;let(q,q2,h):=h;have a:=sub_zip;cases b<;>cases c
  .have L:Heap.IsList (Shared.heap {p,g,d,t,o}) l xs:=q;have L2:Heap.IsList (Shared.heap {p.push {cls:=.type "list_iterator",data:=.fields #[.ref l,.int 0 0]},g,d,t,o}) m ys:=IsS.push (b:=false) q2 _
   wp_walk using qH L,qH L2
   exact{_,rfl,h}
  .have L:Heap.IsList (Shared.heap {p,g,d,t,o}) l xs:=q;have L2:Heap.IsTuple (Shared.heap {p.push {cls:=.type "list_iterator",data:=.fields #[.ref l,.int 0 0]},g,d,t,o}) m ys:=IsS.push (b:=true) q2 _
   wp_walk using qH L,xQ L2
   exact{_,rfl,h}
  .have L:Heap.IsTuple (Shared.heap {p,g,d,t,o}) l xs:=q;have L2:Heap.IsList (Shared.heap {p.push {cls:=.type "tuple_iterator",data:=.fields #[.ref l,.int 0 0]},g,d,t,o}) m ys:=IsS.push (b:=false) q2 _
   wp_walk using xQ L,qH L2
   exact{_,rfl,h}
  .have L:Heap.IsTuple (Shared.heap {p,g,d,t,o}) l xs:=q;have L2:Heap.IsTuple (Shared.heap {p.push {cls:=.type "tuple_iterator",data:=.fields #[.ref l,.int 0 0]},g,d,t,o}) m ys:=IsS.push (b:=true) q2 _
   wp_walk using xQ L,xQ L2
   exact{_,rfl,h}
def acx(e:h.get? it=↑(itO b l)):IsI b h it l 0:=by
 cases b
 .exact{_,e,rfl,rfl}
 .exact{_,e,rfl,rfl}
def adv(q:IsS b s.heap l xs)(q2:IsS c s.heap m ys)
  (h:∀g,IsZip g (s.heap.objs.size+4) (s.heap.objs.size+2) (s.heap.objs.size+3) .none->IsPair g (s.heap.objs.size+2) (.ref s.heap.objs.size) (.ref<|s.heap.objs.size+1)->IsPair g (s.heap.objs.size+3) .none .none ->
   IsI b g s.heap.objs.size l 0->IsI c g (s.heap.objs.size+1) m 0->(∀a o,s.heap.get? a=↑o->g.get? a=↑o)->Q (.ref<|s.heap.objs.size+4) {s with heap:=g}) :
  wpAny (model prog w) A (call (.type "zip") [.ref l,.ref m]) Q E s:=by
 refine callType_new F.called_zip (by rfl) (F.typeCall_zip_2 _ _) (F.newCall_zip_2 _ _) (λobj=>F.args_object_init_3 obj _ _) F.entry_zip_new (ad0 b c l m xs ys) {q,q2,?_};have n:(z1 b s.heap l).objs.size=s.heap.objs.size+1:=xI ..;have N:(z2 b c s.heap l m).objs.size=s.heap.objs.size+2:=by simp
 have i:(z3 b c s.heap l m).objs.size=s.heap.objs.size+3:=by simp
 have j:(z4 b c s.heap l m).objs.size=s.heap.objs.size+4:=by simp
 have G:(z5 b c s.heap l m).get? _=↑_:=zX _ rfl;have f:(z5 b c s.heap l m).get? _=↑_:=zU _<|zX _ rfl;have e:(z5 b c s.heap l m).get? _=↑_:=zU _<|zU _<|zX _ rfl;have d:(z5 b c s.heap l m).get? _=↑_:=zU _<|zU _<|zU _<|zX _ rfl;rw[N,i,j]at G;rw[n,N]at e;rw[i]at f;rw[n]at d;rw[j];exact{{_,G,rfl},h _ G e f (acx (zU _ (zU _<|zU _<|zU _<|zX _ rfl):(z5 b c s.heap l m).get? s.heap.objs.size=↑_)) (acx d) λa o x=>zU _<|zU _<|zU _<|zU _<|zU _ x}
end Zp
namespace Dl
open PySem L2 PySem.Spec PyProof.Rows Zp
def yj(K:Φ)(b:θ)(a:Ψ)(H:Hp)(xs:Γ V):Prop:=match b with|true=>iF K H a xs|false=>iL K H a xs
def yj.src(I:Inv X pins σ H s)(h:yj X.K b a H xs):∃i ,aO xs i/\IsS b s.heap a i.toArray/\xs.length<=sizeLine:=by
 cases b
 .let(i,r,p,z):=I.list<|h;exact{i,r,p.isList,z}
 .let(i,r,p,z):=I.tuple<|h;exact⟨i,r,p,z⟩
def yj.ne(I:Inv X pins σ H s)(f:dM X pins H c)(h:yj X.K b a H xs):a≠c:=by
 cases b
 .exact Tc I f h
 .exact RH I f h
def yj.inj(I:Inv X pins σ H s)(h:yj X.K b a H xs)(h':yj X.K b a H ys):xs=ys:=by
 cases b
 .exact I.abW h h'
 .exact I.abE h h'
def yj.mono{K:Φ}(e:aA H H')(h:yj K b a H xs):yj K b a H' xs:=by
 cases b
 .exact e.seq h
 .exact aG e h
def Hy{K:Φ}(b c:θ)(l1 l2 z TI TO i1 i2:Ψ)(Z:ZAp z TI TO i1 i2) :
  Turn P w K (.Tuple elts k pos) (Y2 (yj K b l1)<|yj K c l2) [z,TI,TO,i1,i2] z (λi h=>IsZip h z TI TO .none/\IsPair h TI (.ref i1) (.ref i2)/\(∃a b,IsPair h TO a b)/\IsI b h i1 l1 i/\IsI c h i2 l2 i) where
 mem:=by simp
 obj:=λi h st d hd=>by
  let(m,l,(a,J,O),C,p2):=st;simp?[zQ,yF,xS]at hd;rcases hd with rfl|rfl|rfl|rfl|rfl
  .exact{_,m,λv q=>by have q:Data.fields _=Data.cell v:=q;cases q}
  .exact{_,l,λv q=>by have q:Data.seq _ _=Data.cell v:=q;cases q}
  .exact{_,O,λv q=>by have q:Data.seq _ _=Data.cell v:=q;cases q}
  .exact C.obj
  .exact p2.obj
 keep:=λi h h' st A=>by
  let(m,l,(a,J,O),p,t):=st;exact{A z (by simp) _ m,A TI (by simp) _ l,{a,J,A TO (by simp) _ O},p.at λo q=>A i1 (by simp) o q,t.at λo q=>A i2 (by simp) o q}
 item:=by
  intro X U hw T hc i G s σ H E I F st V;subst U hw T;let(xs,ys,x,y,f,j,M,hy):=V;let(Q,r,C,hz1):=f.src I;let(N,R,p2,hz2):=j.src I;let(u1,Y,ru1):=r.get M;let(u2,hu2,ru2):=R.get hy;have D:ZipApart z TI TO i1 i2 l1 l2:={Z.a1,Z.a2,Z.a3,Z.a4,Z.a5,Z.a6,Z.a7,Z.a8,Z.a9,Z.a0,f.ne I<|F z<|by simp,f.ne I<|F TO<|by simp,f.ne I<|F i1<|by simp,f.ne I<|F i2<|by simp,j.ne I<|F z<|by simp,j.ne I<|F TO<|by simp,j.ne I<|F i1<|by simp,j.ne I<|F i2<|by simp}
  let(m,l,(a,J,O),p,t):=st;refine agx (I.ok.hd hc) D m l O p t C p2 (x:=u1) (y:=u2) (by simpa using Y) (by simpa using hu2) λg b1 b2 b3 b4 b5 b6 hk=>{.ref s.heap.objs.size,rfl,?_}
  have L:∀{c:Ψ}{o:Obj},s.heap.get? c=↑o->s.heap.objs.size≠c:=λe=>jF<|zY e;refine wpAny_letOwnedTupleGo_zip (s:={s with heap:=g}) b1 λg' hz' S=>?_;have u:g'.get? s.heap.objs.size=some {cls:=.type "tuple",data:=.seq #[u1,u2]}:=S.extBut _ _ (L m) b5;have ht:Gx g' s.heap.objs.size (List.toArray [u1,u2]):={{_,u,rfl,_,rfl},_,u,rfl}
  refine⟨.ref s.heap.objs.size,_,BZ (ch:=[z,TI,TO,i1,i2]) (xs:=[x,y]) (t':=s.toks) I F (λb o B q=>?_) (yL _) ht (.cons ru1<|.cons ru2 .nil) (by show 2<=sizeLine;decide),rfl,
   {s.heap.objs.size,x,y,rfl,I.fresh,rfl,λzs n=>by rw[n.inj I f];exact M,λzs n=>by rw[n.inj I j];exact hy},
   {hz',S.extBut _ _ Z.a1<|hk _ _ D.TIz D.TITO D.TIi1 D.TIi2 l,{_,_,S.extBut _ _ Z.a2 b2},b3.extBut S.extBut Z.a3,b4.extBut S.extBut Z.a4},λb B=>?_⟩
  .simp?[zQ,yF,xS,not_or]at B;exact S.extBut _ _ B.1<|hk b o B.1 B.2.2.1 B.2.2.2.1 B.2.2.2.2 q
  .have:s.heap.objs.size≠b:=by
    simp?[zQ,yF,xS]at B;let(o1,g1,_):=p.obj;let(o2,g2,_):=t.obj;rcases B with rfl|rfl|rfl|rfl|rfl
    .exact L m
    .exact L l
    .exact L O
    .exact L g1
    .exact L g2
   rw[ar<|jK this];exact(F b B).1
 done:=by
  intro X U hw T hc i G s σ H E I F st V;subst U hw T;let(xs,ys,f,j,M):=V;let(Q,r,C,hz1):=f.src I;let(N,R,p2,hz2):=j.src I;have D:ZipApart z TI TO i1 i2 l1 l2:={Z.a1,Z.a2,Z.a3,Z.a4,Z.a5,Z.a6,Z.a7,Z.a8,Z.a9,Z.a0,f.ne I<|F z<|by simp,f.ne I<|F TO<|by simp,f.ne I<|F i1<|by simp,f.ne I<|F i2<|by simp,j.ne I<|F z<|by simp,j.ne I<|F TO<|by simp,j.ne I<|F i1<|by simp,j.ne I<|F i2<|by simp}
  let(m,l,(a,J,O),p,t):=st;have e1:=r.length;have e2:=R.length;refine afh (I.ok.hd hc) D m l O p t C p2 (M.elim (λq=>.inl (by simp;lia)) λq=>.inr (by simp;lia)) λg hk=>{rfl,?_}
  refine GV (ch:=[z,TI,TO,i1,i2]) (t':=s.toks) I F λb o B q=>?_;simp?[zQ,yF,xS,not_or]at B;exact hk b o B.1 B.2.2.1 B.2.2.2.1 B.2.2.2.2 q
 self:=λ_ _ _ _ _ st h=>wpAny_pyIter_zip st.1 h
def Pd(B:sx X "zip" (.type "zip"))(A:PA X [l,U] tl)(y:starEach [l,U] X.env=(false,eval l X.env)::starEach [U] X.env)(n:(backTo pos<|starEach [U] X.env).any (·.1)=false) :
  PI X (.Tuple elts k tp) (.Call (.Name "zip" p) [l,U] [] pos) (λσ H R=>tl σ H λvs f=>∃a b,vs=[.ref a,.ref b]/\∃c d xs ys,yj X.K c a f xs/\yj X.K d b f ys/\R (Y2 (yj X.K c a)<|yj X.K d b) f):=by
 refineλP s σ H R I h=>Call_<|kr I B.gl B.mg B.bt<|qN (bZ (A pos P s σ H _ I h) λN r z=>?_) y n;let(vs,f,i,r1,Q):=z;let(a,b,e,c,d,xs,ys,j,m,q):=Q;subst e;let(u,M,rfl,G,Y):=vals2 r1;cases G;cases Y;let(C,J,F,Z):=j.src i;let(S,V,L,z):=m.src i;refine adv F L λg o t v w x D=>wpAny_pyIter_zip o <| {_,_,_,_,f,rfl,i.kept D,Hy c d a b _ _ _ r.heap.objs.size _ ?_,{o,t,{_,_,v},w,x},λc hc=>?_,q}
 .constructor<;>(simp)
 .have E:r.heap.objs.size<=c:=by
   simp  at hc;rcases hc with rfl|rfl|rfl|rfl|rfl
   .apply jS
   .apply jS
   .apply jS
   .apply yL
   .apply jS
  exact i.abq E<|i.hok.fresh E
def Wa:Γ D->Δ (Γ D):=λd=>match d with
 |[x,y]=>(iw x).bind λs=>(iw y).map λY=>nO s Y
 |_=>none
def D9{K:Φ}(h:iw d=↑xs)(r:Rep K HF d v):∃b a vs,v=.ref a/\yj K b a HF vs/\aw K HF xs vs:=by
 rcases nL h with rfl|rfl
 .let(a,vs,rfl,q,R):=r;exact{true,a,vs,rfl,q,R}
 .let(a,vs,rfl,q,R):=r;exact{false,a,vs,rfl,q,R}
def lu(fs:Env->Δ (Γ D)):Env->Δ (Γ D):=λa=>(fs a).bind Wa
def Qq(B:sx X "zip" (.type "zip"))(S:starEach [l,I] X.env=(false,eval l X.env)::starEach [I] X.env)(e:(backTo pos<|starEach [I] X.env).any (·.1)=false)(h:DA X [l,I] fs) :
  DI X (.Tuple elts k tp) (.Call (.Name "zip" p) [l,I] [] pos) (lu fs):=
 Ac (Pd B h S e) λO H R z=>by
  let(F,J,K,sm,o,f,q):=z;let(x,y,f):=bs f;refine{F,J,_,sm,o,y,λM j d g r1=>?_};unfold Wa at f;split at f
  .let(N,t,f):=bs f;let(Y,w,rfl):=af f;let(v,L,rfl,a,b):=r1.cons_inv;let(V,E,rfl,m,n):=b.cons_inv;rw[n.nil_inv];let(c,D,U,rfl,i,G):=D9 t a;let(C,A,u,rfl,Q,r):=D9 w m;exact{D,A,rfl,c,C,U,u,i.mono g.fh,Q.mono g.fh,q _ j d g<|JI i (λ_ _ s h=>h.mono s) Q (λ_ _ s h=>h.mono s) G r}
  .cases f
end Dl
namespace Zp
open PySem PyProof.Rows
def IsI.ne(x:IsI b h it l k)(y:IsS b h l xs):l≠it:=by
 cases b
 .let(o,e,c,d):=(x)
  let(O,E,r):=(y)
  grind
 .let(o,e,c,d):=(x)
  let(O,E,r):=(y)
  grind
def afj(n:A.handled=none)(b:θ)(I l:Ψ)(xs:Array Θ):Draws prog w A I [I,l] xs.size (λi x=>xs[i]?=↑x) (λi h=>IsI b h I l i/\IsS b h l xs) where
 live:=λi h st=>let ⟨o,e,_⟩:=st.1.obj;⟨o,e⟩
 frame:=λi h a st k=>{st.1.at<|k I<|by simp,st.2.at<|k l<|by simp}
 item:=λi s Q E c st H=>nxt st.1 st.2 (v:=xs[i]) (by simp) λg e t=>H _ g s.toks (by simp) {e,st.2.extBut t.extBut<|st.1.ne st.2} t
 done:=λs Q E st=>adZ n st.1 st.2 (by simp)
def agz{f:θ}{e t l:Ψ}{i:Nat}{items:Array Θ}{x O:Θ}{Q:Δ Θ->Ξ->Prop}(m:A.handled=none)
  (qe:IsEnum s.heap e t i O)(I:IsI f s.heap t l i)(q:IsS f s.heap l items)(X:items[i]?=↑x)(n:e≠t)
  (K:∀g T,IsEnumOut g e t ((i:Int)+1) x s.heap.objs.size->IsI f g t l (i+1)->g.get? s.heap.objs.size=some {cls:=.type "tuple",data:=.seq #[.int i T,x]} ->
   g.objs.size=s.heap.objs.size+1->(∀c o,c≠e->c≠t->s.heap.get? c=↑o->g.get? c=↑o)->Q (↑(.ref s.heap.objs.size)) {s with heap:=g,toks:=T+1}) :
  wpAny (model prog w) A (pyNext<|.ref e) Q E s:=by
 have N:e≠l:=by
  rintro rfl;cases f
  .let(o,j,r):=(show s.heap.IsList e items from q)
   rw[qe]at j;cases j;simp at r
  .let(o,j,r):=(show s.heap.IsTuple e items from q)
   rw[qe]at j;cases j;simp at r
 have D:Draws prog w A.in1 t [t,l] items.size (λi x=>items[i]?=↑x) (λi h=>IsI f h t l i/\IsS f h l items):=afj (A:=A.in1) m f t l items;refine wpAny_pyNext_enum_itemD D qe {I,q} (Array.getElem?_eq_some_iff.mp X).1 n (by simp[n,N]) λy g T H a b c d k=>?_;rw[X]at H;cases H;exact K g T a b.1 c d k
end Zp
namespace Dl
open PySem L2 PySem.Spec PyProof.Rows Zp
def ug{K:Φ}(b:θ)(a t e:Ψ)(l:e≠t):Turn P w K (.Tuple elts k pos) (Zl<|yj K b a) [e,t] e (λi h=>(∃d,IsEnum h e t i d)/\IsI b h t a i) where
 mem:=by simp
 obj:=λi h st c hc=>by
  let((d,f),j):=st;rcases List.mem_cons.mp hc with z|z
  .subst z;exact{_,f,λv q=>by have q:Data.fields _=Data.cell v:=q;cases q}
  .rw[List.mem_singleton.mp z];exact j.obj
 keep:=λi h h' st V=>{let ⟨d,f⟩:=st.1;{d,V e (by simp) _ f},st.2.at λo q=>V t (by simp) o q}
 item:=by
  intro X C hw A hc i n s σ H E I y st L;subst C hw A;let(Y,x,Q,U):=L;let(O,R,p,hz):=Q.src I;let(u,hu,ru):=R.get U;let((d,f),j):=st;refine agz (I.ok.hd hc) f j p (by simpa using hu) l λg tk Z b2 b3 b4 hk=>{.ref s.heap.objs.size,rfl,?_}
  have lt:∀{c:Ψ}{o:Obj},s.heap.get? c=↑o->s.heap.objs.size≠c:=λe=>jF<|zY e;refine wpAny_letOwnedTupleGo_enum Z λg' J S=>?_;have B:=S.extBut _ _ (lt f) b3;refine⟨.ref s.heap.objs.size,_,BZ (xs:=[.int i,x]) I y (λc o r q=>?_) (yL _) ({{_,B,rfl,_,rfl},_,B,rfl}) (.cons {_,rfl}<|.cons ru .nil) (by show 2<=sizeLine;decide),rfl,
   {s.heap.objs.size,x,rfl,I.fresh,rfl,λzs N=>by rw[N.inj I Q];lia},{{_,J},b2.extBut S.extBut<|jK l},λc D=>?_⟩
  .simp  at r;exact S.extBut _ _ r.1<|hk c o r.1 r.2 q
  .have:s.heap.objs.size≠c:=by
    let(o1,g1,_):=j.obj
    grind
   rw[ar<|jK this];exact(y c D).1
 done:=by
  intro X C hw A hc i n s σ H E I y st L;subst C hw A;let(Y,Q,U):=L;let(O,R,p,hz):=Q.src I;have hl:=R.length;let((d,f),j):=st;have T:s.TypeIs (.ref e) _:={_,f,rfl}
  refine zV<|kM<|qB T F.slot_enumerate_next<|qS F.slot_enumerate_next T F.entry_enumerate_next (zV (m:=field _ 2)<|qP f rfl rfl (zV<|adZ (I.ok.hd hc) j p (by simp;lia) λh1 x k1 M=>?_))<|F.args_enumerate_next_1 _;let(o,ho,G):=M;refine zV<|wpAny_isInstance {o,ho,G} isSubtype_stop<|zW {rfl,?_};let(f0,f1,f2,f3,f4,f5):=y t (by simp);exact I.turned (k1) f0 f1 f3 f4 f5
 self:=λ_ _ _ _ _ st h=>let ⟨_,f⟩:=st.1;wM f h
def N4(B:sx X "enumerate" (.type "enumerate"))(A:PA X [l] tl)(m:starEach [l] X.env=[(false,eval l X.env)]):PI X (.Tuple elts k U) (.Call (.Name "enumerate" p) [l] [] pos) (λσ H R=>tl σ H λvs c=>∃a,vs=[.ref a]/\∃b xs,yj X.K b a c xs/\R (Zl<|yj X.K b a) c):=by
 refineλP s σ H R I h=>Call_<|kr I B.gl B.mg B.bt<|qN (bZ (A pos P s σ H _ I h) λw S z=>?_) m rfl;let(vs,c,i,r1,o):=z;let(a,e,b,xs,Q,q):=o;subst e;let(u,rfl,r):=vals1 r1;cases r;have f:∀b∈[S.heap.objs.size+1,S.heap.objs.size],dM X P c b:=λb j=>by
  rcases List.mem_cons.mp j with z|z
  .subst z;exact i.abq (Nat.le_succ _)<|i.hok.fresh<|Nat.le_succ _
  .cases List.mem_singleton.mp z;exact i.abq (yL _) i.fresh
 let(n,V,L,v):=Q.src i;cases b with
 |false =>
  exact call_enumerate_list L λg E t Z d=>wM E <| {_,_,_,_,c,rfl,i.kept d,ug false a S.heap.objs.size _<|Nat.succ_ne_self _,{{_,E},t},f,q}
 |true =>
  exact En.ack (L) λg E t Z d=>wM E<|{_,_,_,_,c,rfl,i.kept d,ug true a S.heap.objs.size _<|Nat.succ_ne_self _,{{_,E},t},f,q}
def cz(fs:Env->Δ (Γ D)):Env->Δ (Γ D):=λa=>(fs a).bind λd=>(dF d).map<|cI 0
def Pv(B:sx X "enumerate" (.type "enumerate"))(h:DA X [l] fs)(S:starEach [l] X.env=[(false,eval l X.env)]):DI X (.Tuple elts k I) (.Call (.Name "enumerate" p) [l] [] pos) (cz fs):=
 Ac (N4 B h S) λy H R z=>by
  let(m,t,D,sm,o,F,q):=z;let(x,i,F):=bs F;let(E,f,rfl):=af F;let(d,n,f):=bs f;rw[iB n]at i;refine{m,t,_,sm,o,i,λV j e g r1=>?_};let(v,w,rfl,a,b):=r1.cons_inv;rw[b.nil_inv];let(c,A,u,rfl,Q,r):=D9 f a;exact{A,rfl,c,u,Q.mono g.fh,q _ j e g<|GL Q (λ_ _ s h=>h.mono s) r}
end Dl
namespace Srt
open PySem PySem.W PySem.Calls PyProof.Rows L2
def dM.at(h:dM X pins H b)(e:H' b=none):dM X pins H' b:={e,h.2}
def abp{g:Array Θ->Array Θ}(I:Inv X pins σ H s)(f:dM X pins H b):Inv X pins σ H {s with heap:=s.heap.update b (Obj.mapSeq g)}:=by
 let(F,f1,f2,f3,f4,f5):=f;exact I.turned (λc o hc=>(xM _ _<|jK hc).trans) F f1 f3 f4 f5
def acz(I:Inv X (pins++AA fp h) σ H' s')(H:b∈fp)(e:h.get? b=↑o):s'.heap.get? b=↑o/\H' b=none:=
 let q:=I.pin _<|yE _<|yE _<|fT H e;{q.1,q.2.1}
def aco(I:Inv X pins σ H s)(ho:s.heap.get? a=↑(seqObj "list" vs.toArray n))(fa:dM X pins H a)(h64:vs.length<64)
  (J:Γ Θ->Hp->Prop)(j0:J [] H)
  (step:∀us v,vs[us.length]?=↑v->∀pl s' H',Inv X (pins++pl) σ H' s'->J us H'->wpAny (model X.prog X.w) A (call f [v]) (λu S=>∃d,Inv X (pins++pl) σ d S/\J (us++[u]) d) (λ_ _=>False) s')
  (fin:∀us H',us.length=vs.length->J us H'->∃ (z:Nat->Int) (κ:SortKind),(2<=vs.length->∀s',Inv X pins σ H' s'->(∀Q':SortKind->Ξ->Prop,Q' κ s'->wpAny (model X.prog X.w) A (keyKind' us.toArray) Q' (λ_ _=>False) s') /\
    ∀i j C,i<vs.length->j<vs.length->C (SP.jw z i j) s'->kas_ask X.prog X.w A κ us i j C s') /\
   ∀s' c,Inv X pins σ H' s'->dM X pins H' a->s'.heap.get? a=↑(seqObj "list" (aaI z vs).toArray c)->P (.done<|.ret .none) s') :
  wpAny (model X.prog X.w) A (ksk_tree a f false) P E s:=by
 have hsl:vs.length<=sizeLine:=by rw[qQ];lia
 unfold ksk_tree;refine zV<|vI ho rfl ?_;refine zV<|jX ho rfl ?_ (by omega) (xU _);obtain⟨e1,F⟩:∃e,(s.heap.update a (Obj.mapSeq λ_=>(#[]:Array Θ))).get? a=↑(seqObj "list" #[] e):={_,jY ho λ_=>#[]}
 have I1:=abp (g:=λ_=>(#[]:Array Θ)) I fa;refine zV<|seqEpoch_at F rfl ?_;refine zV<|wpAny_newTuple ?_ (by lia);refine zV<|kL ?_<|xU _;refine xW ?_;have M:(((s.heap.update a<|Obj.mapSeq λ_=>(#[]:Array Θ)).push<|seqObj "tuple" vs.toArray 0).push<|seqObj "list" #[] 0).get? a=↑(seqObj "list" #[] e1):=zU _<|zU _ F;have m:(((s.heap.update a<|Obj.mapSeq λ_=>(#[]:Array Θ)).push<|seqObj "tuple" vs.toArray 0).push<|seqObj "list" #[] 0).get? ((s.heap.update a<|Obj.mapSeq λ_=>(#[]:Array Θ)).push<|seqObj "tuple" vs.toArray 0).objs.size=↑(seqObj "list" #[] 0):=zX _ rfl;have I3:=(I1.kept (t':=s.toks) (h':=((s.heap.update a<|Obj.mapSeq λ_=>(#[]:Array Θ)).push<|seqObj "tuple" vs.toArray 0).push<|seqObj "list" #[] 0) λb o e=>zU _<|zU _ e)
 have I2:=(I1.kept (t':=s.toks) (h':=(s.heap.update a<|Obj.mapSeq λ_=>(#[]:Array Θ)).push<|seqObj "tuple" vs.toArray 0) λb o e=>zU _ e)
 have R:dM X pins H ((s.heap.update a<|Obj.mapSeq λ_=>(#[]:Array Θ)).push<|seqObj "tuple" vs.toArray 0).objs.size:=I2.abq (yL _)<|I2.hok.fresh<|yL _;have D:((s.heap.update a<|Obj.mapSeq λ_=>(#[]:Array Θ)).push<|seqObj "tuple" vs.toArray 0).objs.size≠a:=by
  have T:=zY F;rw[xI];exact jF<|jL T
 show wpAny _ A _ P E {s with heap:=((s.heap.update a<|Obj.mapSeq λ_=>(#[]:Array Θ)).push<|seqObj "tuple" vs.toArray 0).push (seqObj "list" #[] 0)};generalize ((s.heap.update a<|Obj.mapSeq λ_=>(#[]:Array Θ)).push<|seqObj "tuple" vs.toArray 0).objs.size=N at m R D;generalize e3:({s with heap:=((s.heap.update a<|Obj.mapSeq λ_=>(#[]:Array Θ)).push<|seqObj "tuple" vs.toArray 0).push (seqObj "list" #[] 0)}:Ξ)=s3 at I3;have M:s3.heap.get? a=↑(seqObj "list" #[] e1):=by rw[<-e3];exact M
 have m:s3.heap.get? N=↑(seqObj "list" #[] 0):=by rw[<-e3];exact m
 refine zV<|wpAny_rule ?_;rw[List.forIn_toArray];refine zV (ksk_fold (λi s'=>∃us H' e,us.length=i/\Inv X pins σ H' s'/\H' a=none/\H' N=none/\s'.heap.get? a=↑_/\s'.heap.get? N=↑(seqObj _ us.toArray e)/\J us H') vs 0 s3
  {[],H,0,rfl,I3,fa.1,R.1,M,m,j0} ?step ?done)
 case step =>
  rintro j x s' hx ⟨us,H',e,U,Z,l,K,q,k,j'⟩;have U:us.length=j:=by lia
  have hj:=(List.getElem?_eq_some_iff.mp hx).1;have Ip:=Z.pinned (λb B=>by
   rcases List.mem_cons.mp B with rfl|B
   .exact dM.at fa l
   .rw[List.mem_singleton.mp B];exact dM.at R K) (λb B=>by
   rcases List.mem_cons.mp B with rfl|B
   .exact{_,q,λv z=>by cases z}
   .rw[List.mem_singleton.mp B];exact{_,k,λv z=>by cases z})
  refine zV<|kM<|yZ (step us x (by rw[U];exact hx) _ s' H' Ip j') (λu S he=>?_) λ_ _ hF=>hF.elim;let(d,y,j''):=he;let(ga,na):=acz y zE q;let(gk,nk):=acz y (zC _ zE) k;have I4:=y.aaN;obtain⟨c2,hc2⟩:∃c2,(S.heap.update N (Obj.mapSeq (·.push u))).get? N=↑_:={_,jY gk _}
  refine zV<|jX gk rfl (zW {rfl,us++[u],d,c2,by rw[zN,U];simp,abp I4<|dM.at R nk,na,nk,(xM _ _ D).trans ga,?_,j''}) (by rw[zH,qQ];lia) (yD (Nat.le_of_eq<|Array.size_push ..) (by rw[zH,qQ];lia));rw[hc2];simp
 case done =>
  rintro s' ⟨us,H',e,U,Z,l,K,q,k,j'⟩;have U:us.length=vs.length:=by lia
  refine zV<|vI k rfl ?_;let(z,κ,hz,hP):=fin us H' U j';have L:∀t ,(arrOf t).map _=(aaI z vs).toArray->failedOf t=none->wpAny (model X.prog X.w) A (ksk_tail a false e1 _ t) P E s':=λt h1 r=>by
   unfold ksk_tail;rw[h1,r];have O:(s'.heap.update N<|Obj.mapSeq λ_=>#[]).get? a=↑_:=(xM _ _ D).trans q;have I6:=abp (g:=λ_=>(aaI z vs).toArray) (abp (g:=λ_=>(#[]:Array Θ)) Z<|dM.at R K)<|dM.at fa l;refine zV<|jX k rfl ?_ (by rw[zH,qQ];lia) (xU _);refine zV<|wpAny_letGo<|zV<|seqEpoch_at O rfl ?_;refine zV (jX O rfl ?_ (xU _) (by
    simp?[yN,qL];rw[zH,abZ];lia))
   obtain⟨c,hc⟩:∃c,((s'.heap.update N (Obj.mapSeq _)).update a (Obj.mapSeq λ_=>(aaI z vs).toArray)).get? a=↑_:={_,jY O _}
   simp ;exact zW<|hP _ c I6 (dM.at fa l) hc
  unfold ksk_end;simp?[yN,qL];by_cases r:vs.toArray.size<2
  .rw[yK r,yK r];refine zV<|zW<|L _ ?_ rfl;rw[aaI,yK<|by simpa using r];show((us.toArray.zip vs.toArray).map _)=vs.toArray;simp ;exact List.map_snd_zip (by rw[U];apply yL)
  .rw[yM r,yM r];have V:2<=vs.length:=by
    have:¬vs.length<2:=by exact r
    lia
   let(hk,T):=hz V s' Z;refine zV<|yZ (hk (λY S=>Y=κ/\S=s') ⟨rfl,rfl⟩) (λY S hs=>?_) λ_ _ x=>x.elim;let(rfl,rfl):=hs;refine zV (yZ (kat_run (Q:=λt W=>W=S/\(arrOf t).map (·.2)=(aaI z vs).toArray/\failedOf t=none) (G:=λp W=>W=S/\p=SP.run _ _)
    U V h64 (λp t W a1 a2 a3 a4=>{a4.1,?_,a3}) (SP.wp_run T _ (SP.JD<|by lia) {rfl,rfl})) ?_ λ_ _ e=>e)
   .rw[kat_snds U a2,a4.2];rw[aaI,yM<|by lia]
   .rintro⟨⟨⟩,t⟩ W ⟨hs,h4,h5⟩;subst hs;exact L t h4 h5
def sortedK{l:Θ}{f:Ψ}{Q:Θ->Ξ->Prop}(I:Inv X pins σ H s)(n:vs.length<64)
  (m:∀{q:Γ Θ->Ξ->Prop},(∀h':ι,(∀b o,s.heap.get? b=↑o->h'.get? b=↑o)->q vs {s with heap:=h'})->wpAny (model X.prog X.w) A.in1 (collect l) q E s)
  (J:Γ Θ->Hp->Prop)(x:J [] H)
  (step:∀us v,vs[us.length]?=↑v->∀pl s' H',Inv X (pins++pl) σ H' s'->J us H'->wpAny (model X.prog X.w) A.in1.in1 (call (.ref f) [v]) (λu S=>∃a,Inv X (pins++pl) σ a S/\J (us++[u]) a) (λ_ _=>False) s')
  (fin:∀us H',us.length=vs.length->J us H'->∃ (z:Nat->Int) (g:SortKind),(2<=vs.length->∀s',Inv X pins σ H' s'->(∀q:SortKind->Ξ->Prop,q g s'->wpAny (model X.prog X.w) A.in1.in1 (keyKind' us.toArray) q (λ_ _=>False) s') /\
    ∀i j C,i<vs.length->j<vs.length->C (SP.jw z i j) s'->kas_ask X.prog X.w A.in1.in1 g us i j C s') /\
   ∀s' D c,Inv X pins σ H' s'->dM X pins H' D->s'.heap.get? D=↑(seqObj "list" (aaI z vs).toArray c)->Q (.ref D) s') :
  wpAny (model X.prog X.w) A (call (.builtin "sorted") [l] [(Str.ofString "key",.ref f)]) Q E s:=by
 have L:vs.length<=sizeLine:=by rw[qQ];lia
 apply call_function_entry_kw kind_sorted plain_sorted entry_sorted<|ksk_s1 _ _;refine zV<|zW<|zV<|m λp K=>(zV<|kL ?_<|by lia);have k:=I.kept (t':=s.toks) K;have d:(p.push<|seqObj "list" vs.toArray 0).get? p.objs.size=↑_:=zX _ rfl;refine zV<|xW<|wpAny_call_entry_kw slot_list_sort {_,d,rfl} entry_list_sort ?body<|ksk_l1 _ _
 case body =>
  refine aco (k.kept λb o=>zU _) d (k.abq (yL _)<|k.hok.fresh<|yL _) n J x step λus H' U t=>?_;let(z,g,Z,P):=fin us H' U t;exact{z,g,Z,λs' c r F e=>{_,rfl,zW {_,rfl,P s' _ c r F e}}}
end Srt
namespace Dl
open PySem L2 PySem.Spec PyProof.Rows
def _root_.L2.Inv.agA(I:Inv X pins σ H s)(f:dM X pins H b)(i:gh X.prog X.w (upd H b o) s.heap b o):Inv X pins σ (upd H b o) s:=by
 let(F,f1,f2,f3,f4,f5):=f;have up:∀c u,H c=↑u->upd H b o c=↑u:=λc u e=>by rw[ar<|aS e F];lia
 refine{I.ok,I.os,I.bare,{I.base.keep,I.base.slot,λc O e n a=>?_,I.base.there,λc S e=>up c _<|I.base.abe c S e,λc O u e=>up c _<|I.base.aa4 c O u e,λc u e t=>up c u<|I.base.aaZ.st c u e t,I.base.aaZ.gr},I.loc,I.cell,?_,λx c e=>?_,λp P=>?_,λc u e=>?_,I.len}
 .have E:c≠b:=λz=>by
   rcases f3 with g|g
   .exact a<|z▸g
   .exact absurd (zP (zY e)<|z▸g)<|qC _
  rw[ar E];exact I.base.free c O e n a
 .rw[ar<|jK f1];exact I.free
 .rw[ar<|f4 x c e];exact I.aax x c e
 .let(e,n,r):=I.pin p P;exact{e,by rw[ar<|f5 p P];lia,r}
 .by_cases hc:c=b
  .subst hc;rw[av]at e;grind
  .rw[ar hc]at e;exact(I.hok c u e).aaH (λd w _ q=>q) (λd=>up d _) λd w q _=>up d _ q
def Bf(scope:ζ)(N:Γ Str)(p:Str):θ:=scope.names.all (λq=>!decide (q.2=NameKind.cell))&&decide (N[0]?=↑p)&&decide (scope.names.lookup p=↑.local)&&decide (scope.isCoroutine=false)&&decide (scope.isGenerator=false)
section
def Ug(C:Bk X N sc (k+3))(a:cA (k+1) A)(hk:scope.kind=.function)(vm:N'.Nodup)(l:Bf scope N' p=true):Bk (lx X A qual scope N' f c s H) N' scope k where
 n:=rfl
 nd:=vm
 tb:=λx d=>.inl
 calm:=rfl
 fn:=λx b=>by
  simp?[Bf,zF,xF,yO,xA]at l;exact absurd rfl (l.1.1.1.1 _<|mem_of_lookup b)
 room:=a.deeper _
 xe:=rfl
 kd:=hk
structure xl(X:Cx)(qual:Str):Prop where
 ex:∃c P,X.env.code=.ref c/\X.env.qual++"<lambda>"=qual/\W.codeHdIn X.K c P=true/\∀HF,bN X.K HF->HF P=↑(.tab qual)
def r9(te:Env->Δ D)(ρ:Env):Γ D->Δ (Γ D)
 |[]=>↑[]
 |d::s=>(te<|ρ.set 0<|↑d).bind λx=>(r9 te ρ s).map (x::·)
def yd:∀{ds k:Γ D},r9 te ρ ds=↑k->k.length=ds.length
 |[],k,h=>by cases h;rfl
 |d::ds,k,h=>by
  let(y,a,h):=bs h;let(s,H,rfl):=af h;simp[yd H]
def BW:∀{ds k:Γ D}{i:Nat}{d:D},r9 te ρ ds=↑k->ds[i]?=↑d->∃x,te (ρ.set 0<|↑d)=↑x/\k[i]?=↑x
 |[],k,i,d,h,e=>by simp at e
 |f::ds,k,i,d,h,e=>by
  let(y,H,h):=bs h;let(s,c,rfl):=af h;cases i with
  |zero=>simp at e;subst e;exact{y,H,rfl}
  |succ i=>let(x,a,b):=BW c<|e;exact⟨x,a,b⟩
def qy(cs:Γ Nat)(fl te:Env->Δ D):Env->Δ (Γ D):=λa=>(fl a).bind λl=>match l with
 |.list d=>(r9 te (iC 1 cs a) d).bind λk=>(intsOf k).bind λzs=>if d.length<64 then↑(CZ (λi=>zs.getD i 0) d .none)else none
 |_=>none
def L9{K:Φ}{cs:Γ Nat}(e:cK K HF ρ σ)(r:Rep K HF d v):cK K HF ((iC 1 cs ρ).set 0<|↑d) ((lU 1 cs σ).set 0<|↑v):=j9 (FI e) r
def oM{K:Φ}:∀{s:Γ D}{zs:Γ Int}{k:Γ V}{us:Γ Θ},intsOf s=↑zs->aw K HF s k->aO k us->IntsAre us zs
 |[],zs,k,us,h,r,v=>by
  cases h;rw[r.nil_inv]at v;cases v;exact .nil
 |d::s,zs,k,us,h,r,v=>by
  cases d<;>simp?[intsOf]at h<;>try grind
  rename_i i;let(y,H,rfl):=af h;let(w,S,rfl,a,b):=r.cons_inv;subst a;cases v with
  |cons r1 R =>
   let(t,rfl):=r1;exact .cons i t<|oM H b R
def lj:∀{us:Γ Θ}{zs:Γ Int}{i:Nat},IntsAre us zs->i<us.length->∃t,us.getD i Value.none=.int (zs.getD i 0) t
 |_,_,i,.nil,h=>by simp at h
 |_,_,0,.cons n t r,h=>{t,rfl}
 |_,_,i+1,.cons n t r,h=>by
  let(T,e):=lj (i:=i) r (by simpa using h);exact{T,by simpa using e}
variable {fl te:Env->Δ D}{cs:Γ Nat}
def Bk.agB(C:Bk X N sc (k+3))(B:sx X "sorted" (.builtin "sorted"))(L:xl X qual)(ok:qx sc scope N N' 1 cs=true)(hl:Bf scope N' p=true)
  (T:∀(cl:Γ (Str×Ψ))(pm V u:Θ)(c:Ψ),bindArgs (W.kla_fn "<lambda>" qual params body scope cl pm (.ref c) V) {[u],[]}=pure [(p,u)])(ae4:defaultsOf params X.env=([],[]))(h:DE X l fl)
  (hY:∀A f c s H,Bk (lx X A qual scope N' f c s H) N' scope k->DE (lx X A qual scope N' f c s H) body te)
  (hst:starEach [l] X.env=(false,eval l X.env)::starEach [] X.env)(he:backTo pos (starEach [l] X.env)=(false,eval l X.env)::backTo pos (starEach [] X.env))(hpl:(backTo pos<|starEach [l] X.env).any (·.1)=false) :
  DF X (.Call (.Name "sorted" p0) [l] [{↑"key",.Lambda params body scope adn,agC}] pos) (qy cs fl te):=by
 let(S,_):=C.comp ok;have vm:N'.Nodup:=by
  unfold qx at ok;simp?[zF,zJ]at ok;exact ok.2
 have hl':=hl;simp?[Bf,zF,xF,yO,xA,zJ]at hl';obtain⟨⟨⟨⟨hnc,hN0⟩,hp⟩,hco⟩,ae2⟩:=hl';let(cc,P,acw,agD,hhd,lD):=L.ex;intro pins s σ H Q I ⟨HF,ρ,out,sm,eo,F,q⟩;let(ld,hld,F):=bs F;cases ld<;>try cases F
 rename_i ds;let(ks,Z,F):=bs F;let(zs,hzs,F):=bs F;split at F<;>cases F;refine qU<|kr I B.gl B.mg B.bt ?_ (by decide) (by rfl);refine PyProof.Rows.callWith_kw (bZ (FB h KZ hst pos pins s σ H _ I {HF,ρ,[.list ds],sm,eo,by simp[aa,ag,hld],λvs H1 a t r1=>({a,t,r1}:∃a,bo HF H a H1/\aw X.K a [.list ds] vs)}) λU s1 z=>?_) he hpl rfl rfl;let(vs,H1,I1,rv,a,t,r1):=z;let(v,vr,rfl,a1,b1):=r1.cons_inv;rw[b1.nil_inv]at rv;let(u,rfl,rx):=vals1 rv;let(la,ws,rfl,hq,rr):=a1;cases rx;refine wpAny_evalAll_cons<|zV ?_;refine Me I1 S agD acw (W.codeHd_of_K I1.ok.mod.kin hhd) (t.fh _ _<|lD a<|eo.tb.mono t.ff) I1.ok.mod.bmd ae4 λf c' pm V s2 H2 I2 Y hfn ae3 J fp2 _=>(zV<|kZ<|zW<|wpAny_evalAll_nil ?_)
 have Ip:=I2.pinned (fp:=[f]) (λb T=>by rw[List.mem_singleton.mp T];exact fp2) (λb T=>by rw[List.mem_singleton.mp T];exact{_,Y,λv z=>by cases z});have g2:bo a H1 a H2:={J,.refl _,t.fh.trans J,λ_ _=>.inl}
 let(E,r,pl,hz):=Ip.list<|J.seq<|t.fh.seq hq;have hlen:E.length=ds.length:=by rw[<-r.length,rr.length]
 have hkl:=yd Z;have hR:=C.room.in1.in1;refine Srt.sortedK (vs:=E) Ip (by lia) (λ{Q'}hQ=>?_) (λU H'=>∃O m,bo a H2 O H'/\aw X.K O (ks.take U.length) m/\aO m U) {a,[],.refl g2.fh,by rfl,.nil} (λU x hx pl' s3 H3 M ⟨n,m,y,rk,R⟩=>?_) λU H3 hu ⟨n,m,y,rk,R⟩=>?_
 .exact collect_list pl.isList (hQ _ λb o e=>((xM _ _<|jF<|zY e).trans<|zU _ e)) (by rw[qQ];lia)
 .have hi:U.length<E.length:=(List.getElem?_eq_some_iff.mp hx).1;obtain⟨w,hw⟩:∃w,ws[U.length]?=↑w:={_,zK (by rw[r.length];exact hi)}
  let(x',hx',rw'):=r.get hw;rw[hx]at hx';cases hx';let(d,hd,rd):=rr.get hw;let(kd,hkd,hki):=BW Z hd;refine yZ (Mm (Q:=λv H4=>∃g,bo n H3 g H4/\Rep X.K g kd v) M hR M.ok.frames S hnc hN0 hp vm hco ae2 ((M.pin (f,_)<|yE _<|qG _<|yE _<|fT zE Y).1) (y.hh _ _ ae3) (T _ _ _ _ _) rw' (hY _ _ _ _ _<|Ug C hR S.kind vm hl)
   {n,_,kd,y.fh,L9 (eo.mono<|t.ff.trans y.ff)<|rd.mono y.ff,hkd,λv H4 g g4 r4=>{g,g4,r4}}) (λu s4 ⟨v4,H4,I4,r4,g,g4,rp⟩=>{H4,I4,g,m++[v4],y.trans g4,?_,R.append<|.cons r4 .nil}) λ_ _ e=>e
  rw[zN,xB,List.take_add_one,hki];exact(rk.mono g4.ff).append<|aw.cons rp .nil
 .rw[(List.take_of_length_le<|by lia)]at rk;have ia:=oM hzs rk R;refine{λi=>zs.getD i 0,oneType',λh2 s3 M=>{λQ' q'=>?_,λi j Cc hi hj q'=>?_},λs3 Dn c M fD e=>?_}
  .rw[PyProof.Rows.ksk_kind (by exact ia)<|by simpa [hu]using h2];exact zW q'
  .let(t1,e1):=lj ia (i:=i) (by lia);let(t2,e2):=lj ia (i:=j) (by lia);rw[W.kas_ask,e1,e2];exact W.kat_lt_int q'
  .have D:=fD.1;have I4:=Inv.agA (o:=.lst _) M fD {by rw[(nZ _ _ _).length_eq];exact hz,_,c,(AZ (λi=>zs.getD i 0) r),e};have G:=(t.trans g2).trans y;exact{.ref Dn,_,I4.aaN,rfl,q Dn _ _ n (G.trans<|.own G.fh D) (G.hh.free D) (G.fh.free D) av<|(Ci (λi=>zs.getD i 0) rr).mono y.ff}
end
end Dl
namespace Srt
open PySem PySem.W PySem.Calls PyProof.Rows L2
end Srt
namespace Dl
open PySem L2 PySem.Spec PyProof.Rows
section
variable {cs:Γ Nat}
end
def ZA(i j l:Nat):Env->D->Δ Env:=λa d=>match d with
 |.tuple [x,y,z]=>if isFree a i=true/\isFree a j=true/\isFree a l=true then↑(((a.set i<|↑x).set j<|↑y).set l<|↑z)else none
 |_=>none
def Lz(i j l:Nat)(hc:X.calm=true)(n:X.N.Nodup)(hi:X.N[i]?=↑x)(t:Loc X.env.scope x)(J:X.N[j]?=↑y)(Y:Loc X.env.scope y)(L:X.N[l]?=↑z)(Z:Loc X.env.scope z)
  (f:X.fn x=true\/X.env.scope.names.lookup x=↑.local)(F:X.fn y=true\/X.env.scope.names.lookup y=↑.local)(A:X.fn z=true\/X.env.scope.names.lookup z=↑.local) :
  DG X (.Tuple [.Name x px,.Name y py,.Name z I] k pos) (ZA i j l):=
 ue (uS hc<|dq (dB n hi t f)<|dq (dB n J Y F)<|dq (dB n L Z A) pd) λv T H Q z=>by
  let(D,P,d,C,sm,e,r,f,q):=z;unfold ZA at f;split at f
  .rename_i K M O;split at f
   .rename_i b;cases f;simp?[Rep]at r;let(a,S,rfl,s,R):=r;let(V,r1,rfl,c,B):=R.cons_inv;let(u,E,rfl,g,o):=B.cons_inv;let(w,G,rfl,m,p):=o.cons_inv;rw[p.nil_inv]at s;exact{a,_,rfl,aG sm s,rfl,V,_,rfl,u,_,rfl,w,_,rfl,rfl,q _ (j9 (j9 (j9 e c) g) m)<|mS (mS (mS e b.1) b.2.1) b.2.2}
   .cases f
  .cases f
def Dh(d:D):Γ D->Δ Nat
 |[]=>none
 |x::s=>if PyData.eqv x d=true then↑0 else(Dh d s).map (·+1)
def w8:∀{xs:Γ D}{j:Nat},Dh d xs=↑j->j<xs.length/\(∀x,xs[j]?=↑x->PyData.eqv x d=true)/\∀m,m<j->∀x,xs[m]?=↑x->PyData.eqv x d=false
 |[],j,h=>by cases h
 |x::xs,j,h=>by
  unfold Dh at h;split at h
  .cases h;rename_i e;exact{Nat.succ_pos _,λy H=>by cases H;exact e,λm M=>absurd M<|vN _}
  .rename_i e;let(k,hk,rfl):=af h;let(a,b,c):=w8 hk;refine{by simpa using a,λy H=>b y<|by simpa using H,λm M y H=>?_};cases m with
   |zero=>cases H;simpa using e
   |succ m=>exact c m (by lia) y (by simpa using H)
def HA(hu:X.A.units+66<cLine):Rx X "list.index" (λx vs H Q=>∃ (HF:Hp) (ds:Γ D) (d:D) (y:V) (j:Nat),aA HF H/\Rep X.K HF (.list ds) x/\vs=[y]/\Rep X.K HF d y/\SeqAt.shaped d=true/\SeqAt.shaped (.list ds)=true/\ds.length<=sizeLine/\Dh d ds=↑j/\Q (.int j) H):=by
 intro P s σ H x vs v us Q I W T h;let(HF,ds,d,y,j,sm,r1,rfl,R,w,L,hz,E,q):=h;let(u,rfl,U):=T.one;let(S,G):=cQ I sm r1 W;let(bs,O):=cQ I sm R U;have c1:=kF w;have c2:=kF L;have Z:=SeqAt.depth_of_shaped w;simp?[PyData.canLay0]at c2;have m:=Nat.min_le_right (PyData.depthAll ds) d.depth;let(b,c,e):=w8 E;cases G with
 |list k p r t =>
  rename_i l o i n S;let(C,B,g,Y):=o;simp only at p r;subst p r;have f:=SeqAt.readsAll_map _ _ _ c2 t;have N:i.size=ds.length:=by rw[<-f];simp
  have z:(sizeLine:Nat)<2^62:=by decide
  have a:∀m(f:m<i.size),ds[m]?=↑(SeqAt.readOf s.heap i[m]):=λm M=>by
   rw[<-f,zO,Array.getElem?_toList,jV M];rfl
  refine qT F.slot_list_index {_,k,rfl} F.entry_list_index (F.args_list_index_2 _ _) (PySem.SeqAt.list_indexAt l i n B Y u (λy=>PyData.eqv (SeqAt.readOf s.heap y) d) j (by rw[N];exact b) (by lia) ?_ ?_) {k,?_,?_}
  .exact c _<|a j (by rw[N];exact b)
  .intro m M J;exact e m J _<|a m M
  .exact SeqAt.items_eqAt t O c2 c1<|by lia
  .exact{.int j,H,I.tok _,{_,rfl},q}
def Cm:Γ D->Δ D
 |[.int a,.int b]=>↑(.int<|max a b)
 |_=>none
def JK(hc:X.calm=true):fF X (.builtin "max") (λxs H Q=>∃a b ,xs=[.int a,.int b]/\Q (.int<|max a b) H):=by
 intro p s d H xs U Q I r h;let(a,b,rfl,q):=h;cases r with
 |cons r1 r =>
  cases r with
  |cons R r =>
   cases r;let(t,rfl):=r1;let(u,rfl):=R;refine max_two_ints (I.ok.hd hc) λc T k=>{.int _,H,I.kept k,?_,q}
   by_cases h:b > a
   .rw[yK h,show max a b=b by lia];exact{_,rfl}
   .rw[yM h,show max a b=a by lia];exact{_,rfl}
def Sy(hc:X.calm=true)(B:sx X "max" (.builtin "max"))(E:starEach (e::es) X.env=(false,eval e X.env)::starEach es X.env)(l:(backTo pos<|starEach es X.env).any (·.1)=false)(f:DA X (e::es) fs):DE X (.Call (.Name "max" p) (e::es) [] pos) (bT Cm fs):=
 jq (JK hc) (by
  intro F H s S d Q sm r g q;unfold Cm at g;split at g
  .cases g;let(v,r1,rfl,a,b):=r.cons_inv;let(V,R,rfl,A,c):=b.cons_inv;rw[c.nil_inv];simp?[Rep]at a A;exact{_,_,by rw[a,A],q _ H F (.refl sm)<|by simp[Rep]}
  .cases g) B f (by decide) (by decide) E l
def VP(x y:D):Δ θ:=match y with
 |.tuple d=>if SeqAt.shaped x=true/\SeqAt.shaped y=true then↑(!d.any λz=>PyData.eqv z x)else none
 |.list d=>if SeqAt.shaped x=true/\SeqAt.shaped y=true then↑(!d.any λz=>PyData.eqv z x)else none
 |_=>none
def Jx(u:X.A.units+66<cLine):iG X (compareOp .NotIn) (W9 X.K VP):=by
 intro p s f H v V U e Q I c Y h;let(F,x,y,k,sm,r1,R,g,q):=h;let(S,r):=cQ I sm r1 c;let(bs,b):=cQ I sm R Y;cases y<;>simp?[VP]at g<;>try cases g
 all_goals
  split at g<;>cases g;rename_i d a;have c1:=kF a.1;have c2:=kF a.2;have D:=SeqAt.depth_of_shaped a.1;simp?[PyData.canLay0]at c2;have m:=Nat.min_le_right (PyData.depthAll d) x.depth
  first
   |exact SeqAt.notIn_list_reads b r c2 c1 (by lia) {.bl _,H,I,rfl,q}
   |exact SeqAt.notIn_tuple_reads b r c2 c1 (by lia) {.bl _,H,I,rfl,q}
def uT:D->D->Δ D:=λx y=>(VP x y).map PyData.bool
def Bk.agE(C:Bk X N sc k)(H:DE X a fa)(B:DE X b fb)(m:behindInMarks .NotIn b=false:=by rfl):DE X (.Compare a [.NotIn] [b] pos) (f2 uT fa fb):=kz (Jx C.u66) lh H B m
def Bk.aji(C:Bk X N sc k)(H:DE X a fa)(B:DE X b fb)(m:behindInMarks .NotIn b=false:=by rfl):DT X (.Compare a [.NotIn] [b] pos) (fB<|f2 uT fa fb):=j3 (Jx C.u66) lh H B m
def nK(i j:Nat)(z:Γ Nat)(f:Env->Δ D):aq->Δ Out:=λa=>(f<|bx<|hand z 0 a).bind λd=>match d with
 |.tuple [x,y]=>↑(.nx<|((if fH (.tuple [x,y])=true then a else hand z 0 a).set i<|.val x).set j<|.val y)
 |_=>none
def KA:γ->θ
 |.Call ..=>true
 |.Subscript ..=>true
 |_=>false
def LB(i j:Nat)(Z:Γ Nat)(hc:X.calm=true)(p:X.N.Nodup)(hi:X.N[i]?=↑x)(R:Loc X.env.scope x)(Q:X.N[j]?=↑y)(Y:Loc X.env.scope y)(P:KA e=true)(O:DE X e f)
  (L:X.fn x=true\/X.env.scope.names.lookup x=↑.local)(M:X.fn y=true\/X.env.scope.names.lookup y=↑.local):DS X aaa aab (.Assign [.Tuple [.Name x px,.Name y py] m pt] e pos) (nK i j Z f):=
 bp (Dz O (uS hc<|dq (dB p hi R L)<|dq (dB p Q Y M) pd) (by cases e<;>first|rfl|cases P) (by cases e<;>first|rfl|cases P)) λE σ H z=>by
  let(W,ρ,o,S,g,q):=z;unfold nK at g;let(d,h,g):=bs g;split at g
  .rename_i u v;cases g;let(b,C,s):=S.hand Z;refine{b,_,.tuple [u,v],s.gr.fh,s.frz,h,λw k F G r=>?_};simp?[Rep]at r;let(a,vs,rfl,t,T):=r;let(V,r1,rfl,A,J):=T.cons_inv;let(D,r2,rfl,l,K):=J.cons_inv;rw[K.nil_inv]at t;refine{a,_,rfl,aG G.fh t,rfl,V,_,rfl,D,_,rfl,rfl,?_};by_cases n:fH (.tuple [u,v])=true
   .rw[yK n]at q;let(c,U,I,B,_):=S.back s C G;simp?[fH,qb,zF,Bool.and_true]at n;exact q _ k c ((I.aaO<|B u V n.1 A).aaO<|B v D n.2 l) U
   .rw[yM n]at q;exact q _ k F (((s.grow G).aaO A).aaO l)<|C.trans G.ff
  .cases g
structure ZX(h:Heap)(v:Value)(r:List Int):Prop where
 ex:∃ (a:Ψ) (o:Obj) (n:Nat) (p:Θ) (x y m:Int) (t:Tok),v=.ref a/\r=[x,y,m]/\h.get? a=↑o/\o.cls=.type "tuple"/\o.data=.seq #[p,.int m t] n/\Br h p [x,y]
end Dl
namespace HT
open PySem PyProof.Rows
section
open PySem.SeqAt
open PySem.AutoSeq1 (wpAny_loadPart')
open PySem.MeetsSeq PySem.MeetsSeq2 PySem.MeetsSeq3
end
end HT
namespace Dl
open PySem L2 PySem.Spec PyProof.Rows
def lq:Γ D->Δ (Γ<|Γ Int)
 |[]=>↑[]
 |d::r=>(pj d).bind λn=>(lq r).map (n::·)
section
variable {fl te:Env->Δ D}{cs:Γ Nat}
end
def Ga:γ->θ
 |.Call ..=>true
 |.Subscript ..=>true
 |.Name ..=>true
 |_=>false
def lZ(i j l:Nat)(F:Γ Nat)(f:Env->Δ D):aq->Δ Out:=λa=>(f<|bx<|hand F 0 a).bind λd=>match d with
 |.tuple [x,y,z]=>↑(.nx<|(((if fH (.tuple [x,y,z])=true then a else hand F 0 a).set i<|.val x).set j<|.val y).set l<|.val z)
 |_=>none
def JN(i j l:Nat)(Z:Γ Nat)(hc:X.calm=true)(k:X.N.Nodup)(hi:X.N[i]?=↑x)(hx:Loc X.env.scope x)(hj:X.N[j]?=↑y)(hy:Loc X.env.scope y)(hl:X.N[l]?=↑z)(hz:Loc X.env.scope z)(P:Ga e=true)(Y:DE X e f)
  (T:X.fn x=true\/X.env.scope.names.lookup x=↑.local)(U:X.fn y=true\/X.env.scope.names.lookup y=↑.local)(W:X.fn z=true\/X.env.scope.names.lookup z=↑.local):DS X aaa aab (.Assign [.Tuple [.Name x px,.Name y py,.Name z pz] m pt] e pos) (lZ i j l Z f):=
 bp (Dz Y (uS hc<|dq (dB k hi hx T)<|dq (dB k hj hy U)<|dq (dB k hl hz W) pd) (by cases e<;>first|rfl|cases P) (by cases e<;>first|rfl|cases P)) λE σ H z=>by
  let(HF,ρ,o,S,g,q):=z;unfold lZ at g;let(d,h,g):=bs g;split at g
  .rename_i u v t;cases g;let(b,J,s):=S.hand Z;refine{b,_,.tuple [u,v,t],s.gr.fh,s.frz,h,λw p F G r=>?_};simp?[Rep]at r;let(a,vs,rfl,I,rr):=r;let(V,r1,rfl,A,O):=rr.cons_inv;let(K,r2,rfl,C,Q):=O.cons_inv;let(L,r3,rfl,D,R):=Q.cons_inv;rw[R.nil_inv]at I;refine{a,_,rfl,aG G.fh I,rfl,V,_,rfl,K,_,rfl,L,_,rfl,rfl,?_};by_cases n:fH (.tuple [u,v,t])=true
   .rw[yK n]at q;let(c,s2,M,B,_):=S.back s J G;simp?[fH,qb,zF,Bool.and_true]at n;exact q _ p c (((M.aaO<|B u V n.1 A).aaO<|B v K n.2.1 C).aaO<|B t L n.2.2 D) s2
   .rw[yM n]at q;exact q _ p F ((((s.grow G).aaO A).aaO C).aaO D)<|J.trans G.ff
  .cases g
end Dl
namespace HT
open PySem PyProof.Rows
section
open PySem.SeqAt
open PySem.AutoSeq1 (wpAny_loadPart')
open PySem.MeetsSeq PySem.MeetsSeq2 PySem.MeetsSeq3
end
end HT
namespace Dl
open PySem L2 PySem.Spec PyProof.Rows
structure R3V(h:Heap)(v:Value)(r:List Int):Prop where
 ex:∃ (a:Ψ) (o:Obj) (n:Nat) (p:Θ) (x y:Int) (t u:Tok) (ns:Γ Int),v=.ref a/\r=x::y::ns/\h.get? a=↑o/\o.cls=.type "tuple"/\o.data=.seq #[.int x t,.int y u,p] n/\Br h p ns
inductive Ze{α:Type}(X:Cx)(R:Addr->α->Prop):List Expr->List α->List V->Prop
 |nil:Ze X R [] [] []
 |cons {x:Str}{p:Pos}{m:α}{f:Ψ}{es:Γ γ}{ms:Γ α}{vs:Γ V}(hg:Gl X x) (hm:X.mg x=↑(.ref f)) (hd:(x==("__debug__":Str))=false) (r:R f m) (t:Ze X R es ms vs):Ze X R (.Name x p::es) (m::ms) (.ref f::vs)
end Dl
namespace Rf
open PySem L2 Dl PySem.Spec PyProof.Rows
variable {env:PySem.Env}
def gu{c:Prop}[Decidable c]{f:c->Δ α}(h:(if q:c then f q else none)=↑z):c:=by
 grind
def ax{c:Prop}[Decidable c]{a:Δ α}(h:(if c then a else none)=↑z):c/\a=↑z:=by
 grind
def b0{c:Prop}[Decidable c]{a b:Δ α}(h:(if c then a else b)=↑z):(c/\a=↑z)\/(¬c/\b=↑z):=by
 by_cases q:c
 .rw[yK q]at h;exact .inl {q,h}
 .rw[yM q]at h;exact .inr {q,h}
def bR{o:Δ α}{a:Δ β}{f:α->Δ β}(h:o.elim a f=↑g):(o=none/\a=↑g)\/∃z,o=↑z/\f z=↑g:=by
 cases o with
 |none=>exact .inl {rfl,h}
 |some z=>exact .inr {z,rfl,h}
def dN(e:γ):Δ (Str×Pos):=if h:e.ctorIdx=23 then Expr.Name.elim e h λx p=>↑(x,p)else none
def eu{e:γ}(h:dN e=↑z):e=.Name z.1 z.2:=Expr.Name.elim e (gu h) (λa b h=>by cases h;rfl) h
def dA(e:γ):Δ (γ×Str×Pos):=if h:e.ctorIdx=20 then Expr.Attribute.elim e h λx y p=>↑(x,y,p)else none
def K4{e:γ}(h:dA e=↑z):e=.Attribute z.1 z.2.1 z.2.2:=Expr.Attribute.elim e (gu h) (λa b d h=>by cases h;rfl) h
def dC(e:γ):Δ (γ×Γ γ×Γ Keyword×Pos):=if h:e.ctorIdx=16 then Expr.Call.elim e h λx y u p=>↑(x,y,u,p)else none
def EE{e:γ}(h:dC e=↑z):e=.Call z.1 z.2.1 z.2.2.1 z.2.2.2:=Expr.Call.elim e (gu h) (λa b d f h=>by cases h;rfl) h
def dT(e:γ):Δ (Γ γ×Nat×Pos):=if h:e.ctorIdx=25 then Expr.Tuple.elim e h λx y p=>↑(x,y,p)else none
def yi{e:γ}(h:dT e=↑z):e=.Tuple z.1 z.2.1 z.2.2:=Expr.Tuple.elim e (gu h) (λa b d h=>by cases h;rfl) h
def l1:Γ α->Δ α
 |[a]=>↑a
 |_=>none
def l2:Γ α->Δ (α×α)
 |[a,b]=>↑(a,b)
 |_=>none
def cJ{l:Γ α}(h:l1 l=↑a):l=[a]:=by
 rcases l with _|⟨b,_|_⟩<;>cases h;rfl
def lV{l:Γ α}(h:l2 l=↑a):l=[a.1,a.2]:=by
 rcases l with _|⟨b,_|⟨d,_|_⟩⟩<;>cases h;rfl
def GU(e:γ):Δ ((γ×Str×Pos)×Str×Pos):=(dA e).bind λy=>(dN y.1).map λz=>(y,z)
def gQ{e:γ}(h:GU e=↑z):e=.Attribute (.Name z.2.1 z.2.2) z.1.2.1 z.1.2.2:=by
 let(y,H,h):=bs h;let(w,a,rfl):=af h;rw[K4 H,eu a]
def T7(e:γ):Δ ((γ×Γ γ×Γ Keyword×Pos)×Str×Pos):=(dC e).bind λy=>if y.2.2.1.isEmpty=true then(dN y.1).map λz=>(y,z)else none
def lT{e:γ}(h:T7 e=↑z):e=.Call (.Name z.2.1 z.2.2) z.1.2.1 [] z.1.2.2.2:=by
 let(y,H,h):=bs h;let(b,h):=ax h;let(w,a,rfl):=af h;rw[EE H,eu a,List.isEmpty_iff.mp b]
structure Tr where
 e:γ->Δ (Dl.Env->Δ D)
 f:γ->Δ (Dl.Env->Δ (Γ D))
 t:γ->Δ (Dl.Env->Δ θ)
structure Sg where
 fn:Γ (Str×Nat×(Γ D->Δ D))
 int:Γ (Str×Int)
abbrev FE:=Dl.Env->Δ D
def DR(G:Sg)(sc:ζ)(N:Γ Str)(x:Str):Δ FE:=match N.idxOf? x with
 |some i=>if nv N sc i x=true then↑(ae i)else none
 |none=>if(pN sc x&&!(x==("__debug__":Str)))=true then(G.int.lookup x).map λn=>fC (.int n)else none
def FD:Const->Δ FE
 |.int i=>↑(fC<|.int i)
 |.bool b=>↑(fC<|.bool b)
 |.none=>↑(fC .none)
 |.str x=>↑(fC<|.str x)
 |_=>none
def WS(T:Tr)(o:UnaryOp)(a:γ):Δ FE:=match o with
 |.USub=>(T.e a).map (f1 IW)
 |_=>none
def Zx:Operator->Δ (D->D->Δ D)
 |.Add=>↑aC
 |.Sub=>↑Dl.eK
 |.Mult=>↑eH
 |.FloorDiv=>↑pX
 |.Mod=>↑nS
 |_=>none
def lsy(e:γ):θ:=e.ctorIdx==24||e.ctorIdx==8||(((dC e).bind λy=>dN y.1).any λz=>z.1==("sorted":Str)||z.1==("list":Str))
def Q7:Operator->Δ θ
 |.Add=>↑true
 |.Mult=>↑false
 |_=>none
def QN(e:γ):θ:=lsy e||(if h:e.ctorIdx=2 then Expr.BinOp.elim e h λa o b _=>(Q7 o).any λz=>lsy (if z=true then b else a)else false)
def QD(T:Tr)(whole a:γ)(o:Operator)(b:γ):Δ FE:=if QN whole=true then(T.f whole).map dh else(Zx o).bind λg=>(T.e a).bind λx=>(T.e b).map λy=>f2 g x y
def DD(T:Tr):Γ γ->Δ FE
 |[]=>none
 |[a]=>T.e a
 |a::b::r=>(T.e a).bind λx=>(DD T (b::r)).map λy=>lL x y
def WB:CmpOp->Δ (D->D->Δ D)
 |.Lt=>↑AN
 |.LtE=>↑CD
 |.Gt=>↑yc
 |.GtE=>none
 |.Eq=>↑bc
 |.NotEq=>↑gq
 |.In=>↑Dk
 |.NotIn=>↑uT
 |.Is=>↑sk
 |.IsNot=>↑mY
def YF:CmpOp->Δ (D->D->Δ D)
 |.Lt=>↑AN
 |.LtE=>↑CD
 |_=>none
def Ld(T:Tr)(a:γ)(s:Γ CmpOp)(cs:Γ γ):Δ FE:=(l1 s).elim
 ((l2 s).bind λo=>(l2 cs).bind λb=>if lastMarks [o.1,o.2] [b.1,b.2]=false then(YF o.1).bind λg=>(YF o.2).bind λG=>(T.e a).bind λx=>(T.e b.1).bind λy=>(T.e b.2).map λz=>gR g G x y z else none) λp =>
 (l1 cs).bind λb=>if behindInMarks p b=false then(WB p).bind λg=>(T.e a).bind λx=>(T.e b).map λy=>f2 g x y else none
def AO(T:Tr):Γ γ->Δ (Dl.Env->Δ (Γ D))
 |[]=>↑ag
 |e::s=>if isStar e=false then(T.e e).bind λx=>(AO T s).map λr=>aa x r else none
def ZF(T:Tr):Δ γ->Δ (Dl.Env->Δ (Δ Int))
 |none=>↑gK
 |some e=>(T.e e).map rN
def Ru(e:γ):θ:=e.ctorIdx==26||e.ctorIdx==25||e.ctorIdx==22
def ZO(e:γ):Δ (Δ γ×Δ γ×Δ γ×Pos):=if h:e.ctorIdx=26 then Expr.Slice.elim e h λx y u p=>↑(x,y,u,p)else none
def Kc{e:γ}(h:ZO e=↑z):e=.Slice z.1 z.2.1 z.2.2.1 z.2.2.2:=Expr.Slice.elim e (gu h) (λa b d f h=>by cases h;rfl) h
def dK(e:γ):Δ (Const×Nat×Pos):=if h:e.ctorIdx=19 then Expr.Constant.elim e h λx y p=>↑(x,y,p)else none
def QF{e:γ}(h:dK e=↑z):e=.Constant z.1 z.2.1 z.2.2:=Expr.Constant.elim e (gu h) (λa b d h=>by cases h;rfl) h
def Tt(e:γ):θ:=(dK e).any λz=>match z.1 with|.int 1=>true|_=>false
def Ph{e:γ}(h:Tt e=true):∃i p,e=.Constant (.int 1) i p:=by
 unfold Tt at h;cases q:dK e with
 |none=>grind
 |some z =>
  rw[QF q];let(c,i,p):=z;refine{i,p,?_}
  grind
def dU(e:γ):Δ (UnaryOp×γ×Pos):=if h:e.ctorIdx=3 then Expr.UnaryOp.elim e h λx y p=>↑(x,y,p)else none
def Wt{e:γ}(h:dU e=↑z):e=.UnaryOp z.1 z.2.1 z.2.2:=Expr.UnaryOp.elim e (gu h) (λa b d h=>by cases h;rfl) h
def RP(e:γ):θ:=(dU e).any λz=>z.1.ctorIdx==3&&Tt z.2.1
def MU{e:γ}(h:RP e=true):∃i p q,e=.UnaryOp .USub (.Constant (.int 1) i p) q:=by
 unfold RP at h;cases q:dU e with
 |none=>rw[q]at h;cases h
 |some z =>
  rw[q]at h;simp?[Option.any_some,zF]at h;let(i,p,E):=Ph h.2;rw[Wt q,E];let(o,b,c):=z;have H:(o.ctorIdx==3)=true:=h.1;obtain rfl:o=.USub:=by cases o<;>first|rfl|exact absurd H (by decide)
  exact{i,p,c,rfl}
def Rm(T:Tr)(a b:γ):Δ FE:=(ZO b).elim (if Ru b=false then(T.e a).bind λx=>(T.e b).map λy=>f2 aK x y else none) λz=>if z.2.2.1.isNone=true then(T.e a).bind λx=>(ZF T z.1).bind λl=>(ZF T z.2.1).map λh=>fQ cY x l h else z.2.2.1.bind λst=>if(RP st&&z.1.isNone&&z.2.1.isNone)=true then(T.e a).map λx=>f1 Qs x else none
def MB:Γ D->Δ D:=λs=>(oneOf s).bind λd=>match d with
 |.list e=>(boolsOf e).map λbs=>.bool (bs.any id)
 |_=>none
def yb(e:γ):Δ γ:=(T7 e).bind λz=>if z.2.1="set"then l1 z.1.2.1 else none
def VT(x:Str):Δ String:=if x="int"then↑"int"else if x="bool"then↑"bool"else if x="tuple"then↑"tuple"else if x="list"then↑"list"else none
def Ki(G:Sg)(sc:ζ)(T:Tr)(whole:γ)(x:Str)(args:Γ γ):Δ FE:=
 if(pN sc x&&args.all λe=>!isStar e)=true then
  (G.fn.lookup x).elim (
   if x="len"then(l1 args).bind λe=>(yb e).elim ((AO T args).map λfs=>bT bX fs) λE=>if(pN sc "set"&&!isStar E)=true then(T.e E).map λy=>f1 mJ y else none
   else if x="isinstance"then(l2 args).bind λa=>(dN a.2).bind λy=>if pN sc y.1=true then(VT y.1).bind λt=>(T.e a.1).map λz=>IE t z else none
   else if x="tuple"then(if args.length=1 then(AO T args).map λfs=>bT gO fs else none)
   else if x="all"then(if args.length=1 then(AO T args).map λfs=>bT oP fs else none)
   else if x="any"then(if args.length=1 then(AO T args).map λfs=>bT MB fs else none)
   else if x="sum"then(if args.length=1 then(AO T args).map λfs=>bT Bh fs else none)
   else if x="min"then(if args.isEmpty=true then none else(AO T args).map λfs=>bT Pk fs)
   else if x="max"then(if args.isEmpty=true then none else(AO T args).map λfs=>bT Cm fs)
   else if(x==("list":Str)||x==("sorted":Str))=true then(T.f whole).map dh
   else none) λz=>if(args.isEmpty||x==("__debug__":Str))=true then none else(AO T args).map λfs=>aj z.1 z.2 fs
 else none
def Az(e:γ):θ:=e.ctorIdx==16
def K7(T:Tr)(o:γ)(m:Str)(apos:Pos)(args:Γ γ)(cpos:Pos):Δ FE:=
 if(m==("index":Str)&&apos.endLine==cpos.line&&!Az o)=true then(l1 args).bind λe=>if isStar e=false then(T.e o).bind λx=>(T.e e).map λy=>f2 nV x y else none
 else none
def X0(G:Sg)(sc:ζ)(T:Tr)(whole f:γ)(args:Γ γ)(k:Γ Keyword)(p:Pos):Δ FE:=
 (dN f).elim (if k.isEmpty=true then(dA f).bind λy=>K7 T y.1 y.2.1 y.2.2 args p else none) λz=>if k.isEmpty=true then Ki G sc T whole z.1 args else(T.f whole).map dh
def QR(G:Sg)(sc:ζ)(N:Γ Str)(T:Tr)(whole:γ):Δ FE:=match whole with
 |.Name x _=>DR G sc N x
 |.Constant c _ _=>FD c
 |.UnaryOp o a _=>WS T o a
 |.BinOp a o b _=>QD T whole a o b
 |.BoolOp .And E _=>DD T E
 |.Compare a O C _=>Ld T a O C
 |.IfExp c a b _=>(T.t c).bind λz=>(T.e a).bind λx=>(T.e b).map λy=>tM z x y
 |.Tuple E _ _=>(AO T E).map aX
 |.Subscript a b _=>Rm T a b
 |.List ..=>(T.f whole).map dh
 |.ListComp ..=>(T.f whole).map dh
 |.Call f s k p=>X0 G sc T whole f s k p
 |_=>none
def YB(T:Tr)(o:BoolOp):Γ γ->Δ (Dl.Env->Δ θ)
 |[]=>none
 |[a]=>T.t a
 |a::b::r=>(T.t a).bind λx=>(YB T o (b::r)).map λy=>match o with|.And=>fy x y|.Or=>pU x y
def stepT(T:Tr)(whole:γ):Δ (Dl.Env->Δ θ):=match whole with
 |.Compare a o c _=>(Ld T a o c).map fB
 |.UnaryOp .Not a _=>(T.t a).map cD
 |.BoolOp p s _=>YB T p s
 |.Name ..=>(T.e whole).map fB
 |.Call ..=>(T.e whole).map fB
 |.Subscript ..=>(T.e whole).map fB
 |_=>none
def D1(e:γ):θ:=e.ctorIdx==25
def Yc(sc:ζ)(T:Tr)(tg iter:γ):Δ (Dl.Env->Δ (Γ D)):=if iter.ctorIdx=7 then none else(T7 iter).elim ((T.e iter).map dg) λz =>
 if z.2.1="range"then(l1 z.1.2.1).bind λe=>if(pN sc "range"&&!isStar e)=true then(AO T [e]).map da else none
 else if z.2.1="enumerate"then(l1 z.1.2.1).bind λe=>if(pN sc "enumerate"&&!isStar e&&D1 tg)=true then(AO T [e]).map cz else none
 else if z.2.1="zip"then(l2 z.1.2.1).bind λe=>if(pN sc "zip"&&!isStar e.1&&!isStar e.2&&D1 tg)=true then(AO T [e.1,e.2]).map lu else none
 else(T.e iter).map dg
def Oz:Γ γ->Δ (Γ Str)
 |[]=>↑[]
 |e::s=>(dN e).bind λz=>(Oz s).map λr=>z.1::r
def Z0(e:γ):Δ (Γ Str):=(dN e).elim ((dT e).bind λz=>if z.1.length=2\/z.1.length=3 then Oz z.1 else none) λz=>↑[z.1]
def BX(N:Γ Str)(scope:ζ):Γ Nat:=(List.range N.length).filter λj=>match N[j]? with|some x=>decide (scope.names.lookup x=↑.free)|none=>false
def VE(B:Tr)(ifs:Γ γ):Δ (Dl.Env->Δ θ):=if ifs.isEmpty=true then some λ_=>↑true else(l1 ifs).bind B.t
def Uq(N:Γ Str)(scope:ζ)(xs:Γ Str):Γ Str:=xs++(BX N scope).filterMap λj=>N[j]?
def Ms(sc:ζ)(N:Γ Str)(T:Tr)(b:ζ->Γ Str->Tr)(elt:γ)(g:Γ Comprehension)(scope:ζ):Δ (Dl.Env->Δ (Γ D)):=(l1 g).bind λc =>
  if c.is_async=0 then(Z0 c.target).bind λx =>
   if(qx sc scope N (Uq N scope x) x.length (BX N scope)&&(List.range x.length).all λi=>lE (Uq N scope x) scope i<|x.getD i "")=true then
    (Yc sc T c.target c.iter).bind λf=>(VE (b scope<|Uq N scope x) c.ifs).bind λa =>
     ((b scope<|Uq N scope x).e elt).map λt=>aD x.length (BX N scope) f (if x.length=1 then fG 0 else if x.length=2 then my 0 1 else ZA 0 1 2) a t
   else none
  else none
def Q3(a:Arguments):Δ Str:=(l1 a.args).bind λx=>if((a.posonlyargs.isEmpty&&a.vararg.isNone&&a.kwonlyargs.isEmpty&&a.kw_defaults.isEmpty&&a.kwarg.isNone&&a.defaults.isEmpty&&x.annotation.isNone)&&(x.arg==("number":Str)||x.arg==("plan":Str)))=true then↑x.arg else none
def dLm(e:γ):Δ (Arguments×γ×ζ×Pos):=if h:e.ctorIdx=4 then Expr.Lambda.elim e h λx y u p=>↑(x,y,u,p)else none
def Uj{e:γ}(h:dLm e=↑z):e=.Lambda z.1 z.2.1 z.2.2.1 z.2.2.2:=Expr.Lambda.elim e (gu h) (λa b d f h=>by cases h;rfl) h
def EJ(m:Δ Str)(sc:ζ)(N:Γ Str)(T:Tr)(b:ζ->Γ Str->Tr)(l:γ)(w:Arguments×γ×ζ×Pos):Δ (Dl.Env->Δ (Γ D)):=
 if(m.isSome&&pN sc "sorted"&&!isStar l)=true then
  (Q3 w.1).bind λp =>
   if(qx sc w.2.2.1 N (Uq N w.2.2.1 [p]) 1 (BX N w.2.2.1)&&Bf w.2.2.1 (Uq N w.2.2.1 [p]) p)=true then
    (T.e l).bind λf=>((b w.2.2.1<|Uq N w.2.2.1 [p]).e w.2.1).map λt=>qy (BX N w.2.2.1) f t
   else none
 else none
def V2(m:Δ Str)(sc:ζ)(N:Γ Str)(T:Tr)(b:ζ->Γ Str->Tr)(f:γ)(args:Γ γ)(s:Γ Keyword):Δ (Dl.Env->Δ (Γ D)):=(dN f).bind λz=>(l1 args).bind λl =>
 if z.1="sorted"then(if s.isEmpty=true then(if(pN sc "sorted"&&!isStar l)=true then(AO T [l]).map λfs=>o6 iK fs else none)
 else(l1 s).bind λk=>(dLm k.value).bind λw=>if k.arg=↑"key"then EJ m sc N T b l w else none)else if(z.1==("list":Str)&&s.isEmpty&&pN sc "list"&&!isStar l)=true then(AO T [l]).map λfs=>o6 dF fs else none
def QY(l:Δ Str)(sc:ζ)(N:Γ Str)(T:Tr)(k L:ζ->Γ Str->Tr)(whole:γ):Δ (Dl.Env->Δ (Γ D)):=match whole with
 |.List E _=>(AO T E).map dD
 |.ListComp t g s _=>Ms sc N T k t g s
 |.BinOp a o b _=>(Q7 o).bind λz=>(T.e b).bind λy=>if z=true then(T.e a).map λx=>MN lz x y else(T.f a).map λx=>BC x y
 |.Call f A K _=>V2 l sc N T L f A K
 |_=>none
def tr(G:Sg):Nat->Δ Str->ζ->Γ Str->Tr
 |0,_,_,_=>{λ_=>none,λ_=>none,λ_=>none}
 |n+1,l,s,N=>{QR G s N<|tr G n l s N,QY l s N (tr G n l s N) (tr G n none)<|tr G n none,stepT<|tr G n l s N}
structure Eo(G:Sg)(X:Cx)(j:Nat):Prop where
 fn:∀x n m,G.fn.lookup x=↑(n,m)->Ig X.prog X.w X.K X.mg X.base j x n m
 int:∀x i,G.int.lookup x=↑i->∃t,X.mg x=↑(.int i t)
 bn:Bn X
structure y9(X:Cx)(tg iter:Expr)(ifs:List Expr)(elt:Expr)(scope:Scope)(f:Dl.Env->Option (List D)):Prop where
 ex:∃ (N':Γ Str) (t:Nat) (cs:Γ Nat) (fi:Dl.Env->Δ (Γ D)) (tgt:Dl.Env->D->Δ Dl.Env) (tt:Dl.Env->Δ θ) (te:FE),f=aD t cs fi tgt tt te/\j7 X scope N' (lU t cs)/\DI X tg iter fi/\(∀x,foldedSetIterable iter X.env x=pure x) /\
  ∀fp s H,DG (bA X scope N' fp s H) tg tgt/\WX (bA X scope N' fp s H) ifs tt/\DE (bA X scope N' fp s H) elt te
structure bz(X:Cx)(T:Tr):Prop where
 c:∀elt gens scope p f,T.f (.ListComp elt gens scope p)=↑f->∃tg iter ifs,gens=[{tg,iter,ifs,0}]/\y9 X tg iter ifs elt scope f
 e:∀e f,T.e e=↑f->DE X e f
 f:∀e f,T.f e=↑f->DF X e f
 t:∀e f,T.t e=↑f->DT X e f
section
variable {G:Sg}{X:Cx}{N:Γ Str}{sc:ζ}{k j:Nat}{T:Tr}{pos p:Pos}
def HX(C:Bk X N sc k)(g:Eo G X j)(h:DR G sc N x=↑f):DE X (.Name x pos) f:=by
 unfold DR at h;split at h
 .split at h
  .cases h;exact C.v _ ‹_›
  grind
 .split at h
  .rename_i H;let(n,a,rfl):=af h;let(t,ht):=g.int x n a;simp?[zF,yO]at H;exact PQ (C.gl H.1) ht H.2
  grind
def DQ(h:FD c=↑f):DE X (.Constant c i pos) f:=by
 cases c<;>cases h<;>first|exact Se|exact WQ|exact RI|exact Uw
def MY(C:Bk X N sc k)(O:bz X T)(h:WS T op a=↑f):DE X (.UnaryOp op a pos) f:=by
 cases op<;>try cases h
 .let(x,H,rfl):=af h;exact C.neg<|O.e _ _ H
def Lm(C:Bk X N sc k)(O:bz X T)(h:QD T (.BinOp a op b pos) a op b=↑f):DE X (.BinOp a op b pos) f:=by
 rcases b0 h with ⟨_,h⟩|⟨_,h⟩
 .let(x,H,rfl):=af h;exact DF.de<|O.f _ _ H
 let(g,G,h):=bs h;let(x,H,h):=bs h;let(y,Y,rfl):=af h;cases op<;>cases G
 .exact C.add (O.e _ _ H)<|O.e _ _ Y
 .exact C.sub (O.e _ _ H)<|O.e _ _ Y
 .exact C.mul (O.e _ _ H)<|O.e _ _ Y
 .exact C.mod (O.e _ _ H)<|O.e _ _ Y
 .exact C.div (O.e _ _ H)<|O.e _ _ Y
def xq(O:bz X T):∀{es:Γ γ}{f:FE},DD T es=↑f->DE X (.BoolOp .And es pos) f
 |[],f,h=>by cases h
 |[a],f,h=>RE (O.e _ _ h)
 |a::b::r,f,h=>by
  let(x,H,h):=bs h;let(y,Y,rfl):=af h;exact T8 (O.e _ _ H)<|xq O Y
def R1(C:Bk X N sc k)(G:WB op=↑g)(m:behindInMarks op b=false)(H:DE X a x)(B:DE X b y):DE X (.Compare a [op] [b] pos) (f2 g x y)/\DT X (.Compare a [op] [b] pos) (fB<|f2 g x y):=by
 cases op<;>cases G
 .exact{C.eq H B,C.teq H B}
 .exact{C.ne H B,C.tne H B}
 .exact{C.lt H B,C.tlt H B}
 .exact{C.le H B,C.tle H B}
 .exact{C.gt H B,C.tgt H B}
 .exact{C.is0 H B,C.aiZ H B}
 .exact{C.aiY H B,C.ags H B}
 .exact{C.isin H B m,C.tin H B m}
 .exact{C.agE H B m,C.aji H B m}
def Rq(h:YF op=↑g):∃r,iG X (compareOp op) r/\gw X.K r g:=by
 cases op<;>cases h
 .exact{_,LV,l8}
 .exact{_,IM,l8}
def BQ(C:Bk X N sc k)(O:bz X T){cs:Γ γ}(h:Ld T a ops cs=↑f):DE X (.Compare a ops cs pos) f/\DT X (.Compare a ops cs pos) (fB f):=by
 rcases bR h with ⟨_,h⟩|⟨p,i,h⟩
 .let(o,i,h):=bs h;let(b,B,h):=bs h;obtain rfl:=lV i;obtain rfl:=lV B;let(m,h):=ax h;let(g,G,h):=bs h;let(l,d,h):=bs h;let(x,H,h):=bs h;let(y,Y,h):=bs h;let(z,Z,rfl):=af h;let(r,r1,j):=Rq G;let(n,R,c):=Rq d;exact{Mv r1 j R c (O.e _ _ H) (O.e _ _ Y) (O.e _ _ Z) m,JF r1 j R c (O.e _ _ H) (O.e _ _ Y) (O.e _ _ Z) m}
 .let(b,B,h):=bs h;obtain rfl:=cJ i;obtain rfl:=cJ B;let(m,h):=ax h;let(g,G,h):=bs h;let(x,H,h):=bs h;let(y,Y,rfl):=af h;exact R1 C G m (O.e _ _ H)<|O.e _ _ Y
def dO(O:bz X T):∀{es:Γ γ}{fs:Dl.Env->Δ _},AO T es=↑fs->DA X es fs
 |[],fs,h=>by cases h;exact KZ
 |e::es,fs,h=>by
  let(s,h):=ax h;let(x,a,h):=bs h;let(r,H,rfl):=af h;exact Yy s (O.e _ _ a)<|dO O H
def ME(O:bz X T)(h:ZF T o=↑f):DO X o f:=by
 cases o with
 |none=>cases h;exact Ou
 |some e=>let(x,H,rfl):=af h;exact M7<|O.e _ _ H
def D2(h:Ru b=false):Al b:=by
 cases b<;>first|(intro _ _;rfl)|cases h
def Jj(C:Bk X N sc k)(O:bz X T)(h:Rm T a b=↑f):DE X (.Subscript a b pos) f:=by
 rcases bR h with ⟨_,h⟩|⟨z,Z,h⟩
 .let(hc,h):=ax h;let(x,H,h):=bs h;let(y,Y,rfl):=af h;exact VR (O.e _ _ H) (O.e _ _ Y)<|D2 hc
 .rcases b0 h with ⟨n,h⟩|⟨_,h⟩
  .let(x,H,h):=bs h;let(l,L,h):=bs h;let(u,U,rfl):=af h;rw[Kc Z,Option.isNone_iff_eq_none.mp n];exact C.cut (O.e _ _ H) (ME O L)<|ME O U
  .let(st,t,h):=bs h;let(hc,h):=ax h;simp?[zF]at hc;let(i,p,q,E):=MU hc.1.1;let(x,H,rfl):=af h;rw[Kc Z,t,E,Option.isNone_iff_eq_none.mp hc.1.2,Option.isNone_iff_eq_none.mp hc.2];exact RA<|O.e _ _ H
def bP{env:PySem.Env}:∀{es:Γ γ},(es.all λe=>!isStar e)=true->(backTo pos<|starEach es env).any (·.1)=false
 |[],_=>rfl
 |e::es,h=>by
  rw[xR,zF,yO]at h;rw[aQ h.1];show(false||(backTo pos _).any _)=false;rw[bP h.2];rfl
def KE(h:yb e=↑I):∃p q,e=.Call (.Name "set" p) [I] [] q:=by
 let(z,H,h):=bs h;let(x,h):=ax h;exact{_,_,by rw[lT H,x,cJ h]}
def NY(h:VT y=↑ty):y∈dk/\bootBuiltins y=↑(.type ty)/\y≠"__name__"/\(y=="__debug__")=false:=by
 rcases b0 h with ⟨rfl,h⟩|⟨_,h⟩
 .cases h;exact{by decide +kernel,by rfl,by decide,by rfl}
 .rcases b0 h with ⟨rfl,h⟩|⟨_,h⟩
  .cases h;exact{by decide +kernel,by rfl,by decide,by rfl}
  .rcases b0 h with ⟨rfl,h⟩|⟨_,h⟩
   .cases h;exact{by decide +kernel,by rfl,by decide,by rfl}
   .let(rfl,h):=ax h;cases h;exact{by decide +kernel,by rfl,by decide,by rfl}
def Td:bootBuiltins "any"=↑(.builtin "any"):=by rfl
def SK:bootBuiltins "sum"=↑(.builtin "sum"):=by rfl
def R5:bootBuiltins "max"=↑(.builtin "max"):=by rfl
def Sq:bootBuiltins "min"=↑(.builtin "min"):=by rfl
def BM(h:l.length=1):∃a,l=[a]:=by
 match l,h with
 |[a],_=>exact{a,rfl}
def GD(C:Bk X N sc k)(g:Eo G X j)(K:j<=k)(O:bz X T)(h:Ki G sc T (.Call (.Name x p) args [] pos) x args=↑f):DE X (.Call (.Name x p) args [] pos) f:=by
 let(b,h):=ax h;rw[zF]at b;let(b,n):=b;have S:∀{e:γ}{c:Γ γ},args=e::c->starEach (e::c) X.env=(false,eval e X.env)::starEach c X.env:=λ{e c}q=>by
  subst q;rw[xR,zF,yO]at n;exact aQ n.1
 have i:∀{e:γ}{c:Γ γ},args=e::c->(backTo pos<|starEach c X.env).any (·.1)=false:=λ{e c}q=>by
  subst q;rw[xR,zF]at n;exact bP n.2
 rcases bR h with ⟨_,h⟩|⟨z,r,h⟩
 .rcases b0 h with ⟨H,h⟩|⟨_,h⟩
  .let(e,E,h):=bs h;have E:=cJ E;rcases bR h with ⟨_,h⟩|⟨I,o,h⟩
   .let(fs,s,rfl):=af h;subst H E;exact TK (C.blt g.bn b (by decide +kernel) Mr) (dO O s)<|S rfl
   .let(d,h):=ax h;rw[zF,yO]at d;let(y,Y,rfl):=af h;let(P,p2,rfl):=KE o;subst H E;exact HR C.calm (C.blt g.bn b (by decide +kernel) Mr) (C.blt g.bn d.1 (by decide +kernel) SC) (O.e _ _ Y)<|aQ d.2
  rcases b0 h with ⟨H,h⟩|⟨_,h⟩
  .let(a,A,h):=bs h;let(y,Y,h):=bs h;have v:=lV A;rw[eu Y]at v;let(t,h):=ax h;let(J,u,h):=bs h;let(z,Z,rfl):=af h;let(w,B,D,F):=NY u;subst H v;exact VB (C.blt g.bn b (by decide +kernel) v5) (C.blt g.bn t w B) (O.e _ _ Z) D F<|S rfl
  rcases b0 h with ⟨H,h⟩|⟨_,h⟩
  .let(l,h):=ax h;let(fs,s,rfl):=af h;let(e,E):=BM l;subst H E;exact JY (C.blt g.bn b (by decide +kernel) MG) (dO O s)<|S rfl
  rcases b0 h with ⟨H,h⟩|⟨_,h⟩
  .let(l,h):=ax h;let(fs,s,rfl):=af h;let(e,E):=BM l;subst H E;exact T3 C.calm (C.blt g.bn b (by decide +kernel) T6) (dO O s)<|S rfl
  rcases b0 h with ⟨H,h⟩|⟨_,h⟩
  .let(l,h):=ax h;let(fs,s,rfl):=af h;let(e,E):=BM l;subst H E;exact UN C.calm (C.blt g.bn b (by decide +kernel) Td) (S rfl)<|dO O s
  rcases b0 h with ⟨H,h⟩|⟨_,h⟩
  .let(l,h):=ax h;let(fs,s,rfl):=af h;let(e,E):=BM l;subst H E;exact Te C.calm (C.blt g.bn b (by decide +kernel) SK) (S rfl)<|dO O s
  rcases b0 h with ⟨H,h⟩|⟨_,h⟩
  .rcases b0 h with ⟨_,h⟩|⟨l,h⟩
   .cases h
   let(fs,s,rfl):=af h;subst H;cases args with
   |nil=>exact absurd rfl l
   |cons e c=>exact TB C.calm (C.blt g.bn b (by decide +kernel) Sq) (S rfl) (i rfl)<|dO O s
  rcases b0 h with ⟨H,h⟩|⟨_,h⟩
  .rcases b0 h with ⟨_,h⟩|⟨l,h⟩
   .cases h
   let(fs,s,rfl):=af h;subst H;cases args with
   |nil=>exact absurd rfl l
   |cons e c=>exact Sy C.calm (C.blt g.bn b (by decide +kernel) R5) (S rfl) (i rfl)<|dO O s
  let(_,h):=ax h;let(y,Y,rfl):=af h;exact DF.de<|O.f _ _ Y
 .rcases b0 h with ⟨_,h⟩|⟨m,h⟩
  .cases h
  let(fs,s,rfl):=af h;cases args with
  |nil=>exact absurd (by simp) m
  |cons e c =>
   exact PN (g.fn x _ _ r) (C.room.mono K) (C.gl b) (dO O s) (show(x==("__debug__"))=false by simpa using m) (S rfl)<|i rfl
end
section
variable {G:Sg}{X:Cx}{N:Γ Str}{sc:ζ}{k j:Nat}{T:Tr}{pos p:Pos}
def Um(h:isStar e=false):((backTo cpos<|starEach [e] env).all (λx=>!x.1)&&(backToKw cpos<|keywordEach [] env).all (λx=>x.1.isSome)&&decide ([e].length+([]:Γ Keyword).length+(if([]:Γ Keyword).isEmpty then 0 else 1)<30))=true:=by
 rw[aQ h];rfl
def pk(h:Az o=false):attributeBase o a env w=w:=by
 cases o<;>first|rfl|cases h
def Ir(C:Bk X N sc k)(O:bz X T)(h:K7 T o m apos args cpos=↑f):DE X (.Call (.Attribute o m apos) args [] cpos) f:=by
 let(H,h):=ax h;rw[zF,zF,yO]at H;let((a,H),l):=H;let(e,E,h):=bs h;let(s,h):=ax h;let(x,b,h):=bs h;let(y,Y,rfl):=af h;rw[cJ E,eq_of_beq a];exact Gs (pk l) (Um s) H (aQ s) (O.e _ _ b)<|O.e _ _ Y
def NL(C:Bk X N sc k)(g:Eo G X j)(H:j<=k)(O:bz X T){a:γ}{args:Γ γ}{s:Γ Keyword}(h:X0 G sc T (.Call a args s p) a args s p=↑f):DE X (.Call a args s p) f:=by
 rcases bR h with ⟨_,h⟩|⟨z,Z,h⟩
 .let(hk,h):=ax h;obtain rfl:=List.isEmpty_iff.mp hk;let(y,Y,h):=bs h;obtain rfl:=K4 Y;exact Ir C O h
 .obtain rfl:=eu Z;rcases b0 h with ⟨hk,h⟩|⟨_,h⟩
  .obtain rfl:=List.isEmpty_iff.mp hk;exact GD C g H O h
  .let(x,b,rfl):=af h;exact DF.de<|O.f _ _ b
def J9(C:Bk X N sc k)(g:Eo G X j)(K:j<=k)(O:bz X T)(h:QR G sc N T e=↑f):DE X e f:=by
 cases e with
 |Name x p=>exact HX C g h
 |Constant c a b=>exact DQ h
 |UnaryOp o a p=>exact MY C O h
 |BinOp a o b p=>exact Lm C O h
 |BoolOp o E p =>
  cases o with
  |And=>exact xq O h
  |Or=>cases h
 |Compare a S d p=>exact(BQ C O h).1
 |IfExp c a b p =>
  let(z,Z,h):=bs h;let(x,H,h):=bs h;let(y,Y,rfl):=af h;exact XY (O.t _ _ Z) (O.e _ _ H) (O.e _ _ Y)
 |Tuple E a p=>let(x,H,rfl):=af h;exact Sr (dO O H)
 |Subscript a b p=>exact Jj C O h
 |List E p=>let(x,H,rfl):=af h;exact DF.de (O.f _ _ H)
 |ListComp a b c p=>let(x,H,rfl):=af h;exact DF.de (O.f _ _ H)
 |Call a s i p=>exact NL C g K O h
 |_=>cases h
def L6(O:bz X T):∀{es:Γ γ}{f:Dl.Env->Δ θ},YB T op es=↑f->DW X (.BoolOp op es pos) f
 |[],f,h=>by cases h
 |[a],f,h=>by
  cases op with
  |And=>exact MZ (O.t _ _ h)
  |Or=>exact RZ (O.t _ _ h)
 |a::b::r,f,h=>by
  let(x,H,h):=bs h;let(y,Y,rfl):=af h;have i:=L6 O Y;cases op with
  |And=>exact SY (O.t _ _ H) i
  |Or=>exact V6 (O.t _ _ H) i
def LC(C:Bk X N sc k)(O:bz X T)(h:stepT T e=↑f):DT X e f:=by
 cases e with
 |Compare a s c p=>let(x,H,rfl):=af h;exact(BQ C O H).2
 |UnaryOp o a p =>
  cases o with
  |Not=>let(x,H,rfl):=af h;exact Sf (O.t _ _ H)
  |_=>cases h
 |BoolOp o E p=>exact DW.dt (L6 O h)
 |Name x p=>let(x,H,rfl):=af h;exact EC (O.e _ _ H) λ_=>rfl
 |Call a b d p=>let(x,H,rfl):=af h;exact EC (O.e _ _ H) λ_=>rfl
 |Subscript a b p=>let(x,H,rfl):=af h;exact EC (O.e _ _ H) λ_=>rfl
 |_=>cases h
def Gi{e:γ}(h:D1 e=true):∃a b d,e=.Tuple a b d:=Expr.Tuple.elim e (eq_of_beq h) λa b d=>{a,b,d,rfl}
def U2(h:¬e.ctorIdx=7):∀x,foldedSetIterable e env x=pure x:=by
 cases e<;>first|(intro _;rfl)|exact absurd rfl h
def DB(C:Bk X N sc k)(B:Bn X)(O:bz X T)(h:Yc sc T tg iter=↑fi):DI X tg iter fi/\∀x,foldedSetIterable iter X.env x=pure x:=by
 rcases b0 h with ⟨_,h⟩|⟨n,h⟩
 .cases h
 refine{?_,U2 n};rcases bR h with ⟨_,h⟩|⟨z,Z,h⟩
 .let(x,H,rfl):=af h;exact Mz<|O.e _ _ H
 rcases b0 h with ⟨H,h⟩|⟨_,h⟩
 .let(e,E,h):=bs h;let(g,h):=ax h;rw[lT Z,H,cJ E];rw[zF,yO]at g;let(x,H,rfl):=af h;exact Kk (C.blt B g.1 (by decide +kernel) Ma) (dO O H)<|aQ g.2
 rcases b0 h with ⟨H,h⟩|⟨_,h⟩
 .let(e,E,h):=bs h;let(g,h):=ax h;rw[lT Z,H,cJ E];simp  at g;let(x,H,rfl):=af h;let(a,b,d,rfl):=Gi g.2;exact Pv (C.blt B g.1.1 (by decide +kernel) AH) (dO O H)<|aQ g.1.2
 rcases b0 h with ⟨H,h⟩|⟨_,h⟩
 .let(e,E,h):=bs h;let(g,h):=ax h;rw[lT Z,H,lV E];simp  at g;let(x,H,rfl):=af h;let(a,b,d,rfl):=Gi g.2;exact Qq (C.blt B g.1.1.1 (by decide +kernel) Sk) (aQ g.1.1.2) (bP<|by simp[g.1.2])<|dO O H
 let(x,H,rfl):=af h;exact Mz<|O.e _ _ H
def Cd{l:Γ α}(h:l.length=2):∃a b,l=[a,b]:=by
 match l,h with
 |[a,b],_=>exact{a,b,rfl}
def CN{l:Γ α}(h:l.length=3):∃a b c,l=[a,b,c]:=by
 match l,h with
 |[a,b,c],_=>exact{a,b,c,rfl}
def sO:∀{es:Γ γ}{xs:Γ Str},Oz es=↑xs->∃ps:Γ Pos,ps.length=xs.length/\es=List.zipWith Expr.Name xs ps
 |[],xs,h=>by cases h;simp
 |e::es,xs,h=>by
  let(z,Z,h):=bs h;let(r,R,rfl):=af h;let(ps,H,a):=sO R;exact{z.2::ps,by rw[zL,zL,H],by rw[eu Z,a];rfl}
def T5(h:Z0 tg=↑xs):(∃x px,tg=.Name x px/\xs=[x])\/(∃x px y P m t,tg=.Tuple [.Name x px,.Name y P] m t/\xs=[x,y])\/∃x px y P z b m t,tg=.Tuple [.Name x px,.Name y P,.Name z b] m t/\xs=[x,y,z]:=by
 rcases bR h with ⟨_,h⟩|⟨z,Z,h⟩
 .let(z,Z,h):=bs h;let(l,h):=ax h;let(s,H,a):=sO h;rw[yi Z];rw[a]at l ⊢;rw[List.length_zipWith,H,Nat.min_self]at l;refine .inr (l.imp (λq=>?_) λq=>?_)
  .let(x,y,rfl):=Cd q;let(p,q,rfl):=Cd H;exact{x,p,y,q,_,_,rfl,rfl}
  .let(x,y,z,rfl):=CN q;let(p,q,r,rfl):=CN H;exact{x,p,y,q,z,r,_,_,rfl,rfl}
 .cases h;exact .inl {_,_,eu Z,rfl}
def yo(C:Bk X N sc k)(B:Bn X)(O:bz X T)(r:∀scope n fp s H,Bk (bA X scope n fp s H) n scope k->bz (bA X scope n fp s H) (I scope n))
  (h:Ms sc N T I elt gens scope=↑f):∃tg iter ifs,gens=[{tg,iter,ifs,0}]/\y9 X tg iter ifs elt scope f:=by
 let((tg,iter,ifs,v),G,h):=bs h;let(rfl,h):=ax h;refine{tg,iter,ifs,cJ G,?_};let(M,j,h):=bs h;let(K,h):=ax h;rw[zF]at K;let(F,b,h):=bs h;let(L,g,h):=bs h;let(J,E,rfl):=af h;let(S,q):=C.comp K.1;let(D,A):=DB C B O b;refine{_,_,_,_,_,_,_,rfl,S,D,A,λfp s H=>?_};have a:=q fp s H;have o:=r scope _ fp s H a;refine{?_,?_,o.e _ _ E}
 .have l:=λi d=>a.loc<|List.all_eq_true.mp K.2 i<|List.mem_range.mpr d;rcases T5 j with ⟨x,p,rfl,rfl⟩|⟨x,p,y,Y,m,P,rfl,rfl⟩|⟨x,p,y,Y,z,Z,m,P,rfl,rfl⟩
  .have z:=l 0 (by simp);exact O6 0 z.1 z.2.1 z.2.2.1 z.2.2.2
  .have z:=l 0 (by simp);have w:=l 1 (by simp);exact Ur 0 1 a.calm z.1 z.2.1 z.2.2.1 w.2.1 w.2.2.1 z.2.2.2 w.2.2.2
  .have z:=l 0 (by simp);have w:=l 1 (by simp);have u:=l 2 (by simp);exact Lz 0 1 2 a.calm z.1 z.2.1 z.2.2.1 w.2.1 w.2.2.1 u.2.1 u.2.2.1 z.2.2.2 w.2.2.2 u.2.2.2
 .rcases b0 g with ⟨d,h⟩|⟨_,h⟩
  .cases h;rw[(List.isEmpty_iff.mp d:ifs=[])];exact O9
  .let(c,hc,h):=bs h;rw[(cJ hc:ifs=[c])];exact Pz<|o.t _ _ h
def y9.df(hc:X.calm=true)(h:y9 X tg iter ifs elt scope f):DF X (.ListComp elt [{tg,iter,ifs,0}] scope pos) f:=by
 let(N,t,c,i,T,b,e,rfl,S,d,a,Y):=h.ex;exact P0 hc S d Y a
def KM(h:Q3 a=↑x):∃px,a={[],[{x,none,px}],none,[],[],none,[]}/\(x="number"\/x="plan"):=by
 let((y,n,p),H,h):=bs h;let(hc,h):=ax h;let(A,b,c,d,e,f,g):=a;simp  at hc;have H:=cJ H
 grind
def bind1{x q:Str}{px:Pos}{body:γ}{scope:ζ}{l:Γ _}{p v u:Θ}{c:Ψ}(h:x="number"\/x="plan") :
  bindArgs (W.kla_fn "<lambda>" q {[],[{x,none,px}],none,[],[],none,[]} body scope l p (.ref c) v) {[u],[]}=pure [(x,u)]:=by
 rcases h with rfl|rfl<;>rfl
def Ef{m:Δ Str}(C:Bk X N sc k)(B:Bn X)(a:∀q,m=↑q->xl X q/\j+3<=k)(O:bz X T){b:ζ->Γ Str->Tr}
  (t:∀scope n Q A f c s H,Bk (lx X A Q scope n f c s H) n scope (k-3)->j<=k-3->bz (lx X A Q scope n f c s H) (b scope n)){l:γ}{p0 d:Pos}{f:Dl.Env->Δ (Γ D)}
  (h:EJ m sc N T b l w=↑f):DF X (.Call (.Name "sorted" p0) [l] [{↑"key",.Lambda w.1 w.2.1 w.2.2.1 w.2.2.2,d}] pos) f:=by
 let(g,h):=ax h;simp  at g;let((u,g),S):=g;let(q,v):=Option.isSome_iff_exists.mp u;let(L,hk):=a q v;let(x,y,h):=bs h;let(z,P,o):=KM y;rw[P];let(K,h):=ax h;rw[zF]at K;let(F,i,h):=bs h;let(G,E,rfl):=af h;obtain⟨p,rfl⟩:∃p,k=p+3:={k-3,by lia}
 exact Bk.agB C (C.blt B g (by decide +kernel) yh) L K.1 K.2 (λ_ _ _ _ _=>bind1 o) rfl (O.e _ _ i) (λA f c s H r=>(t _ _ q A f c s H r<|by lia).e _ _ E) (aQ S) (by rw[aQ S];rfl) (bP<|by simp[S])
def Nl{m:Δ Str}(C:Bk X N sc k)(B:Bn X)(J:∀q,m=↑q->xl X q/\j+3<=k)(O:bz X T){L:ζ->Γ Str->Tr}
  (o:∀scope n Q A f c s H,Bk (lx X A Q scope n f c s H) n scope (k-3)->j<=k-3->bz (lx X A Q scope n f c s H) (L scope n)){a:γ}{args:Γ γ}{K:Γ Keyword}(h:V2 m sc N T L a args K=↑f):DF X (.Call a args K p) f:=by
 let(z,Z,h):=bs h;let(l,d,h):=bs h;rcases b0 h with ⟨b,h⟩|⟨_,h⟩
 case inr =>
  let(hc,h):=ax h;simp?[zF,yO]at hc;let(x,b,rfl):=af h;rw[eu Z,cJ d,eq_of_beq hc.1.1.1,List.isEmpty_iff.mp hc.1.1.2];exact Pe (C.blt B hc.1.2 (by decide +kernel) NJ) (dO O b)<|aQ hc.2
 rw[eu Z,cJ d,b];rcases b0 h with ⟨hk,h⟩|⟨_,h⟩
 .rw[List.isEmpty_iff.mp hk];let(g,h):=ax h;rw[zF,yO]at g;let(x,b,rfl):=af h;exact Io (C.blt B g.1 (by decide +kernel) yh) (dO O b)<|aQ g.2
 .let((Y,v,P),hk,h):=bs h;let(w,hw,h):=bs h;let(y,h):=ax h;have y:Y=↑_:=y;rw[cJ hk,y,(Uj (e:=v) hw)];exact Ef C B J O o h
def Km(C:Bk X N sc k)(B:Bn X)(J:∀q,lam=↑q->xl X q/\j+3<=k)(O:bz X T)
  (o:∀scope n fp s H,Bk (bA X scope n fp s H) n scope k->bz (bA X scope n fp s H) (I scope n))
  (L:∀scope n l A f c s H,Bk (lx X A l scope n f c s H) n scope (k-3)->j<=k-3->bz (lx X A l scope n f c s H) (U scope n)){e:γ}{f:Dl.Env->Δ _}(h:QY lam sc N T I U e=↑f):DF X e f:=by
 cases e with
 |List E p=>let(x,d,rfl):=af h;exact Sx (dO O d)
 |ListComp t g scope r =>
  let(G,i,m,rfl,q):=yo C B O o h;exact q.df C.calm
 |BinOp a P b p =>
  let(z,Z,h):=bs h;let(y,Y,h):=bs h;cases P<;>cases Z
  .let(x,d,rfl):=af h;exact RJ (O.e _ _ d)<|O.e _ _ Y
  .let(x,d,rfl):=af h;exact US (O.f _ _ d) (O.e _ _ Y)
 |Call a S K p=>exact Nl C B J O L h
 |_=>cases h
def uo(n:Nat):∀{l:Δ Str}{X:Cx}{N:Γ Str}{sc:ζ}{k:Nat},Bk X N sc k->Eo G X j->j<=k->(∀q,l=↑q->xl X q/\j+3<=k)->bz X (tr G n l sc N):=by
 induction n with
 |zero=>intro l X N sc k C g K a;exact{λ_ _ _ _ _ h=>(by cases h),λ_ _ h=>(by cases h),λ_ _ h=>(by cases h),λ_ _ h=>(by cases h)}
 |succ n i =>
  intro l X N sc k C g K a;have O:=i C g K a;exact⟨λt m S p f=>yo C g.bn O (λS d F s H b=>i b {g.fn,g.int,g.bn} K λq z=>by cases z),λe f=>J9 C g K O,
   λe f=>Km C g.bn a O (λS d F s H b=>i b {g.fn,g.int,g.bn} K λq z=>by cases z) (λS d Q A f c s H b hk=>i b {g.fn,g.int,g.bn} hk λq z=>by cases z),
   λe f=>LC C O⟩
end
def tQ:Nat->γ->Γ Str
 |0,_=>[]
 |n+1,e=>match e with
  |.Name x _=>[x]
  |.UnaryOp _ a _=>tQ n a
  |.BinOp a _ b _=>tQ n a++tQ n b
  |.BoolOp _ E _=>E.flatMap (tQ n)
  |.Compare a _ C _=>tQ n a++C.flatMap (tQ n)
  |.IfExp c a b _=>tQ n c++(tQ n a++tQ n b)
  |.Tuple E _ _=>E.flatMap (tQ n)
  |.List E _=>E.flatMap (tQ n)
  |.Subscript a b _=>tQ n a++tQ n b
  |.Slice l i st _=>(l.toList++(i.toList++st.toList)).flatMap (tQ n)
  |.Call f s K _=>tQ n f++(s.flatMap (tQ n)++K.flatMap λk=>tQ n k.value)
  |.Attribute o _ _=>tQ n o
  |.ListComp t G _ _=>tQ n t++G.flatMap λg=>tQ n g.iter++g.ifs.flatMap (tQ n)
  |.Lambda _ b _ _=>tQ n b
  |_=>[]
def zm(N:Γ Str)(e:γ):Γ Nat:=let n:=tQ 60 e;(List.range N.length).filter λj=>match N[j]? with|some x=>n.contains x|none=>false
abbrev GS:=aq->Δ Out
def turns:Nat:=1000000
def iX(e:γ):θ:=e.ctorIdx==8||e.ctorIdx==9||e.ctorIdx==10
def X5(e:γ):Δ (γ×Γ Comprehension×ζ×Pos):=if h:e.ctorIdx=8 then Expr.ListComp.elim e h λx y u p=>↑(x,y,u,p)else none
def SR{e:γ}(h:X5 e=↑z):e=.ListComp z.1 z.2.1 z.2.2.1 z.2.2.2:=Expr.ListComp.elim e (gu h) (λa b d f h=>by cases h;rfl) h
def Us{e:γ}(h:X5 e=none)(hc:(e.ctorIdx==9||e.ctorIdx==10)=false):iX e=false:=by
 unfold iX;cases q:e.ctorIdx==8 with
 |false=>rwa [Bool.or_assoc,Bool.false_or]
 |true=>exact absurd (Expr.ListComp.elim e (eq_of_beq q) (λa b d f h=>by cases h) h) id
def Q4(sc:ζ)(N:Γ Str)(T:Tr)(x:Str)(px:Pos)(e:γ):Δ GS:=
 (N.idxOf? x).bind λi=>if(lE N sc i x&&!(e.ctorIdx==9||e.ctorIdx==10))=true then
  (if QN e=true then(if(X5 e).all (λz=>(decide (sc.names.lookup x=↑.local)&&(px.line==z.2.2.2.line&&!(z.2.2.1.names.any λ(n,k)=>n==x&&(k==.local || k==.cell))))||decide (sc.names.lookup x=↑.cell)||!(px.line==z.2.2.2.line))=true then(T.f e).map λf=>bH i (zm N e) f else none)
  else if iX e=false then(T.e e).map λf=>aR i (zm N e) f else none)else none
def Vc(e:γ):Δ (((γ×Str×Pos)×Str×Pos)×Γ γ×Pos):=(dC e).bind λy=>if y.2.2.1.isEmpty=true then(GU y.1).map λz=>(z,y.2.1,y.2.2.2)else none
def uQ{e:γ}(h:Vc e=↑z):e=.Call (.Attribute (.Name z.1.2.1 z.1.2.2) z.1.1.2.1 z.1.1.2.2) z.2.1 [] z.2.2:=by
 let(y,H,h):=bs h;let(b,h):=ax h;let(w,a,rfl):=af h;rw[EE H,gQ a,List.isEmpty_iff.mp b]
def S5:Const->θ
 |.str _=>true
 |_=>false
def Zh(N:Γ Str)(sc:ζ)(T:Tr)(z:((γ×Str×Pos)×Str×Pos)×Γ γ×Pos):Δ GS:=
 (N.idxOf? z.1.2.1).bind λi=>if(nv N sc i z.1.2.1&&z.1.1.2.2.endLine==z.2.2.line&&z.2.1.all λe=>!isStar e)=true then
   (if z.1.1.2.1="append"then(l1 z.2.1).bind λa=>(T.e a).map λf=>nA i (zm N a) f
   else if z.1.1.2.1="extend"then(l1 z.2.1).bind λa=>(T.f a).map λf=>GP i (zm N a) f
   else if z.1.1.2.1="insert"then(l2 z.2.1).bind λa=>(T.e a.1).bind λk=>(T.e a.2).map λf=>IV i (zm N a.2) k f
   else none)else none
def Q0(N:Γ Str)(sc:ζ)(T:Tr)(e:γ):Δ GS:=(Vc e).elim ((dK e).elim ((dC e).bind λy=>(dN y.1).bind λ_=>(T.e e).map lG) λz=>if S5 z.1=true then↑fI else none) λz=>Zh N sc T z
def Zg(sc:ζ)(N:Γ Str)(tg:γ):Δ (aq->D->Δ aq):=(dN tg).elim
 ((dT tg).bind λz=>(l2 z.1).bind λy=>(dN y.1).bind λa=>(dN y.2).bind λb=>(N.idxOf? a.1).bind λi=>(N.idxOf? b.1).bind λj=>if(lE N sc i a.1&&lE N sc j b.1)=true then↑(g9 i j)else none) λz =>
 (N.idxOf? z.1).bind λi=>if lE N sc i z.1=true then↑(CY i)else none
def v9(f:Ω->Δ GS):Γ Ω->Δ GS
 |[]=>↑fI
 |[s]=>f s
 |s::r=>(f s).bind λg=>(v9 f r).map λh=>az g h
def ZE(e:γ):Δ (γ×Γ CmpOp×Γ γ×Pos):=if h:e.ctorIdx=15 then Expr.Compare.elim e h λx y u p=>↑(x,y,u,p)else none
def Ln{e:γ}(h:ZE e=↑z):e=.Compare z.1 z.2.1 z.2.2.1 z.2.2.2:=Expr.Compare.elim e (gu h) (λa b d f h=>by cases h;rfl) h
def Xg(e:γ):Δ (Str×Str):=(ZE e).bind λy=>(dN y.1).bind λa=>(l1 y.2.1).bind λo=>(l1 y.2.2.1).bind λu=>(dN u).bind λb=>if(o.ctorIdx==8&&b.1==("seen":Str))=true then↑(a.1,b.1)else none
def dDc(e:γ):Δ (Γ (Δ γ)×Γ γ×Pos):=if h:e.ctorIdx=6 then Expr.Dict.elim e h λx y p=>↑(x,y,p)else none
def S3{e:γ}(h:dDc e=↑z):e=.Dict z.1 z.2.1 z.2.2:=Expr.Dict.elim e (gu h) (λa b d h=>by cases h;rfl) h
def Kl(e:γ):Δ (Str×γ):=(dDc e).bind λy=>(l1 y.1).bind λa=>a.bind λa=>(dN a).bind λz=>(l1 y.2.1).map λv=>(z.1,v)
def Lh(x:Str)(e:γ):Δ Str:=(dN e).bind λz=>if x="seen"then↑z.1 else none
def Kj(sc:ζ)(N:Γ Str)(T:Tr)(x z:Str)(v:γ):Δ GS:=
 (N.idxOf? x).bind λj=>(N.idxOf? z).bind λi=>if(lE N sc j x&&nv N sc i z)=true then(T.e v).map λf=>ym j i f else none
def Kh(sc:ζ)(N:Γ Str)(T:Tr)(x z:Str)(v:γ):Δ GS:=
 (N.idxOf? x).bind λj=>(N.idxOf? z).bind λi=>if((nv N sc j x&&nv N sc i z)&&v.ctorIdx==19)=true then(T.e v).map λf=>wt j i f else none
def Xh(sc:ζ)(N:Γ Str)(T:Tr)(f:Ω->Δ GS)(c:γ)(a b:Γ Ω):Δ GS:=(v9 f a).bind λg=>(v9 f b).bind λh=>(Xg c).elim ((T.t c).map λt=>iH t g h) λz=>(N.idxOf? z.1).bind λi=>(N.idxOf? z.2).bind λj=>if(nv N sc i z.1&&nv N sc j z.2)=true then↑(wR i j g h)else none
def Z7(e:γ):Δ (γ×γ×Pos):=if h:e.ctorIdx=21 then Expr.Subscript.elim e h λx y p=>↑(x,y,p)else none
def U3{e:γ}(h:Z7 e=↑z):e=.Subscript z.1 z.2.1 z.2.2:=Expr.Subscript.elim e (gu h) (λa b d h=>by cases h;rfl) h
def Lx(sc:ζ)(N:Γ Str)(T:Tr)(e:γ)(x y z:Str):Δ GS:=
 (N.idxOf? x).bind λi=>(N.idxOf? y).bind λj=>(N.idxOf? z).bind λl=>if(((lE N sc i x&&lE N sc j y)&&lE N sc l z)&&Ga e)=true then(T.e e).map λf=>lZ i j l (zm N e) f else none
def l3:Γ Str->Δ (Str×Str×Str)
 |[a,b,d]=>↑(a,b,d)
 |_=>none
def Tg(sc:ζ)(N:Γ Str)(T:Tr)(e:γ)(x y:Str):Δ GS:=
 (N.idxOf? x).bind λi=>(N.idxOf? y).bind λj=>if((lE N sc i x&&lE N sc j y)&&KA e)=true then(T.e e).map λf=>nK i j (zm N e) f else none
def Rn(sc:ζ)(N:Γ Str)(T:Tr)(e t:γ):Δ GS:=(dN t).elim ((Z7 t).elim ((dT t).bind λy=>(Oz y.1).bind λr=>(l2 r).elim ((l3 r).bind λz=>Lx sc N T e z.1 z.2.1 z.2.2) λz=>Tg sc N T e z.1 z.2) λy=>(dN y.1).bind λz=>(Lh z.1 y.2.1).bind λk=>Kh sc N T z.1 k e) λz=>(Kl e).elim (Q4 sc N T z.1 z.2 e) λy=>Kj sc N T z.1 y.1 y.2
def Du(sc:ζ)(N:Γ Str)(T:Tr):Nat->Ω->Δ GS
 |0,_=>none
 |n+1,st=>match st with
  |.Return (↑e) _=>(T.e e).map bg
  |.If c a b _=>Xh sc N T (Du sc N T n) c a b
  |.Assign S e _=>(l1 S).bind λt=>Rn sc N T e t
  |.For G i body s _=>if s.isEmpty=true then(Yc sc T G i).bind λf=>(Zg sc N G).bind λt=>(v9 (Du sc N T n) body).map λg=>gX (zm N i) f t g else none
  |.While c body s _=>if s.isEmpty=true then(T.t c).bind λt=>(v9 (Du sc N T n) body).map λg=>ID t g turns else none
  |.Expr e _=>Q0 N sc T e
  |.Raise ..=>↑Vd
  |.Pass _=>↑fI
  |_=>none
section
variable {X:Cx}{N:Γ Str}{sc:ζ}{k:Nat}{T:Tr}{aaa:Hp}{aab:Hq}{pos:Pos}
def gT(H:∀s g,f s=↑g->DS X aaa aab s g):∀{l:Γ Ω}{g:GS},v9 f l=↑g->EI X aaa aab l g
 |[],g,h=>by cases h;exact NG
 |[s],g,h=>N7 (H _ _ h)
 |s::t::r,g,h=>by
  let(x,a,h):=bs h;let(y,Y,rfl):=af h;exact LO (H _ _ a)<|gT H Y
def d0(h:iX e=false):swapsWith e t line env=pure false:=by
 cases e<;>first|rfl|cases h
def Ky(C:Bk X N sc k)(O:bz X T)(h:Q4 sc N T x px e=↑g):DS X aaa aab (.Assign [.Name x px] e pos) g:=by
 let(i,I,h):=bs h;let(l,h):=ax h;rw[zF,yO]at l;let(z1,z2,z3,z4):=C.loc l.1;rcases b0 h with ⟨_,h⟩|⟨_,h⟩
 .let(hc,h):=ax h;let(f,H,rfl):=af h;cases q:X5 e with
  |none=>exact AG i _ z1 z2 z3 (O.f _ _ H) (d0<|Us q l.2) z4
  |some z =>
   rw[q]at hc;simp?[Option.all_some,qY]at hc;rw[(SR q)]at H ⊢;rcases hc with (hc|hc)|hc
   .rw[zF]at hc;let(G,r,s,E,q):=O.c _ _ _ _ _ H;let(n,t,j,F,b,o,m,rfl,S,d,a,Y):=q.ex;rw[E];exact M3 i _ C.calm S d Y z1 z2 (C.agr hc.1) (C.swap hc.1 hc.2) a
   .exact AG i _ z1 z2 z3 (O.f _ _ H) (C.aff hc) z4
   .refine AG i _ z1 z2 z3 (O.f _ _ H) ?_ z4;rw[yO]at hc;rw[vd,hc];simp
 .let(hc,h):=ax h;let(f,H,rfl):=af h;exact Sj i _ z1 z2 z3 (O.e _ _ H) (d0 hc) z4
def Ah(h:(es.all λe=>!isStar e)=true)(l:es.length<20):((backTo cpos<|starEach es env).all (λx=>!x.1)&&(backToKw cpos<|keywordEach [] env).all (λx=>x.1.isSome)&&decide (es.length+([]:Γ Keyword).length+(if([]:Γ Keyword).isEmpty then 0 else 1)<30))=true:=by
 have H:(backTo cpos<|starEach es env).all (λx=>!x.1)=true:=by
  have:=bP (pos:=cpos) (env:=env) h;rw[List.all_eq_not_any_not];simpa using this
 rw[H];simp[backToKw,keywordEach];lia
def Mo(C:Bk X N sc k)(O:bz X T)(h:Q0 N sc T e=↑g):DS X aaa aab (.Expr e pos) g:=by
 rcases bR h with ⟨_,h⟩|⟨z,Z,h⟩
 .rcases bR h with ⟨_,h⟩|⟨z,Z,h⟩
  .let(y,Y,h):=bs h;let(w,hw,h):=bs h;let(f,H,rfl):=af h;exact Nb (by rw[EE Y];rfl)<|O.e _ _ H
  .let(s,h):=ax h;cases h;rw[QF Z];let(c,_):=z;cases c with
   |str x=>exact RU
   |_=>cases s
 let(i,I,h):=bs h;let(v,h):=ax h;simp?[zF]at v;let((v,l),s):=v;let(z1,z2,z3,z4):=C.vis v;rw[uQ Z];rcases b0 h with ⟨m,h⟩|⟨_,h⟩
 .let(a,A,h):=bs h;let(f,H,rfl):=af h;rw[cJ A]at s ⊢;rw[m];exact Hv i _ z1 z2 (O.e _ _ H) z3 z4 (Ah s<|by simp) l<|aQ<|by simpa using s
 rcases b0 h with ⟨m,h⟩|⟨_,h⟩
 .let(a,A,h):=bs h;let(f,H,rfl):=af h;rw[cJ A]at s ⊢;rw[m];exact Hj i _ z1 z2 (O.f _ _ H) z3 z4 (Ah s<|by simp) l<|aQ<|by simpa using s
 let(m,h):=ax h;let(a,A,h):=bs h;let(F,K,h):=bs h;let(f,H,rfl):=af h;rw[lV A]at s ⊢;rw[m];have S:=s;simp?[xR,List.all_nil,Bool.and_true,zF,yO]at S;exact HH i _ z1 z2 (O.e _ _ K) (O.e _ _ H) z3 z4 (Ah s<|by simp) l (aQ S.1)<|aQ S.2
def Le(C:Bk X N sc k)(h:Zg sc N tg=↑t):Vn X aaa aab tg t:=by
 rcases bR h with ⟨_,h⟩|⟨z,H,h⟩
 .let(z,H,h):=bs h;let(y,Y,h):=bs h;let(a,A,h):=bs h;let(b,B,h):=bs h;let(i,I,h):=bs h;let(j,J,h):=bs h;let(l,h):=ax h;cases h;rw[zF]at l;have u:=C.loc l.1;have w:=C.loc l.2;rw[yi H,lV Y,eu A,eu B];exact Pr i j C.calm u.1 u.2.1 u.2.2.1 w.2.1 w.2.2.1 u.2.2.2 w.2.2.2
 .let(i,I,h):=bs h;let(l,h):=ax h;cases h;have u:=C.loc l;rw[eu H];exact Ja i u.1 u.2.1 u.2.2.1 u.2.2.2
def Bk.u1(C:Bk X N sc k):X.A.units+1<cLine:=by have:=C.room.un;lia
def Bo(h:Kl e=↑y):∃P p,e=.Dict [↑(.Name y.1 P)] [y.2] p:=by
 let(z,Z,h):=bs h;let(a,H,h):=bs h;let(b,B,h):=bs h;let(w,hw,h):=bs h;let(v,V,rfl):=af h;exact{_,_,by rw[S3 Z,cJ H,cJ V,B,eu hw]}
def By(h:Lh x e=↑z):∃p,e=.Name z p:=by
 let(w,hw,h):=bs h;let(_,h):=ax h;cases h;exact{_,eu hw}
def HG(C:Bk X N sc k)(O:bz X T)(h:Kj sc N T x z v=↑g):DS X aaa aab (.Assign [.Name x px] (.Dict [↑(.Name z U)] [v] p) pos) g:=by
 let(j,J,h):=bs h;let(i,I,h):=bs h;let(hc,h):=ax h;rw[zF]at hc;let(f,H,rfl):=af h;let(z1,z2,z3,z4):=C.loc hc.1;let(w,W,a,b):=C.vis hc.2;exact PH j i (Bk.u1 C) w W a b (O.e _ _ H) z1 z2 z3 rfl z4
def HC(C:Bk X N sc k)(O:bz X T){v:γ}(h:Kh sc N T x z v=↑g):DS X aaa aab (.Assign [.Subscript (.Name x px) (.Name z U) sp] v pos) g:=by
 let(j,J,h):=bs h;let(i,I,h):=bs h;let(hc,h):=ax h;rw[zF,zF]at hc;let(f,H,rfl):=af h;let(z1,z2,z3,z4):=C.vis hc.1.1;let(w,W,c,l):=C.vis hc.1.2;exact Expr.Constant.elim v (eq_of_beq hc.2) (λa b d h=>P8 j i (Bk.u1 C) w W z1 z2 h c l z3 z4)<|O.e _ _ H
def M1{f:Ω->Δ GS}{c:γ}{a b:Γ Ω}{g:GS}{p:Pos}(C:Bk X N sc k)(O:bz X T)(I:∀s g,f s=↑g->DS X aaa aab s g)(h:Xh sc N T f c a b=↑g):DS X aaa aab (.If c a b p) g:=by
 let(a,A,h):=bs h;let(b,B,h):=bs h;rcases bR h with ⟨_,h⟩|⟨z,Z,h⟩
 .let(t,ht,rfl):=af h;exact W3 (O.t _ _ ht) (gT I A)<|gT I B
 .let(i,n,h):=bs h;let(j,J,h):=bs h;let(H,h):=ax h;cases h;rw[zF]at H;let(z1,z2,z3,z4):=C.vis H.1;let(W,e,l,m):=C.vis H.2;let(y,Y,h):=bs Z;let(u,U,h):=bs h;let(o,d,h):=bs h;let(v,x,h):=bs h;let(w,hw,h):=bs h;let(hc,h):=ax h;cases h;rw[zF]at hc;rw[Ln Y,eu U,cJ d,cJ x,eu hw];obtain rfl:o=.In:=by cases o<;>first|rfl|exact absurd hc.1 (by decide)
  exact Qf i j (Bk.u1 C) z1 z2 W e (gT I A) (gT I B) z3 z4 l m
def GJ(C:Bk X N sc k)(O:bz X T)(h:Lx sc N T e x y z=↑g):DS X aaa aab (.Assign [.Tuple [.Name x px,.Name y py,.Name z U] m pt] e pos) g:=by
 let(i,I,h):=bs h;let(j,J,h):=bs h;let(l,_,h):=bs h;let(H,h):=ax h;rw[zF,zF,zF]at H;let(f,F,rfl):=af h;have z:=C.loc H.1.1.1;have w:=C.loc H.1.1.2;have u:=C.loc H.1.2;exact JN i j l _ C.calm z.1 z.2.1 z.2.2.1 w.2.1 w.2.2.1 u.2.1 u.2.2.1 H.2 (O.e _ _ F) z.2.2.2 w.2.2.2 u.2.2.2
def Xx{r:Γ Str}(h:l3 r=↑z):r=[z.1,z.2.1,z.2.2]:=by
 rcases r with _|⟨a,_|⟨b,_|⟨d,_|_⟩⟩⟩<;>cases h;rfl
def Kt{t e:γ}{g:GS}{p:Pos}(C:Bk X N sc k)(O:bz X T)(h:Rn sc N T e t=↑g):DS X aaa aab (.Assign [t] e p) g:=by
 rcases bR h with ⟨_,h⟩|⟨z,H,h⟩
 .rcases bR h with ⟨_,h⟩|⟨y,Y,h⟩
  .let(y,Y,h):=bs h;let(r,R,h):=bs h;rcases bR h with ⟨_,h⟩|⟨z,H,h⟩
   .let(z,H,h):=bs h;rw[Xx H]at R;let(s,c,m):=sO R;let(a,b,d,rfl):=CN c;rw[yi Y,m];exact GJ C O h
   .rw[lV H]at R;let(s,c,m):=sO R;let(a,b,rfl):=Cd c;rw[yi Y,m];let(i,I,h):=bs h;let(j,J,h):=bs h;let(l,h):=ax h;rw[zF,zF]at l;let(f,F,rfl):=af h;have z:=C.loc l.1.1;have w:=C.loc l.1.2;exact LB i j _ C.calm z.1 z.2.1 z.2.2.1 w.2.1 w.2.2.1 l.2 (O.e _ _ F) z.2.2.2 w.2.2.2
  let(z,H,h):=bs h;rw[U3 Y,eu H];let(k,hk,h):=bs h;let(P,e):=By hk;rw[e];exact HC C O h
 .rw[eu H];rcases bR h with ⟨_,h⟩|⟨y,Y,h⟩
  .exact Ky C O h
  .let(P,p,e):=Bo Y;rw[e];exact HG C O h
def qd(C:Bk X N sc k)(B:Bn X)(O:bz X T):∀n{st:Ω}{g:GS},Du sc N T n st=↑g->DS X aaa aab st g
 |0,st,g,h=>by cases h
 |n+1,st,g,h=>by
  have I:=λs g=>qd C B O n (st:=s) (g:=g);cases st with
  |Return e p =>
   cases e<;>try cases h
   let(f,F,rfl):=af h;exact Ul (O.e _ _ F)
  |If c a b p=>exact M1 C O I h
  |Assign S e p =>
   let(t,ht,h):=bs h;rw[cJ ht];exact Kt C O h
  |For G r body E p =>
   let(d,h):=ax h;rw[List.isEmpty_iff.mp d];let(j,i,h):=bs h;let(t,ht,h):=bs h;let(b,H,rfl):=af h;let(D,A):=DB C B O i;exact SW _ C.pass C.calm D (Le C ht) (gT I H) A
  |While c body E p =>
   let(d,h):=ax h;rw[List.isEmpty_iff.mp d];let(t,ht,h):=bs h;let(b,H,rfl):=af h;exact KI _ C.pass (O.t _ _ ht) (gT I H)
  |Expr e p=>exact Mo C O h
  |Raise=>cases h;exact VO
  |Pass p=>cases h;exact NU
  |_=>cases h
end
section
variable {K:Φ}
def m5(P:ε)(w:δ)(K:Φ)(g:Str->Δ Θ)(base:ι)(j:Nat)(l:Γ (Str×Nat×(Γ D->Δ D))):Prop:=∀x n m,l.lookup x=↑(n,m)->Ig P w K g base j x n m
def i8(m:Str->Δ Θ)(l:Γ (Str×Int)):Prop:=∀x i,l.lookup x=↑i->∃t,m x=↑(.int i t)
def YQ:m5 P w K mg base j []:=λ_ _ _ h=>by cases h
def Xb(F:Ig P w K mg base j x n m)(h:m5 P w K mg base j l):m5 P w K mg base j ((x,n,m)::l):=λy N M e=>by
 rw[yB]at e;cases q:y==x with
 |true=>rw[q]at e;cases e;rw[eq_of_beq q];exact F
 |false=>rw[q]at e;exact h y N M e
def Zn:i8 mg []:=λ_ _ h=>by cases h
def QJ(F:∃t,mg x=↑(.int i t))(h:i8 mg l):i8 mg ((x,i)::l):=λy I e=>by
 rw[yB]at e;cases q:y==x with
 |true=>rw[q]at e;cases e;rw[eq_of_beq q];exact F
 |false=>rw[q]at e;exact h y I e
def V5{st:Ω}(C:Bk X N (ah st) j)(B:Bn X)(f:m5 X.prog X.w X.K X.mg X.base j fs)(hi:i8 X.mg is)
  (t:v9 (Du (ah st) N (tr ⟨fs,is⟩ 40 none (ah st) N) 40) (aH st)=↑g):EI X aaa aab (aH st) g:=
 gT (λs g h=>qd C B (uo (G:=⟨fs,is⟩) 40 C {f,hi,B} (yL j) λq z=>by cases z) 40 h) t
def fnT{st:Ω}(D:Dd K mg x st ps)(S:aZ N ps (ah st))(B:∀x∈dk,mg x=none)(c:m5 P w K mg base j fs)(hi:i8 mg is)
  (t:v9 (Du (ah st) N (tr ⟨fs,is⟩ 40 none (ah st) N) 40) (aH st)=↑g):Ig P w K mg base (j+1) x ps.length (bK g N.length):=by
 let(f,e,M,F,a):=D.ex;exact fnD F S a M λX p hw k m b C _ _ d H=>by subst p;subst hw;subst k;subst m;subst b;exact V5 C B c hi t
def fnL{st:Ω}(D:Ud K mg x st ps)(S:aZ N ps (ah st))(B:∀x∈dk,mg x=none)(y:m5 P w K mg base j fs)(hi:i8 mg is)
  (Q:x∈lO/\x++".<locals>."++"<lambda>"=q)(t:v9 (Du (ah st) N (tr ⟨fs,is⟩ 40 (↑q) (ah st) N) 40) (aH st)=↑g):Ig P w K mg base (j+4) x ps.length (bK g N.length):=by
 let(f,R,c,p,M,F,u,hc,a):=D.ex;refine fnD (k:=j+3) F S u M λX r hw n m b C i l d H=>?_;subst r;subst hw;subst n;subst m;subst b;have L:xl X q:=by
  refine{c,p,by rw[i,hc],by rw[l];exact Q.2,a,λd T=>?_};let(O,E,kV,e,U,I,v,J,o,rfl,A,_):=F.ex;have:=T f O E _ o c p A Q.1 hc a;rw[<-Q.2];exact this
 exact gT (λs g h=>qd C B (uo (G:=⟨fs,is⟩) (j:=j) 40 C {y,hi,B} (jS _ _) λV z=>by cases z;exact{L,yL _}) 40 h) t
end
abbrev tW(s:Ω)(N:Γ Str)(S:Sg)(l:Δ Str):Δ GS:=v9 (Du (ah s) N (tr S 40 l (ah s) N) 40)<|aH s
def XX(a:sc.kind=.function:=by rfl)(b:sc.isCoroutine=false:=by rfl)(c:sc.isGenerator=false:=by rfl)(d:N.Nodup:=by decide +kernel)(e:N.take P.length=P:=by rfl)(f:∀x∈P,sc.names.lookup x=↑.local \/ sc.names.lookup x=↑.cell:=by decide +kernel)(g:∀y∈sc.names,y.2≠.free:=by decide +kernel):aZ N P sc:={a,b,c,d,e,f,g}
section
variable {K:Φ}
def Xu{st:Ω}(D:Dd K mg x st ps)(B:∀x∈dk,mg x=none)(f:m5 P w K mg base j S.fn)(hi:i8 mg S.int)(t:tW st N S none=↑g)(F:aZ N ps (ah st):=by exact Rf.XX):Ig P w K mg base (j+1) x ps.length (bK g N.length):=fnT D F B f hi t
end
end Rf
namespace Ex
open PySem L2 PySem.Spec PyProof.Rows
variable {rest:Γ Ω}
def wq(x:gh P w H h a o):∃b,h.get? a=↑b:=by
 cases o with
 |lst s=>let(_,_,_,_,e):=x;exact{_,e}
 |tup s=>let(_,_,_,(_,e,_),_):=x;exact{_,e}
 |dK k=>let(_,_,_,_,o,_,_,e,_):=x;exact{_,e}
 |dT k=>let(_,_,o,_,_,e,_):=x;exact{_,e}
 |set S n=>let(o,_,_,_,e,_):=x;exact{_,e}
 |ins C d fs=>let(_,_,_,e,_):=x;exact{_,e}
 |own y=>let(_,e):=x;exact{_,e}
 |xd fs=>let(_,(_,_,_,e,_),_):=x;exact{_,e}
 |rng l i=>let(_,_,_,e):=x;exact{_,e}
 |frz b u=>let(e,_):=x;exact{_,e}
 |tab q=>let(_,e,_):=x;exact{_,e}
 |cod q=>let(_,_,_,_,E,e,_):=x;cases E;exact{_,e}
 |met f y=>exact{_,(show h.get? a=↑_ from x)}
 |ext c=>let(_,(_,e),_):=x;exact{_,e}
structure Ht(P:Program)(w:World)(l:List Env)(H:Hp)(s:Shared)(cls:Value)(ea:Addr)(H':Hp)(s':Shared):Prop where
 os:s'.os=s.os
 bare:AllBare s'.gens
 un:Un (j5 l) [] H H' s.heap s'.heap
 hok:o5 P w H' s'.heap
 fly:∃B a0,Heap.FlyingW B l ea cls a0 s'.heap/\∀b,b∉j5 l->(H' b≠none\/∃o,s.heap.get? b=↑o)->∃o,B.get? b=↑o
def mX(P:ε)(w:δ):M8:=λl H s E e S=>∃A c a,e=.ref A/\Ht P w l H s c A a S/\E c none a
section
variable {X:Cx}{pins:Γ (Ψ×Obj)}{σ:L2.St}{H H':Hp}{s s':Ξ}{cls:Θ}{ea:Ψ}
def ES(I:Inv X pins σ H s)(Q:X.stack=X.env::X.outer)(M:X.env.frame=↑X.env.locals)(p:X.ex=[])(S:s'.os=s.os)(r:AllBare s'.gens)(N:Un (j5 X.stack) [] H H' s.heap s'.heap)(K:o5 X.prog X.w H' s'.heap)
  (t:B.StaysIn s'.heap)(F:s'.heap.FunFrames B X.stack)(m:∀b,b∉j5 X.stack->(H' b≠none\/∃o,X.aar.heap.get? b=↑o)->∃o,B.get? b=↑o)(x1:Heap.FlyingW B X.outer ea cls a0 h')
  (U:∀b∈j5 X.outer,∀o,s'.heap.get? b=↑o->(∀vs,o.data≠.fields vs)->∃l,h'.get? b=some {o with slots:=l}) :
  Ht X.prog X.w X.outer X.aab X.aar cls ea H' {s' with heap:=h'}:=by
 have x:∀b:Ψ,b∉X.ex:=λb=>by rw[p];simp
 have fs:j5 X.stack=X.env.locals::j5 X.outer:=by rw[Q];unfold j5;rw[jD,M]
 have L:∀b o,X.aar.heap.get? b=↑o->b≠X.env.locals:=λb o e=>yQ<|zP (zY e) I.ok.above;have T:∀b o,X.aar.heap.get? b=↑o->b∉j5 X.outer->b∉j5 X.stack:=λb o e c z=>by
  rw[fs]at z;rcases List.mem_cons.mp z with z|z
  .exact L b o e z
  .exact c z
 have k:∀b∈j5 X.stack,H' b=none:=λb c=>by
  let(_,o,P,_):=I.stack.mem c;exact N.free b o P (I.aa5 b c)<|by simp
 have MQ:∀b u,H' b≠none->s'.heap.get? b=↑u->h'.get? b=↑u:=λb u g e=>by
  let(o,O):=m b (λz=>g<|k b z)<|.inl g;have:=t b o O;rw[e]at this;cases this;exact x1.1 b u O
 have D:∀b o o2,b∉j5 X.stack->X.aar.heap.get? b=↑o->s'.heap.get? b=↑o2->h'.get? b=↑o2:=λb o o2 c e E=>by
  let(o3,O):=m b c<|.inr ⟨o,e⟩;have:=t b o3 O;rw[E]at this;cases this;exact x1.1 b o2 O
 have i:∀b,b∈j5 X.outer->b∈j5 X.stack:=λb c=>by rw[fs];exact zC _ c
 have A:∀b∈j5 X.outer,∀o,s'.heap.get? b=↑o->∃l,h'.get? b=some {o with slots:=l}:=λb c o e=>by
  let(_,o2,E,J):=F.mem<|i b c;rw[e]at E;cases E;exact U b c o e J
 refine{S.trans I.os,r,{λb o e n c _=>?_,λb o e n c _=>?_,λb o e n _=>?_,λb o e _=>?_,λb G e=>N.abe b G<|I.base.abe b G e,λb o u e=>N.aa4 b o u<|I.base.aa4 b o u e,?_},λa o e=>?_,B,a0,x1,λb c C=>?_}
 .have d:=I.base.keep b o e n c<|x b;have v:=I.base.free b o e n<|x b;have f:=T b o e c;exact D b o o f e<|N.keep b o d v f<|by simp
 .let(l,d):=I.base.slot b o e n c<|x b;have v:=I.base.free b o e n<|x b;let(R,E):=N.slot b _ d v (i b c) (by simp);let(y,j):=A b c _ E;exact{y,j}
 .let(o1,d):=I.base.there b o e<|x b;exact N.free b o1 d (I.base.free b o e n<|x b)<|by simp
 .let(o1,d):=I.base.there b o e<|x b;let(o2,E):=N.there b o1 d (by simp);by_cases c:b∈j5 X.outer
  .let(l,j):=A b c o2 E;exact{_,j}
  .exact{o2,D b o o2 (T b o e c) e E}
 .exact I.base.aaZ.trans<|N.aaZ.trans<|.kept (λb u ⟨q,z⟩ e=>MQ b u (by rw[z];simp) e) λ_ _ e _=>e
 .refine (K a o e).aaH (λb u c q=>MQ b u ?_ q) (λ_ q=>q) λ_ _ q _=>q;rcases c with rfl|z
  .rw[e];simp
  .rw[z];simp
 .refine m b (λz=>?_) C;rw[fs]at z;rcases List.mem_cons.mp z with z|z
  .subst z;rcases C with g|⟨o,e⟩
   .exact g<|k _ (by rw[fs];exact zE)
   .exact L _ o e rfl
  .exact c z
def XB(S:X.stack=X.env::X.outer)(g:X.env.frame=↑X.env.locals)(x:X.ex=[])
  (a:∀e s',wpAny (model X.prog X.w) X.A (leaving X.env e) (λ_ c=>mX X.prog X.w X.outer X.aab X.aar U e c) (λ_ _=>False) s'->X.xe e s')(k:∀cls H',E cls none H'->U cls none H'):bw (mX X.prog X.w) X E:=by
 intro p u H s e s' I h;let(i,cls,H',rfl,F,hc):=h;let(B,f,l,j):=F.fly;refine a _ _ ?_;refine wpAny_leaves_onW (base:=B) (a0:=f) (cls:=cls) (by rw[I.ok.frames,S]) g (by rw[<-S];exact l) λt q r=>{i,cls,H',rfl,ES I S g x F.os F.bare F.un F.hok l.1 l.2.2.1 (λb m n=>j b m (n.imp id λz=>by let(o,e):=z;exact I.base.there b o e (by rw[x];simp))) q λb _ o e d=>r b o e d,k _ _ hc}
def De(I:Inv X pins σ H s)(S:X.stack=X.env::X.outer)(f:X.env.frame=↑X.env.locals)(x:X.ex=[])
  (E:∀e s',wpAny (model X.prog X.w) X.A (leaving X.env e) (λ_ c=>mX X.prog X.w X.outer X.aab X.aar U e c) (λ_ _=>False) s'->X.xe e s')(m:Heap.MadeExcOf s.heap s'.heap ea cls args)(O:s'.os=s.os)(G:AllBare s'.gens)(d:U cls none H):X.xe (.ref ea) s':=by
 have a:=I.stack;apply E;have n:∀env∈X.stack,∀b,env.frame=↑b->b∈j5 X.stack:=λenv g b B=>List.mem_filterMap.mpr {env,g,B};refine wpAny_leaves_madeW (by rw[I.ok.frames,S]) f (λb o=>W.of_hideAll _) (by rw[<-S];exact W.funFrames_hide a n) m λp t k r v l=>{ea,cls,H,rfl,(ES I S f x O G (Un.kept m.keeps) (I.hok.kept m.keeps) (λb o q=>m.keeps b o<|W.of_hideAll _ q) ((W.funFrames_hide a n).of_keeps λb o q _=>{o,m.keeps b o q,rfl}) (λb B i=>?_) k λb _ o e=>l b o e),d}
 have ⟨o,e⟩:∃o,s.heap.get? b=↑o:=by
  rcases i with N|h
  .let(u,j):=Option.ne_none_iff_exists'.mp N;exact wq<|I.hok b u j
  .let(o,e):=h;exact I.base.there b o e<|by grind
 exact{o,W.hideAll_get _ e B}
end
abbrev MI:Γ Θ:=[.type "ValueError",.type "Exception",.type "BaseException",.type "object"]
def PD{K:Φ}(X:K.In h)(q:W.excIn K C MI "ValueError.__new__"=true) :
  ∃b N nm Q bs d sn sub ab col dd k0 k1 k2 k3 k5 M,h.get? C=↑(excClassObj nm Q C N bs b d sn sub ab col dd k0 k1 k2 k3 k5 "ValueError.__new__")/\h.Ns N M/\M "__init__"=none/\OwnTail h MI b:=by
 unfold W.excIn at q;split at q
 .rename_i dd c S o;split at q
  .rename_i e b k0 k1 k2 k3 n k5 m H;simp?[zF,vH,yO]at q;obtain⟨⟨⟨⟨⟨rfl,rfl⟩,a⟩,ht⟩,k⟩,i⟩:=q;cases c with
   |mk nm bs O s Q d sn sub ab col D =>
    simp only at m a k i;subst m a;cases S with
    |mk l =>
     simp only at H;subst H;exact{b,s,nm,Q,bs,d,sn,sub,ab,col,dd,k0,k1,k2,k3,k5,_,X _ _ o,.of_isNs<|W.isNs_of_in X k,W.nsMap_none_of_in X k i,W.tail_of_in X ht}
  .cases q
 .cases q
def Be(I:Inv X pins σ H s)(hc:X.calm=true)(G:Gl X x)(J:X.mg x=↑(.ref C))(q:W.excIn X.K C MI "ValueError.__new__"=true)
  (L:X.stack=X.env::X.outer)(z:X.env.frame=↑X.env.locals)(a:X.ex=[])
  (f:∀e s',wpAny (model X.prog X.w) X.A (leaving X.env e) (λ_ S=>mX X.prog X.w X.outer X.aab X.aar U e S) (λ_ _=>False) s'->X.xe e s')(u:U (.ref C) none H)(B:(x==("__debug__":Str))=false) :
  wpAny (model X.prog X.w) X.A (exec (.Raise (↑(.Call (.Name x np) [.Constant (.str t) i p] [] cpos)) none pos) X.env) Q X.xe s:=by
 let(P,N,M,O,bs,y,sn,b,g,c,D,j,l,m,n,o,V,r,v,d,T):=PD I.kIn q;refine wpAny_Raise_call_subT (nm:=M) (q:=O) (N:=N) (bs:=bs) (hdct:=y) (sn:=sn) (sub:=b) (ab:=g) (col:=c) (dd:=D) (k0:=j) (k1:=l) (k2:=m) (k3:=n) (k5:=o)
  F.excBase_ValueError (T.hasType F.excBase_ValueError.hasBase) (I.ok.hd hc) rfl d (lg I G J {rfl,(Calls.evalArgs_plain<|jG<|wG (k:=i) (pos:=p)<|kE {rfl,?_,r,v,T,λR e E=>(De (I.tok _) L z a f E rfl I.bare u)})} B)
 .exact yD (show 1<=4000 by lia) (by decide)
open PySem L2 Dl PySem.Spec PyProof.Rows
def spX(K:Φ)(m:Str->Δ Θ)(n:Nat)(xm:Γ D->Δ Str):Sp:=λv H _ E=>∃F d c C,aA F H/\bN K F/\aw K F d v/\d.length=n/\xm d=↑c/\m c=↑(.ref C)/\∀a f,bo F H f a->E (.ref C) none a
structure Lg(P:Program)(w:World)(K:W.Frag)(mg:Str->Option Value)(base:Heap)(k:Nat)(x:Str)(n:Nat)(xm:List D->Option Str):Prop where
 ex:∃ (f:Ψ) (fd:η) (ps:Γ Str),dc P w K mg base (mX P w) k f fd ps (spX K mg n xm)/\mg x=↑(.ref f)/\W.keepIn K (.ref f)=true/\Binds K fd ps []
def Lg.mono{K:Φ}{xm:Γ D->Δ Str}(F:Lg P w K mg base k x n xm)(h:k<=j):Lg P w K mg base j x n xm:=by
 let(f,e,p,a,b,c,d):=F.ex;exact{f,e,p,a.mono h,b,c,d}
structure Xk(X:Cx)(E:XK):Prop where
 hs:X.stack=X.env::X.outer
 hf:X.env.frame=↑X.env.locals
 hex:X.ex=[]
 hxe:∀e s',wpAny (model X.prog X.w) X.A (leaving X.env e) (λ_ s''=>mX X.prog X.w X.outer X.aab X.aar E e s'') (λ_ _=>False) s'->X.xe e s'
def Xk.pass(x:Xk X E):bw (mX X.prog X.w) X E:=XB x.hs x.hf x.hex x.hxe λ_ _ h=>h
def tXE(K:Φ)(m:Str->Δ Θ)(E:XK)(x:Dl.Env->Δ Str):TE:=λd H _=>∃F b c C,aA F H/\cK K F b d/\x b=↑c/\m c=↑(.ref C)/\∀a f,bo F H f a->E (.ref C) none a
def E8(X:Cx)(E:XK)(e:γ)(x:Dl.Env->Δ Str):Prop:=PE X e<|tXE X.K X.mg E x
def tX(K:Φ)(m:Str->Δ Θ)(aaa:Hp)(aab:Hq)(E:XK)(xg:aq->Δ Str):TS:=λ_ d H=>∃f b c C,gJ K aaa aab f H b d/\xg b=↑c/\m c=↑(.ref C)/\∀a F,bo aaa aab F a->E (.ref C) none a
def DX(X:Cx)(E:XK)(aaa:Hp)(aab:Hq)(st:Ω)(xg:aq->Δ Str):Prop:=PS X st<|tX X.K X.mg aaa aab E xg
def IG(X:Cx)(E:XK)(aaa:Hp)(aab:Hq)(st:Γ Ω)(xg:aq->Δ Str):Prop:=su X st<|tX X.K X.mg aaa aab E xg
def C8(h:PA X.nox es t):PA X es t:=λP p s b H Q I hw =>
 yZ (h P p s b H Q (I.aa1 _) hw) (λ_ _ z=>by let(v,a,i,r,q):=z;exact {v,a,i.aaB,r,q}) λ_ _=>False.elim
def UE{st:Ω}(h:PS X.nox st t):PS X st t:=λp s a H D I hw =>
 yZ (h p s a H D (I.aa1 _) hw) (λ_ _ q=>q.aaB) λ_ _=>False.elim
def FU(n:Nat)(xm:Γ D->Δ Str)(fs:Dl.Env->Δ (Γ D)):Dl.Env->Δ Str:=λa=>(fs a).bind λd=>if d.length=n then xm d else none
def Nk{xm:Γ D->Δ Str}{p pos:Pos}(F:Lg X.prog X.w X.K X.mg X.base k x n xm)(R:cA k X.A)(v:bw (mX X.prog X.w) X E)(u:Gl X x)(m:DA X.nox (e::es) fs)(B:(x==("__debug__":Str))=false:=by decide)
  (t:starEach (e::es) X.env=(false,eval e X.env)::starEach es X.env:=by rfl)(l:(backTo pos<|starEach es X.env).any (·.1)=false:=by rfl):E8 X E (.Call (.Name x p) (e::es) [] pos) (FU n xm fs):=by
 let(f,J,P,O,M,hk,r):=F.ex;refine aE (j6 O R u M hk r .nil v (C8 m) B t l) λN H Q z=>?_;let(j,y,c,C,sm,o,a,hc,q):=z;let(S,s,a):=bs a;split at a
 .rename_i L;exact{j,y,S,sm,o,s,λV I d G r1=>{d,S,c,C,G.fh,o.tb.mono G.ff,by rw[qD];exact r1,L,a,hc,λi b g=>q i b<|G.trans g}}
 .cases a
def Xv(t:Dl.Env->Δ θ)(xa xb:Dl.Env->Δ Str):Dl.Env->Δ Str:=λa=>(t a).bind λb=>if b=true then xa a else xb a
def V3(hc:DT X.nox c t)(A:E8 X E a xa)(B:E8 X E b xb):E8 X E (.IfExp c a b pos) (Xv t xa xb):=
 aE (oU (.nox hc) A B) λl H Q z=>by
  let(j,i,c,C,sm,o,f,hc,q):=z;let(b,h,f):=bs f;refine{j,i,b,sm,o,h,λk F G=>?_};cases b with
  |true=>exact nT {F,i,c,C,G.fh,o.mono G.ff,f,hc,λe d g=>q e d<|G.trans g}
  |false=>exact lK {F,i,c,C,G.fh,o.mono G.ff,f,hc,λe d g=>q e d<|G.trans g}
def Lv{K:Φ}{D:Ends}(h:tX K mg aaa aab E (λρ=>I<|aI ρ) D σ H):tXE K mg E I σ H Q:=by
 let(F,ρ,c,C,S,x,hc,q):=h;exact{H,aI ρ,c,C,.refl _,S.all,x,hc,λa f G=>q a F (S.step G.hh).gr}
def Sv(h:E8 X E e I)(s:swapsWith e none pos.line X.env=pure false:=by rfl):DX X E aaa aab (.Expr e pos) (λρ=>I<|aI ρ):=bp (hU h s) λD a H=>Lv
def Sn(h:E8 X E e I):DX X E aaa aab (.Return (↑e) pos) (λρ=>I<|aI ρ):=bp (lJ h) λD a H=>Lv
def ua{st:Ω}(h:DX X E aaa aab st xg):IG X E aaa aab (st::rest) xg:=λp s a H D I q=>by
 refine vC<|bZ (h p s a H ⟨λ_ _=>False,λ_ _=>False,λ_ _=>False,λ_ _=>False⟩ I q) λf S z=>?_;cases f with
 |next=>let(_,_,_,z):=z;exact z.elim
 |brk=>let(_,_,_,z):=z;exact z.elim
 |cont=>let(_,_,_,z):=z;exact z.elim
 |ret u=>let(_,_,_,_,_,z):=z;exact z.elim
def On(g:aq->Δ Out)(xg:aq->Δ Str):aq->Δ Str:=λb=>(g b).bind λo=>match o with|.nx a=>xg a|.rt _=>none
def BR{st:Ω}(h:DS X.nox aaa aab st g)(r:IG X E aaa aab rest xg):IG X E aaa aab (st::rest) (On g xg):=
 kn (cP (UE h) r) λD j H z=>by
  let(f,b,c,C,S,x,hc,q):=z;let(o,O,x):=bs x;cases o with
  |rt d=>cases x
  |nx a=>exact{f,b,.nx a,S,O,λe i F s _=>{F,a,c,C,s,x,hc,q}}
def MR(t:Dl.Env->Δ θ)(xa xb:aq->Δ Str):aq->Δ Str:=λa=>(t<|aI a).bind λb=>if b=true then xa a else xb a
def WM(hc:DT X.nox c t)(A:IG X E aaa aab a xa)(B:IG X E aaa aab b xb):DX X E aaa aab (.If c a b pos) (MR t xa xb):=
 bp (rY (.nox hc) A B) λD g H z=>by
  let(F,d,c,C,S,x,hc,q):=z;let(b,h,x):=bs x;refine{H,aI d,b,.refl _,S.all,h,λe f G=>?_};cases b with
  |true=>exact nT {F,d,c,C,S.step G.hh,x,hc,q}
  |false=>exact lK {F,d,c,C,S.step G.hh,x,hc,q}
def JX(hk:Xk X E)(hc:X.calm=true)(g:Gl X x)(m:X.mg x=↑(.ref C))(q:W.excIn X.K C MI "ValueError.__new__"=true)(b:(x==("__debug__":Str))=false:=by decide) :
  DX X E aaa aab (.Raise (↑(.Call (.Name x np) [.Constant (.str t) i p] [] cpos)) none pos) (λ_=>↑x):=λP s j H D I z=>by
 let(F,f,c,e,S,d,a,z):=z;cases d;rw[m]at a;cases a;exact Be I hc g m q hk.hs hk.hf hk.hex hk.hxe (z H F S.gr) b
def CA(xg:aq->Δ Str)(n:Nat)(args:Γ D):Δ Str:=xg<|args.map Slot.val++List.replicate (n-args.length) .non
def BI{K:Φ}(sm:aA HF H)(tb:bN K HF)(r:aw K HF ds vs):gJ K HF {H,λ_=>0} HF H (ds.map Slot.val++List.replicate (N.length-ds.length) .non) (L2.start N vs):=by
 refine{.refl sm,λi e h=>?_,λi s h=>?_,λi j s fs a h=>?_,?_,tb,λi S h=>absurd h zw,λi j S l h=>absurd h zw,λi k h=>absurd h Ly}
 .have I:i<ds.length:=by
   by_cases I:i<ds.length
   .exact I
   .rw[yS<|by simpa using I,yW]at h;split at h<;>cases h
  rw[yR<|by simpa using I,zO]at h;let(D,d,h):=af h;cases h;let(v,V,R):=r.getD d;refine{v,?_,R};unfold L2.start;rw[yR<|by simpa [r.length]using I,zO,V];rfl
 .exfalso;by_cases I:i<ds.length
  .rw[yR<|by simpa using I,zO]at h;let(D,d,h):=af h;cases h
  .rw[yS<|by simpa using I,yW]at h;split at h<;>cases h
 .exfalso;by_cases I:i<ds.length
  .rw[yR<|by simpa using I,zO]at h;let(D,d,h):=af h;cases h
  .rw[yS<|by simpa using I,yW]at h;split at h<;>cases h
 .unfold L2.start;rw[zN,zN,zD,zD,xK,xK,r.length];exact yL _
def fnX{K:Φ}{st:Ω}(F:zv K x qual st f fd)(S:aZ N ps (ah st))(B:Binds K fd ps [])(m:mg x=↑(.ref f))
  (body:∀X E,X.prog=P->X.w=w->X.K=K->X.mg=mg->X.base=base->Bk X.nox N (ah st) k->X.calm=true->Xk X E->∀aaa aab,IG X E aaa aab (aH st) xg):Lg P w K mg base (k+1) x ps.length (CA xg N.length):=by
 refine{f,fd,ps,?_,m,F.kp,B};let(G,I,kV,D,M,n,v,T,O,rfl,l,d):=F.ex;refine n6 l d S (λV H Q E z=>by let(a,b,c,C,p,_,g,i,_):=z;rw[g.length,i]) λA o s H V Q E r z=>?_;let(a,b,c,C,sm,t,R,L,j,hc,q):=z;exact{_,body _ E rfl rfl rfl rfl rfl {rfl,S.nd,λy u=>.inl,rfl,λ_ _=>rfl,r,rfl,S.kind} rfl {rfl,rfl,rfl,λe J z=>yZ z (λ_ _ h=>h) λ_ _ h=>h.elim} a {H,λ_=>0},({a,_,c,C,BI sm t R,j,hc,q})}
section
variable {X:Cx}{pins:Γ (Ψ×Obj)}{σ:L2.St}{H H':Hp}{s s':Ξ}{cls:Θ}{ea:Ψ}
def LY(I:Inv X pins σ H s)(N:Un (j5 X.stack) [] H H' s.heap s'.heap)(k:o5 X.prog X.w H' s'.heap)
  (t:B.StaysIn s'.heap)(F:s'.heap.FunFrames B X.stack)(g:∀b,b∉j5 X.stack->(H' b≠none\/∃o,s.heap.get? b=↑o)->∃o,B.get? b=↑o)(x1:B.StaysIn h')(x:s'.heap.UpToSlots h') :
  Un (j5 X.stack) [] H H' s.heap h'/\o5 X.prog X.w H' h':=by
 have K:∀b∈j5 X.stack,H' b=none:=λb c=>by
  let(_,o,j,_):=I.stack.mem c;exact N.free b o j (I.aa5 b c)<|by simp
 have MQ:∀b u,H' b≠none->s'.heap.get? b=↑u->h'.get? b=↑u:=λb u i e=>by
  let(o,O):=g b (λz=>i<|K b z)<|.inl i;have:=t b o O;rw[e]at this;cases this;exact x1 b u O
 have d:∀b o o2,b∉j5 X.stack->s.heap.get? b=↑o->s'.heap.get? b=↑o2->h'.get? b=↑o2:=λb o o2 c e E=>by
  let(o3,O):=g b c<|.inr ⟨o,e⟩;have:=t b o3 O;rw[E]at this;cases this;exact x1 b o2 O
 have A:∀b∈j5 X.stack,∀o,s'.heap.get? b=↑o->∃l,h'.get? b=↑_:=λb c o e=>by
  let(_,o2,E,D):=F.mem c;rw[e]at E;cases E;exact x b o e D
 refine{{λb o e n c _=>(d b o o c e<|N.keep b o e n c<|by lia),λb o e n c _=>?_,λb o e n _=>N.free b o e n<|by lia,λb o e _=>?_,N.abe,N.aa4,(N.aaZ.trans<|.kept (λb u ⟨q,z⟩=>MQ b u<|by grind) λ_ _ e _=>e)},λa o e=>?_}
 .let(m,E):=N.slot b o e n c (by lia);let(S,f):=A b c _ E;exact⟨S,f⟩
 .let(o2,E):=N.there b o e (by lia);by_cases c:b∈j5 X.stack
  .let(l,f):=A b c o2 E;exact{_,f}
  .exact{o2,d b o o2 c e E}
 .refine (k a o e).aaH (λb u c=>MQ b u ?_) (λ_ q=>q) λ_ _ q _=>q
  grind
def Ht.inv(I:Inv X pins σ H s)(F:Ht X.prog X.w X.stack H s cls ea H' s'):Inv X pins σ H' s':=I.ac9 F.os F.un F.hok F.bare λb B=>absurd B<|by simp
def Ht.aaH(I:Inv X pins σ H s)(F:Ht X.prog X.w X.stack H s cls ea H' s')(l:Heap.FlyingW B X.stack ea cls a0 s'.heap)(a:∀b,b∉j5 X.stack->(H' b≠none\/∃o,s.heap.get? b=↑o)->∃o,B.get? b=↑o)
  (x1:Heap.FlyingW B X.stack ea cls a0 h')(x:s'.heap.UpToSlots h'):Ht X.prog X.w X.stack H s cls ea H' {s' with heap:=h'}:=by
 let(u,k):=LY I F.un F.hok l.1 l.2.2.1 a x1.1 x;exact{F.os,F.bare,u,k,B,a0,x1,a}
def land{M:Model}{E:Θ->Ξ->Prop}{Q:Unit->Ξ->Prop}(I:Inv X pins σ H s)(S:X.stack=X.env::X.outer)(f:X.env.frame=↑X.env.locals)(F:Ht X.prog X.w X.stack H s cls ea H' s')
  (k:∀h',Ht X.prog X.w X.stack H s cls ea H' {s' with heap:=h'}->Q () {s' with heap:=h'}) :
  wpAny M X.A (noteFrame (.ref ea) X.env) (λ_ s2=>wpAny M X.A (setFlight (.ref ea) none) Q E s2) E s':=by
 let(B,a,l,d):=F.fly;refine wpAny_looks_onW (base:=B) (a0:=a) (cls:=cls) (by rw[I.ok.frames,S]) f (by rw[<-S];exact l) λb e x=>?_;refine wpAny_landsW (s:={s' with heap:=b}) e λc y Y=>k c ?_;exact F.aaH I l d (by rw[S];exact y)<|x.trans Y
def again{M:Model}{A:ξ}{E:Θ->Ξ->Prop}{Q:Unit->Ξ->Prop}(I:Inv X pins σ H s)(F:Ht X.prog X.w X.stack H s cls ea H' s')
  (k:∀h',Ht X.prog X.w X.stack H s cls ea H' {s' with heap:=h'}->Q () {s' with heap:=h'}):wpAny M A (setFlight (.ref ea) none) Q E s':=by
 let(B,c,l,b):=F.fly;exact lands_againW l λa y Y=>k a<|F.aaH I l b y Y
end
abbrev lI(X:Cx)(a:ξ):Cx:={X with A:=a,calm:=false}
def tE(I:Inv X pins σ H s)(r:U.frames=X.A.frames):Inv (lI X U) pins σ H s:=
 let o:=I.ok
 {{o.mod,o.kind,o.glob,o.blt,o.above,o.inj,o.has,o.cab,λz=>(by cases z),r.trans o.frames,o.stk,o.exf,o.bs,o.bsz,o.abT,o.aca,o.aa0,o.frf},I.os,I.bare,I.base,I.loc,I.cell,I.free,I.aax,I.pin,I.hok,I.len}
def DU(o:X.Ok)(I:Inv (lI X U) pins σ H s):Inv X pins σ H s:={o,I.os,I.bare,I.base,I.loc,I.cell,I.free,I.aax,I.pin,I.hok,I.len}
def Dq{t':Nat}(I:Inv X pins σ H s)(j:h'.Ns X.env.locals U)(S:Heap.SameBut X.env.locals s.heap h'):Inv X pins (List.replicate X.N.length none) H {s with heap:=h',toks:=t'}:=by
 have L:∀b o,X.aar.heap.get? b=↑o->b≠X.env.locals:=λb o e=>yQ<|zP (zY e) I.ok.above;have k:∀b o,b≠X.env.locals->s.heap.get? b=↑o->h'.get? b=↑o:=λb o E=>(S.2 b E).trans;have tr:∀b u,H b=↑u->b≠X.env.locals:=λb u e z=>by rw[z,I.free]at e;grind
 refine{I.ok,I.os,I.bare,{λb o e n B d=>k b o (L b o e)<|I.base.keep b o e n B d,λb o e n B d=>?_,I.base.free,λb o e d=>?_,I.base.abe,I.base.aa4,(I.base.aaZ.trans<|.kept (λb u ⟨q,z⟩=>k b u<|tr b _ z) λ_ _ e _=>e)},{U,j,λi x v _ g _=>?_},λx c e=>?_,I.free,I.aax,λp P=>?_,λa o e=>?_,?_}
 .let(m,f):=I.base.slot b o e n B d;exact{m,k b _ (L b o e) f}
 .let(l,f):=I.base.there b o e d;exact{l,k b _ (L b o e) f}
 .rw[yW]at g;split at g<;>cases g
 .let(v,o,O,D):=I.cell x c e;exact{v,o,k c o (I.cne x c e) O,D}
 .let(e,n,E,r):=I.pin p P;exact{k _ _ E e,n,E,r}
 .refine (I.hok a o e).aaH (λb u B=>k b u ?_) (λ_ q=>q) λ_ _ q _=>q;rcases B with rfl|z
  .exact tr b _ e
  .exact tr b _ z
 simp
def ExcAt(l:Γ PySem.Env)(H:Hp)(h:ι)(ea:Ψ)(cls:Θ):Prop:=(∃o v,h.get? ea=↑o/\o.cls=cls/\o.data=.fields v)/\H ea=none/\ea∉j5 l
def TL{rest:Γ ExceptHandler}{D:Ends}(I:Inv X pins σ H s)(F:Ht X.prog X.w X.stack H s cls ea H' s')(hg:Gl X x)(hm:X.mg x=↑(.ref C))(P:(x==("__debug__":Str))=false)
  (hx:W.exmOne X.K cls (.ref C)=↑true)(hN:X.N.Nodup)(hi:X.N[i]?=↑n)(hl:X.env.kindOf n=↑.local)(g:X.env.scope.names.lookup n=↑.local)(M:X.env.cells.lookup n=none)
  (k:∀s2,Inv (lI X<|X.A.mark<|↑(.ref ea)) pins (σ.set i<|↑(.ref ea)) H' s2->ExcAt X.stack H' s2.heap ea cls ->
   wpAny (model X.prog X.w) (X.A.mark<|↑(.ref ea)) (execs (acR::U) X.env) (λf s3=>∃u v σ' j,f=.ret u/\Inv (lI X<|X.A.mark<|↑(.ref ea)) pins σ' j s3/\RelV v u/\D.rt v j) (λ_ _=>False) s2) :
  wpAny (model X.prog X.w) X.A (handleBy (.ref ea) X.env (.ExceptHandler (↑(.Name x np)) (↑n) (acR::U) pos::rest)) (SP X pins D) X.xe s':=by
 have R:(X.A.mark<|↑(.ref ea)).frames=X.A.frames:=rfl;have t:=F.inv I;let(B,a0,V,hB):=F.fly;let(ob,hob,G):=V.there;refine wpAny_handleBy_cons (codeAny_handlers_test<|lg (tE t R) hg hm ?_ P) (by intro q;cases q);apply(W.exm_one t.kIn (λA Q E s2 k2 q=>wpAny_typeOf_ref (k2 _ _ hob) (by rw[G];exact q)) hx).here;refine codeAny_handlers_suite_as <| again I F λh2 p=>?_
 let(B2,a2,l,J):=p.fly;let(oe,vs,T,oT,ts,he,(S,_),c,_):=l.2.2.2;refine rf (v:=.ref ea) (p.inv I) hN hi (.inl g) rfl (λs2 I2 b=>?_) (.inr g);let(a,b,ha):=b;have L:a=X.env.locals:=by
  rcases ha with h|h
  .exact h
  .rw[M]at h;cases h
 subst L;have Z:ea≠X.env.locals:=λz=>by
  let(m,(o,es,ep,ho,hd,_),_):=(p.inv I).loc
  grind
 have e:ea∉j5 X.stack:=λz=>by
  let(_,o2,e2,d2):=l.2.2.1.mem z;have:=by rw[he]at e2;exact xC e2
  exact d2 vs<|this▸c
 have hno:H' ea=none:=by
  cases q:H' ea with
  |none=>rfl
  |some u =>
   let(o,eo):=J ea e<|.inl (by rw[q];simp);rw[l.2.1]at eo
   grind
 refine yZ (k s2 (tE I2 R) {{oe,vs,(b.2 ea Z).trans he,S,c},hno,e}) (λf s3 hz=>?_) λ_ _ z=>z.elim;let(u,v,σ',j,rfl,I3,r,d):=hz;have y:=DU t.ok I3;let(m3,Y,_):=y.loc;exact wpAny_nameGoes hl Y (by rw[y.ok.kind];rfl) λh' m' hns O=>{v,_,j,Dq y hns O,r,d}
abbrev gS(X:Cx)(p:Γ (Ψ×Obj))(x:Θ->Ξ->Prop):Cx:={X with pn:=p,xe:=x}
def Kv(o:X.Ok):(gS X pn xe).Ok:=
 {o.mod,o.kind,o.glob,o.blt,o.above,o.inj,o.has,o.cab,o.hd,o.frames,o.stk,o.exf,o.bs,o.bsz,o.abT,o.aca,o.aa0,o.frf}
def EL(I:Inv X pins σ H s)(h:∀p∈pn++pins',p∈X.pn++pins):Inv (gS X pn xe) pins' σ H s:=
 {Kv I.ok,I.os,I.bare,I.base,I.loc,I.cell,I.free,I.aax,λp P=>I.pin p<|h p P,I.hok,I.len}
def GF(o:X.Ok)(I:Inv (gS X pn xe) pins' σ H s)(h:∀p∈X.pn++pins,p∈pn++pins'):Inv X pins σ H s:=
 {o,I.os,I.bare,I.base,I.loc,I.cell,I.free,I.aax,λp P=>I.pin p<|h p P,I.hok,I.len}
def y8(X:Cx)(i:Nat)(k:Γ Ω)(c:Str)(d:D):Prop:=∀(n p:Γ (Ψ×Obj))(x:Θ->Ξ->Prop)(j:L2.St)(H:Hp)(s:Ξ)(e C:Ψ),X.mg c=↑(.ref C)->Inv (lI (gS X n x)<|X.A.mark<|↑(.ref e)) p j H s->j[i]?=↑(↑(.ref e)) ->
 ExcAt X.stack H s.heap e (.ref C)->wpAny (model X.prog X.w) (X.A.mark<|↑(.ref e)) (execs k X.env) (λf S=>∃u v b g,f=.ret u/\Inv (lI (gS X n x)<|X.A.mark<|↑(.ref e)) p b g S/\RelV v u/\∀F,aA F H->∃a,bo F H a g/\Rep X.K a d v) (λ_ _=>False) s
def SG:Ends:={λ_ _=>False,λ_ _=>False,λ_ _=>False,λ_ _=>False}
def Kq(z:SP X pins SG f s1):False:=by
 cases f with
 |next=>let(_,_,_,z):=z;exact z
 |brk=>let(_,_,_,z):=z;exact z
 |cont=>let(_,_,_,z):=z;exact z
 |ret u=>let(_,_,_,_,_,z):=z;exact z
def Fz(h:su X.nox body t):PS X (.Try body [.ExceptHandler (↑(.Name x np)) (↑n) (acR::abF) U] [] [] pos) (λD σ H=>t {SG with rt:=D.rt} σ H):=by
 refineλp s σ H D I q=>wpAny_Try_except<|yZ (h p s σ H _ (I.aa1 _) q) (λf S z=>?_) λ_ _ z=>z.elim;cases f with
 |next=>let(_,_,_,z):=z;exact z.elim
 |brk=>let(_,_,_,z):=z;exact z.elim
 |cont=>let(_,_,_,z):=z;exact z.elim
 |ret u=>exact SP.aaB z
def FG{tx:XK->TS}(hs:X.stack=X.env::X.outer)(hf:X.env.frame=↑X.env.locals)
  (hg:Gl X x)(hm:X.mg x=↑(.ref CF))(M:(x==("__debug__":Str))=false)(hN:X.N.Nodup)(hi:X.N[i]?=↑n)(hl:X.env.kindOf n=↑.local)(Q:X.env.scope.names.lookup n=↑.local)(L:X.env.cells.lookup n=none)
  (hx:∀Z xe E,bw (mX X.prog X.w) (gS X Z xe) E->su (gS X Z xe) body (tx E))(hC:X.mg c=↑(.ref C))(Y:W.exmOne X.K (.ref C) (.ref CF)=↑true)(V:y8 X i (acR::U) c d) :
  PS X (.Try body [.ExceptHandler (↑(.Name x np)) (↑n) (acR::U) ab5] [] [] pos) (λD σ H=>∃R:Hp->Prop,tx (λcls _ H'=>cls=.ref C/\R H') SG σ H/\∀H',R H'->∃HF',aA HF' H'/\∀v j g,bo HF' H' g j->Rep X.K g d v->D.rt v j):=by
 intro S s σ H D I ⟨R,ht,q⟩;refine wpAny_Try_except ?_;let T:Θ->Ξ->Prop:=λe y=>∃P b m t A H',e=.ref A/\Inv (gS X (X.pn++S) X.xe) P b m t/\Ht X.prog X.w X.stack m t (.ref C) A H' y/\R H';have l:bw (mX X.prog X.w) (gS X (X.pn++S) T) (λcls _ H'=>cls=.ref C/\R H'):=λP b m t e y a J=>by
  let(A,cls,H',rfl,F,rfl,G):=J;exact{P,b,m,t,A,H',rfl,{Kv I.ok,a.os,a.bare,a.base,a.loc,a.cell,a.free,a.aax,a.pin,a.hok,a.len},F,G}
 have hI:Inv (gS X (X.pn++S) T) [] σ H s:=EL I λp l=>by rwa[qD]at l
 refine yZ (hx _ _ _ l [] s σ H SG hI ht) (λf y z=>(Kq z).elim) λe y z=>?_;let(P,b,m,t,A,H',rfl,a,F,G):=z;let(HF',sm,q):=q H' G;refine land (X:=gS X (X.pn++S) X.xe) a hs hf F λh' F'=>?_;refine bZ (TL (X:=gS X (X.pn++S) X.xe) (D:={SG with rt:=D.rt}) a F' hg hm M Y hN hi hl Q L λs2 I2 O=>?_) λf s3 z=>?_
 .have o:i<b.length:=by rw[a.len];exact(List.getElem?_eq_some_iff.mp hi).1
  refine yZ (V _ _ _ _ _ _ _ C hC I2 (by simp[o]) O) (λf s3 z=>?_) λ_ _ z=>z;let(u,v,k,j,rfl,B,r,z):=z;let(g,g3,rp):=z HF' sm;exact{u,v,k,j,rfl,B,r,q v j g g3 rp}
 .cases f with
  |next=>let(_,_,_,z):=z;exact z.elim
  |brk=>let(_,_,_,z):=z;exact z.elim
  |cont=>let(_,_,_,z):=z;exact z.elim
  |ret u =>
   let(v,k,j,B,r,z):=z;exact{v,k,j,GF I.ok B λp l=>qG _ l,r,z}
structure Bz(P:Program)(w:World)(K:W.Frag)(mg:Str->Option Value)(base:Heap)(k:Nat)(x c:Str)(d:D):Prop where
 ex:∃ (f:Ψ) (fd:η) (ps:Γ Str),mg x=↑(.ref f)/\W.keepIn K (.ref f)=true/\Binds K fd ps []/\ps.length=1 /\
  ∀(A:ξ)(outer:Γ PySem.Env)(s:Ξ)(H:Hp)(args:Args)(ea C:Ψ),A.depth+3*k+5<recursionLimit->A.units+16*k+200<cLine->vz P w K mg base A outer s H->BindsTo s fd args (ps.zip [.ref ea])->mg c=↑(.ref C)->ExcAt outer H s.heap ea (.ref C) ->
   codeAny (model P w) A (.call (.ref f) args) (λr s'=>∃u,r=.ok (.ret u)/\CE outer P w H s (λv H'=>∀HF,aA HF H->∃HF',bo HF H HF' H'/\Rep K HF' d v) u s') s
def GN(R:Bz X.prog X.w X.K X.mg X.base k x c d)(D:cA k X.A)(Y:Gl X x)(b:(x=="__debug__")=false)(hi:X.N[i]?=↑n)(Z:X.env.kindOf n=↑.local)(g:X.env.scope.names.lookup n=↑.local)(vm:(n=="__debug__")=false) :
  y8 X i [.Return (↑(.Call (.Name x p) [.Name n U] [] cpos)) pos] c d:=by
 let(f,fd,ps,M,hk,T,L,run):=R.ex;intro pn P xe E H s e C S I j B;have V:∀{Q:Θ->Ξ->Prop},Q _ s->wpAny (model X.prog X.w) (X.A.mark<|↑(.ref e)) (eval (.Name n U) X.env) Q (λ_ _=>False) s:=λ{Q}q=>by
  let(m,hn,o):=I.loc;let(u,r,l):=o i n _ hi j<|.inl g;subst r;rcases l with ⟨hk,M⟩|⟨hk,_⟩
  .exact wA (vV I.ok.kind hk hn M q) vm
  .rw[Z]at hk;rcases hk with hk|hk<;>cases hk
 have y:wpAny (model X.prog X.w) (X.A.mark<|↑(.ref e)) (eval (.Call (.Name x p) [.Name n U] [] cpos) X.env) (EP (lI (gS X pn xe)<|X.A.mark<|↑(.ref e)) P E (λv G=>∀t,aA t H->∃F,bo t H F G/\Rep X.K F d v)) (λ_ _=>False) s:=by
  refine qU<|lg I Y M (W.callWith_K I.ok.mod.kin hk (jG<|V<|kE {I.kIn,(vG<|jP (run _ X.stack s H _ e C D.dp D.un I.aeW (by have:=T s [.ref e] I.kIn (by simp[L]);grind) S B) λr s' a=>?_)}) rfl rfl) b;let(u,rfl,a):=a;exact I.after a
 refine vC<|wpAny_Return_some<|yZ y (λu s3 z=>?_) λ_ _ z=>z;let(v,J,O,r,z):=z;exact{u,v,E,J,rfl,O,r,z}
open PySem PySem.W PySem.Spec PySem.Calls PyProof.Rows
section
variable {K:Frag}{x D:Ψ}
def Hw(X:K.In h)(H:findIn K (.ref D) name=↑(↑a))(G:specialIn K a "__get__"=↑(↑g))(ht:takesIn K a=↑true):Looks M h (Builtin.ObjectAttr.find self (.ref D) name) (.bind g a):=by
 apply(looks_findIn X H).andThen;apply(looks_specialIn X G).andThen;apply(show Looks M h (Builtin.ObjectAttr.dataDescriptor? (↑a)<|↑g) _ from(looks_takesIn X ht).andThen .now).andThen;exact .tag .now
def JO(X:K.In s.heap)(L:Looks (model prog w) s.heap (typeOf<|.ref x) (.ref D))(m:mroIn K D (.type "object")=↑true)
  (h:R (.ok<|.ret<|.ref D) s):codeAny (model prog w) A (.call (.builtin "getset_descriptor.__get__") {[.builtin "object.__class__",.ref x,U],[]}) R s:=by
 have I:Looks _ s.heap (isInstance _ _) true:=L.andThen<|looks_mroIn X m;refine vW KF.slot_gs.plain KF.entry_gs<|KF.slot_gs.check _ _ _ _ _ _ _ _ KF.type_class (KF.args_gs _ _ _)<|zV<|zW ?_;simp[Builtin.Getset_descriptor.descrGetter,Builtin.Getset_descriptor.descrCheckInstance,Builtin.Getset_descriptor.descrNameAndClass,KF.owner_class]
 repeat lk
 refine{wF _<|by decide +kernel,jZ KF.entry_class ?_}
 repeat lk
 omega
def HV(X:K.In s.heap)(u:s.heap.get? x=↑ox)(e:ox.cls=.ref D)(f:findIn K (.ref D) "__getattribute__"=↑(↑(.builtin "BaseException.__getattribute__")))(o:findIn K (.ref D) "__getattr__"=↑none)
  (p:findIn K (.ref D) "__class__"=↑(↑(.builtin "object.__class__")))(N:specialIn K (.builtin "object.__class__") "__get__"=↑(↑(.builtin "getset_descriptor.__get__")))(k:takesIn K (.builtin "object.__class__")=↑true)(r:mroIn K D (.type "object")=↑true)(B:subIn K (.ref D) (.type "BaseException")=↑true)
  (h:Q (↑(.ref D)) {s with toks:=s.toks+1}):wpAny (model prog w) A (getAttr? (.ref x) "__class__") Q E s:=by
 let(H,g,d,t,O):=s;have L:Looks (model prog w) H (typeOf<|.ref x) (.ref D):=e▸(Looks.ld u).andThen .now;have m:=looks_findIn (M:=model prog w) X f;have L2:=looks_findIn (M:=model prog w) X o;have n:=Hw (M:=model prog w) (self:=.ref x) X p N k;have I:Looks (model prog w) H (isInstance (.ref x)<|.type "BaseException") true:=L.andThen<|looks_subIn X B;unfold getAttr? getAttrBy? getAttrBy;refine zV<|wpAny_mkText<|zV<|kM<|xW<|zV<|L.at<|zV<|m.at ?_;have i:(Value.builtin "BaseException.__getattribute__"==Value.builtin "object.__getattribute__")=false:=by decide +kernel
 simp?[i,kR,yN,qL];unfold getAttrByItsOwn hookBefore;refine zV ?_;show wpAny _ _ (typeLookup (.ref D) "__getattr__") _ _ _;refine L2.at ?_;refine zV<|kM<|xW ?_;show wpAny _ _ (boundAndCalled (.builtin "BaseException.__getattribute__") (.ref x)<|.str "__class__" t) _ _ _;unfold boundAndCalled;refine zV<|wpAny_of_eq (F.attr_ValueError.ga.bind<|.ref x) ?_;refine vG<|vW F.attr_ValueError.ga.plain F.entry_bexc_ga ?_;have hk:builtinKind "BaseException.__getattribute__"=↑.slot:=by decide +kernel
 have a:splitId "BaseException.__getattribute__"=↑("BaseException","__getattribute__"):=by decide +kernel
 simp?[checkBuiltinCall,hk,a];refine zV<|I.at ?_;simp?[xX,yN,qL];have l:argsOk "BaseException.__getattribute__" {[.ref x]++[.str (Str.ofString "__class__") t],[]}:=F.args_bexc_ga _ _;have body:∀{P:Fin->Ξ->Prop}{j:Θ->Ξ->Prop},P (.done<|.ret<|.ref D) {H,g,d,t+1,O}->wpAny (model prog w) A.in1 (Builtin.«object.__getattribute__» {[.ref x]++[.str (Str.ofString "__class__") t],[]}) P j {H,g,d,t+1,O}:=λ{P j}q=>by
  unfold Builtin.«object.__getattribute__»;refine zV<|zW ?_;refine zV<|zW ?_;refine zV<|L.at ?_;refine zV<|n.at ?_;show wpAny _ _ (holding [.builtin "object.__class__"] (call (.builtin "getset_descriptor.__get__") [.builtin "object.__class__",.ref x,.ref D]) >>= ret) _ _ _;exact zV<|xW<|vG<|JO (s:={H,g,d,t+1,O}) X L r<|zW q
 cases b:Manifest.signature? "BaseException.__getattribute__"with
 |none=>exact zW (body<|handed_on rfl (zW h))
 |some S =>
  have c:Bind.checkArgs "BaseException.__getattribute__" S {[.ref x]++[.str (Str.ofString "__class__") t],[]}=pure ():=by simpa only[argsOk,b]using l
  simp?[c];exact zW<|body<|handed_on rfl (zW h)
structure OD(K:Frag)(C:Addr):Prop where
 ga:findIn K (.ref C) "__getattribute__"=↑(↑(.builtin "BaseException.__getattribute__"))
 no:findIn K (.ref C) "__getattr__"=↑none
 cl:findIn K (.ref C) "__class__"=↑(↑(.builtin "object.__class__"))
 hn:specialIn K (.builtin "object.__class__") "__get__"=↑(↑(.builtin "getset_descriptor.__get__"))
 tk:takesIn K (.builtin "object.__class__")=↑true
 ob:mroIn K C (.type "object")=↑true
 be:subIn K (.ref C) (.type "BaseException")=↑true
 ci:(clsIn K C).isSome=true
def J0(k:OD K D):KitX K (.ref x) (.ref D) (λh=>h.get? x=↑ox/\ox.cls=.ref D) where
 ty:=λ_ _ _ p=>p.2▸(Looks.ld p.1).andThen .now
 it:=λ_ _ X _=>by
  have hc:=k.ci;unfold clsIn at hc;split at hc
  .rename_i o;intro A Q E s P q;unfold isType loadHead;exact zV<|wpAny_loadPart (P _ _<|X _ _ o)<|zW q
  .cases hc
 ne:=λh t d i n l X H=>by
  have hc:=k.ci;refine Bool.eq_false_iff.mpr λq=>?_;have e:D=t:=Value.ref.inj<|beq_iff_eq.mp q;subst e;unfold clsIn at hc;split at hc
  .rename_i o;have z:=(X _ _ o).symm.trans H;cases z
  .cases hc
 ca:=λX p q=>HV X p.1 p.2 k.ga k.no k.cl k.hn k.tk k.ob k.be q
def Ee(k:OD K D)(X:K.In s.heap)(o:s.heap.get? x=↑ox)(hc:ox.cls=.ref D)(e:kitOne K (.ref D) c=↑b)(h:∀t,Q (.bool b) {s with toks:=t}) :
  wpAny (model prog w) A (call (.builtin "isinstance") [.ref x,c]) Q E s:=kia_one (J0 k) X {o,hc} e (λz=>nomatch z) h
end
abbrev C6(A:ξ):ξ:={A with handled:=none}
abbrev Fh(P:ε)(w:δ)(K:Φ)(m:Str->Δ Θ)(base:ι)(N:Γ Str)(q:Str)(scope:ζ)(f:Ψ)(c:Θ)(A:ξ)(o:Γ PySem.Env)(s:Ξ)(H:Hp)(p:Γ (Ψ×Obj)):Cx:=
 gS (lI (qp rO P w K m base N q scope f c (C6 A) o s H E0)<|A.deeper<|envOfC q scope s.heap.objs.size f c) p λ_ _=>False
section
variable {K:Φ}
def HM{C:Ψ}{st:Ω}(F:zv K x qual st f fd)(S:aZ N ps (ah st))(G:ps.length=1)
  (j:A.depth<recursionLimit)(E:vz P w K mg base A outer s H)(L:BindsTo s fd args (ps.zip [.ref ea]))(O:s.heap.get? ea=↑ob)(M:ob.data=.fields vs)(U:H ea=none)(T:ea∉j5 outer)
  (body:∀(c:Θ)(a:Ξ),Inv (Fh P w K mg base N qual (ah st) f c A outer s H [(ea,ob)]) [] (L2.start N [.ref ea]) H a ->
   wpAny (model P w) (A.deeper<|envOfC qual (ah st) s.heap.objs.size f c) (execs (aH st)<|envOfC qual (ah st) s.heap.objs.size f c) (λfl s'=>∃u v σ' H',fl=.ret u/\Inv (Fh P w K mg base N qual (ah st) f c A outer s H [(ea,ob)]) [] σ' H' s'/\RelV v u/\Q v H') (λ_ _=>False) a) :
  codeAny (model P w) A (.call (.ref f) args) (λr s'=>∃u,r=.ok (.ret u)/\CE outer P w H s Q u s') s:=by
 let(oc,od,kV,B,pm,an,c,ct,osl,rfl,Z,D):=F.ex;have X:K.In s.heap:=E.mod.kin.keeps λb o e=>(E.bs b o e).1;have l:s.heap.NoLimit:=E.mod.nolimit.keeps λb o e=>(E.bs b o e).1;have g:∀y∈ps.zip [Value.ref ea],(ah st).names.lookup y.1=↑.local \/ ((ah st).names.lookup y.1=↑.cell/\((cellsFrom (s.heap.objs.size+1) (ah st).names []).lookup y.1).isSome=true):=λz Y=>by
  let(n,v):=z
  rcases S.par n (vP Y).1 with q|q
  .exact .inl q
  .exact .inr {q,W.cellsFrom_some _ _ _<|.inl q}
 refine codeAny_call_function j (X _ _ Z) rfl S.co S.gen rfl (W.codeRec_of X D) (L _ _ _ _ ?_);refine wpAny_newFunctionEnv_cells S.kind g λV R a x=>?_;subst R;refine{l.keeps x.toInCall.keep,codeAny_func ?_};have i:vz P w K mg base (C6 A) outer s H:={E.frames,E.mod,E.bs,E.bsz,E.aa0,E.frf,E.hok,E.bare}
 have I:Inv (qp rO P w K mg base N qual (ah st) f c (C6 A) outer s H E0) [] (L2.start N [.ref ea]) H a:=xv S rfl i (by simp[G]) (.cons rfl .nil) x;have t:ea<s.heap.objs.size:=zY O;have k:=I.abG (pins':=[(ea,ob)]) λp d=>by
  have d:p=(ea,ob):=by simpa using d
  subst d;exact{x.toInCall.keep _ _ O,U,yQ t,T,λv z=>by rw[M]at z;cases z}
 have m:Inv (Fh P w K mg base N qual (ah st) f c A outer s H [(ea,ob)]) [] (L2.start N [.ref ea]) H a:=EL (tE k rfl) λp d=>yE _ (by simpa using d);refine yZ (body c a m) (λfl s' z=>?_) λ_ _ z=>z.elim;let(u,v,σ',H',rfl,J,r,q):=z;exact{u,rfl,v,H',J.os,J.bare,J.base,J.hok,r,q}
end
def TU{i:Nat}{n y:Str}{ea C:Ψ}{O:Obj}{c:Θ}{b:θ}{p P p2 pos:Pos}(k:OD X.K C)(g:(ea,O)∈X.pn)(a:O.cls=.ref C)(d:Gl X "isinstance")(f:X.mg "isinstance"=none)(hi:X.N[i]?=↑n)(L:X.env.kindOf n=↑.local)(j:X.env.scope.names.lookup n=↑.local)(vm:(n=="__debug__")=false)
  (Y:∀{pins:Γ _}{σ:L2.St}{H:Hp}{s:Ξ}{Q:Θ->Ξ->Prop},Inv X pins σ H s->Q c s->wpAny (model X.prog X.w) X.A (eval (.Name y p2) X.env) Q X.xe s)(e:W.kitOne X.K (.ref C) c=↑b) :
  PE X (.Call (.Name "isinstance" p) [.Name n P,.Name y p2] [] pos) (λσ H Q=>σ[i]?=↑(↑(.ref ea))/\Q (.bl b) H):=by
 intro pins s σ H Q I ⟨t,q⟩;have v:∀{Q:Θ->Ξ->Prop},Q _ s->wpAny (model X.prog X.w) X.A (eval (.Name n P) X.env) Q X.xe s:=λ{Q}q=>by
  let(m,x,o):=I.loc;let(u,r,l):=o i n _ hi t<|.inl j;subst r;rcases l with ⟨hk,M⟩|⟨hk,_⟩
  .exact wA (vV I.ok.kind hk x M q) vm
  .rw[L]at hk;rcases hk with hk|hk<;>cases hk
 exact qU<|kr I d f (by rfl)<|PyProof.Rows.callWith_builtin1 (jG<|v<|jG<|Y I<|kE<|Ee k I.kIn ((I.pin _<|qG _ g).1) a e λT=>{.bl b,H,I.tok T,rfl,q}) rfl rfl
def O4(d:D)(xs:Γ D):Nat:=xs.countP λx=>PyData.eqv x d
def G0(E:X.A.units+66<cLine):Rx X "list.count" (λx vs H Q=>∃ (HF:Hp) (ds:Γ D) (d:D) (y:V),aA HF H/\Rep X.K HF (.list ds) x/\vs=[y]/\Rep X.K HF d y/\SeqAt.shaped d=true/\SeqAt.shaped (.list ds)=true/\Q (.int<|O4 d ds) H):=by
 intro p s J H x vs v G Q I t k h;let(HF,ds,d,y,sm,r1,rfl,r,e,L,q):=h;let(u,rfl,U):=k.one;let(S,R):=cQ I sm r1 t;let(bs,B):=cQ I sm r U;have c2:=kF L;have z:=SeqAt.depth_of_shaped e;have m:=Nat.min_le_right (PyData.depthAll ds) d.depth;cases R with
 |list b g j c =>
  rename_i l o i n S;let(C,f,a,w):=o;subst g j;refine qT F.slot_list_count {_,b,rfl} F.entry_list_count (F.args_list_count_2 _ _) (PySem.SeqAt.list_countAt l i n f w u λy=>PyData.eqv (SeqAt.readOf s.heap y) d) {b,(SeqAt.items_eqAt c B c2 (kF e)<|by lia),?_}
  .refine{.int _,H,I.tok _,{s.toks,?_},q};rw[O4,<-(SeqAt.readsAll_map _ _ _ c2 c),List.countP_map];rfl
def mO(X:Cx)(ea:Ψ)(es:Γ γ)(bs:Γ θ):Prop:=PA X es λa H Q=>a[0]?=↑(↑(.ref ea))/\Q (bs.map V.bl) H
def TF:mO X ea [] []:=λP p s a H Q I z=>by let(_,q):=z;exact bJ P p s a H Q I q
def Qu{bs:Γ θ}(h:PE X e (λσ H Q=>σ[0]?=↑(↑(.ref ea))/\Q (.bl b) H))(r:mO X ea es bs)(s:starEach (e::es) X.env=(false,eval e X.env)::starEach es X.env:=by rfl):mO X ea (e::es) (b::bs):=
 iV (aL h r s) λσ H Q z=>by let(a,q):=z;exact {a,a,q}
def fU{K:Φ}:∀bs:Γ θ,aw K H (bs.map PyData.bool) (bs.map V.bl)
 |[]=>rfl
 |b::bs=>{_,_,rfl,rfl,fU bs}
def oh(bs:Γ θ):SeqAt.shaped (.list<|bs.map PyData.bool)=true:=by
 have h:∀bs:Γ θ,PyData.canLayAll0 (bs.map PyData.bool)=true/\PyData.depthAll (bs.map PyData.bool)<=1:=λbs=>by
  induction bs with
  |nil=>exact{by rfl,by simp[PyData.depthAll]}
  |cons b bs i=>exact{by simp[PyData.canLayAll0,PyData.canLay0,i.1],by simp[PyData.depthAll,PyData.depth];lia}
 have:=h bs;rw[SeqAt.shaped,zF];exact{by simp[PyData.canLay0,this.1],by simp[PyData.depth];lia}
def La{a1 a2 a3 b6:Pos}(M:X.A.units+66<cLine)(L:X.N=[("_law_e":Str),("_law_flags":Str)])(l:X.env.scope.names.lookup ("_law_flags":Str)=↑.local)
  (R:mO X ea es1 I)(S:mO X ea es2 U)(W:PE X e6 (λσ H Q=>σ[0]?=↑(↑(.ref ea))/\Q (.bl true) H))(w6:∀whole,isTrue e6 X.env whole=(do let v <- whole;standAt e6.pos;holding [v]<|truthy v))
  (hc:O4 (.bool true) ((I++U).map PyData.bool)=1)(Y:Dh (.bool true) ((I++U).map PyData.bool)=↑j)(Z:I.length+U.length<=sizeLine)(l1:(c2.endLine==c4.line)=true)(l2:(d2.endLine==d4.line)=true) :
  su X [.Assign [.Name "_law_flags" a1] (.List es1 a2) a3,.Assign [.Name "_law_flags" b1] (.BinOp (.Name "_law_flags" b2) .Add (.List es2 b3) b4) b5,
   .If (.BoolOp .Or [.Compare (.Call (.Attribute (.Name "_law_flags" c1) "count" c2) [.Constant (.bool true) i1 c3] [] c4) [.NotEq] [.Constant (.int 1) i2 c5] c6,.UnaryOp .Not e6 c7] c8) bad [] c9,
   .Return (↑(.Tuple [.Constant (.str "refused") i3 d1,.Call (.Attribute (.Name "_law_flags" d3) "index" d2) [.Constant (.bool true) i4 d5] [] d4] k1 d6)) d7]
   (λD σ H=>σ.length=2/\σ[0]?=↑(↑(.ref ea))/\∀v H',(∀HF,aA HF H->∃HF',bo HF H HF' H'/\Rep X.K HF' (.tuple [.str "refused",.int j]) v)->D.rt v H'):=by
 have vm:X.N.Nodup:=by rw[L];decide
 have g:X.N[1]?=↑("_law_flags":Str):=by rw[L];rfl
 have C:Loc X.env.scope ("_law_flags":Str):=.inl l;have J:pM X.env.scope ("_law_flags":Str):=.inl l;have T:su X bad (λ_ _ _=>False):=λ_ _ _ _ _ _ z=>z.elim;have p1:=lb (pos':=a1) (pos:=a3) vm g C (Ek (pos:=a2) R) rfl (.inr l);have p2:=lb (pos':=b1) (pos:=b5) vm g C (EF (pos:=b4) vj (aY (pos:=b2) g J)<|Ek (pos:=b3) S) rfl (.inr l);have P:=rY (pos:=c9) (PW.pt<|Q9 (pos:=c8) (sN (pos:=c6) XM (pq (apos:=c2) (cpos:=c4) qK PySem.F.slot_list_count PySem.F.type_list_count (G0 M) (aY (pos:=c1) g J) (aL (Lb (b:=true) (j:=i1) (pos:=c3)) bJ) rfl rfl l1) (Ep (i:=1) (j:=i2) (pos:=c5))<|My _ (by decide)<|by decide)<|Ku (pos:=c8)<|JL (pos:=c7)<|LK W w6) T j1;have d:=lJ (pos:=d7)<|zk (x1:=k1) (pos:=d6)<|aL (KL (x:="refused") (j:=i3) (pos:=d1))<|aL (pq (apos:=d2) (cpos:=d4) qK PySem.F.slot_list_index PySem.F.type_list_index (HA M) (aY (pos:=d3) g J) (aL (Lb (b:=true) (j:=i4) (pos:=d5)) bJ) rfl rfl l2) bJ;refine kn (cP p1<|cP p2<|cP P<|cP d j1) λD σ H z=>?_;let(n,B,q):=z;refine{B,by rw[zD];lia,λp hp=>?_};have s1:∀v:V,(σ.set 1<|↑v)[1]?=↑(↑v):=λv=>by simp[n]
 have s0:∀v:V,(σ.set 1<|↑v)[0]?=↑(↑(.ref ea)):=λv=>by simp[B]
 refine{.ref p,s1 _,s0 _,by rw[zD];lia,λp2 c=>{p,p2,I.map V.bl,U.map V.bl,rfl,rfl,.inl<|.inl ?_,.inl<|.inl av,by rw[zD,zD];exact Z,λP G=>?_}}
 .rw[ar (λz=>by rw[z]at c ;rw[av]at c;cases c)];exact av
 have O:∀v w:V,((σ.set 1<|↑w).set 1<|↑v)[1]?=↑(↑v):=λv w=>by simp[n]
 have t0:∀v w:V,((σ.set 1<|↑w).set 1<|↑v)[0]?=↑(↑(.ref ea)):=λv w=>by simp[B]
 let f:Hp:=upd (upd (upd H p<|.lst<|I.map V.bl) p2<|.lst<|U.map V.bl) P<|.lst<|I.map V.bl++U.map V.bl;have m:aA H f:=λb o e=>by
  have n1:b≠p:=λz=>by rw[z,hp]at e;cases e
  have r:upd H p (.lst<|I.map V.bl) b=↑o:=by rw[ar n1];exact e
  have n2:b≠p2:=λz=>by rw[z,c]at r;cases r
  have y:upd (upd H p<|.lst<|I.map V.bl) p2 (.lst<|U.map V.bl) b=↑o:=by rw[ar n2];exact r
  have n3:b≠P:=λz=>by rw[z,G]at y;cases y
  show upd _ P _ b=↑o;rw[ar n3];exact y
 have s:iL X.K f P ((I++U).map V.bl):=by
  rw[qX];exact .inl<|.inl av
 have k:Rep X.K f (.list<|(I++U).map PyData.bool) (.ref P):={P,_,rfl,s,fU _}
 have t:SeqAt.shaped (.bool true)=true:=by decide
 refine{.ref P,O _ _,.inl {rfl,_,s},f,_,.bool true,.bl true,.refl _,k,rfl,rfl,t,oh _,?_};rw[hc];refine{rfl,?_};refine{false,rfl,?_};refine lK ?_;refine{t0 _ _,true,rfl,?_};refine lK ?_;refine{.ref P,O _ _,.inl {rfl,_,s},f,_,.bool true,.bl true,j,.refl _,k,rfl,rfl,t,oh _,by rw[zD,zN];exact Z,Y,(show 2<=sizeLine by decide),λd a=>?_};have a:f d=none:=a;refine q (.ref d) _ λHF sm=>{upd HF d<|.tup [.str "refused",.int j],{λb o e=>?_,λb o e=>?_,λb o e=>?_,λb o e=>?_},d,_,rfl,.inl<|.inl av,?_}
 .have E:=m b o e;rw[ar (λz=>by rw[z,a]at E;cases E)];exact E
 .have E:=m b o<|sm b o e;rw[ar (λz=>by rw[z,a]at E;cases E)];exact e
 .by_cases z:b=d
  .subst z;rw[av]at e ⊢;exact e
  .rw[ar z]at e ⊢;exact m b o<|sm b o e
 .by_cases z:b=d
  .subst z;refine .inr ?_;cases w:H b with
   |none=>rfl
   |some u=>have:=m b u w;rw[a]at this;cases this
  .rw[ar z]at e;exact .inl e
 .exact{_,_,rfl,rfl,_,_,rfl,rfl,rfl}
open PySem L2 Dl PySem.Spec PyProof.Rows Rf
abbrev XE:=Dl.Env->Δ Str
abbrev XS:=aq->Δ Str
abbrev XT:=Γ<|Str×Nat×(Γ D->Δ Str)
def Qk:XE:=λ_=>none
def qw:XS:=λ_=>none
def uV(x:XE):XS:=λa=>x<|aI a
def Vp(c:Str):XS:=λ_=>↑c
def m9(x:XS)(g:GS)(xr:XS):XS:=λa=>match x a with
 |some c=>↑c
 |none=>On g xr a
def sd(P:ε)(w:δ)(K:Φ)(g:Str->Δ Θ)(base:ι)(j:Nat)(l:XT):Prop:=∀x n m,l.lookup x=↑(n,m)->Lg P w K g base j x n m
def Vi(f:XT)(sc:ζ)(T:Tr)(x:Str)(a:γ)(s:Γ γ):Δ XE:=match f.lookup x with
 |some (m,xm)=>if(pN sc x&&((a::s).all λe=>!isStar e)&&!(x==("__debug__":Str)))=true then(AO T (a::s)).map λfs=>FU m xm fs else none
 |none=>none
def Uk(l:E8 X E a U):E8 X E (.Subscript a b pos) U:=λp s c H Q I h=>PyProof.Rows.Subscript_<|bZ (l p s c H (λ_ _=>False) I h) λu S ⟨_,_,_,_,z⟩=>z.elim
def Z6(f:Dl.Env->Δ D)(x:XE):XE:=λa=>(f a).bind λ_=>x a
def UM{xm:Γ D->Δ Str}(F:Lg X.prog X.w X.K X.mg X.base k x n xm)(R:cA k X.A)(O:bw (mX X.prog X.w) X E)(M:Gl X x)(I:DE X.nox a f)(J:E8 X E b U)(i:(x==("__debug__":Str))=false)
  (m:starEach [a,b] X.env=(false,eval a X.env)::starEach [b] X.env)(j:starEach [b] X.env=(false,eval b X.env)::starEach [] X.env)(L:(backTo pos<|starEach [b] X.env).any (·.1)=false):E8 X E (.Call (.Name x p) [a,b] [] pos) (Z6 f U):=by
 let(T,V,W,P,N,hk,B):=F.ex;refine aE (j6 P R M N hk B .nil O (aL (.nox I) (aL J bJ j) m) i m L) λY H Q z=>?_;let(y,s,c,C,sm,o,l,hc,q):=z;let(d,z,l):=bs l;exact{y,s,d,sm,o,z,λv S e G r=>{e,s,c,C,G.fh,o.mono G.ff,l,hc,λu g t=>q u g<|G.trans t}}
def Su:γ->θ
 |.Subscript ..=>true
 |_=>false
def QE(F:XT)(sc:ζ)(T:Tr)(r:γ->Δ XE)(x:Str)(a:γ)(s:Γ γ):Δ XE:=match s with
 |[b]=>if(pN sc x&&(!isStar a&&!isStar b)&&!(x==("__debug__":Str))&&Su b&&(F.lookup x).isSome)=true then(T.e a).bind λf=>(r b).map λX=>Z6 f X else none
 |_=>none
def Bv(F:XT)(sc:ζ)(N:Γ Str)(T:Tr):Nat->γ->Δ XE
 |0,_=>none
 |n+1,e=>match e with
  |.Call (.Name x _) (a::s) [] _=>(match QE F sc T (Bv F sc N T n) x a s with
   |some f=>↑f
   |none=>Vi F sc T x a s)
  |.Subscript b _ _=>Bv F sc N T n b
  |.IfExp c a b _=>(T.t c).bind λt=>match Bv F sc N T n a,Bv F sc N T n b with
   |none,none=>none
   |X,B=>↑(Xv t (X.getD Qk)<|B.getD Qk)
  |_=>none
def nG(f:Ω->Δ XS)(tS:Ω->Δ GS):Γ Ω->Δ XS
 |[]=>none
 |s::r=>match f s,nG f tS r with
  |none,none=>none
  |some x,none=>↑x
  |none,↑X=>(tS s).map λg=>On g X
  |some x,↑X=>match tS s with
   |some g=>↑(m9 x g X)
   |none=>↑x
def EU(l:Γ Str)(f:XT)(sc:ζ)(N:Γ Str)(T:Tr)(tS:Ω->Δ GS):Nat->Ω->Δ XS
 |0,_=>none
 |n+1,st=>match st with
  |.Return (↑e) _=>(Bv f sc N T 4 e).map uV
  |.Expr e _=>if Az e=true then(Bv f sc N T 4 e).map uV else none
  |.Assign [.Name x _] e _=>(N.idxOf? x).bind λi=>if(lE N sc i x&&!iX e)=true then(Bv f sc N T 4 e).map uV else none
  |.If c a b _=>(T.t c).bind λt=>match nG (EU l f sc N T tS n) tS a,nG (EU l f sc N T tS n) tS b with
   |none,none=>none
   |X,B=>↑(MR t (X.getD qw)<|B.getD qw)
  |.Raise (↑(.Call (.Name x _) [.Constant (.str _) _ _] [] _)) none _=>if(l.contains x&&pN sc x&&!(x==("__debug__":Str)))=true then↑(Vp x)else none
  |_=>none
section
variable {tS:Ω->Δ GS}
def W6:E8 X E e Qk:=λp s b H Q I z=>by let(F,a,c,C,_,_,h,_):=z;cases h
def VU{st:Γ Ω}:IG X E aaa aab st qw:=λp s b H Q I z=>by let(F,a,c,C,_,h,_):=z;cases h
def Dc(C:Bk X.nox N sc k)(O:bz X.nox T)(b:sd X.prog X.w X.K X.mg X.base k fx)(H:bw (mX X.prog X.w) X E)(h:Vi fx sc T x a as=↑I):E8 X E (.Call (.Name x p) (a::as) [] pos) I:=by
 unfold Vi at h;split at h
 .rename_i m xm l;split at h
  .rename_i hc;simp?[zF]at hc;let(fs,s,rfl):=af h;have t:isStar a=false/\(as.all λe=>!isStar e)=true:=by
    have:=hc.1.2;rw[xR,zF]at this;exact{by simpa using this.1,this.2}
   exact Nk (b x m xm l) C.room H (C.gl hc.1.1) (dO O s) (by simpa using hc.2) (aQ<|by simpa using t.1)<|bP t.2
  .cases h
 .cases h
def gG(C:Bk X.nox N sc k)(B:Bn X)(O:bz X.nox T)(a:sd X.prog X.w X.K X.mg X.base k fx)(p:bw (mX X.prog X.w) X E):∀(n:Nat){e:γ}{F:XE},Bv fx sc N T n e=↑F->E8 X E e F
 |0,e,F,h=>by cases h
 |n+1,e,F,h=>by
  have i:∀{e:γ}{o:Δ XE},Bv fx sc N T n e=o->E8 X E e (o.getD Qk):=λ{e o}h=>by
   cases o with
   |none=>exact W6
   |some x=>exact gG C B O a p n h
  unfold Bv at h;split at h
  .split at h
   .rename_i f H;cases h;unfold QE at H;split at H
    .split at H
     .rename_i hc;simp?[zF,yO]at hc;obtain⟨⟨⟨⟨d,g,c⟩,j⟩,s⟩,l⟩:=hc;let(r,A,H):=bs H;let(q,b,rfl):=af H;let((m,xm),L):=Option.isSome_iff_exists.mp l;exact UM (a _ _ _ L) C.room p (C.gl d) (O.e _ _ A) (gG C B O a p n b) j (aQ g) (aQ c) (by rw[aQ c];rfl)
     .cases H
    .cases H
   .exact Dc C O a p h
  .exact Uk<|gG C B O a p n h
  .let(t,ht,h):=bs h;split at h
   .cases h
   .cases h;exact V3 (O.t _ _ ht) (i rfl)<|i rfl
  .cases h
def O2{st:Ω}(d:DX X E aaa aab st U)(e:DS X.nox aaa aab st g)(f:IG X E aaa aab rest xr):IG X E aaa aab (st::rest) (m9 U g xr):=λp s b H D I z=>by
 let(F,a,c,C,S,x,hc,q):=z
 unfold m9 at x;split at x
 .rename_i j i;cases x;exact ua d p s b H D I {F,a,c,C,S,i,hc,q}
 .exact BR e f p s b H D I {F,a,c,C,S,x,hc,q}
def hZ(F:∀s x,f s=↑x->DX X E aaa aab s x)(ht:∀s g,tS s=↑g->DS X.nox aaa aab s g):∀{l:Γ Ω}{x:XS},nG f tS l=↑x->IG X E aaa aab l x
 |[],x,h=>by cases h
 |s::r,x,h=>by
  have i:=λx=>hZ F ht (l:=r) (x:=x);unfold nG at h;split at h
  .cases h
  .rename_i H a;cases h;exact ua<|F _ _ H
  .rename_i H a;let(g,G,rfl):=af h;exact BR (ht _ _ G)<|i _ a
  .rename_i H a;split at h
   .rename_i g G;cases h;exact O2 (F _ _ H) (ht _ _ G)<|i _ a
   .cases h;exact ua<|F _ _ H
def ClR(X:Cx)(E:XK)(aaa:Hp)(aab:Hq)(l:Γ Str):Prop:=∀x∈l,Gl X x->(x==("__debug__":Str))=false->∀(n c s p:Pos)(t:Str)(i:Nat),DX X E aaa aab (.Raise (↑(.Call (.Name x n) [.Constant (.str t) i p] [] c)) none s)<|Vp x
def tq(C:Bk X.nox N sc k)(B:Bn X)(O:bz X.nox T)(a:sd X.prog X.w X.K X.mg X.base k fx)(p:bw (mX X.prog X.w) X E)(r:ClR X E aaa aab cl)(ht:∀s g,tS s=↑g->DS X.nox aaa aab s g):∀(n:Nat){st:Ω}{x:XS},EU cl fx sc N T tS n st=↑x->DX X E aaa aab st x
 |0,st,x,h=>by cases h
 |n+1,st,x,h=>by
  have I:∀{l:Γ Ω}{o:Δ XS},nG (EU cl fx sc N T tS n) tS l=o->IG X E aaa aab l (o.getD qw):=λ{l o}h=>by
   cases o with
   |none=>exact VU
   |some x=>exact hZ (λs x h=>tq C B O a p r ht n h) ht h
  unfold EU at h;split at h
  .let(F,f,rfl):=af h;exact Sn<|gG C B O a p 4 f
  .split at h
   .rename_i hc;let(F,f,rfl):=af h;refine Sv (gG C B O a p 4 f) ?_;rename_i e P;cases e<;>first|rfl|cases hc
   .cases h
  .let(i,c,h):=bs h;split at h
   .rename_i L;simp?[zF,yO]at L;let(F,f,rfl):=af h;let(z1,z2,z3,z4):=C.loc L.1;exact bp (lb z1 z2 z3 (gG C B O a p 4 f) (d0 L.2) z4) λD d H q=>Lv q
   .cases h
  .let(t,b,h):=bs h;split at h
   .cases h
   .cases h;exact WM (O.t _ _ b) (I rfl)<|I rfl
  .split at h
   .rename_i hc;simp?[zF,yO]at hc;cases h;exact r _ (List.contains_iff_mem.mp hc.1.1) (C.gl hc.1.2) hc.2 _ _ _ _ _ _
   .cases h
  .cases h
end
abbrev tXW(st:Ω)(N:Γ Str)(S:Sg)(f:XT)(c:Γ Str):Δ XS:=nG (EU c f (ah st) N (tr S 40 none (ah st) N) (Du (ah st) N (tr S 40 none (ah st) N) 40) 10) (Du (ah st) N (tr S 40 none (ah st) N) 40)<|aH st
def LM(K:Φ)(m:Str->Δ Θ)(l:Γ Str):Prop:=∀c∈l,∃C:Ψ,m c=↑(.ref C)/\W.excIn K C MI "ValueError.__new__"=true
section
variable {K:Φ}
def Xr(C:Bk X.nox N sc j)(B:Bn X)(f:m5 X.prog X.w X.K X.mg X.base j fs)(hi:i8 X.mg is)(H:sd X.prog X.w X.K X.mg X.base j fx)(p:bw (mX X.prog X.w) X E)(r:ClR X E aaa aab cl)
  (t:nG (EU cl fx sc N (tr ⟨fs,is⟩ 40 none sc N) (Du sc N (tr ⟨fs,is⟩ 40 none sc N) 40) 10) (Du sc N (tr ⟨fs,is⟩ 40 none sc N) 40) l=↑xg):IG X E aaa aab l xg:=by
 have O:bz X.nox (tr ⟨fs,is⟩ 40 none sc N):=uo (G:=⟨fs,is⟩) 40 C {f,hi,B} (yL j) λq z=>by cases z
 have ht:∀s g,Du sc N (tr ⟨fs,is⟩ 40 none sc N) 40 s=↑g->DS X.nox aaa aab s g:=λs g h=>qd C B O 40 h;exact hZ (λs x h=>tq C B O H p r ht 10 h) ht t
def YM{st:Ω}(D:Dd K mg x st ps)(B:∀x∈dk,mg x=none)(q:m5 P w K mg base j S.fn)(hi:i8 mg S.int)(r:sd P w K mg base j fx)(hc:LM K mg cl)(t:tXW st N S fx cl=↑xg)(F:aZ N ps (ah st):=by exact Rf.XX):Lg P w K mg base (j+1) x ps.length (CA xg N.length):=by
 let(f,z,M,u,n):=D.ex;refine fnX u F n M λX E g hw k m b C a hk y H=>?_;subst g;subst hw;subst k;subst m;subst b;exact Xr C B q hi r hk.pass (λc l G o I s v p t i=>by
  let(A,d,e):=hc c l;exact JX hk a G d e o) t
def Y6:sd P w K mg base j []:=λ_ _ _ h=>by cases h
def xm(F:Lg P w K mg base i x n m)(h:sd P w K mg base j l)(e:i<=j:=by decide):sd P w K mg base j ((x,n,m)::l):=λy N M E=>by
 rw[yB]at E;cases q:y==x with
 |true=>rw[q]at E;cases E;rw[eq_of_beq q];exact F.mono e
 |false=>rw[q]at E;exact h y N M E
end
def V1(K:Φ)(C:Ψ):θ:=W.findIn K (.ref C) "__getattribute__"==some (↑(.builtin "BaseException.__getattribute__"))&&(W.findIn K (.ref C) "__getattr__"==some none)&&(W.findIn K (.ref C) "__class__"==some (↑(.builtin "object.__class__")))&&(W.specialIn K (.builtin "object.__class__") "__get__"==some (↑(.builtin "getset_descriptor.__get__")))&&(W.takesIn K (.builtin "object.__class__")==some true)&&(W.mroIn K C (.type "object")==some true)&&(W.subIn K (.ref C) (.type "BaseException")==some true)&&(W.clsIn K C).isSome
def Xn(K:Φ)(F:Ψ)(cs:Γ (Str×Ψ)):θ:=(W.nsIn K mainGlobals "FlowError"==some (↑(.ref F)))&&(W.nsIn K mainGlobals "ValueError"==some none)&&cs.all λc=>(W.nsIn K mainGlobals c.1==some (↑(.ref c.2)))&&W.excIn K c.2 MI "ValueError.__new__"&&V1 K c.2&&(W.exmOne K (.ref c.2) (.ref F)==some true)&&(W.kitOne K (.ref c.2) (.type "ValueError")==some true)&&cs.all λd=>W.kitOne K (.ref c.2) (.ref d.2)==some (c.1==d.1)
structure vx(K:W.Frag)(mg:Str->Option Value)(F:Addr)(cs:List (Str×Addr)):Prop where
 fe:mg "FlowError"=↑(.ref F)
 ve:mg "ValueError"=none
 at_:∀c∈cs,mg c.1=↑(.ref c.2)
 ex:∀c∈cs,W.excIn K c.2 MI "ValueError.__new__"=true
 ek:∀c∈cs,OD K c.2
 xm:∀c∈cs,W.exmOne K (.ref c.2) (.ref F)=↑true
 kv:∀c∈cs,W.kitOne K (.ref c.2) (.type "ValueError")=↑true
 kt:∀c∈cs,∀d∈cs,W.kitOne K (.ref c.2) (.ref d.2)=↑(c.1==d.1)
def NA{K:Φ}{cs:Γ _}(X:K.In h)(G:h.Ns mainGlobals mg)(e:Xn K F cs=true):vx K mg F cs:=by
 simp?[Xn,zF,xF,vH]at e;let((a,b),E):=e;refine{W.mg_of X G a,W.mg_none_of X G b,λc hc=>W.mg_of X G (E c hc).1.1.1.1.1,λc hc=>(E c hc).1.1.1.1.2,λc hc=>?_,λc hc=>(E c hc).1.1.2,λc hc=>(E c hc).1.2,λc hc d=>(E c hc).2 d};have q:=(E c hc).1.1.1.2;unfold V1 at q;simp  at q;exact{q.1.1.1.1.1.1.1,q.1.1.1.1.1.1.2,q.1.1.1.1.1.2,q.1.1.1.1.2,q.1.1.1.2,q.1.1.2,q.1.2,q.2}
def vx.ok{K:Φ}{cs:Γ _}(M:vx K mg F cs)(h:(cl.all λc=>(cs.map Prod.fst).contains c)=true):LM K mg cl:=λc hc=>by
 have:=List.contains_iff_mem.mp<|List.all_eq_true.mp h c hc;let(q,H,rfl):=List.mem_map.mp this;exact{q.2,M.at_ q H,M.ex q H}
def Yo(sc:ζ):γ->Δ Str
 |.Call (.Name f _) [.Name n _,.Name y _] [] _=>if(f==("isinstance":Str)&&n==("_law_e":Str)&&pN sc "isinstance"&&pN sc y)=true then↑y else none
 |_=>none
def OP(sc:ζ):Γ γ->Δ (Γ Str)
 |[]=>↑[]
 |e::r=>(Yo sc e).bind λy=>(OP sc r).map λs=>y::s
def qv(ns:Γ Str)(c:Str):Δ D:=if ns.contains c=true then(Dh (.bool true)<|ns.map λn=>.bool<|c==n).map λj=>.tuple [.str "refused",.int ((j:Nat):Int)]else none
section
variable {K:Φ}{cs:Γ (Str×Ψ)}
def IK(M:vx X.K X.mg F cs)(hc:c∈cs)(d:(ea,ob)∈X.pn)(a:ob.cls=.ref c.2)(C:OM X sc)(i:X.mg "isinstance"=none)(k:X.N[0]?=↑("_law_e":Str))(l:X.env.kindOf ("_law_e":Str)=↑.local)(S:X.env.scope.names.lookup ("_law_e":Str)=↑.local)
  (r:Yo sc e=↑y)(m:∀{p2:Pos}{pins:Γ (Ψ×Obj)}{σ:L2.St}{H:Hp}{s:Ξ}{Q:Θ->Ξ->Prop},Gl X y->Inv X pins σ H s->Q v s->wpAny (model X.prog X.w) X.A (eval (.Name y p2) X.env) Q X.xe s)(hk:W.kitOne X.K (.ref c.2) v=↑b) :
  PE X e (λσ H Q=>σ[0]?=↑(↑(.ref ea))/\Q (.bl b) H)/\(∀env whole,isTrue e env whole=(do let v <- whole;standAt e.pos;holding [v]<|truthy v))/\∀es:Γ γ,starEach (e::es) X.env=(false,eval e X.env)::starEach es X.env:=by
 unfold Yo at r;split at r
 .rename_i f p n P t o pos;split at r
  .rename_i j;cases r;simp?[zF,vH]at j;let(((rfl,rfl),G),Y):=j;have g:∀{x:Str},pN sc x=true->Gl X x:=λh=>by
    rcases C _ _ (yP h)with q|⟨q,_⟩
    .exact q
    grind
   exact{TU (M.ek c hc) d a (g G) i k l S (by rfl) (λ{pins σ H s Q}=>m<|g Y) hk,λenv whole=>rfl,λes=>rfl}
  .cases r
 .cases r
def Ar(M:vx X.K X.mg F cs)(hc:c∈cs)(b:(ea,ob)∈X.pn)(a:ob.cls=.ref c.2)(C:OM X sc)(i:X.mg "isinstance"=none)(f:X.N[0]?=↑("_law_e":Str))(l:X.env.kindOf ("_law_e":Str)=↑.local)(g:X.env.scope.names.lookup ("_law_e":Str)=↑.local)(D:(cs.all λd=>!(d.1==("__debug__":Str)))=true) :
  ∀{es:Γ γ}{ns:Γ Str},OP sc es=↑ns->(ns.all λc=>(cs.map Prod.fst).contains c)=true->mO X ea es (ns.map λn=>c.1==n)
 |[],ns,h,_=>by cases h;exact TF
 |e::es,ns,h,A=>by
  let(y,Y,h):=bs h;let(o,S,rfl):=af h;rw[xR,zF]at A;let(d,m,rfl):=List.mem_map.mp<|List.contains_iff_mem.mp A.1;have B:(d.1==("__debug__":Str))=false:=by simpa using List.all_eq_true.mp D d m
  let(j,_,k):=IK M hc b a C i f l g Y (λ{p2 p r H s Q}G I q=>lg I G (M.at_ d m) q B)<|M.kt c hc d m;exact Qu j (Ar M hc b a C i f l g D S A.2)<|k es
def Ha{A:ξ}{env:PySem.Env}(h:A.units+200<cLine):(A.deeper env).units+66<cLine:=by
 have:(A.deeper env).units<=A.units+16:=by simp
 lia
def Q8{st:Ω}(D:Dd K mg "_law_refused" st ["_law_e"])(M:vx K mg F cs)(B:∀x∈dk,mg x=none)
  (hb:aH st=[.Assign [.Name "_law_flags" a1] (.List es1 a2) a3,.Assign [.Name "_law_flags" b1] (.BinOp (.Name "_law_flags" b2) .Add (.List es2 b3) b4) b5,
   .If (.BoolOp .Or [.Compare (.Call (.Attribute (.Name "_law_flags" c1) "count" c2) [.Constant (.bool true) i1 c3] [] c4) [.NotEq] [.Constant (.int 1) i2 c5] c6,.UnaryOp .Not e6 c7] c8) bad [] c9,
   .Return (↑(.Tuple [.Constant (.str "refused") i3 d1,.Call (.Attribute (.Name "_law_flags" d3) "index" d2) [.Constant (.bool true) i4 d5] [] d4] k1 d6)) d7])
  (S:aZ [("_law_e":Str),("_law_flags":Str)] ["_law_e"] (ah st))(r1:OP (ah st) es1=↑U)(r2:OP (ah st) es2=↑ns2)(r6:Yo (ah st) e6=↑"ValueError")
  (g:(ah st).names.lookup ("_law_e":Str)=↑.local)(s2:(ah st).names.lookup ("_law_flags":Str)=↑.local)(Ye:((U++ns2).all λc=>(cs.map Prod.fst).contains c&&decide (O4 (.bool true) ((U++ns2).map λn=>.bool<|c==n)=1))=true)(t:(cs.all λd=>!(d.1==("__debug__":Str)))=true)(hz:U.length+ns2.length<=sizeLine)(l1:(c2.endLine==c4.line)=true)(l2:(d2.endLine==d4.line)=true) :
  ∀c d,qv (U++ns2) c=↑d->Bz P w K mg base k "_law_refused" c d:=λc d h=>by
 unfold qv at h;split at h
 .rename_i hc;have Z:=List.contains_iff_mem.mp hc;let(j,hj,rfl):=af h;have a:=List.all_eq_true.mp Ye c Z;rw[zF]at a;let(q,E,rfl):=List.mem_map.mp<|List.contains_iff_mem.mp a.1;have Y:=yP a.2;let(f,fd,hm,Fu,T):=D.ex;refine{f,fd,["_law_e"],hm,Fu.kp,T,rfl,λA o s H args O C hdp hun e0 W hC hex=>?_};let((ob,vs,ho,L,hd),N,hf):=hex;have R:C=q.2:=by
   have:=M.at_ q E;rw[hC]at this;cases this;rfl
  subst R;refine HM (C:=q.2) Fu S rfl (by lia) e0 W ho hd N hf λV t1 I=>?_;rw[hb];have p:∀{l:Γ Str},(∀n∈l,n∈U++ns2)->(l.all λc=>(cs.map Prod.fst).contains c)=true:=λhl=>by
   rw[xF];intro n N;have:=List.all_eq_true.mp Ye n<|hl n N;rw[zF]at this;exact this.1
  let X:Cx:=Fh P w K mg base [("_law_e":Str),("_law_flags":Str)] "_law_refused" (ah st) f V A o s H [(O,ob)];have b:(O,ob)∈X.pn:=List.mem_singleton.mpr rfl;have e:OM X (ah st):=λy kd hy=>.inl hy;have i:X.mg "isinstance"=none:=B _ (by decide);have f1:=Ar (X:=X) (sc:=ah st) M E b L e i rfl g g t r1 (p λn N=>qG _ N);have f2:=Ar (X:=X) (sc:=ah st) M E b L e i rfl g g t r2 (p λn N=>yE _ N);let(f6,w6,_):=IK (X:=X) (sc:=ah st) (v:=.type "ValueError") M E b L e i rfl g g r6 (λ{p2 pins σ H s Q}hg I q=>kr I hg M.ve (by decide +kernel) q) (M.kv q E);have main:=La (X:=X) (bad:=bad) (j:=j) (a1:=a1) (a2:=a2) (a3:=a3) (b1:=b1) (b2:=b2) (b3:=b3) (b4:=b4) (b5:=b5) (b6:=b5) (c1:=c1) (c2:=c2) (c3:=c3) (c4:=c4) (c5:=c5) (c6:=c6) (c7:=c7) (c8:=c8) (c9:=c9) (d1:=d1) (d2:=d2) (d3:=d3) (d4:=d4) (d5:=d5) (d6:=d6) (d7:=d7) (i1:=i1) (i2:=i2) (i3:=i3) (i4:=i4) (k1:=k1) (Ha<|by lia) rfl s2 f1 f2 f6 (λwhole=>w6 _ whole)
   (by rw[<-qX,zM];exact Y) (by rw[<-qX,zM];exact hj) (by rw[zD,zD];exact hz) l1 l2
   [] t1 (L2.start [("_law_e":Str),("_law_flags":Str)] [.ref O]) H {λ_ _=>False,λv G=>∀HF,aA HF H->∃m,bo HF H m G/\Rep K m (.tuple [.str "refused",.int ((j:Nat):Int)]) v,λ_ _=>False,λ_ _=>False} I {rfl,rfl,λv G z=>z}
  refine bZ main λfl s' z=>?_;cases fl with
  |next=>let(_,_,_,z):=z;exact z.elim
  |brk=>let(_,_,_,z):=z;exact z.elim
  |cont=>let(_,_,_,z):=z;exact z.elim
  |ret u =>
   let(v,σ',G,J,r,z):=z;exact{u,v,σ',G,rfl,J,r,z}
 .cases h
end
end Ex
namespace Hd
open PySem L2 Dl PySem.Spec PyProof.Rows
section
variable {K:Φ}
def XR{st:Ω}(b:fu st ps)(a:W.nsIn K mainGlobals x=↑(↑(.ref f)))(l:K.lookup f=↑(fo x st pm c))(d:W.codeIn K (.ref c) x=true)(k:W.keepIn K (.ref f)=true):iu K x st ps:=Xa b a l d k
def lIn{st:Ω}(b:fu st ps)(a:W.nsIn K mainGlobals x=↑(↑(.ref f)))(l:K.lookup f=↑(fo x st pm c))(d:W.codeIn K (.ref c) x=true)(k:W.keepIn K (.ref f)=true)(H:W.codeHdIn K c (N9 K c)=true):uF K x st ps:=Wf b a l d k H
end
section
variable {α:Type}{R:Γ α->Prop}
def BM(h:∀a,R [a])(us:Γ α)(e:us.length=1):R us:=by
 let(a,rfl):=List.length_eq_one_iff.mp e;exact h a
def Ql(us:Γ α)(e:us.length=n+1):∃a r,us=a::r/\r.length=n:=by
 cases us with
 |nil=>cases e
 |cons a r=>exact{a,r,rfl,by simpa using e}
def Cd(h:∀a b,R [a,b])(us:Γ α)(e:us.length=2):R us:=by
 let(a,r,rfl,E):=Ql us e;exact BM (R:=λr=>R _) (h a) r E
def CN(h:∀a b c,R [a,b,c])(us:Γ α)(e:us.length=3):R us:=by
 let(a,r,rfl,E):=Ql us e;exact Cd (R:=λr=>R _) (h a) r E
def LD(h:∀a b c d,R [a,b,c,d])(us:Γ α)(e:us.length=4):R us:=by
 let(a,r,rfl,E):=Ql us e;exact CN (R:=λr=>R _) (h a) r E
def Zi(h:∀a b c d f,R [a,b,c,d,f])(us:Γ α)(e:us.length=5):R us:=by
 let(a,r,rfl,E):=Ql us e;exact LD (R:=λr=>R _) (h a) r E
end
section
variable {K:Φ}
def f1(f c:Ψ)(p:Θ){st:Ω}(b:fu st ps:=by exactλ_ _ _ _ _ _ _ _ us H=>BM (R:=λus=>bindArgs _ {us,[]}=pure (List.zip _ us)) (λ_=>rfl) us H)(a:W.nsIn K mainGlobals x=↑(↑(.ref f)):=by kernel_rfl)(l:K.lookup f=↑(fo x st p c):=by kernel_rfl)(d:W.codeIn K (.ref c) x=true:=by kernel_rfl)(k:W.keepIn K (.ref f)=true:=by kernel_rfl):iu K x st ps:=XR b a l d k
def f2(f c:Ψ)(p:Θ){st:Ω}(b:fu st ps:=by exactλ_ _ _ _ _ _ _ _ us H=>Cd (R:=λus=>bindArgs _ {us,[]}=pure (List.zip _ us)) (λ_ _=>rfl) us H)(a:W.nsIn K mainGlobals x=↑(↑(.ref f)):=by kernel_rfl)(l:K.lookup f=↑(fo x st p c):=by kernel_rfl)(d:W.codeIn K (.ref c) x=true:=by kernel_rfl)(k:W.keepIn K (.ref f)=true:=by kernel_rfl):iu K x st ps:=XR b a l d k
def f3(f c:Ψ)(p:Θ){st:Ω}(b:fu st ps:=by exactλ_ _ _ _ _ _ _ _ us H=>CN (R:=λus=>bindArgs _ {us,[]}=pure (List.zip _ us)) (λ_ _ _=>rfl) us H)(a:W.nsIn K mainGlobals x=↑(↑(.ref f)):=by kernel_rfl)(l:K.lookup f=↑(fo x st p c):=by kernel_rfl)(d:W.codeIn K (.ref c) x=true:=by kernel_rfl)(k:W.keepIn K (.ref f)=true:=by kernel_rfl):iu K x st ps:=XR b a l d k
def l3(f c:Ψ)(p:Θ){st:Ω}(b:fu st ps:=by exactλ_ _ _ _ _ _ _ _ us L=>CN (R:=λus=>bindArgs _ {us,[]}=pure (List.zip _ us)) (λ_ _ _=>rfl) us L)(a:W.nsIn K mainGlobals x=↑(↑(.ref f)):=by kernel_rfl)(l:K.lookup f=↑(fo x st p c):=by kernel_rfl)(d:W.codeIn K (.ref c) x=true:=by kernel_rfl)(k:W.keepIn K (.ref f)=true:=by kernel_rfl)(H:W.codeHdIn K c (N9 K c)=true:=by kernel_rfl):uF K x st ps:=lIn b a l d k H
def f4(f c:Ψ)(p:Θ){st:Ω}(b:fu st ps:=by exactλ_ _ _ _ _ _ _ _ us H=>LD (R:=λus=>bindArgs _ {us,[]}=pure (List.zip _ us)) (λ_ _ _ _=>rfl) us H)(a:W.nsIn K mainGlobals x=↑(↑(.ref f)):=by kernel_rfl)(l:K.lookup f=↑(fo x st p c):=by kernel_rfl)(d:W.codeIn K (.ref c) x=true:=by kernel_rfl)(k:W.keepIn K (.ref f)=true:=by kernel_rfl):iu K x st ps:=XR b a l d k
def f5(f c:Ψ)(p:Θ){st:Ω}(b:fu st ps:=by exactλ_ _ _ _ _ _ _ _ us H=>Zi (R:=λus=>bindArgs _ {us,[]}=pure (List.zip _ us)) (λ_ _ _ _ _=>rfl) us H)(a:W.nsIn K mainGlobals x=↑(↑(.ref f)):=by kernel_rfl)(l:K.lookup f=↑(fo x st p c):=by kernel_rfl)(d:W.codeIn K (.ref c) x=true:=by kernel_rfl)(k:W.keepIn K (.ref f)=true:=by kernel_rfl):iu K x st ps:=XR b a l d k
end
end Hd
namespace Rg
open PySem L2 Dl Rf Ex PySem.Spec PyProof.Rows
abbrev FT:=Γ<|Str×Nat×(Γ D->Δ D)
def ja(st:Ω):Γ Str:=((ah st).names.filter λy=>y.2==.local || y.2==.cell).map (·.1)
structure Ok(P:Program)(w:World)(K:W.Frag)(mg:Str->Option Value)(base:Heap)(is:List (Str×Int))(cl:List Str)(j:Nat)(l:FT)(fx:XT):Prop where
 of:m5 P w K mg base j l
 ox:sd P w K mg base j fx
 oi:i8 mg is
 ob:∀x∈dk,mg x=none
 oc:LM K mg cl
 os:∃h:ι,K.In h/\h.Ns mainGlobals mg
section
variable {K:Φ}{st:Ω}{l:FT}
def up(h:Ok P w K mg base is cl j l fx)(e:j<=k):Ok P w K mg base is cl k l fx:={λx n m z=>(h.of x n m z).mono e,λx n m z=>(h.ox x n m z).mono e,h.oi,h.ob,h.oc,h.os}
def TH(h:Ok P w K mg base is cl j l fx)(F:Ig P w K mg base j x n m):Ok P w K mg base is cl j ((x,n,m)::l) fx:={Xb F h.of,h.ox,h.oi,h.ob,h.oc,h.os}
def Zc(h:Ok P w K mg base is cl j l fx)(F:Lg P w K mg base j x n m):Ok P w K mg base is cl j l ((x,n,m)::fx):={h.of,xm F h.ox<|yL j,h.oi,h.ob,h.oc,h.os}
def X9(h:Ok P w K mg base is cl j l fx)(D:iu K x st ps):Dd K mg x st ps:=let ⟨_,a,b⟩:=h.os;D.mg a b
def okL(h:Ok P w K mg base is cl j l fx)(D:uF K x st ps):Ud K mg x st ps:=let ⟨_,a,b⟩:=h.os;D.mg a b
def fst(a:sc.kind=.function:=by kernel_rfl)(b:sc.isCoroutine=false:=by kernel_rfl)(c:sc.isGenerator=false:=by kernel_rfl)(d:N.Nodup:=by decide +kernel)(e:N.take P.length=P:=by kernel_rfl)(f:∀x∈P,sc.names.lookup x=↑.local \/ sc.names.lookup x=↑.cell:=by decide +kernel)(g:∀y∈sc.names,y.2≠.free:=by decide +kernel):aZ N P sc:={a,b,c,d,e,f,g}
abbrev l5(st:Ω)(n:Nat):Γ Str:=(ja st).take n
def on(st:Ω)(D:iu K x st (l5 st n))(h:Ok P w K mg base is cl j l fx)(t:tW st (ja st) ⟨l,is⟩ none=↑g:=by kernel_rfl)(F:aZ (ja st) (l5 st n) (ah st):=by exact fst)(e:(l5 st n).length=n:=by kernel_rfl)(E:(ja st).length=k:=by kernel_rfl):Ok P w K mg base is cl (j+1) ((x,n,bK g k)::l) fx:=by
 have:=TH (up h<|Nat.le_succ j)<|fnT (X9 h D) F h.ob h.of h.oi t;rw[e,E]at this;lia
def ox(st:Ω)(D:iu K x st (l5 st n))(h:Ok P w K mg base is cl j l fx)(t:tW st (ja st) ⟨l,is⟩ none=↑g:=by kernel_rfl)(tx:tXW st (ja st) ⟨l,is⟩ fx cl=↑xg:=by kernel_rfl)(F:aZ (ja st) (l5 st n) (ah st):=by exact fst)(e:(l5 st n).length=n:=by kernel_rfl)(E:(ja st).length=k:=by kernel_rfl):Ok P w K mg base is cl (j+1) ((x,n,bK g k)::l) ((x,n,CA xg k)::fx):=by
 have:=YM (X9 h D) h.ob h.of h.oi h.ox h.oc tx F;rw[e,E]at this;exact Zc (on st D h t F e E) this
def ol(st:Ω)(N:Γ Str)(q:Str)(D:uF K x st (N.take n))(h:Ok P w K mg base is cl j l fx)(t:tW st N ⟨l,is⟩ (↑q)=↑g:=by kernel_rfl)(F:aZ N (N.take n) (ah st):=by exact fst)(H:x∈lO/\x++".<locals>."++"<lambda>"=q:=by decide +kernel)(e:(N.take n).length=n:=by kernel_rfl)(E:N.length=k:=by kernel_rfl):Ok P w K mg base is cl (j+4) ((x,n,bK g k)::l) fx:=by
 have:=TH (up h<|jS j 4)<|fnL (okL h D) F h.ob h.of h.oi H t;rw[e,E]at this;lia
end
end Rg
namespace Ob
open PySem L2 PySem.Spec PyProof.Rows Dl
def cut(H B:Hp):Hp:=λb=>match B b with|none=>H b|some _=>none
def eh(h:cut H B b=↑o):H b=↑o/\B b=none:=by
 unfold cut at h;split at h
 .rename_i e;exact⟨h,e⟩
 .cases h
def k8(h:H b=↑o)(e:B b=none):cut H B b=↑o:=by
 unfold cut;rw[e];exact h
def qj(e:B b=↑u):cut H B b=none:=by
 unfold cut;rw[e]
def MM(H B a:Hp):Hp:=λb=>match cut H B b with|some o=>↑o|none=>a b
def J7(h:MM H B B' b=↑o):cut H B b=↑o\/B' b=↑o:=by
 unfold MM at h
 grind
def QK(h:cut H B b=↑o):MM H B B' b=↑o:=by
 unfold MM;rw[h]
def Mu(h:cut H B b=none):MM H B B' b=B' b:=by
 unfold MM;rw[h]
inductive Fd where|val (d:D)|lst (ds:List D)
abbrev Fs:=Γ<|Str×Fd
inductive iz(K:W.Frag)(HF B:Hp):Fs->List (Str×V)->List Addr->Prop
 |nil:iz K HF B [] [] []
 |val {f:Str}{d:D}{v:V}{st:Fs}{fs:Γ (Str×V)}{as:Γ Ψ}(r:Rep K HF d v) (h:iz K HF B st fs as):iz K HF B ((f,.val d)::st) ((f,v)::fs) as
 |lst {f:Str}{ds:Γ D}{b:Ψ}{us:Γ V}{st:Fs}{fs:Γ (Str×V)}{as:Γ Ψ}(e:B b=↑(.lst us)) (r:aw K HF ds us) (h:iz K HF B st fs as):iz K HF B ((f,.lst ds)::st) ((f,.ref b)::fs) (b::as)
def iz.imp{K:Φ}{st:Fs}{fs:Γ _}(s:aA HF HF')(e:∀b∈as,∀us,B b=↑(.lst us)->B' b=↑(.lst us))(h:iz K HF B st fs as):iz K HF' B' st fs as:=by
 induction h with
 |nil=>exact .nil
 |val r h i=>exact .val (r.mono s) (i e)
 |lst E r h i=>exact .lst (e _ zE _ E) (r.mono s)<|i λb H=>e b<|zC _ H
structure CU(K:W.Frag)(HF B:Hp)(C a:Addr)(st:Fs):Prop where
 ex:∃dx fs as,B a=↑(.ins C dx fs)/\B dx=↑(.own a)/\iz K HF B st fs as/\as.Nodup
def CU.mono{K:Φ}{st:Fs}(h:CU K HF B C a st)(s:aA HF HF'):CU K HF' B C a st:=
 let ⟨d,fs,A,e,E,b,c⟩:=h.ex
 {d,fs,A,e,E,b.imp s λ_ _ _ z=>z,c}
structure Oj where
 C:Ψ
 st:Fs
structure pP(K:W.Frag)(aaa aab:Hp)(pa:List Addr)(HF H:Hp)(ρ:aq)(os:List Oj)(σ:L2.St)(HB:Hp)(ad:Nat->Addr)(Bs:Nat->Hp):Prop where
 S:gJ K aaa ⟨HB,ad⟩ HF H ρ σ
 h0:aA aab HB
 at_:∀k o,os[k]?=↑o->CU K HF (Bs k) o.C (ad k) o.st
 sb:∀k,k<os.length->aA (Bs k) HB
 fr:∀k,k<os.length->∀b o,Bs k b=↑o->aab b=none/\aaa b=none
 dj:∀j k,j<os.length->k<os.length->j≠k->∀b o,Bs j b=↑o->Bs k b=none
 pl:pa.length<=os.length
 pa:∀k a,pa[k]?=↑a->ad k=a
def gU(K:Φ)(aaa aab:Hp)(pa:Γ Ψ)(HF H:Hp)(ρ:aq)(os:Γ Oj)(σ:L2.St):Prop:=∃b a B,pP K aaa aab pa HF H ρ os σ b a B
section
variable {K:Φ}{aaa aab HF H:Hp}{pa:Γ Ψ}{ρ:aq}{os:Γ Oj}{σ:L2.St}{HB:Hp}{ad:Nat->Ψ}{Bs:Nat->Hp}
def pP.pure(h:pP K aaa aab pa HF H ρ os σ HB ad Bs)(S:gJ K aaa ⟨HB,ad⟩ HF' H' ρ' σ')(s:aA HF HF'):pP K aaa aab pa HF' H' ρ' os σ' HB ad Bs:=
 {S,h.h0,λk o e=>(h.at_ k o e).mono s,h.sb,h.fr,h.dj,h.pl,h.pa}
def pP.nf(h:pP K aaa aab pa HF H ρ os σ HB ad Bs)(hk:k<os.length)(e:Bs k b=↑o):HF b=none:=by
 cases z:HF b with
 |none=>rfl
 |some u =>
  rcases h.S.gr.nw b u z with q|q
  .rw[(h.fr k hk b o e).2]at q;grind
  .have:=h.sb k hk b o e
   grind
def Cf(S:gJ K aaa ⟨HB,ad⟩ HF H ρ σ)(r:bo aaa I HF' H')(ff:aA HF HF')(e:∀b o,HB b=none->H b=↑o->H' b=↑o/\I b=none/\(HF b=none->HF' b=none))
  (A:∀(i k:Nat),ρ[i]?=↑(Slot.obj k)->U k=ad k):gJ K aaa {I,U} HF' H' ρ σ where
 gr:=r
 val:=λi d h=>let ⟨v,a,b⟩:=S.val i d h;{v,a,b.mono ff}
 own:=λi D h=>by
  let(a,V,c,f,g,j,E):=S.own i D h;let(z1,z2,z3):=e a _ j f;exact{a,V,c,z1,z3 g,z2,E.mono ff}
 inj:=S.inj
 len:=S.len
 tb:=S.tb.mono ff
 tab:=λi l h=>by
  let(a,s,c,f,g,j,E):=S.tab i l h;let(z1,z2,z3):=e a _ j f;exact{a,s,c,z1,z3 g,z2,E.1,E.2.mono ff}
 one:=S.one
 ob:=λi k h=>by
  show σ[i]?=↑(↑(.ref<|U k));rw[A i k h];exact S.ob i k h
structure v8(HF H B HF' H' B':Hp):Prop where
 gr:bo HF (cut H B) HF' H'
 sb:aA B' H'
 nw:∀b o,B' b=↑o->HF' b=none/\cut H B b=none
def pP.turn(h:pP K aaa aab pa HF H ρ os σ HB ad Bs)(hk:os[k]?=↑ob)(t:v8 HF H (Bs k) HF' H' B')(q:CU K HF' B' ob.C (ad k) U) :
  pP K aaa aab pa HF' H' ρ (os.set k {ob.C,U}) σ (MM HB (Bs k) B') ad (λj=>if j=k then B' else Bs j):=by
 have l:k<os.length:=(List.getElem?_eq_some_iff.mp hk).1;have g:=h.S.gr;have f:=g.hh;have up:∀b o,cut HB (Bs k) b=↑o->cut H _ b=↑o:=λb o e=>let ⟨E,m⟩:=eh e;k8 (f b o E) m;have G:bo aaa (MM HB (Bs k) B') HF' H':=by
  refine{λb o e=>?_,g.ff.trans t.gr.ff,t.gr.fh,λb o e=>?_}
  .rcases J7 e with z|z
   .exact t.gr.hh b o<|up b o z
   .exact t.sb b o z
  .have s:B' b=none:=by
    cases z:B' b with
    |none=>rfl
    |some u=>rw[(t.nw b u z).1]at e;grind
   have fin:HB b=none\/cut H _ b=none->MM HB _ B' b=none:=λz=>by
    have:cut HB (Bs k) b=none:=by
     cases c:cut HB _ b with
     |none=>rfl
     |some u =>
      rcases z with z|z
      .have:=(eh c).1;rw[z]at this;cases this
      .rw[up b u c]at z;cases z
    rw[Mu this];lia
   rcases t.gr.nw b o e with z|z
   .rcases g.nw b o z with y|y<;>grind
   .exact .inr<|fin<|.inr z
 refine{Cf h.S G t.gr.ff (λb o E m=>?_) λ_ _ _=>rfl,λb o e=>?_,λj o e=>?_,λj J b o e=>?_,λj J b o e=>?_,λi j I J n b o e=>?_,by rw[yC];exact h.pl,h.pa}
 .have B:Bs k b=none:=by
   cases z:Bs k b with
   |none=>rfl
   |some u=>have:=h.sb k l b u z;rw[E]at this;cases this
  have ch:=k8 m B;refine{t.gr.hh b o ch,?_,λp=>t.gr.aaH p ch};have:cut HB (Bs k) b=none:=by
   cases c:cut HB _ b with
   |none=>rfl
   |some u=>have:=(eh c).1;rw[E]at this;cases this
  rw[Mu this];cases z:B' b with
  |none=>rfl
  |some u=>have:=(t.nw b u z).2;rw[ch]at this;cases this
 .refine QK<|k8 (h.h0 b o e) ?_;cases z:Bs k b with
  |none=>rfl
  |some u=>have:=(h.fr k l b u z).1;rw[e]at this;cases this
 .rw[xH]at e;by_cases J:k=j
  .grind
  .rw[yM J]at e;rw[yM λz=>J z.symm];exact(h.at_ j o e).mono t.gr.ff
 .rw[yC]at J;by_cases a:j=k
  .rw[yK a]at e;have c:=(t.nw b o e).2;have:cut HB (Bs k) b=none:=by
    cases z:cut HB _ b with
    |none=>rfl
    |some u=>rw[up b u z]at c;cases c
   rw[Mu this];lia
  .rw[yM a]at e;exact QK<|k8 (h.sb j J b o e)<|h.dj j k J l a b o e
 .rw[yC]at J;by_cases a:j=k
  .rw[yK a]at e;let(N,r):=t.nw b o e;have z1:aab b=none:=by
    cases z:aab b with
    |none=>rfl
    |some u =>
     cases y:Bs k b with
     |none=>rw[k8 (f b u<|h.h0 b u z) y]at r;lia
     |some w=>rw[(h.fr k l b w y).1]at z;grind
   refine{z1,?_};cases z:aaa b with
   |none=>rfl
   |some u=>rw[t.gr.ff b u<|g.ff b u z]at N;lia
  .rw[yM a]at e;exact h.fr j J b o e
 .rw[yC]at I J;by_cases d:i=k
  .rw[yK d]at e;rw[yM λz=>n<|d.trans z.symm];cases z:Bs j b with
   |none=>rfl
   |some u =>
    have:=(t.nw b o e).2;rw[k8 (f b u<|h.sb j J b u z)<|h.dj j k J l (λz=>n (d.trans z.symm):j≠k) b u z]at this;lia
  .rw[yM d]at e;by_cases a:j=k
   .rw[yK a];cases z:B' b with
    |none=>rfl
    |some u =>
     have:=(t.nw b u z).2;rw[k8 (f b o<|h.sb i I b o e)<|h.dj i k I l d b o e]at this
     grind
   .rw[yM a];exact h.dj i j I J n b o e
end
inductive VF where
 |nx (ρ:aq) (os:Γ Oj)|rt (d:D) (os:Γ Oj)
def Yt(K:Φ)(aaa aab:Hp)(pa:Γ Ψ)(HF:Hp)(E:Ends):VF->Prop
 |.nx c o=>∀b a H,gU K aaa aab pa H a c o b->aA HF H->E.nx b a
 |.rt d o=>∀v a H,gU K aaa aab pa H a [] o []->Rep K H d v->E.rt v a
abbrev OG:=aq->Γ Oj->Δ VF
def tO(K:Φ)(aaa aab:Hp)(pa:Γ Ψ)(g:OG):TS:=λE b H=>∃F a s o,gU K aaa aab pa F H a s b/\g a s=↑o/\Yt K aaa aab pa F E o
def OS(X:Cx)(aaa aab:Hp)(pa:Γ Ψ)(st:Ω)(g:OG):Prop:=PS X st<|tO X.K aaa aab pa g
def IA(X:Cx)(aaa aab:Hp)(pa:Γ Ψ)(st:Γ Ω)(g:OG):Prop:=su X st<|tO X.K aaa aab pa g
abbrev OF:=aq->Γ Oj->Δ (D×Γ Oj)
def Vt(K:Φ)(aaa aab:Hp)(pa:Γ Ψ)(f:OF):TE:=λe H Q=>∃c a s d o,gU K aaa aab pa c H a s e/\f a s=↑(d,o)/\∀v b F,gU K aaa aab pa F b a o e->aA c F->Rep K F d v->Q v b
def OE(X:Cx)(aaa aab:Hp)(pa:Γ Ψ)(e:γ)(f:OF):Prop:=PE X e<|Vt X.K aaa aab pa f
abbrev Mh:=aq->Γ Oj->Δ (θ×Γ Oj)
def ZQ(K:Φ)(aaa aab:Hp)(pa:Γ Ψ)(f:Mh):TT:=λe H Q=>∃d a s b o,gU K aaa aab pa d H a s e/\f a s=↑(b,o)/\∀c F,gU K aaa aab pa F c a o e->aA d F->Q b c
def OT(X:Cx)(aaa aab:Hp)(pa:Γ Ψ)(e:γ)(f:Mh):Prop:=PT X e<|ZQ X.K aaa aab pa f
abbrev CT:=aq->Γ Oj->Δ (Γ D×Γ Oj)
def tOA(K:Φ)(aaa aab:Hp)(pa:Γ Ψ)(f:CT):TA:=λe H Q=>∃c a s d o,gU K aaa aab pa c H a s e/\f a s=↑(d,o)/\∀v b F,gU K aaa aab pa F b a o e->aA c F->aw K F d v->Q v b
def OA(X:Cx)(aaa aab:Hp)(pa:Γ Ψ)(es:Γ γ)(f:CT):Prop:=PA X es<|tOA X.K aaa aab pa f
section
variable {X:Cx}{aaa aab HF H HF' H':Hp}{pa:Γ Ψ}{ρ ρ':aq}{os os':Γ Oj}{σ σ':L2.St}{st:Ω}{rest:Γ Ω}{e a b c:γ}{es:Γ γ}{pos:Pos}{g1 g2:OG}
def Yt.mono{K:Φ}(s:aA HF HF')(h:Yt K aaa aab pa HF E o):Yt K aaa aab pa HF' E o:=by
 cases o with
 |nx e O=>exactλa b H S c=>h a b H S (s.trans c)
 |rt d O=>exact h
def gU.ends{K:Φ}(h:gU K aaa aab pa HF H ρ os σ):gU K aaa aab pa HF H [] os []:=
 let ⟨b,A,B,o⟩:=h
 {b,A,B,o.pure {o.S.gr,λi d z=>by simp at z,λi d z=>by simp at z,λi j d e a z=>by simp at z,yL _,o.S.tb,λi d z=>by simp at z,λi j d e z=>by simp at z,λi k z=>by simp at z}<|.refl _}
def gU.grow{K:Φ}(h:gU K aaa aab pa HF H ρ os σ)(g:bo HF H HF' H'):gU K aaa aab pa HF' H' ρ os σ:=
 let ⟨b,a,B,o⟩:=h
 {b,a,B,o.pure (o.S.grow g) g.ff}
def gU.step{K:Φ}(h:gU K aaa aab pa HF H ρ os σ)(g:aA H H'):gU K aaa aab pa HF H' ρ os σ:=
 let ⟨b,a,B,o⟩:=h
 {b,a,B,o.pure (o.S.step g)<|.refl _}
def gU.all{K:Φ}(h:gU K aaa aab pa HF H ρ os σ):cK K H (aI ρ) σ:=let ⟨_,_,_,o⟩:=h;o.S.all
def gU.frz{K:Φ}(h:gU K aaa aab pa HF H ρ os σ):cK K HF (bx ρ) σ:=let ⟨_,_,_,o⟩:=h;o.S.frz
def gU.fh{K:Φ}(h:gU K aaa aab pa HF H ρ os σ):aA HF H:=let ⟨_,_,_,o⟩:=h;o.S.gr.fh
def gU.hand{K:Φ}(h:gU K aaa aab pa HF H ρ os σ)(f:Γ Nat):∃a,aA HF a/\gU K aaa aab pa a H (hand f 0 ρ) os σ:=
 let ⟨b,d,B,o⟩:=h;let ⟨a,s,c⟩:=o.S.hand f
 {a,s,b,d,B,o.pure c s}
def gU.aaO{K:Φ}(h:gU K aaa aab pa HF H ρ os σ)(r:Rep K HF d v):gU K aaa aab pa HF H (ρ.set i<|.val d) os (σ.set i<|↑v):=
 let ⟨b,a,B,o⟩:=h
 {b,a,B,o.pure (o.S.aaO r)<|.refl _}
def bC(g:aq->Δ Out):OG:=λb o=>(g b).bind fun|.nx a=>↑(.nx a o)|.rt _=>none
def UX{K:Φ}(h:tO K aaa aab pa (bC g) E σ H):∃a,tS K aaa a g E σ H:=by
 let(f,l,O,o,(B,A,c,k),G,q):=h;let(o1,j,G):=bs G;refine{{B,A},f,l,o1,k.S,j,?_};cases o1 with
 |nx m=>cases G;exactλb e F i s=>q b e F {B,A,c,k.pure i s} s
 |rt d=>cases G
def E6(h:∀a,DS X aaa a st g):OS X aaa aab pa st (bC g):=λp s b H E I q=>let ⟨a,z⟩:=UX q;h a p s b H E I z
def CW:OG:=λa o=>↑(.nx a o)
def bD(g1 g2:OG):OG:=λb s=>(g1 b s).bind fun|.nx a o=>g2 a o|.rt d o=>↑(.rt d o)
def OK:IA X aaa aab pa [] CW:=kn j1 λE a H z=>by let(F,b,s,o,S,g,q):=z;cases g;exact q a H F S<|.refl _
def KC(c:OS X aaa aab pa st g1)(e:IA X aaa aab pa rest g2):IA X aaa aab pa (st::rest) (bD g1 g2):=kn (cP c e) λE m H z=>by
 let(f,j,i,o,S,g,q):=z;let(o1,h,g):=bs g;refine{f,j,i,o1,S,h,?_};cases o1 with
 |nx a O=>exactλk l F b s=>{F,a,O,o,b,g,q.mono s}
 |rt d O=>cases g;exact q
def FF(H:OS X aaa aab pa st g1):IA X aaa aab pa [st] g1:=iJ H
def cq(f:Γ Nat)(g:OG):OG:=λa o=>g (hand f 0 a) o
def Fv(f:Γ Nat)(h:OS X aaa aab pa st g1):OS X aaa aab pa st (cq f g1):=bp h λE d H z=>by
 let(F,c,O,o,S,g,q):=z;let(a,b,s):=S.hand f;exact{a,_,O,o,s,g,q.mono b}
def oD(f:Dl.Env->Δ D):OF:=λa o=>match f (bx a)with
 |some d=>↑(d,o)
 |none=>(f<|aI a).bind λd=>if ki d=true then↑(d,o)else none
def O7(h:DE X e f):OE X aaa aab pa e (oD f):=aE h λi H Q z=>by
 let(c,g,O,d,o,S,F,q):=z;unfold oD at F;split at F
 .rename_i D E;cases F;exact{c,bx g,d,S.fh,S.frz,E,λv b a G r=>q v b a (S.grow G) G.ff r}
 .let(D,E,F):=bs F;split at F
  .rename_i s;cases F;exact{H,aI g,d,.refl _,S.all,E,λv b a G r=>q v b c (S.step G.hh) (.refl _)<|tZ s r}
  .cases F
def Jg(g:D->D->Δ D)(fa fb:OF):OF:=λa o=>(fa a o).bind λx=>(fb a x.2).bind λy=>(g x.1 y.1).map (·,y.2)
def Vy(R:gw X.K r g):∀σ H Q,Vt X.K aaa aab pa (Jg g fa fb) σ H Q->Vg r (Vt X.K aaa aab pa fa) (Vt X.K aaa aab pa fb) σ H Q:=λσ H Q z=>by
 let(l,i,o,d,O,S,f,q):=z;let((x,o1),n,f):=bs f;let((y,o2),Y,f):=bs f;let(z,Z,e):=af f;cases e;exact{l,i,o,x,o1,S,n,λV w a m t r1=>{a,i,o1,y,_,m,Y,λu k b s c p=>R b k x y V u _ Q s.fh (r1.mono c) p Z λv j F G=>q v j F (s.grow G)<|(t.trans c).trans G.ff}}
end
section
variable {X:Cx}{aaa aab HF H HF' H':Hp}{pa:Γ Ψ}{ρ ρ':aq}{os os':Γ Oj}{σ σ':L2.St}{st:Ω}{rest:Γ Ω}{e a b c:γ}{es:Γ γ}{pos:Pos}{g1 g2:OG}{fa fb:OF}{ta tb:Mh}
def oB(f:OF):Mh:=λa o=>(f a o).bind λx=>(gB x.1).map (·,x.2)
def PB:∀σ H Q,ZQ X.K aaa aab pa (oB f) σ H Q->Vt X.K aaa aab pa f σ H λx a=>∃c,x=.bl c/\Q c a:=λσ H Q z=>by
 let(d,i,o,k,O,S,F,q):=z;let((x,o1),e,F):=bs F;refine{d,i,o,x,o1,S,e,λv a b s g r1=>?_};cases x<;>try cases F
 exact{_,r1,q a b s g}
def Si(o:iG X (compareOp op) r)(R:gw X.K r g)(A:OE X aaa aab pa a fa)(B:OE X aaa aab pa b fb)(m:behindInMarks op b=false):OT X aaa aab pa (.Compare a [op] [b] pos) (oB<|Jg g fa fb):=
 qm (sN o A B m) λc H Q h=>Vy R c H _<|PB c H Q h
def oT(f:Dl.Env->Δ θ):Mh:=λa o=>(f<|aI a).map (·,o)
def O8(h:DT X e f):OT X aaa aab pa e (oT f):=qm h λi H Q z=>by
 let(F,g,s,b,o,S,d,q):=z;let(B,E,z):=af d;cases z;exact{H,aI g,b,.refl _,S.all,E,λa c G=>q a F (S.step G.hh)<|.refl _}
def iA:CT:=λ_ o=>↑([],o)
def cC(f:OF)(g:CT):CT:=λa o=>(f a o).bind λx=>(g a x.2).map λy=>(x.1::y.1,y.2)
def UY:OA X aaa aab pa [] iA:=iV bJ λb H Q z=>by let(F,a,s,d,o,S,f,q):=z;cases f;exact q [] H F S (.refl _) .nil
def Qn(E:OE X aaa aab pa e fa)(l:OA X aaa aab pa es g)(t:starEach (e::es) X.env=(false,eval e X.env)::starEach es X.env:=by rfl):OA X aaa aab pa (e::es) (cC fa g):=
 iV (aL E l t) λw H Q z=>by
  let(F,c,o,d,O,S,f,q):=z;let((x,o1),m,f):=bs f;let((p,o2),y,z):=af f;cases z;exact{F,c,o,x,o1,S,m,λv u a j n r1=>{a,c,o1,p,_,j,y,λV i b k s r=>q _ i b k (n.trans s)<|aw.cons (r1.mono s) r}}
def vn(t:Mh)(g1 g2:OG):OG:=λa o=>(t a o).bind λx=>if x.1=true then g1 a x.2 else g2 a x.2
def Wg(hc:OT X aaa aab pa c ta)(A:IA X aaa aab pa ss g1)(B:IA X aaa aab pa us g2):OS X aaa aab pa (.If c ss us pos) (vn ta g1 g2):=bp (rY hc A B) λE i H z=>by
 let(f,a,O,o,S,g,q):=z;let((b,o1),h,g):=bs g;refine{f,a,O,b,o1,S,h,λe F d s=>?_};cases b with
 |true=>exact nT {F,a,o1,o,d,g,q.mono s}
 |false=>exact lK {F,a,o1,o,d,g,q.mono s}
def i6(f:OF):OG:=λa o=>(f a o).map λx=>.rt x.1 x.2
def RX(h:OE X aaa aab pa e fa):OS X aaa aab pa (.Return (↑e) pos) (i6 fa):=bp (lJ h) λE i H z=>by
 let(f,c,O,o,S,g,q):=z;let((d,o1),h,z):=af g;cases z;exact{f,c,O,d,o1,S,h,λv a F b s=>q v a F b.ends}
def J4(i:Nat)(f:OF):OG:=λa o=>(f a o).map λx=>.nx (a.set i<|.val x.1) x.2
def U5(i:Nat)(n:X.N.Nodup)(hi:X.N[i]?=↑x)(k:Loc X.env.scope x)(c:OE X aaa aab pa e fa)(j:swapsWith e (↑(.Name x pos')) pos.line X.env=pure false:=by rfl)
  (g:X.fn x=true\/X.env.scope.names.lookup x=↑.local:=by first|exact .inl rfl|exact .inr rfl|assumption):OS X aaa aab pa (.Assign [.Name x pos'] e pos) (J4 i fa):=bp (lb n hi k c j g) λE m H z=>by
 let(f,l,O,o,S,G,q):=z;let((d,o1),h,z):=af G;cases z;exact{f,l,O,d,o1,S,h,λv a F b s r=>q _ a F (b.aaO r) s}
def vt(f:OF):OG:=λa o=>(f a o).map λx=>.nx a x.2
def Uv(c:OE X aaa aab pa e fa)(i:swapsWith e none pos.line X.env=pure false:=by rfl):OS X aaa aab pa (.Expr e pos) (vt fa):=bp (hU c i) λE k H z=>by
 let(f,j,O,o,S,g,q):=z;let((d,o1),h,z):=af g;cases z;exact{f,j,O,d,o1,S,h,λv a F b s r=>q k a F b s}
end
section
variable {os os':Γ Oj}{st:Ω}{rest:Γ Ω}
def gU.tbs{K:Φ}(h:gU K aaa aab pa HF H ρ os σ):bN K HF:=let ⟨_,_,_,o⟩:=h;o.S.tb
def mw(n:Nat)(m:Γ D->Δ D)(fs:CT):OF:=λa o=>(fs a o).bind λx=>if x.1.length=n then(m x.1).map (·,x.2)else none
def PF{fs:CT}(F:Ig X.prog X.w X.K X.mg X.base k x n m)(R:cA k X.A)(G:Gl X x)(o:OA X aaa aab pa (e::es) fs)(B:(x==("__debug__":Str))=false:=by decide)
  (y:starEach (e::es) X.env=(false,eval e X.env)::starEach es X.env:=by rfl)(l:(backTo pos<|starEach es X.env).any (·.1)=false:=by rfl):OE X aaa aab pa (.Call (.Name x p) (e::es) [] pos) (mw n m fs):=by
 let(f,V,W,O,M,hk,t):=F.ex;refine aE (j6 (E:=E0) O R G M hk t .nil o7 o B y l) λZ H Q z=>?_;let(j,P,I,d,J,S,a,q):=z;let((D,o1),C,a):=bs a;split at a
 .rename_i L;let(U,u,z):=af a;cases z;exact{j,P,I,D,o1,S,C,λY T c s N r1=>{c,D,d,s.fh,s.tbs,by rw[qD];exact r1,L,u,λv i b g r=>q v i b (s.grow g) (N.trans g.ff) r}}
 .cases a
def lP(tgt:aq->D->Δ aq)(gb:OG):Γ D->OG
 |[],a,s=>↑(.nx a s)
 |d::S,a,s=>(tgt a d).bind λb=>(gb b s).bind fun|.nx c o=>lP tgt gb S c o|.rt v o=>↑(.rt v o)
def KN(f:Γ Nat)(fi:Dl.Env->Δ (Γ D))(tgt:aq->D->Δ aq)(gb:OG):OG:=λa o=>(fi<|bx<|hand f 0 a).bind λd=>lP tgt gb d (hand f 0 a) o
def tOG(K:Φ)(aaa aab:Hp)(pa:Γ Ψ)(f:aq->D->Δ aq):TG:=λv e H Q=>∃F c o d a,gU K aaa aab pa F H c o e/\Rep K F d v/\f c d=↑a/\∀b,gU K aaa aab pa F H a o b->Q b H
def XI(h:∀a,Vn X aaa a tg tgt):PG X tg (tOG X.K aaa aab pa tgt):=λp s j H v u Q I r ⟨F,i,O,d,b,⟨e,A,B,o⟩,R,g,q⟩ =>
 h _ p s j H v u Q I r {F,i,d,b,o.S,R,g,λc f=>q c {e,A,B,o.pure f<|.refl _}}
def RR(Z:Γ Nat)(hp:PassesOwn (model X.prog X.w) X.A X.env X.xe)(hc:X.calm=true)(hi:DI X tg iter fi)(l:∀T,Vn X aaa T tg tgt)(hb:IA X aaa aab pa body gb)
  (hs:∀x,foldedSetIterable iter X.env x=pure x:=by intro _;rfl):OS X aaa aab pa (.For tg iter body [] pos) (KN Z fi tgt gb):=bp (KR hp hc hi (XI l) hb hs) λE σ H z=>by
 let(HF,ρ,os,o,S,l,q):=z;let(D,h,l):=bs l;let(v,s1,C):=S.hand Z;refine{v,_,D,C.fh,C.frz,h,λJ H2 e G Q=>({λi m g k=>m+i=D.length/\∃F b s,gU X.K aaa aab pa F k b s g/\aA e F/\lP tgt gb (D.drop i) b s=↑o,{D.length,rfl,e,_,os,C.grow G,.refl _,l},?_})};rintro i m g k ⟨hm,F,b,s,t,u,f⟩;by_cases hi:i<D.length
 .refine .inr ?_;have N:=kW hi;have P:=List.getElem?_eq_some_iff.mpr {hi,rfl};generalize D[i]=d at N P;rw[N]at f;let(p,h1,f):=bs f;let(o1,h2,f):=bs f;let(go,Y):=Q.go i d k F P u t.fh;refine{go,λj r=>∃a c O,gU X.K aaa aab pa a r c O j/\aA e a/\lP tgt gb _ c O=↑o,λj r z=>by let(a,c,O,V,W,a3):=z;exact {m-1,by lia,by lia,a,c,O,V,W,a3},λx r y=>?_};let(a,M,rx):=Y x r y;refine{a,b,s,d,p,t.grow M,rx,h1,λj R=>{a,p,s,o1,R,h2,?_}};cases o1 with
  |nx L n=>exactλσ4 H4 B U s4=>{B,L,n,U,(u.trans M.ff).trans s4,f}
  |rt d n=>cases f;exact q
 .have I:i=D.length:=by lia
  subst I;rw[List.drop_length]at f;cases f;exact .inl {Q.stop k F u t.fh,q g k F t<|(s1.trans G.ff).trans u}
end
inductive iP(K:W.Frag)(HF:Hp)(a:Addr):List Slot->List V->Prop
 |nil:iP K HF a [] []
 |val {d:D}{v:V}{r:Γ Slot}{vs:Γ V}(h:Rep K HF d v) (t:iP K HF a r vs):iP K HF a (.val d::r) (v::vs)
 |obj {r:Γ Slot}{vs:Γ V}(t:iP K HF a r vs):iP K HF a (.obj 0::r) (.ref a::vs)
def iP.length{K:Φ}(h:iP K HF a as vs):vs.length=as.length:=by
 induction h with
 |nil=>rfl
 |val _ _ i=>exact qZ _ i
 |obj _ i=>exact qZ _ i
def iP.get{K:Φ}(h:iP K HF a as vs):∀{i:Nat},as[i]?=↑s->∃v,vs[i]?=↑v/\((∃d,s=.val d/\Rep K HF d v)\/(s=.obj 0/\v=.ref a)):=by
 induction h with
 |nil=>intro i e;cases e
 |val r _ I =>
  intro i e;cases i with
  |zero=>cases e;exact{_,rfl,.inl {_,rfl,r}}
  |succ i=>exact I e
 |obj _ I =>
  intro i e;cases i with
  |zero=>cases e;exact{_,rfl,.inr {rfl,rfl}}
  |succ i=>exact I e
def Pm(K:Φ)(C:Ψ)(n:Nat)(m:Γ Slot->Fs->Δ (D×Fs)):Sp:=λV H Q _=>∃f B a A st d s,aA f H/\bN K f/\aA B H/\(∀b o,B b=↑o->f b=none)/\CU K f B C a st/\iP K f a A V/\A.length=n/\m A st=↑(d,s) /\
 ∀v e F c,v8 f H B F e c->CU K F c C a s->Rep K F d v->Q v e
def YH(C:Ψ)(d:D):Γ Oj->Δ (D×Fs)|o::_=>if o.C=C then↑(d,o.st)else none|[]=>none
def hV(g:OG)(C:Ψ)(n:Nat):Γ Slot->Fs->Δ (D×Fs):=λa st=>(g (a++List.replicate (n-a.length) .non) [⟨C,st⟩]).bind fun|.rt d o=>YH C d o|.nx _ o=>YH C .none o
def F5{K:Φ}{st:Fs}(sm:aA HF H)(tb:bN K HF)(t:aA B H)(n:∀b o,B b=↑o->HF b=none)(q:CU K HF B C a st)(R:iP K HF a as vs) :
  gU K HF (cut H B) [a] HF H (as++List.replicate (N.length-as.length) .non) [⟨C,st⟩] (L2.start N vs):=by
 have l:∀(i:Nat)(s:Slot),(as++List.replicate (N.length-as.length) .non)[i]?=↑s->s=.non\/∃v,(L2.start N vs)[i]?=↑(↑v)/\((∃d,s=.val d/\Rep K HF d v)\/(s=.obj 0/\v=.ref a)):=λi s h=>by
  by_cases I:i<as.length
  .rw[yR I]at h;let(v,V,z):=R.get h;refine .inr {v,?_,z};unfold L2.start;rw[yR<|by simpa [R.length]using I,zO,V];rfl
  .rw[yS<|by lia,yW]at h;split at h
   .cases h;exact .inl rfl
   .cases h
 have D:∀(i:Nat)(s:Slot),(as++List.replicate (N.length-as.length) .non)[i]?=↑s->(∀d,s≠.val d)->s≠.non->s=.obj 0:=λi s h g m=>by
  rcases l i s h with z|⟨v,_,⟨d,z,_⟩|⟨z,_⟩⟩
  .exact absurd z m
  .exact absurd z<|g d
  .exact z
 refine{H,λ_=>a,λ_=>B,{{.refl sm,λi d h=>?_,λi S h=>?_,λi j S E b h=>?_,?_,tb,λi p h=>?_,λi j p L h=>?_,λi k h=>?_},λb o e=>(eh e).1,λk o e=>?_,λk hk=>t,λk hk b o e=>{qj e,n b o e},λj k J hk u=>?_,yL _,λk c e=>?_}}
 .rcases l i _ h with z|⟨v,V,⟨f,z,r⟩|⟨z,_⟩⟩
  .cases z
  .cases z;exact{v,V,r}
  .cases z
 .cases D i _ h (λd z=>by cases z) (λz=>by cases z)
 .cases D i _ h (λd z=>by cases z) (λz=>by cases z)
 .unfold L2.start;rw[zN,zN,zD,xK,xK,R.length];exact yL _
 .cases D i _ h (λd z=>by cases z) (λz=>by cases z)
 .cases D i _ h (λd z=>by cases z) (λz=>by cases z)
 .rcases l i _ h with z|⟨v,V,⟨f,z,r⟩|⟨_,z⟩⟩
  .cases z
  .cases z
  .rw[V,z]
 .cases k with
  |zero=>simp?[xP]at e;cases e;exact q
  |succ k=>simp at e
 .simp at J hk;lia
 .cases k with
  |zero=>simp?[xP]at e;cases e;rfl
  |succ k=>simp at e
def gU.left{K:Φ}{os:Γ Oj}(h:gU K HF (cut H B) [a] HF' H' [] os [])(e:YH C d os=↑(d',I)):d'=d/\∃i,v8 HF H B HF' H' i/\CU K HF' i C a I:=by
 let(j,D,s,o):=h;cases os with
 |nil=>cases e
 |cons O os =>
  have e:(if O.C=C then↑_ else none)=↑_:=e;by_cases g:O.C=C
  .rw[yK g]at e;cases e;have f:0<(O::os).length:=by simp
   have A:=o.at_ 0 O rfl;rw[(o.pa 0 a rfl),g]at A;refine{rfl,s 0,{{λb u z=>o.S.gr.hh b u<|o.h0 b u z,o.S.gr.ff,o.S.gr.fh,λb u z=>?_},λb u z=>o.S.gr.hh b u<|o.sb 0 f b u z,λb u z=>{o.nf f z,(o.fr 0 f b u z).1}},A};rcases o.S.gr.nw b u z with y|y
   .exact .inl y
   .refine .inr ?_;cases c:cut H B b with
    |none=>rfl
    |some w=>have:=o.h0 b w c;grind
  .rw[yM g]at e;cases e
structure Top(X:Cx)(st:Stmt):Prop where
 hs:X.stack=X.env::X.outer
 hf:X.env.frame=↑X.env.locals
 lc:∀n,(ah st).names.lookup n=↑.local -> X.env.kindOf n=↑.local /\ X.env.scope.names.lookup n=↑.local
 nc:∀n,((ah st).names.all λy=>!(y.2==NameKind.cell))=true->X.env.cells.lookup n=none
def yl:∀(s:Γ (Str×NameKind))(n:Nat),(s.all λy=>!(y.2==NameKind.cell))=true->cellsFrom n s []=[]
 |[],_,_=>rfl
 | (x,k)::r,n,h=>by
  rw[xR,zF]at h;unfold cellsFrom;rw[yM<|by simpa using h.1];exact yl r n h.2
def QM{K:Φ}{st:Ω}:Top (qp CX P w K mg base N qual (ah st) f I A outer s H E).nox st:=⟨rfl,rfl,λn h=>⟨h,h⟩,λn h=>by
 show List.lookup n (cellsFrom _ _ [])=none;rw[yl _ _ h];rfl⟩
def QZ{K:Φ}{st:Ω}(F:zv K x qual st f fd)(S:aZ N ps (ah st))
  (body:∀X ,X.prog=P->X.w=w->X.K=K->X.mg=mg->X.base=base->Bk X N (ah st) k->Top X st->∀aaa aab pa,IA X aaa aab pa (aH st) g):dc P w K mg base rO (k+1) f fd ps (Pm K C ps.length<|hV g C N.length):=by
 let(oc,od,kV,m,pm,an,V,ct,U,rfl,L,j):=F.ex;refine n6 L j S (λvs H Q E z=>by let(i,B,a,l,st,d,T,h1,_,_,_,_,n,p,_):=z;rw[n.length,p]) λA O s H vs Q E R z=>?_;let(i,B,a,l,st,d,T,sm,tb,Z,u,J,Y,hl,D,q):=z;refine{_,(body _ rfl rfl rfl rfl rfl {rfl,S.nd,λy kd=>.inl,rfl,λ_ _=>rfl,R,rfl,S.kind} QM i (cut H B) [a]).nox,?_};let(o,G,D):=bs D;refine{i,_,_,o,F5 sm tb Z u J Y,G,?_};cases o with
 |rt d' M =>
  exactλv e b I r=>by
   let(rfl,c,t,z):=gU.left I D;exact q v e b c t z r
 |nx ρ' M =>
  exactλσ' e b I _=>by
   let(rfl,c,t,z):=gU.left I.ends D;exact q _ e b c t z (by rfl)
section
variable {K:Φ}{HF B:Hp}
def jh{f:Str}{st:Fs}{fs:Γ (Str×V)}{a:Γ Ψ}(h:iz K HF B st fs a)(e:st.lookup f=none):fs.lookup f=none:=by
 induction h with
 |nil=>rfl
 |@val g _ _ _ _ _ r h i =>
  rw[yB]at e ⊢;cases z:f==g with
  |true=>rw[z]at e;cases e
  |false=>rw[z]at e;exact i e
 |@lst g _ _ _ _ _ _ E r h i =>
  rw[yB]at e ⊢;cases z:f==g with
  |true=>rw[z]at e;cases e
  |false=>rw[z]at e;exact i e
def uv{f:Str}{d:D}{st:Fs}{fs:Γ (Str×V)}{a:Γ Ψ}(h:iz K HF B st fs a)(e:st.lookup f=↑(.val d)):∃v,fs.lookup f=↑v/\Rep K HF d v:=by
 induction h with
 |nil=>cases e
 |@val g _ _ _ _ _ r h i =>
  rw[yB]at e ⊢;cases z:f==g with
  |true=>rw[z]at e;cases e;exact{_,rfl,r}
  |false=>rw[z]at e;exact i e
 |@lst g _ _ _ _ _ _ E r h i =>
  rw[yB]at e ⊢;cases z:f==g with
  |true=>rw[z]at e;cases e
  |false=>rw[z]at e;exact i e
def gF{f:Str}{ds:Γ D}{st:Fs}{fs:Γ (Str×V)}{a:Γ Ψ}(h:iz K HF B st fs a)(e:st.lookup f=↑(.lst ds)):∃b us,fs.lookup f=↑(.ref b)/\b∈a/\B b=↑(.lst us)/\aw K HF ds us:=by
 induction h with
 |nil=>cases e
 |@val g _ _ _ _ _ r h i =>
  rw[yB]at e ⊢;cases z:f==g with
  |true=>rw[z]at e;cases e
  |false=>rw[z]at e;exact i e
 |@lst g _ _ _ _ _ _ E r h i =>
  rw[yB]at e ⊢;cases z:f==g with
  |true=>rw[z]at e;cases e;exact{_,_,rfl,zE,E,r}
  |false =>
   rw[z]at e;let(c,u,E,d,j):=i e;exact{c,u,E,zC _ d,j}
def fK(f:Str)(x:Fd):Fs->Fs
 |[]=>[(f,x)]
 | (g,y)::r=>if g=f then(g,x)::r else(g,y)::fK f x r
def Bg{f:Str}{d:D}{v:V}{st:Fs}{fs:Γ (Str×V)}{s:Γ Ψ}(r:Rep K HF d v)(h:iz K HF B st fs s)(n:s.Nodup):∃a,iz K HF B (fK f (.val d) st) (fO f v fs) a/\a.Nodup/\∀b∈a,b∈s:=by
 induction h with
 |nil=>exact{[],.val r .nil,n,λb H=>H}
 |@val g _ _ _ _ s R h I =>
  unfold fK fO;by_cases z:g=f
  .rw[yK z,yK z];exact{s,.val r h,n,λb H=>H}
  .rw[yM z,yM z];let(a,i,j,e):=I n;exact{a,.val R i,j,e}
 |@lst g _ b _ _ _ s E k h I =>
  unfold fK fO;by_cases z:g=f
  .rw[yK z,yK z];exact{s,.val r h,(List.nodup_cons.mp n).2,λb H=>zC _ H}
  .rw[yM z,yM z];let(a,i,j,e):=I (List.nodup_cons.mp n).2;refine{b::a,.lst E k i,List.nodup_cons.mpr {λq=>(List.nodup_cons.mp n).1<|e b q,j},λc hc=>?_};rcases List.mem_cons.mp hc with q|q
   .rw[q];exact zE
   .exact zC _<|e c q
end
section
variable {X:Cx}{aaa aab HF H HF' H':Hp}{pa:Γ Ψ}{ρ ρ':aq}{os os':Γ Oj}{σ σ':L2.St}{st:Ω}{rest:Γ Ω}{e a b c:γ}{es:Γ γ}{pos p px apos:Pos}{g1 g2:OG}{fa fb:OF}{ta tb:Mh}
def jo{K:Φ}{HF:Hp}{a:Ψ}:∀{ds:Γ D}{vs:Γ V},aw K HF ds vs->iP K HF a (ds.map Slot.val) vs
 |[],vs,r=>by rw[r.nil_inv];exact .nil
 |d::ds,vs,r=>by
  let(v,u,rfl,r1,R):=r.cons_inv;exact .val r1<|jo R
def obj(i:Nat)(C:Ψ)(ρ:aq)(os:Γ Oj):Δ (Nat×Fs):=match ρ[i]? with
 |some (.obj k)=>match os[k]? with
  |some o=>if o.C=C then↑(k,o.st)else none
  |none=>none
 |_=>none
def obj_some{i k:Nat}{C:Ψ}{st:Fs}(h:obj i C ρ os=↑(k,st)):ρ[i]?=↑(.obj k)/\os[k]?=↑⟨C,st⟩:=by
 unfold obj at h;split at h
 .rename_i K e;split at h
  .rename_i o E;split at h
   .rename_i a;cases h;refine{e,?_};rw[E,<-a]
   .cases h
  .cases h
 .cases h
def oq(i:Nat)(C:Ψ)(f:Str):OF:=λa o=>(obj i C a o).bind λx=>match x.2.lookup f with|some (.val d)=>↑(d,o)|_=>none
def Ue{i:Nat}{C:Ψ}{x f:Str}(p:X.N[i]?=↑x)(V:pM X.env.scope x)(l:qt X.K C)(t:bV X.K C f)(r:attributeBase (.Name x px) f X.env (eval (.Name x px) X.env)=eval (.Name x px) X.env:=by rfl)(s:(x==("__debug__":Str))=false:=by decide)(D:(x==("__classdict__":Str))=false:=by decide) :
  OE X aaa aab pa (.Attribute (.Name x px) f pos) (oq i C f):=aE (kh (aY p V s D) r) λG H Q z=>by
 let(c,y,w,d,O,S,F,q):=z;let((k,fs),n,F):=bs F;let(E,e):=obj_some n;split at F
 .rename_i u j;cases F;let(b,a,B,o):=S;let(g,L,A,f1,f2,f3,f4):=(o.at_ k _ e).ex;let(v,f5,m):=uv f3 j;exact{_,o.S.ob i k E,a k,C,g,L,v,rfl,o.S.gr.hh _ _<|o.sb k ((List.getElem?_eq_some_iff.mp e).1) _ _ f1,l,t,f5,q v H c {b,a,B,o} (.refl _) m}
 .cases F
def dE(i:Nat)(C:Ψ)(m:Str)(n:Nat)(mm:Γ Slot->Fs->Δ (D×Fs))(fs:CT):OF:=λa o=>(obj i C a o).bind λx=>if(x.2.lookup m).isNone=true then(fs a o).bind λy=>(obj i C a y.2).bind λz=>if y.1.length+1=n then(mm (.obj 0::y.1.map Slot.val) z.2).map λw=>(w.1,y.2.set z.1 {C,w.2})else none else none
def Lw{k n i:Nat}{C:Ψ}{m:Str}{mm:Γ Slot->Fs->Δ _}{fs:CT}{E:XK}:∀σ H Q,Vt X.K aaa aab pa (dE i C m n mm fs) σ H Q->Fg C m (Pm X.K C n mm) [] E (rj i) (tOA X.K aaa aab pa fs) σ H Q:=λσ H Q z=>by
 let(I,ρ,Y,d,Z,S,f,q):=z;let((k,st),P,f):=bs f;split at f
 .rename_i L;let((D,o1),R,f):=bs f;let((k2,s),T,f):=bs f;split at f
  .rename_i V;let((M,l),U,f):=af f;cases f;let(e,p):=obj_some P;let(w,j):=obj_some T;rw[e]at w;cases w;have S0:=S;let(HB,A,Bs,o):=S;let(N,W,as,f1,f2,f3,f4):=(o.at_ k _ p).ex;refine{_,o.S.ob i k e,A k,N,W,rfl,o.S.gr.hh _ _<|o.sb k ((List.getElem?_eq_some_iff.mp p).1) _ _ f1,jh f3 (by cases z:st.lookup m with|none=>rfl|some _=>rw[z]at L;cases L),I,ρ,Y,D,o1,S0,R,λvs H1 c J s1 r1=>?_};let(G,g,B,O):=J;have a:=(List.getElem?_eq_some_iff.mp j).1;have x:g k=A k:=by
    have z1:=O.S.ob i k e;rw[(o.S.ob i k e)]at z1;injection z1 with z1
    injection z1 with z1
    injection z1 with z1
    exact z1.symm
   rw[qD];exact{c,B k,A k,.obj 0::D.map _,s,M,l,O.S.gr.fh,O.S.tb,λb u z=>O.S.gr.hh b u<|O.sb k a b u z,λb u=>O.nf a,x▸O.at_ k _ j,.obj<|jo r1,by simpa using V,U,λv y F B' t z r=>(q v y F {_,_,_,O.turn j t<|x▸z} (s1.trans t.gr.ff) r)}
  grind
 grind
end
structure UT(P:Program)(w:World)(K:W.Frag)(mg:Str->Option Value)(base:Heap)(k:Nat)(C:Addr)(m:Str)(n:Nat)(mm:List Slot->Fs->Option (D×Fs)):Prop where
 ex:∃ (f:Ψ) (fd:η) (ps:Γ Str),dc P w K mg base rO k f fd ps (Pm K C n mm)/\vp K C m f/\Binds K fd ps []
def UT.mono{K:Φ}{mm:Γ Slot->Fs->Δ _}(F:UT P w K mg base k C m n mm)(h:k<=j):UT P w K mg base j C m n mm:=by
 let(f,d,p,a,b,c):=F.ex;exact{f,d,p,a.mono h,b,c}
section
variable {os os':Γ Oj}{st:Ω}{rest:Γ Ω}
def Pu{mm:Γ Slot->Fs->Δ (D×Fs)}{fs:CT}{pl:Sem θ}(F:UT X.prog X.w X.K X.mg X.base k C m n mm)(r:cA k X.A)(H:X.N[i]?=↑x)(v:pM X.env.scope x)(c:qt X.K C)(a:OA X aaa aab pa (e::es) fs)
  (g:(x==("__debug__":Str))=false:=by decide)(d:(x==("__classdict__":Str))=false:=by decide)
  (t:starEach (e::es) X.env=(false,eval e X.env)::starEach es X.env:=by rfl)(l:(backTo pos<|starEach es X.env).any (·.1)=false:=by rfl)
  (ht:eval (.Call (.Attribute (.Name x px) m apos) (e::es) [] pos) X.env=(do
   let ov <- eval (.Name x px) X.env
   standAt apos.atName
   let (f,first) <- holding [ov]<|getMethod ov m pl
   callWith pos f first (backTo pos<|starEach (e::es) X.env) (backToKw pos<|keywordEach [] X.env)):=by rfl) :
  OE X aaa aab pa (.Call (.Attribute (.Name x px) m apos) (e::es) [] pos) (dE i C m n mm fs):=by
 let(f,j,p,o,M,b):=F.ex;exact aE (oG (aY H v g d) c M o r b .nil o7 a t l ht)<|Lw (k:=k)
def JP{mm:Γ Slot->Fs->Δ (D×Fs)}{pl:Sem θ}(F:UT X.prog X.w X.K X.mg X.base k C m n mm)(R:cA k X.A)(p:X.N[i]?=↑x)(V:pM X.env.scope x)(c:qt X.K C)
  (r:(x==("__debug__":Str))=false:=by decide)(d:(x==("__classdict__":Str))=false:=by decide)
  (ht:eval (.Call (.Attribute (.Name x px) m apos) [] [] pos) X.env=(do
   let ov <- eval (.Name x px) X.env
   standAt apos.atName
   let (f,first) <- holding [ov]<|getMethod ov m pl
   callWith pos f first (backTo pos<|starEach [] X.env) (backToKw pos<|keywordEach [] X.env)):=by rfl) :
  OE X aaa aab pa (.Call (.Attribute (.Name x px) m apos) [] [] pos) (dE i C m n mm iA):=by
 let(f,z,P,O,M,B):=F.ex;refine aE (Bc (aY p V r d) c M O R B .nil o7 ht) λu H Q h=>?_;let(v,g,a,e,fs,j,l,o,b,I,G,y,t,S,s,q):=Lw (k:=k) (E:=E0) u H Q h;cases s;exact{v,g,a,e,fs,j,l,o,q [] H b S (.refl _) .nil}
def mI{HF H B:Hp}{a:Ψ}{o u:HO}(s:aA B H)(n:∀b o,B b=↑o->HF b=none)(fh:aA HF H)(e:B a=↑o):v8 HF H B HF (upd H a u) (upd B a u) where
 gr:=by
  refine{λb w z=>?_,.refl _,λb w z=>?_,λb w=>.inl}
  .rw[ar<|(λb w z q=>by rw[q,qj e]at z;grind:∀b w,cut H B b=↑w->b≠a) b w z];exact(eh z).1
  .rw[ar λq=>by grind];exact fh b w z
 sb:=λb w z=>by
  by_cases q:b=a
  .rw[q,av]at z ⊢;lia
  .rw[ar q]at z ⊢;exact s b w z
 nw:=λb w z=>by
  by_cases q:b=a
  .rw[q];exact{n a o e,qj e}
  .rw[ar q]at z;exact{n b w z,qj z}
def Nq(s:aA B H)(n:∀b o,B b=↑o->HF b=none)(G:bo HF H HF' H')(d:H l=none)(a:HF' l=none)(e:H' l=↑(.lst us)):v8 HF H B HF' H' (upd B l<|.lst us) where
 gr:=⟨λb w z=>G.hh b w (eh z).1,G.ff,G.fh,λb w z=>(G.nw b w z).imp id λq=>by
  cases c:cut H B b with
  |none=>rfl
  |some y=>have:=(eh c).1;grind⟩
 sb:=λb w z=>by
  by_cases q:b=l
  .rw[q]at z ⊢;rw[av]at z;grind
  .rw[ar q]at z;exact G.hh b w<|s b w z
 nw:=λb w z=>by
  by_cases q:b=l
  .rw[q];refine{a,?_};cases c:cut H B l with
   |none=>rfl
   |some y=>have:=(eh c).1;grind
  .rw[ar q]at z;exact{G.aaH (n b w z)<|s b w z,qj z}
def tI(i:Nat)(C:Ψ)(f:Str)(e:OF):OG:=λa o=>(e a o).bind λx=>(obj i C a x.2).bind λy=>if y.2.length<1000 then↑(.nx a<|x.2.set y.1 {C,fK f (.val x.1) y.2})else none
def uA{K:Φ}{st:Fs}{fs:Γ _}(h:iz K HF B st fs as):fs.length=st.length:=by
 induction h with
 |nil=>rfl
 |val _ _ i=>exact qZ _ i
 |lst _ _ _ i=>exact qZ _ i
def Tu{K:Φ}{st:Fs}{fs:Γ _}(h:iz K HF B st fs as):∀b∈as,∃us,B b=↑(.lst us):=by
 induction h with
 |nil=>simp
 |val _ _ i=>omega
 |lst e _ _ i =>
  intro b H;rcases List.mem_cons.mp H with q|q
  .rw[q];exact{_,e}
  .exact i b q
def PY(y:OE X aaa aab pa e fa)(t:X.N[i]?=↑x)(V:pM X.env.scope x)(L:qt X.K C)(G:bV X.K C f)
  (B:swapsWith e (↑(.Attribute (.Name x px) f pos')) pos.line X.env=pure false:=by rfl)(w:(x=="__debug__")=false:=by decide)(j:(x=="__classdict__")=false:=by decide) :
  OS X aaa aab pa (.Assign [.Attribute (.Name x px) f pos'] e pos) (tI i C f fa):=bp (Da (aY t V w j) y B) λE P H z=>by
 let(F,M,I,o,S,g,q):=z;let((d,o1),p,g):=bs g;let((k,st),r,g):=bs g;split at g
 .cases g;let(m,c):=obj_some r;refine{F,M,I,d,o1,S,p,λv R a z J r1=>?_};let(T,A,Q,O):=z;have l:=(List.getElem?_eq_some_iff.mp c).1;let(D,fs,U,f1,f2,f3,f4):=(O.at_ k _ c).ex;refine{_,O.S.ob i k m,A k,C,D,fs,rfl,O.S.gr.hh _ _<|O.sb k l _ _ f1,L,G,by rw[uA f3];lia,?_};let(s,f5,n,W):=Bg r1 f3 f4;refine q P _ a {_,_,_,O.turn c (mI (u:=.ins C D<|fO f v fs) (λb u z=>O.S.gr.hh b u<|O.sb k l b u z) (λb u=>O.nf l) O.S.gr.fh f1) {D,fO f v fs,s,av,?_,f5.imp (.refl _) λb Y Z z=>?_,n}} J
  .rw[ar λz=>by grind];lia
  .rw[ar λz'=>by grind];lia
 grind
end
section
variable {K:Φ}
def Iu{st:Fs}{fs:Γ (Str×V)}(r:aw K HF ds us)(j:B l=↑(.lst us))(h:iz K HF B st fs s)(n:s.Nodup)(L:l∉s):∃a,iz K HF B (fK f (.lst ds) st) (fO f (.ref l) fs) a/\a.Nodup/\∀b∈a,b=l\/b∈s:=by
 induction h with
 |nil=>exact{[l],.lst j r .nil,by simp,λb i=>.inl<|by simpa using i}
 |@val g _ _ _ _ s R h I =>
  unfold fK fO;by_cases z:g=f
  .rw[yK z,yK z];exact{l::s,.lst j r h,List.nodup_cons.mpr {L,n},λb i=>List.mem_cons.mp i}
  .rw[yM z,yM z];let(a,d,e,H):=I n L;exact{a,.val R d,e,H}
 |@lst g _ b _ _ _ s E k h I =>
  have N:l∉s:=λq=>L<|zC _ q;unfold fK fO;by_cases z:g=f
  .rw[yK z,yK z];exact{l::s,.lst j r h,List.nodup_cons.mpr {N,(List.nodup_cons.mp n).2},λc hc=>(List.mem_cons.mp hc).imp id<|zC _}
  .rw[yM z,yM z];let(a,d,e,H):=I (List.nodup_cons.mp n).2 N;refine{b::a,.lst E k d,List.nodup_cons.mpr {λq=>?_,e},λc hc=>?_}
   .rcases H b q with y|y
    .exact L (by rw[<-y];exact zE)
    .exact (List.nodup_cons.mp n).1 y
   .rcases List.mem_cons.mp hc with q|q
    .exact .inr (by rw[q];exact zE)
    .exact (H c q).imp id<|zC _
def uh{st:Fs}{fs:Γ (Str×V)}(r:aw K HF I U)(h:iz K HF B st fs a)(n:a.Nodup)(e:st.lookup f=↑(.lst ds))(E:fs.lookup f=↑(.ref b)):iz K HF (upd B b<|.lst U) (fK f (.lst I) st) fs a:=by
 induction h with
 |nil=>cases e
 |@val g _ _ _ _ _ R h i =>
  rw[yB]at e E;cases z:f==g with
  |true=>rw[z]at e;cases e
  |false =>
   rw[z]at e E;unfold fK;rw[yM λq=>by rw[q]at z;simp at z];exact .val R (i n e E)
 |@lst g _ c u _ fs a H k h i =>
  rw[yB]at e E;unfold fK;cases z:f==g with
  |true =>
   rw[z]at e E;cases E;rw[yK<|by simpa using (beq_iff_eq.mp z).symm];refine .lst av r<|h.imp (.refl _) λq Q w Z=>?_;rw[ar λy=>(List.nodup_cons.mp n).1 (by rw[<-y];exact Q)];exact Z
  |false =>
   rw[z]at e E;rw[yM λq=>by rw[q]at z;simp at z];let(l,w,G,j,m,_):=gF h e;have d:fs.lookup f=↑(.ref b):=E;rw[d]at G;cases G;refine .lst ?_ k<|i (List.nodup_cons.mp n).2 e d;rw[ar λy=>(List.nodup_cons.mp n).1 (by rw[y];exact j)];exact H
end
section
variable {os os':Γ Oj}{st:Ω}{rest:Γ Ω}
def v8.up{HF H B c d a:Hp}(t:v8 HF H B c d a){b:Ψ}{o:HO}(z:cut H B b=↑o):cut d a b=↑o:=by
 apply k8<|t.gr.hh b o z;cases y:a b with
 |none=>rfl
 |some u=>rw[(t.nw b u y).2]at z;grind
def v8.down{HF H B a d c:Hp}(t:v8 HF H B a d c){b:Ψ}(z:cut d c b=none):cut H B b=none:=by
 cases y:cut H B b with
 |none=>rfl
 |some u=>rw[t.up y]at z;lia
def v8.trans(t:v8 HF H B I H1 B1)(t':v8 I H1 B1 U H2 B2):v8 HF H B U H2 B2 where
 gr:=⟨λb o z=>t'.gr.hh b o<|t.up z,t.gr.ff.trans t'.gr.ff,t'.gr.fh,λb o z=>by
  rcases t'.gr.nw b o z with y|y
  .exact t.gr.nw b o y
  .exact .inr<|t.down y⟩
 sb:=t'.sb
 nw:=λb o z=>{(t'.nw b o z).1,t.down (t'.nw b o z).2}
def uy(i:Nat)(C:Ψ)(f:Str)(fl:Dl.Env->Δ (Γ D)):OG:=λa o=>(fl<|bx a).bind λd=>(obj i C a o).bind λy=>if y.2.length<1000 then↑(.nx a<|o.set y.1 {C,fK f (.lst d) y.2})else none
def Nd(W:DF X e fl)(T:X.N[i]?=↑x)(hv:pM X.env.scope x)(I:qt X.K C)(nf:bV X.K C f)
  (Z:swapsWith e (↑(.Attribute (.Name x px) f pos')) pos.line X.env=pure false:=by rfl)(V:(x==("__debug__":Str))=false:=by decide)(D:(x==("__classdict__":Str))=false:=by decide) :
  OS X aaa aab pa (.Assign [.Attribute (.Name x px) f pos'] e pos) (uy i C f fl):=bp (Da (aY T hv V D) W Z) λE σ H z=>by
 let(r,ρ,os,o,S,g,q):=z;let(J,Q,g):=bs g;let((k,st),R,g):=bs g;split at g
 .rename_i hl;cases g;let(M,c):=obj_some R;refine{r,bx ρ,J,S.fh,S.frz,Q,λl us H1 a G p n2 n3 r1=>?_};let(HB,A,B,O):=S;have m:k<os.length:=(List.getElem?_eq_some_iff.mp c).1;let(d,fs,v,f1,f2,f3,f4):=(O.at_ k _ c).ex;have j:=λb u z=>O.S.gr.hh b u<|O.sb k m b u z;have nB:B k l=none:=by
   cases z:B k l with
   |none=>rfl
   |some u=>rw[j l u z]at p;lia
  have t:=Nq j (λb u=>O.nf m) G p n2 n3;have n:∀b u,B k b=↑u->b≠l:=λb u z y=>by grind
  refine{_,O.S.ob i k M,A k,C,d,fs,rfl,G.hh _ _<|j _ _ f1,I,nf,by rw[uA f3];lia,?_};have L:l∉v:=λY=>by
   let(w,z):=Tu f3 l Y
   grind
  have F:upd (B k) l (.lst us) (A k)=↑(.ins C d fs):=by rw[ar<|n _ _ f1];lia
  let(s,f5,P,f7):=Iu r1 av (f3.imp G.ff λb U w z=>by rw[ar<|n _ _ z];omega) f4 L;refine q σ _ a {_,_,_,O.turn c (t.trans<|mI (u:=.ins C d<|fO f (.ref l) fs) t.sb (λb u z=>(t.nw b u z).1) t.gr.fh F) {d,fO f _ fs,s,av,?_,f5.imp (.refl _) λb U w z=>?_,P}} G.ff
  .rw[ar λz=>by grind,ar<|n _ _ f2];lia
  .rw[ar λz'=>by grind];lia
 grind
abbrev RF:=aq->Γ Oj->Δ D
abbrev Iy:=aq->Γ Oj->Δ (Γ D)
def tOR(K:Φ)(aaa aab:Hp)(pa:Γ Ψ)(f:RF):TE:=λe H Q=>∃b c o d,gU K aaa aab pa b H c o e/\f c o=↑d/\∀v a F,bo b H F a->Rep K F d v->Q v a
def OR(X:Cx)(aaa aab:Hp)(pa:Γ Ψ)(e:γ)(f:RF):Prop:=PE X e<|tOR X.K aaa aab pa f
def WW(K:Φ)(aaa aab:Hp)(pa:Γ Ψ)(f:Iy):TA:=λe H Q=>∃b c o d,gU K aaa aab pa b H c o e/\f c o=↑d/\∀v a F,bo b H F a->aw K F d v->Q v a
def UG(X:Cx)(aaa aab:Hp)(pa:Γ Ψ)(es:Γ γ)(f:Iy):Prop:=PA X es<|WW X.K aaa aab pa f
def oR(f:RF):OF:=λa o=>(f a o).map (·,o)
def OR.oe(h:OR X aaa aab pa e f):OE X aaa aab pa e (oR f):=aE h λi H Q z=>by
 let(b,g,o,d,s,S,c,q):=z;let(D,E,z):=af c;cases z;exact{b,g,o,d,S,E,λv a F G=>q v a F (S.grow G) G.ff}
def rD(f:Dl.Env->Δ D):RF:=λa _=>f<|bx a
def NO(h:DE X e f):OR X aaa aab pa e (rD f):=aE h λi H Q z=>by let(b,g,o,d,S,c,q):=z;exact {b,bx g,d,S.fh,S.frz,c,λv a F G=>q v a F G}
def BP(i:Nat)(C:Ψ)(f:Str):RF:=λa o=>(obj i C a o).bind λx=>match x.2.lookup f with|some (.val d)=>↑d|_=>none
def R6(n:X.N[i]?=↑x)(V:pM X.env.scope x)(c:qt X.K C)(p:bV X.K C f)(B:attributeBase (.Name x px) f X.env (eval (.Name x px) X.env)=eval (.Name x px) X.env:=by rfl)(m:(x==("__debug__":Str))=false:=by decide)(D:(x==("__classdict__":Str))=false:=by decide) :
  OR X aaa aab pa (.Attribute (.Name x px) f pos) (BP i C f):=aE (kh (aY n V m D) B) λG H Q z=>by
 let(a,y,O,d,S,F,q):=z;let((k,fs),l,F):=bs F;let(E,e):=obj_some l;split at F
 .rename_i w g;cases F;let(t,A,r,o):=S;let(b,s,u,f1,f2,f3,f4):=(o.at_ k _ e).ex;let(v,f5,j):=uv f3 g;have L:k<O.length:=(List.getElem?_eq_some_iff.mp e).1;exact{_,o.S.ob i k E,A k,C,b,s,v,rfl,o.S.gr.hh _ _<|o.sb k L _ _ f1,c,p,f5,q v H a (.refl o.S.gr.fh) j}
 .cases F
def qg:Iy:=λ_ _=>↑[]
def e9(f:RF)(g:Iy):Iy:=λa o=>(f a o).bind λx=>(g a o).map (x::·)
def MX:UG X aaa aab pa [] qg:=iV bJ λb H Q z=>by let(F,a,o,d,S,f,q):=z;cases f;exact q [] H F (.refl S.fh) .nil
def Lo(E:OR X aaa aab pa e f)(s:UG X aaa aab pa es g)(t:starEach (e::es) X.env=(false,eval e X.env)::starEach es X.env:=by rfl):UG X aaa aab pa (e::es) (e9 f g):=
 iV (aL E s t) λp H Q z=>by
  let(k,i,o,d,S,F,q):=z;let(x,l,F):=bs F;let(m,y,z):=af F;cases z;exact{k,i,o,x,S,l,λv n a G r1=>{a,i,o,m,S.grow G,y,λV j b c r=>q _ j b (G.trans c)<|aw.cons (r1.mono c.ff) r}}
end
section
variable {X:Cx}{aaa aab HF H HF' H':Hp}{pa:Γ Ψ}{ρ ρ':aq}{os os':Γ Oj}{σ σ':L2.St}{st:Ω}{rest:Γ Ω}{e a b c:γ}{es:Γ γ}{pos p px apos cpos ab6:Pos}{g1 g2:OG}{fa fb:OF}{ta tb:Mh}
def Ih(fs:Iy):RF:=λa o=>(fs a o).bind λd=>(small d).map PyData.tuple
def UQ{x1}{fs:Iy}(h:UG X aaa aab pa es fs):OR X aaa aab pa (.Tuple es x1 pos) (Ih fs):=aE (zk h) λi H Q z=>by
 let(F,b,o,d,S,f,q):=z;let(D,x,f):=bs f;let(s,e,z):=af f;cases z;let(rfl,Z):=eJ e;exact{F,b,o,_,S,x,λv c a g r1=>{by rw[r1.length];lia,λp P=>q _ _ _ (g.trans<|.new g.fh P)<|{p,v,rfl,.inl<|.inl av,r1.mono<|cS<|g.fh.free P}}}
def Ff{st:Fs}{ad:Nat->Ψ}(o:pP X.K aaa aab pa HF H ρ os σ HB ad Bs)(E:ρ[i]?=↑(Slot.obj k))(e:os[k]?=↑⟨C,st⟩)(j:st.lookup f=↑(.lst ds))(c:qt X.K C)(n:bV X.K C f)
  (q:∀d fs a b us,Bs k (ad k)=↑(.ins C d fs)->Bs k d=↑(.own<|ad k)->iz X.K HF (Bs k) st fs a->a.Nodup->fs.lookup f=↑(.ref b)->Bs k b=↑(.lst us)->aw X.K HF ds us->Q (.ref b) H):Jc X.K (rj i) f σ H Q:=by
 let(d,fs,a,f1,f2,f3,f4):=(o.at_ k _ e).ex;let(b,us,g,m,G,l):=gF f3 j;exact{_,o.S.ob i k E,ad k,C,d,fs,.ref b,rfl,o.S.gr.hh _ _<|o.sb k ((List.getElem?_eq_some_iff.mp e).1) _ _ f1,c,n,g,q d fs a b us f1 f2 f3 f4 g G l}
def Bu(i:Nat)(C:Ψ)(f:Str)(e:RF):OG:=λa o=>(obj i C a o).bind λy=>match y.2.lookup f with
 |some (.lst s)=>(e a o).bind λd=>if s.length<sizeLine then↑(.nx a<|o.set y.1 {C,fK f (.lst<|s++[d]) y.2})else none
 |_=>none
def M4(Z:OR X aaa aab pa e fe)(V:X.N[i]?=↑x)(hv:pM X.env.scope x)(M:qt X.K C)(nf:bV X.K C f)
  (W:attributeBase (.Name x px) f X.env (eval (.Name x px) X.env)=eval (.Name x px) X.env:=by rfl)(Y:(x==("__debug__":Str))=false:=by decide)(D:(x=="__classdict__")=false:=by decide)
  (j:attributeBase (.Attribute (.Name x px) f ab6) "append" X.env (eval (.Attribute (.Name x px) f ab6) X.env)=eval (.Attribute (.Name x px) f ab6) X.env:=by rfl)
  (A:((backTo cpos<|starEach [e] X.env).all (λx=>!x.1)&&(backToKw cpos<|keywordEach [] X.env).all (λx=>x.1.isSome)&&decide ([e].length+([]:Γ Keyword).length+(if([]:Γ Keyword).isEmpty then 0 else 1)<30))=true:=by rfl)
  (l:(apos.endLine==cpos.line)=true:=by rfl)(y:starEach [e] X.env=(false,eval e X.env)::starEach [] X.env:=by rfl)(w:swapsWith (.Call (.Attribute (.Attribute (.Name x px) f ab6) "append" apos) [e] [] cpos) none pos.line X.env=pure false:=by rfl) :
  OS X aaa aab pa (.Expr (.Call (.Attribute (.Attribute (.Name x px) f ab6) "append" apos) [e] [] cpos) pos) (Bu i C f fe):=
 bp (hU (pq qK PySem.F.slot_list_append PySem.F.type_list_append mG (kh (aY V hv Y D) W) (aL Z bJ y) j A l y rfl) w) λE σ H z=>by
  let(I,ρ,os,o,S,g,q):=z;let((k,st),T,g):=bs g;let(Q,m):=obj_some T;split at g
  .rename_i ds n;let(d,U,g):=bs g;split at g
   .cases g;have S0:=S;let(HB,ad,Bs,a):=S;have L:=(List.getElem?_eq_some_iff.mp m).1;unfold FK X8;refine Ff a Q m n M nf λP fs J b s f1 f2 f3 f4 R p t=>?_;have B:=a.S.gr.hh _ _<|a.sb k L _ _ p;refine{.inl {rfl,s,.of B},I,ρ,os,d,S0,U,λv H1 c G r=>({b,s,v,rfl,rfl,G.hh _ _ B,by rw[t.length];lia,?_})};have O:=a.pure (a.S.grow G) G.ff;refine q σ _ c {_,_,_,O.turn m (mI (u:=.lst<|s++[v]) (λb u z=>O.S.gr.hh b u<|O.sb k L b u z) (λb u=>O.nf L) O.S.gr.fh p) {P,fs,J,?_,?_,(uh ((t.mono G.ff).append<|aw.cons r .nil) (f3.imp G.ff λ_ _ _ z=>z) f4 n R),f4}} G.ff
    .rw[ar λz=>by grind];lia
    .rw[ar λz=>by grind];lia
   grind
  grind
def ye(i:Nat)(C:Ψ)(f:Str):RF:=λa o=>(obj i C a o).bind λy=>match y.2.lookup f with
 |some (.lst d)=>↑(.int d.length)
 |_=>none
def OJ(B:sx X "len" (.builtin "len"))(n:X.N[i]?=↑x)(v:pM X.env.scope x)(c:qt X.K C)(t:bV X.K C f)
  (r:attributeBase (.Name x px) f X.env (eval (.Name x px) X.env)=eval (.Name x px) X.env:=by rfl)(s:(x==("__debug__":Str))=false:=by decide)(D:(x==("__classdict__":Str))=false:=by decide)
  (E:starEach [.Attribute (.Name x px) f ab6] X.env=(false,eval (.Attribute (.Name x px) f ab6) X.env)::starEach [] X.env:=by rfl) :
  OR X aaa aab pa (.Call (.Name "len" p) [.Attribute (.Name x px) f ab6] [] pos) (ye i C f):=
 aE (mh oJ B.gl B.mg B.bt (aL (kh (aY n v s D) r) bJ E) (by decide) (by decide) E rfl) λw H Q z=>by
  let(a,T,O,d,S,F,q):=z;let((k,st),m,F):=bs F;let(g,e):=obj_some m;split at F
  .rename_i M j;cases F;let(A,I,y,o):=S;have L:k<O.length:=(List.getElem?_eq_some_iff.mp e).1;show Jc X.K (rj i) f w H _;refine Ff o g e j c t λP fs J b u f1 f2 f3 f4 R G l=>?_;exact{b,u,rfl,.inl<|iL.of<|o.S.gr.hh _ _<|o.sb k L _ _ G,q _ H a (.refl o.S.gr.fh)<|by simp[Rep,l.length]}
  .cases F
end
section
variable {K:Φ}{os os':Γ Oj}{ad:Nat->Ψ}
def Jd(H B:Hp):Hp:=λb=>match H b with|some o=>↑o|none=>B b
def QI(h:H b=↑o):Jd H B b=↑o:=by unfold Jd;rw[h]
def LA(h:H b=none):Jd H B b=B b:=by unfold Jd;rw[h]
def J6(h:Jd H B b=↑o):H b=↑o\/(H b=none/\B b=↑o):=by
 unfold Jd at h
 grind
def pP.make{aaa aab HF H HF' H':Hp}{pa:Γ Ψ}{ρ:aq}{σ:L2.St}{HB:Hp}{Bs:Nat->Hp}(h:pP K aaa aab pa HF H ρ os σ HB ad Bs)(t:v8 HF Hn U HF' H' B')(B:∀b o,H b=↑o->cut Hn U b=↑o)(q:CU K HF' B' C x I)(N:∀(i k:Nat),ρ[i]?=↑(Slot.obj k)->k<os.length) :
  pP K aaa aab pa HF' H' ρ (os++[{C,I}]) σ (Jd HB B') (λj=>if j=os.length then x else ad j) (λj=>if j=os.length then B' else Bs j):=by
 have g:=h.S.gr;have m:aA HB H:=g.hh;have f:∀b o,B' b=↑o->H b=none:=λb o e=>by
  cases z:H b with
  |none=>rfl
  |some u=>have:=(t.nw b o e).2;rw[B b u z]at this;cases this
 have n:∀b o,B' b=↑o->HB b=none:=λb o e=>by
  cases z:HB b with
  |none=>rfl
  |some u=>have:=f b o e;rw[m b u z]at this;lia
 have G:bo aaa (Jd HB B') HF' H':=by
  refine{λb o e=>?_,g.ff.trans t.gr.ff,t.gr.fh,λb o e=>?_}
  .rcases J6 e with z|⟨_,z⟩
   .exact t.gr.hh b o<|B b o<|m b o z
   .exact t.sb b o z
  .have N:B' b=none:=by
    cases z:B' b with
    |none=>rfl
    |some u=>rw[(t.nw b u z).1]at e;grind
   have fin:HB b=none->Jd HB B' b=none:=λz=>by rw[LA z];lia
   rcases t.gr.nw b o e with z|z
   .rcases g.nw b o z with y|y<;>grind
   .refine .inr<|fin ?_;cases y:HB b with
    |none=>rfl
    |some u=>rw[B b u<|m b u y]at z;lia
 have l:∀{j:Nat},j<(os++[{C,I}]:Γ Oj).length->j≠os.length->j<os.length:=λ{j}D F=>by
  grind
 refine{Cf h.S G t.gr.ff (λb o s v=>?_) λi k e=>yM<|yQ<|N i k e,λb o e=>QI<|h.h0 b o e,λj o e=>?_,λj J b o e=>?_,λj J b o e=>?_,λi j p J E b o e=>?_,by rw[zN];exact yD h.pl<|jS _ _,λk a e=>?_}
 .have ch:=B b o v;refine{t.gr.hh b o ch,?_,λw=>t.gr.aaH w ch};show Jd HB B' b=none;rw[LA s];cases z:B' b with
  |none=>rfl
  |some u=>grind
 .show CU K HF' (if j=os.length then B' else Bs j) o.C (if j=os.length then x else ad j) o.st;by_cases J:j=os.length
  .rw[yK J,yK J];rw[J,yS<|yL _,Nat.sub_self]at e;cases e;exact q
  .rw[yM J,yM J];rw[yR<|l (List.getElem?_eq_some_iff.mp e).1 J]at e;exact(h.at_ j o e).mono t.gr.ff
 .by_cases c:j=os.length
  .rw[yK c]at e;rw[LA<|n b o e];lia
  .rw[yM c]at e;exact QI<|h.sb j (l J c) b o e
 .by_cases c:j=os.length
  .rw[yK c]at e;have A:=n b o e;refine{?_,?_}
   .cases z:aab b with
    |none=>rfl
    |some u=>rw[h.h0 b u z]at A;lia
   .cases z:aaa b with
    |none=>rfl
    |some u=>have:=(t.nw b o e).1;rw[t.gr.ff b u<|g.ff b u z]at this;lia
  .rw[yM c]at e;exact h.fr j (l J c) b o e
 .by_cases d:i=os.length
  .rw[yK d]at e;have r:j≠os.length:=λz=>E<|d.trans z.symm;rw[yM r];cases z:Bs j b with
   |none=>rfl
   |some u=>have:=h.sb j (l J r) b u z;rw[n b o e]at this;cases this
  .rw[yM d]at e;by_cases c:j=os.length
   .rw[yK c];cases z:B' b with
    |none=>rfl
    |some u=>have:=h.sb i (l p d) b o e;grind
   .rw[yM c];exact h.dj i j (l p d) (l J c) E b o e
 .rw[yM<|yQ<|zP (List.getElem?_eq_some_iff.mp e).1 h.pl];exact h.pa k a e
def PL{aab:Hq}(S:gJ K aaa aab HF H ρ σ):gJ K aaa aab HF H (ρ.set i<|.obj k) (σ.set i<|↑(.ref<|aab.ad k)):=by
 have N:∀{j:Nat}{s:Slot},(ρ.set i<|.obj k)[j]?=↑s->s≠.obj k->i≠j/\ρ[j]?=↑s:=λ{j s}h m=>by
  rw[xH]at h;by_cases J:i=j
  .rw[yK J]at h;split at h
   .cases h;exact absurd rfl m
   .cases h
  .rw[yM J]at h;exact⟨J,h⟩
 refine{S.gr,λj e h=>?_,λj d h=>?_,λj k d E a b c g l=>?_,by rw[yC,yC];exact S.len,S.tb,λj f h=>?_,λj k f o b c=>S.one j k f o (N b λz=>by cases z).2 (N c λz=>by cases z).2,λj n h=>?_}
 .let(J,h):=N h λz=>by cases z
  rw[xH,yM J];exact S.val j e h
 .let(J,h):=N h λz=>by cases z
  rw[xH,yM J];exact S.own j d h
 .let(p,b):=N b λz=>by cases z
  let(q,c):=N c λz=>by cases z
  rw[xH,yM p]at g;rw[xH,yM q]at l;exact S.inj j k d E a b c g l
 .let(J,h):=N h λz=>by cases z
  rw[xH,yM J];exact S.tab j f h
 .rw[xH]at h ⊢;by_cases J:i=j
  .rw[yK J]at h ⊢;split at h
   .rename_i L;cases h;rw[yK<|zP L S.len]
   .cases h
  .rw[yM J]at h ⊢;exact S.ob j n h
end
section
variable {os os':Γ Oj}{st:Ω}{rest:Γ Ω}
def below(n:Nat):Slot->θ|.obj k=>decide (k<n)|_=>true
end
def ma(s:aA B H)(n:∀b o,B b=↑o->HF b=none)(G:bo HF H HF' H'):v8 HF H B HF' H' B where
 gr:=⟨λb w z=>G.hh b w (eh z).1,G.ff,G.fh,λb w z=>(G.nw b w z).imp id λq=>by
  cases c:cut H B b with
  |none=>rfl
  |some y=>have:=(eh c).1;grind⟩
 sb:=s.trans G.hh
 nw:=λb w z=>{G.aaH (n b w z)<|s b w z,qj z}
def v8.hn(t:v8 HF H B HF' H' B'):∀b o,B' b=↑o->HF' b=none:=λb o z=>(t.nw b o z).1
def lH(f g:Str)(x:Fd):∀st:Fs,g≠f->(fK f x st).lookup g=st.lookup g
 |[],h=>by
  show List.lookup g [(f,x)]=none;rw[yB];cases z:g==f with
  |true=>exact absurd (beq_iff_eq.mp z) h
  |false=>rfl
 | (k,y)::r,h=>by
  unfold fK;by_cases q:k=f
  .rw[yK q,yB,yB];cases z:g==k with
   |true=>exact absurd ((beq_iff_eq.mp z).trans q) h
   |false=>rfl
  .rw[yM q,yB,yB,lH f g x r h]
def gx:Str:="present"
def Vf(f g:Str)(st:Fs):Δ (D×Fs):=match st.lookup f with
 |some (.lst d)=>match st.lookup g with
  |some (.lst e)=>match st.lookup gx with
   |some (.val q)=>match d[d.length-1]? with
    |some (.tuple [w,p])=>if e.length<sizeLine/\st.length<1000 then↑(w,fK gx (.val p)<|fK g (.lst<|e++[.tuple [w,q]])<|fK f (.lst d.dropLast) st)else none
    |_=>none
   |_=>none
  |_=>none
 |_=>none
def B5{st:Fs}(h:Vf f g st=↑(d,I)):∃ds es q p,st.lookup f=↑(.lst ds)/\st.lookup g=↑(.lst es)/\st.lookup gx=↑(.val q)/\ds[ds.length-1]?=↑(.tuple [d,p])/\es.length<sizeLine/\st.length<1000/\I=fK gx (.val p) (fK g (.lst<|es++[.tuple [d,q]])<|fK f (.lst ds.dropLast) st):=by
 unfold Vf at h;split at h
 .rename_i ds E;split at h
  .rename_i es a;split at h
   .rename_i q b;split at h
    .rename_i w p c;split at h
     .rename_i e;cases h;exact{ds,es,q,p,E,a,b,c,e.1,e.2,rfl}
     .cases h
    .cases h
   .cases h
  .cases h
 .cases h
def R9(K:Φ)(C:Ψ)(f g:Str):Sp:=λV H Q _=>∃c B a st x fs A j k d s,V=[.ref a,.ref j,.ref k]/\aA c H/\bN K c/\aA B H/\(∀b o,B b=↑o->c b=none)/\B a=↑(.ins C x fs)/\B x=↑(.own a)/\iz K c B st fs A/\A.Nodup /\
 fs.lookup f=↑(.ref j)/\fs.lookup g=↑(.ref k)/\Vf f g st=↑(d,s)/\∀v i F e,v8 c H B F i e->CU K F e C a s->Rep K F d v->Q v i
section
variable {K:Φ}
def Ib(r:aw K HF ds us)(h:ds[ds.length-1]?=↑d):∃v,us[us.length-1]?=↑v/\Rep K HF d v:=by
 let(v,H,R):=r.getD h;exact{v,by rw[r.length];lia,R}
def yq:∀{ds:Γ D}{us:Γ V},aw K HF ds us->aw K HF ds.dropLast us.dropLast
 |[],us,r=>by rw[r.nil_inv];rfl
 |[d],us,r=>by
  let(v,s,rfl,_,R):=r.cons_inv;rw[R.nil_inv];rfl
 |d::a::ds,us,r=>by
  let(v,s,rfl,r1,R):=r.cons_inv;let(e,S,rfl,b,c):=R.cons_inv;exact aw.cons r1<|yq R
def tNo:TS:=λ_ _ _=>False
def UW(K:Φ)(f:Dl.Env->Δ θ)(f0 f1 f2:Dl.Env->Δ D):TS:=
 GQ (Qe (Jy K f) tNo xn) (GQ (Di (Ui K "list" TQ<|rj 1)<|tL 3) (GQ (FK<|X8 K "list" Ai (rj 2)<|uw (Ts<|uw (tD K f0)<|uw (Jc K (rj 0) gx) Hf) Hf)
  (GQ (R8 K (rj 0) (tD K f1) gx)<|Tq<|tD K f2)))
def RW{t:D}(tb:bN K HF)(r:Rep K HF t y):cK K HF [none,none,none,↑t] [a,b,c,↑y]:=⟨λi d h=>by
 match i,h with
 |3,h=>cases h;exact{y,rfl,r},by simp,tb⟩
def Y9{t:D}(tb:bN K HF)(r:Rep K HF t y):cK K HF [none,↑t,none,none] [a,↑y,b,c]:=⟨λi d h=>by
 match i,h with
 |1,h=>cases h;exact{y,rfl,r}
 |n+2,h=>rcases n with _|_|_<;>(cases h),by simp,tb⟩
def Qj{st:Fs}{fs:Γ (Str×V)}{f0 f1 f2:Dl.Env->Δ D}
  (Y:∀ds:Γ D,ds≠[]->ft [none,↑(.list ds),none,none]=↑false)(R:∀w p:D,f0 [none,none,none,↑(.tuple [w,p])]=↑w)(W:∀w p:D,f1 [none,none,none,↑(.tuple [w,p])]=↑p)(X:∀w p:D,f2 [none,none,none,↑(.tuple [w,p])]=↑w)
  (cl:qt K C)(nf:bV K C gx)(ne:g≠f)(nfp:gx≠f)(ngp:gx≠g)
  (sm:aA HF H)(tb:bN K HF)(sb:aA B H)(hn:∀b o,B b=↑o->HF b=none)(h1:B a=↑(.ins C dx fs))(h2:B dx=↑(.own a))(P:iz K HF B st fs as)(h4:as.Nodup)(h5:fs.lookup f=↑(.ref b1))(h6:fs.lookup g=↑(.ref b2))(h7:Vf f g st=↑(d,st'))
  (q:∀v H' HF' B',v8 HF H B HF' H' B'->CU K HF' B' C a st'->Rep K HF' d v->E.rt v H') :
  UW K ft f0 f1 f2 E [↑(.ref a),↑(.ref b1),↑(.ref b2),none] H:=by
 let(ds,es,q0,p,e1,e2,e3,e4,e5,e6,rfl):=B5 h7;let(b1',U,g1,g2',N,O):=gF P e1;rw[h5]at g1;cases g1;refine{H,[none,↑(.list ds),none,none],false,.refl _,Y9 (tb.mono sm) (by simp?[Rep];exact{b1,U,rfl,iL.of<|sb _ _ N,O.mono sm}),Y ds λz=>by grind,λH1 HFx G1=>lK ?_};have t:v8 HF H B HF H1 B:=ma sb hn {G1.hh,.refl _,sm.trans G1.hh,λ_ _ z=>.inl z};let(y,hy,ry):=Ib O e4;have m:H1 b1=↑(.lst U):=t.sb _ _ N;refine{.ref b1,rfl,.inl {rfl,U,iL.of m},b1,U,y,rfl,rfl,m,hy,?_};have T:=t.trans<|mI (u:=.lst U.dropLast) t.sb t.hn t.gr.fh N;have k1:upd B b1 (.lst U.dropLast) a=↑(.ins C dx fs):=by rw[ar λz=>by grind];lia
 have k2:upd B b1 (.lst U.dropLast) dx=↑(.own a):=by rw[ar λz=>by grind];lia
 have k3:=uh (yq O) P h4 e1 h5;have l:(fK f (.lst ds.dropLast) st).lookup g=↑(.lst es):=by rw[lH f g _ st ne];lia
 let(b2',c,m1,m2,m3,m4):=gF k3 l;rw[h6]at m1;cases m1;let(Q,n1,n2):=uv k3 (by rw[lH f gx _ st nfp];omega);refine{.ref b2,rfl,.inl {rfl,c,iL.of<|T.sb _ _ m3},({HF,[none,none,none,↑(.tuple [d,p])],d,T.gr.fh,RW tb ry,R d p,λx H3 i G r0=>?_})};have F:=T.trans<|ma T.sb T.hn G;refine{.ref a,rfl,a,C,dx,fs,Q,rfl,F.sb _ _ k1,cl,nf,n1,by show 2<=sizeLine;decide,λn Z=>?_};have e:bo i H3 (upd i n<|.tup [x,Q]) (upd H3 n<|.tup [x,Q]):=.new G.fh Z;have r:=F.trans<|ma F.sb F.hn e;refine{b2,c,.ref n,rfl,rfl,r.sb _ _ m3,by rw[m4.length];lia,?_};have I:=r.trans<|mI (u:=.lst<|c++[.ref n]) r.sb r.hn r.gr.fh m3;have rt:Rep K (upd i n<|.tup [x,Q]) (.tuple [d,q0]) (.ref n):=by
  simp?[Rep];exact{n,[x,Q],rfl,.inl<|.inl av,aw.cons (r0.mono e.ff)<|aw.cons (n2.mono<|G.ff.trans e.ff) aw.nil}
 have k:upd (upd B b1<|.lst U.dropLast) b2 (.lst<|c++[.ref n]) a=↑(.ins C dx fs):=by rw[ar λz=>by grind];lia
 have j:upd (upd B b1<|.lst U.dropLast) b2 (.lst<|c++[.ref n]) dx=↑(.own a):=by rw[ar λz=>by grind];lia
 refine{upd i n<|.tup [x,Q],[none,none,none,↑(.tuple [d,p])],p,I.gr.fh,RW (tb.mono<|G.ff.trans e.ff)<|ry.mono<|G.ff.trans e.ff,W d p,λv1 H6 L A r1=>?_};have s:=I.trans<|ma I.sb I.hn A;refine{.ref a,rfl,a,C,dx,fs,rfl,s.sb _ _ k,cl,nf,(by rw[uA P];lia),?_};have J:=s.trans<|mI (u:=.ins C dx<|fO gx v1 fs) s.sb s.hn s.gr.fh k;let(S,w1,w2,w3):=Bg (f:=gx) r1 ((uh (B:=upd B b1<|.lst U.dropLast) ((m4.mono<|G.ff.trans e.ff).append<|aw.cons rt aw.nil) (k3.imp (G.ff.trans e.ff) λ_ _ _ z=>z) h4 l h6).imp A.ff λ_ _ _ z=>z) h4;refine{L,[none,none,none,↑(.tuple [d,p])],d,J.gr.fh,RW (tb.mono<|(G.ff.trans e.ff).trans A.ff)<|ry.mono<|(G.ff.trans e.ff).trans A.ff,X d p,λv2 H8 M G8 r2=>(q v2 H8 M _ (J.trans<|ma J.sb J.hn G8) {dx,fO gx v1 fs,S,av,?_,w1.imp G8.ff λb hb ws z=>?_,w2} r2)}
 .rw[ar λz=>by rw[z,k]at j;cases j];exact j
 .rw[ar λz'=>by rw[z',k]at z;cases z];exact z
end
def U7{K:Φ}{st:Ω}{f0 f1 f2:Dl.Env->Δ D}(F:zv K x qual st fa fd)(S:aZ N ps (ah st))(hN:N.length=4)(hp:ps.length=3)
  (t:∀ds:Γ D,ds≠[]->U [none,↑(.list ds),none,none]=↑false)(l:∀w p:D,f0 [none,none,none,↑(.tuple [w,p])]=↑w)(m:∀w p:D,f1 [none,none,none,↑(.tuple [w,p])]=↑p)(n:∀w p:D,f2 [none,none,none,↑(.tuple [w,p])]=↑w)
  (L:qt K C)(nf:bV K C gx)(ne:g≠f)(o:gx≠f)(r:gx≠g)
  (body:∀X ,X.prog=P->X.w=w->X.K=K->X.mg=mg->X.base=base->Bk X N (ah st) k->X.env.code=fd.code->X.env.qual=qual++".<locals>."->su X (aH st) (UW K U f0 f1 f2)):dc P w K mg base rO (k+1) fa fd ps (R9 K C f g):=by
 let(oc,od,kV,I,pm,an,G,ct,osl,rfl,lk,j):=F.ex;refine n6 lk j S (λvs H Q E z=>by let(u,B,a,st,J,fs,v,b,c,d,T,i,_):=z;rw[i,hp];rfl) λA O s H vs Q E hr z=>?_;let(u,B,a,st,J,fs,v,b,c,d,T,i,sm,tb,sb,hn,M,R,Y,Z,h5,h6,h7,q):=z;refine{_,(body _ rfl rfl rfl rfl rfl {rfl,S.nd,λy kd=>.inl,rfl,λ_ _=>rfl,hr,rfl,S.kind} rfl rfl).nox,?_};subst i;have e:L2.start N [V.ref a,V.ref b,V.ref c]=[↑(.ref a),↑(.ref b),↑(.ref c),none]:=by
  rw[L2.start,hN];rfl
 rw[e];exact Qj t l m n L nf ne o r sm tb sb hn M R Y Z h5 h6 h7 q
section
variable {os os':Γ Oj}{st:Ω}{rest:Γ Ω}
def Vm(i:Nat)(C:Ψ)(m f g:Str):OF:=λa o=>(obj i C a o).bind λy=>if(y.2.lookup m).isNone=true then(Vf f g y.2).map λw=>(w.1,o.set y.1 {C,w.2})else none
def VW{pl:Sem θ}(F:dc X.prog X.w X.K X.mg X.base rO k fa fd ps (R9 X.K C f g))(hm:vp X.K C m fa)(hb:Binds X.K fd ps [])(hr:cA k X.A)(B:X.N[i]?=↑x)(V:pM X.env.scope x)(L:qt X.K C)(n1:bV X.K C f)(n2:bV X.K C g)
  (G:attributeBase (.Name x px1) f X.env (eval (.Name x px1) X.env)=eval (.Name x px1) X.env:=by rfl)(J:attributeBase (.Name x I) g X.env (eval (.Name x I) X.env)=eval (.Name x I) X.env:=by rfl)
  (M:(x==("__debug__":Str))=false:=by decide)(D:(x==("__classdict__":Str))=false:=by decide)
  (T:starEach [.Attribute (.Name x px1) f fp1,.Attribute (.Name x I) g U] X.env=(false,eval (.Attribute (.Name x px1) f fp1) X.env)::starEach [.Attribute (.Name x I) g U] X.env:=by rfl)
  (n:starEach [.Attribute (.Name x I) g U] X.env=(false,eval (.Attribute (.Name x I) g U) X.env)::starEach [] X.env:=by rfl)
  (O:(backTo pos<|starEach [.Attribute (.Name x I) g U] X.env).any (·.1)=false:=by rfl)
  (ht:eval (.Call (.Attribute (.Name x px) m apos) [.Attribute (.Name x px1) f fp1,.Attribute (.Name x I) g U] [] pos) X.env=(do
   let ov <- eval (.Name x px) X.env
   standAt apos.atName
   let (f',first) <- holding [ov]<|getMethod ov m pl
   callWith pos f' first (backTo pos<|starEach [.Attribute (.Name x px1) f fp1,.Attribute (.Name x I) g U] X.env) (backToKw pos<|keywordEach [] X.env)):=by rfl) :
  OE X aaa aab pa (.Call (.Attribute (.Name x px) m apos) [.Attribute (.Name x px1) f fp1,.Attribute (.Name x I) g U] [] pos) (Vm i C m f g):=
 aE (oG (aY B V M D) L hm F hr hb .nil o7 (aL (kh (aY B V M D) G) (aL (kh (aY B V M D) J) bJ n) T) T O ht) λσ H Q z=>by
  let(HF,ρ,os,d,os',S,c,q):=z;let((a,st),h1,c):=bs c;let(E,s):=obj_some h1;split at c
  .rename_i hl;let((d2,R),h2,c):=af c;cases c;let(ds,es,q0,p,l1,l2,l3,_):=B5 h2;let(HB,e,Bs,o):=S;have P:=(List.getElem?_eq_some_iff.mp s).1;let(j,fs,as,f1,f2,f3,f4):=(o.at_ a _ s).ex;let(W,us1,Z,_):=gF f3 l1;let(Y,us2,g2,_):=gF f3 l2;have y:=o.S.gr.hh _ _<|o.sb a P _ _ f1;refine{_,o.S.ob i a E,e a,j,fs,rfl,y,jh f3 (by cases z:st.lookup m with|none=>rfl|some _=>rw[z]at hl;cases hl),?_};exact{_,o.S.ob i a E,e a,C,j,fs,.ref W,rfl,y,L,n1,Z,({_,o.S.ob i a E,e a,C,j,fs,.ref Y,rfl,y,L,n2,g2,({HF,Bs a,e a,st,j,fs,as,W,Y,d2,R,rfl,o.S.gr.fh,o.S.tb,λb u z=>o.S.gr.hh b u<|o.sb a P b u z,λb u=>o.nf P,f1,f2,f3,f4,Z,g2,h2,λv H' l B' t z r=>(q v H' l {_,_,_,o.turn s t z} t.gr.ff r)})})}
  .cases c
end
def Jw(g:OG)(n:Nat)(args:Γ D):Δ D:=(g (args.map Slot.val++List.replicate (n-args.length) .non) []).map fun|.rt d _=>d|.nx _ _=>.none
def Wj{K:Φ}{st:Ω}(F:zv K x qual st f fd)(S:aZ N ps (ah st))
  (body:∀X:Cx,X.prog=P->X.w=w->X.K=K->X.mg=mg->X.base=base->Bk X N (ah st) k->X.env.code=fd.code->X.env.qual=qual++".<locals>."->∀aaa aab pa,IA X aaa aab pa (aH st) g):dc P w K mg base rO (k+1) f fd ps (Vu K ps.length<|Jw g N.length):=by
 let(oc,od,kV,J,pm,an,C,ct,osl,rfl,Z,t):=F.ex;refine n6 Z t S (λvs H Q E z=>by let(n,L,d,h1,_,M,R,_):=z;rw[M.length,R]) λA O s H vs Q E V z=>?_;let(n,L,d,sm,tb,rr,hl,D,q):=z;refine{_,(body (qp rO P w K mg base N qual (ah _) f C A O s H E).nox rfl rfl rfl rfl rfl {rfl,S.nd,λy kd Y=>.inl Y,rfl,λ_ _=>rfl,V,rfl,S.kind} rfl rfl n H []).nox,?_};unfold Jw at D;let(o,U,D):=af D;have G:∀{i l:Hp}{p:Γ Oj},gU K n H [] i l [] p []->bo n H i l:=λ{i l p} ⟨B,ad,Bs,m⟩=>⟨λb u z=>m.S.gr.hh b u<|m.h0 b u z,m.S.gr.ff,m.S.gr.fh,λb u z=>by
  rcases m.S.gr.nw b u z with y|y
  .exact .inl y
  .refine .inr ?_;cases c:H b with
   |none=>rfl
   |some w=>have:=m.h0 b w c;rw[show B b=none from y]at this;cases this⟩
 refine{n,_,_,o,{H,λ_=>0,λ_ _=>none,{Ex.BI sm tb rr,.refl _,λk o e=>by simp at e,λk hk=>by simp at hk,λk hk=>by simp at hk,λj k T=>by simp at T,yL _,λk a e=>by simp at e}},U,?_};cases o with
 |rt d' p=>cases D;exactλv l i I r=>q v l i (G I) r
 |nx ρ' p=>cases D;exactλσ' l i I _=>q .non l i (G I.ends) (by simp[Rep])
abbrev E5:=aq->Γ Oj->Δ (Γ Slot×Γ Oj)
def YE(K:Φ)(aaa aab:Hp)(pa:Γ Ψ)(i:Nat)(f:E5):TA:=λc H Q=>∃e b s l o a,gU K aaa aab pa e H b s c/\c[i]?=↑(↑(.ref a))/\f b s=↑(l,o)/\∀v d F,gU K aaa aab pa F d b o c->aA e F->iP K F a l v->Q v d
def Tf(X:Cx)(aaa aab:Hp)(pa:Γ Ψ)(i:Nat)(es:Γ γ)(f:E5):Prop:=PA X es<|YE X.K aaa aab pa i f
structure Wq(P:Program)(w:World)(K:W.Frag)(mg:Str->Option Value)(base:Heap)(k:Nat)(C:Addr)(x:Str)(n:Nat)(mm:List Slot->Fs->Option (D×Fs)):Prop where
 ex:∃ (f:Ψ) (fd:η) (ps:Γ Str),dc P w K mg base rO k f fd ps (Pm K C n mm)/\mg x=↑(.ref f)/\W.keepIn K (.ref f)=true/\Binds K fd ps []
def Wq.mono{K:Φ}{mm:Γ Slot->Fs->Δ _}(F:Wq P w K mg base k C m n mm)(h:k<=j):Wq P w K mg base j C m n mm:=by
 let(f,d,p,a,b,c):=F.ex;exact{f,d,p,a.mono h,b,c}
section
variable {os os':Γ Oj}{st:Ω}{rest:Γ Ω}
def LW:E5:=λ_ o=>↑([],o)
def A4(f:OF)(g:E5):E5:=λa o=>(f a o).bind λx=>(g a x.2).map λy=>(.val x.1::y.1,y.2)
def Gv(g:E5):E5:=λa o=>(g a o).map λy=>(.obj 0::y.1,y.2)
def Oe:Tf X aaa aab pa i [] LW:=iV bJ λc H Q z=>by
 let(F,b,s,l,o,a,S,A,f,q):=z;cases f;exact q [] H F S (.refl _) .nil
def M9(E:OE X aaa aab pa e fa)(m:Tf X aaa aab pa i es g)(t:starEach (e::es) X.env=(false,eval e X.env)::starEach es X.env:=by rfl):Tf X aaa aab pa i (e::es) (A4 fa g):=
 iV (aL E m t) λB H Q z=>by
  let(F,d,o,L,O,a,S,A,f,q):=z;let((x,o1),n,f):=bs f;let((u,o2),y,z):=af f;cases z;exact{F,d,o,x,o1,S,n,λV v b k p r1=>{b,d,o1,u,_,a,k,A,y,λw j c l s r=>q _ j c l (p.trans s)<|.val (r1.mono s) r}}
def N6(n:X.N[i]?=↑x)(v:pM X.env.scope x)(e:Tf X aaa aab pa i es g)(D:(x=="__debug__")=false:=by decide)(d:(x=="__classdict__")=false:=by decide)
  (t:starEach (.Name x px::es) X.env=(false,eval (.Name x px) X.env)::starEach es X.env:=by rfl):Tf X aaa aab pa i (.Name x px::es) (Gv g):=
 iV (aL (aY n v D d) e t) λm H Q z=>by
  let(F,l,o,L,O,a,S,A,f,q):=z;let((k,o2),y,z):=af f;cases z;exact{_,A,F,l,o,k,_,a,S,A,y,λV c b s j r=>q _ c b s j<|.obj r}
def p8(i:Nat)(C:Ψ)(n:Nat)(mm:Γ Slot->Fs->Δ (D×Fs))(fs:E5):OF:=λa o=>(obj i C a o).bind λ_=>(fs a o).bind λy=>(obj i C a y.2).bind λz=>if y.1.length=n then(mm y.1 z.2).map λw=>(w.1,y.2.set z.1 {C,w.2})else none
def Jp{mm:Γ Slot->Fs->Δ (D×Fs)}{fs:E5}(F:Wq X.prog X.w X.K X.mg X.base k C x n mm)(hr:cA k X.A)(hg:Gl X x)(ha:Tf X aaa aab pa i (e::es) fs)(I:(x==("__debug__":Str))=false:=by decide)
  (he:starEach (e::es) X.env=(false,eval e X.env)::starEach es X.env:=by rfl)(L:(backTo pos<|starEach es X.env).any (·.1)=false:=by rfl):OE X aaa aab pa (.Call (.Name x p) (e::es) [] pos) (p8 i C n mm fs):=by
 let(f,fd,ps,ok,hm,hk,hb):=F.ex;refine aE (j6 (E:=E0) ok hr hg hm hk hb .nil o7 ha I he L) λσ H Q z=>?_;let(U,ρ,os,d,os',S,a,q):=z;let((c,st0),Y,a):=bs a;let((P,o1),Z,a):=bs a;let((k,st),h2,a):=bs a;split at a
 .rename_i hl;let((W,J),h4,a):=af a;cases a;let(j,e2):=obj_some Y;let(M,G):=obj_some h2;rw[j]at M;cases M;have S0:=S;let(HB,s,Bs,o):=S;refine{U,ρ,os,P,o1,s c,S0,o.S.ob i c j,Z,λvs H1 m V s1 r1=>?_};let(T,y,B,O):=V;have g:c<o1.length:=(List.getElem?_eq_some_iff.mp G).1;have N:y c=s c:=by
   have z1:=O.S.ob i c j;have z2:=o.S.ob i c j;rw[z2]at z1;injection z1 with z1
   injection z1 with z1
   injection z1 with z1
   exact z1.symm
  rw[qD];refine{m,B c,s c,P,st,W,J,O.S.gr.fh,O.S.tb,λb u z=>O.S.gr.hh b u<|O.sb c g b u z,λb u z=>O.nf g z,N▸O.at_ c _ G,r1,hl,h4,λv R l B' t z r=>?_};exact q v R l {_,_,_,O.turn G t<|N▸z} (s1.trans t.gr.ff) r
 .cases a
end
open PySem L2 PySem.Spec PyProof.Rows Dl Ex
abbrev XO:=aq->Γ Oj->Δ Str
def PX(K:Φ)(m:Str->Δ Θ)(aaa aab:Hp)(pa:Γ Ψ)(E:XK)(xg:XO)(σ:L2.St)(H:Hp):Prop:=∃f b o c D,gU K aaa aab pa f H b o σ/\xg b o=↑c/\m c=↑(.ref D)/\∀a F,bo f H F a->E (.ref D) none a
def Af(X:Cx)(E:XK)(aaa aab:Hp)(pa:Γ Ψ)(e:γ)(xg:XO):Prop:=PE X e λa H _=>PX X.K X.mg aaa aab pa E xg a H
def Iz(X:Cx)(E:XK)(aaa aab:Hp)(pa:Γ Ψ)(s:Γ Ω)(xg:XO):Prop:=su X s λ_ a H=>PX X.K X.mg aaa aab pa E xg a H
section
variable {xg xa xb:XO}{K:Φ}
def gU.tb{os:Γ Oj}(h:gU K aaa aab pa HF H ρ os σ):bN K HF:=let ⟨_,_,_,o⟩:=h;o.S.tb
def AB:XO:=λ_ _=>none
def RQ:Af X E aaa aab pa e AB:=λp s b H Q I z=>by let(F,a,o,c,D,_,h,_):=z;cases h
def UK{st:Γ Ω}:Iz X E aaa aab pa st AB:=λp s b H Q I z=>by let(F,a,o,c,D,_,h,_):=z;cases h
def OC{rest:Γ Ω}(h:Af X E aaa aab pa e xg):Iz X E aaa aab pa (.Return (↑e) pos::rest) xg:=λp s a H D I q=>vC<|bZ (lJ h p s a H SG I q) λf S z=>(Kq z).elim
def Of{rest:Γ Ω}(h:Af X E aaa aab pa e xg)(S:swapsWith e none pos.line X.env=pure false):Iz X E aaa aab pa (.Expr e pos::rest) xg:=λp s a H D I q=>vC<|bZ (hU h S p s a H SG I q) λf b z=>(Kq z).elim
def pS(t:Dl.Env->Δ θ)(xa xb:XO):XO:=λa o=>(t<|aI a).bind λb=>if b=true then xa a o else xb a o
def Q5(h:PX K mg aaa aab pa E (pS t xa xb) σ H)(k:∀a,PX K mg aaa aab pa E xa σ a->Q true a)(l:∀a,PX K mg aaa aab pa E xb σ a->Q false a):Jy K t σ H Q:=by
 let(i,d,o,c,D,S,x,hc,q):=h;let(b,B,x):=bs x;refine{H,aI d,b,.refl _,S.all,B,λa j G=>?_};have p:∀{g:XO},g d o=↑c->PX K mg aaa aab pa E g σ a:=λz=>{i,d,o,c,D,S.step G.hh,z,hc,λf F e=>q f F<|bo.trans {G.hh,.refl _,S.fh.trans G.hh,λ_ _=>.inl} e}
 cases b with
 |true=>exact k a (p x)
 |false=>exact l a<|p x
def RB(hc:DT X.nox c t)(A:Af X E aaa aab pa a xa)(B:Af X E aaa aab pa b xb):Af X E aaa aab pa (.IfExp c a b pos) (pS t xa xb):=
 aE (oU (PT.nox hc) A B) λd H Q h=>Q5 h (λ_ z=>nT z) λ_ z=>lK z
def SS{rest:Γ Ω}(hc:DT X.nox c t)(a:Iz X E aaa aab pa ss xa)(b:Iz X E aaa aab pa rest xb):Iz X E aaa aab pa (.If c ss [] pos::rest) (pS t xa xb):=
 kn (cP (rY (.nox hc) a j1) b) λD d H h=>Q5 h (λ_=>nT) λ_=>lK
def QQ(n:Nat)(xm:Γ D->Δ Str)(fs:Iy):XO:=λa o=>(fs a o).bind λd=>if d.length=n then xm d else none
def JM{xm:Γ D->Δ Str}(F:Lg X.prog X.w X.K X.mg X.base k x n xm)(R:cA k X.A)(v:bw (mX X.prog X.w) X E)(u:Gl X x)(o:UG X.nox aaa aab pa (e::es) fs)(B:(x==("__debug__":Str))=false)
  (t:starEach (e::es) X.env=(false,eval e X.env)::starEach es X.env)(l:(backTo pos<|starEach es X.env).any (·.1)=false):Af X E aaa aab pa (.Call (.Name x p) (e::es) [] pos) (QQ n xm fs):=by
 let(f,J,P,O,M,hk,r):=F.ex;refine aE (j6 O R u M hk r .nil v (C8 o) B t l) λN H Q z=>?_;let(m,C,y,c,D,S,a,hc,q):=z;let(i,s,a):=bs a;let(L,a):=Rf.ax a;exact{m,C,y,i,S,s,λV I d G r1=>{d,i,c,D,G.fh,S.tb.mono G.ff,by rw[qD];exact r1,L,a,hc,λj b g=>q j b<|G.trans g}}
def B7(K:Φ)(m:Str->Δ Θ)(C:Ψ)(n:Nat)(xm:Γ Slot->Fs->Δ Str):Sp:=λv H _ E=>∃F B a s st c D,aA F H/\bN K F/\aA B H/\(∀b o,B b=↑o->F b=none)/\CU K F B C a st/\iP K F a s v/\s.length=n/\xm s st=↑c/\m c=↑(.ref D) /\
 ∀d f,bo F H f d->E (.ref D) none d
structure Ia(P:Program)(w:World)(K:W.Frag)(mg:Str->Option Value)(base:Heap)(k:Nat)(C:Addr)(m:Str)(n:Nat)(xm:List Slot->Fs->Option Str):Prop where
 ex:∃ (f:Ψ) (fd:η) (ps:Γ Str),dc P w K mg base (mX P w) k f fd ps (B7 K mg C n xm)/\vp K C m f/\Binds K fd ps []
def Ia.mono{xm:Γ Slot->Fs->Δ Str}(F:Ia P w K mg base k C m n xm)(h:k<=j):Ia P w K mg base j C m n xm:=by
 let(f,d,p,a,b,c):=F.ex;exact{f,d,p,a.mono h,b,c}
def MP(i:Nat)(C:Ψ)(m:Str)(n:Nat)(xm:Γ Slot->Fs->Δ Str)(fs:Iy):XO:=λa o=>(obj i C a o).bind λy=>if(y.2.lookup m).isNone=true then(fs a o).bind λd=>if d.length+1=n then xm (.obj 0::d.map Slot.val) y.2 else none else none
def F7{xm:Γ Slot->Fs->Δ Str}(h:PX K mg aaa aab pa E (MP i C m n xm fs) σ H):Fg C m (B7 K mg C n xm) [] E (rj i) (WW K aaa aab pa fs) σ H Q:=by
 let(t,I,O,c,D,S,f,hc,q):=h;let((k,st),w,f):=bs f;let(l,f):=Rf.ax f;let(j,y,f):=bs f;let(N,f):=Rf.ax f;let(v,e):=obj_some w;have S0:=S;let(J,d,B,o):=S;let(x,A,M,f1,f2,f3,f4):=(o.at_ k _ e).ex;have L:=(List.getElem?_eq_some_iff.mp e).1;have s:aA _ H:=λb u z=>o.S.gr.hh b u<|o.sb k L b u z;refine{_,o.S.ob i k v,d k,x,A,rfl,s _ _ f1,jh f3 (by cases z:st.lookup m with|none=>rfl|some _=>rw[z]at l;cases l),t,I,O,j,S0,y,λV r a G r1=>?_};show B7 K mg C n xm _ r Q E;rw[qD];exact{a,B k,d k,.obj 0::j.map _,st,c,D,G.fh,S0.tb.mono G.ff,s.trans G.hh,λb u z=>G.aaH (o.nf L z)<|s b u z,(o.at_ k _ e).mono G.ff,.obj<|jo r1,by simpa using N,f,hc,λp F g=>q p F<|G.trans g}
def Je{xm:Γ Slot->Fs->Δ Str}(F:Ia X.prog X.w X.K X.mg X.base k C m n xm)(r:cA k X.A)(p:bw (mX X.prog X.w) X E)(a:X.N[i]?=↑x)(v:pM X.env.scope x)(c:qt X.K C)(b:UG X.nox aaa aab pa (e::es) fs)(D:(x==("__debug__":Str))=false)(d:(x==("__classdict__":Str))=false)
  (t:starEach (e::es) X.env=(false,eval e X.env)::starEach es X.env)(l:(backTo pos<|starEach es X.env).any (·.1)=false)
  (ht:eval (.Call (.Attribute (.Name x px) m apos) (e::es) [] pos) X.env=(do
   let ov <- eval (.Name x px) X.env
   standAt apos.atName
   let (f,first) <- holding [ov]<|getMethod ov m pl
   callWith pos f first (backTo pos<|starEach (e::es) X.env) (backToKw pos<|keywordEach [] X.env))):Af X E aaa aab pa (.Call (.Attribute (.Name x px) m apos) (e::es) [] pos) (MP i C m n xm fs):=by
 let(f,g,s,o,M,B):=F.ex;exact aE (oG (aY a v D d) c M o r B .nil p (C8 b) t l ht) λj H Q=>F7
def GH{xm:Γ Slot->Fs->Δ Str}(F:Ia X.prog X.w X.K X.mg X.base k C m n xm)(R:cA k X.A)(P:bw (mX X.prog X.w) X E)(o:X.N[i]?=↑x)(V:pM X.env.scope x)(c:qt X.K C)(p:(x==("__debug__":Str))=false)(d:(x==("__classdict__":Str))=false)
  (ht:eval (.Call (.Attribute (.Name x px) m apos) [] [] pos) X.env=(do
   let ov <- eval (.Name x px) X.env
   standAt apos.atName
   let (f,first) <- holding [ov]<|getMethod ov m pl
   callWith pos f first (backTo pos<|starEach [] X.env) (backToKw pos<|keywordEach [] X.env))):Af X E aaa aab pa (.Call (.Attribute (.Name x px) m apos) [] [] pos) (MP i C m n xm qg):=by
 let(f,t,y,O,M,B):=F.ex;refine aE (Bc (aY o V p d) c M O R B .nil P ht) λG H Q h=>?_;let(v,e,a,D,fs,g,j,l,b,z,u,s,S,r,q):=F7 (Q:=Q) h;cases r;exact{v,e,a,D,fs,g,j,l,q [] H b (.refl S.fh) .nil}
def X2(i:Nat)(C:Ψ)(m:Str)(fa:Dl.Env->Δ D)(xb:XO):XO:=λa o=>(obj i C a o).bind λy=>if(y.2.lookup m).isNone=true then(fa<|aI a).bind λ_=>xb a o else none
def Ol{mm:Γ Slot->Fs->Δ (D×Fs)}(F:UT X.prog X.w X.K X.mg X.base k C m n mm)(hr:cA k X.A)(U:X.N[i]?=↑x)(hv:pM X.env.scope x)(M:qt X.K C)(V:DE X.nox a fa)(W:Af X E aaa aab pa b xb)(Y:(x==("__debug__":Str))=false)(l:(x==("__classdict__":Str))=false)
  (s:starEach [a,b] X.env=(false,eval a X.env)::starEach [b] X.env)(s2:starEach [b] X.env=(false,eval b X.env)::starEach [] X.env)
  (ht:eval (.Call (.Attribute (.Name x px) m apos) [a,b] [] pos) X.env=(do
   let ov <- eval (.Name x px) X.env
   standAt apos.atName
   let (f,first) <- holding [ov]<|getMethod ov m pl
   callWith pos f first (backTo pos<|starEach [a,b] X.env) (backToKw pos<|keywordEach [] X.env))):Af X E aaa aab pa (.Call (.Attribute (.Name x px) m apos) [a,b] [] pos) (X2 i C m fa xb):=by
 let(f,fd,ps,ok,Z,j):=F.ex;refine aE (oG (aY U hv Y l) M Z ok hr j .nil o7 (aL (.nox V) (aL W bJ s2) s) s (by rw[s2];rfl) ht) λσ H Q z=>?_;let(B,t,os,c,D,S,e,hc,q):=z;let((k,st),R,e):=bs e;let(L,e):=Rf.ax e;let(d,T,e):=bs e;let(P,p):=obj_some R;have S0:=S;let(HB,J,Bs,o):=S;let(O,ls,as,f1,f2,f3,f4):=(o.at_ k _ p).ex;exact{_,o.S.ob i k P,J k,O,ls,rfl,o.S.gr.hh _ _<|o.sb k (List.getElem?_eq_some_iff.mp p).1 _ _ f1,jh f3 (by cases z:st.lookup m with|none=>rfl|some _=>rw[z]at L;cases L),({H,aI t,d,.refl _,S0.all,T,λv H1 I G r=>{B,t,os,c,D,S0.step G.hh,e,hc,λy g u=>q y g<|bo.trans {G.hh,.refl _,S0.fh.trans G.hh,λ_ _=>.inl} u}})}
end
def nu(xg:XO)(C:Ψ)(n:Nat):Γ Slot->Fs->Δ Str:=λa st=>xg (a++List.replicate (n-a.length) .non) [⟨C,st⟩]
def UO{K:Φ}{st:Ω}(F:zv K x qual st f fd)(S:aZ N ps (ah st))
  (body:∀X E,X.prog=P->X.w=w->X.K=K->X.mg=mg->X.base=base->Bk X.nox N (ah st) k->X.calm=true->Xk X E->∀aaa aab pa,Iz X E aaa aab pa (aH st) xg):dc P w K mg base (mX P w) (k+1) f fd ps (B7 K mg C ps.length<|nu xg C N.length):=by
 let(M,U,kV,i,Y,u,v,G,p,rfl,L,d):=F.ex;refine n6 L d S (λV H Q E z=>by let(b,B,a,g,st,c,D,_,_,_,_,_,j,l,_):=z;rw[j.length,l]) λA o s H V Q E r z=>?_;let(b,B,a,g,st,c,D,sm,T,t,n,O,R,I,m,hc,q):=z;exact{_,body _ E rfl rfl rfl rfl rfl {rfl,S.nd,λy J=>.inl,rfl,λ_ _=>rfl,r,rfl,S.kind} rfl {rfl,rfl,rfl,λe Z z=>yZ z (λ_ _ h=>h) λ_ _ h=>h.elim} b (cut H B) [a],({b,_,_,c,D,F5 sm T t n O R,m,hc,q})}
def K8(K:Φ)(m:Str->Δ Θ):Sp:=λv H _ E=>∃F a B c D,v=[.ref a,.ref B,.ref c]/\aA F H/\bN K F/\H B=↑(.lst [])/\m "Nothing"=↑(.ref D)/\∀b f,bo F H f b->E (.ref D) none b
def LQ(hk:Xk X E)(hc:X.calm=true)(g:Gl X x)(m:X.mg x=↑(.ref C))(q:W.excIn X.K C MI "ValueError.__new__"=true)(b:(x==("__debug__":Str))=false) :
  PS X (.Raise (↑(.Call (.Name x np) [.Constant (.str t) i p] [] cpos)) none pos) (λ_ _ H=>E (.ref C) none H):=λP s a H D I z=>Be I hc g m q hk.hs hk.hf hk.hex hk.hxe z b
def P1{K:Φ}{st:Ω}(F:zv K x qual st fa fd)(S:aZ N ps (ah st))(Z:N.length=4)(u:ps.length=3)(t:I [none,↑(.list []),none,none]=↑true)(p:mg "Nothing"=↑(.ref C))
  (body:∀(X:Cx)E,X.prog=P->X.w=w->X.K=K->X.mg=mg->X.base=base->Bk X.nox N (ah st) k->X.calm=true->Xk X E->su X (aH st) (GQ (Qe (Jy K I) (λ_ _ H=>E (.ref C) none H) xn) λ_ _ _=>False)):dc P w K mg base (mX P w) (k+1) fa fd ps (K8 K mg):=by
 let(oc,od,kV,m,pm,M,v,U,O,rfl,L,d):=F.ex;refine n6 L d S (λJ H Q E z=>by let(f,a,b,B,D,c,_):=z;rw[c,u];rfl) λA o s H J Q E R z=>?_;let(f,a,b,B,D,c,sm,T,r,g,q):=z;refine{_,body _ E rfl rfl rfl rfl rfl {rfl,S.nd,λy kd=>.inl,rfl,λ_ _=>rfl,R,rfl,S.kind} rfl {rfl,rfl,rfl,λe s' z=>yZ z (λ_ _ h=>h) λ_ _ h=>h.elim},?_};subst c;rw[p]at g;cases g;have e:L2.start N [V.ref a,V.ref b,V.ref B]=[↑(.ref a),↑(.ref b),↑(.ref B),none]:=by
  unfold L2.start;simp_all
 rw[e];refine{H,[none,↑_,none,none],true,.refl _,{λi Y h=>?_,by simp,T.mono sm},t,λj l G=>nT<|q j f {G.hh,.refl _,sm.trans G.hh,λ_ _=>.inl}}
 match i,h with
 |0,h=>simp at h
 |1,h =>
  cases h;exact{.ref b,rfl,({b,[],rfl,.of r,.nil})}
 |2,h=>simp at h
 |3,h=>simp at h
 |n+4,h=>simp at h
def Ni(i:Nat)(C:Ψ)(m f g:Str):XO:=λa o=>(obj i C a o).bind λy=>if((y.2.lookup m).isNone&&(y.2.lookup g).any fun|.lst _=>true|_=>false)=true then match y.2.lookup f with
 |some (.lst [])=>↑"Nothing"
 |_=>none else none
def T9(F:dc X.prog X.w X.K X.mg X.base (mX X.prog X.w) k fa fd ps (K8 X.K X.mg))(hm:vp X.K C m fa)(hb:Binds X.K fd ps [])(hr:cA k X.A)(hp:bw (mX X.prog X.w) X E)(v:X.N[i]?=↑x)(V:pM X.env.scope x)(L:qt X.K C)(n1:bV X.K C f)(n2:bV X.K C g)
  (B:attributeBase (.Name x px1) f X.env (eval (.Name x px1) X.env)=eval (.Name x px1) X.env)(G:attributeBase (.Name x I) g X.env (eval (.Name x I) X.env)=eval (.Name x I) X.env)
  (J:(x==("__debug__":Str))=false)(d:(x==("__classdict__":Str))=false)
  (t:starEach [.Attribute (.Name x px1) f fp1,.Attribute (.Name x I) g U] X.env=(false,eval (.Attribute (.Name x px1) f fp1) X.env)::starEach [.Attribute (.Name x I) g U] X.env)
  (l:starEach [.Attribute (.Name x I) g U] X.env=(false,eval (.Attribute (.Name x I) g U) X.env)::starEach [] X.env)
  (O:(backTo pos<|starEach [.Attribute (.Name x I) g U] X.env).any (·.1)=false)
  (ht:eval (.Call (.Attribute (.Name x px) m apos) [.Attribute (.Name x px1) f fp1,.Attribute (.Name x I) g U] [] pos) X.env=(do
   let ov <- eval (.Name x px) X.env
   standAt apos.atName
   let (f',first) <- holding [ov]<|getMethod ov m pl
   callWith pos f' first (backTo pos<|starEach [.Attribute (.Name x px1) f fp1,.Attribute (.Name x I) g U] X.env) (backToKw pos<|keywordEach [] X.env))) :
  Af X E aaa aab pa (.Call (.Attribute (.Name x px) m apos) [.Attribute (.Name x px1) f fp1,.Attribute (.Name x I) g U] [] pos) (Ni i C m f g):=
 aE (oG (E:=E) (aY v V J d) L hm F hr hb .nil hp (aL (kh (aY v V J d) B) (aL (kh (aY v V J d) G) bJ l) t) t O ht) λσ H Q z=>by
  let(Y,ρ,os,c,D,S,e,hc,q):=z;let((a,st),h1,e):=bs e;let(M,e):=Rf.ax e;rw[zF]at M;let(p,T):=obj_some h1;split at e
  .rename_i l1;cases e;obtain⟨s,l2⟩:∃s,st.lookup g=↑(.lst s):=by
    have:=M.2;cases z:st.lookup g with
    |none=>rw[z]at this;cases this
    |some y=>cases y with
     |val=>rw[z]at this;cases this
     |lst s=>exact{s,rfl}
   let(HB,j,Bs,o):=S;let(n,fs,as,f1,f2,f3,f4):=(o.at_ a _ T).ex;let(P,us1,Z,_,g3,g4):=gF f3 l1;let(R,us2,g2,_):=gF f3 l2;cases g4.nil_inv;have W:=λb u z=>o.S.gr.hh b u<|o.sb a ((List.getElem?_eq_some_iff.mp T).1) b u z;have r:=W _ _ f1;refine{_,o.S.ob i a p,j a,n,fs,rfl,r,jh f3 (by cases z:st.lookup m with|none=>rfl|some _=>have:=M.1;rw[z]at this;cases this),({_,o.S.ob i a p,j a,C,n,fs,.ref P,rfl,r,L,n1,Z,?_})};exact{_,o.S.ob i a p,j a,C,n,fs,.ref R,rfl,r,L,n2,g2,({Y,j a,P,R,D,rfl,o.S.gr.fh,o.S.tb,W _ _ g3,hc,q})}
  .cases e
def Am(gb:OG)(xg:XO)(fin:Str->Δ D):OG:=λa o=>match gb a o with
 |some (.rt d s)=>↑(.rt d s)
 |some (.nx _ _)=>none
 |none=>(xg a o).bind λc=>(fin c).map λd=>.rt d o
def Rj(X:Cx)(i:Nat)(s:Γ Ω)(F:Ψ)(fin:Str->Δ D):Prop:=∀c d,fin c=↑d->∃C,X.mg c=↑(.ref C)/\W.exmOne X.K (.ref C) (.ref F)=↑true/\y8 X i s c d
def UU{fin:Str->Δ D}(hs:X.stack=X.env::X.outer)(V:X.env.frame=↑X.env.locals)
  (W:Gl X x)(Z:X.mg x=↑(.ref CF))(B:(x=="__debug__")=false)(R:X.N.Nodup)(hi:X.N[i]?=↑n)(Y:X.env.kindOf n=↑.local)(g:X.env.scope.names.lookup n=↑.local)(l:X.env.cells.lookup n=none)
  (k:IA X.nox aaa aab pa body gb)(hx:∀P y E,bw (mX X.prog X.w) (gS X P y) E->Iz (gS X P y) E aaa aab pa body xg)(A:Rj X i (acR::U) CF fin) :
  OS X aaa aab pa (.Try body [.ExceptHandler (↑(.Name x np)) (↑n) (acR::U) ab5] [] [] pos) (Am gb xg fin):=by
 intro p s L H D I z;let(f,J,t,o,S,O,q):=z;unfold Am at O;split at O
 .rename_i d j e;cases O;exact Fz k p s L H D I {f,J,t,.rt d j,S,e,q}
 .cases O
 .let(c,hc,O):=bs O;let(d,T,rfl):=af O;let(C,r,m,u):=A c d T;exact FG (tx:=λE _=>PX X.K X.mg aaa aab pa E xg) hs V W Z B R hi Y g l hx r m u p s L H D I {λa=>∃F,bo f H F a,{f,J,t,c,C,S,hc,r,λa F G=>{rfl,F,G}},λa z=>by let(F,G):=z;exact {F,G.fh,λv M b Q=>q v M b (S.grow<|G.trans Q).ends}}
def rF(H:Hp)(C x d:Ψ):Hp:=upd (upd H d<|.own x) x<|.ins C d []
def oo(n:dx≠x)(h:b≠x->b≠dx->H b=↑u)(a:b=x->.ins C dx []=u)(c:b=dx->.own x=u):rF H C x dx b=↑u:=by
 unfold rF;by_cases y:b=x
 .rw[y,av,a y]
 .rw[ar y];by_cases Y:b=dx
  .rw[Y,av,c Y]
  .rw[ar Y];exact h y Y
def uN(h:rF H C x dx b=↑u):(b=x/\u=.ins C dx [])\/(b=dx/\u=.own x)\/(b≠x/\b≠dx/\H b=↑u):=by
 unfold rF at h;by_cases y:b=x
 .rw[y,av]at h;cases h;exact .inl {y,rfl}
 .rw[ar y]at h;by_cases Y:b=dx
  .rw[Y,av]at h;cases h;exact .inr<|.inl {Y,rfl}
  .rw[ar Y]at h;exact .inr<|.inr {y,Y,h}
def L7{K:Φ}(sm:aA HF H)(X:H x=none)(N:H dx=none)(n:dx≠x):∃B,aA HF (rF H C x dx)/\aA B (rF H C x dx)/\(∀b u,B b=↑u->HF b=none)/\CU K HF B C x []/\(∀b u,H b=↑u->cut (rF H C x dx) B b=↑u)/\bo HF H HF (rF H C x dx):=by
 have o:∀b u,H b=↑u->rF H C x dx b=↑u:=λb u z=>oo n (λ_ _=>z) (λy=>by rw[y,X]at z;cases z) λy=>by rw[y,N]at z;cases z
 refine{rF (λ_=>none) C x dx,λb u z=>o b u<|sm b u z,λb u z=>?_,λb u z=>?_,{dx,[],[],oo n (λz=>absurd rfl z) (λ_=>rfl) λz=>absurd z.symm n,oo n (nofun) (λz=>absurd z n) λ_=>rfl,.nil,.nil},λb u z=>k8 (o b u z) ?_,o,.refl _,λb u z=>o b u<|sm b u z,λ_ _=>.inl}
 .rcases uN z with ⟨y,e⟩|⟨y,e⟩|⟨_,_,e⟩
  .exact oo n (absurd y) (λ_=>e.symm) λq=>absurd (q.symm.trans y) n
  .exact oo n (λ_=>absurd y) (λq=>absurd (y.symm.trans q) n) λ_=>e.symm
  .cases e
 .rcases uN z with ⟨y,_⟩|⟨y,_⟩|⟨_,_,e⟩
  .rw[y];exact sm.free X
  .rw[y];exact sm.free N
  .cases e
 .cases y:rF _ C x dx b with
  |none=>rfl
  |some w =>
   rcases uN y with ⟨q,_⟩|⟨q,_⟩|⟨_,_,e⟩<;>grind
def IS(K:Φ)(C:Ψ)(n:Nat)(m:Γ Slot->Fs->Δ (D×Fs)):Sp:=λv H Q _=>∃f d s,aA f H/\bN K f/\aw K f d v/\d.length=n/\m (.obj 0::d.map Slot.val) []=↑(.none,s) /\
 ∀a b F B,v8 f H (λ_=>none) F b B->CU K F B C a s->Q (.ref a) b
def runN(x:Γ Slot->Fs->Δ Str)(fin:Str->Δ D):Γ D->Δ D:=λd=>(x (.obj 0::d.map Slot.val) []).bind fin
def SL{K:Φ}(h:IS K C n I vs H Q E):∀x d,H x=none->H d=none->d≠x->Pm K C (n+1) I (.ref x::(vs++[])) (upd (upd H d<|.own x) x<|.ins C d []) (λv f=>v=.non/\Q (.ref x) f) U:=λx d A N X=>by
 let(g,D,s,sm,T,R,l,m,q):=h;let(B,k,i,j,o,p,_):=L7 sm A N X;rw[qD];refine{g,B,x,.obj 0::D.map _,[],.none,s,k,T,i,j,o,.obj<|jo R,by simp[l],m,λv e F a t z r=>({r,q x e F a {{λb u z=>t.gr.hh b u<|p b u z,t.gr.ff,t.gr.fh,λb u z=>(t.gr.nw b u z).imp id λy=>?_},t.sb,λb u z=>{(t.nw b u z).1,?_}} z})}
 .cases c:H b with
  |none=>exact c
  |some w=>have y:cut (rF H C x d) B b=none:=y;grind
 .cases c:H b with
  |none=>exact c
  |some w=>have y:cut (rF H C x d) B b=none:=(t.nw b u z).2;grind
def UL{K:Φ}(sm:aA HF H)(tb:bN K HF)(r:aw K HF ds vs)(l:ds.length=n)(m:xi (.obj 0::ds.map Slot.val) []=↑c)(hc:mg c=↑(.ref A))(q:∀H' HF',bo HF H HF' H'->E (.ref A) none H'):∀x d,H x=none->H d=none->d≠x->B7 K mg C (n+1) xi (.ref x::(vs++[])) (upd (upd H d<|.own x) x<|.ins C d []) Q E:=λx d g N X=>by
 let(B,k,a,b,e,_,f):=L7 sm g N X;rw[qD];exact{HF,B,x,.obj 0::ds.map .val,[],c,A,k,tb,a,b,e,.obj<|jo r,by simp[l],m,hc,λH' HF' G=>q H' HF'<|f.trans G}
def uI(i:Nat)(C:Ψ)(n:Nat)(m:Γ Slot->Fs->Δ (D×Fs))(fs:CT):OG:=λa o=>(fs a o).bind λy=>if a.all (below y.2.length)=true/\y.1.length=n then(m (.obj 0::y.1.map Slot.val) []).bind λw=>match w.1 with
 |.none=>↑(.nx (a.set i<|.obj y.2.length)<|y.2++[{C,w.2}])
 |_=>none else none
def Jo{fs:CT}(F:dc X.prog X.w X.K X.mg X.base rO k f fd ps (IS X.K C n I))(hr:cA k X.A)(g:Gl X y)(hm:X.mg y=↑(.ref f))(hk:W.keepIn X.K (.ref f)=true)(Z:Binds X.K fd ps [])(Y:OA X aaa aab pa (e::es) fs)
  (V:X.N.Nodup)(hi:X.N[i]?=↑x)(hx:Loc X.env.scope x)
  (B:(y==("__debug__":Str))=false)(he:starEach (e::es) X.env=(false,eval e X.env)::starEach es X.env)(L:(backTo cpos<|starEach es X.env).any (·.1)=false)
  (hs:swapsWith (.Call (.Name y p) (e::es) [] cpos) (↑(.Name x pos')) pos.line X.env=pure false)
  (hf:X.fn x=true\/X.env.scope.names.lookup x=↑.local):OS X aaa aab pa (.Assign [.Name x pos'] (.Call (.Name y p) (e::es) [] cpos) pos) (uI i C n I fs):=
 bp (lb V hi hx (j6 (E:=E0) F hr g hm hk Z .nil o7 Y B he L) hs hf) λE σ H z=>by
  let(Q,v,os,o,S,g,q):=z;let((r,o1),T,g):=bs g;let(hc,g):=Rf.ax g;let((d,s),U,g):=bs g;split at g
  .rename_i D;cases g;have D:d=.none:=D;subst D;refine{Q,v,os,r,o1,S,T,λvs M l z s1 r1=>?_};let(P,R,Bs,m):=z;show IS X.K C n I (vs++[]) M _ _;rw[qD];refine{l,r,s,m.S.gr.fh,m.S.tb,r1,hc.2,U,λa J c G t z=>?_};have nb:∀(i k:Nat),v[i]?=↑(Slot.obj k)->k<o1.length:=λi k y=>by
    have:=List.all_eq_true.mp hc.1 _<|qA y;exact yP this
   have O:=m.make t (λb u z=>z) z nb;refine q _ J c {_,_,_,O.pure (σ':=σ.set i<|↑(.ref a)) ?_<|.refl _}<|s1.trans t.gr.ff;have:=PL (i:=i) (k:=o1.length) O.S;rw[show(Hq.mk (Jd P G) λj=>if j=o1.length then a else R j).ad o1.length=a from yK rfl]at this;exact this
  .cases g
def A3(t:Dl.Env->Δ θ)(fa fb:OF):OF:=λa o=>(t<|aI a).bind λb=>if b=true then fa a o else fb a o
def RS(hc:DT X c t)(A:OE X aaa aab pa a fa)(B:OE X aaa aab pa b fb):OE X aaa aab pa (.IfExp c a b pos) (A3 t fa fb):=aE (oU hc A B) λj H Q z=>by
 let(F,e,s,d,o,S,f,q):=z;let(b,h,f):=bs f;refine{H,aI e,b,.refl _,S.all,h,λi g G=>?_};cases b with
 |true=>exact nT {F,e,s,d,o,S.step G.hh,f,q}
 |false=>exact lK {F,e,s,d,o,S.step G.hh,f,q}
end Ob
namespace Og
open PySem L2 Dl Rf Ob PySem.Spec PyProof.Rows
abbrev MF:=Γ Dl.Slot->Fs->Δ (D×Fs)
abbrev XF:=Γ Dl.Slot->Fs->Δ Str
structure Cg where
 cn:Str
 C:Ψ
 fl:Γ Str
 ms:Γ (Str×Nat×MF)
 ini:Δ (Nat×MF)
 mv:Δ Str
 mp:Γ (Str×Str)
 fs:Γ (Str×Nat×MF)
 xs:Γ (Str×Nat×XF)
 xi:Δ (Nat×XF)
 mf:Δ (Str×Nat×MF)
 on:Γ Str
structure Yu(P:Program)(w:World)(K:W.Frag)(mg:Str->Option Value)(base:Heap)(j:Nat)(c:Cg):Prop where
 cl:qt K c.C
 na:∀f,c.fl.contains f=true->bV K c.C f
 ms:∀m n mm,c.ms.lookup m=↑(n,mm)->UT P w K mg base j c.C m n mm
 ini:∀n mi,c.ini=↑(n,mi)->∃f fd ps,Mk K c.C f/\dc P w K mg base rO j f fd ps (Pm K c.C n mi)/\Binds K fd ps []/\mg c.cn=↑(.ref c.C)
 mv:∀m,c.mv=↑m->∀f g,c.mp.contains (f,g)=true->∃fa fd ps,dc P w K mg base rO j fa fd ps (R9 K c.C f g)/\vp K c.C m fa/\Binds K fd ps []
 mx:∀m,c.mv=↑m->∃fa fd ps,dc P w K mg base (Ex.mX P w) j fa fd ps (K8 K mg)/\vp K c.C m fa/\Binds K fd ps []
 fs:∀x n mm,c.fs.lookup x=↑(n,mm)->Wq P w K mg base j c.C x n mm
 xs:∀m n xm,c.xs.lookup m=↑(n,xm)->Ia P w K mg base j c.C m n xm
 xi:∀n xm,c.xi=↑(n,xm)->∃f fd ps,Mk K c.C f/\dc P w K mg base (Ex.mX P w) j f fd ps (B7 K mg c.C n xm)/\Binds K fd ps []/\mg c.cn=↑(.ref c.C)
 mf:∀x n mi,c.mf=↑(x,n,mi)->∃f fd ps,dc P w K mg base rO j f fd ps (IS K c.C n mi)/\mg x=↑(.ref f)/\W.keepIn K (.ref f)=true/\Binds K fd ps []
abbrev kc(c:Cg)(X:Cx)(j:Nat):Prop:=Yu X.prog X.w X.K X.mg X.base j c
def QE(f:γ->Δ OF):Γ γ->Δ CT
 |[]=>↑iA
 |e::s=>if isStar e=false then(f e).bind λx=>(QE f s).map λy=>cC x y else none
def ee(sc:ζ)(N:Γ Str)(x:Str):Δ Nat:=(N.idxOf? x).bind λi=>if nv N sc i x=true then↑i else none
def V9(c:Cg)(sc:ζ)(N:Γ Str)(x m:Str)(args:Γ γ):Δ OF:=(l2 args).bind λu=>(GU u.1).bind λy=>(GU u.2).bind λz=>if(y.2.1==x&&z.2.1==x&&c.fl.contains y.1.2.1&&c.fl.contains z.1.2.1&&c.mp.contains (y.1.2.1,z.1.2.1))=true then(ee sc N x).map λi=>Vm i c.C m y.1.2.1 z.1.2.1 else none
def rdM(c:Cg)(sc:ζ)(N:Γ Str)(f:γ->Δ OF)(x m:Str)(args:Γ γ)(apos pos:Pos):Δ OF:=
 if(apos.endLine==pos.line&&decide (args.length<20))=true then(if c.mv=↑m then V9 c sc N x m args else(c.ms.lookup m).bind λz=>(ee sc N x).bind λi=>(QE f args).map λfs=>dE i c.C m z.1 z.2 fs)else none
def Vi(G:Sg)(sc:ζ)(f:γ->Δ OF)(x:Str)(args:Γ γ):Δ OF:=
 if(pN sc x&&!(x==("__debug__":Str))&&!args.isEmpty)=true then(G.fn.lookup x).bind λz=>(QE f args).map λfs=>mw z.1 z.2 fs else none
def WZ(c:Cg)(e:γ):Δ Str:=(dN e).bind λz=>if c.on.contains z.1=true then↑z.1 else none
def OX(c:Cg)(f:γ->Δ OF)(y:Str):Γ γ->Δ E5
 |[]=>↑LW
 |e::s=>if isStar e=false then(WZ c e).elim ((f e).bind λx=>(OX c f y s).map λg=>A4 x g) λY=>if(Y==y)=true then(OX c f y s).map Gv else none else none
def WT(c:Cg)(sc:ζ)(N:Γ Str)(f:γ->Δ OF)(x:Str)(args:Γ γ):Δ OF:=
 if(pN sc x&&!(x==("__debug__":Str))&&!args.isEmpty)=true then(c.fs.lookup x).bind λz=>(args.findSome?<|WZ c).bind λy=>(ee sc N y).bind λi=>(OX c f y args).map λfs=>p8 i c.C z.1 z.2 fs else none
def YZ(e:γ):Δ (γ×γ×γ×Pos):=if h:e.ctorIdx=5 then Expr.IfExp.elim e h λx y u p=>↑(x,y,u,p)else none
def KO(h:YZ e=↑z):e=.IfExp z.1 z.2.1 z.2.2.1 z.2.2.2:=Expr.IfExp.elim e (gu h) (λa b d f h=>by cases h;rfl) h
def W7(c:Cg)(G:Sg)(sc:ζ)(N:Γ Str)(T:Tr)(f0:γ->Δ OF)(e:γ):Δ OF:=(YZ e).elim ((GU e).elim
  ((T7 e).elim ((Vc e).bind λz=>rdM c sc N f0 z.1.2.1 z.1.1.2.1 z.2.1 z.1.1.2.2 z.2.2) λz=>if(c.fs.lookup z.2.1).isSome=true then WT c sc N f0 z.2.1 z.1.2.1 else Vi G sc f0 z.2.1 z.1.2.1)
  λz=>if c.fl.contains z.1.2.1=true then(ee sc N z.2.1).map λi=>oq i c.C z.1.2.1 else none)
 λz=>(T.t z.1).bind λt=>(f0 z.2.1).bind λx=>(f0 z.2.2.1).map λy=>A3 t x y
def Bv(c:Cg)(G:Sg)(sc:ζ)(N:Γ Str)(T:Tr):Nat->γ->Δ OF
 |0,_=>none
 |n+1,e=>(T.e e).elim (W7 c G sc N T (Bv c G sc N T n) e) λf=>↑(oD f)
section
variable {c:Cg}{G:Sg}{X:Cx}{N:Γ Str}{sc:ζ}{k j:Nat}{T:Tr}{pos p:Pos}{aaa aab:Hp}{pa:Γ Ψ}
def cg(C:Bk X N sc k)(h:ee sc N x=↑i):X.N[i]?=↑x/\pM X.env.scope x/\(x=="__debug__")=false/\(x=="__classdict__")=false:=by
 let(I,_,h):=bs h;let(v,h):=ax h;cases h;exact C.vis v
def Ap(H:∀e g,f e=↑g->OE X aaa aab pa e g):∀{es:Γ γ}{fs:CT},QE f es=↑fs->OA X aaa aab pa es fs/\(es.all λe=>!isStar e)=true
 |[],fs,h=>by cases h;exact{UY,rfl}
 |e::es,fs,h=>by
  let(s,h):=ax h;let(x,a,h):=bs h;let(y,Y,rfl):=af h;have i:=Ap H Y;exact{Qn (H _ _ a) i.1<|aQ s,by rw[xR,s,i.2];rfl}
def Dc(C:Bk X N sc k)(b:Eo G X j)(K:j<=k)(F:∀e g,f e=↑g->OE X aaa aab pa e g)(h:Vi G sc f x args=↑g):OE X aaa aab pa (.Call (.Name x p) args [] pos) g:=by
 let(H,h):=ax h;simp?[zF,yO]at H;let((n,m),c,h):=bs h;let(fs,d,rfl):=af h;let(i,a):=Ap F d;cases args with
 |nil=>cases H.2
 |cons e s =>
  rw[xR,zF,yO]at a;exact PF (b.fn x n m c) (C.room.mono K) (C.gl H.1.1) i H.1.2 (aQ a.1)<|bP a.2
def Ax(C:Bk X N sc k)(hi:ee sc N y=↑i)(F:∀e g,f e=↑g->OE X aaa aab pa e g):∀{es:Γ γ}{fs:E5},OX c f y es=↑fs->Tf X aaa aab pa i es fs/\(es.all λe=>!isStar e)=true
 |[],fs,h=>by cases h;exact{Oe,rfl}
 |e::es,fs,h=>by
  let(s,h):=ax h;rcases bR h with ⟨_,h⟩|⟨z,H,h⟩
  .let(x,a,h):=bs h;let(g,G,rfl):=af h;have I:=Ax C hi F G;exact{M9 (F _ _ a) I.1<|aQ s,by rw[xR,s,I.2];rfl}
  .let(Y,h):=ax h;let(g,G,rfl):=af h;have I:=Ax C hi F G;let(w,hw,H):=bs H;let(_,H):=ax H;cases H;let(v,V,b,d):=cg C hi;rw[eu hw,eq_of_beq Y];exact{N6 v V I.1 b d<|aQ rfl,by rw[xR,I.2];rfl}
def PU(C:Bk X N sc k)(b:kc c X j)(K:j<=k)(F:∀e g,f e=↑g->OE X aaa aab pa e g)(h:WT c sc N f x args=↑g):OE X aaa aab pa (.Call (.Name x p) args [] pos) g:=by
 let(H,h):=ax h;simp?[zF,yO]at H;let((n,m),d,h):=bs h;let(y,r,h):=bs h;let(i,l,h):=bs h;let(fs,o,rfl):=af h;let(q,a):=Ax C l F o;cases args with
 |nil=>cases H.2
 |cons e s =>
  rw[xR,zF,yO]at a;exact Jp (b.fs x n m d) (C.room.mono K) (C.gl H.1.1) q H.1.2 (aQ a.1)<|bP a.2
end
def F1(s:(args.all λe=>!isStar e)=true)(l:args.length<20)(a:(apos.endLine==pos.line)=true):∃pl:Sem θ,eval (.Call (.Attribute (.Name x px) m apos) args [] pos) env=(do
   let ov <- eval (.Name x px) env
   standAt apos.atName
   let (f,first) <- holding [ov]<|getMethod ov m pl
   callWith pos f first (backTo pos<|starEach args env) (backToKw pos<|keywordEach [] env)):=by
 have U:methodCallForm _ (backTo pos<|starEach args env) _=true:=Ah s l;refine{(do return(<- importBound (.Name x px) env).getD true),?_};rw[arm_eval_Call];unfold methodCall;rw[U,(show methodCallPos true (.Name x px) env apos pos=pure pos by simp[methodCallPos,a])];rfl
def Pi(a:(apos.endLine==pos.line)=true)(C:Bk X N sc k)(K:kc c X j)(H:j<=k)(n:c.mv=↑m)(h:V9 c sc N x m args=↑g):OE X aaa aab pa (.Call (.Attribute (.Name x px) m apos) args [] pos) g:=by
 let(u,U,h):=bs h;let(y,Y,h):=bs h;let(z,Z,h):=bs h;let(hc,h):=ax h;simp?[zF]at hc;obtain⟨⟨⟨⟨f,l⟩,b⟩,d⟩,e⟩:=hc;let(i,I,rfl):=af h;let(v,V,o,p):=cg C I;let(A,D,s,F,M,B):=K.mv m n _ _ e;rw[lV U,gQ Y,gQ Z,eq_of_beq f,eq_of_beq l];let(P,ht):=F1 (args:=[.Attribute _ _ _,.Attribute _ _ _]) rfl (by simp) a;exact VW F M B (C.room.mono H) v V K.cl (K.na _ b) (K.na _ d) rfl rfl o p rfl rfl rfl ht
def SM(C:Bk X N sc k)(K:kc c X j)(H:j<=k)(F:∀e g,f e=↑g->OE X aaa aab pa e g)(h:rdM c sc N f x m args apos pos=↑g):OE X aaa aab pa (.Call (.Attribute (.Name x px) m apos) args [] pos) g:=by
 let(hc,h):=ax h;rw[zF]at hc;have a:args.length<20:=yP hc.2;rcases b0 h with ⟨M,h⟩|⟨_,h⟩
 .exact Pi hc.1 C K H M h
 .let((n,mm),d,h):=bs h;let(i,I,h):=bs h;let(fs,l,rfl):=af h;let(v,V,o,q):=cg C I;let(r,b):=Ap F l;let(p,ht):=F1 (x:=x) (m:=m) (px:=px) (env:=X.env) b a hc.1;cases args with
  |nil =>
   cases l;exact JP (K.ms m n mm d) (C.room.mono H) v V K.cl o q (pl:=p) ht
  |cons e s =>
   rw[xR,zF,yO]at b;exact Pu (K.ms m n mm d) (C.room.mono H) v V K.cl r o q (aQ b.1) (bP b.2) (pl:=p) ht
def Pj(C:Bk X N sc k)(a:Eo G X j)(K:kc c X j)(H:j<=k)(O:bz X T)(I:∀e g,f0 e=↑g->OE X aaa aab pa e g)(h:W7 c G sc N T f0 e=↑g):OE X aaa aab pa e g:=by
 rcases bR h with ⟨_,h⟩|⟨z,Z,h⟩
 .rcases bR h with ⟨_,h⟩|⟨z,Z,h⟩
  .rcases bR h with ⟨_,h⟩|⟨z,Z,h⟩
   .let(z,Z,h):=bs h;rw[uQ Z];exact SM C K H I h
   .rw[lT Z];rcases b0 h with ⟨_,h⟩|⟨_,h⟩
    .exact PU C K H I h
    .exact Dc C a H I h
  .let(hc,h):=ax h;let(i,b,rfl):=af h;let(v,V,f,l):=cg C b;rw[gQ Z];exact Ue v V K.cl (K.na _ hc) rfl f l
 .let(t,ht,h):=bs h;let(x,d,h):=bs h;let(y,Y,rfl):=af h;rw[KO Z];exact RS (O.t _ _ ht) (I _ _ d)<|I _ _ Y
def gG(C:Bk X N sc k)(a:Eo G X j)(K:kc c X j)(H:j<=k)(O:bz X T):∀n{e:γ}{g:OF},Bv c G sc N T n e=↑g->OE X aaa aab pa e g
 |0,e,g,h=>by cases h
 |n+1,e,g,h=>by
  rcases bR h with ⟨_,h⟩|⟨f,F,h⟩
  .exact Pj C a K H O (λe g=>gG C a K H O n) h
  .cases h;exact O7<|O.e _ _ F
def KU(f:γ->Δ RF):Γ γ->Δ Iy
 |[]=>↑qg
 |e::s=>if isStar e=false then(f e).bind λx=>(KU f s).map λy=>e9 x y else none
def Wx(c:Cg)(sc:ζ)(N:Γ Str)(f0:γ->Δ RF)(e:γ):Δ RF:=(dT e).elim
 ((T7 e).elim ((GU e).bind λz=>if c.fl.contains z.1.2.1=true then(ee sc N z.2.1).map λi=>BP i c.C z.1.2.1 else none) λy =>
  (l1 y.1.2.1).bind λa=>(GU a).bind λz=>if(y.2.1==("len":Str)&&pN sc y.2.1&&c.fl.contains z.1.2.1)=true then(ee sc N z.2.1).map λi=>ye i c.C z.1.2.1 else none)
 λz=>(KU f0 z.1).map Ih
def Vj(c:Cg)(sc:ζ)(N:Γ Str)(T:Tr):Nat->γ->Δ RF
 |0,_=>none
 |n+1,e=>(T.e e).elim (Wx c sc N (Vj c sc N T n) e) λf=>↑(rD f)
def WL(c:Cg)(G:Sg)(sc:ζ)(N:Γ Str)(T:Tr)(e:γ):Δ OF:=(Bv c G sc N T 20 e).elim ((Vj c sc N T 20 e).map oR) some
def rdT(c:Cg)(G:Sg)(sc:ζ)(N:Γ Str)(T:Tr)(e:γ):Δ Mh:=(T.t e).elim ((ZE e).bind λz=>(l1 z.2.1).bind λo=>(l1 z.2.2.1).bind λb=>if(o.ctorIdx==1&&behindInMarks o b==false)=true then(Bv c G sc N T 20 z.1).bind λa=>(Bv c G sc N T 20 b).map λF=>oB (Jg gq a F)else none) λf=>↑(oT f)
section
variable {c:Cg}{G:Sg}{X:Cx}{N:Γ Str}{sc:ζ}{k j:Nat}{T:Tr}{pos p px apos:Pos}{aaa aab:Hp}{pa:Γ Ψ}
def sZ(H:∀e g,f e=↑g->OR X aaa aab pa e g):∀{es:Γ γ}{fs:Iy},KU f es=↑fs->UG X aaa aab pa es fs
 |[],fs,h=>by cases h;exact MX
 |e::es,fs,h=>by
  let(s,h):=ax h;let(x,a,h):=bs h;let(y,Y,rfl):=af h;exact Lo (H _ _ a) (sZ H Y)<|aQ s
def MT{f0:γ->Δ RF}(C:Bk X N sc k)(B:Bn X)(K:kc c X j)(m:∀e g,f0 e=↑g->OR X aaa aab pa e g)(h:Wx c sc N f0 e=↑g):OR X aaa aab pa e g:=by
 rcases bR h with ⟨_,h⟩|⟨z,H,h⟩
 .rcases bR h with ⟨_,h⟩|⟨y,Y,h⟩
  .let(z,H,h):=bs h;let(hc,h):=ax h;let(i,I,rfl):=af h;let(v,V,b,d):=cg C I;rw[gQ H];exact R6 v V K.cl (K.na _ hc) rfl b d
  .let(a,A,h):=bs h;let(z,H,h):=bs h;let(hc,h):=ax h;simp?[zF]at hc;let((l,G),hc):=hc;rw[eq_of_beq l]at G;let(i,I,rfl):=af h;let(v,V,b,d):=cg C I;rw[lT Y,cJ A,gQ H,eq_of_beq l];exact OJ {C.gl G,B _<|by decide,PySem.boot_len} v V K.cl (K.na _ hc) rfl b d
 .let(fs,f,rfl):=af h;rw[yi H];exact UQ<|sZ m f
def uW(C:Bk X N sc k)(B:Bn X)(K:kc c X j)(O:bz X T):∀n{e:γ}{g:RF},Vj c sc N T n e=↑g->OR X aaa aab pa e g
 |0,e,g,h=>by cases h
 |n+1,e,g,h=>by
  rcases bR h with ⟨_,h⟩|⟨f,H,h⟩
  .exact MT C B K (λe g=>uW C B K O n) h
  .cases h;exact NO<|O.e _ _ H
def Ae(C:Bk X N sc k)(b:Eo G X j)(a:kc c X j)(K:j<=k)(O:bz X T)(h:WL c G sc N T e=↑g):OE X aaa aab pa e g:=by
 rcases bR h with ⟨_,h⟩|⟨f,H,h⟩
 .let(f,H,rfl):=af h;exact(uW C b.bn a O 20 H).oe
 .cases h;exact gG C b a K O 20 H
def Uo(C:Bk X N sc k)(a:Eo G X j)(K:kc c X j)(H:j<=k)(O:bz X T)(h:rdT c G sc N T e=↑g):OT X aaa aab pa e g:=by
 rcases bR h with ⟨_,h⟩|⟨f,F,h⟩
 .let(z,Z,h):=bs h;let(o,n,h):=bs h;let(b,B,h):=bs h;let(hc,h):=ax h;rw[zF,vH,vH]at hc;let(A,i,h):=bs h;let(p,l,rfl):=af h;rw[Ln Z,cJ n,cJ B];let(d,m):=hc;cases o<;>cases d;exact Si (Ey C.u64) lh (gG C a K H O 20 i) (gG C a K H O 20 l) m
 .cases h;exact O8<|O.t _ _ F
end
def VV(c:Cg)(sc:ζ)(N:Γ Str)(x m:Str)(args:Γ γ):Δ XO:=(l2 args).bind λu=>(GU u.1).bind λy=>(GU u.2).bind λz=>if(y.2.1==x&&z.2.1==x&&c.fl.contains y.1.2.1&&c.fl.contains z.1.2.1)=true then(ee sc N x).map λi=>Ni i c.C m y.1.2.1 z.1.2.1 else none
def rxC(c:Cg)(f:Ex.XT)(sc:ζ)(N:Γ Str)(T:Tr)(x:Str)(args:Γ γ):Δ XO:=if(pN sc x&&!(x==("__debug__":Str))&&!args.isEmpty&&args.all λe=>!isStar e)=true then(f.lookup x).bind λz=>(KU (Vj c sc N T 20) args).map λfs=>QQ z.1 z.2 fs else none
def rxM(c:Cg)(sc:ζ)(N:Γ Str)(T:Tr)(f:γ->Δ XO)(x m:Str)(args:Γ γ)(apos pos:Pos):Δ XO:=if(apos.endLine==pos.line&&decide (args.length<20)&&args.all λe=>!isStar e)=true then(if c.mv=↑m then VV c sc N x m args else
  (c.xs.lookup m).elim ((c.ms.lookup m).bind λz=>(l2 args).bind λu=>(ee sc N x).bind λi=>(T.e u.1).bind λa=>(f u.2).map λb=>X2 i c.C m a b)
  λz=>(ee sc N x).bind λi=>(KU (Vj c sc N T 20) args).map λfs=>MP i c.C m z.1 z.2 fs)else none
def Vr(c:Cg)(f:Ex.XT)(sc:ζ)(N:Γ Str)(T:Tr):Nat->γ->Δ XO
 |0,_=>none
 |n+1,e=>(YZ e).elim ((T7 e).elim ((Vc e).bind λz=>rxM c sc N T (Vr c f sc N T n) z.1.2.1 z.1.1.2.1 z.2.1 z.1.1.2.2 z.2.2) λz=>rxC c f sc N T z.2.1 z.1.2.1)
  λz=>(T.t z.1).map λt=>pS t ((Vr c f sc N T n z.2.1).getD AB)<|(Vr c f sc N T n z.2.2.1).getD AB
def Nn(c:Cg)(x:Ex.XT)(sc:ζ)(N:Γ Str)(T:Tr):Nat->Γ Ω->Δ XO
 |0,_=>none
 |_,[]=>none
 |n+1,s::r=>match s with
  |.If t a b _=>if b.isEmpty=true then(T.t t).map λf=>pS f ((Nn c x sc N T n a).getD AB) ((Nn c x sc N T n r).getD AB)else none
  |.Return e _=>e.bind (Vr c x sc N T 5)
  |.Expr e _=>if iX e=false then Vr c x sc N T 5 e else none
  |_=>none
section
variable {c:Cg}{X:Cx}{N:Γ Str}{sc:ζ}{k j:Nat}{T:Tr}{aaa aab:Hp}{pa:Γ Ψ}
def Rw(h:∀xg,o=↑xg->Af X E aaa aab pa e xg):Af X E aaa aab pa e (o.getD AB):=by
 cases o with
 |none=>exact RQ
 |some x=>exact h x rfl
def JT(h:∀xg,o=↑xg->Iz X E aaa aab pa e xg):Iz X E aaa aab pa e (o.getD AB):=by
 cases o with
 |none=>exact UK
 |some x=>exact h x rfl
def NW(a:(apos.endLine==pos.line)=true)(C:Bk X.nox N sc k)(K:kc c X j)(H:j<=k)(p:bw (Ex.mX X.prog X.w) X E)(l:c.mv=↑m)(h:VV c sc N x m args=↑g):Af X E aaa aab pa (.Call (.Attribute (.Name x px) m apos) args [] pos) g:=by
 let(u,U,h):=bs h;let(y,Y,h):=bs h;let(z,Z,h):=bs h;let(hc,h):=ax h;simp?[zF]at hc;let(((e,f),b),d):=hc;let(i,I,rfl):=af h;let(v,V,n,o):=cg C I;let(A,D,s,F,M,B):=K.mx m l;rw[lV U,gQ Y,gQ Z,eq_of_beq e,eq_of_beq f];let(P,ht):=F1 (args:=[.Attribute _ _ _,.Attribute _ _ _]) rfl (by simp) a;exact T9 F M B (C.room.mono H) p v V K.cl (K.na _ b) (K.na _ d) rfl rfl n o rfl rfl rfl ht
def Tp(C:Bk X.nox N sc k)(B:Bn X.nox)(d:kc c X j)(b:j<=k)(O:bz X.nox T)(l:Ex.sd X.prog X.w X.K X.mg X.base j fx)(P:bw (Ex.mX X.prog X.w) X E)(h:rxC c fx sc N T x args=↑g):Af X E aaa aab pa (.Call (.Name x p) args [] pos) g:=by
 let(H,h):=ax h;simp?[zF,yO]at H;let((n,m),f,h):=bs h;let(fs,i,rfl):=af h;cases args with
 |nil=>cases H.1.2
 |cons e s =>
  have a:=H.2;rw[xR,zF,yO]at a;exact JM (l x n m f) (C.room.mono b) P (C.gl H.1.1.1) (sZ (λe g z=>uW C B d O 20 z) i) H.1.1.2 (aQ a.1)<|bP a.2
def RV(C:Bk X.nox N sc k)(B:Bn X.nox)(K:kc c X j)(H:j<=k)(O:bz X.nox T)(p:bw (Ex.mX X.prog X.w) X E)(s:∀e xg,f e=↑xg->Af X E aaa aab pa e xg)(h:rxM c sc N T f x m args apos pos=↑g):Af X E aaa aab pa (.Call (.Attribute (.Name x px) m apos) args [] pos) g:=by
 let(hc,h):=ax h;rw[zF,zF,zJ]at hc;let((a,b),t):=hc;rcases b0 h with ⟨M,h⟩|⟨_,h⟩
 .exact NW a C K H p M h
 let(P,ht):=F1 t b a;rcases bR h with ⟨_,h⟩|⟨⟨n,xm⟩,d,h⟩
 .let((n,mm),d,h):=bs h;let(u,U,h):=bs h;let(i,I,h):=bs h;let(A,F,h):=bs h;let(y,r,rfl):=af h;let(v,V,l,o):=cg C I;rw[lV U]at t ht ⊢;simp  at t;exact Ol (K.ms m n mm d) (C.room.mono H) v V K.cl (O.e _ _ F) (s _ _ r) l o (aQ t.1) (aQ t.2) ht
 .let(i,I,h):=bs h;let(fs,q,rfl):=af h;let(v,V,l,o):=cg C I;cases args with
  |nil =>
   cases q;exact GH (K.xs m n xm d) (C.room.mono H) p v V K.cl l o ht
  |cons e S =>
   rw[xR,zF,yO]at t;exact Je (K.xs m n xm d) (C.room.mono H) p v V K.cl (sZ (λe g=>uW C B K O 20) q) l o (aQ t.1) (bP t.2) ht
def uP(C:Bk X.nox N sc k)(B:Bn X.nox)(a:kc c X j)(H:j<=k)(O:bz X.nox T)(x:Ex.sd X.prog X.w X.K X.mg X.base j fx)(p:bw (Ex.mX X.prog X.w) X E):∀n{e:γ}{xg:XO},Vr c fx sc N T n e=↑xg->Af X E aaa aab pa e xg
 |0,e,xg,h=>by cases h
 |n+1,e,xg,h=>by
  rcases bR h with ⟨_,h⟩|⟨z,Z,h⟩
  .rcases bR h with ⟨_,h⟩|⟨z,Z,h⟩
   .let(z,Z,h):=bs h;rw[uQ Z];exact RV C B a H O p (λe xg=>uP C B a H O x p n) h
   .rw[lT Z];exact Tp C B a H O x p h
  .let(t,ht,rfl):=af h;rw[KO Z];exact RB (O.t _ _ ht) (Rw λxg=>uP C B a H O x p n)<|Rw λxg=>uP C B a H O x p n
def Av(C:Bk X.nox N sc k)(B:Bn X.nox)(d:kc c X j)(H:j<=k)(O:bz X.nox T)(x:Ex.sd X.prog X.w X.K X.mg X.base j fx)(p:bw (Ex.mX X.prog X.w) X E):∀n{S:Γ Ω}{xg:XO},Nn c fx sc N T n S=↑xg->Iz X E aaa aab pa S xg
 |0,S,xg,h=>by cases h
 |n+1,[],xg,h=>by cases h
 |n+1,s::r,xg,h=>by
  cases s with
  |If t a b q =>
   let(g,h):=ax h;let(f,F,rfl):=af h;rw[List.isEmpty_iff.mp g];exact SS (O.t _ _ F) (JT λxg=>Av C B d H O x p n) (JT λxg=>Av C B d H O x p n)
  |Return e q =>
   let(e,rfl,h):=bs h;exact OC (uP C B d H O x p 5 h)
  |Expr e q =>
   let(hc,h):=ax h;exact Of (uP C B d H O x p 5 h) (d0 hc)
  |_=>cases h
end
def nG(f:Ω->Δ OG):Γ Ω->Δ OG
 |[]=>↑CW
 |[s]=>f s
 |s::t::r=>(f s).bind λx=>(nG f (t::r)).map λy=>bD x y
def VG(c:Cg)(e:γ):Δ ((γ×Γ γ×Γ Keyword×Pos)×Str×Pos):=(T7 e).bind λz=>if c.mf.any (λm=>z.2.1==m.1)=true then↑z else none
def Xq(c:Cg)(G:Sg)(sc:ζ)(N:Γ Str)(T:Tr)(x:Str)(z:(γ×Γ γ×Γ Keyword×Pos)×Str×Pos):Δ OG:=(N.idxOf? x).bind λi=>if(lE N sc i x&&pN sc z.2.1&&!(z.2.1==("__debug__":Str))&&!z.1.2.1.isEmpty)=true then c.mf.bind λm=>(QE (Bv c G sc N T 20) z.1.2.1).map λfs=>uI i c.C m.2.1 m.2.2 fs else none
def Ww(c:Cg)(G:Sg)(sc:ζ)(N:Γ Str)(T:Tr)(x:Str)(e:γ):Δ OG:=(N.idxOf? x).bind λi=>if(lE N sc i x&&!iX e)=true then(WL c G sc N T e).map λf=>J4 i f else none
def Vw(e:γ):θ:=if h:e.ctorIdx=24 then Expr.List.elim e h λl _=>l.isEmpty else false
def Qz(c:Cg)(G:Sg)(sc:ζ)(N:Γ Str)(T:Tr)(x f:Str)(e:γ):Δ OG:=if(c.fl.contains f&&!iX e)=true then(ee sc N x).bind λi=>if Vw e=true then(T.f e).map λl=>uy i c.C f l else(WL c G sc N T e).map λF=>tI i c.C f F else none
def VD(c:Cg)(sc:ζ)(N:Γ Str)(T:Tr)(x f:Str)(e:γ)(apos pos:Pos):Δ OG:=if(c.fl.contains f&&!isStar e&&apos.endLine==pos.line)=true then(ee sc N x).bind λi=>(Vj c sc N T 20 e).map λF=>Bu i c.C f F else none
def Ws(e:γ):Δ ((((γ×Str×Pos)×Str×Pos)×Str×Pos)×γ×Pos):=(dC e).bind λy=>(dA y.1).bind λu=>(GU u.1).bind λz=>(l1 y.2.1).bind λa=>if(y.2.2.1.isEmpty&&u.2.1==("append":Str))=true then↑((z,u.2),a,y.2.2.2)else none
def WA(c:Cg)(G:Sg)(sc:ζ)(N:Γ Str)(T:Tr)(e:γ)(p:Pos):Δ OG:=(Ws e).elim ((Du sc N T 40<|.Expr e p).elim (if iX e=false then(WL c G sc N T e).map vt else none) λg=>↑(bC g)) λz=>VD c sc N T z.1.1.2.1 z.1.1.1.2.1 z.2.1 z.1.2.2 z.2.2
def Wc(c:Cg)(G:Sg)(sc:ζ)(N:Γ Str)(T:Tr)(t e:γ)(p:Pos):Δ OG:=(VG c e).elim ((Du sc N T 40<|.Assign [t] e p).elim ((dN t).elim ((GU t).bind λz=>Qz c G sc N T z.2.1 z.1.2.1 e) λz=>Ww c G sc N T z.1 e) λg=>↑(bC g)) λy=>(dN t).bind λz=>Xq c G sc N T z.1 y
def EU(c:Cg)(G:Sg)(sc:ζ)(N:Γ Str)(T:Tr):Nat->Ω->Δ OG
 |0,_=>none
 |n+1,st=>match st with
  |.Return e _=>e.bind λe=>(WL c G sc N T e).map λf=>cq (List.range N.length) (i6 f)
  |.If t a b _=>(rdT c G sc N T t).bind λf=>(nG (EU c G sc N T n) a).bind λx=>(nG (EU c G sc N T n) b).map λy=>if(T.t t).isSome=true then vn f x y else cq (List.range N.length) (vn f x y)
  |.Assign S e p=>(l1 S).bind λt=>Wc c G sc N T t e p
  |.For d i body s _=>if s.isEmpty=true then(Yc sc T d i).bind λF=>(Zg sc N d).bind λt=>(nG (EU c G sc N T n) body).map λg=>KN (zm N i) F t g else none
  |.Expr e p=>WA c G sc N T e p
  |_=>none
def hZ(H:∀s g,f s=↑g->OS X aaa aab pa s g):∀{l:Γ Ω}{g:OG},nG f l=↑g->IA X aaa aab pa l g
 |[],g,h=>by cases h;exact OK
 |[s],g,h=>FF (H _ _ h)
 |s::t::r,g,h=>by
  let(x,a,h):=bs h;let(y,Y,rfl):=af h;exact KC (H _ _ a)<|hZ H Y
def Nj(C:Bk X N sc k)(o:Eo G X j)(K:kc c X j)(H:j<=k)(O:bz X T)(Z:VG c e=↑z)(h:Xq c G sc N T x z=↑g):OS X aaa aab pa (.Assign [.Name x px] e p) g:=by
 let(w,hw,Z):=bs Z;let(l,Z):=ax Z;cases Z;let(i,_,h):=bs h;let(hc,h):=ax h;simp?[zF,yO]at hc;let(((q,r),s),t):=hc;let((y,n,M),d,h):=bs h;let(fs,u,rfl):=af h;rw[d]at l;have Y:z.2.1=y:=eq_of_beq l;let(v,b):=Ap (λe g z=>gG C o K H O 20 z) u;let(f,D,P,F,m,hk,B):=K.mf y n M d;let(z1,z2,z3,z4):=C.loc q;rw[lT hw];rw[<-Y]at m;let((_,a,_),_):=z;cases a with
 |nil=>cases t
 |cons e E =>
  rw[xR,zF,yO]at b;exact Jo F (C.room.mono H) (C.gl r) m hk B v z1 z2 z3 s (aQ b.1) (bP b.2) rfl z4
def Mc(C:Bk X N sc k)(d:Eo G X j)(K:kc c X j)(E:j<=k)(O:bz X T)(h:Qz c G sc N T x f e=↑g):OS X aaa aab pa (.Assign [.Attribute (.Name x px) f q] e p) g:=by
 let(hc,h):=ax h;simp?[zF,yO]at hc;let(i,I,h):=bs h;let(v,V,a,b):=cg C I;rcases b0 h with ⟨_,h⟩|⟨_,h⟩
 .let(l,H,rfl):=af h;exact Nd (O.f _ _ H) v V K.cl (K.na _ hc.1) (d0 hc.2) a b
 .let(F,H,rfl):=af h;exact PY (Ae C d K E O H) v V K.cl (K.na _ hc.1) (d0 hc.2) a b
def PM(C:Bk X N sc k)(b:Eo G X j)(K:kc c X j)(E:j<=k)(O:bz X T)(h:WA c G sc N T e p=↑g):OS X aaa aab pa (.Expr e p) g:=by
 rcases bR h with ⟨_,h⟩|⟨z,H,h⟩
 .rcases bR h with ⟨_,h⟩|⟨t,o,h⟩
  .let(hc,h):=ax h;let(f,F,rfl):=af h;exact Uv (Ae C b K E O F)<|d0 hc
  .cases h;exact E6 λA=>qd C b.bn O 40 o
 .let(y,Y,H):=bs H;let(u,U,H):=bs H;let(w,hw,H):=bs H;let(a,n,H):=bs H;let(x,H):=ax H;cases H;rw[zF]at x;rw[EE Y,K4 U,gQ hw,cJ n,List.isEmpty_iff.mp x.1,eq_of_beq x.2];let(hc,h):=ax h;simp?[zF,yO]at hc;let((l,d),m):=hc;let(i,I,h):=bs h;let(s,F,rfl):=af h;let(v,V,q,r):=cg C I;exact M4 (uW C b.bn K O 20 F) v V K.cl (K.na _ l) rfl q r rfl (Um d) m (aQ d) rfl
def Qx(C:Bk X N sc k)(K:Eo G X j)(a:kc c X j)(H:j<=k)(O:bz X T)(h:Wc c G sc N T t e p=↑g):OS X aaa aab pa (.Assign [t] e p) g:=by
 rcases bR h with ⟨_,h⟩|⟨z,Z,h⟩
 .rcases bR h with ⟨_,h⟩|⟨d,b,h⟩
  .rcases bR h with ⟨_,h⟩|⟨z,Z,h⟩
   .let(z,Z,h):=bs h;rw[gQ Z];exact Mc C K a H O h
   .rw[eu Z];let(i,_,h):=bs h;let(hc,h):=ax h;simp  at hc;let(f,F,rfl):=af h;let(z1,z2,z3,z4):=C.loc hc.1;exact U5 i z1 z2 z3 (Ae C K a H O F) (d0 hc.2) z4
  .cases h;exact E6 λA=>qd C K.bn O 40 b
 .let(y,Y,h):=bs h;rw[eu Y];exact Nj C K a H O Z h
def tq(C:Bk X N sc k)(K:Eo G X j)(d:kc c X j)(H:j<=k)(O:bz X T):∀n{st:Ω}{g:OG},EU c G sc N T n st=↑g->OS X aaa aab pa st g
 |0,st,g,h=>by cases h
 |n+1,st,g,h=>by
  have I:∀s g,EU c G sc N T n s=↑g->OS X aaa aab pa s g:=λs g=>tq C K d H O n;cases st with
  |Return e q =>
   let(e,rfl,h):=bs h;let(f,F,rfl):=af h;exact Fv _ (RX<|Ae C K d H O F)
  |If t a b q =>
   let(f,l,h):=bs h;let(x,m,h):=bs h;let(y,o,rfl):=af h;have z:=Wg (pos:=q) (Uo C K d H O l) (hZ I m)<|hZ I o;split
   .lia
   .exact Fv _ z
  |Assign S e q =>
   let(t,ht,h):=bs h;rw[cJ ht];exact Qx C K d H O h
  |For v r body E q =>
   let(p,h):=ax h;rw[List.isEmpty_iff.mp p];let(u,i,h):=bs h;let(t,ht,h):=bs h;let(b,B,rfl):=af h;let(D,A):=DB C K.bn O i;exact RR _ C.pass C.calm D (λ_=>Le C ht) (hZ I B) A
  |Expr e q=>exact PM C K d H O h
  |_=>cases h
end Og
namespace Rgo
open PySem L2 Dl Rf Ob Og Ex Rg PySem.Spec PyProof.Rows
variable {rest:Γ Ω}
structure pI(K:W.Frag)(C:Addr)(m:Str)(st:Stmt)(ps:List Str):Prop where
 ex:∃ (f:Ψ) (fd:η) (qual:Str),zv K m qual st f fd/\vp K C m f/\Binds K fd ps []
def KS{K:Φ}{st:Ω}{kV:Θ}(b:fu st ps)(a:W.findIn K (.ref C) m=↑(↑(.ref f)))(n:W.isFn K (.ref f)=true)(l:K.lookup f=↑{oc,od,.func<|W.fnOf m qual (fj st) (aH st) (ah st) .none kV d p A v t,osl})
  (c:W.codeIn K v qual=true)(k:W.keepIn K (.ref f)=true):pI K C m st ps:={f,_,qual,rg l c k,⟨a,n,k⟩,(rg l c k).binds λkV d p A v t u=>b _ _ kV d p A v t u}
section
variable {K:Φ}{st:Ω}{c:Cg}
def Il(h:Yu P w K mg base i c)(e:i<=j):Yu P w K mg base j c:={h.cl,h.na,λm n mm z=>(h.ms m n mm z).mono e,λn M z=>let ⟨f,F,p,a,b,d⟩:=h.ini n M z;{f,F,p,a,b.mono e,d},λm z f g y=>let ⟨A,F,p,a,b⟩:=h.mv m z f g y;{A,F,p,a.mono e,b},λm z=>let ⟨A,F,p,a,b⟩:=h.mx m z;{A,F,p,a.mono e,b},λx n mm z=>(h.fs x n mm z).mono e,λm n xm z=>(h.xs m n xm z).mono e,λn M z=>let ⟨f,F,p,a,b,d⟩:=h.xi n M z;{f,F,p,a,b.mono e,d},λx n M z=>let ⟨f,F,p,a,b⟩:=h.mf x n M z;{f,F,p,a.mono e,b}}
structure wV(P:Program)(w:World)(K:W.Frag)(mg:Str->Option Value)(base:Heap)(is:List (Str×Int))(cl:List Str)(j:Nat)(l:FT)(fx:XT)(c:Cg):Prop where
 ok:Ok P w K mg base is cl j l fx
 ck:Yu P w K mg base j c
abbrev Vb(s:Ω)(S:Sg):Tr:=tr S 40 none (ah s)<|ja s
abbrev SO(s:Ω)(c:Cg)(S:Sg)(b:Γ Ω):Δ OG:=nG (EU c S (ah s) (ja s) (Vb s S) 40) b
abbrev Xf(s:Ω)(c:Cg)(S:Sg)(f:XT)(b:Γ Ω):Δ XO:=Nn c f (ah s) (ja s) (Vb s S) 10 b
def LP(C:Bk X (ja st) (ah st) k)(h:wV X.prog X.w X.K X.mg X.base is cl j l fx c)(e:j<=k)(t:SO st c ⟨l,is⟩ b=↑g):IA X aaa aab pa b g:=
 hZ (λs g z=>tq C (G:=⟨l,is⟩) (j:=j) {h.ok.of,h.ok.oi,h.ok.ob} h.ck e (uo (G:=⟨l,is⟩) 40 C {h.ok.of,h.ok.oi,h.ok.ob} e λq z=>by cases z) 40 z) t
def Mq(C:Bk X.nox (ja st) (ah st) k)(h:wV X.prog X.w X.K X.mg X.base is cl j l fx c)(e:j<=k)(p:bw (mX X.prog X.w) X E)(t:Xf st c ⟨l,is⟩ fx b=↑xg):Iz X E aaa aab pa b xg:=
 Av C h.ok.ob h.ck e (uo (G:=⟨l,is⟩) 40 C {h.ok.of,h.ok.oi,h.ok.ob} e λq z=>by cases z) h.ok.ox p 10 t
def Do{α:Type}{a:α}{l:Γ _}{R:Str->α->Prop}(h:R x a)(H:∀y b,l.lookup y=↑b->R y b):∀y b,((x,a)::l).lookup y=↑b->R y b:=λy b z=>by
 grind
def WO(u:zv K m qual st f fd)(h:wV P w K mg base is cl j l fx c)(t:SO st c ⟨l,is⟩ (aH st)=↑g)(F:aZ (ja st) (l5 st n) (ah st))(e:(l5 st n).length=n)(E:(ja st).length=k):dc P w K mg base rO (j+1) f fd (l5 st n) (Pm K c.C n<|hV g c.C k):=by
 have:dc P w K mg base rO (j+1) f fd _ (Pm K c.C _<|hV g c.C _):=QZ u F λX p hw a M b C _ d H A=>by
  subst p;subst hw;subst a;subst M;subst b;exact LP C h (yL j) t
 rw[e,E]at this;lia
def XD(u:zv K m qual st f fd)(h:wV P w K mg base is cl j l fx c)(t:Xf st c ⟨l,is⟩ fx (aH st)=↑xg)(F:aZ (ja st) (l5 st n) (ah st))(e:(l5 st n).length=n)(a:(ja st).length=k):dc P w K mg base (mX P w) (j+1) f fd (l5 st n) (B7 K mg c.C n<|nu xg c.C k):=by
 have:dc P w K mg base _ (j+1) f fd _ (B7 K mg c.C _<|nu xg c.C _):=UO u F λX E p hw d M b C hc x g H A=>by
  subst p;subst hw;subst d;subst M;subst b;exact Mq C h (yL j) x.pass t
 rw[e,a]at this;lia
def om(st:Ω)(D:pI K c.C m st (l5 st n))(h:wV P w K mg base is cl j l fx c)(t:SO st c ⟨l,is⟩ (aH st)=↑g:=by kernel_rfl)(F:aZ (ja st) (l5 st n) (ah st):=by exact fst)(e:(l5 st n).length=n:=by kernel_rfl)(E:(ja st).length=k:=by kernel_rfl) :
  wV P w K mg base is cl (j+1) l fx {c with ms:=(m,n,hV g c.C k)::c.ms}:=by
 let(f,d,q,u,M,B):=D.ex;have a:=Il h.ck<|Nat.le_succ j;exact{up h.ok<|Nat.le_succ j,{a with ms:=λi N mm=>Do {f,d,_,WO u h t F e E,M,B} (λy b=>a.ms y _ _) i (N,mm)}}
def Ym(st:Ω)(D:pI K c.C m st (l5 st n))(h:wV P w K mg base is cl j l fx c)(t:SO st c ⟨l,is⟩ (aH st)=↑g:=by kernel_rfl)(tx:Xf st c ⟨l,is⟩ fx (aH st)=↑xg:=by kernel_rfl)(F:aZ (ja st) (l5 st n) (ah st):=by exact fst)(e:(l5 st n).length=n:=by kernel_rfl)(E:(ja st).length=k:=by kernel_rfl) :
  wV P w K mg base is cl (j+1) l fx {c with ms:=(m,n,hV g c.C k)::c.ms,xs:=(m,n,nu xg c.C k)::c.xs}:=by
 have o:=om st D h t F e E;let(f,d,q,u,M,B):=D.ex;exact{o.ok,{o.ck with xs:=λa N mm=>Do {f,d,_,XD u h tx F e E,M,B} (λy b=>(Il h.ck<|Nat.le_succ j).xs y _ _) a (N,mm)}}
def oi(f':Ψ)(st:Ω)(D:pI K c.C "__init__" st (l5 st n))(H:Mk K c.C f')(hc:mg c.cn=↑(.ref c.C))(h:wV P w K mg base is cl j l fx c)(t:SO st c ⟨l,is⟩ (aH st)=↑g:=by kernel_rfl)(tx:Xf st c ⟨l,is⟩ fx (aH st)=↑xg:=by kernel_rfl)(F:aZ (ja st) (l5 st n) (ah st):=by exact fst)(e:(l5 st n).length=n:=by kernel_rfl)(E:(ja st).length=k:=by kernel_rfl) :
  wV P w K mg base is cl (j+1) l fx {c with ini:=↑(n,hV g c.C k),xi:=↑(n,nu xg c.C k)}:=by
 let(f,d,q,u,M,B):=D.ex;have a:=Il h.ck<|Nat.le_succ j;have z:=M.at_;rw[H.init]at z;cases z;have Xu:=WO u h t F e E;have WJ:=XD u h tx F e E;refine{up h.ok<|Nat.le_succ j,a.cl,a.na,a.ms,λN m z=>?_,a.mv,a.mx,a.fs,a.xs,λN m z=>?_,a.mf}
 .cases z;exact{_,d,_,H,Xu,B,hc}
 .cases z;exact{_,d,_,H,WJ,B,hc}
abbrev vm(p p2 P a b c:Pos):Γ ExceptHandler:=[.ExceptHandler (↑(.Name "FlowError" p)) (↑"_law_e") [.Return (↑(.Call (.Name "_law_refused" p2) [.Name "_law_e" P] [] a)) b] c]
structure LN(st:Stmt)(i:Nat):Prop where
 s:ee (ah st) (ja st) "_law_e"=↑i:=by kernel_rfl
 l:(ah st).names.lookup ("_law_e":Str)=↑.local:=by kernel_rfl
 cl:((ah st).names.all λy=>!(y.2==NameKind.cell))=true:=by decide +kernel
 f:pN (ah st) "FlowError"=true:=by decide +kernel
 r:pN (ah st) "_law_refused"=true:=by decide +kernel
def Q1{cs:Γ _}(C:Bk X (ja st) (ah st) j)(t:Top X st)(T:LN st i)(M:vx X.K X.mg F cs)(R:∀c d,qv ns c=↑d->Bz X.prog X.w X.K X.mg X.base j "_law_refused" c d)(S:(ns.all λc=>(cs.map Prod.fst).contains c)=true):Rj X i [.Return (↑(.Call (.Name "_law_refused" p2) [.Name "_law_e" I] [] U)) p5] F (qv ns):=λc d H=>by
 let(hc,_):=ax H;let(z,Z,rfl):=List.mem_map.mp<|List.contains_iff_mem.mp<|List.all_eq_true.mp S c<|List.contains_iff_mem.mp hc;exact{z.2,M.at_ z Z,M.xm z Z,GN (R _ d H) C.room (C.gl T.r) (by rfl) (cg C T.s).1 (t.lc _ T.l).1 (t.lc _ T.l).2<|by rfl}
def oT{cs:Γ _}(st:Ω)(i:Nat)(D:iu K x st (l5 st n))(M:vx K mg Fa cs)(R:{j:Nat}->∀c d,qv ns c=↑d->Bz P w K mg base j "_law_refused" c d)(h:wV P w K mg base is cl j l fx c)(A:aH st=[.Try body (vm U p2 p3 p4 p5 p6) [] [] p7]:=by rfl)(t:SO st c ⟨l,is⟩ body=↑g:=by kernel_rfl)(tx:Xf st c ⟨l,is⟩ fx body=↑xg:=by kernel_rfl)(T:LN st i:=by exact {})(S:(ns.all λc=>(cs.map Prod.fst).contains c)=true:=by decide +kernel)
  (F:aZ (ja st) (l5 st n) (ah st):=by exact fst)(e:(l5 st n).length=n:=by kernel_rfl)(E:(ja st).length=k:=by kernel_rfl):wV P w K mg base is cl (j+1) l fx {c with fs:=(x,n,hV (Am g xg<|qv ns) c.C k)::c.fs}:=by
 let(f,q,G,u,B):=(X9 h.ok D).ex;have r:dc P w K mg base rO (j+1) f q _ (Pm K c.C _<|hV (Am g xg<|qv ns) c.C _):=QZ u F λX z hw v m a C p O H Q=>by
  subst z;subst hw;subst v;subst m;subst a;rw[A];exact FF<|UU p.hs p.hf (C.gl T.f) M.fe (by rfl) (by rw[C.n];exact C.nd) (cg C T.s).1 (p.lc _ T.l).1 (p.lc _ T.l).2 (p.nc _ T.cl) (LP {C.1,C.2,C.3,C.4,C.5,C.6,rfl,C.8} h (yL j) t) (λV W L I=>Mq {C.1,C.2,C.3,C.4,C.5,C.6,rfl,C.8} h (yL j) I tx)<|Q1 C p T M R S
 rw[e,E]at r;have o:=Il h.ck<|Nat.le_succ j;exact{up h.ok<|Nat.le_succ j,{o with fs:=λJ N mm=>Do {f,q,_,r,G,u.kp,B} (λy b=>o.fs y _ _) J (N,mm)}}
end
section
variable {K:Φ}{st:Ω}{c:Cg}
def oN{cs:Γ (Str×Ψ)}{Y:MF}{Z:XF}(st:Ω)(i:Nat)(Df:iu K x st (l5 st 2))(M:vx K mg Fa cs)(R:{j:Nat}->∀c d,qv ns c=↑d->Bz P w K mg base j "_law_refused" c d)(h:wV P w K mg base is cl j l fx c)
  (hb:aH st=[.Try [.Return (↑(.Call (.Name c.cn q1) [.Name a q2,.Name b q3] [] q4)) q5] (vm p1 p2 p3 p4 p5 p6) [] [] p7]:=by rfl)(h1:c.ini=↑(3,Y):=by rfl)(h2:c.xi=↑(3,Z):=by rfl)(s0:ee (ah st) (ja st) a=↑0:=by kernel_rfl)(s1:ee (ah st) (ja st) b=↑1:=by kernel_rfl)(hg:pN (ah st) c.cn=true:=by decide +kernel)(I:(c.cn==("__debug__":Str))=false:=by decide)
  (T:LN st i:=by exact {})(hns:(ns.all λc=>(cs.map Prod.fst).contains c)=true:=by decide +kernel)(F:aZ (ja st) (l5 st 2) (ah st):=by exact fst)(e:(l5 st 2).length=2:=by kernel_rfl):wV P w K mg base is cl (j+2) ((x,2,runN Z<|qv ns)::l) fx {c with mf:=↑(x,2,Y)}:=by
 let(f,fd,hm,U,B):=(X9 h.ok Df).ex;let(fi,fdi,psi,Mi,Fi,Bi,N):=h.ck.ini 3 Y h1;let(fx',fdx,psx,Mx,Fx,Bx,_):=h.ck.xi 3 Z h2;have O:∀{p:Hp}{S:Γ D}{u:Γ V},aw K p S u->S.length=2->∃v0 L,u=[v0,L]:=λr W=>by
  have:=r.length;rw[W]at this;exact Cd this
 have ok1:dc P w K mg base rO (j+2) f fd (l5 st 2) (IS K c.C 2 Y):=by
  let(oc,od,kV,doc,pm,an,k,ct,osl,rfl,lk,n):=U.ex;refine n6 lk n F (λu H Q E z=>by let(p,S,st',_,_,r,h,_):=z;grind) λA o s H u Q E J z=>?_;have C:Bk (qp rO P w K mg base (ja st) x (ah st) f k A o s H E).nox (ja st) (ah st) (j+1):={rfl,F.nd,λy kd hy=>.inl hy,rfl,λ_ _=>rfl,J,rfl,F.kind}
  let(L,v2,v3,v4):=cg C s0;let(u1,u2,u3,u4):=cg C s1;rw[hb];refine{_,iJ<|Fz<|iJ<|lJ<|Fy (E:=E0) Mi Fi J (C.gl hg) N Bi .nil o7 (aL (aY L v2 v3 v4)<|aL (aY u1 u2 u3 u4) bJ) I,?_};have z':=z;let(p,S,st',_,_,r,h,_):=z;let(w0,w1,rfl):=O r h;exact{w0,rfl,w1,rfl,SL z'}
 have ok2:dc P w K mg base rO (j+2) f fd (l5 st 2) (Vu K 2<|runN Z<|qv ns):=by
  let(oc,od,kV,doc,pm,an,k,ct,osl,rfl,lk,n):=U.ex;refine n6 lk n F (λu H Q E z=>by let(p,S,d,_,_,r,h,_):=z;grind) λA o s H u Q E J z=>?_;have C:Bk (qp rO P w K mg base (ja st) x (ah st) f k A o s H E).nox (ja st) (ah st) (j+1):={rfl,F.nd,λy kd hy=>.inl hy,rfl,λ_ _=>rfl,J,rfl,F.kind}
  let(L,v2,v3,v4):=cg C s0;let(u1,u2,u3,u4):=cg C s1;have t:Top (qp rO P w K mg base (ja st) x (ah st) f k A o s H E).nox st:=QM;rw[hb];let(p,S,d,sm,tb,r,W,hd,q):=z;let(c',hx,hd):=bs hd;let(Ce,hC,hxm,hsu):=Q1 C t T M R hns c' d hd;let(w0,w1,rfl):=O r W;exact{_,(iJ<|FG (X:=(qp rO P w K mg base _ x _ f k A o s H E).nox) t.hs t.hf (C.gl T.f) M.fe (by rfl) F.nd (cg C T.s).1 (t.lc _ T.l).1 (t.lc _ T.l).2 (t.nc _ T.cl) (λpn xe E' hp=>iJ<|lJ<|Fy Mx Fx J (C.gl hg) N Bx .nil hp (aL (aY L v2 v3 v4)<|aL (aY u1 u2 u3 u4) bJ) I) hC hxm hsu).nox,({λH'=>∃g,bo p H g H',{w0,rfl,w1,rfl,λx dx n1 n2=>UL sm tb r W hx hC (λH' g G=>{rfl,g,G}) x dx n1 n2},λH' z=>by let(g,G):=z;exact {g,G.fh,λv H3 HF3 g3=>q v H3 HF3<|G.trans g3}})}
 have m:=Il h.ck<|jS j 2;refine{TH (up h.ok<|jS j 2) {f,_,_,ok2,hm,U.kp,B},m.cl,m.na,m.ms,m.ini,m.mv,m.mx,m.fs,m.xs,m.xi,λx' n' mi' z=>?_};cases z;exact{f,_,_,ok1,hm,U.kp,B}
end
def sA(e:Ω):Δ (Γ γ×γ×Pos):=if h:e.ctorIdx=5 then Stmt.Assign.elim e h λx y p=>↑(x,y,p)else none
def QS(h:sA e=↑z):e=.Assign z.1 z.2.1 z.2.2:=Stmt.Assign.elim e (gu h) (λa b d h=>by cases h;rfl) h
def sI(e:Ω):Δ (γ×Γ Ω×Γ Ω×Pos):=if h:e.ctorIdx=12 then Stmt.If.elim e h λx y u p=>↑(x,y,u,p)else none
def VS(h:sI e=↑z):e=.If z.1 z.2.1 z.2.2.1 z.2.2.2:=Stmt.If.elim e (gu h) (λa b d f h=>by cases h;rfl) h
def sE(e:Ω):Δ (γ×Pos):=if h:e.ctorIdx=24 then Stmt.Expr.elim e h λx p=>↑(x,p)else none
def Wu(h:sE e=↑z):e=.Expr z.1 z.2:=Stmt.Expr.elim e (gu h) (λa b h=>by cases h;rfl) h
def sR(e:Ω):Δ (Δ γ×Pos):=if h:e.ctorIdx=3 then Stmt.Return.elim e h λx p=>↑(x,p)else none
def Vx(h:sR e=↑z):e=.Return z.1 z.2:=Stmt.Return.elim e (gu h) (λa b h=>by cases h;rfl) h
def ZZ(T:Tr)(s:Ω):Δ (Dl.Env->Δ θ):=(sI s).bind λz=>if z.2.2.1.isEmpty=true then T.t z.1 else none
def RO(O:bz X T)(h:ZZ T s=↑U):PS X s (Qe (Jy X.K U) tNo xn):=by
 let(z,Z,h):=bs h;let(e,h):=ax h;rw[VS Z,List.isEmpty_iff.mp e];exact rY (O.t _ _ h) (λp s a H E I=>False.elim) j1
def XN(sc:ζ)(N:Γ Str)(s:Ω):Δ Unit:=(sA s).bind λz=>(l1 z.1).bind λt=>(dN t).bind λx=>(Vc z.2.1).bind λy=>if(lE N sc 3 x.1&&nv N sc 1 y.1.2.1&&y.1.1.2.1==("pop":Str)&&y.2.1.isEmpty&&y.1.1.2.2.endLine==y.2.2.line)=true then↑()else none
def Pt(C:Bk X N sc k)(h:XN sc N s=↑u):PS X s (Di (Ui X.K "list" TQ<|rj 1)<|tL 3):=by
 let(z,Z,h):=bs h;let(t,ht,h):=bs h;let(x,e,h):=bs h;let(y,Y,h):=bs h;let(hc,h):=ax h;simp?[zF]at hc;obtain⟨⟨⟨⟨H,a⟩,b⟩,c⟩,d⟩:=hc;let(z1,z2,z3,z4):=C.loc H;let(v,V,f,g):=C.vis a;rw[QS Z,cJ ht,eu e,uQ Y,List.isEmpty_iff.mp c,eq_of_beq b];exact lb z1 z2 z3 (Sw qK PySem.F.slot_list_pop PySem.F.type_list_pop SX (aY v V f g) rfl d) rfl z4
def Wr(T:Tr)(sc:ζ)(N:Γ Str)(s:Ω):Δ FE:=(sE s).bind λz=>(Vc z.1).bind λy=>(l1 y.2.1).bind λa=>(dT a).bind λt=>(l2 t.1).bind λu=>(GU u.2).bind λw =>
 if(nv N sc 2 y.1.2.1&&nv N sc 0 w.2.1&&y.1.1.2.1==("append":Str)&&w.1.2.1==gx&&y.1.1.2.2.endLine==y.2.2.line&&!isStar u.1)=true then T.e u.1 else none
def Oc(C:Bk X N sc k)(O:bz X T)(h:Wr T sc N s=↑f):PS X s (FK<|X8 X.K "list" Ai (rj 2)<|uw (Ts<|uw (tD X.K f)<|uw (Jc X.K (rj 0) gx) Hf) Hf):=by
 let(z,Z,h):=bs h;let(y,Y,h):=bs h;let(a,A,h):=bs h;let(t,ht,h):=bs h;let(u,U,h):=bs h;let(w,hw,h):=bs h;let(hc,h):=ax h;simp?[zF,yO]at hc;obtain⟨⟨⟨⟨⟨H,b⟩,c⟩,d⟩,g⟩,i⟩:=hc;let(W,j,l,m):=C.vis H;let(x,n,o,p):=C.vis b;rw[Wu Z,uQ Y,cJ A,yi ht,lV U,gQ hw,eq_of_beq c,eq_of_beq d];exact hU (pq qK PySem.F.slot_list_append PySem.F.type_list_append mG (aY W j l m) (aL (zk<|aL (O.e _ _ h) (aL (kh (aY x n o p) rfl) bJ rfl)<|aQ i) bJ rfl) rfl (Um rfl) g rfl rfl) rfl
def We(T:Tr)(sc:ζ)(N:Γ Str)(s:Ω):Δ FE:=(sA s).bind λz=>(l1 z.1).bind λt=>(GU t).bind λw=>if(nv N sc 0 w.2.1&&w.1.2.1==gx&&!iX z.2.1)=true then T.e z.2.1 else none
def Nz(C:Bk X N sc k)(O:bz X T)(h:We T sc N s=↑f):PS X s (R8 X.K (rj 0) (tD X.K f) gx):=by
 let(z,H,h):=bs h;let(t,ht,h):=bs h;let(w,hw,h):=bs h;let(hc,h):=ax h;simp?[zF,yO]at hc;let(y,Y,a,b):=C.vis hc.1.1;rw[QS H,cJ ht,gQ hw,eq_of_beq hc.1.2];exact Da (aY y Y a b) (O.e _ _ h)<|d0 hc.2
def mRt(T:Tr)(s:Ω):Δ FE:=(sR s).bind λz=>z.1.bind T.e
def Tb(O:bz X T)(h:mRt T s=↑f):PS X s (Tq<|tD X.K f):=by
 let(z,Z,h):=bs h;let(e,H,h):=bs h;rw[Vx Z,H];exact lJ<|O.e _ _ h
def Zm(T:Tr)(sc:ζ)(N:Γ Str):Γ Ω->Δ ((Dl.Env->Δ θ)×FE×FE×FE)
 |[a,b,d,e,f]=>(ZZ T a).bind λt=>(XN sc N b).bind λ_=>(Wr T sc N d).bind λF=>(We T sc N e).bind λf1=>(mRt T f).map λf2=>(t,F,f1,f2)
 |_=>none
def T4{f0 f1 f2:FE}(C:Bk X N sc k)(O:bz X T)(h:Zm T sc N body=↑(I,f0,f1,f2)):su X body (UW X.K I f0 f1 f2):=by
 rcases body with _|⟨a,_|⟨b,_|⟨d,_|⟨e,_|⟨f,_|_⟩⟩⟩⟩⟩<;>try cases h
 let(_,c,h):=bs h;let(_,g,h):=bs h;let(_,i,h):=bs h;let(_,j,h):=bs h;let(_,l,h):=af h;cases h;exact cP (RO O c)<|cP (Pt C g)<|cP (Oc C O i)<|cP (Nz C O j)<|iJ<|Tb O l
section
variable {K:Φ}{st:Ω}{f0 f1 f2:FE}
def ov(st:Ω)(O:pI K c.C m st (l5 st 3))(h:wV P w K mg base is cl j l fx c)(t:Zm (Vb st ⟨l,is⟩) (ah st) (ja st) (aH st)=↑(U,f0,f1,f2))(Z:aH st=.If t1 [.Raise (↑(.Call (.Name "Nothing" r1) [.Constant (.str r2) r3 r4] [] r5)) none r6] [] r7::rest)(tt:(Vb st ⟨l,is⟩).t t1=↑U)(Y:pN (ah st) "Nothing"=true)
  (T:∀ds:Γ D,ds≠[]->U [none,↑(.list ds),none,none]=↑false)(o:U [none,↑(.list []),none,none]=↑true)(r:∀w p:D,f0 [none,none,none,↑(.tuple [w,p])]=↑w)(u:∀w p:D,f1 [none,none,none,↑(.tuple [w,p])]=↑p)(v:∀w p:D,f2 [none,none,none,↑(.tuple [w,p])]=↑w)
  (np:bV K c.C gx)(hp:∀f g,c.mp.contains (f,g)=true->g≠f/\gx≠f/\gx≠g)(N:mg "Nothing"=↑(.ref Cn))(hx:W.excIn K Cn MI "ValueError.__new__"=true)
  (F:aZ (ja st) (l5 st 3) (ah st))(e:(l5 st 3).length=3)(J:(ja st).length=4):wV P w K mg base is cl (j+1) l fx {c with mv:=↑m}:=by
 let(f,L,Q,A,M,B):=O.ex;have a:=Il h.ck<|Nat.le_succ j;refine{up h.ok<|Nat.le_succ j,a.cl,a.na,a.ms,a.ini,λx z R V y=>?_,λx z=>?_,a.fs,a.xs,a.xi,a.mf}
 .have z:↑m=↑x:=z;cases z;let(n1,n2,n3):=hp R V y;refine{f,L,_,U7 (k:=j) A F J e T r u v a.cl np n1 n2 n3 λX n hw i d b C _ _=>?_,M,B};subst n;subst hw;subst i;subst d;subst b;exact T4 C (uo (G:=⟨l,is⟩) 40 C {h.ok.of,h.ok.oi,h.ok.ob} (yL j) λq z=>by cases z) t
 .have z:↑m=↑x:=z;cases z;refine{f,L,_,P1 (k:=j) A F J e o N λX E n hw i d b C hc hk=>?_,M,B};subst n;subst hw;subst i;subst d;subst b;rw[Z];exact cP (rY (PT.nox<|(uo (G:=⟨l,is⟩) 40 C {h.ok.of,h.ok.oi,h.ok.ob} (yL j) λq z=>by cases z).t _ _ tt) (iJ<|LQ hk hc (C.gl Y) N hx<|by decide) j1) λS s σ H E I z=>z.elim
end
section
variable {K:Φ}{C:Ψ}{m:Str}{ps:Γ Str}
def m1(q:Str)(f c:Ψ)(p:Θ){st:Ω}(b:fu st ps:=by exactλ_ _ _ _ _ _ _ _ us H=>Hd.BM (R:=λus=>bindArgs _ {us,[]}=pure (List.zip _ us)) (λ_=>rfl) us H)(a:W.findIn K (.ref C) m=↑(↑(.ref f)):=by kernel_rfl)(n:W.isFn K (.ref f)=true:=by kernel_rfl)(l:K.lookup f=↑(Hd.Yn m q st p c):=by kernel_rfl)(d:W.codeIn K (.ref c) q=true:=by kernel_rfl)(k:W.keepIn K (.ref f)=true:=by kernel_rfl):pI K C m st ps:=KS b a n l d k
def m2(q:Str)(f c:Ψ)(p:Θ){st:Ω}(b:fu st ps:=by exactλ_ _ _ _ _ _ _ _ us H=>Hd.Cd (R:=λus=>bindArgs _ {us,[]}=pure (List.zip _ us)) (λ_ _=>rfl) us H)(a:W.findIn K (.ref C) m=↑(↑(.ref f)):=by kernel_rfl)(n:W.isFn K (.ref f)=true:=by kernel_rfl)(l:K.lookup f=↑(Hd.Yn m q st p c):=by kernel_rfl)(d:W.codeIn K (.ref c) q=true:=by kernel_rfl)(k:W.keepIn K (.ref f)=true:=by kernel_rfl):pI K C m st ps:=KS b a n l d k
def m3(q:Str)(f c:Ψ)(p:Θ){st:Ω}(b:fu st ps:=by exactλ_ _ _ _ _ _ _ _ us H=>Hd.CN (R:=λus=>bindArgs _ {us,[]}=pure (List.zip _ us)) (λ_ _ _=>rfl) us H)(a:W.findIn K (.ref C) m=↑(↑(.ref f)):=by kernel_rfl)(n:W.isFn K (.ref f)=true:=by kernel_rfl)(l:K.lookup f=↑(Hd.Yn m q st p c):=by kernel_rfl)(d:W.codeIn K (.ref c) q=true:=by kernel_rfl)(k:W.keepIn K (.ref f)=true:=by kernel_rfl):pI K C m st ps:=KS b a n l d k
end
section
variable {K:Φ}{st:Ω}{c:Cg}
def W2{fl:Γ Str}(n:(fl.all λf=>match W.findIn K (.ref C) f with|some none=>true|_=>false)=true)(H:fl.contains f=true):bV K C f:=by
 have:=List.all_eq_true.mp n f<|List.contains_iff_mem.mp H;show W.findIn K (.ref C) f=↑none;split at this
 .assumption
 .cases this
def oc0{on:Γ Str}(c:qt K C)(a:(fl.all λf=>match W.findIn K (.ref C) f with|some none=>true|_=>false)=true)(h:Ok P w K mg base is cl j l fx):wV P w K mg base is cl j l fx {cn,C,fl,[],none,none,mp,[],[],none,none,on}:=
 {h,c,λf H=>W2 a H,λm n mm z=>(nomatch z),λn i z=>(nomatch z),λm z=>(nomatch z),λm z=>(nomatch z),λx n mm z=>(nomatch z),λx n mm z=>(nomatch z),λn i z=>(nomatch z),λx n i z=>(nomatch z)}
abbrev _root_.zq0:=(aa (ae 1) ag)
abbrev _root_.zq1:=(bT bX zq0)
def mT:Dl.Env->Δ θ:=fB<|f2 bc zq1<|fC<|.int 0
def mE(k:Int):FE:=f2 aK (ae 3)<|fC<|.int k
def XH(ds:Γ D)(h:ds≠[]):mT [none,↑(.list ds),none,none]=↑false:=by
 cases ds with
 |nil=>exact absurd rfl h
 |cons d ds=>rfl
def ov1(st:Ω)(D:pI K c.C m st (l5 st 3))(n:bV K c.C gx)(a:∀z∈c.mp,z.2≠z.1/\gx≠z.1/\gx≠z.2)(H:mg "Nothing"=↑(.ref I))(x:W.excIn K I MI "ValueError.__new__"=true)(h:wV P w K mg base is cl j l fx c)(b:aH st=.If t1 [.Raise (↑(.Call (.Name "Nothing" r1) [.Constant (.str U) r3 r4] [] r5)) none r6] [] r7::rest:=by rfl)(t:Zm (Vb st ⟨l,is⟩) (ah st) (ja st) (aH st)=↑(mT,mE 0,mE 1,mE 0):=by kernel_rfl)(tt:(Vb st ⟨l,is⟩).t t1=↑mT:=by kernel_rfl)(N:pN (ah st) "Nothing"=true:=by decide +kernel)
  (F:aZ (ja st) (l5 st 3) (ah st):=by exact fst)(e:(l5 st 3).length=3:=by kernel_rfl)(E:(ja st).length=4:=by kernel_rfl):wV P w K mg base is cl (j+1) l fx {c with mv:=↑m}:=
 ov st D h t b tt N XH rfl (λw p=>rfl) (λw p=>rfl) (λw p=>rfl) n (λf g z=>a _<|List.contains_iff_mem.mp z) H x F e E
end
end Rgo
namespace Pg
open PySem L2 Dl PySem.Spec PyProof.Rows
def ux:aq->Δ Out:=(az (iH (pU (cD<|fB<|IE "int"<|ae 0)<|fB<|IE "bool"<|ae 0) (bg<|fC<|.bool false) fI)<|bg<|gR CD CD (ae 1) (ae 0)<|ae 2)
def bQ:Γ D->Δ D:=bK ux 3
def rX:aq->Δ Out:=(bg<|aj 3 bQ<|aa (ae 0)<|aa (fC<|.int 0)<|aa (f2 Dl.eK (ae 1)<|fC<|.int 1) ag)
def dI:Γ D->Δ D:=bK rX 2
def xk:aq->Δ Out:=(bg<|lL (IE "tuple"<|ae 0)<|gR CD CD (ae 1) (bT bX<|aa (ae 0) ag)<|ae 2)
def cx:Γ D->Δ D:=bK xk 3
def rL:aq->Δ Out:=(az (iH (cD<|fB<|IE "tuple"<|ae 0) (bg<|fC<|.bool false) fI)<|az (iH (cD<|fB<|bT oP<|aa (dh<|aD 1 [1] (dg<|ae 0) (fG 0) (λ_=>↑true)<|aj 2 dI<|aa (ae 0)<|aa (ae 1) ag) ag) (bg<|fC<|.bool false) fI)<|bg<|f2 bc (f1 mJ<|ae 0)<|bT bX<|aa (ae 0) ag)
def iS:Γ D->Δ D:=bK rL 2
def BL:aq->Δ Out:=(bg<|lL (aj 3 cx<|aa (ae 0)<|aa (fC<|.int 2)<|aa (fC<|.int 2) ag)<|lL (aj 3 bQ<|aa (f2 aK (ae 0)<|fC<|.int 0)<|aa (fC<|.int 0)<|aa (fC<|.int 9) ag)<|aj 2 iS<|aa (f2 aK (ae 0)<|fC<|.int 1)<|aa (ae 1) ag)
def ik:Γ D->Δ D:=bK BL 2
def B4:aq->Δ Out:=(az (iH (cD<|fB<|aj 3 cx<|aa (ae 0)<|aa (fC<|.int 3)<|aa (fC<|.int 3) ag) (bg<|fC<|.bool false) fI)<|bg<|lL (aj 2 dI<|aa (f2 aK (ae 0)<|fC<|.int 0)<|aa (ae 1) ag)<|lL (aj 2 dI<|aa (f2 aK (ae 0)<|fC<|.int 1)<|aa (ae 2) ag)<|aj 3 bQ<|aa (f2 aK (ae 0)<|fC<|.int 2)<|aa (fC<|.int 1)<|aa (fC<|.int 9) ag)
def ml:Γ D->Δ D:=bK B4 3
def rV:aq->Δ Out:=(az (iH (pU (cD<|fB<|aj 3 cx<|aa (ae 0)<|aa (fC<|.int 1)<|aa (fC<|.int 4) ag)<|cD<|fB<|aj 3 cx<|aa (ae 1)<|aa (fC<|.int 1)<|aa (fC<|.int 4) ag) (bg<|fC<|.bool false) fI)<|az (iH (cD<|fB<|bT oP<|aa (dh<|aD 1 [1] (dg<|ae 0) (fG 0) (λ_=>↑true)<|aj 2 ik<|aa (ae 0)<|aa (bT bX<|aa (ae 1) ag) ag) ag) (bg<|fC<|.bool false) fI)<|az (iH (cD<|fB<|bT oP<|aa (dh<|aD 1 [0] (dg<|ae 1) (fG 0) (λ_=>↑true)<|aj 2 ik<|aa (ae 0)<|aa (bT bX<|aa (ae 1) ag) ag) ag) (bg<|fC<|.bool false) fI)<|bg<|lL (IE "tuple"<|ae 2)<|bT oP<|aa (dh<|aD 1 [0,1] (dg<|ae 2) (fG 0) (λ_=>↑true)<|aj 3 ml<|aa (ae 0)<|aa (bT bX<|aa (ae 1) ag)<|aa (bT bX<|aa (ae 2) ag) ag) ag)
def iU:Γ D->Δ D:=bK rV 3
def nr:aq->Δ Out:=(az (bH 1 []<|dD ag)<|az (gX [0] (cz<|aa (ae 0) ag) (g9 2 3)<|GP 1 [2,3]<|aD 1 [2] (dg<|f2 aK (ae 3)<|fC<|.int 1) (fG 0) (λ_=>↑true)<|aX<|aa (ae 1)<|aa (ae 0) ag)<|bg<|ae 1)
def bW:Γ D->Δ D:=bK nr 4
def kq:aq->Δ Out:=(az (iH (pU (cD<|fB<|aj 3 cx<|aa (ae 0)<|aa (fC<|.int 3)<|aa (fC<|.int 3) ag)<|cD<|fB<|aj 3 iU<|aa (f2 aK (ae 0)<|fC<|.int 0)<|aa (f2 aK (ae 0)<|fC<|.int 1)<|aa (f2 aK (ae 0)<|fC<|.int 2) ag) (bg<|fC<|.bool false) fI)<|az (bH 1 [0]<|aD 1 [] (dg<|f2 aK (ae 0)<|fC<|.int 2) (fG 0) (λ_=>↑true)<|aX<|aa (f2 aK (ae 0)<|fC<|.int 0)<|aa (f2 aK (ae 0)<|fC<|.int 1) ag)<|az (bH 2 [0]<|o6 iK<|aa (aj 1 bW<|aa (f2 aK (ae 0)<|fC<|.int 0) ag) ag)<|az (bH 3 [0]<|o6 iK<|aa (dh<|aD 2 [] (dg<|aj 1 bW<|aa (f2 aK (ae 0)<|fC<|.int 1) ag) (my 0 1) (λ_=>↑true)<|aX<|aa (ae 1)<|aa (ae 0) ag) ag)<|bg<|lL (f2 bc (ae 1)<|ae 2)<|f2 bc (ae 1)<|ae 3)
def b9:Γ D->Δ D:=bK kq 4
abbrev zq2:=(aa (ae 0) ag)
abbrev zq3:=(aj 1 b9 zq2)
abbrev zq4:=(fB zq3)
abbrev zq5:=(cD zq4)
def fZ:aq->Δ Out:=(iH zq5 Vd fI)
def eB:Γ D->Δ D:=bK fZ 1
def dw:aq->Δ Out:=(iH (cD<|fB<|aj 3 bQ<|aa (ae 0)<|aa (ae 1)<|aa (ae 2) ag) Vd fI)
def eC:Γ D->Δ D:=bK dw 3
def cW:aq->Δ Out:=(lG<|aj 3 eC<|aa (ae 0)<|aa (fC<|.int 0)<|aa (f2 Dl.eK (ae 1)<|fC<|.int 1) ag)
def b8:Γ D->Δ D:=bK cW 2
abbrev zq6:=(aa (ae 2) ag)
def DJ:aq->Δ Out:=(bg<|f2 aC (f2 aC (fQ cY (ae 0) gK<|rN<|ae 1)<|aX zq6)<|fQ cY (ae 0) (rN<|f2 aC (ae 1)<|fC<|.int 1) gK)
def fV:Γ D->Δ D:=bK DJ 3
abbrev GC:Γ Str:=["world","side","place","ways","likes","own"]
def pR:aq->Δ Out:=(az (aR 3 [0]<|f2 aK (ae 0)<|fC<|.int 2)<|az (aR 4 [0,1,2]<|f2 aK (f2 aK (f2 aK (ae 0)<|ae 1)<|ae 2)<|fC<|.int 1)<|az (bH 5 [1,2,3]<|aD 2 [1,2] (cz<|aa (ae 3) ag) (my 0 1) (fB<|f2 bc (f2 aK (ae 1)<|ae 2)<|ae 3)<|ae 0)<|bg<|dh<|qy [1,3,4] (ae 5)<|f2 nV (ae 3)<|f2 aK (f2 aK (ae 2)<|ae 0)<|f2 Dl.eK (fC<|.int 1)<|ae 1)
def ju:Γ D->Δ D:=bK pR 6
def rM:aq->Δ Out:=(az (iH (fB<|f2 bc (ae 0)<|dh<|dD ag) (bg<|f2 eH (fC<|.int 7)<|ae 1) fI)<|bg<|f2 aC (f2 aK (ae 0)<|f2 nS (ae 1)<|bT bX<|aa (ae 0) ag)<|f2 eH (fC<|.int 6553)<|f2 pX (ae 1)<|bT bX<|aa (ae 0) ag)
def iI:Γ D->Δ D:=bK rM 2
def oF:aq->Δ Out:=(az (aR 3 [0,1]<|f2 nS (f2 aC (f2 eH (f2 nS (aj 2 iI<|aa (ae 0)<|aa (ae 1) ag)<|fC<|.int 2147483563)<|fC<|.int 69069)<|f2 eH (fC<|.int 104723)<|f2 aC (ae 1)<|fC<|.int 1)<|fC<|.int 2147483563)<|az (aR 3 [3]<|f2 nS (f2 aC (f2 eH (ae 3)<|ae 3)<|f2 pX (ae 3)<|fC<|.int 3)<|fC<|.int 2147483399)<|bg<|f2 nS (f2 pX (f2 nS (f2 aC (f2 eH (ae 3)<|ae 3)<|f2 pX (ae 3)<|fC<|.int 7)<|fC<|.int 2147483647)<|fC<|.int 11)<|ae 2)
def ao:Γ D->Δ D:=bK oF 4
def nq:aq->Δ Out:=(az (bH 3 []<|dD ag)<|az (gX [2] (cz<|aa (ae 2) ag) (g9 4 5)<|az (bH 6 []<|dD ag)<|az (gX [5] (cz<|aa (ae 5) ag) (g9 7 8)<|IV 6 [8] (aj 3 ao<|aa (ae 0)<|aa (f2 aC (f2 aC (ae 1)<|f2 eH (fC<|.int 4)<|ae 4)<|ae 7)<|aa (f2 aC (bT bX<|aa (ae 6) ag)<|fC<|.int 1) ag)<|ae 8)<|nA 3 [6]<|bT gO<|aa (ae 6) ag)<|bg<|ae 3)
def cF:Γ D->Δ D:=bK nq 9
def gW:aq->Δ Out:=(az (iH (fy (fB<|f2 yc (ae 2)<|fC<|.int 3)<|fB<|f2 bc (aj 3 ao<|aa (ae 0)<|aa (f2 aC (ae 1)<|fC<|.int 64)<|aa (fC<|.int 4) ag)<|fC<|.int 0) (az (aR 3 [0,1]<|f2 aC (fC<|.int 1)<|aj 3 ao<|aa (ae 0)<|aa (f2 aC (ae 1)<|fC<|.int 65)<|aa (fC<|.int 2) ag)<|az (aR 4 [3]<|aX<|aa (aX<|aa (ae 3)<|aa (aX<|aa (fC<|.int 1)<|aa (fC<|.int 0) ag) ag)<|aa (aX<|aa (ae 3)<|aa (aX<|aa (fC<|.int 0)<|aa (fC<|.int 1) ag) ag) ag)<|bg<|aX<|aa (aX<|aa (aX<|aa (ae 3)<|aa (aX<|aa (fC<|.int 0)<|aa (fC<|.int 1) ag) ag)<|aa (aX<|aa (ae 3)<|aa (aX<|aa (fC<|.int 1)<|aa (fC<|.int 0) ag) ag) ag)<|aa (ae 4)<|aa (aX<|aa (aX<|aa (fC<|.int 0)<|aa (fC<|.int 0)<|aa (fC<|.int 2) ag)<|aa (aX<|aa (fC<|.int 0)<|aa (fC<|.int 1)<|aa (fC<|.int 2) ag)<|aa (aX<|aa (fC<|.int 1)<|aa (fC<|.int 0)<|aa (fC<|.int 2) ag)<|aa (aX<|aa (fC<|.int 1)<|aa (fC<|.int 1)<|aa (fC<|.int 2) ag) ag) ag) fI)<|az (aR 5 [0,1]<|f2 aC (fC<|.int 1)<|aj 3 ao<|aa (ae 0)<|aa (ae 1)<|aa (fC<|.int 3) ag)<|az (aR 6 [0,1]<|f2 aC (fC<|.int 1)<|aj 3 ao<|aa (ae 0)<|aa (f2 aC (ae 1)<|fC<|.int 1)<|aa (fC<|.int 3) ag)<|az (bH 7 []<|dD ag)<|az (gX [5,6] (da<|aa (f2 eH (ae 5)<|ae 6) ag) (CY 8)<|iH (fy (fB<|f2 AN (bT bX<|aa (ae 7) ag)<|ae 2)<|fB<|f2 yc (aj 3 ao<|aa (ae 0)<|aa (f2 aC (f2 aC (ae 1)<|fC<|.int 2)<|ae 8)<|aa (fC<|.int 4) ag)<|fC<|.int 0) (nA 7 [0,1,6,8]<|aX<|aa (f2 pX (ae 8)<|ae 6)<|aa (f2 nS (ae 8)<|ae 6)<|aa (f2 aC (fC<|.int 1)<|aj 3 ao<|aa (ae 0)<|aa (f2 aC (f2 aC (ae 1)<|fC<|.int 12)<|ae 8)<|aa (fC<|.int 2) ag) ag) fI)<|az (aR 9 [0,1,5,7]<|aj 3 cF<|aa (ae 0)<|aa (f2 aC (ae 1)<|fC<|.int 24)<|aa (dh<|aD 1 [7] (da<|aa (ae 5) ag) (fG 0) (λ_=>↑true)<|dh<|aD 1 [0] (dg<|ae 1) (fG 0) (fB<|f2 bc (f2 aK (ae 0)<|fC<|.int 0)<|ae 1)<|f2 aK (ae 0)<|fC<|.int 1) ag)<|az (aR 10 [0,1,6,7]<|aj 3 cF<|aa (ae 0)<|aa (f2 aC (ae 1)<|fC<|.int 40)<|aa (dh<|aD 1 [7] (da<|aa (ae 6) ag) (fG 0) (λ_=>↑true)<|dh<|aD 1 [0] (dg<|ae 1) (fG 0) (fB<|f2 bc (f2 aK (ae 0)<|fC<|.int 1)<|ae 1)<|f2 aK (ae 0)<|fC<|.int 0) ag)<|az (aR 11 [0,1,8,9]<|bT gO<|aa (dh<|aD 2 [0,1] (cz<|aa (ae 9) ag) (my 0 1) (λ_=>↑true)<|aX<|aa (aj 3 ao<|aa (ae 2)<|aa (f2 aC (f2 aC (ae 3)<|fC<|.int 56)<|ae 0)<|aa (fC<|.int 4) ag)<|aa (ae 1) ag) ag)<|az (aR 4 [0,1,8,10]<|bT gO<|aa (dh<|aD 2 [0,1] (cz<|aa (ae 10) ag) (my 0 1) (λ_=>↑true)<|aX<|aa (aj 3 ao<|aa (ae 2)<|aa (f2 aC (f2 aC (ae 3)<|fC<|.int 60)<|ae 0)<|aa (fC<|.int 4) ag)<|aa (ae 1) ag) ag)<|bg<|aX<|aa (ae 11)<|aa (ae 4)<|aa (bT gO<|aa (ae 7) ag) ag)
def dS:Γ D->Δ D:=bK gW 12
abbrev zq7:=(f2 aK (ae 0)<|fC<|.int 2)
abbrev zq8:=(f2 aK (ae 0)<|ae 2)
def HS:aq->Δ Out:=(bg<|bT Bh<|aa (dh<|aD 2 [2,3] (lu<|aa zq7 zq0) (my 0 1) (fB<|f2 bc zq8<|ae 3)<|ae 1) ag)
def eW:Γ D->Δ D:=bK HS 4
abbrev zq9:=(aa zq8 ag)
abbrev agV:=(cz zq9)
def sv:aq->Δ Out:=(bg<|bT oP<|aa (dh<|aD 2 [0,1,2] agV (my 0 1) (λ_=>↑true)<|f2 CD (aj 4 eW<|aa (ae 2)<|aa (ae 3)<|aa (ae 4) zq2)<|f2 aK (ae 1)<|fC<|.int 0) ag)
def eE:Γ D->Δ D:=bK sv 3
def rA:aq->Δ Out:=(az (aR 2 [0]<|f2 aK (ae 0)<|fC<|.int 2)<|az (iH (cD<|fB<|aj 3 cx<|aa (ae 1)<|aa (bT bX<|aa (ae 2) ag)<|aa (bT bX<|aa (ae 2) ag) ag) (bg<|fC<|.bool false) fI)<|az (iH (cD<|fB<|bT oP<|aa (dh<|aD 2 [] (lu<|aa (ae 2)<|aa (ae 1) ag) (my 0 1) (λ_=>↑true)<|aj 3 bQ<|aa (ae 1)<|aa (fC<|.int 0)<|aa (f2 aK (ae 0)<|fC<|.int 2) ag) ag) (bg<|fC<|.bool false) fI)<|bg<|lL (aj 3 eE<|aa (ae 0)<|aa (ae 1)<|aa (fC<|.int 0) ag)<|aj 3 eE<|aa (ae 0)<|aa (ae 1)<|aa (fC<|.int 1) ag)
def fM:Γ D->Δ D:=bK rA 3
abbrev agW:=(lG<|aj 1 eB zq2)
abbrev acq:=(aa (ae 0) zq0)
abbrev ajG:=(aj 2 fM acq)
abbrev ajH:=(fB ajG)
abbrev afv:=(cD ajH)
def gZ:aq->Δ Out:=(az agW<|iH afv Vd fI)
def bq:Γ D->Δ D:=bK gZ 2
def jy:aq->Δ Out:=(az (aR 4 [0,2,3]<|f2 aK (f2 aK (f2 aK (ae 0)<|fC<|.int 2)<|ae 3)<|ae 2)<|az (iH (fB<|f2 AN (aj 4 eW<|aa (ae 0)<|aa (ae 1)<|aa (ae 2)<|aa (ae 4) ag)<|f2 aK (f2 aK (f2 aK (ae 0)<|ae 2)<|ae 4)<|fC<|.int 0) (bg<|fC<|.bool true) fI)<|az (aR 5 [0,2,4]<|aj 3 ju<|aa (ae 0)<|aa (ae 2)<|aa (ae 4) ag)<|az (aR 6 [3,5]<|fQ cY (ae 5) (rN<|f2 aC (f2 nV (ae 5)<|ae 3)<|fC<|.int 1) gK)<|bg<|bT Rf.MB<|aa (dh<|aD 1 [1] (dg<|ae 6) (fG 0) (λ_=>↑true)<|f2 yc (f2 aK (ae 1)<|ae 0)<|fC<|.int 0) ag)
def hJ:Γ D->Δ D:=bK jy 7
abbrev adw:=(f2 aK (ae 1)<|ae 2)
abbrev adx:=(f2 aK zq7<|ae 2)
abbrev ajI:=(f2 bc adw<|f2 aK adx<|fC<|.int 2)
abbrev agX:=(fB ajI)
abbrev ajJ:=(aa (ae 1)<|aa (fC<|.int 0) zq6)
abbrev ajK:=(aa (ae 0) ajJ)
abbrev ajL:=(aj 4 hJ ajK)
abbrev ajM:=(fB ajL)
abbrev agY:=(cD ajM)
abbrev ajN:=(aa (ae 1)<|aa (fC<|.int 1) zq6)
abbrev ajO:=(aa (ae 0) ajN)
abbrev ajP:=(aj 4 hJ ajO)
abbrev ajQ:=(fB ajP)
abbrev agZ:=(cD ajQ)
def nX:aq->Δ Out:=(az (iH agX (bg<|fC<|.str "full") fI)<|az (iH agY (bg<|fC<|.str "giver") fI)<|az (iH agZ (bg<|fC<|.str "taker") fI)<|bg<|fC .none)
def iq:Γ D->Δ D:=bK nX 3
abbrev ad7:=(aa zq1 ag)
abbrev ady:=(da ad7)
abbrev ad8:=(aa (ae 0)<|aa (ae 1) zq6)
abbrev ab7:=(bg<|ae 2)
def sy:aq->Δ Out:=(az (gX [1] ady (CY 2)<|iH (fB<|f2 sk (aj 3 iq ad8)<|fC .none) ab7 fI)<|bg<|fC .none)
def cw:Γ D->Δ D:=bK sy 3
abbrev ajR:=(aj 2 bq acq)
abbrev adz:=(lG ajR)
abbrev ajS:=(aa (ae 2) zq2)
abbrev ag0:=(aa (ae 1) ajS)
abbrev ag1:=(aj 3 iq ag0)
def HY:aq->Δ Out:=(az adz<|bg<|dh<|aD 1 [0,1] ady (fG 0) (fB<|f2 sk ag1<|fC .none)<|ae 0)
def eY:Γ D->Δ D:=bK HY 2
abbrev afw:=(aa zq7 ag)
abbrev ag2:=(aa (ae 1) afw)
abbrev ag3:=(lu ag2)
def Cb:aq->Δ Out:=(bg<|bT Bh<|aa (dh<|aD 2 [2,3] ag3 (my 0 1) (fB<|f2 bc adw<|ae 3)<|ae 0) ag)
def lR:Γ D->Δ D:=bK Cb 4
abbrev ab8:=(aa (ae 3) ag)
abbrev ag4:=(aa (ae 2) ab8)
abbrev afx:=(aj 4 lR<|aa (ae 0)<|aa (ae 1) ag4)
abbrev ajT:=(f2 aK (ae 4)<|fC<|.int 0)
abbrev ajU:=(f2 yc afx ajT)
abbrev ag5:=(fB ajU)
abbrev afy:=(bg<|fC<|.bool false)
abbrev ajV:=(iH ag5 afy fI)
abbrev ag6:=(gX [0,2] agV (g9 3 4) ajV)
abbrev afz:=(bg<|fC<|.bool true)
def CP:aq->Δ Out:=(az (gX [] (da<|aa (fC<|.int 2) ag) (CY 2) ag6) afz)
def gD:Γ D->Δ D:=bK CP 5
abbrev ajW:=(f2 aK (ae 2)<|fC<|.int 2)
abbrev afA:=(aa ajW ag)
abbrev ag7:=(aa (fC<|.int 0) ag)
abbrev ad9:=(aX ag7)
def Ba:aq->Δ Out:=(az (aR 3 []<|aX ag)<|az (gX [2] (cz afA) (g9 4 5)<|az (aR 6 [0,1,3,4,5]<|f2 aC (ae 3)<|aX<|aa (aj 3 ao<|aa (ae 0)<|aa (f2 aC (ae 1)<|ae 4)<|aa (f2 aC (f2 aK (ae 5)<|fC<|.int 2)<|fC<|.int 1) ag) ag)<|az (aR 7 [2,6]<|aj 2 gD<|aa (ae 2)<|aa (f2 aC (ae 6)<|f2 eH ad9<|f2 Dl.eK (bT bX afA)<|bT bX<|aa (ae 6) ag) ag)<|aR 3 [3,6,7]<|tM (fB<|ae 7) (ae 6)<|f2 aC (ae 3) ad9)<|bg<|ae 3)
def cZ:Γ D->Δ D:=bK Ba 8
open PySem L2 Dl PySem.Spec PyProof.Rows Ex
def vh:XS:=(MR zq5 (Vp "NoWorld") qw)
def gg:Γ D->Δ Str:=CA vh 1
def vo:XS:=(m9 (uV<|FU 1 gg zq2) agW<|MR afv (Vp "NoPlan") qw)
def bE:Γ D->Δ Str:=CA vo 2
abbrev afB:=(f2 aK zq8<|ae 3)
abbrev ajX:=(f2 aK afB<|fC<|.int 0)
abbrev ajY:=(f2 AN afx ajX)
abbrev afC:=(fB ajY)
abbrev aea:=(f2 aK afB<|fC<|.int 1)
abbrev ajZ:=(f2 aK (ae 7)<|ae 2)
abbrev aj0:=(f2 bc ajZ<|ae 3)
abbrev ag8:=(fB aj0)
abbrev aj1:=(f2 yc (ae 6)<|fC<|.int 0)
abbrev ag9:=(fB aj1)
abbrev aha:=(f2 Dl.eK (fC<|.int 1)<|ae 2)
abbrev aj2:=(f2 aK (ae 7) aha)
abbrev aj3:=(f2 nV (ae 5) aj2)
abbrev aj4:=(f2 nV (ae 5)<|ae 4)
abbrev aj5:=(f2 yc aj3 aj4)
abbrev aj6:=(fB aj5)
abbrev aj7:=(fy ag9 aj6)
abbrev ahb:=(fy ag8 aj7)
abbrev ahc:=(iH ahb afz fI)
def k9:aq->Δ Out:=(az (iH afC afz fI)<|az (aR 5 [0,2,3] aea)<|az (gX [0,1] ag3 (g9 6 7) ahc) afy)
def dQ:Γ D->Δ D:=bK k9 8
abbrev acS:=(aa (ae 4) ag)
def uH:aq->Δ Out:=(az (lZ 3 4 5 [0,2] adx)<|az (iH (fB<|f2 bc adw<|ae 5) (bg<|fC<|.str "full") fI)<|az (iH (cD<|fB<|aj 5 dQ<|aa (ae 0)<|aa (ae 1)<|aa (fC<|.int 0)<|aa (ae 3) acS) (bg<|fC<|.str "giver") fI)<|bg<|tM (fB<|aj 5 dQ<|aa (ae 0)<|aa (ae 1)<|aa (fC<|.int 1)<|aa (ae 4) ab8) (fC .none)<|fC<|.str "taker")
def nM:Γ D->Δ D:=bK uH 6
abbrev aj8:=(aj 3 bQ ad8)
abbrev aj9:=(fB aj8)
abbrev aeb:=(cD aj9)
def vf:XS:=(MR aeb (Vp "NoPlace") qw)
def gf:Γ D->Δ Str:=CA vf 3
abbrev aka:=(f2 Dl.eK (ae 1)<|fC<|.int 1)
abbrev ahd:=(aa aka ag)
def sj:XS:=(uV<|FU 3 gf<|aa (ae 0)<|aa (fC<|.int 0) ahd)
def cT:Γ D->Δ Str:=CA sj 2
abbrev akb:=(aa (ae 0) ag4)
abbrev akc:=(aj 3 ju akb)
abbrev ahe:=(dg akc)
abbrev acT:=(f1 IW<|fC<|.int 1)
def nI:aq->Δ Out:=(bg<|f2 aK (dh<|aD 1 [1] ahe (fG 0) (fB<|f2 yc (f2 aK (ae 1)<|ae 0)<|fC<|.int 0)<|ae 0) acT)
def eO:Γ D->Δ D:=bK nI 4
abbrev ahf:=(aa (fC<|.int 1) ag)
abbrev akd:=(aR 5 [0,2,4]<|f2 aK adx<|ae 4)
abbrev afD:=(aa (ae 5) ag)
abbrev ake:=(aa (ae 4) afD)
abbrev akf:=(aa (ae 1) ake)
abbrev ahg:=(aa (ae 0) akf)
abbrev akg:=(aj 4 eW ahg)
abbrev akh:=(f2 aK (f2 aK (ae 0)<|ae 4)<|ae 5)
abbrev aki:=(f2 aK akh<|fC<|.int 0)
abbrev akj:=(f2 bc akg aki)
abbrev akk:=(fB akj)
abbrev akl:=(aj 4 eO ahg)
abbrev akm:=(aR 6 [0,1,4,5] akl)
abbrev akn:=(f2 Dl.eK (f2 aK (ae 3)<|ae 6)<|fC<|.int 1)
abbrev ako:=(aa akn ag)
abbrev ahh:=(aa (ae 6) ako)
abbrev ahi:=(aa (ae 3) ahh)
abbrev ahj:=(aj 3 fV ahi)
abbrev ahk:=(aR 3 [3,6] ahj)
abbrev ahl:=(az akm ahk)
abbrev ahm:=(iH akk ahl fI)
abbrev aes:=(az akd ahm)
def AU:aq->Δ Out:=(az (aR 3 [1,2]<|aj 3 fV<|aa (ae 1)<|aa (ae 2)<|aa (f2 aC adw<|fC<|.int 1) ag)<|az (gX [] (dg<|aX<|aa (fC<|.int 0) ahf) (CY 4) aes)<|bg<|ae 3)
def gp:Γ D->Δ D:=bK AU 7
abbrev aet:=(aa (ae 2) ad7)
abbrev ahn:=(aj 2 b8 aet)
abbrev aeu:=(lG ahn)
abbrev aho:=(f2 uT (ae 2)<|aj 2 eY acq)
abbrev aev:=(fB aho)
def Kn:aq->Δ Out:=(az adz<|az aeu<|az (iH aev Vd fI)<|bg<|aj 3 gp ad8)
def iD:Γ D->Δ D:=bK Kn 3
def GO:XS:=(m9 (uV<|FU 2 bE acq) adz<|m9 (uV<|FU 2 cT aet) aeu<|MR aev (Vp "NoPlace") qw)
def lS:Γ D->Δ Str:=CA GO 3
abbrev acB:=(bH 2 [1]<|dD zq0)
abbrev aew:=(aR 4 [0,1]<|aj 2 cw acq)
abbrev adA:=(f2 aK (ae 2) acT)
abbrev ahp:=(aa (ae 0)<|aa adA acS)
abbrev aex:=(aj 3 gp ahp)
abbrev aey:=(aR 5 [0,2,4] aex)
abbrev aez:=(aa (ae 0) afD)
abbrev ahq:=(aj 2 cw aez)
abbrev aeA:=(aR 4 [0,5] ahq)
def R7:aq->Δ Out:=(az adz<|az acB<|az (ym 3 1<|fC<|.bool true)<|az aew<|az (ID (fB<|f2 mY (ae 4)<|fC .none) (az aey<|az (wR 5 3 ab7 fI)<|az (nA 2 [5]<|ae 5)<|az (wt 3 5<|fC<|.bool true) aeA) Rf.turns) ab7)
def za:Γ D->Δ D:=bK R7 6
abbrev aeB:=(aj 3 nM ag0)
def CM:aq->Δ Out:=(bg<|dh<|aD 1 [0,1] ady (fG 0) (fB<|f2 sk aeB<|fC .none)<|ae 0)
def bI:Γ D->Δ D:=bK CM 2
abbrev aeC:=(f2 aK (ae 6)<|ae 2)
abbrev ahr:=(f2 bc aeC<|ae 3)
abbrev aeD:=(fB ahr)
abbrev ahs:=(f2 bc (f2 aK (ae 6) aha)<|ae 4)
abbrev aht:=(fB ahs)
abbrev adB:=(f2 aK (ae 1)<|ae 5)
abbrev ahu:=(fy aht<|fB<|f2 yc adB<|fC<|.int 0)
abbrev ahv:=(fy aeD ahu)
abbrev ahw:=(fQ cY (ae 1) gK<|rN<|ae 5)
abbrev ahx:=(aa (f2 Dl.eK adB<|fC<|.int 1) ag)
abbrev ahy:=(aX ahx)
abbrev ahz:=(f2 aC ahw ahy)
abbrev acC:=(f2 aC (ae 5)<|fC<|.int 1)
abbrev ahA:=(fQ cY (ae 1) (rN acC) gK)
abbrev ahB:=(f2 aC ahz ahA)
abbrev ahC:=(bg ahB)
abbrev aeE:=(iH ahv ahC fI)
def A6:aq->Δ Out:=(az (iH afC (bg<|ae 1) fI)<|az (gX [0,2,3] (dg<|f1 Qs aea) (CY 4)<|gX [0] (cz afw) (g9 5 6) aeE)<|bg<|ae 1)
def eU:Γ D->Δ D:=bK A6 7
def Bm:aq->Δ Out:=(az (lZ 3 4 5 [0,2] adx)<|az (aR 6 [0,1,3,4]<|aj 4 eU<|aa (ae 0)<|aa (aj 4 eU<|aa (ae 0)<|aa (ae 1)<|aa (fC<|.int 0) ab8)<|aa (fC<|.int 1) acS)<|bg<|f2 aC (f2 aC (fQ cY (ae 6) gK<|rN<|ae 2)<|aX<|aa (f2 aC aeC<|fC<|.int 1) ag)<|fQ cY (ae 6) (rN<|f2 aC (ae 2)<|fC<|.int 1) gK)
def gy:Γ D->Δ D:=bK Bm 7
abbrev ahD:=(aa adA ag)
abbrev aeF:=(aa (ae 0) ahD)
abbrev aeG:=(aj 2 bI aeF)
abbrev acD:=(dD ag)
abbrev aeH:=(f2 gq aeG<|dh acD)
abbrev aeI:=(fB aeH)
abbrev ahE:=(f2 aK aeG<|fC<|.int 0)
abbrev ahF:=(aa ahE ag)
abbrev ahG:=(aa adA ahF)
abbrev aeJ:=(aa (ae 0) ahG)
abbrev aeK:=(aj 3 gy aeJ)
abbrev ahH:=(aR 3 [0,2] aeK)
abbrev ahI:=(iH (fB<|f2 Dk (ae 3)<|ae 2) ab7 fI)
abbrev ahJ:=(az ahI<|nA 2 [3]<|ae 3)
abbrev aeL:=(az ahH ahJ)
def we:aq->Δ Out:=(az acB<|az (ID aeI aeL Rf.turns) ab7)
def iY:Γ D->Δ D:=bK we 4
open PySem L2 Dl PySem.Spec PyProof.Rows Ob Og Ex
abbrev aeM:=(bT bX acS)
abbrev aeN:=(f2 Dl.eK aeM<|fC<|.int 1)
abbrev adC:=(aa (fC .none) ag)
abbrev ahK:=(aa (fC<|.str "refused") ahf)
abbrev aeO:=(aX ahK)
def AV:aq->Δ Out:=(az (iH (fB<|f2 bc (ae 2)<|fC<|.int 2) (az (aR 4 [0,1]<|aj 2 iY acq)<|bg<|aX<|aa aeN<|aa (f2 aK (ae 4) acT) ag) fI)<|az (iH (fB<|f2 bc (ae 2)<|fC<|.int 0) (az (iH (pU (fB<|IE "bool"<|ae 3)<|fB<|f2 uT (ae 3)<|aj 2 bI acq) (bg<|aX<|aa (aX<|aa (fC<|.str "refused")<|aa (fC<|.int 2) ag) adC) fI)<|az (aR 5 [0,1,3]<|aj 3 gy<|aa (ae 0)<|aa (ae 1) ab8)<|bg<|aX<|aa (aj 2 bI aez) afD) fI)<|az (iH (pU (cD<|fB<|IE "tuple"<|ae 3)<|fB<|f2 gq (bT bX ab8) zq1) (bg<|aX<|aa aeO adC) fI)<|bg<|aX<|aa (aj 2 bI<|aa (ae 0) ab8) ab8)
def bj:Γ D->Δ D:=bK AV 6
def pw(C:Ψ):Og.MF:=hV (bD (bC<|lG<|aj 2 bq<|aa (ae 1) zq6)<|bD (tI 0 C "ground"<|oD<|ae 1)<|bD (tI 0 C "present"<|oD<|ae 2)<|bD (uy 0 C "done" acD)<|uy 0 C "undone" acD) C 3
def oE(C:Ψ):Γ Slot->Fs->Δ Str:=nu (QQ 2 bE<|e9 (rD<|ae 1)<|e9 (rD<|ae 2) qg) C 3
def cO(C:Ψ):Og.MF:=hV (bD (Bu 0 C "done"<|Ih<|e9 (rD<|ae 1)<|e9 (BP 0 C "present") qg)<|bD (uy 0 C "undone" acD)<|tI 0 C "present"<|oD<|ae 2) C 3
def dv(C:Ψ):Og.MF:=hV (bD (vt<|dE 0 C "step_to" 3 (cO C)<|cC (oD<|fC<|.str "push")<|cC (mw 3 iD<|cC (oq 0 C "ground")<|cC (oq 0 C "present")<|cC (oD<|ae 1) iA) iA)<|cq (List.range 2)<|i6<|mw 2 eY<|cC (oq 0 C "ground")<|cC (oq 0 C "present") iA) C 2
def f9(C:Ψ):Γ Slot->Fs->Δ Str:=nu (X2 0 C "step_to" (fC<|.str "push")<|QQ 3 lS<|e9 (BP 0 C "ground")<|e9 (BP 0 C "present")<|e9 (rD<|ae 1) qg) C 2
def dX(C:Ψ):Og.MF:=hV (bD (vt<|mw 2 bq<|cC (oq 0 C "ground")<|cC (oD<|ae 1) iA)<|bD (vt<|dE 0 C "step_to" 3 (cO C)<|cC (oD<|fC<|.str "lay")<|cC (oD<|ae 1) iA)<|cq (List.range 2)<|i6<|mw 2 eY<|cC (oq 0 C "ground")<|cC (oq 0 C "present") iA) C 2
def gV(C:Ψ):Γ Slot->Fs->Δ Str:=nu (QQ 2 bE<|e9 (BP 0 C "ground")<|e9 (rD<|ae 1) qg) C 2
def eD(C:Ψ):Og.MF:=hV (bD (J4 1<|mw 2 za<|cC (oq 0 C "ground")<|cC (oq 0 C "present") iA)<|bD (vt<|dE 0 C "step_to" 3 (cO C)<|cC (oD<|fC<|.str "settle")<|cC (oD<|f2 aK (ae 1) acT) iA)<|cq (List.range 2)<|i6<|oD<|f2 Dl.eK zq1<|fC<|.int 1) C 2
def ej(C:Ψ):Og.MF:=hV (cq (List.range 1)<|i6<|oq 0 C "present") C 1
def cH(C:Ψ):Og.MF:=hV (cq (List.range 1)<|i6<|Vm 0 C "move" "done" "undone") C 1
def fX(C:Ψ):Γ Slot->Fs->Δ Str:=nu (Ni 0 C "move" "done" "undone") C 1
def bY(C:Ψ):Og.MF:=hV (cq (List.range 1)<|i6<|Vm 0 C "move" "undone" "done") C 1
def fq(C:Ψ):Γ Slot->Fs->Δ Str:=nu (Ni 0 C "move" "undone" "done") C 1
def dm(C:Ψ):Og.MF:=hV (cq (List.range 1)<|i6<|oR<|Ih<|e9 (ye 0 C "done")<|e9 (ye 0 C "undone") qg) C 1
def rC:Str->Δ D:=qv ["NoWorld","NoPlan","NoPlace","Nothing"]
def il(C:Ψ):Γ D->Δ D:=runN (oE C) rC
def ay(C:Ψ):Og.MF:=hV (Am (bD (vn (oT<|fB<|f2 AN (ae 1)<|fC<|.int 3) (bD (vn (oT<|fB<|f2 bc (ae 1)<|fC<|.int 0) (cq (List.range 4)<|i6<|dE 0 C "push" 2 (dv C)<|cC (oD<|ae 2) iA) CW)<|cq (List.range 4)<|i6<|A3 (fB<|f2 bc (ae 1)<|fC<|.int 1) (dE 0 C "lay" 2 (dX C)<|cC (oD<|ae 2) iA)<|dE 0 C "settle" 1 (eD C) iA) CW)<|cq (List.range 4)<|i6<|A3 (fB<|f2 bc (ae 1)<|fC<|.int 3) (dE 0 C "back" 1 (cH C) iA)<|dE 0 C "forth" 1 (bY C) iA) (pS (fB<|f2 AN (ae 1)<|fC<|.int 3) (pS (fB<|f2 bc (ae 1)<|fC<|.int 0) (MP 0 C "push" 2 (f9 C)<|e9 (rD<|ae 2) qg)<|pS (fB<|f2 bc (ae 1)<|fC<|.int 1) (MP 0 C "lay" 2 (gV C)<|e9 (rD<|ae 2) qg) AB)<|pS (fB<|f2 bc (ae 1)<|fC<|.int 3) (MP 0 C "back" 1 (fX C) qg)<|MP 0 C "forth" 1 (fq C) qg) rC) C 4
abbrev aeP:=(f2 aK (f2 aK (ae 4)<|ae 5)<|fC<|.int 1)
abbrev ahL:=(gR CD AN (fC<|.int 0) (ae 12) aeM)
abbrev aeQ:=(fB ahL)
def mj(C:Ψ):OG:=(bD (bC<|aR 7 [6]<|f2 aC (fC<|.int 80)<|f2 eH (fC<|.int 20)<|ae 6)<|bD (bC<|aR 8 [4,5] aeP)<|bD (bC<|aR 9 [0,7]<|f2 aK (dh<|dD<|aa (fC<|.int 0)<|aa (fC<|.int 0)<|aa (fC<|.int 0)<|aa (fC<|.int 1)<|aa (fC<|.int 1)<|aa (fC<|.int 2)<|aa (fC<|.int 3)<|aa (fC<|.int 4) ag)<|aj 3 ao<|aa (ae 0)<|aa (ae 7)<|aa (fC<|.int 8) ag)<|bD (bC<|bH 10 [0,1,7,8]<|MN lz (aj 2 bI<|aa (ae 1)<|aa (ae 8) ag)<|dh<|dD<|aa (aj 3 ao<|aa (ae 0)<|aa (f2 aC (ae 7)<|fC<|.int 1)<|aa (fC<|.int 9) ag) ag)<|bD (bC<|aR 11 [0,1,7,9,10]<|tM (fB<|f2 bc (ae 9)<|fC<|.int 0) (f2 aK (ae 10)<|aj 3 ao<|aa (ae 0)<|aa (f2 aC (ae 7)<|fC<|.int 2)<|aa (bT bX<|aa (ae 10) ag) ag)<|aj 3 cZ<|aa (ae 0)<|aa (f2 aC (ae 7)<|fC<|.int 3) zq0)<|bD (vn (oT<|fB<|f2 bc (aj 3 ao<|aa (ae 0)<|aa (f2 aC (ae 7)<|fC<|.int 13)<|aa (fC<|.int 8) ag)<|fC<|.int 0) (bC<|aR 11 [0,7]<|f2 aK (dh<|dD<|aa (fC .none)<|aa acT<|aa (fC<|.bool true)<|aa (f2 eH ad9<|fC<|.int 12)<|aa (fC<|.str "0") ag)<|aj 3 ao<|aa (ae 0)<|aa (f2 aC (ae 7)<|fC<|.int 14)<|aa (fC<|.int 5) ag) CW)<|bD (vn (oT<|fB<|f2 yc (ae 9)<|fC<|.int 2) (bD (bC<|aR 12 [5,9]<|tM (fB<|f2 bc (ae 9)<|fC<|.int 3) (f2 Dl.eK (ae 5)<|fC<|.int 1) acC)<|bD (bC<|aR 13 [4,5,12]<|tM aeQ (f2 aK (f2 aK (ae 4)<|bT Cm<|aa (ae 5)<|aa (ae 12) ag)<|fC<|.int 0)<|aX<|aa (fC<|.str "refused")<|aa (fC<|.int 3) ag)<|bC<|aR 5 [4,5,12]<|tM aeQ (ae 12)<|ae 5)<|bD (bC<|nK 13 14 [1,8,9,11]<|aj 4 bj<|aa (ae 1)<|aa (ae 8)<|aa (ae 9)<|aa (ae 11) ag)<|vn (oT<|fB<|f2 mY (ae 14)<|fC .none) (bD (bC<|bH 4 [4,5,9,14]<|MN lz (fQ cY (ae 4) gK<|rN acC)<|dh<|dD<|aa (aX<|aa (f2 aK (dh<|dD<|aa (fC<|.str "push")<|aa (fC<|.str "lay")<|aa (fC<|.str "settle") ag)<|ae 9)<|aa (ae 14) ag) ag)<|bC<|aR 5 [5] acC) CW)<|bD (cq (List.range 16)<|vn (oB<|Jg gq (p8 3 C 3 (ay C)<|Gv<|A4 (oD<|ae 9)<|A4 (oD<|ae 11) LW)<|oD<|ae 13) (cq (List.range 16)<|i6<|oD<|fC<|.bool false) CW)<|bD (cq (List.range 16)<|vn (oB<|Jg gq (dE 3 C "counts" 1 (dm C) iA)<|oD<|aX<|aa (ae 5)<|aa (f2 Dl.eK aeN<|ae 5) ag) (cq (List.range 16)<|i6<|oD<|fC<|.bool false) CW)<|cq (List.range 16)<|vn (oB<|Jg gq (dE 3 C "plan" 1 (ej C) iA)<|oD aeP) (cq (List.range 16)<|i6<|oD<|fC<|.bool false) CW)
abbrev adD:=(aa (ae 1) zq2)
def mR(C:Ψ):OG:=(bD (bC<|aR 1 [0]<|aj 3 dS<|aa (ae 0)<|aa (fC<|.int 0)<|aa (fC<|.int 9) ag)<|bD (bC<|aR 2 [0,1]<|aj 3 cZ<|aa (ae 0)<|aa (fC<|.int 70) zq0)<|bD (uI 3 C 2 (pw C)<|cC (oD<|ae 1)<|cC (oD<|ae 2) iA)<|bD (bC<|bH 4 [2]<|dD<|aa (aX<|aa (fC<|.str "") zq6) ag)<|bD (bC<|aR 5 []<|fC<|.int 0)<|bD (KN [0] (da<|aa (bT Cm<|aa (fC<|.int 1)<|aa (bT Pk<|aa (fC<|.int 10)<|aa (bT bX zq2) ag) ag) ag) (CY 6)<|mj C)<|bD (bC<|bH 15 [1,2]<|aD 1 [1] (dg<|aX<|aa (fC .none)<|aa (f2 aC (ae 2) ad9)<|aa (dh<|o6 dF zq6) ag) (fG 0) (λ_=>↑true)<|aj 2 (il C) adD)<|cq (List.range 16)<|i6<|oD<|lL (f2 bc (ae 15)<|dh<|BC (dD<|aa aeO ag)<|fC<|.int 3)<|f2 bc (aj 2 (il C)<|aa (fQ cY (ae 1) gK<|rN<|fC<|.int 2) adC)<|aX<|aa (fC<|.str "refused") ag7)
def xp(C:Ψ):Γ D->Δ D:=Jw (mR C) 16
end Pg
namespace K72
open PySem L2 Dl PySem.Spec PyProof.Rows
open Pg Ob Og Ex Rg
abbrev clN:Γ Str:=["NoWorld","NoPlan","NoPlace","Nothing"]
abbrev clR:Γ Str:=["NoPlace","NoPlan","NoWorld"]
abbrev gi:Γ (Str×Int):=[("MOST_PLACES",4),("MOST",9)]
abbrev Ls:FT:=("_law_next",4,bj)::("_law_walked",2,iY)::("_law_push",3,gy)::("_law_less",4,eU)::("_law_gone",2,bI)::("_law_why",3,nM)::("_law_wants",5,dQ)::("_law_plan",3,cZ)::("_law_fits",2,gD)::("_law_used",4,lR)::("_law_world",3,dS)::("_law_orders",3,cF)::("_law_drawn",3,ao)::("_law_cell",2,iI)::("walk",2,za)::("pushed",3,iD)::("pushed_on",3,gp)::("least_liked_used",4,eO)::("leaving",2,eY)::("first_leaving",2,cw)::("why_kept",3,iq)::("wants_more",4,hJ)::("ways_of",3,ju)::("replaced",3,fV)::("check_number",2,b8)::("check_whole",3,eC)::("check_plan",2,bq)::("check_world",1,eB)::("is_plan",2,fM)::("keeps_amounts",3,eE)::("through",4,eW)::("is_world",1,b9)::("liked_pairs",1,bW)::("are_parts",3,iU)::("is_way",3,ml)::("is_end",2,ik)::("are_likes",2,iS)::("is_long",3,cx)::("is_number",2,dI)::("is_whole",3,bQ)::[]
abbrev Xs:XT:=("pushed",3,lS)::("check_number",2,cT)::("check_whole",3,gf)::("check_plan",2,bE)::("check_world",1,gg)::[]
abbrev Lt:FT:=("_law_new",2,il bF)::Ls
abbrev c0:Cg:={"Floor",bF,["ground","present","done","undone"],[],none,none,[("done","undone"),("undone","done")],[],[],none,none,["_law_floor"]}
abbrev c1:Cg:={c0 with mv:=↑"move" }
abbrev c2:Cg:={c1 with ini:=↑(3,pw bF),xi:=↑(3,oE bF)}
abbrev c3:Cg:={c2 with ms:=("step_to",3,cO bF)::c2.ms}
abbrev c4:Cg:={c3 with ms:=("push",2,dv bF)::c3.ms,xs:=("push",2,f9 bF)::c3.xs}
abbrev c5:Cg:={c4 with ms:=("lay",2,dX bF)::c4.ms,xs:=("lay",2,gV bF)::c4.xs}
abbrev c6:Cg:={c5 with ms:=("settle",1,eD bF)::c5.ms}
abbrev c7:Cg:={c6 with ms:=("plan",1,ej bF)::c6.ms}
abbrev c8:Cg:={c7 with ms:=("back",1,cH bF)::c7.ms,xs:=("back",1,fX bF)::c7.xs}
abbrev c9:Cg:={c8 with ms:=("forth",1,bY bF)::c8.ms,xs:=("forth",1,fq bF)::c8.xs}
abbrev c10:Cg:={c9 with ms:=("counts",1,dm bF)::c9.ms}
abbrev Zr:Cg:={c10 with mf:=↑("_law_new",2,pw bF)}
abbrev c12:Cg:={Zr with fs:=("_law_told",3,ay bF)::Zr.fs}
abbrev Mg:Γ D->Δ D:=xp bF
def VL:Rgo.SO (top 58) c12 {Lt,gi} (aH<|top 58)=↑(mR bF):=by kernel_rfl
structure TN(K:W.Frag)(mg:Str->Option Value):Prop where
 o:∀P w base,Rgo.wV P w K mg base gi clR 56 Lt Xs c12
 c:Dd K mg "law" (top 58) ["_law_script"]
def U4{P:ε}{w:δ}{K:Φ}{m:Str->Δ Θ}{fa:Ψ}(D:TN K m)(a:m "law"=↑(.ref fa)):∃d ,(∀s v,BindsTo s d {[v],[]} [("_law_script",v)])/\∀base ,K.In base->base.Ns mainGlobals m->dc P w K m base rO 57 fa d ["_law_script"] (Vu K 1 Mg):=by
 let(f,d,b,F,j):=D.c.ex;rw[a]at b;cases b;refine{d,λs v=>?_,λbase _ _=>Wj F (Rf.XX (N:=ja<|top 58)) λX p hw k M B C _ _ i H A=>by subst k;subst M;exact Rgo.LP C (D.o X.prog X.w X.base) (yL _) VL};let(O,q,kV,e,r,n,V,t,l,rfl,L,g):=F.ex;exact .of_eq rfl
def walk{l:W.OpenLaw}{q:ε}{e:Γ Str}{XP:(Str->Δ Θ)->ι->Prop}{YP:δ->ι->Prop}{d:DefRec}{K:Params->Φ}{ts:Γ Ψ}(n:l.most=↑63)(H:d.params.defaults=[])(L:d.name="law")
  (Y:∀w h,YP w h->(K w.params).In h/\∀P∈ts,h.get? P=↑(W.tabObj #[]))(ht:∀w:δ,pC (K w.params) ts=true)(I:∀(w:δ){h:ι}{m:Str->Δ Θ},(K w.params).In h->h.Ns mainGlobals m->TN (K w.params) m)(main:∀ns:Γ Int,ns.length<=63->Mg [.list<|ns.map PyData.int]=↑(.bool true)) :
  W.WalkO q e XP YP l.row.toRowW d [] (λf vs=>PySem.call f vs):=
 Ll n (by decide) H {rfl,by decide,by decide} Y ht (λw m F h X G g=>U4 (I w X G)<|by grind) (λ_ _ a ns b T S=>Dw S T<|main ns b) λ_ _ _ _ _ z=>z
end K72
namespace Dl
open PySem L2 PySem.Spec PyProof.Rows
def A1:D->Prop|.none=>True|.bool _=>True|.int _=>True|.str x=>PyData.canLay0 (.str x)=true|_=>False
def jx(b:Nat):Nat->D->Prop
 |0,d=>A1 d
 |k+1,d=>A1 d\/(∃s,(d=.list s\/d=.tuple s)/\s.length<=b/\∀x∈s,jx b k x)
def jx.leaf(h:A1 d):jx b k d:=by
 cases k with
 |zero=>exact h
 |succ k=>exact .inl h
def jx.tup(H:xs.length<=b)(h:∀x∈xs,jx b k x):jx b (k+1) (.tuple xs):=.inr {xs,.inr rfl,H,h}
def jx.lst(H:xs.length<=b)(h:∀x∈xs,jx b k x):jx b (k+1) (.list xs):=.inr {xs,.inl rfl,H,h}
def jx.aaU(h:jx b k (.tuple xs)):∃j,k=j+1/\xs.length<=b/\∀x∈xs,jx b j x:=by
 cases k with
 |zero=>cases h
 |succ k =>
  rcases h with h|⟨y,h|h,H,a⟩
  .cases h
  .cases h
  .cases h;exact{k,rfl,H,a}
def jx.mono(H:b<=I):∀{k k':Nat}{d:D},k<=k'->jx b k d->jx I k' d
 |0,k',d,_,h=>.leaf h
 |k+1,0,d,hk,h=>by lia
 |k+1,k'+1,d,hk,h=>by
  rcases h with h|⟨s,h,a,c⟩
  .exact .inl h
  .exact .inr {s,h,yD a H,λx X=>(c x X).mono H<|by lia}
def F4{b:Nat}:∀{xs:Γ D},(∀x∈xs,PyData.canLay0 x=true/\x.depth<=k)->PyData.canLayAll0 xs=true/\PyData.depthAll xs<=k
 |[],_=>{by rfl,by simp[PyData.depthAll]}
 |x::xs,h=>by
  let(a,c):=F4 (b:=b) λy H=>h y<|zC _ H;let(A,C):=h x zE;exact{by simp[PyData.canLayAll0,a,A],by simp[PyData.depthAll];lia}
def jx.lay:∀{k:Nat}{d:D},jx b k d->PyData.canLay0 d=true/\d.depth<=k:=by
 have l:∀{k:Nat}{d:D},A1 d->PyData.canLay0 d=true/\d.depth<=k:=λ{k d}h=>by
  cases d<;>simp[A1]at h<;>first|exact{h,by simp[PyData.depth]}|exact{by rfl,by simp[PyData.depth]}
 intro k
 induction k with
 |zero=>exact l
 |succ k i =>
  intro d h;rcases h with h|⟨x,h,e,H⟩
  .exact l h
  .let(a,c):=F4 (b:=b) λy Y=>i<|H y Y;rcases h with rfl|rfl
   .exact{by simp[PyData.canLay0,a],by simp[PyData.depth];lia}
   .exact{by simp[PyData.canLay0,a],by simp[PyData.depth];lia}
def jx.shaped(h:jx b k d)(hk:k<=64):SeqAt.shaped d=true:=by
 let(a,c):=h.lay;simp[SeqAt.shaped,a];lia
def jx.noDict(h:jx b k d):∀v,d≠.dict v:=by
 rintro v rfl;have:=h.lay.1;simp[PyData.canLay0]at this
def iR:D->θ|.dict _=>false|_=>true
def jx.nd(h:jx b k d):iR d=true:=by
 cases d<;>first|rfl|exact absurd rfl (h.noDict _)
def isI:D->θ|.int _=>true|.bool _=>true|_=>false
def ZP:D->θ|.bool _=>true|_=>false
def UZ:D->θ|.tuple _=>true|_=>false
def kI(h:iR d=true):zr (kf d) "int"=↑(isI d):=by cases d<;>first|cases h;done|exact Qb _ (by simp[kf])
def kB(h:iR d=true):zr (kf d) "bool"=↑(ZP d):=by cases d<;>first|cases h;done|exact MA _ (by simp[kf])
def kT(h:iR d=true):zr (kf d) "tuple"=↑(UZ d):=by cases d<;>first|cases h;done|exact kit_tuple _ (by simp[kf])
def whole(a b:Int):D->θ|.int i=>decide (a<=i)&&decide (i<=b)|_=>false
def yn:∀{ds:Γ D},(∀d∈ds,∃ρ',tgt ρ d=↑ρ'/\te ρ'=↑(h d))->fJ tgt (λ_=>↑true) te ρ ds=↑(ds.map h)
 |[],_=>rfl
 |d::ds,H=>by
  let(ρ',a,b):=H d zE;have i:=yn (ds:=ds) λy Y=>H y<|zC _ Y;unfold fJ;rw[a];simp[b,i]
def n8:∀{ds:Γ D},(∀d∈ds,∃ρ',tgt ρ d=↑ρ'/\tt ρ'=↑(p d)/\(p d=true->te ρ'=↑(h d)))->fJ tgt tt te ρ ds=↑((ds.filter p).map h)
 |[],_=>rfl
 |d::ds,a=>by
  let(ρ',b,c,e):=a d zE;have i:=n8 (ds:=ds) λy Y=>a y<|zC _ Y;unfold fJ;rw[b];simp?[zA,c];cases H:p d with
  |true=>rw[yK rfl,e H];simp[i,jU,H]
  |false=>simp[i,jU,H]
def rH:∀ds:Γ D,boolsOf (ds.map λd=>.bool<|p d)=↑(ds.map p)
 |[]=>rfl
 |d::ds=>by simp[boolsOf,rH ds]
def oO(ds:Γ D):oP [.list<|ds.map λd=>.bool<|p d]=↑(.bool<|ds.all p):=by
 simp?[oP,oneOf,zA,rH,zB,List.all_map];rfl
def cU(h:ds.length<=4000):small ds=↑ds:=yK<|yD h<|by decide
def oI{ds:Γ D}{i:Nat}(h:i<ds.length):vy ds i=↑(ds.getD i .none):=by
 have:=As<|List.getElem?_eq_some_iff.mpr {h,rfl};rw[this];simp[List.getD,h]
def Fw{ds:Γ D}(h:0<ds.length):vy ds 0=↑(ds.getD 0 .none):=oI h
def BD{ds:Γ D}(h:1<ds.length):vy ds 1=↑(ds.getD 1 .none):=oI h
def QG{ds:Γ D}(h:2<ds.length):vy ds 2=↑(ds.getD 2 .none):=oI h
end Dl
namespace Wm
open PySem L2 Dl PySem.Spec PyProof.Rows Pg
variable {cs:Γ Nat}{mo:Int}{i7 i5:Nat}{x5:Slot}
def B6(H:fa ρ=↑(.int a))(B:fb ρ=↑(.int i))(hc:fc ρ=↑(.int b)):gR CD CD fa fb fc ρ=↑(.bool<|decide (a<=i)&&decide (i<=b)):=by
 simp[gR,H,B,hc,zA,CD,AM,xG];by_cases h:a<=i<;>simp[h]
def eZ(i j:Int):Dl.eK (.int i) (.int j)=↑(.int<|i-j):=rfl
def dJ(i j:Int):Dl.aC (.int i) (.int j)=↑(.int<|i+j):=rfl
def zq(d:D):Slot.all (.val d)=↑d:=rfl
def AL(ds:Γ D):Slot.all (.own ds)=↑(.list ds):=rfl
def F3:Slot.all .non=none:=rfl
def EK(d:D):Slot.frz (.val d)=↑d:=rfl
def Fc(ds:Γ D):Slot.frz (.own ds)=none:=rfl
def F6:Slot.frz .non=none:=rfl
local macro_rules|`(tactic| simp! [$ts,*])=>`(tactic| simp only[bK,az,iH,bg,fI,pU,fy,cD,fB,gB,IE,ae,fC,lL,fOr,Zj,W5,f1,f2,eZ,dJ,aa,ag,aj,bT,o6,bX,dF,oneOf,iw,aI,zq,AL,F3,EK,Fc,F6,dg,dh,gO,aX,dD,aK,  zI,yT,xE,xN,zL,xJ,List.replicate,xP,yX,qE,kJ,zA,Option.bind_none,zB,Option.map_none,Nat.reduceAdd,Nat.reduceSub,jA,Nat.sub_self,xG,reduceIte,$ts,*])
def eL(h:iR d=true)(a b:Int):bQ [d,.int a,.int b]=↑(.bool<|whole a b d):=by
 simp! [bQ,ux,kI h,kB h];cases d<;>simp[isI,ZP,whole];rw[B6 rfl rfl rfl]
def lM(h:iR d=true)(n:Int):dI [d,.int n]=↑(.bool<|whole 0 (n-1) d):=by
 simp! [dI,rX,eL h]
def long(a b:Int):D->θ|.tuple d=>decide (a<=(d.length:Int))&&decide ((d.length:Int)<=b)|_=>false
def eR(h:iR d=true)(a b:Int):cx [d,.int a,.int b]=↑(.bool<|long a b d):=by
 simp! [cx,xk,kT h];cases d<;>simp[UZ,long];rw[B6 rfl rfl rfl]
def nj:D->Int|.int i=>i|_=>0
def ig(h:whole a b d=true):d=.int (nj d)/\a<=nj d/\nj d<=b:=by
 cases d<;>simp[whole]at h;exact{rfl,h}
def nN:∀{l:Γ D},l.all (whole a b)=true->l=(l.map nj).map PyData.int
 |[],_=>rfl
 |d::l,h=>by
  rw[xR,zF]at h;rw[zI,zI,<-(ig h.1).1,<-nN h.2]
def mz(n:Int):D->θ|.tuple l=>l.all (whole 0<|n-1)&&decide ((l.map nj).Nodup)|_=>false
def bf(i j:Int):bc (.int i) (.int j)=↑(.bool<|decide (i=j)):=by
 rfl
def u9(i j:Int):gq (.int i) (.int j)=↑(.bool<|!decide (i=j)):=by
 rfl
def Iw(h:ls.all (whole a b)=true)(l:ls.length<=1000):f2 bc (f1 mJ λ_=>↑(.tuple ls)) (bT bX<|aa (λ_=>↑(.tuple ls)) ag) []=↑(.bool<|decide ((ls.map nj).Nodup)):=by
 have e:mJ (.tuple ls)=↑(.int<|many<|ls.map nj):=by
  simp[mJ,pj]
  conv=>lhs;rw[(nN h)]
  rw[bO,zA,yK];rw[zD];exact qV (Nat.add_le_add_right l 1)<|by decide
 simp! [e,bf];have:=EB<|ls.map nj;simp[<-this,Int.ofNat_inj,yJ,PyData.bool.injEq]
def VC(r:Dl.Env)(d:D):fG 0 (none::r) d=↑(↑d::r):=by rfl
def dy(i:fi ρ=↑ds)(l:ds.length<=4000)(a:∀d∈ds,te (↑d::cs.map λj=>(ρ[j]?).getD none)=↑(h d)):aD 1 cs fi (fG 0) (λ_=>↑true) te ρ=↑(ds.map h):=by
 simp[aD,i,zA,iC,List.replicate,xE,xN];rw[yn λd H=>{_,VC _ d,a d H},zA,cU (by rw[zD];lia)]
def n5(i:fi ρ=↑ds)(l:ds.length<=4000)
  (P:∀d∈ds,tt (↑d::cs.map λj=>(ρ[j]?).getD none)=↑(p d))(a:∀d∈ds,p d=true->te (↑d::cs.map λj=>(ρ[j]?).getD none)=↑(h d)):aD 1 cs fi (fG 0) tt te ρ=↑((ds.filter p).map h):=by
 simp[aD,i,zA,iC,List.replicate,xE,xN];rw[n8 λd H=>{_,VC _ d,P d H,a d H},zA,cU (by rw[zD];exact yD (xO _ _) l)]
def Cv(h:jx b k d)(H:b<=1000)(n:Int):iS [d,.int n]=↑(.bool<|mz n d):=by
 simp! [iS,rL,kT h.nd];cases d<;>try rfl
 rename_i l;let(j,rfl,L,f):=h.aaU;simp! [UZ,xX,yN,(dy (cs:=[1]) (fi:=dg<|ae 0) (te:=(aj 2 dI<|aa (ae 0)<|aa (ae 1) ag)) (h:=λx=>.bool<|whole 0 (n-1) x) (ρ:=[↑(.tuple l),↑(.int n)]) rfl (by lia) λx X=>by simp! [lM (f x X).nd]),oO];cases e:l.all _ with
 |false=>simp[mz,e]
 |true =>
  have:=Iw e<|yD L H;simp[f2,f1,bT,aa,ag,zA,zB]at this;simp! [mz,e,xX,yN,jI];simp[bX,dF,oneOf,zA,iw,zB]at this
  grind
def placeOk(n:Int):D->θ|.tuple d=>decide (d.length=2)&&(whole 0 9 (d.getD 0 .none)&&mz n (d.getD 1 .none))|_=>false
def lF(g t:Int):D->θ|.tuple d=>decide (d.length=3)&&(whole 0 (g-1) (d.getD 0 .none)&&(whole 0 (t-1) (d.getD 1 .none)&&whole 1 9 (d.getD 2 .none)))|_=>false
def tV(n:Nat)(ds:Γ D):long (n) n (.tuple ds)=decide (ds.length=n):=by
 simp[long]
 grind
def getD_mem{ds:Γ D}{i:Nat}(h:i<ds.length):ds.getD i .none∈ds:=by simp[List.getD,h]
def Bl{b:Nat}(h:jx b k d)(H:b<=1000)(n:Int):ik [d,.int n]=↑(.bool<|placeOk n d):=by
 simp! [ik,BL,eR h.nd];cases d<;>try rfl
 rename_i s;let(j,rfl,l,f):=h.aaU;rw[show long 2 2 _=decide _ from tV 2 s];by_cases e:s.length=2
 .simp! [e,jN,Fw (show 0<s.length by lia),BD (show 1<s.length by lia),eL (f _<|getD_mem (i:=0)<|by lia).nd,Cv (f _<|getD_mem (i:=1)<|by lia) H,placeOk];cases whole 0 9 _<;>simp
 .simp[e,placeOk]
def JA{b:Nat}(h:jx b k d)(H:b<=1000)(g t:Int):ml [d,.int g,.int t]=↑(.bool<|lF g t d):=by
 simp! [ml,B4,eR h.nd];cases d<;>try rfl
 rename_i s;let(j,rfl,l,f):=h.aaU;rw[show long 3 3 _=decide _ from tV 3 s];by_cases e:s.length=3
 .simp! [e,jN,xX,yN,Fw (show 0<s.length by lia),BD (show 1<s.length by lia),QG (show 2<s.length by lia),eL (f _<|getD_mem (i:=2)<|by lia).nd,lM (f _<|getD_mem (i:=0)<|by lia).nd,lM (f _<|getD_mem (i:=1)<|by lia).nd,lF];cases whole 0 _ _<;>cases whole 0 _ _<;>simp
 .simp[e,lF]
def dH:D->Γ D|.tuple d=>d|_=>[]
def qa(d:D):θ:=long 1 4 d
def ku(g t w:D):θ:=qa g&&(qa t&&((dH g).all (placeOk (dH t).length)&&((dH t).all (placeOk (dH g).length)&&(UZ w&&(dH w).all (lF (dH g).length (dH t).length)))))
def lX(h:long a b d=true):d=.tuple (dH d):=by cases d<;>first|rfl|cases h
def rS(G:jx b k g)(ht:jx b k t)(hw:jx b k w)(B:b<=1000):iU [g,t,w]=↑(.bool<|ku g t w):=by
 simp! [iU,rV,eR G.nd,eR ht.nd,kT hw.nd];unfold ku qa;cases e:long 1 4 g with
 |false=>rfl
 |true =>
  cases E:long 1 4 t with
  |false=>rfl
  |true =>
   obtain⟨s,rfl⟩:∃s,g=.tuple s:={_,lX e}
   obtain⟨T,rfl⟩:∃T,t=.tuple T:={_,lX E}
   let(j,rfl,l,f):=G.aaU;let(o,J,L,F):=ht.aaU;simp! [xX,yN,(dy (cs:=[1]) (fi:=dg<|ae 0) (te:=(aj 2 ik<|aa (ae 0)<|aa (bT bX<|aa (ae 1) ag) ag)) (h:=λx=>.bool<|placeOk T.length x) (ρ:=[↑(.tuple s),↑(.tuple T),↑w]) rfl (by lia) λx H=>by simp! [Bl (f x H) B]),oO,dH,jI];cases m:s.all _ with
   |false=>rfl
   |true =>
    simp! [xX,yN,(dy (cs:=[0]) (fi:=dg<|ae 1) (te:=(aj 2 ik<|aa (ae 0)<|aa (bT bX<|aa (ae 1) ag) ag)) (h:=λx=>.bool<|placeOk s.length x) (ρ:=[↑(.tuple s),↑(.tuple T),↑w]) rfl (by lia) λx H=>by simp! [Bl (F x H) B]),oO,jI];cases n:T.all _ with
    |false=>rfl
    |true =>
     cases c:UZ w with
     |false=>simp! [xX,yN,kT hw.nd,c,vU,kR]
     |true =>
     obtain⟨W,rfl⟩:∃W,w=.tuple W:=by cases w<;>first|exact{_,rfl}|cases c
     let(p,d,i,a):=hw.aaU;simp! [xX,yN,(dy (cs:=[0,1]) (fi:=dg<|ae 2) (te:=(aj 3 ml<|aa (ae 0)<|aa (bT bX<|aa (ae 1) ag)<|aa (bT bX<|aa (ae 2) ag) ag)) (h:=λx=>.bool<|lF s.length T.length x) (ρ:=[↑(.tuple s),↑(.tuple T),↑(.tuple W)]) rfl (by lia) λx H=>by simp! [JA (a x H) B]),oO,jI,kT hw.nd,UZ]
def pH:∀(a b:Γ Int),PyData.eqvAll (a.map PyData.int) (b.map PyData.int)=decide (a=b)
 |[],[]=>by rfl
 |[],_::_=>by rfl
 |_::_,[]=>by rfl
 |i::a,j::b=>by
  rw[zI,zI,PyData.eqvAll,pH a b];by_cases h:i=j
  .subst h;simp[PyData.eqv]
  .simp[PyData.eqv,h]
def CQ:∀(a b:Γ _),PyData.eqvAll (a.map ai) (b.map ai)=decide (a=b)
 |[],[]=>by rfl
 |[],_::_=>by rfl
 |_::_,[]=>by rfl
 |x::a,y::b=>by
  rw[zI,zI,PyData.eqvAll,CQ a b,ai,ai,PyData.eqv,pH];simp
def kb(i:Int):jx b k (.int i):=.leaf trivial
def zh(h:r.length<=b):jx b (k+1) (ai r):=.tup (by rw[zD];lia) λx H=>by
 let(i,_,rfl):=List.mem_map.mp H;exact kb i
def LJ{b k:Nat}{a:Γ _}(h:a.length<=b)(R:∀r∈a,r.length<=b):jx b (k+2) (.list<|a.map ai):=.lst (by rw[zD];lia) λx X=>by
 let(r,H,rfl):=List.mem_map.mp X;exact zh<|R r H
def He(a:Γ (Γ Int)):∃b,a.length<=b/\∀r∈a,r.length<=b:=by
 induction a with
 |nil=>simp
 |cons x a i =>
  let(b,H,c):=i;refine{b+1+x.length,by grind,λr R=>?_}
  grind
def rJ(a:Γ _):SeqAt.shaped (.list<|a.map ai)=true:=by
 let(b,H,c):=He a;exact(LJ (k:=0) H c).shaped (by decide)
def HD(a b:Γ _):bc (.list<|a.map ai) (.list<|b.map ai)=↑(.bool<|decide (a=b)):=by
 simp[bc,Tw,rJ,jM,xG,PyData.eqv,CQ,zB]
def l6(d:D):Γ Int:=(dH<|(dH d).getD 1 .none).map nj
def kj(h:placeOk n d=true):∃a ds,d=.tuple ds/\ds.length=2/\ds.getD 0 .none=.int a/\0<=a/\a<=9/\ds.getD 1 .none=.tuple ((l6 d).map PyData.int)/\(l6 d).Nodup/\∀j∈l6 d,0<=j/\j<=n-1:=by
 cases d<;>simp?[placeOk]at h<;>try cases h
 rename_i ds;simp?[zF,zJ]at h;let(b,c,H):=h;have e:l6 (.tuple ds)=(dH<|ds.getD 1 _).map nj:=rfl;rw[e];generalize L:ds.getD 1 _=l at H;cases l<;>simp?[mz]at H<;>try cases H
 rename_i s;simp?[zF,zJ]at H;let(w,W,f):=ig c;refine{_,ds,rfl,b,w,W,f,?_,H.2,λj J=>?_}
 .rw[show dH _=s from rfl,<-nN H.1];lia
 .let(x,X,rfl):=List.mem_map.mp J;exact(ig<|List.all_eq_true.mp H.1 x X).2
def pE(k:Nat):Γ D->Γ (Γ Int)|[]=>[]|p::s=>(l6 p).map (λj=>[((k:Nat):Int),j])++pE (k+1) s
def uB:∀(n:Nat){l:Γ Int},l.Nodup->(∀j∈l,0<=j/\j<=(n:Int)-1)->l.length<=n:=by
 intro n l N h;have s:l.map Int.toNat ⊆ List.range n:=λx X=>by
  let(j,J,rfl):=List.mem_map.mp X;have:=h j J;exact List.mem_range.mpr<|by lia
 have vm:(l.map Int.toNat).Nodup:=by
  refine List.pairwise_map.mpr<|N.imp_of_mem λ{x y}X Y H e=>H ?_;have:=h x X;have:=h y Y;lia
 have:=List.Nodup.length_le_of_subset vm s;simpa using this
def zy{n:Nat}:∀{ps:Γ D}{k:Nat},(∀p∈ps,placeOk n p=true)->(pE k ps).length<=ps.length*n
 |[],k,_=>xU _
 |p::ps,k,h=>by
  let(_,_,_,_,_,_,_,_,H,r):=kj<|h p zE;have a:=uB n H r;have b:=zy (k:=k+1) λq Q=>h q<|zC _ Q;rw[pE,zN,zD,zL,Nat.succ_mul];lia
def pB:aq->Δ Out:=GP 1 [2,3]<|aD 1 [2] (dg<|f2 aK (ae 3)<|fC<|.int 1) (fG 0) (λ_=>↑true)<|aX<|aa (ae 1)<|aa (ae 0) ag
def Tz{n:Nat}{p:D}{acc:Γ D}(P:placeOk n p=true)(N:n<=100)(A:acc.length<=1000):pB [.val x,.own acc,.val<|.int (k:Nat),.val p]=↑(.nx [.val x,.own<|acc++((l6 p).map λj=>ai [k,j]),.val<|.int k,.val p]):=by
 let(a,d,rfl,L,_,_,_,H,vm,r):=kj P;have B:=uB n vm r;generalize l6 _=l at *;have c:=dy (cs:=[2]) (fi:=dg<|f2 aK (ae 3)<|fC<|.int 1) (te:=aX<|aa (ae 1)<|aa (ae 0) ag) (h:=λy=>.tuple [.int k,y]) (ρ:=[↑x,none,↑_,↑(.tuple d)]) (ds:=l.map .int)
  (by simp! [BD (show 1<d.length by lia),H]) (by grind) λy Y=>by
   rfl
 have b:hand [2,3] 0 [.val x,.own acc,.val<|.int k,.val<|.tuple d]=[.val x,.own acc,.val _,.val _]:=rfl;simp?[pB,GP,b,bx,zI,yT,Slot.frz,c,zA,u5,yX,xP];rw[yK]
 .simp?[zB,yV,yU,zM];rfl
 .simp ;exact yD (show acc.length+l.length<=1100 by lia) (by decide)
def yw{n:Nat}(H:n<=100):∀{ps:Γ D}{k:Nat}{acc:Γ D}{s2 s3:Slot},(∀p∈ps,placeOk n p=true)->acc.length+ps.length*n<=1000 ->
  ∃t T,gL (g9 2 3) pB (cI k ps) [.val x,.own acc,s2,s3]=↑(.nx [.val x,.own<|acc++(pE k ps).map ai,t,T])
 |[],k,acc,s2,s3,_,_=>{s2,s3,by simp[cI,gL,pE]}
 |p::ps,k,acc,s2,s3,h,l=>by
  have P:=h p zE;let(_,_,_,_,_,_,_,_,vm,r):=kj P;have b:=uB n vm r;rw[zL,Nat.succ_mul]at l;let(t,T,e):=yw H (x:=x) (ps:=ps) (k:=k+1) (acc:=acc++((l6 p).map λj=>ai [((k:Nat):Int),j])) (s2:=.val<|.int (k:Nat)) (s3:=.val p) (λq Q=>h q<|zC _ Q) (by rw[zN,zD];lia);refine{t,T,?_};have s:g9 2 3 [.val x,.own acc,s2,s3] (.tuple [.int (k:Nat),p])=↑[.val x,.own acc,.val<|.int (k:Nat),.val p]:=rfl;simp?[cI,gL,s,zA,Tz P H (show acc.length<=1000 by lia)];rw[e];simp[pE,zM,Function.comp_def]
def EM{n:Nat}{ps:Γ D}(h:∀p∈ps,placeOk n p=true)(N:n<=100)(l:ps.length*n<=1000):bW [.tuple ps]=↑(.list<|(pE 0 ps).map ai):=by
 let(t,T,e):=yw N (acc:=[]) h (by simpa using l);have s:bH 1 [] (dD ag) [.val<|.tuple ps,.non,.non,.non]=↑(.nx [.val _,.own [],.non,.non]):=rfl;have H:hand [0] 0 [.val<|.tuple ps,.own [],.non,.non]=[.val _,.own [],.non,.non]:=rfl;have f:cz (aa (ae 0) ag) (bx [.val<|.tuple ps,.own [],.non,.non])=↑_:=rfl;simp! [bW,nr,s,gX,H,f];rw[show GP 1 _ _=pB from rfl,e];rfl
def ir(d:D):Γ Int:=[nj<|(dH d).getD 0 .none,nj<|(dH d).getD 1 .none]
def DC(h:lF g t d=true):∃ds c,d=.tuple ds/\ds.length=3/\ds.getD 0 .none=.int (nj<|ds.getD 0 .none)/\ds.getD 1 .none=.int (nj<|ds.getD 1 .none)/\ds.getD 2 .none=.int c/\1<=c/\c<=9 /\
  0<=nj (ds.getD 0 .none)/\nj (ds.getD 0 .none)<=g-1/\0<=nj (ds.getD 1 .none)/\nj (ds.getD 1 .none)<=t-1:=by
 cases d<;>simp?[lF]at h<;>try cases h
 rename_i ds;simp?[zF,zJ]at h;let(H,e,f,i):=h;have a:=ig e;have b:=ig f;have c:=ig i;exact{ds,_,rfl,H,a.1,b.1,c.1,c.2.1,c.2.2,a.2.1,a.2.2,b.2.1,b.2.2}
def C5(g t w:D):θ:=decide ((dH w).map ir=v7 (pE 0<|dH g))&&decide ((dH w).map ir=v7 ((pE 0<|dH t).map List.reverse))
def Yw(d:D):θ:=long 3 3 d&&(ku ((dH d).getD 0 .none) ((dH d).getD 1 .none) ((dH d).getD 2 .none)&&C5 ((dH d).getD 0 .none) ((dH d).getD 1 .none) ((dH d).getD 2 .none))
def mM:∀{ps:Γ D}{k:Nat},∀r∈pE k ps,∃i j,r=[i,j]
 |[],k,r,h=>by cases h
 |p::ps,k,r,h=>by
  rcases List.mem_append.mp h with h|h
  .let(j,_,rfl):=List.mem_map.mp h;exact{_,_,rfl}
  .exact mM r h
def oS(h:∀r∈a,∃i j,r=[i,j])(l:a.length<64):iK [.list<|a.map ai]=↑((v7 a).map ai):=by
 have:∀n∈a,n≠[]:=λn H=>by let(i,j,rfl):=h n H;exact List.cons_ne_nil _ _
 simp?[iK,oneOf,zA,tm this,yK l]
def wY:∀{a:Γ (Γ Int)},(∀r∈a,∃i j,r=[i,j])->fJ (my 0 1) (λ_=>↑true) (aX adD) [none,none] (a.map ai)=↑((a.map List.reverse).map ai)
 |[],_=>rfl
 |r::a,h=>by
  let(i,j,rfl):=h r zE;have e:my 0 1 [none,none] (ai [i,j])=↑_:=rfl;rw[zI,fJ,e,zA,zA,yK rfl,(wY λq H=>h q<|zC _ H)];rfl
def Ij{a:Γ (Γ Int)}(H:fi ρ=↑(a.map ai))(l:a.length<=4000)(h:∀r∈a,∃i j,r=[i,j]):aD 2 [] fi (my 0 1) (λ_=>↑true) (aX adD) ρ=↑((a.map List.reverse).map ai):=by
 simp?[aD,H,zA,iC,List.replicate,xE,xN,yT];rw[wY h,zA,cU (by rw[zD,zD];lia)]
def Cy(h:ku g t w=true):∃s ts W,g=.tuple s/\t=.tuple ts/\w=.tuple W/\1<=s.length/\s.length<=4/\1<=ts.length/\ts.length<=4/\(∀p∈s,placeOk ts.length p=true)/\(∀p∈ts,placeOk s.length p=true)/\∀x∈W,lF s.length ts.length x=true:=by
 simp?[ku,qa,zF]at h;let(H,a,b,c,d,f):=h;cases w<;>try cases d
 rename_i W;have e:=lX H;have E:=lX a;generalize dH g=s at *;generalize dH t=ts at *;subst e E;simp[long,zF,zJ]at H a;exact{s,ts,W,rfl,rfl,rfl,by lia,by lia,by lia,by lia,List.all_eq_true.mp b,List.all_eq_true.mp c,List.all_eq_true.mp f}
def uD{b:Nat}(h:jx b k d)(D:b<=1000):b9 [d]=↑(.bool<|Yw d):=by
 unfold Yw;cases e:long 3 3 d with
 |false=>simp! [b9,kq,eR h.nd,e,Bool.not_false,vU]
 |true =>
  obtain⟨s,rfl⟩:∃s,d=.tuple s:={_,lX e}
  let(j,rfl,U,F):=h.aaU;rw[show long 3 3 (.tuple s)=decide (s.length=3)from tV 3 s,zJ]at e;have u:=F _<|getD_mem (i:=0) (by lia);have f1:=F _<|getD_mem (i:=1) (by lia);have f:=F _<|getD_mem (i:=2) (by lia);have I:=Fw (show 0<s.length by lia);have m:=BD (show 1<s.length by lia);have n:=QG (show 2<s.length by lia);have L:cx [.tuple s,.int 3,.int 3]=↑(.bool true):=by rw[eR rfl,show long 3 3 (.tuple s)=decide (s.length=3)from tV 3 s,yA e]
  rw[show dH (.tuple s)=s from rfl,jI];generalize P:s.getD 0 .none=g at *;generalize ht:s.getD 1 .none=t at *;generalize hw:s.getD 2 .none=w at *;cases E:ku g t w with
  |false=>simp! [b9,kq,L,I,m,n,rS u f1 f D,E,Bool.not_false,xX,vU]
  |true =>
   let(G,T,W,rfl,rfl,rfl,O,A,Z,J,B,C,K):=Cy E;have l:=f.aaU;let(V,_,M,_):=l;have Y:=zy (k:=0) B;have q2:=zy (k:=0) C;have m1:G.length*T.length<=16:=vT A J;have m2:T.length*G.length<=16:=vT J A;have N:=oS (a:=(pE 0 T).map List.reverse) (λr R=>by
    let(q,Q,rfl):=List.mem_map.mp R;let(i,j,rfl):=mM q Q;simp)<|by grind
   have c1:aD 1 [] (dg<|f2 aK (ae 0)<|fC<|.int 2) (fG 0) (λ_=>↑true) (aX<|aa (f2 aK (ae 0)<|fC<|.int 0)<|aa (f2 aK (ae 0)<|fC<|.int 1) ag) [↑(.tuple s),none,none,none]=↑((W.map ir).map ai):=by
    rw[dy (ds:=W) (h:=λx=>ai<|ir x) (by simp! [n]) (by lia) λx X=>?_,zM]
    .rfl
    .let(v,c,rfl,v3,v0,v1,_):=DC<|K x X;simp! [Fw (show 0<v.length by lia),BD (show 1<v.length by lia),cU (show[v.getD 0 PyData.none,v.getD 1 .none].length<=4000 by simp),ai,ir,dH]
     grind
   have c2:∀x y z,aD 2 [] (dg<|aj 1 bW<|aa (f2 aK (ae 0)<|fC<|.int 1) ag) (my 0 1) (λ_=>↑true) (aX<|aa (ae 1)<|aa (ae 0) ag) [↑(.tuple s),x,y,z]=↑(((pE 0 T).map List.reverse).map ai):=λx y z =>
    Ij (by simp! [m,(EM C (by lia)<|by lia)]) (by lia) mM
   have S:bH 1 [0] (aD 1 [] (dg<|f2 aK (ae 0)<|fC<|.int 2) (fG 0) (λ_=>↑true)<|aX<|aa (f2 aK (ae 0)<|fC<|.int 0)<|aa (f2 aK (ae 0)<|fC<|.int 1) ag) [Slot.val<|.tuple s,.non,.non,.non]=↑(.nx [.val<|.tuple s,.own<|(W.map ir).map ai,.non,.non]):=by
    have H:hand [0] 0 [Slot.val<|.tuple s,.non,.non,.non]=[Slot.val<|.tuple s,.non,.non,.non]:=rfl;simp?[bH,H,bx,zI,yT,Slot.frz,c1,zB,yV,yU]
   have o:bH 2 [0] (o6 iK<|aa (aj 1 bW<|aa (f2 aK (ae 0)<|fC<|.int 0) ag) ag) [Slot.val<|.tuple s,.own<|(W.map ir).map ai,.non,.non]=↑(.nx [.val<|.tuple s,.own<|(W.map ir).map ai,.own<|(v7<|pE 0 G).map ai,.non]):=by
    have H:hand [0] 0 [Slot.val<|.tuple s,.own<|(W.map ir).map ai,.non,.non]=[Slot.val<|.tuple s,.own<|(W.map ir).map ai,.non,.non]:=rfl;simp?[bH,H,bx,zI,yT,Slot.frz];simp! [I,(EM B (by lia)<|by lia),(oS (a:=pE 0 G) mM<|by lia),yV,yU]
   have p:bH 3 [0] (o6 iK<|aa (dh<|aD 2 [] (dg<|aj 1 bW<|aa (f2 aK (ae 0)<|fC<|.int 1) ag) (my 0 1) (λ_=>↑true)<|aX<|aa (ae 1)<|aa (ae 0) ag) ag) [.val<|.tuple s,.own<|(W.map ir).map ai,.own<|(v7<|pE 0 G).map ai,.non]
      =↑(.nx [.val<|.tuple s,.own<|(W.map ir).map ai,.own<|(v7<|pE 0 G).map ai,.own<|(v7<|(pE 0 T).map List.reverse).map ai]):=by
    have H:hand [0] 0 [.val<|.tuple s,.own<|(W.map ir).map ai,.own<|(v7<|pE 0 G).map ai,.non]=[.val _,.own _,.own _,.non]:=rfl;simp?[bH,H,bx,zI,yT,Slot.frz];simp! [c2,N,yV,yU]
   simp! [b9,kq,L,I,m,n,rS u f1 f D,E,xX,yN,S,o,p,HD,C5,dH,jI];by_cases Q:.map ir W=v7 (pE 0 G)<;>simp[Q]
def vg(xs:Γ D):PyData.eqvAll xs []=xs.isEmpty:=by cases xs<;>simp[PyData.eqvAll]
def Ej:SeqAt.shaped (.list [])=true:=by rfl
def K6(h:∀x∈xs,jx b k x)(hk:k<=60):bc (.list xs) (.list [])=↑(.bool xs.isEmpty):=by
 simp[bc,Tw,((jx.lst (Nat.le_max_right _ _) λx H=>(h x H).mono (Nat.le_max_left _ _)<|yL _).shaped<|by lia),Ej,jM,xG,PyData.eqv,vg,zB]
def HJ:small []=↑[]:=rfl
def II(xs:Γ α)(k:Nat):cut xs none (↑k)=xs.take k:=by
 simp?[cut,HT.ur,HT.Ad,List.drop_zero,Nat.sub_zero];simp
def Cs(xs:Γ α)(k:Nat):cut xs (↑k) none=xs.drop k:=by
 simp[cut,HT.ur,HT.Ad];rw[List.take_of_length_le<|by simp];simp
def mQ(b:θ):gB (.bool b)=↑b:=rfl
def MV(a b:Γ Int):PyData.eqv (ai a) (ai b)=decide (a=b):=by rw[ai,ai,PyData.eqv,pH]
def Nf(P:Γ _)(a:Γ Int):((P.map ai).any λz=>PyData.eqv z<|ai a)=decide (a∈P):=by
 rw[wL]
 induction P with
 |nil=>rfl
 |cons r P i =>
  rw[vA,i,Function.comp_apply,MV]
  grind
def JZ(P:Γ _)(a:Γ Int):Dk (ai a) (.list<|P.map ai)=↑(.bool<|decide (a∈P)):=by
 simp?[Dk,Yi,((zh (k:=0)<|yL _).shaped (by decide):SeqAt.shaped (ai a)=true),rJ,jM,xG,Nf,zB]
def LX(a b:D):small [a,b]=↑[a,b]:=rfl
def K1:∀ρ k,hand [] k ρ=ρ
 |[],k=>rfl
 |s::r,k=>by simp[hand,K1 r]
def tj:∀{ps:Γ D}{k:Nat}{i j:Int},[i,j]∈pE k ps↔∃m p,ps[m]?=↑p/\i=((k+m:Nat):Int)/\j∈l6 p
 |[],k,i,j=>by simp[pE]
 |p::ps,k,i,j=>by
  rw[pE,List.mem_append,tj (ps:=ps)];constructor
  .rintro (h|⟨m,q,H,a,b⟩)
   .let(y,Y,e):=List.mem_map.mp h;injection e with c E
    injection E with E _
    exact{0,p,rfl,by simpa using c.symm,E▸Y}
   .exact{m+1,q,by simpa using H,by rw[a];congr 1;lia,b}
  .rintro⟨m,q,H,a,b⟩;cases m with
   |zero =>
    simp at H;subst H;exact .inl (List.mem_map.mpr {j,b,by rw[a];rfl})
   |succ m=>exact .inr {m,q,by simpa using H,by rw[a];congr 1;lia,b}
def wU:∀{ps:Γ D}{k:Nat},(∀p∈ps,(l6 p).Nodup)->(pE k ps).Nodup
 |[],k,_=>List.nodup_nil
 |p::ps,k,h=>by
  rw[pE,wN];refine{List.pairwise_map.mpr<|(h p zE).imp λH e=>H ?_,wU λq Q=>h q<|zC _ Q,?_};rotate_left
  .injection e with _ E
   injection E
  .rintro a A b B rfl;let(y,Y,rfl):=List.mem_map.mp A;let(m,q,c,d,f):=tj.mp B;lia
def WU(h:Dl.lexLt a b=true):lexLe a b=true:=by
 unfold lexLe;cases e:Dl.lexLt b a with
 |false=>rfl
 |true=>have:=fW h e;rw[ix]at this;grind
def gC(h:wb i j):Dl.eH (.int i) (.int j)=↑(.int<|i*j):=by
 simp[Dl.eH,AM,yK h,Option.some_or]
def ji(h:0<j):Dl.nS (.int i) (.int j)=↑(.int<|i%j):=yK h
def lN(h:0<j/\j<1073741824):Dl.pX (.int i) (.int j)=↑(.int<|i/j):=yK h
def cN(i j:Int):Dl.yc (.int i) (.int j)=↑(.bool<|decide (j<i)):=rfl
def iQ(i j:Int):Dl.AN (.int i) (.int j)=↑(.bool<|decide (i<j)):=rfl
def nF(h:-(2^64)<i/\i<2^64):wb i j:=.inl h
def Th(h:-(2^64)<j/\j<2^64):wb i j:=.inr h
def Ct(i:Int):Dl.ki (.int i)=true:=rfl
def Cz(i:Γ D):Dl.ki (.tuple i)=false:=rfl
def gH(ns:Γ Int):D:=.list<|ns.map PyData.int
def UD(k:Int)(l:ns.length<=63):∃c,iI [gH ns,.int k]=↑(.int c):=by
 have q:bc (.list<|ns.map .int) (.list [])=↑(.bool ns.isEmpty):=by
  have:=K6 (b:=0) (k:=0) (xs:=ns.map .int) (λx H=>by let(i,_,rfl):=List.mem_map.mp H;exact kb i) (by decide);simp_all
 by_cases n:ns=[]
 .subst n;refine{7*k,?_};rfl
 .have a:(0:Int)<ns.length:=by have:=List.length_pos_iff.mpr n;lia
  have e:ns.isEmpty=false:=by grind
  let(j,J):=vF<|Int.emod_nonneg k (show(ns.length:Int)≠0 by lia);have t:=Int.emod_lt_of_pos k a;have H:vy (ns.map PyData.int) (k%ns.length)=↑(.int<|ns.getD j 0):=by
   rw[J];have:j<(ns.map PyData.int).length:=by grind
   rw[oI this,zG,zO,zG,zK<|by lia];rfl
  refine{ns.getD j 0+6553*(k/ns.length),?_};simp! [iI,rM,gH,HJ,q,e,yN,zD,ji a,H,lN {a,by lia},gC<|nF (i:=6553)<|by decide]
def Nm(k many:Int)(l:ns.length<=63)(m:0<many):∃r,ao [gH ns,.int k,.int many]=↑(.int r)/\0<=r/\r<many:=by
 let(c,hc):=UD k l;have m1:∀i ,Dl.nS (.int i) (.int 2147483563)=↑_:=λi=>ji (by lia);have b:∀x ,Dl.eH (.int<|x%2147483563) (.int<|x%2147483563)=↑_:=λx=>gC (nF (by
  lia))
 have B:∀x ,Dl.eH (.int<|x%2147483399) (.int<|x%2147483399)=↑_:=λx=>gC (nF (by
  lia))
 suffices h:∃x,ao _=↑_ by
  let(x,H):=h;exact{_,H,Int.emod_nonneg x<|by lia,Int.emod_lt_of_pos x m}
 .refine{(((((c%2147483563*69069+104723*(k+1))%2147483563)*((c%2147483563*69069+104723*(k+1))%2147483563)+((c%2147483563*69069+104723*(k+1))%2147483563)/3)%2147483399)*((((c%2147483563*69069+104723*(k+1))%2147483563)*((c%2147483563*69069+104723*(k+1))%2147483563)+((c%2147483563*69069+104723*(k+1))%2147483563)/3)%2147483399)+((((c%2147483563*69069+104723*(k+1))%2147483563)*((c%2147483563*69069+104723*(k+1))%2147483563)+((c%2147483563*69069+104723*(k+1))%2147483563)/3)%2147483399)/7)%2147483647/11,?_};simp! [ao,oF,hc,m1,(λi=>gC (Th<|by lia):∀i ,Dl.eH (.int i) (.int 69069)=↑_),(λi=>gC (nF<|by decide):∀i ,Dl.eH (.int 104723) (.int i)=↑_),Dl.aR,Ct,yV,yU,b,(λi=>lN (by lia):∀i ,Dl.pX (.int i) (.int 3)=↑_),(λi=>ji (by lia):∀i ,Dl.nS (.int i) (.int 2147483399)=↑_),B,(λi=>lN (by lia):∀i ,Dl.pX (.int i) (.int 7)=↑_),(λi=>ji (by lia):∀i ,Dl.nS (.int i) (.int 2147483647)=↑_),(λi=>lN (by lia):∀i ,Dl.pX (.int i) (.int 11)=↑_),ji m]
def dr(ns:Γ Int)(k many:Int):Int:=nj<|(ao [gH ns,.int k,.int many]).getD .none
def d9(k many:Int)(l:ns.length<=63)(m:0<many):ao [gH ns,.int k,.int many]=↑(.int<|dr ns k many)/\0<=dr ns k many/\dr ns k many<many:=by
 let(r,H,a):=Nm k many l m;have:dr ns k many=r:=by simp[dr,H,qE,nj]
 rw[this];exact⟨H,a⟩
def yk(k many:Int)(l:ns.length<=63)(m:0<many):ao [gH ns,.int k,.int many]=↑(.int<|dr ns k many):=(d9 k many l m).1
def Rr(k many:Int)(l:ns.length<=63)(m:0<many):0<=dr ns k many:=(d9 k many l m).2.1
def Rv(k many:Int)(l:ns.length<=63)(m:0<many):dr ns k many<many:=(d9 k many l m).2.2
def e8(r:Γ Int):D:=.list<|r.map PyData.int
def insI(ds:Γ Int)(k:Int)(d:Int):Γ Int:=let j:=if k<0 then(k+(ds.length:Int)).toNat else min k.toNat ds.length;ds.take j++d::ds.drop j
def GX(ds:Γ Int)(k d:Int):F9 (ds.map PyData.int) k (.int d)=(insI ds k d).map PyData.int:=by
 simp[F9,insI,zD,qX,zI,List.map_take,List.map_drop]
def insI_perm(ds:Γ Int)(k d:Int):(insI ds k d).Perm (d::ds):=by
 apply List.perm_middle.trans;simp
def oB:aq->Δ Out:=(IV 6 [8] (aj 3 ao<|aa (ae 0)<|aa (f2 aC (f2 aC (ae 1)<|f2 eH (fC<|.int 4)<|ae 4)<|ae 7)<|aa (f2 aC (bT bX<|aa (ae 6) ag)<|fC<|.int 1) ag)<|ae 8)
def S6{s3:Slot}(l:ns.length<=63)(o:order.length<=1000) :
  oB [.val<|gH ns,.val<|.int a,s2,s3,.val<|.int k,s5,.own<|order.map PyData.int,.val<|.int j,.val<|.int x] =
   some (.nx [.val<|gH ns,.val<|.int a,s2,s3,.val<|.int k,s5,.own<|(insI order (dr ns (a+4*k+j)<|order.length+1) x).map PyData.int,.val<|.int j,.val<|.int x]):=by
 have d:=d9 (a+4*k+j) (order.length+1) l (by lia);have r:Cj (dr ns (a+4*k+j)<|order.length+1)=true:=by
  simp[Cj,zF,zJ];lia
 have z:(order.map PyData.int).length<sizeLine:=by rw[zD];exact qV o<|by decide
 simp! [oB,IV,uz,Ct,u5,zD,(gC (nF<|by decide):Dl.eH (.int 4) _=↑_),d.1];rw[zD]at z;simp[r,z,jM,xG,zB,GX,yV,yU]
def Jt{s3:Slot}(l:ns.length<=63):∀{row order:Γ Int}{j:Nat}{s7 s8:Slot},order.length+row.length<=1000 ->
  ∃ (o:Γ Int) (t T:Slot),gL (g9 7 8) oB (cI j<|row.map PyData.int) [.val<|gH ns,.val<|.int a,s2,s3,.val<|.int k,s5,.own<|order.map PyData.int,s7,s8] =
   some (.nx [.val<|gH ns,.val<|.int a,s2,s3,.val<|.int k,s5,.own<|o.map PyData.int,t,T])/\o.Perm (row++order)
 |[],order,j,s7,s8,_=>{order,s7,s8,by rfl,by rfl}
 |x::row,order,j,s7,s8,h=>by
  rw[zL]at h;have H:=insI_perm order (dr ns (a+4*k+j)<|order.length+1) x;have n:=H.length_eq;rw[zL]at n;let(o,t,T,e,p):=Jt (s2:=s2) (s3:=s3) (s5:=s5) (a:=a) (k:=k) l (row:=row) (order:=insI order (dr ns (a+4*k+j)<|order.length+1) x) (j:=j+1) (s7:=.val<|.int j) (s8:=.val<|.int x) (by lia);refine{o,t,T,?_,p.trans ?_}
  .have s:g9 7 8 [.val<|gH ns,.val<|.int a,s2,s3,.val<|.int k,s5,.own<|order.map .int,s7,s8] (.tuple [.int j,.int x])=↑_:=rfl;simp[zI,cI,gL,s,zA,S6 l (show order.length<=1000 by lia),e]
  .refine (H.append_left row).trans ?_;rw[xE];exact List.perm_middle
def vi:Γ (Γ Int)->Γ (Γ Int)->Prop|[],[]=>True|a::l,b::m=>a.Perm b/\vi l m|_,_=>False
def rB:aq->Δ Out:=(az (bH 6 []<|dD ag)<|az (gX [5] (cz<|aa (ae 5) ag) (g9 7 8) oB)<|nA 3 [6]<|bT gO<|aa (ae 6) ag)
def Ux(l:ns.length<=63)(r:row.length<=1000)(f:found.length<=1000) :
  ∃ (o:Γ Int) (t T:Slot),rB [.val<|gH ns,.val<|.int a,.val rows,.own found,.val<|.int k,.val<|e8 row,s6,s7,s8]=↑(.nx [.val<|gH ns,.val<|.int a,.val rows,.own<|found++[ai o],.val<|.int k,.val<|e8 row,.val<|e8 o,t,T])/\o.Perm row:=by
 let(o,t,T,e,p):=Jt l (row:=row) (order:=[]) (by grind);rw[qD]at p;refine{o,t,T,?_,p};have H:bH 6 [] (dD ag) [.val<|gH ns,.val<|.int a,.val rows,.own found,.val<|.int k,.val<|e8 row,s6,s7,s8]=↑(.nx [.val<|gH ns,.val<|.int a,.val rows,.own found,.val<|.int k,.val<|e8 row,.own [],s7,s8]):=by
  rfl
 have b:gX [5] (cz<|aa (ae 5) ag) _ oB [.val _,.val<|.int a,.val rows,.own found,.val<|.int k,.val<|e8 row,.own [],s7,s8]=↑(.nx [.val _,.val _,.val rows,.own found,.val _,.val _,.own _,t,T]):=e;have c:nA 3 [6] (bT gO<|aa (ae 6) ag) [.val<|gH ns,.val<|.int a,.val rows,.own found,.val<|.int k,.val<|e8 row,.own<|o.map .int,t,T]=↑(.nx [.val<|gH ns,.val<|.int a,.val rows,.own<|found++[ai o],.val<|.int k,.val<|e8 row,.val<|e8 o,t,T]):=by
  have d:hand [6] 0 [.val<|gH ns,.val<|.int a,.val rows,.own found,.val<|.int k,.val<|e8 row,.own<|o.map .int,t,T]=[.val _,.val _,.val rows,.own found,.val _,.val _,.val _,t,T]:=rfl;simp[nA,uz,d,bx,zI,yT];simp! [Cz,yN,u5,(qV f (by decide):found.length<sizeLine),yV,yU,e8,ai]
 simp[rB,az,H,b,c,zA]
def JB{rws:D}(l:ns.length<=63):∀{rows:Γ (Γ Int)}{found:Γ D}{k:Nat}{s4 s5 s6 s7 s8:Slot},(∀r∈rows,r.length<=1000)->found.length+rows.length<=1000 ->
  ∃ (os:Γ (Γ Int)) (t T b c d:Slot),gL (g9 4 5) rB (cI k<|rows.map e8) [.val<|gH ns,.val<|.int a,.val rws,.own found,s4,s5,s6,s7,s8]=↑(.nx [.val<|gH ns,.val<|.int a,.val rws,.own<|found++os.map ai,t,T,b,c,d])/\vi os rows
 |[],found,k,s4,s5,s6,s7,s8,_,_=>{[],s4,s5,s6,s7,s8,by simp[cI,gL],trivial}
 |r::rows,found,k,s4,s5,s6,s7,s8,h,f=>by
  rw[zL]at f;let(o,u,U,E,P):=Ux (rows:=rws) (a:=a) (k:=k) (s6:=s6) (s7:=s7) (s8:=s8) l (h r zE) (show found.length<=1000 by lia);let(os,t,T,b,c,d,e,p):=JB l (rws:=rws) (a:=a) (found:=found++[ai o]) (k:=k+1) (s4:=.val<|.int k) (s5:=.val<|e8 r) (s6:=.val<|e8 o) (s7:=u) (s8:=U) (λR H=>h R<|zC _ H) (by rw[zN,xB];lia);refine{o::os,t,T,b,c,d,?_,P,p};have s:g9 4 5 [.val<|gH ns,.val<|.int a,.val rws,.own found,s4,s5,s6,s7,s8] (.tuple [.int k,e8 r])=↑_:=rfl;simp[zI,cI,gL,s,zA,E];rw[e,List.append_assoc];rfl
def Cq(l:ns.length<=63)(R:∀r∈rows,r.length<=1000)(n:rows.length<=1000):∃os ,cF [gH ns,.int a,.list<|rows.map e8]=↑(.list<|os.map ai)/\vi os rows:=by
 let(os,t,T,d,f,g,e,p):=JB l (found:=[]) R (by grind);refine{os,?_,p};rw[xN]at e;have b:bH 3 [] (dD ag) [.val<|gH ns,.val<|.int a,.val<|.list<|rows.map e8,.non,.non,.non,.non,.non,.non]=↑(.nx [.val<|gH ns,.val<|.int a,.val<|.list<|rows.map e8,.own [],.non,.non,.non,.non,.non]):=by
  rfl
 have H:gX [2] (cz<|aa (ae 2) ag) (g9 4 5) rB [.val<|gH ns,.val<|.int a,.val<|.list<|rows.map e8,.own [],.non,.non,.non,.non,.non]=↑(.nx [.val<|gH ns,.val<|.int a,.val<|.list<|rows.map e8,.own<|os.map ai,t,T,d,f,g]):=by
  have c:hand [2] 0 [.val<|gH ns,.val<|.int a,.val<|.list<|rows.map e8,.own [],.non,.non,.non,.non,.non]=[.val _,.val _,.val _,.own [],.non,.non,.non,.non,.non]:=rfl;have q:cz (aa (ae 2) ag) (bx [.val<|gH ns,.val<|.int a,.val<|.list<|rows.map e8,.own [],.non,.non,.non,.non,.non])=↑(cI 0<|rows.map e8):=by
   rfl
  simp[gX,c,q,zA];omega
 unfold rB oB at H;simp! [cF,nq,b,H]
abbrev Pl:=Int×Γ Int
abbrev Wy:=Int×Int×Int
def cE(p:Pl):D:=.tuple [.int p.1,ai p.2]
def aM(w:Wy):D:=.tuple [.int w.1,.int w.2.1,.int w.2.2]
def aW(G T:Γ Pl)(W:Γ Wy):D:=.tuple [.tuple<|G.map cE,.tuple<|T.map cE,.tuple<|W.map aM]
def IB(W:Γ Wy)(i:Int):Γ Int:=(W.filter λw=>decide (w.1=i)).map λw=>w.2.1
def ofT(W:Γ Wy)(j:Int):Γ Int:=(W.filter λw=>decide (w.2.1=j)).map λw=>w.1
abbrev Jk(W:Γ Wy):Prop:=W.Pairwise λa b=>a.1<b.1\/(a.1=b.1/\a.2.1<b.2.1)
structure Wd(G T:List Pl)(W:List Wy):Prop where
 g1:1<=G.length
 g4:G.length<=4
 t1:1<=T.length
 t4:T.length<=4
 ga:∀p∈G,0<=p.1/\p.1<=9
 ta:∀p∈T,0<=p.1/\p.1<=9
 gl:∀(i:Nat)(p:Pl),G[i]?=↑p->p.2.Perm (IB W i)
 tl:∀(j:Nat)(p:Pl),T[j]?=↑p->p.2.Perm (ofT W j)
 wr:∀w∈W,(0<=w.1/\w.1<G.length)/\(0<=w.2.1/\w.2.1<T.length)/\1<=w.2.2/\w.2.2<=9
 wp:Jk W
 wl:W.length<=16
def Ab:j∈IB W i↔[i,j]∈W.map λw=>[w.1,w.2.1]:=by
 simp?[IB,List.mem_map,List.mem_filter,zJ,kO,and_true];simp
def Ao:i∈ofT W j↔[i,j]∈W.map λw=>[w.1,w.2.1]:=by
 simp?[ofT,List.mem_map,List.mem_filter,zJ,kO,and_true];simp
def pO(h:Jk W)(i:Int):(IB W i).Nodup:=by
 rw[IB,List.Nodup,jB,List.pairwise_filter];refine h.imp λb a H=>?_
 grind
def rz(h:Jk W)(i:Int):(ofT W i).Nodup:=by
 rw[ofT,List.Nodup,jB,List.pairwise_filter];refine h.imp λb a H=>?_
 grind
def ie(p:Pl):l6 (cE p)=p.2:=by
 show((p.2.map .int).map nj)=p.2;rw[zM];apply List.map_id
def rK(a:0<=p.1/\p.1<=9)(N:p.2.Nodup)(r:∀j∈p.2,0<=j/\j<n):placeOk n (cE p)=true:=by
 have e:(p.2.map _).map nj=p.2:=ie p;have E:(p.2.map .int).all (whole 0<|n-1)=true:=by
  rw[xF];intro x X;let(j,H,rfl):=List.mem_map.mp X;have:=r j H;simp[whole,zF,zJ];lia
 simp?[placeOk,cE,ai,zL,xJ,vY,vZ,mz,whole,e,E,a.1,a.2,N,jN,Bool.and_self]
def GR(h:(0<=w.1/\w.1<g)/\(0<=w.2.1/\w.2.1<t)/\1<=w.2.2/\w.2.2<=9):lF g t (aM w)=true:=by
 let((a,b),(c,d),e,f):=h;simp?[lF,aM,zL,xJ,vY,vZ,whole,a,(show w.1<=g-1 by lia),c,(show w.2.1<=t-1 by lia),e,f,jN,Bool.and_self]
def ZI(h:a<c\/(a=c/\b<d)):Dl.lexLt [a,b] [c,d]=true:=by
 show HT.lexLt _ _=true;rw[HT.fN];by_cases e:a=c
 .rw[yK e,HT.fN,yM<|by lia]
  grind
 grind
def Wd.aeR(h:Wd G T W)(P:p∈G):∃i ,i<G.length/\p.2.Perm (IB W i):=by
 let(i,H,e):=qM P;exact{i,H,h.gl i p<|by rw[zK H,e]}
def Wd.aeS(h:Wd G T W)(P:p∈T):∃i ,i<T.length/\p.2.Perm (ofT W i):=by
 let(i,H,e):=qM P;exact{i,H,h.tl i p<|by rw[zK H,e]}
def Wd.gok(h:Wd G T W):(G.map cE).all (placeOk T.length)=true:=by
 rw[xF];intro x X;let(p,H,rfl):=List.mem_map.mp X;let(i,I,q):=h.aeR H;refine rK (h.ga p H) (q.nodup_iff.mpr<|pO h.wp _) λj J=>?_;let(w,hw,e):=List.mem_map.mp<|Ab.mp<|q.mem_iff.mp J;injection e with a E
 injection E with E _
 have:=(h.wr w hw).2.1;rw[E]at this;lia
def Wd.tok(h:Wd G T W):(T.map cE).all (placeOk G.length)=true:=by
 rw[xF];intro x X;let(p,H,rfl):=List.mem_map.mp X;let(i,I,q):=h.aeS H;refine rK (h.ta p H) (q.nodup_iff.mpr<|rz h.wp _) λj J=>?_;let(w,hw,e):=List.mem_map.mp<|Ao.mp<|q.mem_iff.mp J;injection e with E a
 have:=(h.wr w hw).1;rw[E]at this;lia
def uc{W:Γ Wy}{p:Wy->θ}(h:W.length<=16):(W.filter p).length<=16:=yD (xO _ _) h
def EV(h:p.2.length<=16):jx 16 2 (cE p):=.tup (by simp) λx H=>by
 rcases List.mem_cons.mp H with rfl|H
 .apply kb
 .rw[yI]at H;subst H;exact zh h
def Ow(w:Wy):jx 16 1 (aM w):=.tup (by simp) λx H=>by
 simp  at H;rcases H with rfl|rfl|rfl<;>apply kb
def Wd.fit(h:Wd G T W):jx 16 4 (aW G T W):=by
 refine .tup (by simp?[zL,xJ];lia) λx H=>?_;simp?[zQ,yF,xS]at H;have a:=h.g4;have b:=h.t4;have c:=h.wl;rcases H with rfl|rfl|rfl
 .refine .tup (by rw[zD];lia) λx H=>?_;let(p,P,rfl):=List.mem_map.mp H;let(i,I,q):=h.aeR P;exact EV (by rw[q.length_eq,IB,zD];exact uc h.wl)
 .refine .tup (by rw[zD];lia) λx H=>?_;let(p,P,rfl):=List.mem_map.mp H;let(i,I,q):=h.aeS P;exact EV (by rw[q.length_eq,ofT,zD];exact uc h.wl)
 .refine .tup (by rw[zD];lia) λx H=>?_;let(p,P,rfl):=List.mem_map.mp H;exact(Ow p).mono (yL _) (by decide)
def GM(a:0<=c)(b:c<=9):Wd [(c,[0,1]),(c,[1,0])] [(c,[1,0]),(c,[0,1])] [(0,0,2),(0,1,2),(1,0,2),(1,1,2)] where
 g1:=by simp
 g4:=by simp
 t1:=by simp
 t4:=by simp
 ga:=by intro p H;simp  at H;rcases H with rfl|rfl<;>exact⟨a,b⟩
 ta:=by intro p H;simp  at H;rcases H with rfl|rfl<;>exact⟨a,b⟩
 gl:=by
  intro i p H
  match i,H with
  |0,H=>injection H with H;subst H;rfl
  |1,H=>injection H with H;subst H;exact(show List.Perm [1,0] _ by decide)
 tl:=by
  intro i p H
  match i,H with
  |0,H=>injection H with H;subst H;exact(show List.Perm [1,0] _ by decide)
  |1,H=>injection H with H;subst H;rfl
 wr:=by simp
 wp:=by decide
 wl:=by simp
def l7(f:Nat->Int):Nat->Γ (Γ Int)->Γ Pl|_,[]=>[]|k,r::s=>(f k,r)::l7 f (k+1) s
def jm(f:Nat->Int):∀rs k,(l7 f k rs).length=rs.length
 |[],k=>rfl
 |r::rs,k=>by rw[l7,zL,zL,jm f rs]
def jb(f:Nat->Int):∀{rs:Γ (Γ Int)}{k i:Nat}{p:Pl},(l7 f k rs)[i]?=↑p->∃r,rs[i]?=↑r/\p=(f<|k+i,r)
 |[],k,i,p,h=>by simp[l7]at h
 |r::rs,k,0,p,h=>by simp[l7]at h;exact{r,rfl,h.symm}
 |r::rs,k,i+1,p,h=>by
  simp?[l7,yX]at h;let(y,H,a):=jb f h;exact{y,by simpa using H,by rw[a];congr 2;lia}
def fS:∀{a b:Γ _},vi a b->a.length=b.length
 |[],[],_=>rfl
 |x::a,y::b,h=>by rw[zL,zL,fS h.2]
 |[],_::_,h=>h.elim
 |_::_,[],h=>h.elim
def pY:∀{a b:Γ (Γ Int)}{i:Nat}{r:Γ Int},vi a b->a[i]?=↑r->∃s,b[i]?=↑s/\r.Perm s
 |[],[],i,r,_,h=>by simp at h
 |x::a,y::b,0,r,h,e=>by
  simp?[xP,yJ]at e;subst e;exact{y,rfl,h.1}
 |x::a,y::b,i+1,r,h,e=>by
  simp?[yX]at e;let(s,H,c):=pY h.2 e;exact{s,by simpa using H,c}
 |[],_::_,i,r,h,_=>h.elim
 |_::_,[],i,r,h,_=>h.elim
def mZ(W:Γ Wy)(m:Nat):Γ (Γ Int):=(List.range m).map λi=>IB W ((i:Nat):Int)
def lq(W:Γ Wy)(m:Nat):Γ (Γ Int):=(List.range m).map λi=>ofT W ((i:Nat):Int)
def NX(m1:1<=m)(q:m<=4)(S:1<=s)(s4:s<=4)(F:∀k,0<=f k/\f k<=9)(G:∀k,0<=g k/\g k<=9)
  (M:vi I (mZ W m))(y:vi U (lq W s))(o:∀w∈W,(0<=w.1/\w.1<m)/\(0<=w.2.1/\w.2.1<s)/\1<=w.2.2/\w.2.2<=9)(n:Jk W)(j:W.length<=16):Wd (l7 f 0 I) (l7 g 0 U) W:=by
 have l:(l7 f 0 I).length=m:=by rw[jm,fS M,mZ,zD,zR]
 have L:(l7 g 0 U).length=s:=by rw[jm,fS y,lq,zD,zR]
 have A:∀{h:Nat->Int}{R:Γ (Γ Int)},(∀k,0<=h k/\h k<=9)->∀p∈l7 h 0 R,0<=p.1/\p.1<=9:=λ{h R}c p P=>by
  let(i,d):=List.mem_iff_getElem?.mp P;let(r,_,rfl):=jb h d;exact c _
 refine{by lia,by lia,by lia,by lia,A F,A G,λi p P=>?_,λi p P=>?_,by rw[l,L];exact o,n,j}
 .let(r,a,rfl):=jb f P;let(t,H,b):=pY M a;rw[mZ,zO]at H;let(k,hk,rfl):=Option.map_eq_some_iff.mp H;have:k=i:=by
   rw[zT]at hk;let(h,e):=hk;rw[List.getElem_range]at e;exact e.symm
  subst this;exact b
 .let(r,a,rfl):=jb g P;let(t,H,b):=pY y a;rw[lq,zO]at H;let(k,hk,rfl):=Option.map_eq_some_iff.mp H;have:k=i:=by
   rw[zT]at hk;let(h,e):=hk;rw[List.getElem_range]at e;exact e.symm
  subst this;exact b
def eS{i:Nat}{z:Γ Nat}{f:Dl.Env->Δ D}{ρ ρ':aq}{d:D}(H:f (aI ρ)=↑d)(s:Dl.ki d=false)(a:hand z 0 ρ=ρ')(v:bx ρ'=aI ρ)(r:fH d=false\/ρ'=ρ:=by first|exact .inr rfl|exact .inl rfl):Dl.aR i z f ρ=↑(.nx<|ρ'.set i<|.val d):=by
 rcases r with r|r
 .simp[Dl.aR,H,zA,s,yN,qL,a,v,zB,r]
 .subst r;simp[Dl.aR,H,zA,s,yN,qL,a,v,zB,ite_self]
def bM{i:Nat}{z:Γ Nat}{f:Dl.Env->Δ D}{ρ:aq}{d:D}(H:f (aI ρ)=↑d)(s:Dl.ki d=true):Dl.aR i z f ρ=↑(.nx<|ρ.set i<|.val d):=by
 simp[Dl.aR,H,zA,s,xG]
def aah(w:Wy):aK (aM w) (.int 0)=↑(.int w.1):=rfl
def ZR(w:Wy):aK (aM w) (.int 1)=↑(.int w.2.1):=rfl
def Lc(a b c:D):small [a,b,c]=↑[a,b,c]:=rfl
def Xy{a b s:Int}(H:s=1\/s=2\/s=3)(h:a<b):a/s<b/s\/(a/s=b/s/\a%s<b%s):=by grind
def Va{k m s:Int}(S:s=1\/s=2\/s=3)(M:m=1\/m=2\/m=3)(H:0<=k)(h:k<m*s):(0<=k/s/\k/s<m)/\0<=k%s/\k%s<s:=by
 grind
def lB:aq->Δ Out:=(iH (fy (fB<|f2 AN (bT bX<|aa (ae 7) ag)<|ae 2)<|fB<|f2 yc (aj 3 ao<|aa (ae 0)<|aa (f2 aC (f2 aC (ae 1)<|fC<|.int 2)<|ae 8)<|aa (fC<|.int 4) ag)<|fC<|.int 0) (nA 7 [0,1,6,8]<|aX<|aa (f2 pX (ae 8)<|ae 6)<|aa (f2 nS (ae 8)<|ae 6)<|aa (f2 aC (fC<|.int 1)<|aj 3 ao<|aa (ae 0)<|aa (f2 aC (f2 aC (ae 1)<|fC<|.int 12)<|ae 8)<|aa (fC<|.int 2) ag) ag) fI)
abbrev st(ns:Γ Int)(a mo m s:Int)(x x7 x8 x9 x10 x11:Slot):aq:=[.val<|gH ns,.val<|.int a,.val<|.int mo,.non,x,.val<|.int m,.val<|.int s,x7,x8,x9,x10,x11]
def Ro(ns:Γ Int)(a mo s k:Int)(W:Γ Wy):Γ Wy:=if(W.length:Int)<mo/\0<dr ns (a+2+k) 4 then W++[(k/s,k%s,1+dr ns (a+12+k) 2)]else W
def R0{ns:Γ Int}{a mo m s k:Int}{W:Γ Wy}(l:ns.length<=63)(S:s=1\/s=2\/s=3)(hw:W.length<=9) :
  lB (st ns a mo m s .non (.own<|W.map aM) (.val<|.int k) .non .non .non)=↑(.nx<|st ns a mo m s .non (.own<|(Ro ns a mo s k W).map aM) (.val<|.int k) .non .non .non):=by
 have H:0<s:=by lia
 have e:=yk (a+2+k) 4 l (by decide);have b:hand [0,1,6,8] 0 (st ns a mo m s .non (.own<|W.map aM) (.val<|.int k) .non .non .non)=st ns a mo m s .non (.own<|W.map aM) (.val _) .non .non .non:=rfl;have A:nA 7 [0,1,6,8] (aX<|aa (f2 pX (ae 8)<|ae 6)<|aa (f2 nS (ae 8)<|ae 6)<|aa (f2 aC (fC<|.int 1)<|aj 3 ao<|aa (ae 0)<|aa (f2 aC (f2 aC (ae 1)<|fC<|.int 12)<|ae 8)<|aa (fC<|.int 2) ag) ag) (st ns a mo m s .non (.own<|W.map aM) (.val<|.int k) .non .non .non)=↑(.nx<|st ns a mo m s .non (.own<|(W++[(k/s,k%s,1+dr ns (a+12+k) 2)]).map aM) (.val<|.int k) .non .non .non):=by
  simp[nA,uz,b,bx,zI,yT];simp! [Cz,yN,u5,(lN {H,by lia}),(ji H),(yk _ 2 l<|by decide),Lc,zD,(qV hw (by decide):W.length<sizeLine),yV,yU,qX];rfl
 by_cases c1:W.length<mo
 .by_cases c2:0<dr ns (a+2+k) 4
  .rw[show Ro ns a mo s k W=W++[(k/s,k%s,1+dr ns _ 2)]from yK {c1,c2},<-A];simp! [lB,iQ,cN,zD,c1,c2,jN,mQ,e]
  .rw[show Ro ns a mo s k W=W from yM λh=>c2 h.2];simp! [lB,iQ,cN,zD,c1,c2,jN,wI,mQ,e,yN]
 .rw[show Ro ns a mo s k W=W from yM λh=>c1 h.1];simp! [lB,iQ,cN,zD,c1,wI,mQ,yN]
structure HK(mo s k:Int)(W:List Wy):Prop where
 mem:∀w∈W,∃j:Int,0<=j/\j<k/\w.1=j/s/\w.2.1=j%s/\1<=w.2.2/\w.2.2<=2
 ris:Jk W
 len:(W.length:Int)<=k
 lem:(W.length:Int)<=mo
def HK.next{ns:Γ Int}{a mo s k:Int}{W:Γ Wy}(l:ns.length<=63)(S:s=1\/s=2\/s=3)(hk:0<=k)(h:HK mo s k W):HK mo s (k+1) (Ro ns a mo s k W):=by
 have o:∀w∈W,∃j ,0<=j/\j<k+1/\w.1=j/s/\w.2.1=j%s/\1<=w.2.2/\w.2.2<=2:=λw hw=>by
  let(j,a,b,c):=h.mem w hw;exact{j,a,by lia,c}
 by_cases c:W.length<mo/\0<dr ns (a+2+k) 4
 .rw[show Ro ns a mo s k W=W++[(k/s,k%s,1+dr ns _ 2)]from yK c];have g:=Rr (a+12+k) 2 l (by lia);have G:=Rv (a+12+k) 2 l (by lia);refine{λw hw=>?_,?_,?_,?_}
  .rcases List.mem_append.mp hw with hw|hw
   .simp_all
   .rw[yI]at hw;subst hw;exact{k,hk,by lia,rfl,rfl,by grind,by grind}
  .refine List.pairwise_append.mpr {h.ris,List.pairwise_singleton _ _,λa A b H=>?_};rw[yI]at H;subst H;let(j,_,b,c1,c2,_):=h.mem a A;rw[c1,c2];exact Xy S b
  .have:=h.len;rw[zN,xB];lia
  .rw[zN,xB];lia
 .rw[show Ro ns a mo s k W=W from yM c];exact{o,h.ris,by have:=h.len;lia,h.lem}
def JG{ns:Γ Int}{a mo m s:Int}(l:ns.length<=63)(H:s=1\/s=2\/s=3):∀(n k:Nat){W:Γ Wy}{x8:Slot},k+n<=9->HK mo s k W ->
  ∃w t,gL (CY 8) lB ((List.range' k n).map λi=>PyData.int (i:Nat)) (st ns a mo m s .non (.own<|W.map aM) x8 .non .non .non)=↑(.nx<|st ns a mo m s .non (.own<|w.map aM) t .non .non .non)/\(n=0/\t=x8\/∃d,t=.val d)/\HK mo s (k+n:Nat) w
 |0,k,W,x8,hk,h=>{W,x8,rfl,.inl {rfl,rfl},h}
 |n+1,k,W,x8,hk,h=>by
  have c:HK mo s (k+1:Nat) (Ro ns a mo s k W):=by
   have:=h.next (a:=a) l H<|by lia
   grind
  let(w,t,e,q,b):=JG l H n _ (x8:=.val _) (by lia) c;refine{w,t,?_,.inr<|q.elim (λz=>{_,z.2}) id,by grind};have g:∀d,CY 8 (st ns a mo m s .non (.own<|W.map aM) x8 .non .non .non) d=↑(st ns a mo m s _ _ _ _ _ _):=λd=>rfl;rw[vD,zI,gL,g,zA,R0 l H (by have:=h.len;lia)];exact e
abbrev acE:=(dg<|ae 1)
abbrev acF:=(f2 aK (ae 0)<|fC<|.int 0)
abbrev acG:=(f2 aK (ae 0)<|fC<|.int 1)
def inG(W:Γ Wy)(i:Int)(hw:W.length<=20):aD 1 [0] acE (fG 0) (fB<|f2 bc acF<|ae 1) acG [↑(.int i),↑(.list<|W.map aM)]=↑((IB W i).map PyData.int):=by
 rw[n5 (p:=λd=>decide (nj ((dH d).getD 0 .none)=i)) (h:=λd=>(dH d).getD 1 .none) rfl (by grind) (λd H=>?_) λd H _=>?_]
 .rw[kA,zM,IB,zM];rfl
 .let(w,_,rfl):=List.mem_map.mp H;rfl
 .let(w,_,rfl):=List.mem_map.mp H;rfl
def inT(W:Γ Wy)(i:Int)(hw:W.length<=20):aD 1 [0] acE (fG 0) (fB<|f2 bc acG<|ae 1) acF [↑(.int i),↑(.list<|W.map aM)]=↑((ofT W i).map PyData.int):=by
 rw[n5 (p:=λd=>decide (nj ((dH d).getD 1 .none)=i)) (h:=λd=>(dH d).getD 0 .none) rfl (by grind) (λd H=>?_) λd H _=>?_]
 .rw[kA,zM,ofT,zM];rfl
 .let(w,_,rfl):=List.mem_map.mp H;rfl
 .let(w,_,rfl):=List.mem_map.mp H;rfl
def sT{m:Nat}(H:m<=1000):Cj m=true:=by
 unfold Cj
 grind
def A5{j:Int}(h:Cj j=true):nC [.int j]=↑((List.range j.toNat).map λi=>PyData.int (i:Nat)):=by
 rw[nC,yK h]
def Aw{fi:Dl.Env->Δ D}{ρ:Dl.Env}(m:Nat)(H:m<=1000)(h:fi ρ=↑(.int m)):da (aa fi ag) ρ=↑((List.range m).map λi=>PyData.int (i:Nat)):=by
 have e:da _ ρ=(aa fi ag ρ).bind nC:=rfl;rw[e,(show aa fi ag ρ=↑[.int m]by simp[aa,ag,h,zA,zB]),zA,A5<|sT H,yG]
def OU{W:Γ Wy}{m:Nat}{ρ:Dl.Env}(hw:W.length<=20)(M:m<=1000)(H:ae i5 ρ=↑(.int (m:Nat)))(a:(ρ[i7]?).getD none=↑(.list<|W.map aM)) :
  aD 1 [i7] (da<|aa (ae i5) ag) (fG 0) (λ_=>↑true) (dh<|aD 1 [0] acE (fG 0) (fB<|f2 bc acF<|ae 1) acG) ρ=↑((mZ W m).map e8):=by
 rw[dy (h:=λd=>e8<|IB W<|nj d) (Aw m M H) (by rw[zD,zR];lia) λd D=>?_]
 .rw[mZ,zM,zM];rfl
 .let(i,_,rfl):=List.mem_map.mp D;simp?[zI,yT,a,dh,inG W _ hw,zB,e8,nj]
def Pf{W:Γ Wy}{m:Nat}{ρ:Dl.Env}(hw:W.length<=20)(M:m<=1000)(H:ae i5 ρ=↑(.int (m:Nat)))(a:(ρ[i7]?).getD none=↑(.list<|W.map aM)) :
  aD 1 [i7] (da<|aa (ae i5) ag) (fG 0) (λ_=>↑true) (dh<|aD 1 [0] acE (fG 0) (fB<|f2 bc acG<|ae 1) acF) ρ=↑((lq W m).map e8):=by
 rw[dy (h:=λd=>e8<|ofT W<|nj d) (Aw m M H) (by rw[zD,zR];lia) λd D=>?_]
 .rw[lq,zM,zM];rfl
 .let(i,_,rfl):=List.mem_map.mp D;simp?[zI,yT,a,dh,inT W _ hw,zB,e8,nj]
def Ri(c:Int):Dl.Env->Δ D:=(aX<|aa (aj 3 ao<|aa (ae 2)<|aa (f2 aC (f2 aC (ae 3)<|fC<|.int c)<|ae 0)<|aa (fC<|.int 4) ag)<|aa (ae 1) ag)
def VI{ns:Γ Int}{a:Int}(c:Int)(l:ns.length<=63):∀(J:Γ (Γ Int))k,fJ (my 0 1) (λ_=>↑true) (Ri c) [none,none,↑(gH ns),↑(.int a)] (cI k<|J.map ai)=↑((l7 (λk=>dr ns (a+c+k) 4) k J).map cE)
 |[],k=>rfl
 |r::J,k=>by
  have g:my 0 1 [none,none,↑(gH ns),↑(.int a)] (.tuple [.int k,ai r])=↑_:=rfl;have e:Ri c [↑(.int k),↑(ai r),↑(gH ns),↑(.int a)]=↑(cE (dr ns (a+c+k) 4,r)):=by
   simp! [Ri,yk _ 4 l<|by lia,LX,cE]
  rw[zI,cI,fJ,g];simp[zA,xG,e,(VI (a:=a) c l J<|k+1),zB,l7,zI]
def Bw{ns:Γ Int}{a c:Int}{i:Nat}{ρ:Dl.Env}{J:Γ (Γ Int)}(l:ns.length<=63)(m:J.length<=1000)(d:ae i ρ=↑(.list<|J.map ai))(H:(ρ[0]?).getD none=↑(gH ns))(b:(ρ[1]?).getD none=↑(.int a)) :
  bT gO (aa (dh<|aD 2 [0,1] (cz<|aa (ae i) ag) (my 0 1) (λ_=>↑true)<|Ri c) ag) ρ=↑(.tuple<|(l7 (λk=>dr ns (a+c+k) 4) 0 J).map cE):=by
 have I:cz (aa (ae i) ag) ρ=↑(cI 0<|J.map ai):=by
  simp[cz,aa,ag,d,zA,zB,dF,oneOf,iw]
 have hc:aD 2 [0,1] (cz<|aa (ae i) ag) (my 0 1) (λ_=>↑true) (Ri c) ρ=↑((l7 (λk=>dr ns (a+c+k) 4) 0 J).map cE):=by
  simp[aD,I,zA,iC,zI,yT,H,b,List.replicate,xE,xN,VI c l];exact cU (by rw[zD,jm];lia)
 simp[bT,aa,ag,dh,hc,zB,zA,gO,dF,oneOf,iw]
def au{g1 g2:aq->Δ Out}{ρ ρ':aq}(h:g1 ρ=↑(.nx ρ')):az g1 g2 ρ=g2 ρ':=by
 simp[az,h,zA]
def g8{g1 g2:aq->Δ Out}{ρ:aq}{d:D}(h:g1 ρ=↑(.rt d)):az g1 g2 ρ=↑(.rt d):=by
 simp[az,h,zA]
def bb{g:aq->Δ Out}{n:Nat}{args:Γ D}{d:D}(h:g (args.map Slot.val++List.replicate (n-args.length) .non)=↑(.rt d)):bK g n args=↑d:=by
 simp[bK,h,zB]
def jn{g:D->D->Δ D}{fa fb:Dl.Env->Δ D}{ρ:Dl.Env}{a b:D}(H:fa ρ=↑a)(B:fb ρ=↑b):f2 g fa fb ρ=g a b:=by
 simp[f2,H,B,zA]
def RM{ns:Γ Int}{a mo:Int}{m s:Nat}(m1:m<=3)(S:s<=3):f2 eH (ae 5) (ae 6) (bx<|st ns a mo m s .non (.own []) .non .non .non .non)=↑(.int (m*s:Nat)):=by
 rw[jn rfl rfl,(gC (nF<|by lia):Dl.eH (.int m) (.int s)=↑_),Int.natCast_mul]
def UV{ns:Γ Int}{a mo:Int}{m s:Nat}(m1:m<=3)(b:s<=3)(S:m*s<=9){W:Γ Wy}{t:Slot}(e: gL (CY 8) lB ((List.range' 0<|m*s).map λi=>PyData.int (i:Nat)) (st ns a mo m s .non (.own<|[].map aM) .non .non .non .non)=↑(.nx<|st ns a mo m s .non (.own<|W.map aM) t .non .non .non)):gX [5,6] (da<|aa (f2 eH (ae 5)<|ae 6) ag) (CY 8) lB (st ns a mo m s .non (.own []) .non .non .non .non)=↑(.nx<|st ns a mo m s .non (.own<|W.map aM) t .non .non .non):=by
 have H:hand [5,6] 0 (st ns a mo m s _ _ _ _ _ _)=st ns a mo m s .non (.own []) .non .non .non .non:=rfl;have r:=Aw (ρ:=bx<|st ns a mo m s _ _ _ _ _ _) _ (by lia)<|RM m1 b;rw[List.range_eq_range']at r;rw[yT]at e;simp[gX,H,r,zA];lia
structure Y4(mo:Int)(G T:List Pl)(W:List Wy):Prop where
 g3:G.length<=3
 t3:T.length<=3
 w2:∀w∈W,w.2.2<=2
 ga:∀p∈G,p.1<=3
 ta:∀p∈T,p.1<=3
 wm:(W.length:Int)<=mo
def AC{ns:Γ Int}{a mo:Int}(l:ns.length<=63)(o:3<mo)(c:dr ns (a+64) 4=0):∃G T W,dS [gH ns,.int a,.int mo]=↑(aW G T W)/\Wd G T W/\Y4 mo G T W:=by
 have e:=d9 (a+65) 2 l (by lia);refine{_,_,_,?_,GM (c:=1+dr ns (a+65) 2) (by lia)<|by lia,by simp,by simp,by decide,λp H=>?_,λp H=>?_,by grind};rotate_left
 .simp  at H;rcases H with rfl|rfl<;>(simp only;lia)
 .simp  at H;rcases H with rfl|rfl<;>(simp only;lia)
 have s:Dl.aR 3 [0,1] (f2 aC (fC<|.int 1)<|aj 3 ao<|aa (ae 0)<|aa (f2 aC (ae 1)<|fC<|.int 65)<|aa (fC<|.int 2) ag) [.val<|gH ns,.val<|.int a,.val<|.int mo,.non,.non,.non,.non,.non,.non,.non,.non,.non]=↑(.nx [.val _,.val _,.val _,.val<|.int<|1+dr ns (a+65) 2,.non,.non,.non,.non,.non,.non,.non,.non]):=
  bM (by simp! [e.1]) rfl
 generalize 1+dr ns _ 2=x at *;simp! [dS,gW,cN,(yk (a+64) 4 l<|by lia),c,bf,jN,mQ,yA o,s,(eS (by rfl) rfl rfl rfl),LX,Lc,λ_ _ _ _=>rfl];rfl
def AD{ns:Γ Int}{a mo:Int}(l:ns.length<=63)(u:0<=mo)(c:¬(3<mo/\dr ns (a+64) 4=0)):∃G T W,dS [gH ns,.int a,.int mo]=↑(aW G T W)/\Wd G T W/\Y4 mo G T W:=by
 have E:=yk (ns:=ns) (a+64) 4 l (by lia);have O:=d9 (ns:=ns) a 3 l (by lia);have U:=d9 (ns:=ns) (a+1) 3 l (by lia);let(m,X):=vF (show 0<=1+dr ns a 3 by lia);let(s,Z):=vF (show 0<=1+dr ns (a+1) 3 by lia);have m1:1<=m/\m<=3:=by lia
 have S:1<=s/\s<=3:=by lia
 have H:(s:Int)=1\/(s:Int)=2\/(s:Int)=3:=by lia
 have M:(m:Int)=1\/(m:Int)=2\/(m:Int)=3:=by lia
 have t5:Dl.aR 5 [0,1] (f2 aC (fC<|.int 1)<|aj 3 ao<|aa (ae 0)<|aa (ae 1)<|aa (fC<|.int 3) ag) [.val<|gH ns,.val<|.int a,.val<|.int mo,.non,.non,.non,.non,.non,.non,.non,.non,.non]=↑(.nx [.val<|gH ns,.val<|.int a,.val<|.int mo,.non,.non,.val<|.int (m:Nat),.non,.non,.non,.non,.non,.non]):=
  bM (d:=.int (m:Nat)) (by simp! [O.1,X]) rfl
 have t6:Dl.aR 6 [0,1] (f2 aC (fC<|.int 1)<|aj 3 ao<|aa (ae 0)<|aa (f2 aC (ae 1)<|fC<|.int 1)<|aa (fC<|.int 3) ag) [.val<|gH ns,.val<|.int a,.val<|.int mo,.non,.non,.val<|.int (m:Nat),.non,.non,.non,.non,.non,.non]=↑(.nx<|st ns a mo m s .non .non .non .non .non .non):=
  bM (d:=.int (s:Nat)) (by simp! [U.1,Z]) rfl
 have t7:bH 7 [] (dD ag) (st ns a mo m s .non .non .non .non .non .non)=↑(.nx<|st ns a mo m s .non (.own []) .non .non .non .non):=by
  rfl
 have v:m*s<=9:=vT m1.2 S.2;have K:1<=m*s:=vT m1.1 S.1;let(W,t8,e,V,I):=JG (ns:=ns) (a:=a) (m:=m) (s:=s) l H (m*s) 0 (W:=[]) (x8:=.non) (by lia) (mo:=mo) {λw hw=>(by grind),List.Pairwise.nil,by simp,u};rw[jA]at I;obtain⟨D,rfl⟩:∃d,t8=.val d:=V.elim (λz=>by lia) id;have Q:W.length<=9:=by have:=I.len;lia
 have F:=UV m1.2 S.2 v e;unfold lB at F;have L:W.length<=20:=by lia
 have wr:∀w∈W,(0<=w.1/\w.1<m)/\(0<=w.2.1/\w.2.1<s)/\1<=w.2.2/\w.2.2<=9:=λw hw=>by
  let(j,j0,jk,N,b,c1,c2):=I.mem w hw;have:=Va H M j0 (by rw[<-Int.natCast_mul];exact jk);rw[N,b];exact{this.1,this.2,c1,by lia}
 have R:∀r∈mZ W m,r.length<=1000:=λr x=>by
  let(i,_,rfl):=List.mem_map.mp x;rw[IB,zD]
  grind
 have n:∀r∈lq W s,r.length<=1000:=λr x=>by
  let(i,_,rfl):=List.mem_map.mp x;rw[ofT,zD]
  grind
 let(J,om,y):=Cq (ns:=ns) (a:=a+24) (rows:=mZ W m) l R (by rw[mZ,zD,zR];lia);let(A,oy,Y):=Cq (ns:=ns) (a:=a+40) (rows:=lq W s) l n (by rw[lq,zD,zR];lia);have lm:J.length<=1000:=by rw[fS y,mZ,zD,zR];lia
 have ly:A.length<=1000:=by rw[fS Y,lq,zD,zR];lia
 have t9:Dl.aR 9 [0,1,5,7] (aj 3 cF<|aa (ae 0)<|aa (f2 aC (ae 1)<|fC<|.int 24)<|aa (dh<|aD 1 [7] (da<|aa (ae 5) ag) (fG 0) (λ_=>↑true)<|dh<|aD 1 [0] (dg<|ae 1) (fG 0) (fB<|f2 bc (f2 aK (ae 0)<|fC<|.int 0)<|ae 1)<|f2 aK (ae 0)<|fC<|.int 1) ag) (st ns a mo m s .non (.own<|W.map aM) (.val D) .non .non .non)=↑(.nx<|st ns a mo m s .non (.val<|.list<|W.map aM) (.val D) (.val<|.list<|J.map ai) .non .non):=by
  refine(eS ?_ rfl rfl ?_).trans rfl
  .simp?[aj,aa,ag,dh,(OU (ρ:=aI<|st ns a mo m s _ (.own _) _ _ _ _) (i5:=5) (i7:=7) L (by lia) rfl rfl),zB,zA];simp! [om]
  rfl
 have B:Dl.aR 10 [0,1,6,7] (aj 3 cF<|aa (ae 0)<|aa (f2 aC (ae 1)<|fC<|.int 40)<|aa (dh<|aD 1 [7] (da<|aa (ae 6) ag) (fG 0) (λ_=>↑true)<|dh<|aD 1 [0] (dg<|ae 1) (fG 0) (fB<|f2 bc (f2 aK (ae 0)<|fC<|.int 1)<|ae 1)<|f2 aK (ae 0)<|fC<|.int 0) ag) (st ns a mo m s .non (.val<|.list<|W.map aM) (.val D) (.val<|.list<|J.map ai) .non .non)=↑(.nx<|st ns a mo m s .non (.val<|.list<|W.map aM) (.val D) (.val<|.list<|J.map ai) (.val<|.list<|A.map ai) .non):=by
  refine(eS (ρ':=st ns a mo m s .non (.val<|.list<|W.map aM) (.val D) (.val<|.list<|J.map ai) .non .non) (d:=.list<|A.map ai) ?_ rfl ?_ ?_).trans rfl
  .simp?[aj,aa,ag,dh,(Pf (ρ:=aI<|st ns a mo m s _ (.val _) _ _ _ _) (i5:=6) (i7:=7) L (by lia) rfl rfl),zB,zA];simp! [oy]
  .rfl
  .simp?[st,bx,aI,zI,yT];rfl
 have t:Dl.aR 11 [0,1,8,9] (bT gO<|aa (dh<|aD 2 [0,1] (cz<|aa (ae 9) ag) (my 0 1) (λ_=>↑true)<|Ri 56) ag) (st ns a mo m s .non (.val<|.list<|W.map aM) (.val D) (.val<|.list<|J.map ai) (.val<|.list<|A.map ai) .non)=↑(.nx<|st ns a mo m s .non (.val<|.list<|W.map aM) (.val D) (.val<|.list<|J.map ai) (.val<|.list<|A.map ai)<|.val<|.tuple<|(l7 (λk=>dr ns (a+56+k) 4) 0 J).map cE):=by
  refine(eS (Bw l lm rfl rfl rfl) rfl rfl ?_).trans rfl;rfl
 have C:∀G ,Dl.aR 4 [0,1,8,10] (bT gO<|aa (dh<|aD 2 _ (cz<|aa (ae 10) ag) _ _<|Ri 60) ag) (st ns a mo m s .non (.val<|.list<|W.map aM) (.val D) (.val<|.list<|J.map ai) (.val _)<|.val G)=↑_:=λG=>by
  refine(eS (Bw l ly rfl rfl rfl) rfl rfl ?_).trans rfl;rfl
 refine{_,_,W,?_,NX (f:=λk=>dr ns (a+56+k) 4) (g:=λk=>dr ns (a+60+k) 4) m1.1 (by lia) S.1 (by lia) (λk=>?_) (λk=>?_) y Y wr I.ris<|by lia,by rw[jm,fS y,mZ,zD,zR];lia,by rw[jm,fS Y,lq,zD,zR];lia,λw hw=>(by let(j,_,_,_,_,_,z):=I.mem w hw;lia),λp P=>?_,λp P=>?_,I.lem}
 .unfold Ri at t C;have tA:∀g,iH (fy (fB<|f2 yc (ae 2)<|fC<|.int 3)<|fB<|f2 bc (aj 3 ao<|aa (ae 0)<|aa (f2 aC (ae 1)<|fC<|.int 64)<|aa (fC<|.int 4) ag)<|fC<|.int 0) g fI [.val<|gH ns,.val<|.int a,.val<|.int mo,.non,.non,.non,.non,.non,.non,.non,.non,.non]=↑(.nx [.val<|gH ns,.val<|.int a,.val<|.int mo,.non,.non,.non,.non,.non,.non,.non,.non,.non]):=λg=>by
   by_cases c1:3<mo
   .have c2:¬dr ns _ 4=0:=λz=>c {c1,z};simp! [cN,E,c1,c2,bf,wI,jN,mQ,yN]
   .simp! [cN,c1,wI,mQ,yN]
  apply bb;show gW [.val _,.val _,.val _,.non,.non,.non,.non,.non,.non,.non,.non,.non]=_;rw[gW,au<|tA _,au t5,au t6,au t7,au F,au t9,au B,au t,au<|C _];rfl
 .have q:=d9 (a+56+k) 4 l (by decide);exact{q.2.1,by lia}
 .have q:=d9 (a+60+k) 4 l (by decide);exact{q.2.1,by lia}
 .let(i,o):=List.getElem?_of_mem P;let(r,_,rfl):=jb _ o;have q:=d9 (a+56+(0+i:Nat)) 4 l (by decide);lia
 .let(i,o):=List.getElem?_of_mem P;let(r,_,rfl):=jb _ o;have q:=d9 (a+60+(0+i:Nat)) 4 l (by decide);lia
def BS{ns:Γ Int}{a mo:Int}(l:ns.length<=63)(H:0<=mo):∃G T W,dS [gH ns,.int a,.int mo]=↑(aW G T W)/\Wd G T W/\Y4 mo G T W:=by
 by_cases c:3<mo/\dr ns (a+64) 4=0
 .exact AC l c.1 c.2
 .exact AD l H c
def Rh(h:Jk W):(W.map λw=>[w.1,w.2.1]).Pairwise λa b=>Dl.lexLt a b=true:=List.pairwise_map.mpr<|h.imp ZI
def Lq(h:Jk W):(W.map λw=>[w.1,w.2.1]).Nodup:=(Rh h).imp λ{a b}H e=>by
 rw[e,ix]at H
 grind
def Lr(h:Jk W)(n:m.Nodup)(H:∀r,r∈W.map (λw=>[w.1,w.2.1])↔r∈m):W.map (λw=>[w.1,w.2.1])=v7 m:=
 K2 ((List.perm_ext_iff_of_nodup (Lq h) n).mpr H) ((Rh h).imp WU)
def Wd.wok(h:Wd G T W):Yw (aW G T W)=true:=by
 have u:(W.map aM).map ir=W.map λw=>[w.1,w.2.1]:=by rw[zM];rfl
 have g:∀i j:Int,[i,j]∈W.map (λw=>[w.1,w.2.1])↔[i,j]∈pE 0 (G.map cE):=λi j=>by
  rw[tj];constructor
  .intro M;let(w,hw,e):=List.mem_map.mp M;simp?[kO,and_true]at e;have R:=(h.wr w hw).1;obtain⟨p,H⟩:∃p,G[i.toNat]?=↑p:={G[i.toNat]'(by lia),zK<|by lia}
   refine{i.toNat,cE p,by rw[zO,H];rfl,by lia,?_};rw[ie,(h.gl _ p H).mem_iff,Ab,show((i.toNat:Nat):Int)=i by lia];exact M
  .rintro⟨m,p,H,rfl,J⟩;rw[zO]at H;let(d,P,rfl):=Option.map_eq_some_iff.mp H;rw[ie,(h.gl m d P).mem_iff,Ab]at J
   rwa [jA]
 have t:∀i j:Int,[i,j]∈W.map (λw=>[w.1,w.2.1])↔[j,i]∈pE 0 (T.map cE):=λi j=>by
  rw[tj];constructor
  .intro M;let(w,hw,e):=List.mem_map.mp M;simp?[kO,and_true]at e;have R:=(h.wr w hw).2.1;obtain⟨p,H⟩:∃p,T[j.toNat]?=↑p:={T[j.toNat]'(by lia),zK<|by lia}
   refine{j.toNat,cE p,by rw[zO,H];rfl,by lia,?_};rw[ie,(h.tl _ p H).mem_iff,Ao,show((j.toNat:Nat):Int)=j by lia];exact M
  .rintro⟨m,p,H,rfl,J⟩;rw[zO]at H;let(d,P,rfl):=Option.map_eq_some_iff.mp H;rw[ie,(h.tl m d P).mem_iff,Ao]at J
   rwa [jA]
 have o:∀{r:Γ Int},r∈W.map (λw=>[w.1,w.2.1])->∃i j,r=[i,j]:=λR=>by
  let(w,_,rfl):=List.mem_map.mp R;exact{_,_,rfl}
 have n:∀(L:Γ Pl),(∀p∈L,p.2.Nodup)->(pE 0<|L.map cE).Nodup:=λL q=>wU λp H=>by
  let(d,P,rfl):=List.mem_map.mp H;rw[ie];exact q d P
 have f:W.map (λw=>[w.1,w.2.1])=v7 (pE 0<|G.map cE):=Lr h.wp (n G λp H=>by
   let(i,I,e):=qM H;exact(h.gl i p<|by rw[zK I,e]).nodup_iff.mpr<|pO h.wp i) λr=>⟨λR=>by
   let(i,j,rfl):=o R;exact(g i j).mp R,λR=>by
   let(i,j,rfl):=mM r R;exact(g i j).mpr R⟩
 have k:W.map (λw=>[w.1,w.2.1])=v7 ((pE 0<|T.map cE).map List.reverse):=Lr h.wp (by
   exact List.pairwise_map.mpr (List.Pairwise.imp (λ{a b}E e=>E<|List.reverse_inj.mp e) (n T λp H=>by
    let(i,I,e):=qM H;exact(h.tl i p<|by rw[zK I,e]).nodup_iff.mpr<|rz h.wp i))) λr=>⟨λR=>by
   let(i,j,rfl):=o R;exact List.mem_map.mpr {[j,i],(t i j).mp R,rfl},λR=>by
   let(y,c,rfl):=List.mem_map.mp R;let(i,j,rfl):=mM y c;exact(t j i).mpr c⟩
 have hw:(W.map aM).all (lF G.length T.length)=true:=by
  rw[xF];intro x X;let(w,hw,rfl):=List.mem_map.mp X;exact GR<|h.wr w hw
 have s:∀{L:Γ Pl},1<=L.length->L.length<=4->qa (.tuple<|L.map cE)=true:=λ{L}a b=>by
  simp?[qa,long,zD,zF,zJ];lia
 have l:long 3 3 (aW G T W)=true:=rfl;have v:=h.gok;have ht:=h.tok;unfold Yw C5;rw[l,jI];simp?[aW,dH,vY,vZ,u,<-f,<-k,jN,Bool.and_true,ku,s h.g1 h.g4,s h.t1 h.t4,zD,v,ht,hw,UZ]
def sI(b:θ):Int:=if b then 1 else 0
def bh(b:θ)(w:Wy):Int:=if b then w.2.1 else w.1
def cm(b:θ)(w:Wy):Int:=bh (!b) w
def bL(b:θ)(G T:Γ Pl):Γ Pl:=if b then T else G
def mF(b:θ)(G T:Γ Pl)(W:Γ Wy):aK (aW G T W) (.int<|sI b)=↑(.tuple<|(bL b G T).map cE):=by cases b<;>rfl
def sD(G T:Γ Pl)(W:Γ Wy):aK (aW G T W) (.int 2)=↑(.tuple<|W.map aM):=rfl
def ke(b:θ)(w:Wy):aK (aM w) (.int<|sI b)=↑(.int<|bh b w):=by cases b<;>rfl
def Gp(b:θ)(w:Wy):aK (aM w) (.int<|1-sI b)=↑(.int<|cm b w):=by cases b<;>rfl
def Qg(w:Wy):aK (aM w) (.int 2)=↑(.int w.2.2):=rfl
def OH(p:Pl):aK (cE p) (.int 1)=↑(ai p.2):=rfl
def DN(h:ds[i]?=↑d):aK (.tuple ds) (.int (i:Nat))=↑d:=by
 exact As h
def SF(h:ds[i]?=↑d):aK (.list ds) (.int (i:Nat))=↑d:=by
 exact As h
def iW{l:Γ α}(h:l[i]?=↑x):aK (.tuple<|l.map f) (.int (i:Nat))=↑(f x):=DN (by rw[zO,h];rfl)
def y0{l:Γ α}(h:l[i]?=↑x):aK (.list<|l.map f) (.int (i:Nat))=↑(f x):=SF (by rw[zO,h];rfl)
def X6(b:θ)(W:Γ Wy)(p:Int):Γ Int:=(W.filter λw=>decide (bh b w=p)).map<|cm b
def Wd.lik{G T:Γ Pl}{W:Γ Wy}(h:Wd G T W){b:θ}{i:Nat}{p:Pl}(e:(bL b G T)[i]?=↑p):p.2.Perm (X6 b W i):=by
 cases b
 .exact h.gl i p e
 .exact h.tl i p e
def Wd.nod(h:Wd G T W)(b:θ)(i:Int):(X6 b W i).Nodup:=by
 cases b
 .exact pO h.wp i
 .exact rz h.wp i
def uR{tt:Dl.Env->Δ θ}{te:Dl.Env->Δ D}{r:Γ (Δ D)}{p:Nat->D->θ}{h:Nat->D->D}:∀{ds:Γ D}{k:Nat},
  (∀i d,ds[i]?=↑d->tt (↑(.int ((k+i:Nat):Int))::↑d::r)=↑(p (k+i) d)/\(p (k+i) d=true->te (↑(.int ((k+i:Nat):Int))::↑d::r)=↑(h (k+i) d))) ->
  fJ (my 0 1) tt te (none::none::r) (cI k ds)=↑(((ds.zipIdx k).filter λq=>p q.2 q.1).map λq=>h q.2 q.1)
 |[],k,_=>rfl
 |d::ds,k,c=>by
  let(a,b):=c 0 d rfl;have I:=uR (ds:=ds) (k:=k+1) λi x X=>by
   have:=c (i+1) x (by simpa using X);rw[show k+1+i=k+(i+1)by lia];exact this
  have g:my 0 1 (none::none::r) (.tuple [.int ((k:Nat):Int),d])=↑(↑(.int ((k:Nat):Int))::↑d::r):=by
   simp?[my,isFree,xP,yX,qE,Option.isNone_none,jM,xG,yU,yV]
  rw[cI,fJ,g,List.zipIdx_cons];simp?[Nat.add_zero]at a b;simp?[zA,a];cases H:p k d with
  |true=>simp[b H,I,H]
  |false=>simp[I,H]
def HW{fi:Dl.Env->Δ _}{tt:Dl.Env->Δ θ}{te:Dl.Env->Δ D}{ρ:Dl.Env}{ds:Γ D}{p:Nat->D->θ}{h:Nat->D->D}(H:fi ρ=↑(cI 0 ds))(l:ds.length<=1000)
  (a:∀i d,ds[i]?=↑d->tt (↑(.int (i:Nat))::↑d::cs.map λj=>(ρ[j]?).getD none)=↑(p i d)/\(p i d=true->te (↑(.int i)::↑d::cs.map λj=>(ρ[j]?).getD none)=↑(h i d))) :
  aD 2 cs fi (my 0 1) tt te ρ=↑((ds.zipIdx.filter λq=>p q.2 q.1).map λq=>h q.2 q.1):=by
 have:=uR (k:=0) (by simpa using a);simp[aD,H,zA,iC,List.replicate,xE,xN,this];apply cU;rw[zD];apply yD<|xO _ _;rw[List.length_zipIdx];lia
def ni(f:α->Int):∀{l m:Γ α},l.Perm m->(l.Pairwise λa b=>f a<=f b)->(m.Pairwise λa b=>f a<f b)->l=m
 |l,[],p,_,_=>p.eq_nil
 |[],x::m,p,_,_=>absurd p.symm.eq_nil (by simp)
 |y::l,x::m,p,H,c=>by
  rw[List.pairwise_cons]at H c;have e:y=x:=by
   have X:x∈y::l:=p.mem_iff.mpr zE;rcases List.mem_cons.mp X with z|X
   .exact z.symm
   .have Y:y∈x::m:=p.mem_iff.mp zE;rcases List.mem_cons.mp Y with z|Y
    .exact z
    .have:=H.1 x X;have:=c.1 y Y;lia
  subst e;rw[ni f ((List.perm_cons y).mp p) H.2 c.2]
def D4(z:Nat->Int)(l:Γ α)(d:α)(f:α->Int)(h:∀i,i<l.length->z i=f (l.getD i d)):(CZ z l d).Pairwise λa b=>f a<=f b:=by
 unfold CZ;split
 .rename_i L
  match l,L with
  |[],_=>simp
  |[a],_=>simp
 .let(p,s):=SP.kg (n:=l.length) (by lia);rw[jB]at s ⊢;refine s.imp_of_mem λ{i j}I J H=>?_;rw[<-h i (by have:=p.mem_iff.mp I;simpa using this),<-h j (by have:=p.mem_iff.mp J;simpa using this)];exact H
def aV(W:Γ Wy)(i:Nat):Wy:=W.getD i (0,0,0)
def nP(hk:k<W.length):W[k]=aV W k:=by simp[aV,hk]
def sQ(hk:k<W.length):W[k]?=↑(aV W k):=by rw[zK hk,nP hk]
def own(b:θ)(W:Γ Wy)(p:Int):Γ Nat:=(List.range W.length).filter λi=>decide (bh b (aV W i)=p)
def pb(b:θ)(W:Γ Wy)(p o:Int):Nat:=W.findIdx λw=>decide (bh b w=p)&&decide (cm b w=o)
def lC(b:θ)(W:Γ Wy)(p:Int)(L:Γ Int):Γ Nat:=L.map<|pb b W p
def gc:i∈own b W p↔i<W.length/\bh b (aV W i)=p:=by simp[own]
def map_range(d:α)(f:α->β)(l:Γ α):(List.range l.length).map (λi=>f<|l.getD i d)=l.map f:=by
 apply jE
 .simp
 .intro i a H;have:=by simpa using H
  simp[this]
def Au(d:α)(q:α->θ):∀(l:Γ α),((List.range l.length).filter λi=>q<|l.getD i d).map (λi=>l.getD i d)=l.filter q:=by
 intro l;have e:l=(List.range l.length).map λi=>l.getD i d:=by
  have:=map_range d (λx=>x) l;simp_all
 conv=>rhs;rw[e]
 rw[kA];rfl
def sH(b:θ)(W:Γ Wy)(p:Int):(own b W p).map (λi=>cm b<|aV W i)=X6 b W p:=by
 unfold own X6 aV;rw[<-Au _ _ W,zM];rfl
def EO(h:Jk W)(hi:i<W.length)(H:j<W.length)(a:(aV W i).1=(aV W j).1)(b:(aV W i).2.1=(aV W j).2.1):i=j:=by
 have e:∀k,k<W.length->W[k]?=↑(aV W k):=λk hk=>by simp[aV,hk]
 rcases Nat.lt_trichotomy i j with z|z|z
 .have:=List.pairwise_iff_getElem.mp h i j hi H z
  grind
 .lia
 .have:=List.pairwise_iff_getElem.mp h j i H hi z
  grind
def u6(h:Jk W)(hi:i<W.length)(J:j<W.length)(H:bh b (aV W i)=bh b (aV W j))(a:cm b (aV W i)=cm b (aV W j)):i=j:=by
 cases b
 .exact EO h hi J H a
 .exact EO h hi J a H
def yx(h:Jk W)(hi:i∈own b W p):pb b W p (cm b<|aV W i)=i:=by
 let(l,e):=gc.mp hi;have hw:W[i]=aV W i:=by simp[aV,l]
 unfold pb;have t:W.findIdx (λw=>decide (bh b w=p)&&decide (cm b w=cm b (aV W i)))<W.length:=by
  apply kH;exact{W[i],xZ _,by rw[hw];simp[e]}
 have q:=vX (w:=t);rw[zF,zJ,zJ,nP t]at q;exact u6 h t l (by rw[q.1,e]) q.2
def iy{G T:Γ Pl}{W:Γ Wy}(h:Wd G T W){b:θ}{i:Nat}(e:(bL b G T)[i]?=↑p):(lC b W i p.2).Perm (own b W i):=by
 have H:=(h.lik e).map<|pb b W i;rw[<-sH b W i,zM]at H;have E:(own b W i).map (pb b W i ∘ λj=>cm b<|aV W j)=own b W i:=by
  conv=>rhs;rw[<-List.map_id<|own b W i]
  exact yH λj=>yx h.wp
 rwa[E]at H
def ka{G T:Γ Pl}{W:Γ Wy}(h:Wd G T W){b:θ}{i:Nat}{p:Pl}(e:(bL b G T)[i]?=↑p){o:Int}(O:o∈p.2):pb b W i o<W.length/\bh b (aV W<|pb b W i o)=i/\cm b (aV W<|pb b W i o)=o:=by
 have m:=(h.lik e).mem_iff.mp O;rw[<-sH b W i]at m;let(j,H,rfl):=List.mem_map.mp m;rw[yx h.wp H];let(a,c):=gc.mp H;exact{a,c,rfl}
def kD(b:θ)(W:Γ Wy)(L:Γ Int)(d:D):Int:=(L.findIdx λo=>decide (o=cm b (aV W (nj d).toNat)):Nat)
def mP:∀{L:Γ Int}{x:Int},x∈L->Bt x L=↑(L.findIdx λo=>decide (o=x))
 |[],x,h=>by grind
 |o::L,x,h=>by
  unfold Bt;by_cases e:o=x
  .simp[e,kY]
  .rw[mP<|(List.mem_cons.mp h).resolve_left λz=>e z.symm];simp[kY,e]
def MH{G T:Γ Pl}{W:Γ Wy}(h:Wd G T W){b:θ}{i:Nat}{p:Pl}(e:(bL b G T)[i]?=↑p)(z:Nat->Int)(Z:∀j,j<(own b W i).length->z j=kD b W p.2 (((own b W i).map λn=>PyData.int (n:Nat)).getD j .none)) :
  CZ z ((own b W i).map λn=>PyData.int (n:Nat)) .none=(lC b W i p.2).map λn=>PyData.int (n:Nat):=by
 apply ni _ ((nZ _ _ _).trans<|(iy h e).symm.map _)<|D4 z _ _ _ λj H=>Z j (by simpa using H);rw[lC,zM,jB];have y:∀k(hk:k<p.2.length),kD b W _ (.int<|pb b W i p.2[k])=k:=λk hk=>by
  let(_,_,E):=ka h e<|xZ hk;simp[kD,nj,yG,E]
  congr 1
  rw[List.findIdx_eq<|by omega];refine{by simp,λj H=>?_};have:=List.pairwise_iff_getElem.mp ((h.lik e).nodup_iff.mpr<|h.nod b i) j k (by lia) hk H;simpa using this
 refine List.pairwise_iff_getElem.mpr λj k H hk K=>?_;show kD b W _ (.int _)<kD b W _ (.int _);rw[y j H,y k hk];lia
abbrev nD(n:Nat):D:=.int ((n:Nat):Int)
def wZ:∀{ds:Γ D},(∀d∈ds,te (ρ.set 0<|↑d)=↑(h d))->r9 te ρ ds=↑(ds.map h)
 |[],_=>rfl
 |d::ds,H=>by
  rw[r9,H d zE,zA,wZ λx X=>H x<|zC _ X];rfl
def zp(b:θ)(W:Γ Wy)(p:Int):(own b W p).length<=W.length:=by
 apply yD<|xO _ _;simp
def D7(b:θ)(W:Γ Wy)(p:Int):(((W.map aM).zipIdx.filter λq=>decide (bh b (aV W q.2)=p)).map λq=>nD q.2)=(own b W p).map nD:=by
 have e:(W.map aM).zipIdx=(List.range W.length).map λi=>(aM<|aV W i,i):=by
  apply jE
  .simp
  .intro i a H;have:=by simpa using H
   simp[nP this]
 rw[e,kA,zM];rfl
def xt(h:Wd G T W)(e:(bL b G T)[i]?=↑p):ju [aW G T W,.int<|sI b,nD i]=↑(.list<|(lC b W i p.2).map nD):=by
 have hw:=h.wl;have E:aK (.tuple<|(bL b G T).map cE) (nD i)=↑(cE p):=iW e;have L:=zp b W i;have t:Dl.aR 3 [0] (f2 aK (ae 0)<|fC<|.int 2) [.val<|aW G T W,.val<|.int<|sI b,.val<|nD i,.non,.non,.non]=↑(.nx [.val<|aW G T W,.val<|.int<|sI b,.val<|nD i,.val<|.tuple<|W.map aM,.non,.non]):=
  eS (d:=.tuple<|W.map aM) rfl rfl rfl rfl
 have k:Dl.aR 4 [0,1,2] (f2 aK (f2 aK (f2 aK (ae 0)<|ae 1)<|ae 2)<|fC<|.int 1) [.val<|aW G T W,.val<|.int<|sI b,.val<|nD i,.val<|.tuple<|W.map aM,.non,.non]=↑(.nx [.val<|aW G T W,.val<|.int<|sI b,.val<|nD i,.val<|.tuple<|W.map aM,.val<|ai p.2,.non]):=by
  refine eS (d:=ai p.2) ?_ rfl rfl rfl;rw[jn (a:=cE p) (b:=.int 1) ?_ rfl,OH];rw[jn (a:=.tuple<|(bL b G T).map cE) (b:=nD i) ?_ rfl,E];rw[jn (a:=aW G T W) (b:=.int<|sI b) rfl rfl,mF]
 have c5:aD 2 [1,2] (cz<|aa (ae 3) ag) (my 0 1) (fB<|f2 bc (f2 aK (ae 1)<|ae 2)<|ae 3) (ae 0) [↑(aW G T W),↑(.int<|sI b),↑(nD i),↑(.tuple<|W.map aM),↑(ai p.2),none]=↑((own b W i).map nD):=by
  rw[HW (ds:=W.map aM) (p:=λj _=>decide (bh b (aV W j)=i)) (h:=λj _=>nD j) rfl (by rw[zD];lia) λj d D=>?_,D7];rw[zO]at D;let(w,H,rfl):=Dl.af D;have J:j<W.length:=(List.getElem?_eq_some_iff.mp H).1;rw[sQ J]at H;cases H;refine{?_,λ_=>rfl};show fB (f2 bc (f2 aK (ae 1)<|ae 2)<|ae 3) [↑(nD j),↑(aM<|aV W j),↑(.int<|sI b),↑(nD i)]=_;simp?[fB];rw[jn (a:=.int<|bh b<|aV W j) (b:=nD i) (by rw[jn (a:=aM<|aV W j) (b:=.int<|sI b) rfl rfl,ke]) rfl,bf];rfl
 have n:bH 5 [1,2,3] (aD 2 [1,2] (cz<|aa (ae 3) ag) (my 0 1) (fB<|f2 bc (f2 aK (ae 1)<|ae 2)<|ae 3)<|ae 0) [.val<|aW G T W,.val<|.int<|sI b,.val<|nD i,.val<|.tuple<|W.map aM,.val<|ai p.2,.non]=↑(.nx [.val<|aW G T W,.val<|.int<|sI b,.val<|nD i,.val<|.tuple<|W.map aM,.val<|ai p.2,.own<|(own b W i).map nD]):=by
  have f:hand [1,2,3] 0 [Slot.val<|aW G T W,.val<|.int<|sI b,.val<|nD i,.val<|.tuple<|W.map aM,.val<|ai p.2,.non]=[Slot.val<|aW G T W,.val<|.int<|sI b,.val<|nD i,.val<|.tuple<|W.map aM,.val<|ai p.2,.non]:=rfl;simp?[bH,f,bx,zI,yT,Slot.frz,c5,zB,yV,yU]
 have hk:r9 (f2 nV (ae 3)<|f2 aK (f2 aK (ae 2)<|ae 0)<|f2 Dl.eK (fC<|.int 1)<|ae 1) [none,↑(.int<|sI b),↑(.tuple<|W.map aM),↑(ai p.2)] ((own b W i).map nD)=↑(((own b W i).map nD).map λd=>.int<|kD b W p.2 d):=by
  refine wZ λd D=>?_;let(j,J,rfl):=List.mem_map.mp D;let(l,g):=gc.mp J;show f2 nV (ae 3) (f2 aK (f2 aK (ae 2)<|ae 0)<|f2 Dl.eK (fC<|.int 1)<|ae 1) [↑(nD j),↑(.int<|sI b),↑(.tuple<|W.map aM),↑(ai p.2)]=_;have c:aK (.tuple<|W.map aM) (nD j)=↑(aM<|aV W j):=iW<|sQ l;rw[jn (a:=ai p.2) (b:=.int<|cm b<|aV W j) rfl ?_]
  .have m:cm b (aV W j)∈p.2:=(h.lik e).mem_iff.mpr (by rw[<-sH];exact List.mem_map.mpr {j,J,rfl});simp?[nV,ai,bO,zA,mP m,zB,kD,nj,yG]
   all_goals first|rfl|(congr 3;funext o;congr)
  .rw[jn (a:=aM<|aV W j) (b:=.int<|1-sI b) ?_ ?_,Gp]
   .rw[jn (a:=.tuple<|W.map aM) (b:=nD j) rfl rfl,c]
   .rw[jn (a:=.int 1) (b:=.int<|sI b) rfl rfl,eZ]
 have I:intsOf (((own b W i).map nD).map λd=>PyData.int<|kD b W p.2 d)=↑(((own b W i).map nD).map<|kD b W p.2):=by
  rw[show(((own b W i).map nD).map λd=>PyData.int<|kD b W p.2 d)=(((own b W i).map nD).map<|kD b W p.2).map PyData.int by simp?[zM];rfl,bO]
 have q:bg (dh<|qy [1,3,4] (ae 5)<|f2 nV (ae 3)<|f2 aK (f2 aK (ae 2)<|ae 0)<|f2 Dl.eK (fC<|.int 1)<|ae 1) [.val<|aW G T W,.val<|.int<|sI b,.val<|nD i,.val<|.tuple<|W.map aM,.val<|ai p.2,.own<|(own b W i).map nD]=↑(.rt<|.list<|(lC b W i p.2).map nD):=by
  have s:qy [1,3,4] (ae 5) (f2 nV (ae 3)<|f2 aK (f2 aK (ae 2)<|ae 0)<|f2 Dl.eK (fC<|.int 1)<|ae 1) [↑(aW G T W),↑(.int<|sI b),↑(nD i),↑(.tuple<|W.map aM),↑(ai p.2),↑(.list<|(own b W i).map nD)]=↑((lC b W i p.2).map nD):=by
   unfold qy;show(r9 _ [none,↑(.int<|sI b),↑(.tuple<|W.map aM),↑(ai p.2)]<|(own b W i).map nD).bind _=_;rw[hk,zA,I,zA,yK (by rw[zD];lia),MH h e _ λj J=>?_];simp[J]
  simp?[bg,aI,zI,yT,zq,AL,dh,s,zB]
 refine bb ?_;show pR [.val<|aW G T W,.val<|.int<|sI b,.val<|nD i,.non,.non,.non]=_;unfold pR;rw[au t,au k,au n,q]
local macro_rules|`(tactic| dsimp! [$ts,*])=>`(tactic| simp only[ae,fC,f1,f2,aa,ag,aj,bT,o6,dg,iw,dh,fB,gB,cD,fy,pU,cz,aI,bx,zq,AL,F3,EK,Fc,F6,zI,yT,xP,yX,zA,zB,qE,zL,xJ,Nat.reduceAdd,jA,reduceIte,yV,yU,$ts,*])
def eF(R:aq->Prop)(f:α->D)(q:α->θ)(o:α->D):∀{l:Γ α}{ρ:aq},
  (∀ρ x,x∈l->R ρ->∃a,tgt ρ (f x)=↑a/\(q x=true->gb a=↑(.rt<|o x))/\(q x=false->∃b,gb a=↑(.nx b)/\R b))->R ρ ->
  (∀x,l.find? q=↑x->gL tgt gb (l.map f) ρ=↑(.rt<|o x))/\(l.find? q=none->∃ρ',gL tgt gb (l.map f) ρ=↑(.nx ρ')/\R ρ')
 |[],ρ,_,h=>{λx X=>(by cases X),λ_=>{ρ,rfl,h}}
 |x::l,ρ,c,h=>by
  let(a,e,E,d):=c ρ x zE h;rw[zI,gL,e,zA];cases H:q x with
  |true =>
   rw[List.find?_cons_of_pos<|by simpa using H,E H];exact{λy Y=>(by cases Y;rfl),λn=>(by cases n)}
  |false =>
   let(b,g,i):=d H;rw[kG<|by simp[H],g];exact eF R f q o (λρ x X=>c ρ x<|zC _ X) i
def dW(h:gL tgt gb ds I=o)(hi:fi (bx I)=↑ds)(H:hand U 0 ρ=I):gX U fi tgt gb ρ=o:=by
 simp[gX,H,hi,zA,h]
def Aj(a:hand I 0 ρ=ρ')(H:f (bx ρ')=↑ds):bH i I f ρ=↑(.nx<|ρ'.set i<|.own ds):=by
 simp[bH,a,H,zB]
def qk(H:f (bx ρ)=↑ds)(a:hand I 0 ρ=ρ):bH i I f ρ=↑(.nx<|ρ.set i<|.own ds):=Aj a H
def uG(H:hand I 0 ρ=ρ')(A:f (aI ρ)=↑d)(F:f (bx ρ')=↑d)(s:Dl.ki d=false)(r:fH d=false\/ρ'=ρ:=by first|exact .inr rfl|exact .inl rfl):Dl.aR i I f ρ=↑(.nx<|ρ'.set i<|.val d):=by
 rcases r with r|r
 .simp[Dl.aR,A,zA,s,yN,qL,H,F,zB,r]
 .subst r;simp[Dl.aR,A,zA,s,yN,qL,H,F,zB,ite_self]
def call_of(h:m ds=↑d)(f:fs ρ=↑ds)(H:ds.length=n):aj n m fs ρ=↑d:=by
 unfold aj;rw[f,zA,yK H,h]
def cons_of(h:f ρ=↑d)(s:fs ρ=↑ds):aa f fs ρ=↑(d::ds):=by
 unfold aa;rw[h,s];rfl
def ba(H:f (aI ρ)=↑d):bg f ρ=↑(.rt d):=by
 simp[bg,H,zB]
def l9(H:f (aI ρ)=↑d):lG f ρ=↑(.nx ρ):=by
 simp[lG,H,zB]
def bB(h:t (aI ρ)=↑false):iH t g fI ρ=↑(.nx ρ):=by
 simp[iH,h,fI]
def br(h:t (aI ρ)=↑true):iH t g g2 ρ=g ρ:=by
 simp[iH,h]
def fR(h:g1 ρ=↑(.rt d)):az g1 g2 ρ=↑(.rt d):=by
 simp[az,h,zA]
def lp(c:S->θ)(st:S->S):Nat->S->S
 |0,s=>s
 |n+1,s=>if c s=true then lp c st n (st s)else s
def jz{off:Γ Int}(h:i<off.length):aK (ai off) (nD i)=↑(.int<|off.getD i 0):=iW (by simp[h])
def Dy(h:i<W.length):aK (.tuple<|W.map aM) (nD i)=↑(aM<|aV W i):=iW<|sQ h
def FO(l:Γ Int)(k:Nat)(v:Int):(l.map PyData.int).set k (.int v)=(l.set k v).map PyData.int:=by simp
def Qa(l:Γ D):bX [.tuple l]=↑(nD l.length):=rfl
def FY(l:Γ Int):bX [ai l]=↑(nD l.length):=by
 show some _=_;simp
def Hs(h:n<=1000):nC [nD n]=↑((List.range n).map nD):=by
 rw[A5<|sT h,yG]
def uK(h:fs ρ=↑[nD n])(H:n<=1000):da fs ρ=↑((List.range n).map nD):=by
 rw[da,h,zA,Hs H]
def sub_int(i j:Int):Dl.eK (.int i) (.int j)=↑(.int<|i-j):=eZ i j
def K3(H:Cj k=true)(a:ds.length*k.toNat<=sizeLine):Mb ds (.int k)=↑(List.replicate k.toNat ds).flatten:=by
 simp?[Mb];rw[yK<|And.intro H a]
def Wi:∀n,(List.replicate n [PyData.int 0]).flatten=(List.replicate n 0).map PyData.int
 |0=>rfl
 |n+1=>by simp
def cV(W:Γ Wy)(off:Γ Int)(left:Int)(i:Nat):Int:=min (min (off.getD i 0) (aV W i).2.2) left
def cSt(W:Γ Wy)(off:Γ Int)(s:Int×Γ Int)(i:Nat):Int×Γ Int:=(s.1-cV W off s.1 i,s.2.set i<|cV W off s.1 i)
def chs(W:Γ Wy)(off:Γ Int)(amt:Int)(i:Γ Nat):Γ Int:=(i.foldl (cSt W off) (amt,List.replicate W.length 0)).2
def gP(b:θ)(G T:Γ Pl)(i:Nat):Pl:=(bL b G T).getD i (0,[])
def aSt(b:θ)(G T:Γ Pl)(W:Γ Wy)(off s:Γ Int)(i:Nat):Γ Int:=List.zipWith (·+·) s<|chs W off (gP b G T i).1<|lC b W i (gP b G T i).2
def TC(b:θ)(G T:Γ Pl)(W:Γ Wy)(off:Γ Int):Γ Int:=(List.range (bL b G T).length).foldl (aSt b G T W off)<|List.replicate W.length 0
def pV(h:i<(bL b G T).length):(bL b G T)[i]?=↑(gP b G T i):=by simp[gP,h]
def Wd.pl(h:Wd G T W)(b:θ):(bL b G T).length<=4:=by
 cases b
 .exact h.g4
 .exact h.t4
def ow(h:(xs++ys).length<=4000):Dl.aC (.tuple xs) (.tuple ys)=↑(.tuple<|xs++ys):=by
 simp?[Dl.aC,AM,P5,cU h,zB,Option.none_or,Option.some_or]
def Et(h:f ρ=↑d):aX (aa f ag) ρ=↑(.tuple [d]):=by
 simp[aX,aa,ag,h,zA,zB];rfl
def ak(h:g a b=↑c)(H:fa ρ=↑a)(B:fb ρ=↑b):f2 g fa fb ρ=↑c:=by rw[jn H B,h]
def Kd(h:f ρ=↑(.tuple ds))(H:g ρ=↑(nD k)):fQ cY f gK (rN g) ρ=↑(.tuple<|ds.take k):=by
 simp[fQ,h,gK,rN,H,zA,gI,zB,cY,II]
def LH(h:f ρ=↑(.tuple ds))(H:g ρ=↑(nD k)):fQ cY f (rN g) gK ρ=↑(.tuple<|ds.drop k):=by
 simp[fQ,h,gK,rN,H,zA,gI,zB,cY,Cs]
def sC(c:Γ Int)(i:Nat)(v:Int)(h:i<c.length):((c.map PyData.int).take i++[PyData.int v])++(c.map PyData.int).drop (i+1)=(c.set i v).map PyData.int:=by
 rw[List.set_eq_take_append_cons_drop,yK h];simp
def nD1(i:Nat):Dl.aC (nD i) (.int 1)=↑(nD<|i+1):=by
 rfl
def ub(h:i<c.length)(l:c.length<=1000):fV [ai c,nD i,.int v]=↑(ai<|c.set i v):=by
 apply bb;apply ba;refine ak ?_ (ak (ow ?_) (Kd rfl rfl)<|Et rfl)<|LH rfl (ak (nD1 i) rfl rfl)
 .rw[ow,sC c i v h]
  .rfl
  .rw[sC c i v h];simp;lia
 grind
def UB(W:Γ Wy):Γ Int:=W.map λw=>w.2.2
def keI(G T:Γ Pl)(W:Γ Wy)(c:Γ Int):Γ Int:=TC true G T W<|TC false G T W c
def qR(G T:Γ Pl)(W:Γ Wy)(c:Γ Int)(k:Nat):θ:=decide ((keI G T W c).getD k 0<(TC false G T W c).getD k 0)
def rfI(G T:Γ Pl)(W:Γ Wy)(c:Γ Int):Δ (Nat×Int):=((List.range W.length).find?<|qR G T W c).map λk=>(k,(keI G T W c).getD k 0)
def enum_zip:∀ds k,cI k ds=(ds.zipIdx k).map λq=>.tuple [nD q.2,q.1]
 |[],k=>rfl
 |d::ds,k=>by rw[cI,enum_zip ds _,List.zipIdx_cons];rfl
def BO(l:Γ Int)(k:Nat)(v:Int)(i:Nat):(l.set k v).getD i 0=if k=i/\i<l.length then v else l.getD i 0:=by
 by_cases h:k=i
 .subst h;by_cases H:k<l.length
  .simp[H]
  .simp[H]
 .simp[h]
def Off(off:Γ Int):Prop:=∀i,0<=off.getD i 0
def Z8(W:Γ Wy):Prop:=∀i,0<=(aV W i).2.2
def Wd.lim{G T:Γ Pl}{W:Γ Wy}(h:Wd G T W):Z8 W:=λi=>by
 by_cases H:i<W.length
 .have:=h.wr (aV W i) (by rw[<-nP H];exact xZ H);lia
 .simp?[aV,zG];rw[jJ<|by lia];simp
def Wd.amt{G T:Γ Pl}{W:Γ Wy}(h:Wd G T W)(b:θ)(i:Nat):0<=(gP b G T i).1:=by
 unfold gP;rw[zG];cases e:(bL b G T)[i]? with
 |none=>simp
 |some p =>
  have m:=qA e;cases b
  .exact (h.ga p m).1
  .exact (h.ta p m).1
def L8{l:Γ Int}{i:Nat}(h:l.length<=i):l.getD i 0=0:=by simp[zG,h]
def mea(c:Γ Int):Nat:=(c.map Int.toNat).sum
def uE(a:Γ Int):SeqAt.shaped (ai a)=true:=
 (jx.tup (b:=a.length) (k:=0) (by simp) λx H=>by let(i,_,rfl):=List.mem_map.mp H;apply kb).shaped (by decide)
def B9(a b:Γ Int):PyData.eqv (ai a) (ai b)=decide (a=b):=by
 rw[ai,ai,PyData.eqv,pH]
def aF(h:f ρ=↑(.bool b)):fB f ρ=↑b:=by
 simp[fB,h,zA,gB]
def cL(h:t ρ=↑b):cD t ρ=↑(!b):=by
 simp[cD,h,zB]
def JQ(a b:Γ Int):gq (ai a) (ai b)=↑(.bool<|!decide (a=b)):=by
 simp[gq,RY,uE,jM,xG,B9,zB]
def yv(a:Γ Int):gq (ai a) (ai a)=↑(.bool false):=by rw[JQ];simp
def bS(A:f (aI ρ)=↑d)(F:f (bx ρ)=↑d)(H:hand I 0 ρ=ρ):Dl.aR i I f ρ=↑(.nx<|ρ.set i<|.val d):=by
 cases s:Dl.ki d with
 |true=>exact bM A s
 |false=>exact uG H A F s<|.inr rfl
def nh(h:Wd G T W):eB [aW G T W]=↑.none:=by
 have hw:b9 [aW G T W]=↑(.bool true):=by rw[uD h.fit<|by decide,h.wok]
 have hc:zq5 (aI [.val<|aW G T W])=↑false:=cL<|aF<|call_of hw rfl rfl;have:fZ [.val<|aW G T W]=↑(.nx [.val<|aW G T W]):=by
  unfold fZ;rw[bB hc]
 show(fZ [.val<|aW G T W]).map _=_;rw[this];rfl
def vv(H:a<=i)(c:i<=b):eC [.int i,.int a,.int b]=↑.none:=by
 have hw:bQ [.int i,.int a,.int b]=↑(.bool true):=by rw[eL rfl];simp[whole,H,c]
 have hc:aeb (aI [.val<|.int i,.val<|.int a,.val<|.int b])=↑false:=cL<|aF<|call_of hw rfl rfl;have:dw [.val<|.int i,.val<|.int a,.val<|.int b]=↑(.nx [.val<|.int i,.val<|.int a,.val<|.int b]):=by
  unfold dw;rw[bB hc]
 show(dw [.val<|.int i,.val<|.int a,.val<|.int b]).map _=_;rw[this];rfl
def ui(H:0<=i)(a:i<=n-1):b8 [.int i,.int n]=↑.none:=by
 have:cW [.val<|.int i,.val<|.int n]=↑(.nx [.val<|.int i,.val<|.int n]):=by
  unfold cW;exact l9<|call_of (vv H a) (cons_of rfl (cons_of rfl (cons_of (ak (sub_int n 1) rfl rfl) rfl))) rfl
 show(cW [.val<|.int i,.val<|.int n]).map _=_;rw[this];rfl
abbrev Sp:=Γ (Nat×Int)×Γ Int
def spC(G T:Γ Pl)(W:Γ Wy)(s:Sp):θ:=(rfI G T W s.2).isSome
def spS(G T:Γ Pl)(W:Γ Wy)(s:Sp):Sp:=match rfI G T W s.2 with|some p=>(s.1++[p],s.2.set p.1 p.2)|none=>s
def low(c:Γ Int)(p:Nat×Int):Γ Int:=c.set p.1 p.2
structure SpI(W:List Wy)(s:Sp):Prop where
 len:s.2.length=W.length
 off:Off s.2
 eq:s.2=s.1.foldl low (UB W)
 bd:s.1.length+mea s.2<=mea (UB W)
 mem:∀p∈s.1,p.1<W.length
def fin(G T:Γ Pl)(W:Γ Wy):Sp:=lp (spC G T W) (spS G T W) Rf.turns ([],UB W)
def MM(w:Wy):Wy:=(w.2.1,w.1,w.2.2)
structure Ord(W:List Wy)(π:List Nat):Prop where
 perm:π.Perm (List.range W.length)
 up:π.Pairwise λi j=>(aV W i).2.1<(aV W j).2.1\/((aV W i).2.1=(aV W j).2.1/\(aV W i).1<(aV W j).1)
def mW(b:θ)(W:Γ Wy)(P:Γ Int)(p:Int):Int:=((own b W p).map λi=>P.getD i 0).sum
def pF(L:Γ Int)(x:Int):Nat:=L.findIdx λo=>decide (o=x)
def AQ(b:θ)(G T:Γ Pl)(W:Γ Wy)(P:Γ Int)(k:Nat):θ:=
 decide (mW b W P (bh b<|aV W k)<(gP b G T (bh b<|aV W k).toNat).1) ||
 ((gP b G T (bh b<|aV W k).toNat).2.drop<|pF (gP b G T (bh b<|aV W k).toNat).2 (cm b<|aV W k)+1).any λo=>decide (0<P.getD (pb b W (bh b<|aV W k) o) 0)
def gM(G T:Γ Pl)(W:Γ Wy)(P:Γ Int)(k:Nat):Nat:=
 if P.getD k 0=(aV W k).2.2 then 0 else if AQ false G T W P k=false then 1 else if AQ true G T W P k=false then 2 else 3
def ll(G T:Γ Pl)(W:Γ Wy)(P:Γ Int):Γ Nat:=(List.range W.length).filter λk=>decide (gM G T W P k=3)
def Wd.aaM(h:Wd G T W)(b:θ)(hk:k<W.length):0<=bh b (aV W k)/\(bh b<|aV W k).toNat<(bL b G T).length/\(bh b<|aV W k).toNat=bh b (aV W k):=by
 have:=h.wr (aV W k) (by rw[<-nP hk];simp);cases b
 .simp[bh,bL,yN,qL];lia
 .simp[bh,bL,xG];lia
structure Pn(G T:List Pl)(W:List Wy)(P:List Int):Prop where
 len:P.length=W.length
 bd:∀k,k<W.length->0<=P.getD k 0/\P.getD k 0<=(aV W k).2.2
 am:∀(b:θ)(i:Nat),i<(bL b G T).length->mW b W P i<=(gP b G T i).1
section
variable {off:Γ Int}
def wy(h:∀k,k<W.length->P.getD k 0=Q.getD k 0):mW b W P p=mW b W Q p:=by
 unfold mW
 congr 1
 exact yH λk hk=>h k (gc.mp hk).1
end
def BG(G T:Γ Pl)(W:Γ Wy)(P:Γ Int):θ:=
 ((List.range G.length).all λi=>decide (mW false W P i<=(gP false G T i).1))&&((List.range T.length).all λi=>decide (mW true W P i<=(gP true G T i).1))
def zs(n:Nat):Γ Int:=List.replicate n 0
def si(d:Nat->Int)(G T:Γ Pl)(W:Γ Wy):Nat->Γ Int
 |0=>[]
 |k+1=>if BG G T W ((si d G T W k++[d k])++zs (W.length-(si d G T W k++[d k]).length))=true then si d G T W k++[d k]else si d G T W k++[0]
section
variable {W:Γ Wy}{G T:Γ Pl}{d:Nat->Int}
def je:BG G T W P=true↔∀b i,i<(bL b G T).length->mW b W P i<=(gP b G T i).1:=by
 rw[BG,zF,xF,xF];constructor
 .rintro⟨a,c⟩ b i H;cases b
  .exact yP<|a i<|by simpa [bL]using H
  .exact yP<|c i<|by simpa [bL]using H
 .exactλh=>{λi H=>yA<|h false i<|by simpa [bL]using H,λi H=>yA<|h true i<|by simpa [bL]using H}
def oH:∀k,(si d G T W k).length=k
 |0=>rfl
 |k+1=>by
  unfold si;split<;>simp[oH k]
def Ks(h:∀k,P.getD k 0=0):mW b W P p=0:=by
 unfold mW;have:((own b W p).map _)=(own b W p).map _:=yH λk _=>h k;rw[this];generalize own b W p=l
 induction l with
 |nil=>rfl
 |cons a l i=>simp[i]
def QL(n k:Nat):(zs n).getD k 0=0:=by
 simp[zs,zG,yW];split<;>rfl
def JR(l:Γ Int)(n k:Nat):(l++zs n).getD k 0=l.getD k 0:=by
 by_cases h:k<l.length
 .simp[zG,yR h]
 .have H:l.length<=k:=by lia
  have:=QL n<|k-l.length;simp  at this ⊢;rw[yS H,this];simp[H]
def ZD(l:Γ Int)(k:Nat):(l++[0]).getD k 0=l.getD k 0:=JR l 1 k
def EN(h:Wd G T W):∀k,BG G T W (si d G T W k)=true
 |0=>je.mpr λb i H=>by
  rw[Ks λk=>by rfl];exact h.amt b i
 |k+1=>by
  unfold si;split
  .rename_i e;refine je.mpr λb i H=>?_;have:=je.mp e b i H;rw[wy λj _=>JR _ _ _]at this;lia
  .refine je.mpr λb i H=>?_;rw[wy λj _=>ZD _ _];exact je.mp (EN h k) b i H
def Ez(D:∀k,k<W.length->0<=d k/\d k<=(aV W k).2.2)(L:Z8 W):∀k,k<=W.length->∀j,j<k->0<=(si d G T W k).getD j 0/\(si d G T W k).getD j 0<=(aV W j).2.2
 |0,_,j,J=>by lia
 |k+1,hk,j,J=>by
  have i:=Ez D L k (by lia) j;have l:(si d G T W k).length=k:=oH k;have y:∀x,(0<=x/\x<=(aV W k).2.2)->0<=(si d G T W k++[x]).getD j 0/\(si d G T W k++[x]).getD j 0<=(aV W j).2.2:=λx X=>by
   by_cases H:j<k
   .rw[zG,yR<|by lia,<-zG];exact i H
   .have:j=k:=by lia
    subst this;rw[zG,yS<|by lia,l];simpa using X
  unfold si;split
  .exact y _<|D k<|by lia
  .exact y _ {by lia,L k}
def Ti(h:Wd G T W)(H:∀k,k<W.length->0<=d k/\d k<=(aV W k).2.2):Pn G T W (si d G T W W.length) where
 len:=oH _
 bd:=Ez H h.lim W.length<|yL _
 am:=je.mp<|EN h _
end
def wW{tt:Dl.Env->Δ θ}{te:Dl.Env->Δ D}{r:Γ (Δ D)}{x y h:Nat->D}{p:Nat->θ}:∀(s:Γ Nat),
  (∀i∈s,tt (↑(x i)::↑(y i)::r)=↑(p i)/\(p i=true->te (↑(x i)::↑(y i)::r)=↑(h i))) ->
  fJ (my 0 1) tt te (none::none::r) (s.map λi=>.tuple [x i,y i])=↑((s.filter p).map h)
 |[],_=>rfl
 |i::s,a=>by
  let(b,c):=a i zE;have I:=wW s λj J=>a j<|zC _ J;have g:my 0 1 (none::none::r) (.tuple [x i,y i])=↑(↑(x i)::↑(y i)::r):=by
   simp?[my,isFree,xP,yX,qE,Option.isNone_none,jM,xG,yU,yV]
  rw[zI,fJ,g];simp?[zA,b];cases H:p i with
  |true=>simp[c H,I,H]
  |false=>simp[I,H]
def o8{fi:Dl.Env->Δ _}{tt:Dl.Env->Δ θ}{te:Dl.Env->Δ D}{ρ:Dl.Env}{n:Nat}{x y h:Nat->D}{p:Nat->θ}(H:fi ρ=↑((List.range n).map λi=>.tuple [x i,y i]))(l:n<=1000)
  (a:∀i,i<n->tt (↑(x i)::↑(y i)::cs.map λj=>(ρ[j]?).getD none)=↑(p i)/\(p i=true->te (↑(x i)::↑(y i)::cs.map λj=>(ρ[j]?).getD none)=↑(h i))) :
  aD 2 cs fi (my 0 1) tt te ρ=↑(((List.range n).filter p).map h):=by
 have:=wW (List.range n) λi I=>a i (by simpa using I);simp[aD,H,zA,iC,List.replicate,xE,xN,this];apply cU
 grind
def ya{W:Γ Wy}{P:Γ Int}(h:P.length=W.length):nO (W.map aM) (P.map PyData.int)=(List.range W.length).map λi=>.tuple [aM<|aV W i,.int<|P.getD i 0]:=by
 apply List.ext_getElem?;intro i;by_cases H:i<W.length
 .have z:i<(nO (W.map aM)<|P.map .int).length:=by rw[pA];simp[h];exact H
  rw[zK z];let(x,y,E,e,a):=uf<|zK z;rw[zO,sQ H]at E;rw[zO,zK<|by lia]at e;cases E;have e:=by simpa using e
  rw[a,<-e];have:i<P.length:=by lia
  simp[H,this,zG]
 .rw[jJ (by rw[pA];grind),jJ<|by grind]
def Sm(P:Γ Int):Prop:=∀k,-1000000<=P.getD k 0/\P.getD k 0<=1000000
def FC(s:Sm P)(hw:W.length<=16)(b:θ)(p:Int):Vk ((own b W p).map λi=>P.getD i 0)=true:=by
 rw[Vk,zF,zJ,xF];refine{?_,λx H=>?_}
 .have:=zp b W p
  grind
 .let(i,_,rfl):=List.mem_map.mp H;rw[zF,zJ,zJ];exact s i
def rm(h:Wd G T W)(H:P.length=W.length)(s:Sm P)(b:θ)(p:Int):eW [aW G T W,ai P,.int<|sI b,.int p]=↑(.int<|mW b W P p):=by
 have hw:=h.wl;apply bb;have z:lu (aa (f2 aK (ae 0)<|fC<|.int 2)<|aa (ae 1) ag) [↑(aW G T W),↑(ai P),↑(.int<|sI b),↑(.int p)]=↑((List.range W.length).map λi=>.tuple [aM<|aV W i,.int<|P.getD i 0]):=by
  rw[<-ya H];rfl
 have c:aD 2 [2,3] (lu<|aa (f2 aK (ae 0)<|fC<|.int 2)<|aa (ae 1) ag) (my 0 1) (fB<|f2 bc (f2 aK (ae 0)<|ae 2)<|ae 3) (ae 1) [↑(aW G T W),↑(ai P),↑(.int<|sI b),↑(.int p)]=↑((own b W p).map λi=>.int<|P.getD i 0):=by
  rw[o8 z (by lia) λi I=>{?_,λ_=>rfl}]
  .rfl
  .exact aF<|by rw[jn (ak (ke b _) rfl rfl) rfl,bf]
 apply ba;show bT Bh _ [↑_,↑_,↑_,↑_]=_;rw[(show((own b W p).map λi=>PyData.int<|P.getD i 0)=((own b W p).map λi=>P.getD i 0).map .int by simp)]at c;simp?[bT,aa,ag,dh,c,zB,zA];simp?[Bh,dF,oneOf,iw,zA,bO,FC s hw b p,xG];rfl
def uL(L:Γ Pl):cI 0 (L.map cE)=(List.range L.length).map λi=>.tuple [nD i,cE<|L.getD i (0,[])]:=by
 rw[enum_zip];apply jE<;>simp_all
def xw(s:Γ Nat):oP [.list<|s.map λi=>.bool<|p i]=↑(.bool<|s.all p):=by
 have:∀s:Γ Nat,boolsOf (s.map λi=>PyData.bool<|p i)=↑(s.map p):=λs=>by
  induction s with
  |nil=>rfl
  |cons i s I=>simp[boolsOf,I]
 simp?[oP,oneOf,zA,this,zB,List.all_map];rfl
def FJ(h:Wd G T W)(p:P.length=W.length)(s:Sm P)(b:θ):eE [aW G T W,ai P,.int<|sI b]=↑(.bool<|(List.range (bL b G T).length).all λi=>decide (mW b W P i<=(gP b G T i).1)):=by
 have l:=h.pl b;apply bb;have e:cz (aa (f2 aK (ae 0)<|ae 2) ag) [↑(aW G T W),↑(ai P),↑(.int<|sI b)]=↑((List.range (bL b G T).length).map λi=>.tuple [nD i,cE<|gP b G T i]):=by
  have:=uL<|bL b G T;unfold gP;rw[<-this];cases b<;>rfl
 apply ba;show bT oP _ [↑_,↑_,↑_]=_;simp[bT,aa,ag,dh,(o8 (cs:=[0,1,2]) (tt:=λ_=>↑true) (te:=f2 CD (aj 4 eW<|aa (ae 2)<|aa (ae 3)<|aa (ae 4)<|aa (ae 0) ag)<|f2 aK (ae 1)<|fC<|.int 0) e (by lia) λi H=>{rfl,λ_=>ak rfl (call_of (rm h p s b i) rfl rfl) rfl}),zB,zA];rw[show(List.range _).filter _=List.range (bL b G T).length by simp,xw]
def CC(a:fa ρ=↑(.bool true))(b:fb ρ=↑d):lL fa fb ρ=↑d:=by
 simp[lL,a,zA,b]
def O0(a:fa ρ=↑(.bool false)):lL fa fb ρ=↑(.bool false):=by
 simp[lL,a,zA]
def NZ(H:fa ρ=↑(.bool a))(B:fb ρ=↑(.bool b)):lL fa fb ρ=↑(.bool<|a&&b):=by
 cases a
 .exact O0 H
 .exact CC H B
def AE(h:f ρ=↑d):bT g (aa f ag) ρ=g [d]:=by
 simp[bT,aa,ag,h,zB,zA]
def zi{l:Γ α}(h:f ρ=↑(.tuple<|l.map k)):bT bX (aa f ag) ρ=↑(nD l.length):=by
 rw[AE h,Qa,zD]
def Yd(W:Γ Wy)(P:Γ Int):θ:=(List.range W.length).all λk=>decide (0<=P.getD k 0)&&decide (P.getD k 0<=(aV W k).2.2)
def Ju(b:θ)(G T:Γ Pl)(W:Γ Wy)(P:Γ Int):θ:=(List.range (bL b G T).length).all λi=>decide (mW b W P i<=(gP b G T i).1)
def Xd(G T:Γ Pl)(W:Γ Wy)(P:Γ Int):θ:=Yd W P&&(Ju false G T W P&&Ju true G T W P)
def Nv(a:P.length=W.length):Xd G T W P=true↔Pn G T W P:=by
 simp?[Xd,Yd,Ju,zF,xF,zS,zJ];constructor
 .rintro⟨H,c,d⟩;exact{a,H,λb=>by cases b<;>assumption}
 .intro p;exact{p.bd,p.am false,p.am true}
def Tv(P:Γ Int):iR (ai P)=true:=rfl
def Iv(h:Wd G T W)(p:P.length=W.length)(s:Sm P):fM [aW G T W,ai P]=↑(.bool<|Xd G T W P):=by
 have hw:=h.wl;apply bb;show rA [.val _,.val _,.non]=_;unfold rA;have t:Dl.aR 2 [0] (f2 aK (ae 0)<|fC<|.int 2) [.val<|aW G T W,.val<|ai P,.non]=↑(.nx [.val _,.val _,.val _]):=eS rfl rfl rfl rfl;rw[au t];have e:cx [ai P,nD W.length,nD W.length]=↑(.bool true):=by
  rw[show nD W.length=.int _ from rfl,eR<|Tv P];simp[long,ai,p]
 have l:∀c ,ae 2 c=↑(.tuple<|W.map aM)->bT bX _ c=↑_:=λc=>zi;have c1:(cD<|fB<|aj 3 cx<|aa (ae 1)<|aa _<|aa _ ag) (aI [.val<|aW G T W,.val _,.val _])=↑false:=
  cL (aF<|call_of e (cons_of rfl (cons_of (l _ rfl)<|cons_of (l _ rfl) rfl)) rfl)
 rw[au<|bB c1];have z:lu (aa (ae 2)<|aa (ae 1) ag) [↑(aW G T W),↑(ai P),↑(.tuple<|W.map aM)]=↑((List.range W.length).map λi=>.tuple [aM<|aV W i,.int<|P.getD i 0]):=by
  rw[<-ya p];rfl
 have c2:=o8 (cs:=[]) (tt:=λ_=>↑true) (te:=aj 3 bQ<|aa (ae 1)<|aa (fC _)<|aa (f2 aK (ae 0)<|fC<|.int 2) ag) z (by lia)
  λi H=>{rfl,λ_=>call_of (eL rfl 0 _) rfl rfl}
 have a:(fB<|bT oP<|aa (dh<|aD 2 [] (lu<|aa (ae 2)<|aa (ae 1) ag) (my 0 1) (λ_=>↑true)<|aj 3 bQ<|aa (ae 1)<|aa (fC<|.int 0)<|aa (f2 aK (ae 0)<|fC<|.int 2) ag) ag) [↑(aW G T W),↑(ai P),↑(.tuple<|W.map aM)]=↑(Yd W P):=by
  apply aF;simp[bT,aa,ag,dh,c2,zB,zA];rw[show(List.range W.length).filter _=List.range W.length by simp,xw];rfl
 cases b:Yd W P with
 |false =>
  rw[b]at a;refine fR<|(br<|cL a).trans ?_;rw[Xd,b];rfl
 |true =>
  rw[b]at a;rw[au<|bB<|cL a,Xd,b,jI];exact ba<|NZ (call_of (FJ h p s false) rfl rfl)<|call_of (FJ h p s true) rfl rfl
def vb(hk:k<W.length):aV W k∈W:=nP hk▸xZ hk
def Pn.smP(h:Wd G T W)(p:Pn G T W P):Sm P:=λk=>by
 by_cases hk:k<W.length
 .have:=p.bd k hk;have:=(h.wr _<|vb hk).2.2.2;lia
 .rw[zG,jJ (by rw[p.len];lia)];simp
def m6(h:Wd G T W)(p:Pn G T W P):fM [aW G T W,ai P]=↑(.bool true):=by
 rw[Iv h p.len<|p.smP h,(Nv p.len).mpr p]
def dP(h:Wd G T W)(p:Pn G T W P):bq [aW G T W,ai P]=↑.none:=by
 have:gZ [.val<|aW G T W,.val<|ai P]=↑(.nx [.val<|aW G T W,.val<|ai P]):=by
  unfold gZ;refine(au<|l9<|call_of (nh h) rfl rfl).trans ?_;exact bB<|cL<|aF<|call_of (m6 h p) rfl rfl
 show(gZ [.val<|aW G T W,.val<|ai P]).map _=_;rw[this];rfl
def tup_is(h:fs ρ=↑ds)(l:ds.length<=1000):aX fs ρ=↑(.tuple ds):=by
 simp[aX,h,zA,cU (show ds.length<=4000 by lia),zB]
def Ie{fi:Dl.Env->Δ (Γ D)}{te:Dl.Env->Δ D}{ρ:Dl.Env}{s:Γ Nat}{f:Nat->D}(H:fi ρ=↑(s.map nD))(l:s.length<=1000)(b:∀i∈s,te (↑(nD i)::cs.map λj=>(ρ[j]?).getD none)=↑(f i)):aD 1 cs fi (fG 0) (λ_=>↑true) te ρ=↑(s.map f):=by
 rw[dy (h:=λd=>f (nj d).toNat) H (by grind) λd a=>?_]
 .rw[zM];rfl
 .let(i,I,rfl):=List.mem_map.mp a;rw[b i I];rfl
def NS(h:f ρ=↑(.list ds))(H:g ρ=↑(nD k)):fQ cY f (rN g) gK ρ=↑(.list<|ds.drop k):=by
 have:=Cs ds k;simp[fQ,h,rN,H,gK,gI,cY,zA,zB,this]
def Hz(s:Γ Nat):Rf.MB [.list<|s.map λi=>.bool<|p i]=↑(.bool<|s.any p):=by
 have:∀s:Γ Nat,boolsOf (s.map λi=>PyData.bool<|p i)=↑(s.map p):=λs=>by
  induction s with
  |nil=>rfl
  |cons i s I=>simp[boolsOf,I]
 simp?[Rf.MB,oneOf,zA,this,zB,wL];rfl
def og(f:α->β)(p:β->θ)(q:α->θ):∀(l:Γ α),(∀x∈l,p (f x)=q x)->(l.map f).findIdx p=l.findIdx q
 |[],_=>rfl
 |x::l,h=>by
  rw[zI,kY,kY,h x zE,og f p q l λy H=>h y<|zC _ H]
def Uh(h:Wd G T W){b:θ}{i:Nat}(e:(bL b G T)[i]?=↑p){k:Nat}(hk:k<W.length)(c:bh b (aV W k)=i):nV (.list<|(lC b W i p.2).map nD) (nD k)=↑(nD<|pF p.2<|cm b<|aV W k):=by
 have K:k∈own b W i:=gc.mpr {hk,c};have m:k∈lC b W i p.2:=(iy h e).mem_iff.mpr K;have E:(lC b W i p.2).map nD=((lC b W i p.2).map λj=>((j:Nat):Int)).map PyData.int:=by rw[zM];rfl
 have m1:((k:Nat):Int)∈(lC b W i p.2).map λj=>((j:Nat):Int):=List.mem_map.mpr {k,m,rfl};rw[E];show(intsOf _).bind _=_;rw[bO,zA,mP m1,zB];have a:((lC b W i p.2).map λj=>((j:Nat):Int)).findIdx (λo=>decide (o=((k:Nat):Int)))=pF p.2 (cm b<|aV W k):=by
  unfold lC pF;rw[zM];refine og _ _ _ _ λx X=>?_;let(l,d,H):=ka h e X;show decide (((pb b W i x:Nat):Int)=(k:Int))=decide (x=cm b (aV W k));rw[decide_eq_decide];constructor
  .intro z;have z:pb b W i x=k:=by lia
   rw[<-z,H]
  .intro z;rw[z,yx h.wp K]
 rw[a]
def pG(h:Wd G T W)(f:P.length=W.length)(s:Sm P)(b:θ){k:Nat}(hk:k<W.length):hJ [aW G T W,ai P,.int<|sI b,nD k]=↑(.bool<|AQ b G T W P k):=by
 have hw:=h.wl;let(z1,z2,z3):=h.aaM b hk;have X:(bL b G T)[(bh b<|aV W k).toNat]?=↑(gP b G T (bh b<|aV W k).toNat):=by
  rw[zK z2];simp[gP,z2]
 have L:∀x∈(gP b G T (bh b<|aV W k).toNat).2,_:=λx H=>ka h X H;have B:(gP b G T (bh b<|aV W k).toNat).2.length<=16:=by
  have:=(iy h X).length_eq;have v:=zp b W ((bh b<|aV W k).toNat:Int);unfold lC at this;rw[zD]at this;lia
 have E:=Uh h X hk z3.symm;have w:=xt h X;generalize l:gP b G T (bh b<|aV W k).toNat=p at *;generalize J:(bh b<|aV W k).toNat=j at *;have z:PyData.int (bh b<|aV W k)=nD j:=by rw[<-z3]
 refine bb ?_;show jy [.val<|aW G T W,.val<|ai P,.val<|.int<|sI b,.val<|nD k,.non,.non,.non]=_;unfold jy;have n:Dl.aR 4 [0,2,3] (f2 aK (f2 aK (f2 aK (ae 0)<|fC<|.int 2)<|ae 3)<|ae 2) [.val<|aW G T W,.val<|ai P,.val<|.int<|sI b,.val<|nD k,.non,.non,.non]=↑(.nx [.val<|aW G T W,.val<|ai P,.val<|.int<|sI b,.val<|nD k,.val<|nD j,.non,.non]):=by
  rw[<-z];exact bM (d:=.int<|bh b<|aV W k) (ak (ke b _) (ak (Dy hk) rfl rfl) rfl) rfl
 rw[au n];have g:aK (.tuple<|(bL b G T).map cE) (nD j)=↑(cE p):=iW X;have t:(fB<|f2 AN (aj 4 eW<|aa (ae 0)<|aa (ae 1)<|aa (ae 2)<|aa (ae 4) ag)<|f2 aK (f2 aK (f2 aK (ae 0)<|ae 2)<|ae 4)<|fC<|.int 0) (aI [.val<|aW G T W,.val<|ai P,.val<|.int<|sI b,.val<|nD k,.val<|nD j,.non,.non])=↑(decide (mW b W P j<p.1)):=by
  refine aF<|ak (iQ _ _) (call_of (rm h f s b j) rfl rfl) ?_;refine ak (a:=cE p) (b:=.int 0) rfl (ak g (ak (mF b G T W) rfl rfl) rfl) rfl
 have M:AQ b G T W P k=(decide (mW b W P j<p.1)||(p.2.drop<|pF p.2 (cm b<|aV W k)+1).any λo=>decide (0<P.getD (pb b W j o) 0)):=by
  unfold AQ;rw[J,l,z3]
 rw[M];cases hc:decide (mW b W P j<p.1)with
 |true =>
  rw[hc]at t;exact fR ((br t).trans<|ba rfl)
 |false =>
  rw[hc]at t;rw[au<|bB t,Bool.false_or];have q:Dl.aR 5 [0,2,4] (aj 3 ju<|aa (ae 0)<|aa (ae 2)<|aa (ae 4) ag) [.val<|aW G T W,.val<|ai P,.val<|.int<|sI b,.val<|nD k,.val<|nD j,.non,.non]=↑(.nx [.val<|aW G T W,.val<|ai P,.val<|.int<|sI b,.val<|nD k,.val<|nD j,.val<|.list<|(lC b W j p.2).map nD,.non]):=
   bS (call_of w rfl rfl) (call_of w rfl rfl) rfl
  rw[au q];have u:∀e:Dl.Env,ae 5 e=↑(.list<|(lC b W j p.2).map nD)->ae 3 e=↑(nD k)->(fQ cY (ae 5) (rN<|f2 aC (f2 nV (ae 5)<|ae 3)<|fC<|.int 1) gK) e=↑(.list<|((lC b W j p.2).map nD).drop<|pF p.2 (cm b<|aV W k)+1):=λe a c =>
   NS a (ak (dJ _ _) (ak E a c) rfl)
  have r:Dl.aR 6 [3,5] (fQ cY (ae 5) (rN<|f2 aC (f2 nV (ae 5)<|ae 3)<|fC<|.int 1) gK) [.val<|aW G T W,.val<|ai P,.val<|.int<|sI b,.val<|nD k,.val<|nD j,.val<|.list<|(lC b W j p.2).map nD,.non]=↑(.nx [.val<|aW G T W,.val<|ai P,.val<|.int<|sI b,.val<|nD k,.val<|nD j,.val<|.list<|(lC b W j p.2).map nD,.val<|.list<|((lC b W j p.2).drop<|pF p.2 (cm b<|aV W k)+1).map nD]):=by
   rw[List.map_drop];exact bS (u _ rfl rfl) (u _ rfl rfl) rfl
  rw[au r];have c:aD 1 [1] (dg<|ae 6) (fG 0) (λ_=>↑true) (f2 yc (f2 aK (ae 1)<|ae 0)<|fC<|.int 0) [↑(aW G T W),↑(ai P),↑(.int<|sI b),↑(nD k),↑(nD j),↑(.list<|(lC b W j p.2).map nD),↑(.list<|((lC b W j p.2).drop<|pF p.2 (cm b<|aV W k)+1).map nD)]=↑(((lC b W j p.2).drop<|pF p.2 (cm b<|aV W k)+1).map λi=>.bool<|decide (0<P.getD i 0)):=by
   refine Ie rfl ?_ λi m=>?_
   .rw[qF,lC,zD];lia
   .have I:=List.mem_of_mem_drop m;unfold lC at I;let(x,H,rfl):=List.mem_map.mp I;exact ak (cN _ _) (ak (jz (by rw[f];exact(L x H).1)) rfl rfl) rfl
  refine ba ?_;show bT Rf.MB (aa (dh<|aD 1 [1] (dg<|ae 6) (fG 0) (λ_=>↑true)<|f2 yc (f2 aK (ae 1)<|ae 0)<|fC<|.int 0) ag) [↑(aW G T W),↑(ai P),↑(.int<|sI b),↑(nD k),↑(nD j),↑(.list<|(lC b W j p.2).map nD),↑(.list<|((lC b W j p.2).drop<|pF p.2 (cm b<|aV W k)+1).map nD)]=_;simp?[bT,aa,ag,dh,c,zB,zA,Hz];unfold lC;rw[<-List.map_drop,wL];rfl
def RK:Nat->D|0=>.str "full" | 1=>.str "giver" | 2=>.str "taker" | _=>.none
def tG(h:Wd G T W)(p:P.length=W.length)(s:Sm P)(hk:k<W.length):iq [aW G T W,ai P,nD k]=↑(RK<|gM G T W P k):=by
 apply bb;show nX [.val _,.val _,.val _]=_;unfold nX gM;have c1:agX (aI [.val<|aW G T W,.val _,.val _])=↑_:=
  aF (ak (bf _ _) (ak (jz (by rw[p];lia)) rfl rfl)<|ak rfl (ak (Dy hk) rfl rfl) rfl)
 have c2:agY (aI [.val _,.val _,.val _])=↑_:=cL<|aF<|call_of (pG h p s false hk) rfl rfl;have c3:agZ (aI [.val _,.val _,.val _])=↑_:=cL<|aF<|call_of (pG h p s true hk) rfl rfl;by_cases e:P.getD k 0=(aV W k).2.2
 .rw[yA e]at c1;rw[yK e];exact fR<|(br c1).trans<|ba rfl
 .rw[zZ e]at c1;rw[yM e,au<|bB c1];cases E:AQ false G T W P k with
  |false =>
   rw[E]at c2;exact fR ((br c2).trans<|ba rfl)
  |true =>
   rw[E]at c2;rw[yM<|by simp,au<|bB c2];cases a:AQ true G T W P k with
   |false =>
    rw[a]at c3;exact fR ((br c3).trans<|ba rfl)
   |true =>
    rw[a]at c3;rw[yM<|by simp,au<|bB c3];rfl
def D6(G T:Γ Pl)(W:Γ Wy)(P:Γ Int)(k:Nat):gM G T W P k<=3:=by
 unfold gM
 grind
def yy(n:Nat)(h:n<=3):sk (RK n) .none=↑(.bool<|decide (n=3)):=by
 match n,h with
 |0,_=>rfl
 |1,_=>rfl
 |2,_=>rfl
 |3,_=>rfl
def jj{W:Γ Wy}{P:Γ Int}(p:P.length=W.length)(H:f ρ=↑(ai P)):(aa (bT bX<|aa f ag) ag) ρ=↑[nD W.length]:=by
 have:=FY P;rw[p]at this;refine cons_of ?_ rfl;rw[AE H,this]
def sf(h:Wd G T W)(p:P.length=W.length)(s:Sm P):cw [aW G T W,ai P]=↑(match(List.range W.length).find? λk=>decide (gM G T W P k=3)with|some k=>nD k|none=>.none):=by
 have hw:=h.wl;apply bb;let(f1,f):=eF (tgt:=CY 2) (gb:=iH _ ab7 fI) (λa=>∃x,a=[.val<|aW G T W,.val<|ai P,x]) nD (λk=>decide _) nD
  (l:=List.range W.length)
  (λa k hk H=>by
   let(x,rfl):=H;have c:(fB<|f2 sk (aj 3 iq ad8)<|fC _) (aI [.val _,.val _,.val _])=↑_:=
    aF (ak (yy _<|D6 G T W P k) (call_of (tG h p s<|by simpa using hk) rfl rfl) rfl)
   refine{_,rfl,λq=>?_,λq=>?_}
   .rw[q]at c;exact(br c).trans<|ba rfl
   .rw[q]at c;exact{_,bB c,_,rfl}) {_,rfl}
 have r:da ad7 [↑(aW G T W),↑_,none]=↑_:=uK (jj p rfl) (by lia);cases e:(List.range W.length).find? _ with
 |some k=>exact fR (dW (f1 k e) r rfl)
 |none =>
  let(b,E,x,rfl):=f e;exact(au<|dW E r rfl).trans<|ba rfl
def rZ:∀(s:Γ Nat),(∀i∈s,tt (↑(nD i)::r)=↑(q i)/\(q i=true->te (↑(nD i)::r)=↑(f i)))->fJ (fG 0) tt te (none::r) (s.map nD)=↑((s.filter q).map f)
 |[],_=>rfl
 |i::s,h=>by
  have I:=rZ (tt:=tt) (te:=te) (r:=r) (f:=f) (q:=q) s λj J=>h j<|zC _ J;let(H,a):=h i zE;have g:fG 0 (none::r) (nD i)=↑(↑(nD i)::r):=rfl;rw[zI,fJ,g,zA,H,zA,jU];cases e:q i with
  |true =>
   rw[yK rfl,yK rfl,a e,zA,I];rfl
  |false =>
   rw[yM<|by simp,yM<|by simp,I]
def nQ{fi:Dl.Env->Δ _}{tt:Dl.Env->Δ θ}{te:Dl.Env->Δ D}{ρ:Dl.Env}{s:Γ Nat}{f:Nat->D}{q:Nat->θ}(H:fi ρ=↑(s.map nD))(l:s.length<=1000)(a:∀i∈s,tt (↑(nD i)::cs.map λj=>(ρ[j]?).getD none)=↑(q i)/\(q i=true->te (↑(nD i)::cs.map λj=>(ρ[j]?).getD none)=↑(f i))):aD 1 cs fi (fG 0) tt te ρ=↑((s.filter q).map f):=by
 have:=rZ s a;simp[aD,H,zA,iC,List.replicate,xE,xN,this];apply cU
 grind
def mV(h:Wd G T W)(p:Pn G T W P):eY [aW G T W,ai P]=↑(.list<|(ll G T W P).map nD):=by
 have hw:=h.wl;have H:=p.len;apply bb;apply(au<|l9<|call_of (dP h p) rfl rfl).trans;have c:aD 1 [0,1] ady _ (fB<|f2 sk ag1<|fC _) (ae 0) [↑_,↑_]=↑((ll G T W P).map nD):=
  nQ (uK (jj H rfl)<|by lia) (by rw[zR];lia) λk hk=>{aF<|ak (yy _<|D6 G T W P k) (call_of (tG h H (p.smP h)<|by simpa using hk) rfl rfl) rfl,λ_=>rfl}
 apply ba;show dh _ [↑_,↑_]=_;simp[dh,c,zB]
def ER(f:Nat->D)(R:Nat->aq->Prop):∀n k ρ,
  (∀j ρ,k<=j->j<k+n->R j ρ->∃d c,tgt ρ (f j)=↑d/\gb d=↑(.nx c)/\R (j+1) c)->R k ρ->∃ρ',gL tgt gb ((List.range' k n).map f) ρ=↑(.nx ρ')/\R (k+n) ρ'
 |0,k,ρ,_,h=>{ρ,rfl,h}
 |n+1,k,ρ,H,h=>by
  let(d,c,e,E,g):=H k ρ (yL _) (by lia) h;let(ρ',i,l):=ER f R n _ c (λj ρ a b=>H j ρ (by lia)<|by lia) g;rw[vD,zI,gL,e,zA,E]
  grind
def Rc(l:n<=1000):Dl.eH (.tuple [.int 0]) (nD n)=↑(ai<|zs n):=by
 have e:FW (.tuple [.int 0]) (nD n)=↑(ai<|zs n):=by
  show(if Cj n=true/\[PyData.int 0].length*(n:Int).toNat<=sizeLine then↑(PyData.tuple (List.replicate (n:Int).toNat [.int 0]).flatten)else none)=_;have z:[PyData.int 0].length*n<=sizeLine:=by
   rw[xB,Nat.one_mul];exact yD l<|by decide
  rw[yG,yK {sT l,z},Wi];rfl
 show((AM wb _) _ _).or _=_;rw[e];rfl
def tN{W:Γ Wy}{P:Γ Int}(h:P.length=W.length):nO (P.map PyData.int) (W.map aM)=(List.range W.length).map λi=>.tuple [.int<|P.getD i 0,aM<|aV W i]:=by
 have:∀(a:Γ Int)l,a.length=l.length->nO (a.map .int) (l.map aM)=(List.range l.length).map λi=>.tuple [.int<|a.getD i 0,aM<|aV l i]:=by
  intro a
  induction a with
  |nil=>intro l e;cases l with|nil=>rfl|cons _ _=>simp at e
  |cons x a I =>
   intro l e;cases l with
   |nil=>rfl
   |cons w l =>
    rw[zI,zI,nO,I l<|by simpa using e,zL,vK,zI,zM];rfl
 exact this P W h
def nz(h:Wd G T W)(H:P.length=W.length)(s:Sm P)(b:θ)(p:Int):lR [aW G T W,ai P,.int<|sI b,.int p]=↑(.int<|mW b W P p):=by
 have hw:=h.wl;apply bb;have z:lu (aa (ae 1)<|aa (f2 aK (ae 0)<|fC<|.int 2) ag) [↑(aW G T W),↑(ai P),↑(.int<|sI b),↑(.int p)]=↑((List.range W.length).map λi=>.tuple [.int<|P.getD i 0,aM<|aV W i]):=by
  rw[<-tN H];rfl
 have c:aD 2 [2,3] (lu<|aa (ae 1)<|aa (f2 aK (ae 0)<|fC<|.int 2) ag) (my 0 1) (fB<|f2 bc (f2 aK (ae 1)<|ae 2)<|ae 3) (ae 0) [↑(aW G T W),↑(ai P),↑(.int<|sI b),↑(.int p)]=↑((own b W p).map λi=>.int<|P.getD i 0):=by
  rw[o8 z (by lia) λi I=>{?_,λ_=>rfl}]
  .rfl
  .exact aF<|by rw[jn (ak (ke b _) rfl rfl) rfl,bf]
 apply ba;show bT Bh _ [↑_,↑_,↑_,↑_]=_;rw[(show((own b W p).map _)=((own b W p).map λi=>P.getD i 0).map .int by simp)]at c;simp?[bT,aa,ag,dh,c,zB,zA];simp?[Bh,dF,oneOf,iw,zA,bO,FC s hw b p,xG];rfl
def ftB:aq->Δ Out:=ag6
def Pq(h:Wd G T W)(p:P.length=W.length)(s:Sm P)(b:θ)(x y:Slot):(Ju b G T W P=false->ftB [.val<|aW G T W,.val<|ai P,.val<|.int<|sI b,x,y]=↑(.rt<|.bool false))/\(Ju b G T W P=true->∃X Y,ftB [.val<|aW G T W,.val<|ai P,.val<|.int<|sI b,x,y]=↑(.nx [.val<|aW G T W,.val<|ai P,.val<|.int<|sI b,X,Y])):=by
 let(f1,f):=eF (tgt:=g9 3 4) (gb:=iH _ afy fI)
  (λd=>∃x y,d=[.val<|aW G T W,.val<|ai P,.val<|.int<|sI b,x,y]) (λi =>.tuple [nD i,cE _]) (λi=>decide _) _
  (λd i I H=>by
   let(x,y,rfl):=H;have c:ag5 (aI [.val _,.val _,.val _,.val _,.val<|cE<|gP b G T i])=↑_:=
    aF (ak (cN _ _) (call_of (nz h p s b i) rfl rfl)<|ak rfl rfl rfl)
   refine{_,rfl,λq=>?_,λq=>?_}
   .rw[q]at c;exact(br c).trans<|ba rfl
   .rw[q]at c;exact{_,bB c,_,_,rfl}) {_,_,rfl}
 have E:cz zq9 (bx [.val<|aW G T W,.val<|ai P,.val<|.int<|sI b,x,y])=↑((List.range (bL b G T).length).map λi=>.tuple [nD i,cE<|gP b G T i]):=by
  have:=uL<|bL b G T;unfold gP;rw[<-this];cases b<;>rfl
 have a:hand [0,2] 0 [.val<|aW G T W,.val<|ai P,.val<|.int<|sI b,x,y]=[.val _,.val _,.val _,x,y]:=rfl;unfold Ju;constructor
 .intro hk;cases e:(List.range _).find? _ with
  |some i=>exact dW (f1 i e) E a
  |none =>
   grind
 .intro hk;have e:(List.range (bL b G T).length).find? (λi=>decide ((gP b G T i).1<mW b W P i))=none:=by
   grind
  let(j,g,X,Y,rfl):=f e;exact{X,Y,dW g E a}
def TM:BG G T W P=(Ju false G T W P&&Ju true G T W P):=rfl
def C9(h:Wd G T W)(p:P.length=W.length)(s:Sm P):gD [aW G T W,ai P]=↑(.bool<|BG G T W P):=by
 let(f1,f):=eF (tgt:=CY 2)
  (λa=>∃x y z,a=[.val<|aW G T W,.val<|ai P,x,y,z]) _ (λb=>!(Ju b G T W P)) _
  (λa b _ H=>by
   let(x,y,z,rfl):=H;let(r1,R):=Pq h p s b y z;refine{_,rfl,λq=>(r1<|by grind),λq=>?_}
   .let(X,Y,e):=R (by simpa using q);exact{_,e,_,_,_,rfl}) {_,_,_,rfl}
 have r:da (aa (fC _) ag) (bx [.val<|aW G T W,.val<|ai P,.non,.non,.non])=↑_:=uK (n:=2) rfl (by lia);apply bb;rw[TM];cases c:Ju false G T W P with
 |false =>
  exact fR (dW (f1 _ (show[false,true].find? _=↑false by grind)) r rfl)
 |true =>
  cases d:Ju true G T W P with
  |false =>
   exact fR (dW (f1 _ (show[false,true].find? _=↑true by grind)) r rfl)
  |true =>
   let(g,E,x,y,z,rfl):=f (by rw[kG<|by simp[c],kG<|by simp[d]];rfl);exact(au<|dW E r rfl).trans<|ba rfl
def Sm.app(H:Sm a)(B:Sm b):Sm (a++b):=λk=>by
 by_cases hk:k<a.length
 .have:=H k
  rwa [show(a++b).getD k 0=a.getD k 0 by simp[yR hk]]
 .have:=B (k-a.length)
  rwa [show(a++b).getD k 0=b.getD (k-a.length) 0 by simp[yS (by lia:a.length<=k)]]
def UC(H:-1000000<=x)(a:x<=1000000):Sm [x]:=λk=>by
 cases k with
 |zero=>exact⟨H,a⟩
 |succ k=>simp
def WD(n:Nat):Sm (zs n):=λk=>by rw[QL];lia
def Hr(ns:Γ Int)(at':Int)(W:Γ Wy)(k:Nat):Int:=dr ns (at'+(k:Nat))<|(aV W k).2.2+1
def Ew(l:ns.length<=63)(h:Wd G T W)(hk:k<W.length):0<=Hr ns at' W k/\Hr ns at' W k<=(aV W k).2.2:=by
 have:=(h.wr _<|vb hk).2.2;have H:=Rr (at'+k) ((aV W k).2.2+1) l (by lia);have a:=Rv (at'+k) ((aV W k).2.2+1) l (by lia);unfold Hr;lia
def lpB:aq->Δ Out:=(az (aR 6 [0,1,3,4,5]<|f2 aC (ae 3)<|aX<|aa (aj 3 ao<|aa (ae 0)<|aa (f2 aC (ae 1)<|ae 4)<|aa (f2 aC (f2 aK (ae 5)<|fC<|.int 2)<|fC<|.int 1) ag) ag)<|az (aR 7 [2,6]<|aj 2 gD<|aa (ae 2)<|aa (f2 aC (ae 6)<|f2 eH (aX<|aa (fC<|.int 0) ag)<|f2 Dl.eK (bT bX<|aa (f2 aK (ae 2)<|fC<|.int 2) ag)<|bT bX<|aa (ae 6) ag) ag)<|aR 3 [3,6,7]<|tM (fB<|ae 7) (ae 6)<|f2 aC (ae 3)<|aX<|aa (fC<|.int 0) ag)
def sP(h:a.length+b.length<=1000):Dl.aC (ai a) (ai b)=↑(ai<|a++b):=by
 unfold ai;rw[ow<|by grind,qX]
def iO(h:I ρ=↑true)(a:fa ρ=↑d):tM I fa fb ρ=↑d:=by
 simp[tM,h,zA,a]
def mn(h:I ρ=↑false)(a:fb ρ=↑d):tM I fa fb ρ=↑d:=by
 simp[tM,h,zA,a]
def TJ(l:ns.length<=63)(h:Wd G T W)(hk:k<=W.length):Sm (si (Hr ns at' W) G T W k):=λj=>by
 by_cases H:j<k
 .have:=Ez (d:=Hr ns at' W) (G:=G) (T:=T) (λk=>Ew l h) h.lim k hk j H;have:=(h.wr _<|vb (show j<W.length by lia)).2.2;lia
 .rw[zG,jJ (by rw[oH];lia)];simp
def Np(L:ns.length<=63)(h:Wd G T W)(hk:k<W.length)(x y:Slot):∃X Y,lpB [.val<|gH ns,.val<|.int at',.val<|aW G T W,.val<|ai<|si (Hr ns at' W) G T W k,.val<|nD k,.val<|aM<|aV W k,x,y]=↑(.nx [.val<|gH ns,.val<|.int at',.val<|aW G T W,.val<|ai<|si (Hr ns at' W) G T W<|k+1,.val<|nD k,.val<|aM<|aV W k,X,Y]):=by
 have hw:=h.wl;have r:=(h.wr _<|vb hk).2.2;have m:=TJ (at':=at') L h<|jQ hk;have l:=oH (d:=Hr ns at' W) (G:=G) (T:=T) (W:=W) k;have H:=Ew (at':=at') L h hk;have n:si _ G T W (k+1)=if BG G T W _=true then si _ G T W k++[Hr ns at' W k]else si _ G T W k++[0]:=rfl
 rw[n];generalize p:si _ G T W k=f at m l ⊢;generalize o:Hr ns at' W k=d at H ⊢;have D:∀g ,ae 0 g=↑_->ae 1 g=↑_->ae 4 g=↑_->ae 5 g=↑_->(aj 3 ao<|aa _<|aa _<|aa (f2 aC (f2 aK _<|fC _)<|fC _) ag) g=↑(.int d):=λg a b c e=>by
  rw[<-o];exact call_of (yk _ _ L<|by lia) (cons_of a<|cons_of (ak (dJ at' k) b c)<|cons_of (ak (dJ _ 1) (ak (Qg _) e rfl) rfl) rfl) rfl
 have M:∀g ,ae 0 g=↑_->ae 1 g=↑_->ae 3 g=↑_->ae 4 g=↑_->ae 5 g=↑_->(f2 aC _ _) g=↑(ai<|f++[d]):=λg a b z c e =>
  ak (sP<|by grind) z (Et<|D g a b c e)
 have i:((f++[d])++zs (W.length-(f++[d]).length)).length=W.length:=by simp[zs,l];lia
 have E:∀g ,ae 2 g=↑_->ae 6 g=↑_->(aj 2 gD<|aa _<|aa (f2 aC _<|f2 eH (aX<|aa (fC _) ag)<|f2 Dl.eK (bT bX<|aa (f2 aK _<|fC _) ag) _) ag) g=↑_:=λg a b=>by
  refine call_of (C9 h i<|(m.app<|UC (by lia)<|by lia).app<|WD _) (cons_of a<|cons_of (ak (sP ?_) b<|ak (Rc<|by lia) (Et rfl) ?_) rfl) rfl
  .grind
  .rw[show nD _=.int (W.length-(f++[d]).length)by grind];exact ak (sub_int _ _) (zi<|ak (sD G T W) a rfl)<|zi b
 rw[lpB,au<|bS (M _ rfl rfl rfl rfl rfl) (M _ rfl rfl rfl rfl rfl) rfl,au<|bS (E _ rfl rfl) (E _ rfl rfl) rfl];have j:∀g ,ae 3 g=↑_->(f2 aC _<|aX<|aa (fC _) ag) g=↑(ai<|f++[0]):=λg z=>ak (sP<|by grind) z<|Et rfl;generalize BG G T W _=F;cases F with
 |true =>
  exact{_,_,bS (iO (aF rfl) rfl) (iO (aF rfl) rfl) rfl}
 |false =>
  exact{_,_,bS (mn (aF rfl)<|j _ rfl) (mn (aF rfl)<|j _ rfl) rfl}
def yp(W:Γ Wy):cI 0 (W.map aM)=(List.range' 0 W.length).map λi=>.tuple [nD i,aM<|aV W i]:=by
 rw[<-List.range_eq_range',enum_zip];apply jE
 .simp
 .intro i a H;have:=by simpa using H
  simp[nP this]
def tK(l:ns.length<=63)(h:Wd G T W):cZ [gH ns,.int at',aW G T W]=↑(ai<|si (Hr ns at' W) G T W W.length):=by
 let(d,e,a,b,x,X,rfl):=ER (tgt:=g9 4 5) (λi=>.tuple [nD i,aM _]) (λk c=>∃a b x X,c=[.val<|gH ns,.val<|.int at',.val<|aW G T W,.val<|ai<|si (Hr ns at' W) G T W k,a,b,x,X]) W.length 0 _
  (λj c _ J H=>by
   let(a,b,x,X,rfl):=H;let(f,y,e):=Np l h (show j<W.length by lia) x X;exact{_,_,rfl,e,_,_,_,_,rfl}) {_,_,_,_,rfl}
 apply bb;have E:cz afA (bx [.val<|gH ns,.val<|.int at',.val<|aW G T W,.val<|ai [],.non,.non,.non,.non])=↑((List.range' 0 W.length).map λi=>.tuple [nD i,aM<|aV W i]):=by
  rw[<-yp];rfl
 rw[jA]at e;exact(au<|dW e E rfl).trans<|ba rfl
def EG(l:ns.length<=63)(h:Wd G T W):Pn G T W (si (Hr ns at' W) G T W W.length):=Ti h λk=>Ew l h
def iN:∀{l:Γ D},(∀d∈l,PyData.eqv d d=true)->PyData.eqvAll l l=true
 |[],_=>by rfl
 |d::l,h=>by
  rw[PyData.eqvAll,h d zE,iN λx H=>h x<|zC _ H];rfl
def NM(h:∀d∈l,PyData.eqv d d=true):PyData.eqv (.tuple l) (.tuple l)=true:=by
 rw[PyData.eqv,iN h]
def UF(a:Γ Int):PyData.eqv (ai a) (ai a)=true:=by rw[B9];simp
def Jz(a:Int):PyData.eqv (.int a) (.int a)=true:=by
 have:=UF [a];rw[ai,PyData.eqv,zI,yT,PyData.eqvAll]at this;simp?[zF]at this;exact this.1
def uZ(h:Wd G T W):b9 [aW G T W]=↑(.bool true):=by rw[uD h.fit<|by decide,h.wok]
section
variable {P off:Γ Int}
def Mt:∀(xs:Γ Nat),(∀i∈xs,0<=off.getD i 0)->0<=(xs.map λi=>off.getD i 0).sum
 |[],_=>by simp
 |i::xs,h=>by
  have:=Mt xs λj H=>h j<|zC _ H;have:=h i zE;rw[zI,List.sum_cons];lia
def Fo:∀(xs:Γ Nat),(∀i∈xs,0<=P.getD i 0)->(0<(xs.map λi=>P.getD i 0).sum↔(xs.any λi=>decide (0<P.getD i 0))=true)
 |[],_=>by simp
 |i::xs,h=>by
  have I:=Fo xs λj H=>h j<|zC _ H;have a:=Mt (off:=P) xs λj H=>h j<|zC _ H;have b:=h i zE;rw[zI,List.sum_cons,vA,qY,zJ,<-I];lia
def Oh(h:Wd G T W){b:θ}(hk:k<W.length) :
  let i:=(bh b<|aV W k).toNat;let L:=(gP b G T i).2
  lC b W i L=(L.take<|pF L<|cm b<|aV W k).map (pb b W i)++k::(L.drop<|pF L (cm b<|aV W k)+1).map (pb b W i):=by
 intro i L;let(c,a,H):=h.aaM b hk;have m:cm b (aV W k)∈L:=by
  rw[(h.lik<|pV a).mem_iff,<-sH];exact List.mem_map.mpr {k,gc.mpr {hk,H.symm},rfl}
 have t:pF L (cm b<|aV W k)<L.length:=by
  exact kH {_,m,by simp}
 have g:L[pF L _]=cm b (aV W k):=by
  have:=vX (w:=t);exact yP this
 unfold lC
 conv=>lhs;rw[<-List.take_append_drop _ L,kW t,g,qX,zI,(yx h.wp<|gc.mpr {hk,H.symm})]
end
def sm(l:Γ Nat)(f:Nat->Int):Int:=(l.map f).sum
def bU(q:Nat)(l:Γ Nat)(f:Nat->Int):sm (q::l) f=f q+sm l f:=by rfl
def Mf(l r:Γ Nat)(f:Nat->Int):sm (l++r) f=sm l f+sm r f:=by simp[sm]
def Bb:∀{l:Γ Nat}{f g:Nat->Int},(∀q∈l,f q=g q)->sm l f=sm l g
 |[],_,_,_=>rfl
 |q::l,f,g,h=>by rw[bU,bU,h q zE,Bb λx H=>h x<|zC _ H]
def Fe:∀{l:Γ Nat}{f g:Nat->Int},(∀q∈l,f q<=g q)->sm l f<=sm l g
 |[],_,_,_=>xY _
 |q::l,f,g,h=>by
  have a:=h q zE;have b:=Fe λx H=>h x<|zC _ H;rw[bU,bU];lia
def QC(h:∀q∈l,0<=f q):0<=sm l f:=by
 have:sm l (λ_=>0)=0:=by induction l with
  |nil=>rfl
  |cons q l i=>rw[bU,i λx H=>h x<|zC _ H];rfl
 rw[<-this];exact Fe h
def Qp(p:l.Perm r)(f:Nat->Int):sm l f=sm r f:=by
 induction p with
 |nil=>rfl
 |cons x _ i=>rw[bU,bU,i]
 |swap x y l=>rw[bU,bU,bU,bU];lia
 |trans _ _ H a=>rw[H,a]
def ch(m:Nat->Int):Int->Γ Nat->Nat->Int
 |_,[],_=>0
 |a,q::r,k=>if k=q then min (m q) a else ch m (a-min (m q) a) r k
def up:Γ Nat->Nat->Γ Nat
 |[],_=>[]
 |q::r,k=>if k=q then[q]else q::up r k
def Fk(q:Nat)(r:Γ Nat):up (q::r) q=[q]:=by simp[up]
def Ft(h:k≠q):up (q::r) k=q::up r k:=by simp[up,h]
def Gm:∀{l:Γ Nat}{k:Nat},k∈l->k∈up l k
 |x::l,k,h=>by
  by_cases e:k=x
  .subst e;rw[Fk];exact zE
  .rw[Ft e];rcases List.mem_cons.mp h with z|z
   .exact absurd z e
   .exact zC _<|Gm z
def Aa:∀{xs ys:Γ Nat}{k:Nat},k∉xs->up (xs++k::ys) k=xs++[k]
 |[],ys,k,_=>Fk _ _
 |x::xs,ys,k,h=>by
  rw[zQ,not_or]at h;rw[xE,Ft h.1,Aa h.2];rfl
def FP(n:l.Nodup)(hk:k∈l):∃ys,l=up l k++ys/\(∀q∈ys,q∉up l k):=by
 let(s,ys,rfl):=List.append_of_mem hk;have x:=λz=>by
  rw[wN]at n;exact n.2.2 k z k zE rfl
 refine{ys,by rw[Aa x];simp,λq Q H=>?_};rw[Aa x]at H;rw[show s++k::ys=(s++[k])++ys by simp,wN]at n;exact n.2.2 q H q Q rfl
def dZ(b:θ)(W:Γ Wy)(k:Nat):Nat:=(bh b<|aV W k).toNat
def lst(b:θ)(G T:Γ Pl)(W:Γ Wy)(i:Nat):Γ Nat:=lC b W i (gP b G T i).2
def amt(b:θ)(G T:Γ Pl)(i:Nat):Int:=(gP b G T i).1
def mm(W:Γ Wy)(off:Γ Int)(q:Nat):Int:=min (off.getD q 0) (aV W q).2.2
def vl(P:Γ Int)(q:Nat):Int:=P.getD q 0
section
variable {G T:Γ Pl}{W:Γ Wy}{P X c off:Γ Int}{b:θ}{i k q:Nat}
def lY(h:Wd G T W)(b:θ)(hk:k<W.length):dZ b W k<(bL b G T).length:=(h.aaM b hk).2.1
def oY(h:Wd G T W)(hi:i<(bL b G T).length):(lst b G T W i).Perm (own b W i):=iy h<|pV hi
def mK(h:Wd G T W)(hi:i<(bL b G T).length):(lst b G T W i).Nodup:=(oY h hi).nodup_iff.mpr<|List.nodup_range.filter _
def k7(h:Wd G T W)(hi:i<(bL b G T).length):q∈lst b G T W i↔q<W.length/\dZ b W q=i:=by
 rw[(oY h hi).mem_iff,gc];constructor
 .rintro⟨H,a⟩;exact{H,by rw[dZ,a];rfl}
 .rintro⟨H,a⟩;have:=(h.aaM b H).2.2;unfold dZ at a;rw[a]at this;exact{H,this.symm}
def IZ(h:Wd G T W)(b:θ)(hk:k<W.length):k∈lst b G T W (dZ b W k):=(k7 h<|lY h b hk).mpr {hk,rfl}
def lQ(h:Wd G T W)(hi:i<(bL b G T).length):mW b W P i=sm (lst b G T W i) (vl P):=by
 rw[Qp<|oY h hi];rfl
def Fl(b:θ)(G T:Γ Pl)(W:Γ Wy)(P:Γ Int)(k:Nat):Prop:=sm (up (lst b G T W<|dZ b W k) k) (vl P)=amt b G T (dZ b W k)
def Pn.nn(p:Pn G T W P)(q:Nat):0<=vl P q:=by
 by_cases H:q<W.length
 .exact (p.bd q H).1
 .rw[vl,L8 (by rw[p.len];lia)];lia
def Pn.ahN(h:Wd G T W)(p:Pn G T W P)(hi:i<(bL b G T).length):sm (lst b G T W i) (vl P)<=amt b G T i:=by
 rw[<-lQ h hi];exact p.am b i hi
def V0(h:Wd G T W)(p:Pn G T W P)(b:θ)(hk:k<W.length):AQ b G T W P k=false↔Fl b G T W P k:=by
 let(z1,z2,z3):=h.aaM b hk;have hc:lst b G T W (dZ b W k)=((gP b G T<|dZ b W k).2.take<|pF (gP b G T<|dZ b W k).2<|cm b<|aV W k).map (pb b W<|dZ b W k)++k::((gP b G T<|dZ b W k).2.drop<|pF (gP b G T<|dZ b W k).2 (cm b<|aV W k)+1).map (pb b W<|dZ b W k):=Oh h hk;have n:=mK (b:=b) h z2;change (lst b G T W<|dZ b W k).Nodup at n;have E:=p.ahN h z2;change sm (lst b G T W<|dZ b W k) _<=amt b G T (dZ b W k)at E;have H:=lQ (P:=P) h z2;have Y:AQ b G T W P k=(decide (mW b W P (dZ b W k)<amt b G T (dZ b W k))||(((gP b G T<|dZ b W k).2.drop<|pF (gP b G T<|dZ b W k).2 (cm b<|aV W k)+1).map<|pb b W<|dZ b W k).any λq=>decide (0<vl P q)):=by
  rw[wL,dZ,amt,z3];rfl
 change mW b W P (dZ b W k)=sm (lst b G T W<|dZ b W k) _ at H;rw[Fl,Y,H];revert hc;generalize ((gP b G T _).2.take _).map _=x;generalize ((gP b G T _).2.drop _).map _=y;intro hc;have X:k∉x:=λz=>by
  grind
 rw[hc,Aa X];have e:sm (x++k::y) (vl P)=sm (x++[k]) (vl P)+sm y (vl P):=by
  rw[<-Mf];simp
 have N:=QC (l:=y) λq _=>p.nn q;have a:=Fo y λq _=>p.nn q;change (0<sm y (vl P)↔(y.any λq=>decide (0<vl P q))=true)at a
 grind
end
section
variable {P X c off:Γ Int}
end
section
variable {P X c off:Γ Int}
def mx(P X:Γ Int):Γ Int:=List.zipWith max P X
end
section
variable {P X c off:Γ Int}
def N2(h:P.length=X.length)(e:∀k,k<P.length->P.getD k 0=X.getD k 0):P=X:=by
 apply jE h;intro k H a;have:=e k H;simpa [H,a]using this
end
def nY(h:f ρ=↑ds):dh f ρ=↑(.list ds):=by
 simp?[dh,h,zB]
def EX(h:f ρ=↑(.tuple ds)):dg f ρ=↑ds:=by
 simp[dg,h,zA,iw]
def Ng(h:f ρ=↑(.list ds)):dg f ρ=↑ds:=by
 simp[dg,h,zA,iw]
def nR(h:fs ρ=↑ds)(l:ds.length<=1000):dD fs ρ=↑ds:=by
 simp[dD,h,zA,cU (show ds.length<=4000 by lia)]
def zx(h:t ρ=↑false):fy t u ρ=↑false:=by
 simp[fy,h,zA]
def uJ(h:t ρ=↑true)(H:u ρ=↑b):fy t u ρ=↑b:=by
 simp[fy,h,zA,H]
def IQ(l:Γ Nat):PyData.eqvAll (l.map nD) (l.map nD)=true:=iN λd H=>by
 let(i,_,rfl):=List.mem_map.mp H;apply Jz
def gz{l:Γ Nat}:SeqAt.shaped (.list<|l.map nD)=true:=
 (jx.lst (b:=l.length) (k:=0) (by simp) λx H=>by let(i,_,rfl):=List.mem_map.mp H;apply kb).shaped (by decide)
def wg(l:Γ Nat):gq (.list<|l.map nD) (.list<|l.map nD)=↑(.bool false):=by
 simp[gq,RY,gz,jM,xG,PyData.eqv,IQ,zB,xX]
structure Wk(G T G' T':List Pl):Prop where
 len:∀b,(bL b G' T').length=(bL b G T).length
 lik:∀b i,(gP b G' T' i).2=(gP b G T i).2
 gv:∀i,amt false G' T' i<=amt false G T i
 tk:∀i,amt true G T i<=amt true G' T' i
def sA(L:Γ Pl)(i:Nat)(a:Int):Γ Pl:=L.set i (a,(L.getD i (0,[])).2)
section
variable {P X off:Γ Int}
end
def ext(l:Int)(r:Γ Int):Γ (Γ Int):=(List.range (l+1).toNat).map λm=>r++[((m:Nat):Int)]
def BF(a:fa ρ=↑(.int x))(b:fb ρ=↑(.int y))(hc:fc ρ=↑(.int z)):gR Dl.CD Dl.AN fa fb fc ρ=↑(.bool<|decide (x<=y)&&decide (y<z)):=by
 simp[gR,a,b,hc,zA];have e:Dl.CD (.int x) (.int y)=↑(.bool _):=rfl;rw[e];cases decide (x<=y)<;>rfl
def TX(W:Γ Wy)(P c:Γ Int):θ:=(List.range W.length).all λk=>decide (P.getD k 0<=c.getD k 0)
def B3(H:f (bx ρ)=↑(.tuple [x,y]))(a:hand I 0 ρ=ρ):nK i j I f ρ=↑(.nx<|(ρ.set i<|.val x).set j<|.val y):=by
 simp[nK,a,H,zA,ite_self]
def JE(l:Γ Nat)(k:Int):((l.map nD).any λz=>PyData.eqv z<|.int k)=decide (∃i∈l,i=k):=by
 induction l with
 |nil=>rfl
 |cons i l I =>
  have e:PyData.eqv (nD i) (.int k)=decide (i=k):=by
   rfl
  rw[zI,vA,I,e];simp
def ib(l:Γ Nat)(k:Int):uT (.int k) (.list<|l.map nD)=↑(.bool<|!decide (∃i∈l,i=k)):=by
 simp?[uT,VP,((kb (b:=1) (k:=0) k).shaped<|by decide),gz,jM,xG,JE,zB]
def yf(l:Γ _)(a:Γ Int):Dk (ai a) (.list<|l.map ai)=↑(.bool<|decide (a∈l)):=JZ l a
def FQ(h:x∈L):nV (ai L) (.int x)=↑(nD<|pF L x):=by
 show(intsOf _).bind _=_;rw[bO,zA,mP h];rfl
def KW(h:x∈L):pF L x<L.length:=kH {x,h,by simp}
def Jf(h:x∈L):L[pF L x]?=↑x:=by
 have l:=KW h;have:=vX (w:=l);rw[zK l];exact qZ some<|yP this
def EZ(N:L.Nodup):x∈L.drop n↔x∈L/\n<=pF L x:=by
 constructor
 .intro h;have H:=List.mem_of_mem_drop h;refine{H,?_};let(m,a,b):=qM h;rw[List.getElem_drop]at b;have d:L[n+m]?=↑x:=by rw[zK (by rw[qF]at a;lia),b]
  have c:=Jf H;have:n+m=pF L x:=by
   have l:=KW H;exact(List.getElem?_inj (by rw[qF]at a;lia) N).mp<|d.trans c.symm
  lia
 .rintro⟨H,e⟩;have c:=Jf H;have:(L.drop n)[pF L x-n]?=↑x:=by rw[List.getElem?_drop,show n+(pF L x-n)=pF L x by lia];exact c
  exact qA this
def TZ(b:θ)(W:Γ Wy)(P L:Γ Int)(j:Int)(o:Int)(i:Nat):θ:=decide (bh b (aV W i)=j)&&(decide (0<P.getD i 0)&&decide (pF L o<pF L (cm b<|aV W i)))
def Ta(h:Wd G T W){b:θ}{j:Nat}{pl:Pl}(e:(bL b G T)[j]?=↑pl)(o:Int):(List.range W.length).any (TZ b W P pl.2 j o)=(pl.2.drop<|pF pl.2 o+1).any λo=>decide (0<P.getD (pb b W j o) 0):=by
 have n:pl.2.Nodup:=by
  have:=(iy h e).nodup_iff.mpr<|List.nodup_range.filter _;unfold lC at this;exact List.Pairwise.of_map _ (λa b B e=>B<|qZ _ e) this
 rw[kP,List.any_eq_true,List.any_eq_true];constructor
 .rintro⟨i,g,q⟩;unfold TZ at q;simp?[zF,zJ]at q;let(c,d,f):=q;have I:i<W.length:=by simpa using g
  have k:i∈own b W j:=gc.mpr {I,c};have p:=(iy h e).mem_iff.mpr k;unfold lC at p;let(y,Y,H):=List.mem_map.mp p;have O:=(ka h e Y).2.2;rw[H]at O;refine{y,(EZ n).mpr {Y,by rw[<-O];lia},?_};rw[H];simpa using d
 .rintro⟨y,Y,q⟩;let(m,E):=(EZ n).mp Y;let(c,d,f):=ka h e m;refine{pb b W j y,by simpa using c,?_};unfold TZ;rw[f];simp?[zF,zJ]at q ⊢;exact{d,q,by lia}
abbrev sW(G T:Γ Pl)(W:Γ Wy)(P:Γ Int)(b:θ)(j:Nat)(o:Int)(x y z:Slot):aq:=[.val<|aW G T W,.val<|ai P,.val<|.int<|sI b,.val<|nD j,.val<|.int o,x,y,z]
abbrev sY(G T:Γ Pl)(W:Γ Wy)(P:Γ Int)(k:Nat):aq:=[.val<|aW G T W,.val<|ai P,.val<|nD k,.val<|.int (aV W k).1,.val<|.int (aV W k).2.1,.val<|.int (aV W k).2.2]
def lwB:aq->Δ Out:=ahc
def rQ(h:Wd G T W)(s:P.length=W.length)(S:Sm P)(b:θ){k:Nat}(hk:k<W.length):dQ [aW G T W,ai P,.int<|sI b,.int<|bh b<|aV W k,.int<|cm b<|aV W k]=↑(.bool<|AQ b G T W P k):=by
 have hw:=h.wl;let(z1,z2,z3):=h.aaM b hk;have H:(bL b G T)[(bh b<|aV W k).toNat]?=↑(gP b G T (bh b<|aV W k).toNat):=by
  rw[zK z2];simp[gP,z2]
 have q:∀i,i<W.length->bh b (aV W i)=((bh b<|aV W k).toNat:Int)->cm b (aV W i)∈(gP b G T (bh b<|aV W k).toNat).2:=λi I C=>by
  have u:=(iy h H).mem_iff.mpr (gc.mpr {I,C}:i∈own b W ((bh b<|aV W k).toNat:Int));unfold lC at u;let(y,Y,D):=List.mem_map.mp u;have F:=(ka h H Y).2.2
  grind
 have g:=q k hk z3.symm;have O:=Ta (P:=P) h H<|cm b<|aV W k;have M:AQ b G T W P k=(decide (mW b W P ((bh b<|aV W k).toNat:Int)<(gP b G T (bh b<|aV W k).toNat).1)||((gP b G T (bh b<|aV W k).toNat).2.drop<|pF (gP b G T (bh b<|aV W k).toNat).2 (cm b<|aV W k)+1).any λo=>decide (0<P.getD (pb b W ((bh b<|aV W k).toNat:Int) o) 0)):=by
  rw[AQ,z3]
 rw[M,<-O];have z:PyData.int (bh b<|aV W k)=nD (bh b<|aV W k).toNat:=by grind
 rw[z];generalize L:gP b G T (bh b<|aV W k).toNat=p at *;generalize K:(bh b<|aV W k).toNat=j at *;generalize N:cm b (aV W k)=o at *;clear M O z;have r:aK (.tuple<|(bL b G T).map cE) (nD j)=↑(cE p):=iW H;refine bb ?_;show k9 (sW G T W P b j o .non .non .non)=_;unfold k9;have t:afC (aI<|sW G T W P b j o .non .non .non)=↑(decide (mW b W P j<p.1)):=by
  exact aF<|ak (iQ _ _) (call_of (nz h s S b j) rfl rfl)<|ak (a:=cE p) (b:=.int 0) rfl (ak r (ak (mF b G T W) rfl rfl) rfl) rfl
 cases hc:decide (mW b W P j<p.1)with
 |true =>
  rw[hc]at t;exact fR ((br t).trans<|ba rfl)
 |false =>
  rw[hc]at t;rw[au<|bB t,Bool.false_or];have R:∀d:Dl.Env,ae 0 d=↑(aW G T W)->ae 2 d=↑(.int<|sI b)->ae 3 d=↑(nD j)->aea d=↑(ai p.2):=λd w A B=>ak (a:=cE p) (b:=.int 1) rfl (ak r (ak (mF b G T W) w A) B) rfl;rw[au<|bS (R _ rfl rfl rfl) (R _ rfl rfl rfl) rfl];let(f1,f):=eF (tgt:=g9 6 7) (gb:=lwB) (λd=>∃x y,d=(sW G T W P b j o (.val<|ai p.2) x y)) (λi:Nat=>.tuple [.int<|P.getD i 0,aM<|aV W i]) (TZ b W P p.2 j o) (λ_=>.bool true)
   (l:=List.range W.length) (ρ:=(sW G T W P b j o (.val<|ai p.2) .non .non))
   (λd i I m=>by
    let(x,y,rfl):=m;have c:ahb (aI<|sW G T W P b j o (.val<|ai p.2) (.val<|.int<|P.getD i 0)<|.val<|aM<|aV W i)=↑(TZ b W P p.2 j o i):=by
     have c1:ag8 (aI<|sW G T W P b j o (.val<|ai p.2) (.val<|.int<|P.getD i 0)<|.val<|aM<|aV W i)=↑(decide (bh b (aV W i)=((j:Nat):Int))):=aF<|ak (bf _ _) (ak (ke b _) rfl rfl) rfl;unfold TZ;cases E:decide (bh b (aV W i)=((j:Nat):Int))with
     |false=>rw[E]at c1;exact zx c1
     |true =>
      rw[E]at c1;refine uJ c1 ?_;have c2:ag9 (aI<|sW G T W P b j o (.val<|ai p.2) (.val<|.int<|P.getD i 0)<|.val<|aM<|aV W i)=↑(decide (0<P.getD i 0)):=aF<|ak (cN _ _) rfl rfl;cases n:decide (0<P.getD i 0)with
      |false=>rw[n]at c2;exact zx c2
      |true =>
       rw[n]at c2;refine uJ c2<|(aF<|ak (cN _ _) (ak (FQ<|q i (by grind)<|by grind) rfl (ak (by cases b<;>rfl) rfl (ak (sub_int 1<|sI b) rfl rfl)))<|ak (FQ g) rfl rfl).trans ?_;simp
    refine{_,rfl,λQ=>?_,λQ=>?_}
    .rw[Q]at c;exact(br c).trans<|ba rfl
    .rw[Q]at c;exact{_,bB c,_,_,rfl}) {_,_,rfl}
  have Z:lu ag2 (bx<|sW G T W P b j o (.val<|ai p.2) .non .non)=↑((List.range W.length).map λi=>.tuple [.int<|P.getD i 0,aM<|aV W i]):=by
   rw[<-tN s];rfl
  cases e:(List.range W.length).find? _ with
  |some i =>
   have:=List.any_eq_true.mpr {i,List.mem_of_find?_eq_some e,List.find?_some e};rw[this];exact fR (dW (f1 i e) Z rfl)
  |none =>
   have:(List.range W.length).any (TZ b W P p.2 j o)=false:=by
    rw[List.any_eq_false];exact List.find?_eq_none.mp e
   rw[this];let(J,v,X,U,rfl):=f e;exact(au<|dW v Z rfl).trans<|ba rfl
def Cu(H:f (bx ρ)=↑(.tuple [x,y,z]))(a:hand I 0 ρ=ρ):lZ i j l I f ρ=↑(.nx<|((ρ.set i<|.val x).set j<|.val y).set l<|.val z):=by
 rw[lZ,a,H,zA];simp
def Hi(h:Wd G T W)(p:P.length=W.length)(s:Sm P)(hk:k<W.length):nM [aW G T W,ai P,nD k]=↑(RK<|gM G T W P k):=by
 apply bb;unfold uH gM;apply(au<|Cu (ak (Dy hk) rfl rfl:adx (bx [.val<|aW G T W,.val<|ai P,.val _,.non,.non,.non])=↑_) rfl).trans;have c1:(fB<|f2 bc adw<|ae 5) (aI<|sY G T W P k)=↑_:=aF<|ak (bf _ _) (ak (jz (by rw[p];lia)) rfl rfl) rfl;have c2:(cD<|fB<|aj 5 dQ<|aa (ae 0)<|aa (ae 1)<|aa (fC _)<|aa (ae 3) acS) (aI<|sY G T W P k)=↑_:=cL<|aF<|call_of (rQ h p s false hk) rfl rfl;have c3:(fB<|aj 5 dQ<|aa (ae 0)<|aa (ae 1)<|aa (fC _)<|aa (ae 4) ab8) (aI<|sY G T W P k)=↑_:=aF<|call_of (rQ h p s true hk) rfl rfl;by_cases e:P.getD k 0=(aV W k).2.2
 .rw[yA e]at c1;rw[yK e];exact fR<|(br c1).trans<|ba rfl
 .rw[zZ e]at c1;rw[yM e];apply(au<|bB c1).trans;cases E:AQ false G T W P k with
  |false =>
   rw[E]at c2;exact fR ((br c2).trans<|ba rfl)
  |true =>
   rw[E]at c2;apply(au<|bB c2).trans;cases a:AQ true G T W P k with
   |false =>
    rw[a]at c3;exact ba (mn c3 rfl)
   |true =>
    rw[a]at c3;exact ba<|iO c3 rfl
def sh(k q:Nat):Nat:=if q<k then q else q+1
def nk(k:Nat):Nat->θ:=λq=>!decide (q=k)
def fL(L:Γ Pl)(i:Nat)(x:Int):Γ Pl:=L.set i ((L.getD i (0,[])).1,(L.getD i (0,[])).2.filter λy=>!decide (y=x))
section
variable {G T:Γ Pl}{W:Γ Wy}{P X:Γ Int}{b:θ}{i k q:Nat}
def eT(T:Γ Pl)(W:Γ Wy)(k:Nat):Γ Pl:=fL T (aV W k).2.1.toNat (aV W k).1
def of_map(b:θ)(i:Int):∀{W V:Γ Wy},W.map (λw=>(w.1,w.2.1))=V.map (λw=>(w.1,w.2.1))->(W.filter λw=>decide (bh b w=i)).map (cm b)=(V.filter λw=>decide (bh b w=i)).map (cm b)
 |[],[],_=>rfl
 |[],_::_,e=>by cases e
 |_::_,[],e=>by cases e
 |w::W,v::V,e=>by
  simp?[zI,kO,Prod.mk.injEq]at e;have E:bh b w=bh b v:=by cases b<;>simp[bh,e.1]
  have a:cm b w=cm b v:=by cases b<;>simp[cm,bh,e.1]
  have I:=of_map b i (W:=W) (V:=V) e.2;rw[jU,jU,E];split
  .rw[zI,zI,I,a]
  .exact I
end
section
open Ex
abbrev YD:Str:="NoWorld"
abbrev ZT:Str:="NoPlan"
abbrev Yx:Str:="NoPlace"
structure Eg(m:List D->Option D)(x:List D->Option Str)(ds:List D)(c:Str):Prop where
 n:m ds=none
 x:x ds=↑c
structure Qt(m:List D->Option D)(x:List D->Option Str)(ds:List D):Prop where
 n:m ds=↑.none
 x:x ds=none
section
variable {m:Γ D->Δ D}{x:Γ D->Δ Str}{ds:Γ D}{c:Str}{n:Nat}{fs:Dl.Env->Δ (Γ D)}{ρ:aq}
def W0(h:m ds=none){ρ:Dl.Env}(f:fs ρ=↑ds):aj n m fs ρ=none:=by
 unfold aj;rw[f,zA,h];simp
def xcS(h:x ds=↑c){ρ:Dl.Env}(f:fs ρ=↑ds)(H:ds.length=n):FU n x fs ρ=↑c:=by
 unfold FU;rw[f,zA,yK H,h]
def xcN(h:x ds=none){ρ:Dl.Env}(f:fs ρ=↑ds):FU n x fs ρ=none:=by
 unfold FU;rw[f,zA,h];simp
def Zv(h:f (aI ρ)=none):lG f ρ=none:=by
 unfold lG;rw[h];rfl
def Eg.one(B:Eg m x ds c)(f:fs (aI ρ)=↑ds)(H:ds.length=n):lG (aj n m fs) ρ=none/\uV (FU n x fs) ρ=↑c:={Zv<|W0 B.n f,xcS B.x f H}
def Qt.one(B:Qt m x ds)(f:fs (aI ρ)=↑ds)(H:ds.length=n):lG (aj n m fs) ρ=↑(.nx ρ)/\uV (FU n x fs) ρ=none:={l9<|call_of B.n f H,xcN B.x f}
def Eg.head(B:Eg m x ds c)(f:fs (aI ρ)=↑ds)(H:ds.length=n):az (lG<|aj n m fs) g ρ=none/\m9 (uV<|FU n x fs) (lG<|aj n m fs) xr ρ=↑c:=by
 let(a,b):=B.one f H;constructor
 .unfold az;rw[a];rfl
 .unfold m9;rw[b]
def Qt.tail(B:Qt m x ds)(f:fs (aI ρ)=↑ds)(H:ds.length=n):az (lG<|aj n m fs) g ρ=g ρ/\m9 (uV<|FU n x fs) (lG<|aj n m fs) xr ρ=xr ρ:=by
 let(a,b):=B.one f H;constructor
 .exact au a
 .unfold m9 On;rw[b,a];rfl
def runN(h:g (ds.map Slot.val++List.replicate (n-ds.length) .non)=none):bK g n ds=none:=by
 unfold bK;rw[h];rfl
def X3(h:t (aI ρ)=↑true):MR t xa xb ρ=xa ρ:=by
 unfold MR;rw[h,zA,yK rfl]
def SH(h:t (aI ρ)=↑false):MR t xa xb ρ=xb ρ:=by
 unfold MR;rw[h,zA,yM<|by simp]
end
section
variable {G T:Γ Pl}{W:Γ Wy}{P X:Γ Int}{b:θ}{i:Nat}
def YJ(h:b9 [d]=↑(.bool false)):Eg eB gg [d] YD:=by
 have c:zq5 (aI [.val d])=↑true:=cL<|aF<|call_of h rfl rfl;exact{runN<|br c,X3 c}
def Zw(h:Wd G T W):Qt eB gg [aW G T W]:={nh h,SH<|cL<|aF<|call_of (uZ h) rfl rfl}
def RL(h:b9 [d]=↑(.bool false)):Eg bq bE [d,p] YD:=
 let z:=(YJ h).head rfl rfl
 {runN z.1,z.2}
def WK(h:Wd G T W)(H:fM [aW G T W,p]=↑(.bool false)):Eg bq bE [aW G T W,p] ZT:=by
 have c:afv (aI [.val _,.val p])=↑true:=cL<|aF<|call_of H rfl rfl;exact{runN<|((Zw h).tail rfl rfl (xr:=qw)).1.trans<|br c,((Zw h).tail rfl rfl (g:=fI)).2.trans<|X3 c}
def ZW(h:Wd G T W)(p:Pn G T W P):Qt bq bE [aW G T W,ai P]:=
 {dP h p,((Zw h).tail rfl rfl (g:=fI)).2.trans<|SH<|cL<|aF<|call_of (m6 h p) rfl rfl}
def Zb(H:iR d=true)(h:whole a e d=false):Eg eC gf [d,.int a,.int e] Yx:=by
 have c:aeb (aI [.val d,.val _,.val _])=↑true:=cL<|aF<|call_of ((eL H a e).trans<|by rw[h]) rfl rfl;exact{runN<|br c,X3 c}
def okH(H:iR d=true)(h:whole a e d=true):Qt eC gf [d,.int a,.int e]:=by
 have c:aeb (aI [.val d,.val _,.val _])=↑false:=cL<|aF<|call_of ((eL H a e).trans<|by rw[h]) rfl rfl;refine{?_,SH c};show(dw [.val d,.val _,.val _]).map _=_;rw[show dw _=↑_ from bB c];rfl
def VQ(H:iR d=true)(h:whole 0 (n-1) d=false):Eg b8 cT [d,.int n] Yx:=
 let z:=(Zb H h).one rfl rfl
 {runN z.1,z.2}
def okN(H:iR d=true)(h:whole 0 (n-1) d=true):Qt b8 cT [d,.int n]:=by
 have z:=(okH H h).one (ρ:=[.val d,.val<|.int n]) (fs:=aa (ae 0)<|aa (fC _) ahd) rfl rfl;refine{?_,z.2};show(cW [.val d,.val _]).map _=_;rw[show cW _=_ from z.1];rfl
def iM(h:Wd G T W)(H:iR d=true)(l:long W.length W.length d=false):fM [aW G T W,d]=↑(.bool false):=by
 apply bb;have w:∀c ,ae 0 c=↑_->f2 aK _ (fC _) c=↑_:=λc a=>ak (sD G T W) a rfl;apply(au<|bS (w _ rfl) (w _ rfl) rfl).trans;have e:∀c ,ae 2 c=↑(.tuple<|W.map aM)->bT bX _ c=↑_:=λc=>zi;exact fR<|(br<|cL (b:=false)<|aF<|call_of ((eR H W.length W.length).trans<|by grind) (cons_of rfl (cons_of (e _ rfl)<|cons_of (e _ rfl) rfl)) rfl).trans<|ba rfl
def BN{ds:Γ D}(h:ds.length≠n):long (n:Int) n (.tuple ds)=false:=by
 rw[tV];exact zZ h
def di(j:Int):D:=.tuple [.str "refused",.int j]
def abb(b:θ):PyData.eqv (.bool b) (.bool true)=b:=by cases b<;>simp[PyData.eqv]
def Ay(j:Int):PyData.eqv (di j) (di j)=true:=NM λd H=>by
 simp  at H;rcases H with rfl|rfl
 .rfl
 .exact Jz j
def BU(j:Int):∀n ,SeqAt.shaped (.list<|List.replicate n<|di j)=true:=λn=>by
 have h:∀n ,PyData.canLayAll0 (List.replicate n<|di j)=true/\PyData.depthAll (List.replicate n<|di j)<=2:=λn=>by
  have d:PyData.depth (di j)<=2:=by simp[di,PyData.depth,PyData.depthAll]
  induction n with
  |zero=>exact{by rfl,by simp[PyData.depthAll]}
  |succ n i=>exact{by simp[xD,PyData.canLayAll0,(show PyData.canLay0 (di j)=true by simp[di,PyData.canLay0,PyData.canLayAll0];decide +kernel),i.1],by simp[xD,PyData.depthAll];lia}
 have:=h n;rw[SeqAt.shaped,zF];exact{by simp[PyData.canLay0,this.1],by simp[PyData.depth];lia}
def Lj(j:Int)(n:Nat):PyData.eqv (.list<|List.replicate n<|di j) (.list<|List.replicate n<|di j)=true:=by
 exact iN λd H=>by rw[List.eq_of_mem_replicate H];exact Ay j
def HZ(j:Int)(n:Nat):bc (.list<|List.replicate n<|di j) (.list<|List.replicate n<|di j)=↑(.bool true):=by simp[bc,Tw,BU,jM,xG,Lj,zB]
def Gr(a:α):∀n ,(List.replicate n [a]).flatten=List.replicate n a
 |0=>rfl
 |n+1=>by simp
def Li(j:Int){n:Nat}(H:n<=10)(ρ:Dl.Env):dh (BC (dD<|aa (aX<|aa (fC<|.str "refused")<|aa (fC<|.int j) ag) ag)<|fC<|.int n) ρ=↑(.list<|List.replicate n<|di j):=by
 apply nY;have g:=by
  have:=K3 (ds:=[di j]) (k:=n) (sT<|by lia) (by rw[xB,Nat.one_mul,yG];exact yD H<|by decide);rw[yG]at this;omega
 have hc:fC (.int n) ρ=↑_:=rfl;rw[BC,(nR (cons_of (tup_is rfl (by simp)) rfl) (by simp):dD (aa (aX<|aa (fC _)<|aa (fC _) ag) ag) ρ=↑[di j]),zA,hc,zA,g,Gr]
end
end
section
variable {G T:Γ Pl}{W:Γ Wy}{P X:Γ Int}{b k n:Nat}{d:D}{c:Str}
def Zd{g1 g2:aq->Δ Out}{ρ:aq}(h:g1 ρ=none):az g1 g2 ρ=none:=by
 unfold az;rw[h];rfl
def W1{t u:Dl.Env->Δ θ}{ρ:Dl.Env}(h:t ρ=↑true):pU t u ρ=↑true:=by
 unfold pU;rw[h];rfl
def Ge{t u:Dl.Env->Δ θ}{ρ:Dl.Env}{r:Δ θ}(h:t ρ=↑false)(H:u ρ=r):pU t u ρ=r:=by
 unfold pU;rw[h];exact H
def Ov(h:Wd G T W):b9 [.tuple [.tuple<|G.map cE,.tuple<|T.map cE]]=↑(.bool false):=by
 rfl
def uY(j:Int):SeqAt.shaped (di j)=true:=by
 simp[SeqAt.shaped,di,PyData.canLay0,PyData.canLayAll0,PyData.depth,PyData.depthAll];decide +kernel
def uj(j:Int):gq (di j) (di j)=↑(.bool false):=by simp?[gq,RY,uY,jM,xG,Ay,zB];rfl
def YI{f:Dl.Env->Δ D}{fl fh:Dl.Env->Δ _}{ρ:Dl.Env}{ds:Γ D}{lo hi:Δ Int}(h:f ρ=↑(.tuple ds))(l:fl ρ=↑lo)(H:fh ρ=↑hi):fQ cY f fl fh ρ=↑(.tuple<|cut ds lo hi):=by
 simp[fQ,h,l,H,zA,cY]
def WI{g:Dl.Env->Δ D}{ρ:Dl.Env}{i:Int}(h:g ρ=↑(.int i)):rN g ρ=↑(↑i):=by
 simp[rN,h,gI,zA,zB]
def V8{g:D->Δ D}{f:Dl.Env->Δ D}{ρ:Dl.Env}(h:f ρ=↑d):f1 g f ρ=g d:=by unfold f1;rw[h];rfl
def ixL{ds:Γ D}{i:Int}(H:0<=i)(h:i<(ds.length:Int)):aK (.list ds) (.int i)=↑(ds.getD i.toNat .none):=by
 have:i.toNat<ds.length:=by lia
 show vy ds i=_;unfold vy QP;rw[yK H,yK h,zA];simp[this]
end
section
variable {G T:Γ Pl}{W:Γ Wy}{P X:Γ Int}{b:θ}{i j k:Nat}{w d:D}{c:Str}
def xo{tgt:aq->D->Δ aq}{gb:aq->Δ Out}{ρ a b:aq}{d:D}{ds:Γ D}(H:tgt ρ d=↑a)(c:gb a=↑(.nx b)):gL tgt gb (d::ds) ρ=gL tgt gb ds b:=by
 rw[gL,H,zA,c];rfl
end
section
variable {G T:Γ Pl}{W:Γ Wy}{P X c:Γ Int}
def jf{f:Dl.Env->Δ D}{ρ:Dl.Env}{α:Type}{g:α->D}{r:Γ α}(h:f ρ=↑(.list<|r.map g)):bT bX (aa f ag) ρ=↑(nD r.length):=by
 rw[AE h];show some _=_;simp
end
def Ec(b:θ)(G T:Γ Pl)(W:Γ Wy)(P:Γ Int)(i:Nat):Δ Nat:=((lst b G T W i).filter λq=>decide (0<vl P q)).getLast?
def se(b:θ)(G T:Γ Pl)(W:Γ Wy)(P:Γ Int)(i:Nat):Δ Nat:=if mW b W P i<amt b G T i then none else Ec b G T W P i
def dec(o:Δ Nat)(P:Γ Int):Γ Int:=match o with
 |none=>P
 |some g=>P.set g<|P.getD g 0-1
def ou(G T:Γ Pl)(W:Γ Wy)(P:Γ Int)(k:Nat):Γ Int:=dec (se true G T W P<|dZ true W k)<|dec (se false G T W P<|dZ false W k)<|P.set k<|P.getD k 0+1
section
variable {G T:Γ Pl}{W:Γ Wy}{P:Γ Int}{b:θ}{i k q g:Nat}{o:Δ Nat}
def V4:∀l:Γ Nat,sm l (λ_=>0)=0
 |[]=>rfl
 |q::l=>by rw[bU,V4 l];rfl
def dz:(dec o P).length=P.length:=by cases o<;>simp[dec]
def qh:(dec o P).getD q 0=P.getD q 0-(if o=↑q/\q<P.length then 1 else 0):=by
 cases o with
 |none=>simp[dec]
 |some g =>
  show(P.set g _).getD q 0=_;rw[BO];by_cases e:g=q
  .subst e;by_cases l:g<P.length
   .rw[yK {rfl,l},yK {rfl,l}]
   .rw[yM λz=>l z.2,yM λz=>l z.2];lia
  .rw[yM λz=>e z.1,yM λz=>e<|xC z.1];lia
def KJ:(P.set k<|P.getD k 0+1).getD q 0=P.getD q 0+(if k=q/\q<P.length then 1 else 0):=by
 rw[BO];by_cases e:k=q/\q<P.length
 .rw[yK e,yK e,e.1]
 .rw[yM e,yM e];lia
def BH(h:Ec b G T W P i=↑g):g∈lst b G T W i/\0<vl P g:=by
 have:=List.mem_of_getLast? h;rw[List.mem_filter,zJ]at this;lia
def LZ(h:Ec b G T W P i=none):∀q∈lst b G T W i,vl P q<=0:=λq H=>by
 unfold Ec at h;rw[List.getLast?_eq_none_iff,List.filter_eq_nil_iff]at h;have:=h q H;rw[zJ]at this;lia
def K0(h:Wd G T W)(hi:i<(bL b G T).length)(e:Ec b G T W P i=↑g)(Q:q∈lst b G T W i)(p:0<vl P q):q∈up (lst b G T W i) g:=by
 let(y,S):=List.getLast?_eq_some_iff.mp e;refine Classical.byContradiction λz=>?_;have f:=(BH e).1;let(zs,E,k):=FP (mK h hi) f;have Z:q∈zs:=by
  grind
 have s:(up (lst b G T W i) g).filter (λq=>decide (0<vl P q))++zs.filter (λq=>decide (0<vl P q))=y++[g]:=by
  rw[<-List.filter_append,<-E];exact S
 have H:zs.filter _≠[]:=λw=>by
  have:q∈zs.filter (λq=>decide (0<vl P q)):=List.mem_filter.mpr {Z,yA p};rw[w]at this;cases this
 let(j,u,U):=List.eq_nil_or_concat _ |>.resolve_left H |> λ⟨a,c,e⟩=>({a,c,by simpa using e}:∃j u,zs.filter _=j++[u])
 rw[U,<-List.append_assoc]at s;have d:=by
  have:=qZ List.getLast? s;simpa using this
 subst d;have:u∈zs:=(List.mem_filter.mp (by rw[U];simp)).1;exact k u this<|Gm f
def C7(h:Wd G T W)(p:Pn G T W P)(hk:k<W.length)(e:AQ b G T W P k=true) :
  (mW b W P (dZ b W k)<amt b G T (dZ b W k)/\se b G T W P (dZ b W k)=none)\/(mW b W P (dZ b W k)=amt b G T (dZ b W k)/\∃g,se b G T W P (dZ b W k)=↑g/\g∈lst b G T W (dZ b W k)/\0<vl P g/\g≠k):=by
 have i:=lY h b hk;have H:=p.am b _ i;by_cases c:mW b W P (dZ b W k)<amt b G T (dZ b W k)
 .exact .inl {c,by rw[se,yK c]}
 .refine .inr {?_,?_}
  .have:mW b W P _<=amt b G T _:=H;lia
  .have N:¬Fl b G T W P k:=λz=>by rw[(V0 h p b hk).mpr z]at e;cases e
   have n:sm (lst b G T W<|dZ b W k) (vl P)=amt b G T (dZ b W k):=by
    rw[<-lQ h i];have:mW b W P (dZ b W k)<=amt b G T (dZ b W k):=H;lia
   let(y,E,d):=FP (mK (b:=b) h i)<|IZ h b hk;have S:sm (lst b G T W<|dZ b W k) (vl P)=sm (up (lst b G T W<|dZ b W k) k) (vl P)+sm y (vl P):=by
    rw[<-Mf,<-E]
   have Y:0<sm y (vl P):=by
    have s:=QC (l:=y) λq _=>p.nn q;refine Classical.byContradiction λz=>N ?_;unfold Fl;lia
   obtain⟨q,Q,o⟩:∃q∈y,0<vl P q:=Classical.byContradiction λz=>by
    have:=Fe (l:=y) (f:=vl P) (g:=λ_=>0) λq Q=>Classical.byContradiction λw=>z {q,Q,by lia};have r:=V4 y;lia
   have L:q∈lst b G T W (dZ b W k):=by rw[E];exact yE _ Q
   cases a:Ec b G T W P _ with
   |none=>have:=LZ a q L;lia
   |some g =>
    let(j,m):=BH a;refine{g,by rw[se,yM c,a],j,m,λz=>?_};subst z;exact d q Q<|K0 h i a L o
def uu(h:Wd G T W)(p:Pn G T W P)(hk:k<W.length)(e:gM G T W P k=3):P.getD k 0<(aV W k).2.2/\∀b,AQ b G T W P k=true:=by
 have H:=(p.bd k hk).2;unfold gM at e;by_cases a:P.getD k 0=(aV W k).2.2
 .rw[yK a]at e;cases e
 .rw[yM a]at e;by_cases E:AQ false G T W P k=false
  .rw[yK E]at e;cases e
  .rw[yM E]at e;by_cases c:AQ true G T W P k=false
   .rw[yK c]at e;cases e
   .exact⟨by lia,λb=>by
    cases b
    .exact Bool.not_eq_false _ |>.mp E
    .exact Bool.not_eq_false _ |>.mp c⟩
def sF(o:Δ Nat)(q:Nat):Int:=if o=↑q then 1 else 0
def Lk(n:l.Nodup):sm l (sF o)=match o with|some g=>if g∈l then 1 else 0|none=>0:=by
 induction l with
 |nil=>cases o<;>rfl
 |cons x l i =>
  rw[List.nodup_cons]at n;rw[bU,i n.2];cases o with
  |none=>rfl
  |some g =>
   show(if some g=↑x then(1:Int)else 0)+(if g∈l then 1 else 0)=if g∈x::l then 1 else 0
   by_cases e:g=x
   .subst e;rw[yK rfl,yM n.1,yK zE];rfl
   .rw[yM λz=>e<|xC z];by_cases E:g∈l
    .rw[yK E,yK<|zC _ E];rfl
    .rw[yM E,yM (by rw[zQ,not_or];exact⟨e,E⟩)];rfl
def Ub(l:Γ Nat)(f g:Nat->Int):sm l (λq=>f q+g q)=sm l f+sm l g:=by
 induction l with
 |nil=>rfl
 |cons x l i=>rw[bU,bU,bU,i];lia
def T1(l:Γ Nat)(f g:Nat->Int):sm l (λq=>f q-g q)=sm l f-sm l g:=by
 induction l with
 |nil=>rfl
 |cons x l i=>rw[bU,bU,bU,i];lia
abbrev g0(b:θ)(G T:Γ Pl)(W:Γ Wy)(P:Γ Int)(k:Nat):Δ Nat:=se b G T W P<|dZ b W k
def E1:(ou G T W P k).length=P.length:=by unfold ou;rw[dz,dz,yC]
def LG(H:q<P.length):(ou G T W P k).getD q 0=P.getD q 0+sF (↑k) q-sF (g0 false G T W P k) q-sF (g0 true G T W P k) q:=by
 unfold ou sF;rw[qh,qh,KJ,dz,yC];simp?[H,and_true,yJ]
def uM:0<=sF o q:=by unfold sF;split<;>lia
def R4:sF o q<=1:=by unfold sF;split<;>lia
def pL(h:Wd G T W)(p:Pn G T W P)(hk:k<W.length)(e:gM G T W P k=3)(b:θ){g:Nat}(H:g0 b G T W P k=↑g):g<W.length/\dZ b W g=dZ b W k/\0<vl P g/\g≠k:=by
 rcases C7 h p hk ((uu h p hk e).2 b)with ⟨_,z⟩|⟨_,g',z,h1,h2,h3⟩
 .rw[show se b G T W P (dZ b W k)=↑g from H]at z;cases z
 .rw[show se b G T W P (dZ b W k)=↑g from H]at z;cases z;let(a,A):=(k7 h<|lY h b hk).mp h1;exact{a,A,h2,h3}
def PR(h:Wd G T W)(hk:k<W.length)(H:g<W.length)(b:θ)(e:dZ b W g=dZ b W k)(E:dZ (!b) W g=dZ (!b) W k):g=k:=by
 have z:∀c,bh c (aV W g)=bh c (aV W k)↔dZ c W g=dZ c W k:=λc=>by
  have a:=(h.aaM c H).2.2;have d:=(h.aaM c hk).2.2;unfold dZ;lia
 apply u6 h.wp H hk<|(z b).mpr e;have:=(z _).mpr E;cases b<;>exact this
def Ry(h:Wd G T W)(p:Pn G T W P)(hk:k<W.length)(e:gM G T W P k=3)(H:g0 b G T W P k=↑g):dZ (!b) W g≠dZ (!b) W k:=λz=>by
 let(a,A,_,c):=pL h p hk e b H;exact c<|PR h hk a b A z
def Aq(h:Wd G T W)(p:Pn G T W P)(hk:k<W.length)(e:gM G T W P k=3):Pn G T W (ou G T W P k):=by
 let(f1,f2):=uu h p hk e;have a:∀q,q<W.length->(ou G T W P k).getD q 0=P.getD q 0+sF (↑k) q-sF (g0 false G T W P k) q-sF (g0 true G T W P k) q:=λq Q=>LG (by rw[p.len];lia);refine{by rw[E1,p.len],λq Q=>?_,λb i H=>?_}
 .rw[a q Q];have B:=p.bd q Q;have N:=uM (o:=g0 false G T W P k) (q:=q);have d:=uM (o:=g0 true G T W P k) (q:=q);have m:=uM (o:=↑k) (q:=q);constructor
  .have O:∀b,g0 b G T W P k=↑q->g0 (!b) G T W P k≠some q:=λb z1 z2=>by
    have:=Ry h p hk e z1;exact this (pL h p hk e (!b) z2).2.1
   unfold sF at N d ⊢;by_cases c0:g0 false G T W P k=↑q
   .have:=(pL h p hk e false c0).2.2.1;rw[yK c0,yM (show ¬g0 true G T W P k=↑q from O false c0)];have:0<P.getD q 0:=this;lia
   .rw[yM c0];by_cases c1:g0 true G T W P k=↑q
    .have:=(pL h p hk e true c1).2.2.1;have:0<P.getD q 0:=this;lia
    grind
  .by_cases c:k=q
   .subst c;have:=R4 (o:=↑k) (q:=k);lia
   .have:sF (↑k) q=0:=by unfold sF;grind
    lia
 .have n:=mK h H;rw[lQ h H];have E:sm _ (vl _)<=sm _ (λq=>vl P q+sF (↑k) q-sF (g0 b G T W P k) q):=Fe λq Q=>by
   show(ou G T W P k).getD q 0<=_;rw[a q<|((k7 h H).mp Q).1];have N:=uM (o:=g0 false G T W P k) (q:=q);have d:=uM (o:=g0 true G T W P k) (q:=q);show _<=P.getD q 0+sF _ q-sF _ q;cases b<;>lia
  have f:sm (lst b G T W i) (λq=>vl P q+sF (↑k) q-sF (g0 b G T W P k) q)=sm (lst b G T W i) (vl P)+sm (lst b G T W i) (sF<|↑k)-sm (lst b G T W i) (sF<|g0 b G T W P k):=by
   rw[T1,Ub]
  rw[f,Lk n,Lk n]at E;have A:=p.am b i H;rw[lQ h H]at A;have j:(gP b G T i).1=amt b G T i:=rfl;by_cases c:dZ b W k=i
  .subst c;rcases C7 h p hk (f2 b)with ⟨z1,z2⟩|⟨z1,g,z2,z3,_,_⟩
   .rw[lQ h H]at z1
    grind
   grind
  .have l:=λz=>c ((k7 h H).mp z).2
   grind
def Qc(G T:Γ Pl)(W:Γ Wy)(P:Γ Int)(k:Nat):Γ Int:=
 let l1:=dec (se false G T W P<|dZ false W k) P;let l2:=dec (se true G T W l1<|dZ true W k) l1
 l2.set k (l2.getD k 0+1)
def GA(h:Wd G T W)(hi:i<(bL b G T).length){X:Γ Int}(e:∀q∈lst b G T W i,vl X q=vl P q):se b G T W X i=se b G T W P i:=by
 have E:Ec b G T W X i=Ec b G T W P i:=by
  unfold Ec;rw[List.filter_congr λq H=>by rw[e q H]]
 unfold se;rw[(show mW b W X i=mW b W P i by rw[lQ h hi,lQ h hi];exact Bb e),E]
def OO(h:Wd G T W)(p:Pn G T W P)(hk:k<W.length)(e:gM G T W P k=3):Qc G T W P k=ou G T W P k:=by
 have g:se true G T W (dec (se false G T W P<|dZ false W k) P) _=se true G T W P _:=GA h (lY h true hk) λq H=>by
  show(dec _ P).getD q 0=P.getD q 0;rw[qh];by_cases c:se false G T W P (dZ false W k)=↑q/\q<P.length
  .exact absurd ((k7 h<|lY h true hk).mp H).2<|Ry h p hk e c.1
  grind
 refine N2 ?_ λq H=>?_
 .rw[E1];simp[Qc,yC,dz]
 .have H:=by unfold Qc at H;simpa only[yC,dz]using H
  rw[LG H];unfold Qc sF;rw[KJ,qh,qh];simp[dz,H,and_true,yJ]
  grind
end
section
variable {G T:Γ Pl}{W:Γ Wy}{P c:Γ Int}{b:θ}{i k g:Nat}
def ixl{l:Γ D}{x:D}(h:l.getLast?=↑x):aK (.list l) (.int<|-1)=↑x:=by
 have n:0<l.length:=by
  cases l with
  |nil=>cases h
  |cons _ _=>simp
 show vy l _=_;rw[vy,QP,yM<|by lia,yK<|by lia,zA,show((-1:Int)+l.length).toNat=l.length-1 by lia,<-List.getLast?_eq_getElem?];lia
def MW(h:Wd G T W)(hi:i<(bL b G T).length):(lst b G T W i).length<=16:=by
 have hw:=h.wl;rw[(oY h hi).length_eq];apply yD<|xO _ _;rw[zR];lia
def P9(h:Wd G T W)(p:P.length=W.length)(hi:i<(bL b G T).length)(H:Ec b G T W P i=↑g):eO [aW G T W,ai P,.int<|sI b,nD i]=↑(nD g):=by
 have l:=MW h hi;apply bb;refine ba<|ak (a:=.list<|((lst b G T W i).filter λq=>decide (0<vl P q)).map nD) (ixl ?_) ?_ rfl
 .rw[List.getLast?_map];unfold Ec at H;rw[H];rfl
 .show dh _ [↑_,↑_,↑_,↑_]=_;simp[dh,(nQ (Ng<|call_of (xt h<|pV hi) rfl rfl) (by lia) λq Q=>{aF<|ak (cN _ _) (ak (jz (by rw[p];exact((k7 h hi).mp Q).1)) rfl rfl) rfl,λ_=>rfl}:aD 1 [1] ahe _ (fB<|f2 Dl.yc (f2 aK (ae 1)<|ae 0)<|fC _) (ae 0) [↑_,↑_,↑_,↑_]=↑(((lst b G T W i).filter λq=>decide (0<vl P q)).map nD)),zB]
def NR(h:Wd G T W)(hk:k<W.length)(b:θ):aK (aM<|aV W k) (.int<|sI b)=↑(nD<|dZ b W k):=by
 rw[ke,<-(h.aaM b hk).2.2];rfl
def Kw(h:Wd G T W)(hi:i<(bL b G T).length){f fb fi:Dl.Env->Δ D}{ρ:Dl.Env}(hw:f ρ=↑(aW G T W))(H:fb ρ=↑(.int<|sI b))(F:fi ρ=↑(nD i)):f2 aK (f2 aK (f2 aK f fb) fi) (fC<|.int 0) ρ=↑(.int<|amt b G T i):=
 ak rfl (ak (iW<|pV hi) (ak (mF b G T W) hw H) F) rfl
def puB:aq->Δ Out:=aes
abbrev Yr(G T:Γ Pl)(W:Γ Wy)(P:Γ Int)(k:Nat)(c:Γ Int)(x x5 x6:Slot):aq:=[.val<|aW G T W,.val<|ai P,.val<|nD k,.val<|ai c,x,x5,x6]
def Fn(h:Wd G T W)(p:Pn G T W P)(hk:k<W.length)(e:gM G T W P k=3)(b:θ)(hc:c.length=W.length){x5 x6:Slot}:∃y Y,puB (Yr G T W P k c (.val<|.int<|sI b) x5 x6)=↑(.nx<|Yr G T W P k (dec (g0 b G T W P k) c) (.val<|.int<|sI b) y Y):=by
 have hw:=h.wl;have i:=lY h b hk;have s:∀a ,ae 0 a=↑_->ae 2 a=↑(nD k)->ae 4 a=↑_->f2 aK (f2 aK (f2 aK _<|fC _) _) _ a=↑_:=λa A o =>
  ak (NR h hk b) (ak (iW<|by simp[aV,hk]) (ak (sD G T W) A rfl) o)
 have t:∀a ,ae 0 a=↑_->ae 1 a=↑_->ae 4 a=↑_->ae 5 a=↑_->fB (f2 bc (aj 4 eW<|aa _<|aa _<|aa _<|aa _ ag) _) a=↑_:=λa A n f j =>
  aF (ak (bf _ _) (call_of (rm h p.len (p.smP h) b _) (cons_of A<|cons_of n<|cons_of f<|cons_of j rfl) rfl)<|Kw h i A f j)
 rcases C7 h p hk ((uu h p hk e).2 b)with ⟨z1,z2⟩|⟨z1,g,z2,z3,_,_⟩
 .refine{.val<|nD<|dZ b W k,x6,(au<|bS (s _ rfl rfl rfl) (s _ rfl rfl rfl) rfl).trans ?_};apply(bB<|(t _ rfl rfl rfl rfl).trans<|by rw[zZ<|by lia]).trans;show _=↑(Out.nx<|Yr G T W P k (dec (se b G T W P _) c) _ _ x6);rw[z2];rfl
 .refine{.val<|nD<|dZ b W k,.val<|nD g,(au<|bS (s _ rfl rfl rfl) (s _ rfl rfl rfl) rfl).trans ?_};apply(br<|(t _ rfl rfl rfl rfl).trans<|by grind).trans;have H:Ec b G T W P (dZ b W k)=↑g:=by
   unfold se at z2
   grind
  have w:=((k7 h i).mp z3).1;have m:=P9 h p.len i H;apply(au<|bS (call_of m rfl rfl) (call_of m rfl rfl) rfl).trans;have E:∀a ,ae 3 a=↑(ai c)->ae 6 a=↑(nD g)->aj 3 fV (aa _<|aa _<|aa (f2 Dl.eK _<|fC<|.int 1) ag) a=↑_:=λa d l =>
   call_of (ub (by lia)<|by lia) (cons_of d<|cons_of l<|cons_of (ak (sub_int _ _) (ak (jz<|by lia) d l) rfl) rfl) rfl
  apply(bS (E _ rfl rfl) (E _ rfl rfl) rfl).trans;show _=↑(Out.nx<|Yr G T W P k (dec (se b G T W P _) c) _ _ _);rw[z2];rfl
def rT(h:Wd G T W)(p:Pn G T W P)(hk:k<W.length)(e:gM G T W P k=3):gp [aW G T W,ai P,nD k]=↑(ai<|ou G T W P k):=by
 have hw:=h.wl;have H:=p.len;apply bb;have E:∀a ,ae 1 a=↑(ai P)->ae 2 a=↑(nD k)->aj 3 fV (aa _<|aa _<|aa (f2 Dl.aC _<|fC<|.int 1) ag) a=↑_:=λa A b =>
  call_of (ub (by lia)<|by lia) (cons_of A<|cons_of b<|cons_of (ak rfl (ak (jz<|by lia) A b) rfl) rfl) rfl
 apply(au<|bS (E _ rfl rfl) (E _ rfl rfl) rfl).trans;let(y,Y,q):=Fn (c:=P.set k _) h p hk e false (by grind);let(z5,z,q2):=Fn (c:=dec (g0 false G T W P k)<|P.set k<|P.getD k 0+1) h p hk e true (by rw[dz,yC];lia);apply(au<|dW ((xo rfl q).trans<|(xo rfl q2).trans rfl) rfl rfl).trans;rfl
def qf(h:Wd G T W)(p:P.length=W.length)(s:Sm P):bI [aW G T W,ai P]=↑(.list<|(ll G T W P).map nD):=by
 have hw:=h.wl;apply bb;have c:aD 1 [0,1] ady _ (fB<|f2 sk aeB<|fC _) (ae 0) [↑_,↑_]=↑((ll G T W P).map nD):=
  nQ (uK (jj p rfl)<|by lia) (by rw[zR];lia) λk hk=>{aF<|ak (yy _<|D6 G T W P k) (call_of (Hi h p s<|by simpa using hk) rfl rfl) rfl,λ_=>rfl}
 apply ba;show dh _ [↑_,↑_]=_;simp[dh,c,zB]
def Yb:aq->Δ Out:=aeE
def Y7:aq->Δ Out:=(gX [0] (cz afw) (g9 5 6) Yb)
abbrev CJ(G T:Γ Pl)(W:Γ Wy)(P:Γ Int)(b:θ)(i:Nat)(x x5 x6:Slot):aq:=[.val<|aW G T W,.val<|ai P,.val<|.int<|sI b,.val<|nD i,x,x5,x6]
def E9{f fi x:Dl.Env->Δ D}{ρ:Dl.Env}{v:Int}(G:g<P.length)(l:P.length<=1000)(H:f ρ=↑(ai P))(a:fi ρ=↑(nD g))(b:x ρ=↑(.int v)):f2 Dl.aC (f2 Dl.aC (fQ cY f gK<|rN fi)<|aX<|aa x ag) (fQ cY f (rN<|f2 Dl.aC fi<|fC<|.int 1) gK) ρ=↑(ai<|P.set g v):=by
 refine ak ?_ (ak (ow ?_) (Kd H a)<|Et b)<|LH H<|ak (dJ _ _) a rfl
 .rw[ow,sC P g _ G]
  .rfl
  .rw[sC P g _ G];simp;lia
 grind
def E3{t u:Dl.Env->Δ θ}{ρ:Dl.Env}{x y:θ}(h:t ρ=↑x)(H:u ρ=↑y):fy t u ρ=↑(x&&y):=by
 cases x
 .exact zx h
 .exact uJ h H
def OV(h:Wd G T W)(p:P.length=W.length){o:Int}{j:Nat}(J:j<W.length):
  let q:=(decide (bh b (aV W j)=i)&&(decide (cm b (aV W j)=o)&&decide (0<P.getD j 0)))
  (q=true->Yb (CJ G T W P b i (.val<|.int o) (.val<|nD j)<|.val<|aM<|aV W j)=↑(.rt<|ai<|P.set j<|P.getD j 0-1))/\(q=false->Yb (CJ G T W P b i (.val<|.int o) (.val<|nD j)<|.val<|aM<|aV W j)=↑(.nx<|CJ G T W P b i (.val<|.int o) (.val<|nD j)<|.val<|aM<|aV W j)):=by
 have hw:=h.wl;intro q;have t:fy aeD (fy (fB<|f2 bc (f2 aK (ae 6)<|f2 Dl.eK (fC _)<|ae 2)<|ae 4)<|fB<|f2 Dl.yc adB<|fC _) (aI<|CJ G T W P b i (.val _) (.val _)<|.val _)=↑q:=E3 (aF<|ak (bf _ _) (ak (ke b _) rfl rfl) rfl)<|E3 (aF<|ak (bf _ _) (ak (Gp b _) rfl (ak (sub_int _ _) rfl rfl)) rfl)<|aF<|ak (cN _ _) (ak (jz<|by lia) rfl rfl) rfl;exact{λH=>(br<|t.trans<|by rw[H]).trans<|ba<|E9 (by lia) (by lia) rfl rfl (ak (sub_int _ _) (ak (jz<|by lia) rfl rfl) rfl),λH=>(bB<|t.trans<|by rw[H]).trans rfl}
def P7(h:Wd G T W)(r:P.length=W.length)(hi:i<(bL b G T).length){o:Int}(O:o∈(gP b G T i).2){x5 x6:Slot} :
  (decide (0<P.getD (pb b W i o) 0)=true->Y7 (CJ G T W P b i (.val<|.int o) x5 x6)=↑(.rt<|ai<|P.set (pb b W i o)<|P.getD (pb b W i o) 0-1))/\(decide (0<P.getD (pb b W i o) 0)=false->∃y Y,Y7 (CJ G T W P b i (.val<|.int o) x5 x6)=↑(.nx<|CJ G T W P b i (.val<|.int o) y Y)):=by
 let(m,A,f):=ka h (pV hi) O;have u:∀j,j<W.length->bh b _=i->cm b _=o->j=pb b W i o:=λj J E p=>u6 h.wp J m (by rw[E,A]) (by rw[p,f]);let q:=λj=>decide (bh b (aV W j)=i)&&(decide (cm b (aV W j)=o)&&decide (0<P.getD j 0));have k:=eF (tgt:=g9 5 6) (λg=>∃y Y,g=CJ G T W P b i (.val<|.int o) y Y) (λj=>.tuple [nD j,aM _]) q _ (l:=List.range' 0 W.length)
  (λg j J d=>by
   let(y,Y,rfl):=d;let(r1,R):=OV h r (by simpa using J);exact{CJ G T W P b i _ _ _,rfl,r1,λQ=>{_,R Q,_,_,rfl}}) {x5,x6,rfl}
 have a:Y7 (CJ G T W P b i (.val<|.int o) x5 x6)=gL (g9 5 6) Yb ((List.range' 0 W.length).map λj=>.tuple [nD j,aM<|aV W j]) (CJ G T W P b i (.val<|.int o) x5 x6):=by
  rw[<-yp];rfl
 rw[a];constructor
 .intro H;apply k.1 _;rw[List.find?_eq_some_iff_append];refine{by simp?[q,A,f,H,jN,jI],?_};let(x,s,e):=List.append_of_mem (show pb b W i o∈List.range' 0 W.length by grind);refine{x,s,e,λz Z=>?_};have n:(List.range' 0 W.length).Nodup:=List.nodup_range';rw[e,wN]at n;have c:=by
   have:z∈List.range' 0 W.length:=by rw[e];exact qG _ Z
   simpa using this
  rw[yO];refine Bool.eq_false_iff.mpr λw=>(n.2.2 z Z _ zE) ?_;simp[q,zF,zJ]at w;exact u z c w.1 w.2.1
 .intro H;let(t,E,y,Y,rfl):=k.2 (by
   rw[List.find?_eq_none];intro z Z w;simp?[q,zF,zJ]at w;have:=u z (by simpa using Z) w.1 w.2.1;subst this;rw[yA w.2.2]at H;cases H)
  exact{y,Y,E}
def LS(b:θ)(G T:Γ Pl)(W:Γ Wy)(P:Γ Int)(i:Nat):Ec b G T W P i=((gP b G T i).2.reverse.find? λo=>decide (0<P.getD (pb b W i o) 0)).map (pb b W i):=by
 unfold Ec lst lC;rw[kA,List.getLast?_map,List.getLast?_eq_head?_reverse,<-List.filter_reverse,List.head?_filter];rfl
def vc(h:Wd G T W)(p:P.length=W.length)(S:Sm P)(hi:i<(bL b G T).length):eU [aW G T W,ai P,.int<|sI b,nD i]=↑(ai<|dec (se b G T W P i) P):=by
 apply bb;show(az _ _) (CJ G T W P b i _ _ _)=_;have t:fB (f2 Dl.AN afx<|f2 aK afB _) (aI<|CJ G T W P b i .non .non .non)=↑_:=aF<|ak (iQ _ _) (call_of (nz h p S b _) rfl rfl)<|Kw h hi rfl rfl rfl;by_cases c:mW b W P i<amt b G T i
 .rw[g8<|(br<|t.trans<|by rw[yA c]).trans _,se,yK c];rfl
 .apply (au<|(bB<|t.trans<|by rw[zZ c]).trans rfl).trans;rw[(show se b G T W P i=Ec b G T W P i by rw[se,yM c]),LS];have k:=eF (tgt:=CY 4) (λd=>∃a y Y,d=CJ G T W P b i a y Y) .int _ _ (ρ:=CJ G T W P b i .non .non .non)
   (λd o O H=>by
    let(a,y,Y,rfl):=H;let(r1,r):=P7 h p hi<|List.mem_reverse.mp O;refine{CJ G T W P b i _ y Y,rfl,r1,λq=>?_};let(z5,z,e):=r q;exact{_,e,_,_,_,rfl}) {_,_,_,rfl}
  have s:dg (f1 Qs aea) (bx<|CJ G T W P b i .non .non .non)=↑((gP b G T i).2.reverse.map .int):=by
   refine EX (V8 (ak rfl (ak (iW<|pV hi) (ak (mF b G T W) rfl rfl) rfl) rfl) |>.trans ?_);rw[List.map_reverse];rfl
  cases f:(gP b G T i).2.reverse.find? _ with
  |some o=>exact g8 (dW (k.1 o f) s rfl)
  |none =>
   let(g,E,a,y,Y,rfl):=k.2 f;exact(au<|dW E s rfl).trans<|ba rfl
end
section
variable {G T:Γ Pl}{W:Γ Wy}{P c:Γ Int}{b:θ}{i k g:Nat}
def U1(h:Wd G T W)(p:Pn G T W P)(o:Δ Nat):Sm (dec o P):=λq=>by
 have H:=p.smP h q;have a:0<=P.getD q 0:=p.nn q;rw[qh];lia
def nE(h:Wd G T W)(p:Pn G T W P)(hk:k<W.length)(e:gM G T W P k=3):gy [aW G T W,ai P,nD k]=↑(ai<|ou G T W P k):=by
 have hw:=h.wl;have H:=p.len;rw[<-OO h p hk e];refine bb ?_;show(az (lZ 3 4 5 _ _) _) _=_;have g:∀b,.int (bh b _)=nD (dZ b W k):=λb=>by
  rw[<-(h.aaM b hk).2.2];rfl
 have w:f2 aK zq7 (ae 2) (bx [.val<|aW G T W,.val<|ai P,.val<|nD k,.non,.non,.non,.non])=↑(.tuple [nD<|dZ false W k,nD<|dZ true W k,.int (aV W k).2.2]):=by
  refine ak ((iW (x:=aV W k)<|by simp[aV,hk]).trans ?_) (ak (sD G T W) rfl rfl) rfl;rw[<-g false,<-g true];rfl
 apply(au<|Cu w rfl).trans;have E:∀a ,ae 0 a=↑_->ae 1 a=↑_->ae 3 a=↑_->ae 4 a=↑_->aj 4 eU (aa _<|aa (aj 4 eU<|aa _<|aa _<|aa (fC _)<|aa _ ag)<|aa (fC _)<|aa _ ag) a=↑_:=λa A c d f =>
  call_of (vc h (by rw[dz];lia) (U1 h p _)<|lY h true hk) (cons_of A<|cons_of (call_of (vc h H (p.smP h)<|lY h false hk) (cons_of A<|cons_of c<|cons_of rfl (cons_of d rfl)) rfl)<|cons_of rfl (cons_of f rfl)) rfl
 apply(au<|bS (E _ rfl rfl rfl rfl) (E _ rfl rfl rfl rfl) rfl).trans;exact ba<|E9 (by rw[dz,dz];lia) (by rw[dz,dz];lia) rfl rfl (ak (dJ _ _) (ak (jz (by rw[dz,dz];lia)) rfl rfl) rfl)
def QU(G T:Γ Pl)(W:Γ Wy)(s:Γ (Γ Int)):Δ (Γ<|Γ Int):=match s.getLast? with
 |none=>none
 |some P=>match(ll G T W P).head? with
  |none=>none
  |some k=>if ou G T W P k∈s then none else↑(s++[ou G T W P k])
def QX(G T:Γ Pl)(W:Γ Wy):Nat->Γ (Γ Int)->Γ (Γ Int)
 |0,s=>s
 |n+1,s=>match QU G T W s with
  |none=>s
  |some S=>QX G T W n S
abbrev tJ(G T:Γ Pl)(W:Γ Wy)(P:Γ Int):Γ (Γ Int):=QX G T W Rf.turns [P]
def nJ{S:Type}{t:Dl.Env->Δ θ}{gb:aq->Δ Out}{f:Dl.Env->Δ D}(R:S->aq->Prop)(x:S->Δ S)(w:Nat->S->S)(fin:S->D)(b:S->Nat)(W:∀s n,x s=none->w (n+1) s=s)(c:∀s n s',x s=↑s'->w (n+1) s=w n s')
  (A:∀s ρ,R s ρ->x s=none->(t (aI ρ)=↑false/\f (aI ρ)=↑(fin s))\/(t (aI ρ)=↑true/\gb ρ=↑(.rt<|fin s)))
  (B:∀s ρ s',R s ρ->x s=↑s'->t (aI ρ)=↑true/\(∃ρ',gb ρ=↑(.nx ρ')/\R s' ρ')/\b s'<b s) :
  ∀n s ρ,R s ρ->b s<n->az (ID t gb n) (bg f) ρ=↑(.rt<|fin<|w n s)
 |0,_,_,_,h=>absurd h (vN _)
 |n+1,s,ρ,r,m=>by
  cases e:x s with
  |none =>
   rw[W s n e];rcases A s ρ r e with ⟨H,a⟩|⟨H,a⟩
   .rw[az,ID,H,zA,yM<|by simp,zA];exact ba a
   .rw[az,ID,H,zA,yK rfl,a];rfl
  |some s' =>
   let(H,(ρ',a,d),g):=B s ρ s' r e;rw[c s n s' e,<-nJ R x w fin b W c A B n s' ρ' d<|by lia,az,ID,H,zA,yK rfl,a];rfl
def Mn{s:Γ _}{n:Nat}(h:QU G T W s=none):QX G T W (n+1) s=s:=by rw[QX,h]
def Jv{s s':Γ _}{n:Nat}(h:QU G T W s=↑s'):QX G T W (n+1) s=QX G T W n s':=by rw[QX,h]
def Cp:∀{L l:Γ (Γ Int)},l.Nodup->(∀x∈l,x∈L)->l.length<=L.length
 |_,[],_,_=>xU _
 |L,x::l,n,h=>by
  rw[List.nodup_cons]at n;have:=Cp n.2 λy H=>(List.mem_erase_of_ne (show y≠x fromλz=>n.1<|z▸H)).mpr<|h y<|zC _ H
  grind
def Vs:Nat->Γ (Γ Int)
 |0=>[[]]
 |n+1=>(Vs n).flatMap λr=>[0::r,1::r,2::r]
def E7:∀n,(Vs n).length=3^n
 |0=>rfl
 |n+1=>by
  rw[Vs,List.length_flatMap];simp?[zL,xJ];rw[List.map_const',List.sum_replicate_nat,E7 n,Nat.pow_succ]
def F0:∀{r:Γ Int},(∀x∈r,0<=x/\x<=2)->r∈Vs r.length
 |[],_=>List.mem_singleton.mpr rfl
 |x::r,h=>by
  have i:=F0 λy H=>h y<|zC _ H;have X:=h x zE;rw[zL,Vs,List.mem_flatMap]
  grind
structure Mp(G T:List Pl)(W:List Wy)(s:List (List Int)):Prop where
 ne:s≠[]
 pn:∀P∈s,Pn G T W P
 nd:s.Nodup
def Mp.few(f:Mp G T W s)(a:∀w∈W,w.2.2<=2)(hw:W.length<=9):s.length<=19683:=by
 have:=Cp (L:=Vs W.length) f.nd λP b=>by
  have p:=f.pn P b;rw[<-p.len];refine F0 λx X=>?_;let(q,Q,rfl):=qM X;have H:q<W.length:=by rw[<-p.len];exact Q
  have B:=p.bd q H;have l:=a _<|vb H;rw[zG,zK Q,qE]at B;lia
 rw[E7]at this;refine yD this ?_;exact Nat.pow_le_pow_right (by lia) hw
def sG(e:(ll G T W P).head?=↑k):k<W.length/\gM G T W P k=3:=by
 have:=List.mem_of_mem_head? e;rw[ll,List.mem_filter,zS,zJ]at this;lia
def ze(h:Wd G T W)(f:Mp G T W s)(e:QU G T W s=↑s'):∃P k,s.getLast?=↑P/\Pn G T W P/\(ll G T W P).head?=↑k/\¬ou G T W P k∈s/\s'=s++[ou G T W P k]/\Mp G T W s':=by
 unfold QU at e;cases d:s.getLast? with
 |none=>rw[d]at e;cases e
 |some P =>
  rw[d]at e;have p:=f.pn P<|List.mem_of_getLast? d;simp only at e;cases E:(ll G T W P).head? with
  |none=>rw[E]at e;cases e
  |some k =>
   rw[E]at e;simp only at e;by_cases c:ou G T W P k∈s
   .rw[yK c]at e;cases e
   .rw[yM c]at e;cases e;let(hk,y):=sG E;refine{P,k,rfl,p,E,c,rfl,by simp,λX H=>?_,?_}
    .rcases List.mem_append.mp H with z|z
     .exact f.pn X z
     .rw[List.mem_singleton.mp z];exact Aq h p hk y
    .rw[wN];exact{f.nd,by simp,λa A b B z=>c (by rw[List.mem_singleton.mp B]at z;exact z▸A)}
def EW(f:Mp G T W s)(e:QU G T W s=none):∃P,s.getLast?=↑P/\Pn G T W P/\((ll G T W P).head?=none\/∃k,(ll G T W P).head?=↑k/\ou G T W P k∈s):=by
 unfold QU at e;cases E:s.getLast? with
 |none=>exact absurd (List.getLast?_eq_none_iff.mp E) f.ne
 |some P =>
  rw[E]at e;have p:=f.pn P<|List.mem_of_getLast? E;refine{P,rfl,p,?_};simp only at e;cases a:(ll G T W P).head? with
  |none=>exact .inl rfl
  |some k =>
   rw[a]at e;simp only at e;by_cases c:ou G T W P k∈s
   .exact .inr {k,rfl,c}
   .rw[yM c]at e;cases e
def Jr(h:Wd G T W):∀n{s:Γ _},Mp G T W s->Mp G T W (QX G T W n s)
 |0,s,f=>f
 |n+1,s,f=>by
  cases e:QU G T W s with
  |none=>rw[Mn e];lia
  |some S =>
   let(_,_,_,_,_,_,_,F):=ze h f e;rw[Jv e];exact Jr h n F
def WG(o:Δ Nat):D:=match o with
 |some k=>nD k
 |none=>.none
def Os(h:Wd G T W)(p:Pn G T W P):cw [aW G T W,ai P]=↑(WG (ll G T W P).head?):=by
 rw[sf h p.len<|p.smP h];unfold ll;rw[List.head?_filter];rfl
def Gb(o:Δ Nat):mY (WG o) .none=↑(.bool o.isSome):=by cases o<;>rfl
def lW{l:Γ (Γ Int)}{P:Γ Int}(h:l.getLast?=↑P):aK (.list<|l.map ai) (.int<|-1)=↑(ai P):=ixl (by rw[List.getLast?_map,h];rfl)
def jd{i:Nat}{z:Γ Nat}{f:Dl.Env->Δ D}{ρ:aq}{l:Γ Int}(A:f (aI ρ)=↑(ai l))(F:f (bx<|hand z 0 ρ)=↑(ai l)):Dl.aR i z f ρ=↑(.nx<|ρ.set i<|.val<|ai l):=by
 have n:fH (ai l)=true:=by
  clear A F
  induction l with
  |nil=>rfl
  |cons x l I=>exact I
 simp[Dl.aR,A,zA,show Dl.ki (ai l)=false from rfl,yN,qL,F,zB,n,xG]
end
section
variable {G T:Γ Pl}{W:Γ Wy}{P c:Γ Int}{b:θ}{i k g:Nat}{s:Γ (Γ Int)}
def E4{i:Nat}{z:Γ Nat}{f:Dl.Env->Δ D}{ρ:aq}{d:D}{ds:Γ D}(A:f (aI ρ)=↑d)(F:f (bx<|hand z 0 ρ)=↑d)(H:hand z 0 ρ=ρ)(o:ρ[i]?=↑(.own ds))(l:ds.length<sizeLine):nA i z f ρ=↑(.nx<|ρ.set i<|.own<|ds++[d]):=by
 rw[H]at F;rw[nA,uz,A,zA];split
 .simp?[zA,u5,o,yK l,zB]
 .simp?[H,F,zB,zA,u5,o,yK l]
def Gh{i j:Nat}{g1 g2:aq->Δ Out}{ρ:aq}{r:Γ Int}{k:Γ _}(H:ρ[i]?=↑(.val<|ai r))(a:ρ[j]?=↑(.tab k)):wR i j g1 g2 ρ=if k.contains r=true then g1 ρ else g2 ρ:=by
 rw[wR,H,a,show Dv (↑(.val<|ai r))=↑r from bO r,show tabS _=↑k from rfl];rfl
def O5{j i:Nat}{f:Dl.Env->Δ D}{ρ:aq}{r:Γ Int}{k:Γ _}{d:D}(H:ρ[i]?=↑(.val<|ai r))(a:ρ[j]?=↑(.tab k))(F:f (aI ρ)=↑d)(s:Dl.ki d=true)(l:k.length<sizeLine)(n:k.contains r=false):wt j i f ρ=↑(.nx<|ρ.set j<|.tab<|k++[r]):=by
 rw[wt,H,a,show Dv (↑(.val<|ai r))=↑r from bO r,show tabS _=↑k from rfl,zA,zA,F,zA,s,yA l,n];rfl
def Fp(o:Δ Nat):Dl.ki (WG o)=true:=by cases o<;>rfl
def jl{l:Γ (Γ Int)}{r:Γ Int}(h:¬r∈l):l.contains r=false:=by
 rw[Bool.eq_false_iff];exactλz=>h<|List.contains_iff_mem.mp z
def QH(G T:Γ Pl)(W:Γ Wy)(s:Γ (Γ Int)):Δ Nat:=s.getLast?.bind λP=>(ll G T W P).head?
def waB:aq->Δ Out:=(az aey<|az (wR 5 3 ab7 fI)<|az (nA 2 [5]<|ae 5)<|az (wt 3 5<|fC<|.bool true) aeA)
abbrev Xw(G T:Γ Pl)(W:Γ Wy)(P:Γ Int)(s:Γ (Γ Int))(x x5:Slot):aq:=[.val<|aW G T W,.val<|ai P,.own<|s.map ai,.tab s,x,x5]
def Bp:19683<sizeLine:=by decide
def EY(h:Wd G T W){X:Γ Int}(p:Pn G T W X)(e:s.getLast?=↑X)(E:(ll G T W X).head?=↑k):Dl.aR 5 [0,2,4] aex (Xw G T W P s (.val<|nD k) x5)=↑(.nx<|Xw G T W P s (.val<|nD k)<|.val<|ai<|ou G T W X k):=by
 let(hk,y):=sG E;have hc:∀a ,ae 0 a=↑_->ae 2 a=↑_->ae 4 a=↑_->aj 3 gp (aa _<|aa (f2 aK _ acT)<|aa _ ag) a=↑_:=λa A b c =>
  call_of (rT h p hk y) (cons_of A<|cons_of (ak (lW e) b rfl)<|cons_of c rfl) rfl
 exact jd (hc _ rfl rfl rfl)<|hc _ rfl rfl rfl
def SJ(h:Wd G T W)(p:Pn G T W P)(l:∀w∈W,w.2.2<=2)(hw:W.length<=9):za [aW G T W,ai P]=↑(.list<|(tJ G T W P).map ai):=by
 refine bb ?_;show(az adz<|az acB<|az (ym 3 1<|fC<|.bool true)<|az aew<|az _ _) _=_;apply(au<|l9<|call_of (dP h p) rfl rfl).trans;have i:ym 3 1 (fC<|.bool true) [.val<|aW G T W,.val<|ai P,.own [ai P],.non,.non,.non]=↑(.nx [.val<|aW G T W,.val<|ai P,.own [ai P],.tab [P],.non,.non]):=by
  rw[ym,show Dv ([.val _,.val<|ai P,.own _,.non,.non,.non][1]?)=↑P from bO P];rfl
 apply(au i).trans;have c:∀X,Pn G T W X->∀a ,∀f ,ae 0 a=↑_->f a=↑_->aj 2 cw (aa _<|aa f ag) a=↑_:=λX H a f A g=>call_of (Os h H) (cons_of A<|cons_of g rfl) rfl;apply(au<|bM (c P p _ _ rfl rfl)<|Fp _).trans;refine nJ (λs a=>Mp G T W s/\∃x,a=Xw G T W P s (.val<|WG<|QH G T W s) x) _ _ (λs=>.list _) (λs=>19684-s.length) (λs n=>Mn) (λs n S=>Jv) ?_ ?_ Rf.turns [P] _ {({by simp,λX H=>by rw[List.mem_singleton.mp H];exact p,by simp}),.non,rfl} (by show 19684-1<1000000;lia)
 .rintro s a ⟨f,x,rfl⟩ e;let(X,b,H,E):=EW f e;have d:QH G T W s=(ll G T W X).head?:=by unfold QH;rw[b];rfl
  have t:∀x,(fB<|f2 mY (ae 4)<|fC _) (aI<|Xw G T W P s (.val<|WG<|QH G T W s) x)=↑_:=λx=>aF<|ak (Gb _) rfl rfl;rcases E with E|⟨k,E,m⟩
  .exact .inl {(t x).trans (by rw[d,E];rfl),rfl}
  .refine .inr {(t x).trans (by rw[d,E];rfl),?_};rw[d,E];refine(au<|EY h H b E).trans<|g8 ?_;rw[Gh rfl rfl,yK<|List.contains_iff_mem.mpr m];rfl
 .rintro s a S ⟨f,x,rfl⟩ e;let(X,k,b,H,E,m,rfl,F):=ze h f e;have d:QH G T W s=↑k:=by unfold QH;rw[b];exact E
  have L:=F.few l hw;rw[zN,xB]at L;have B:=Bp;let(hk,y):=sG E;refine{(aF<|ak (Gb _) rfl rfl).trans (by rw[d];rfl),{Xw G T W P _ _<|.val<|ai<|ou G T W X k,?_,F,_,rfl},by rw[zN,xB];lia};rw[d];apply(au<|EY h H b E).trans;apply(au<|(Gh rfl rfl).trans (by rw[yM (by rw[jl m];simp)];rfl)).trans;apply(au<|E4 rfl rfl rfl rfl (by rw[zD];lia)).trans;refine(au<|O5 rfl rfl rfl rfl (by lia) (jl m)).trans<|(bM (c _ (Aq h H hk y) _ _ rfl rfl)<|Fp _).trans ?_;have j:QH G T W (s++[ou G T W X k])=(ll G T W<|ou G T W X k).head?:=by unfold QH;simp
  rw[j];show some (Out.nx [_,_,Slot.own<|s.map ai++[ai<|ou G T W X k],_,_,_])=↑(Out.nx [_,_,Slot.own<|(s++[ou G T W X k]).map ai,_,_,_]);rw[qX];rfl
def X1(l:Γ Nat):gq (.list<|l.map nD) (.list [])=↑(.bool<|!decide (l=[])):=by
 have H:SeqAt.shaped (.list [])=true:=gz (l:=[]);simp[gq,RY,gz,H,jM,xG,PyData.eqv,vg,(show(l.map nD).isEmpty=decide (l=[])by cases l<;>rfl),zB]
def YW:aq->Δ Out:=aeL
abbrev WY(G T:Γ Pl)(W:Γ Wy)(P:Γ Int)(s:Γ (Γ Int))(x:Slot):aq:=[.val<|aW G T W,.val<|ai P,.own<|s.map ai,x]
def oK(h:Wd G T W)(p:Pn G T W P)(l:∀w∈W,w.2.2<=2)(hw:W.length<=9):iY [aW G T W,ai P]=↑(.list<|(tJ G T W P).map ai):=by
 refine bb ?_;show(az acB<|az (ID aeI YW Rf.turns) ab7) [.val<|aW G T W,.val<|ai P,.non,.non]=_;refine(au<|qk (ds:=[ai P]) rfl rfl).trans ?_;have N:∀{s:Γ (Γ Int)}{X:Γ Int},s.getLast?=↑X->Pn G T W X->∀d:Dl.Env,ae 0 d=↑(aW G T W)->ae 2 d=↑(.list<|s.map ai)->aj 2 bI aeF d=↑(.list<|(ll G T W X).map nD):=λE H d A j =>
  call_of (qf h H.len<|H.smP h) (cons_of A<|cons_of (ak (b:=.int<|-1) (lW E) j rfl) rfl) rfl
 have t:∀{s:Γ (Γ Int)}{X:Γ Int},s.getLast?=↑X->Pn G T W X->∀c,fB aeH (aI<|WY G T W P s c)=↑(!decide (ll G T W X=[])):=λE H c=>aF<|ak (X1 _) (N E H _ rfl rfl) rfl;have u:∀{s:Γ (Γ Int)}{X:Γ Int}{k:Nat},s.getLast?=↑X->Pn G T W X->(ll G T W X).head?=↑k->∀c,Dl.aR 3 [0,2] aeK (WY G T W P s c)=↑(.nx<|WY G T W P s<|.val<|ai<|ou G T W X k):=λ{s X k}E H g c=>by
  let(hk,y):=sG g;have hc:∀d:Dl.Env,ae 0 d=↑(aW G T W)->ae 2 d=↑(.list<|s.map ai)->aj 3 gy aeJ d=↑(ai<|ou G T W X k):=λd A j =>
   call_of (nE h H hk y) (cons_of A<|cons_of (ak (b:=.int<|-1) (lW E) j rfl) (cons_of (ak (a:=.list<|(ll G T W X).map nD) (b:=.int 0) (y0 (i:=0) (x:=k) (by rw[<-List.head?_eq_getElem?];lia)) (N E H d A j) rfl) rfl)) rfl
  exact jd (hc _ rfl rfl)<|hc _ rfl rfl
 refine nJ (λs d=>Mp G T W s/\∃c,d=WY G T W P s c) _ _ (λs=>.list _) (λs=>19684-s.length) (λs n=>Mn) (λs n S=>Jv) ?_ ?_ Rf.turns [P] _ {({by simp,λX H=>by rw[List.mem_singleton.mp H];exact p,by simp}:Mp G T W [P]),.non,rfl} (by show 19684-1<1000000;lia)
 .rintro s d ⟨f,c,rfl⟩ e;let(X,E,H,g):=EW f e;rcases g with g|⟨k,g,m⟩
  .exact .inl {(t E H c).trans<|by simp_all,rfl}
  .exact .inr {(t E H c).trans (by rw[zZ λz=>by grind];rfl),((au<|u E H g c).trans<|g8<|(br<|aF<|ak ((yf s _).trans<|by rw[yA m]) rfl rfl).trans<|ba rfl)}
 .rintro s d S ⟨f,c,rfl⟩ e;let(X,k,E,H,g,m,rfl,F):=ze h f e;have L:=F.few l hw;have B:=Bp;refine{(t E H c).trans (by rw[zZ λz=>by grind];rfl),{WY G T W P _<|.val<|ai<|ou G T W X k,?_,F,_,rfl},by grind};apply(au<|u E H g c).trans;apply(au<|(bB<|aF<|ak ((yf s _).trans<|by grind) rfl rfl).trans rfl).trans;apply(E4 rfl rfl rfl rfl (by grind)).trans;simp
def FZ(G T:Γ Pl)(W:Γ Wy)(P:Γ Int):Γ Int:=(tJ G T W P).getLast?.getD []
def LL(h:Wd G T W)(p:Pn G T W P):(tJ G T W P).getLast?=↑(FZ G T W P)/\Pn G T W (FZ G T W P):=by
 have f:Mp G T W (tJ G T W P):=Jr h _ {by simp,λX H=>by rw[List.mem_singleton.mp H];exact p,by simp};unfold FZ;cases e:(tJ G T W P).getLast? with
 |none=>exact absurd (List.getLast?_eq_none_iff.mp e) f.ne
 |some X=>exact{rfl,f.pn X<|List.mem_of_getLast? e}
end
open Ob Og
section
variable {ρ ρ':aq}{os os' os1 os2:Γ Oj}{g g1 g2:OG}{f fa fb:OF}{fs:CT}{ta tb:Mh}{d a b:D}{ds:Γ D}{C:Ψ}{i k n:Nat}{st st1 st2:Fs}{x m:Str}{r:RF}{rs:Iy}
def aJ(h:g1 ρ os=↑(.nx ρ' os')):bD g1 g2 ρ os=g2 ρ' os':=by unfold bD;rw[h];rfl
def sS(h:g1 ρ os=↑(.rt d os')):bD g1 g2 ρ os=↑(.rt d os'):=by unfold bD;rw[h];rfl
def bu{g:aq->Δ Out}(h:g ρ=↑(.nx ρ')):bC g ρ os=↑(.nx ρ' os):=by unfold bC;rw[h];rfl
def sM(h:f ρ os=↑(d,os')):vt f ρ os=↑(.nx ρ os'):=by unfold vt;rw[h];rfl
def P6(h:f ρ os=↑(d,os')):J4 i f ρ os=↑(.nx (ρ.set i<|.val d) os'):=by unfold J4;rw[h];rfl
def dR(h:f (hand I 0 ρ) os=↑(d,os')):cq I (i6 f) ρ os=↑(.rt d os'):=by unfold cq i6;rw[h];rfl
def fY(h:ta ρ os=↑(true,os')):vn ta g1 g2 ρ os=g1 ρ os':=by unfold vn;rw[h];rfl
def fP(h:ta ρ os=↑(false,os')):vn ta g1 g2 ρ os=g2 ρ os':=by unfold vn;rw[h];rfl
def MK:CW ρ os=↑(.nx ρ os):=rfl
def cX{f:Dl.Env->Δ D}(h:f (bx ρ)=↑d):oD f ρ os=↑(d,os):=by unfold oD;rw[h]
def eV{f:Dl.Env->Δ θ}{c:θ}(h:f (aI ρ)=↑c):oT f ρ os=↑(c,os):=by unfold oT;rw[h];rfl
def C2{g:D->D->Δ D}(G:g a b=↑d)(H:fa ρ os=↑(a,os1))(c:fb ρ os1=↑(b,os2)):Jg g fa fb ρ os=↑(d,os2):=by
 unfold Jg;rw[H,zA];show((fb ρ os1).bind λy=>(g a y.1).map (·,y.2))=_;rw[c,zA];show(g a b).map _=_;rw[G];rfl
def L3(h:f ρ os=↑(.bool c,os')):Ob.oB f ρ os=↑(c,os'):=by unfold Ob.oB;rw[h];rfl
def aU(H:f ρ os=↑(d,os1))(a:I ρ os1=↑(ds,os2)):cC f I ρ os=↑(d::ds,os2):=by
 rw[cC,H,zA,a];rfl
def cf:iA ρ os=↑([],os):=rfl
def mr{m:Γ D->Δ D}(H:m ds=↑d)(h:fs ρ os=↑(ds,os'))(N:ds.length=n):mw n m fs ρ os=↑(d,os'):=by
 unfold mw;rw[h,zA];show(if ds.length=n then(m ds).map (·,os')else none)=_;rw[yK N,H];rfl
def aB(H:ρ[i]?=↑(.obj k))(a:os[k]?=↑⟨C,st⟩):obj i C ρ os=↑(k,st):=by
 unfold obj;rw[H];show(match os[k]? with|some o=>if o.C=C then↑(k,o.st)else none|none=>none)=_;rw[a];exact yK rfl
def dY(h:obj i C ρ os=↑(k,st))(f:st.lookup x=↑(.val d)):oq i C x ρ os=↑(d,os):=by
 unfold oq
 grind
def sV(h:obj i C ρ os=↑(k,st))(f:st.lookup x=↑(.val d)):BP i C x ρ os=↑d:=by
 unfold BP;rw[h,zA];show(match st.lookup x with|some (.val d)=>↑d|_=>none)=_;rw[f]
def EH(h:obj i C ρ os=↑(k,st))(f:st.lookup x=↑(.lst ds)):ye i C x ρ os=↑(.int ds.length):=by
 unfold ye
 grind
def cR(H:r ρ os=↑d)(a:rs ρ os=↑ds):e9 r rs ρ os=↑(d::ds):=by unfold e9;rw[H,a];rfl
def FL(h:rs ρ os=↑ds)(l:ds.length<=1000):Ih rs ρ os=↑(.tuple ds):=by
 unfold Ih small;rw[h,zA,yK<|yD l<|by decide];rfl
def WE(h:r ρ os=↑d):oR r ρ os=↑(d,os):=by unfold oR;rw[h];rfl
def jg{mm:Γ Slot->Fs->Δ _}(h:obj i C ρ os=↑(k,st))(N:(st.lookup m).isNone=true)(a:fs ρ os=↑(ds,os1))(H:obj i C ρ os1=↑(k,st1))(l:ds.length+1=n)(M:mm (.obj 0::ds.map Slot.val) st1=↑(d,st2)):dE i C m n mm fs ρ os=↑(d,os1.set k {C,st2}):=by
 rw[dE,h,zA,yK N,a,zA,H,zA,yK l,M];rfl
def tw(h:f ρ os=↑(d,os1))(H:obj i C ρ os1=↑(k,st))(l:st.length<1000):tI i C x f ρ os=↑(.nx ρ<|os1.set k {C,fK x (.val d) st}):=by
 rw[tI,h,zA,H,zA];exact yK l
def uO(h:fl (bx ρ)=↑ds)(H:obj i C ρ os=↑(k,st))(l:st.length<1000):uy i C x fl ρ os=↑(.nx ρ<|os.set k {C,fK x (.lst ds) st}):=by
 unfold uy;rw[h,zA,H,zA];exact yK l
def LU(h:obj i C ρ os=↑(k,st))(f:st.lookup x=↑(.lst ds))(H:r ρ os=↑d)(l:ds.length<sizeLine):Bu i C x r ρ os=↑(.nx ρ<|os.set k {C,fK x (.lst<|ds++[d]) st}):=by
 rw[Bu,h,zA,f];show((r ρ os).bind _)=_;rw[H,zA];exact yK l
def KY(h:obj i C ρ os=↑(k,st))(n:(st.lookup m).isNone=true)(H:Vf y z st=↑(d,st1)):Vm i C m y z ρ os=↑(d,os.set k {C,st1}):=by
 rw[Vm,h,zA,yK n,H];rfl
def cM(h:g (ρ++List.replicate (n-ρ.length) .non) [⟨C,st⟩]=↑(.rt d [{C,st1}])):hV g C n ρ st=↑(d,st1):=by
 unfold hV;rw[h];exact yK rfl
def FR(h:g (ρ++List.replicate (n-ρ.length) .non) [⟨C,st⟩]=↑(.nx ρ' [{C,st1}])):hV g C n ρ st=↑(.none,st1):=by
 unfold hV;rw[h];exact yK rfl
def O3(h:g (ds.map Slot.val++List.replicate (n-ds.length) .non) []=↑(.rt d os)):Jw g n ds=↑d:=by
 unfold Jw;rw[h];rfl
def Qh(H:fi (bx<|hand I 0 ρ)=↑ds)(a:lP tgt g ds (hand I 0 ρ) os=↑o):KN I fi tgt g ρ os=↑o:=by
 rw[KN,H,zA];lia
end
section
variable {ρ ρ':aq}{os os' os1 os2:Γ Oj}{g g1 g2:OG}{f fa fb:OF}{fs:CT}{ta tb:Mh}{d a b:D}{ds:Γ D}{C:Ψ}{i j k n:Nat}{st st1 st2:Fs}{x y m:Str}
def Ik{mm:Γ Slot->Fs->Δ _}{fs:E5}(H:obj i C ρ os=↑(k,st))(h:fs ρ os=↑(sl,os1))(a:obj i C ρ os1=↑(k,st1))(l:sl.length=n)(m:mm sl st1=↑(d,st2)):p8 i C n mm fs ρ os=↑(d,os1.set k {C,st2}):=by
 rw[p8,H,zA,h,zA,a,zA,yK l,m];rfl
def Fq{s:Γ Slot}{g:E5}(H:f ρ os=↑(d,os1))(a:g ρ os1=↑(s,os2)):A4 f g ρ os=↑(.val d::s,os2):=by
 rw[A4,H,zA,a];rfl
def PJ{s:Γ Slot}{g:E5}(H:g ρ os=↑(s,os2)):Gv g ρ os=↑(.obj 0::s,os2):=by unfold Gv;rw[H];rfl
def P2:LW ρ os=↑([],os):=rfl
def va(h:hand I 0 ρ=ρ'):cq I g ρ os=g ρ' os:=by unfold cq;rw[h]
def ask{mm:Γ Slot->Fs->Δ _}(h:obj i C ρ os=↑(k,st1))(H:mm [.obj 0] st1=↑(d,st2))(n:(st1.lookup m).isNone=true:=by rfl):dE i C m 1 mm iA ρ os=↑(d,os.set k {C,st2}):=jg h n cf h rfl H
def uU(H:tgt ρ d=↑I)(a:gb I os=↑(.nx U os2)):lP tgt gb (d::ds) ρ os=lP tgt gb ds U os2:=by
 rw[lP,H,zA,a];rfl
def YT:20000<sizeLine:=by decide
def ud(H:tgt U d=↑ρ2)(a:gb ρ2 os1=↑(.nx ρ3 I)):∀{l:Γ D}{ρ:aq}{os:Γ Oj},lP tgt gb l ρ os=↑(.nx U os1)->lP tgt gb (l++[d]) ρ os=↑(.nx ρ3 I)
 |[],ρ,os,h=>by cases h;exact(uU H a).trans rfl
 |e::l,ρ,os,h=>by
  let(c,E,h):=bs h;let(o,b,h):=bs h;cases o with
  |nx Y Z=>exact(uU E b).trans (ud H a h)
  |rt d os=>grind
def xu(f:Nat->D)(R:Nat->aq->Γ Oj->Prop):∀n{ρ:aq}{os:Γ Oj},(∀j ρ os,j<n->R j ρ os->∃a b os2,tgt ρ (f j)=↑a/\gb a os=↑(.nx b os2)/\R (j+1) b os2)->R 0 ρ os->∃ρ' os',lP tgt gb ((List.range n).map f) ρ os=↑(.nx ρ' os')/\R n ρ' os'
 |0,ρ,os,_,h=>{ρ,os,rfl,h}
 |n+1,ρ,os,H,h=>by
  let(a,o,e,r1):=xu f R n (λj ρ os J=>H j ρ os<|by lia) h;let(b,c,O,E,d,r):=H n a o (by lia) r1;refine{c,O,?_,r};rw[vO,qX];exact ud E d e
def Im(a:fs ρ os=↑(ds,os1))(b:ρ.all (below os1.length)=true)(l:ds.length=n)(m:I (.obj 0::ds.map Slot.val) []=↑(.none,st)):uI i C n I fs ρ os=↑(.nx (ρ.set i<|.obj os1.length)<|os1++[⟨C,st⟩]):=by
 rw[uI,a,zA,yK ⟨b,l⟩,m];rfl
def zj(h:t (aI ρ)=↑true):A3 t fa fb ρ os=fa ρ os:=by unfold A3;rw[h];rfl
def Eb(h:t (aI ρ)=↑false):A3 t fa fb ρ os=fb ρ os:=by unfold A3;rw[h];rfl
def aay(h:t (aI ρ)=↑true):pS t xa xb ρ os=xa ρ os:=by unfold pS;rw[h];rfl
def aao(h:t (aI ρ)=↑false):pS t xa xb ρ os=xb ρ os:=by unfold pS;rw[h];rfl
def o9{fin:Str->Δ D}(h:gb ρ os=↑(.rt d os1)):Am gb xg fin ρ os=↑(.rt d os1):=by unfold Am;rw[h]
def An{fin:Str->Δ D}(h:gb ρ os=none)(H:xg ρ os=↑c)(a:fin c=↑d):Am gb xg fin ρ os=↑(.rt d os):=by
 unfold Am;rw[h];show((xg ρ os).bind _)=_;rw[H];show(fin c).map _=_;rw[a];rfl
def oC(h:g1 ρ os=none):bD g1 g2 ρ os=none:=by unfold bD;rw[h];rfl
def mH(h:f (hand I 0 ρ) os=none):cq I (i6 f) ρ os=none:=by unfold cq i6;rw[h];rfl
def FM(h:f ρ os=none):vt f ρ os=none:=by unfold vt;rw[h];rfl
def Cw{m:Γ D->Δ D}(H:m ds=none)(h:fs ρ os=↑(ds,os')):mw n m fs ρ os=none:=by
 rw[mw,h,zA,H];simp
def pK{mm:Γ Slot->Fs->Δ _}(h:obj i C ρ os=↑(k,st))(a:fs ρ os=↑(ds,os))(H:mm (.obj 0::ds.map Slot.val) st=none):dE i C m n mm fs ρ os=none:=by
 rw[dE,h,zA,a,zA,h,zA,H];simp
def JH{mm:Γ Slot->Fs->Δ _}(a:fs ρ os=none):dE i C m n mm fs ρ os=none:=by
 unfold dE;simp_all
def Ot(h:f ρ os=none):cC f I ρ os=none:=by unfold cC;rw[h];rfl
def Nt(H:f ρ os=↑(d,os1))(a:I ρ os1=none):cC f I ρ os=none:=by
 rw[cC,H,zA,a];rfl
def sU(h:g (ρ++List.replicate (n-ρ.length) .non) [⟨C,st⟩]=none):hV g C n ρ st=none:=by unfold hV;rw[h];rfl
def C4{xm:Γ D->Δ Str}(x:xm ds=↑c)(h:rs ρ os=↑ds)(l:ds.length=n):QQ n xm rs ρ os=↑c:=by
 unfold QQ;rw[h,zA,yK l,x]
def Ut{fa:Dl.Env->Δ D}{xb:XO}(h:obj i C ρ os=↑(k,st))(n:(st.lookup m).isNone=true)(a:fa (aI ρ)=↑d)(b:xb ρ os=↑c):X2 i C m fa xb ρ os=↑c:=by
 rw[X2,h,zA,yK n,a,zA,b]
def zg{xm:Γ Slot->Fs->Δ Str}(h:obj i C ρ os=↑(k,st))(N:(st.lookup m).isNone=true)(a:rs ρ os=↑ds)(l:ds.length+1=n)(H:xm (.obj 0::ds.map Slot.val) st=↑c):MP i C m n xm rs ρ os=↑c:=by
 rw[MP,h,zA,yK N,a,zA,yK l,H]
end
open  Ex
section
variable {G T:Γ Pl}{W:Γ Wy}{P:Γ Int}{k n:Nat}{w p q d v:D}{ds us:Γ D}{C:Ψ}
def Ak(hk:k<W.length):(∃i∈ll G T W P,((i:Nat):Int)=((k:Nat):Int))↔gM G T W P k=3:=by
 constructor
 .rintro⟨i,H,e⟩;obtain rfl:i=k:=by lia
  unfold ll at H;rw[List.mem_filter,zJ]at H;exact H.2
 .exactλe=>{k,by unfold ll;rw[List.mem_filter,zS,zJ];exact{hk,e},rfl}
def JS(h:Wd G T W)(q:Pn G T W P)(hk:k<W.length)(e:gM G T W P k=3):iD [aW G T W,ai P,nD k]=↑(ai<|ou G T W P k):=by
 apply bb;apply(au<|l9<|call_of (dP h q) rfl rfl).trans;apply(au<|l9<|call_of (ui (by lia)<|by lia) (cons_of rfl (jj q.len rfl)) rfl).trans;apply(au<|bB<|aF<|ak ((ib _ _).trans (by rw[decide_eq_decide.mpr<|Ak hk,yA e];rfl)) rfl (call_of (mV h q) rfl rfl)).trans;exact ba<|call_of (rT h q hk e) rfl rfl
abbrev fE(w p:D)(ds us:Γ D):Fs:=[("ground",.val w),("present",.val p),("done",.lst ds),("undone",.lst us)]
def Od(h:bq [w,p]=↑.none):pw C [.obj 0,.val w,.val p] []=↑(.none,fE w p [] []):=by
 apply FR (ρ':=[.obj 0,.val w,.val p]);apply(aJ<|bu<|l9<|call_of h rfl rfl).trans;apply(aJ<|tw (cX rfl) (aB rfl rfl)<|Nat.le_of_ble_eq_true rfl).trans;apply(aJ<|tw (cX rfl) (aB rfl rfl)<|Nat.le_of_ble_eq_true rfl).trans;apply(aJ<|uO rfl (aB rfl rfl) (Nat.le_of_ble_eq_true rfl)).trans;exact(uO rfl (aB rfl rfl) (Nat.le_of_ble_eq_true rfl)).trans rfl
def zt(l:ds.length<sizeLine):cO C [.obj 0,.val v,.val q] (fE w p ds us)=↑(.none,fE w q (ds++[.tuple [v,p]]) []):=by
 apply FR (ρ':=[.obj 0,.val v,.val q]);apply(aJ<|LU (aB rfl rfl) rfl (FL (cR rfl (cR (sV (aB rfl rfl) rfl) rfl))<|by simp) l).trans;apply(aJ<|uO rfl (aB rfl rfl) (Nat.le_of_ble_eq_true rfl)).trans;exact(tw (cX rfl) (aB rfl rfl)<|Nat.le_of_ble_eq_true rfl).trans rfl
def NB(l:ds.length<sizeLine)(H:iD [w,p,d]=↑q)(a:eY [w,q]=↑v):dv C [.obj 0,.val d] (fE w p ds us)=↑(v,fE w q (ds++[.tuple [.str "push",p]]) []):=by
 apply cM;apply(aJ<|sM<|jg (aB rfl rfl) rfl (aU (cX rfl)<|aU (mr H (aU (dY (aB rfl rfl) rfl)<|aU (dY (aB rfl rfl) rfl)<|aU (cX rfl) cf) rfl) cf) (aB rfl rfl) rfl (zt l)).trans;exact dR<|mr a (aU (dY (aB rfl rfl) rfl)<|aU (dY (aB rfl rfl) rfl) cf) rfl
def S7(l:ds.length<sizeLine)(H:bq [w,q]=↑.none)(a:eY [w,q]=↑v):dX C [.obj 0,.val q] (fE w p ds us)=↑(v,fE w q (ds++[.tuple [.str "lay",p]]) []):=by
 apply cM;apply(aJ<|sM<|mr H (aU (dY (aB rfl rfl) rfl)<|aU (cX rfl) cf) rfl).trans;apply(aJ<|sM<|jg (aB rfl rfl) rfl (aU (cX rfl)<|aU (cX rfl) cf) (aB rfl rfl) rfl (zt l)).trans;exact dR<|mr a (aU (dY (aB rfl rfl) rfl)<|aU (dY (aB rfl rfl) rfl) cf) rfl
def Hh{rs:Γ _}(l:ds.length<sizeLine)(H:za [w,p]=↑(.list<|rs.map ai))(a:rs.getLast?=↑X):eD C [.obj 0] (fE w p ds us)=↑(.int<|rs.length-1,fE w (ai X) (ds++[.tuple [.str "settle",p]]) []):=by
 apply cM;apply(aJ<|P6<|mr H (aU (dY (aB rfl rfl) rfl)<|aU (dY (aB rfl rfl) rfl) cf) rfl).trans;apply(aJ<|sM<|jg (aB rfl rfl) rfl (aU (cX rfl)<|aU (cX<|ak (lW a) rfl rfl) cf) (aB rfl rfl) rfl (zt l)).trans;exact dR<|cX<|ak (eZ _ 1) (jf rfl) rfl
def M0:ej C [.obj 0] (fE w p ds us)=↑(p,fE w p ds us):=cM<|dR<|dY (aB rfl rfl) rfl
def Hb:dm C [.obj 0] (fE w p ds us)=↑(.tuple [.int ds.length,.int us.length],fE w p ds us):=cM<|dR<|WE<|FL (cR (EH (aB rfl rfl) rfl)<|cR (EH (aB rfl rfl) rfl) rfl)<|by simp
def Px(l:us.length<sizeLine):cH C [.obj 0] (fE w p (ds++[.tuple [v,q]]) us)=↑(v,fE w q ds<|us++[.tuple [v,p]]):=by
 refine cM<|dR<|(KY (aB rfl rfl) rfl ?_).trans rfl;have e:(ds++[PyData.tuple [v,q]])[(ds++[PyData.tuple [v,q]]).length-1]?=↑(.tuple [v,q]):=by simp
 show(match(ds++[PyData.tuple _])[(ds++[PyData.tuple _]).length-1]? with
    |some (.tuple [W,P])=>if us.length<sizeLine/\(fE w p _ us).length<1000 then↑_ else none
    |_=>none)=_
 rw[e,(show(ds++[PyData.tuple [v,q]]).dropLast=ds by simp)];show(if us.length<sizeLine/\4<1000 then _ else _)=_;rw[yK {l,by lia}];rfl
def Jq(l:us.length<sizeLine):bY C [.obj 0] (fE w p us<|ds++[.tuple [v,q]])=↑(v,fE w q (us++[.tuple [v,p]]) ds):=by
 refine cM<|dR<|(KY (aB rfl rfl) rfl ?_).trans rfl;have e:(ds++[PyData.tuple [v,q]])[(ds++[PyData.tuple [v,q]]).length-1]?=↑(.tuple [v,q]):=by simp
 show(match(ds++[PyData.tuple _])[(ds++[PyData.tuple _]).length-1]? with
    |some (.tuple [W,P])=>if us.length<sizeLine/\(fE w p us _).length<1000 then↑_ else none
    |_=>none)=_
 rw[e,(show(ds++[PyData.tuple [v,q]]).dropLast=ds by simp)];show(if us.length<sizeLine/\4<1000 then _ else _)=_;rw[yK {l,by lia}];rfl
abbrev YV:Str:="Nothing"
def tT(B:Eg iD lS [w,p,d] c):dv C [.obj 0,.val d] (fE w p ds us)=none/\f9 C [.obj 0,.val d] (fE w p ds us)=↑c:=by
 exact{sU<|oC<|FM<|JH<|Nt (cX rfl)<|Ot<|Cw B.n<|aU (dY (aB rfl rfl) rfl)<|aU (dY (aB rfl rfl) rfl)<|aU (cX rfl) cf,(Ut (aB rfl rfl) rfl rfl (C4 B.x (cR (sV (aB rfl rfl) rfl)<|cR (sV (aB rfl rfl) rfl)<|cR rfl rfl) rfl))}
def Pp(B:Eg bq bE [w,d] c):dX C [.obj 0,.val d] (fE w p ds us)=none/\gV C [.obj 0,.val d] (fE w p ds us)=↑c:=by
 exact{sU<|oC<|FM<|Cw B.n<|aU (dY (aB rfl rfl) rfl)<|aU (cX rfl) cf,(C4 B.x (cR (sV (aB rfl rfl) rfl)<|cR rfl rfl) rfl)}
def Kr:cH C [.obj 0] (fE w p [] us)=none/\fX C [.obj 0] (fE w p [] us)=↑YV:=by
 refine{sU<|mH ?_,?_}
 .show ((obj 0 C _ _).bind _)=_;rw[aB rfl rfl];rfl
 .show ((obj 0 C _ _).bind _)=_;rw[aB rfl rfl];rfl
def GW:bY C [.obj 0] (fE w p ds [])=none/\fq C [.obj 0] (fE w p ds [])=↑YV:=by
 refine{sU<|mH ?_,?_}
 .show ((obj 0 C _ _).bind _)=_;rw[aB rfl rfl];rfl
 .show ((obj 0 C _ _).bind _)=_;rw[aB rfl rfl];rfl
def Bq(B:Eg bq bE [w,d] c)(f:rC c=↑e):il C [w,d]=↑e:=by
 show(oE C [.obj 0,.val w,.val d] []).bind rC=_;have E:oE C [.obj 0,.val w,.val d] []=↑c:=by
  show QQ 2 bE (e9 (rD<|ae 1)<|e9 (rD<|ae 2) qg) [.obj 0,.val w,.val d] [{C,[]}]=_;exact C4 B.x (cR rfl (cR rfl rfl)) rfl
 rw[E,zA];exact f
abbrev Vo(v:D)(P:Γ Int):D:=.tuple [v,ai P]
def CV(v:Nat->D)(p:Nat->Γ Int)(k:Nat):Γ D:=(List.range k).map λi=>Vo (v i)<|p i
def SV(v:Nat->D)(p:Nat->Γ Int):Nat->Nat->Γ D
 |_,0=>[]
 |k,m+1=>SV v p (k+1) m++[Vo (v k)<|p<|k+1]
abbrev atK(w:D)(v:Nat->D)(p:Nat->Γ Int)(k m:Nat):Fs:=fE w (ai<|p k) (CV v p k)<|SV v p k m
def Ed(v:Nat->D)(p:Nat->Γ Int)(k:Nat):(CV v p k).length=k:=by unfold CV;simp
def D5(v:Nat->D)(p:Nat->Γ Int):∀k m ,(SV v p k m).length=m
 |_,0=>rfl
 |k,m+1=>by rw[SV,zN,D5 v p _ m];rfl
def zl(v:Nat->D)(p:Nat->Γ Int)(k:Nat):CV v p (k+1)=CV v p k++[Vo (v k)<|p k]:=by rw[CV,vO,qX];rfl
def uC{v V:Nat->D}{p P:Nat->Γ Int}{k:Nat}(h:∀i,i<k->V i=v i/\P i=p i):CV V P k=CV v p k:=by
 unfold CV;simp_all
variable {v:Nat->D}{p:Nat->Γ Int}
def Pa(H:m<sizeLine):cH C [.obj 0] (atK w v p (k+1) m)=↑(v k,atK w v p k<|m+1):=by
 have:=Px (C:=C) (w:=w) (p:=ai<|p<|k+1) (ds:=CV v p k) (us:=SV v p (k+1) m) (v:=v k) (q:=ai<|p k) (by rw[D5];lia);rw[<-zl]at this;exact this
def MC(hk:k<sizeLine):bY C [.obj 0] (atK w v p k<|m+1)=↑(v k,atK w v p (k+1) m):=by
 have:=Jq (C:=C) (w:=w) (p:=ai<|p k) (ds:=SV v p (k+1) m) (us:=CV v p k) (v:=v k) (q:=ai<|p<|k+1) (by rw[Ed];lia);rw[<-zl]at this;exact this
def GK:dm C [.obj 0] (atK w v p k m)=↑(.tuple [.int k,.int m],atK w v p k m):=by
 have:=Hb (C:=C) (w:=w) (p:=ai<|p k) (ds:=CV v p k) (us:=SV v p k m);rw[Ed,D5]at this;lia
def oX(f:Nat->α)(k:Nat)(x:α):Nat->α:=λi=>if i=k then x else f i
def jt:oX f k x k=x:=yK rfl
def mU(h:i≠k):oX f k x i=f i:=yM h
def M6:fE w (ai I) (CV v p k++[Vo U<|p k]) []=atK w (oX v k U) (oX p (k+1) I) (k+1) 0:=by
 show _=fE w _ _ [];rw[zl,jt,jt,mU<|by lia,uC λi H=>{mU<|by lia,mU<|by lia}]
def P4:ej C [.obj 0] (atK w v p k m)=↑(ai<|p k,atK w v p k m):=M0
end
section
variable {G T:Γ Pl}{W:Γ Wy}{P Q:Γ Int}{k n m:Nat}{w p d e t l:D}{ds us:Γ D}{C:Ψ}{s:Fs}{c:Str}
def VH(h:a<3)(ρ:Dl.Env)(r:ae 1 ρ=↑(.int a)):fB (f2 AN (ae 1)<|fC<|.int 3) ρ=↑true:=aF<|ak ((iQ a 3).trans<|by rw[yA h]) r rfl
def Po(h:¬a<3)(ρ:Dl.Env)(r:ae 1 ρ=↑(.int a)):fB (f2 AN (ae 1)<|fC<|.int 3) ρ=↑false:=aF<|ak ((iQ a 3).trans<|by rw[zZ h]) r rfl
def Vv(h:a=b)(ρ:Dl.Env)(r:ae 1 ρ=↑(.int a)):fB (f2 bc (ae 1)<|fC<|.int b) ρ=↑true:=aF<|ak ((bf a b).trans<|by rw[yA h]) r rfl
def Ve(h:¬a=b)(ρ:Dl.Env)(r:ae 1 ρ=↑(.int a)):fB (f2 bc (ae 1)<|fC<|.int b) ρ=↑false:=aF<|ak ((bf a b).trans<|by rw[zZ h]) r rfl
abbrev tA(a:Int)(t:D):Γ Slot:=[.obj 0,.val<|.int a,.val t]
def Wl(h:dv C [.obj 0,.val t] (fE w p ds us)=↑(d,s)):ay C (tA 0 t) (fE w p ds us)=↑(d,s):=by
 refine cM<|o9<|sS ?_;refine(fY<|eV<|VH (a:=0) (by decide) _ rfl).trans<|sS ?_;refine(fY<|eV<|Vv (a:=0) rfl _ rfl).trans<|dR ?_;exact(jg (aB rfl rfl) rfl (aU (cX rfl) cf) (aB rfl rfl) rfl h).trans rfl
def Eh(h:dv C [.obj 0,.val t] (fE w p ds us)=none/\f9 C [.obj 0,.val t] (fE w p ds us)=↑c)(f:rC c=↑d):ay C (tA 0 t) (fE w p ds us)=↑(d,fE w p ds us):=by
 refine cM<|An (oC ?_) (zg (aB rfl rfl) rfl (cR rfl rfl) rfl h.2) f
 .exact (fY<|eV<|VH (by lia) _ rfl).trans<|oC<|(fY<|eV<|Vv rfl _ rfl).trans<|mH<|pK (aB rfl rfl) (aU (cX rfl) cf) h.1
def VX(h:dX C [.obj 0,.val t] (fE w p ds us)=↑(d,s)):ay C (tA 1 t) (fE w p ds us)=↑(d,s):=by
 refine cM<|o9<|sS ?_;refine(fY<|eV<|VH (a:=1) (by decide) _ rfl).trans ?_;refine(aJ<|(fP<|eV<|Ve (a:=1) (by decide) _ rfl).trans MK).trans<|dR<|(zj<|Vv (a:=1) rfl _ rfl).trans ?_;exact(jg (aB rfl rfl) rfl (aU (cX rfl) cf) (aB rfl rfl) rfl h).trans rfl
def Uz(h:dX C [.obj 0,.val t] (fE w p ds us)=none/\gV C [.obj 0,.val t] (fE w p ds us)=↑c)(f:rC c=↑d):ay C (tA 1 t) (fE w p ds us)=↑(d,fE w p ds us):=by
 refine cM<|An (oC ?_) (zg (aB rfl rfl) rfl (cR rfl rfl) rfl h.2) f
 .apply (fY<|eV<|VH (by decide) _ rfl).trans;exact(aJ<|(fP<|eV<|Ve (by lia) _ rfl).trans MK).trans<|mH<|(zj<|Vv rfl _ rfl).trans<|pK (aB rfl rfl) (aU (cX rfl) cf) h.1
def Xe(h:eD C [.obj 0] (fE w p ds us)=↑(d,s)):ay C (tA 2 t) (fE w p ds us)=↑(d,s):=by
 refine cM<|o9<|sS ?_;refine(fY<|eV<|VH (a:=2) (by decide) _ rfl).trans ?_;refine(aJ<|(fP<|eV<|Ve (a:=2) (by decide) _ rfl).trans MK).trans<|dR<|(Eb<|Ve (a:=2) (by decide) _ rfl).trans ?_;exact(ask (m:="settle") (aB rfl rfl) h).trans rfl
def Xz(h:cH C [.obj 0] (fE w p ds us)=↑(d,s)):ay C (tA 3 t) (fE w p ds us)=↑(d,s):=by
 refine cM<|o9<|(aJ<|(fP<|eV<|Po (a:=3) (by decide) _ rfl).trans MK).trans<|dR<|(zj<|Vv (a:=3) rfl _ rfl).trans ?_;exact(ask (m:="back") (aB rfl rfl) h).trans rfl
def SU(h:cH C [.obj 0] (fE w p ds us)=none/\fX C [.obj 0] (fE w p ds us)=↑c)(f:rC c=↑d):ay C (tA 3 t) (fE w p ds us)=↑(d,fE w p ds us):=by
 refine cM<|An ((aJ<|(fP<|eV<|Po (by lia) _ rfl).trans MK).trans<|mH<|(zj<|Vv rfl _ rfl).trans ?_) (zg (aB rfl rfl) rfl rfl rfl h.2) f
 .exact pK (aB rfl rfl) cf h.1
def XG(h:bY C [.obj 0] (fE w p ds us)=↑(d,s)):ay C (tA 4 t) (fE w p ds us)=↑(d,s):=by
 refine cM<|o9<|(aJ<|(fP<|eV<|Po (a:=4) (by decide) _ rfl).trans MK).trans<|dR<|(Eb<|Ve (a:=4) (by decide) _ rfl).trans ?_;exact(ask (m:="forth") (aB rfl rfl) h).trans rfl
def Sa(h:bY C [.obj 0] (fE w p ds us)=none/\fq C [.obj 0] (fE w p ds us)=↑c)(f:rC c=↑d):ay C (tA 4 t) (fE w p ds us)=↑(d,fE w p ds us):=by
 refine cM<|An ((aJ<|(fP<|eV<|Po (by decide) _ rfl).trans MK).trans<|mH<|(Eb<|Ve (by lia) _ rfl).trans ?_) (zg (aB rfl rfl) rfl rfl rfl h.2) f
 .exact pK (aB rfl rfl) cf h.1
abbrev YS:Γ Str:=["NoWorld","NoPlan","NoPlace","Nothing"]
def P3(h:YS.contains c=true)(H:Dh (.bool true) (YS.map λn=>.bool<|c==n)=↑j):rC c=↑(di j):=by
 show qv YS c=_;rw[qv,yK h,H];rfl
def fn0:rC YD=↑(di 0):=P3 (by rfl) (by rfl)
def Xu:rC ZT=↑(di 1):=P3 (by rfl) (by rfl)
def WJ:rC Yx=↑(di 2):=P3 (by rfl) (by rfl)
def ZU:rC YV=↑(di 3):=P3 (by rfl) (by rfl)
abbrev aP:Dl.Env->Δ (Γ D):=aa (ae 0) zq0
abbrev aN:Dl.Env->Δ (Γ D):=aa (ae 2) ad7
def Rk(h:Wd G T W)(q:Pn G T W P)(B:Eg b8 cT [l,nD W.length] c):Eg iD lS [aW G T W,ai P,l] c:=
 let z:=λg x=>(ZW h q).tail rfl rfl (g:=g) (xr:=x);let z2:=λg x=>B.head (cons_of rfl (jj q.len rfl)) rfl (g:=g) (xr:=x)
 {runN<|(z _ Ex.qw).1.trans (z2 _ Ex.qw).1,(z fI _).2.trans (z2 fI _).2}
def okK(hk:k<n):Qt b8 cT [nD k,nD n]:=okN rfl (by
 show(decide (0<=k)&&decide _)=true
 grind)
def YL(h:Wd G T W)(q:Pn G T W P)(hk:k<W.length):(fB<|f2 uT (ae 2)<|aj 2 eY aP) [↑(aW G T W),↑(ai P),↑(nD k)]=↑(!decide (gM G T W P k=3)):=by
 refine aF<|ak ((ib _ _).trans ?_) rfl (call_of (mV h q) rfl rfl);rw[decide_eq_decide.mpr<|Ak hk]
def XA(h:Wd G T W)(q:Pn G T W P)(hk:k<W.length)(e:¬gM G T W P k=3):Eg iD lS [aW G T W,ai P,nD k] Yx:=by
 have t:=(YL h q hk).trans (by rw[zZ e];rfl:↑(!decide (gM G T W P k=3))=↑true);have z:=λg x=>(ZW h q).tail (ρ:=[.val<|aW G T W,.val<|ai P,.val<|nD k]) (fs:=aP) (n:=2) rfl rfl (g:=g) (xr:=x);have z2:=λg x=>(okK hk).tail (ρ:=[.val<|aW G T W,.val<|ai P,.val<|nD k]) (fs:=aN) (n:=2) (cons_of rfl (jj q.len rfl)) rfl (g:=g) (xr:=x);refine{runN<|(z _ Ex.qw).1.trans<|(z2 _ Ex.qw).1.trans<|Zd<|(br t).trans rfl,(z fI _).2.trans<|(z2 fI _).2.trans<|(X3 t).trans rfl}
end
section
variable {G T:Γ Pl}{W:Γ Wy}{P Q:Γ Int}{k n m:Nat}{w p d e t l:D}
def Pc(H:P.length=n)(h:f ρ=↑(ai P)):bT bX (aa f ag) ρ=↑(nD n):=by rw[<-H];exact(AE h).trans<|FY P
def IX(h:a=b)(ρ:Dl.Env)(r:ae 2 ρ=↑(.int a)):fB (f2 bc (ae 2)<|fC<|.int b) ρ=↑true:=aF<|ak ((bf a b).trans<|by rw[yA h]) r rfl
def Gj(h:¬a=b)(ρ:Dl.Env)(r:ae 2 ρ=↑(.int a)):fB (f2 bc (ae 2)<|fC<|.int b) ρ=↑false:=aF<|ak ((bf a b).trans<|by rw[zZ h]) r rfl
def nx2(h:Wd G T W)(q:Pn G T W P)(H:∀w∈W,w.2.2<=2)(hw:W.length<=9):bj [aW G T W,ai P,.int 2,t]=↑(.tuple [.int<|(tJ G T W P).length-1,ai<|FZ G T W P]):=by
 let(a,p):=LL h q;apply bb;refine g8<|(br<|IX rfl _ rfl).trans ?_;apply(au<|uG rfl (call_of (oK h q H hw) rfl rfl) (call_of (oK h q H hw) rfl rfl) rfl).trans;exact ba<|tup_is (cons_of (ak (eZ _ 1) (jf rfl) rfl)<|cons_of (ak (lW a) rfl rfl) rfl)<|by simp
def nx0(h:Wd G T W)(q:Pn G T W P)(hk:k<W.length)(e:gM G T W P k=3):bj [aW G T W,ai P,.int 0,nD k]=↑(.tuple [.list<|(ll G T W<|ou G T W P k).map nD,ai<|ou G T W P k]):=by
 have p:=Aq h q hk e;apply bb;apply(au<|bB<|Gj (by lia) _ rfl).trans;refine g8<|(br<|IX rfl _ rfl).trans ?_;apply(au<|bB<|Ge (by rfl)<|aF<|ak ((ib _ _).trans (by rw[decide_eq_decide.mpr<|Ak hk,yA e];rfl)) rfl (call_of (qf h q.len<|q.smP h) rfl rfl)).trans;apply(au<|jd (call_of (nE h q hk e) rfl rfl)<|call_of (nE h q hk e) rfl rfl).trans;exact ba<|tup_is (cons_of (call_of (qf h p.len<|p.smP h) rfl rfl)<|cons_of rfl rfl)<|by simp
def Hx(h:Wd G T W)(q:Pn G T W P)(n:(∃b,d=.bool b)\/(fB (IE "bool"<|ae 3) [↑(aW G T W),↑(ai P),↑(.int 0),↑d,none,none]=↑false/\uT d (.list<|(ll G T W P).map nD)=↑(.bool true))):bj [aW G T W,ai P,.int 0,d]=↑(.tuple [di 2,.none]):=by
 apply bb;apply(au<|bB<|Gj (by lia) _ rfl).trans;refine g8<|(br<|IX rfl _ rfl).trans<|g8<|(br ?_).trans<|ba<|tup_is (cons_of (tup_is rfl (by simp))<|cons_of rfl rfl) (by simp);rcases n with ⟨b,rfl⟩|⟨H,a⟩
 .rfl
 .exact Ge H<|aF<|ak a rfl (call_of (qf h q.len<|q.smP h) rfl rfl)
def nx1(h:Wd G T W)(q:Pn G T W P)(x:Pn G T W Q):bj [aW G T W,ai P,.int 1,ai Q]=↑(.tuple [.list<|(ll G T W Q).map nD,ai Q]):=by
 apply bb;apply(au<|bB<|Ge (by rfl)<|aF<|ak ((u9 _ _).trans<|by simp) (Pc x.len rfl)<|Pc q.len rfl).trans;exact ba<|tup_is (cons_of (call_of (qf h x.len<|x.smP h) rfl rfl)<|cons_of rfl rfl)<|by simp
def YC(q:Pn G T W P)(n:cD (fB<|IE "tuple"<|ae 3) [↑(aW G T W),↑(ai P),↑(.int 1),↑d,none,none]=↑true\/∃es ,d=ai es/\es.length≠W.length):bj [aW G T W,ai P,.int 1,d]=↑(.tuple [di 1,.none]):=by
 apply bb;apply(au<|bB<|Gj (by lia) _ rfl).trans;apply(au<|bB<|Gj (by lia) _ rfl).trans;refine g8<|(br ?_).trans<|ba<|tup_is (cons_of (tup_is rfl (by simp))<|cons_of rfl rfl) (by simp);rcases n with H|⟨es,rfl,e⟩
 .exact W1 H
 .exact Ge (by rfl)<|aF<|ak ((u9 _ _).trans (by rw[zZ<|by lia];rfl)) (Pc rfl rfl)<|Pc q.len rfl
def n9:Γ D:=[.none,.int<|-1,.bool true,ai<|zs 12,.str "0"]
def ND(j:Nat)(H:j<5):∃d,n9[j]?=↑d/\d∈n9:={_,zK<|by exact H,xZ _}
def D3{l:Γ Nat}(h:SeqAt.shaped d=true)(n:∀i:Nat,PyData.eqv (nD i) d=false):uT d (.list<|l.map nD)=↑(.bool true):=by
 have e:((l.map nD).any λz=>PyData.eqv z d)=false:=by
  rw[List.any_eq_false];intro z H;let(i,_,rfl):=List.mem_map.mp H;rw[n i];exact yY
 simp?[uT,VP,h,gz,jM,xG,e,zB];rfl
def od0(h:Wd G T W)(q:Pn G T W P)(H:d∈n9):bj [aW G T W,ai P,.int 0,d]=↑(.tuple [di 2,.none]):=by
 simp[n9,zQ,yF,xS]at H;rcases H with rfl|rfl|rfl|rfl|rfl
 .exact Hx h q<|.inr {rfl,D3 (by rfl) λi=>by rfl}
 .exact Hx h q<|.inr {rfl,(ib _ _).trans<|by simp}
 .rfl
 .exact Hx h q<|.inr {rfl,D3 (uE _) λi=>by rfl}
 .exact Hx h q<|.inr {rfl,D3 (by decide +kernel) λi=>by rfl}
def od1(q:Pn G T W P)(hw:W.length<=9)(H:d∈n9):bj [aW G T W,ai P,.int 1,d]=↑(.tuple [di 1,.none]):=by
 simp[n9,zQ,yF,xS]at H;rcases H with rfl|rfl|rfl|rfl|rfl
 .rfl
 .rfl
 .rfl
 .exact YC q<|.inr {_,rfl,by rw[show(zs 12).length=12 from rfl];lia}
 rfl
def KP(H:d∈n9):iR d=true/\whole 0 (n-1) d=false:=by
 simp[n9,zQ,yF,xS]at H;rcases H with rfl|rfl|rfl|rfl|rfl<;>exact{rfl,rfl}
def NQ(h:Wd G T W)(hw:W.length<=9)(H:d∈n9):fM [aW G T W,d]=↑(.bool false):=by
 simp[n9,zQ,yF,xS]at H;rcases H with rfl|rfl|rfl|rfl|rfl
 .exact iM h rfl rfl
 .exact iM h rfl rfl
 .exact iM h rfl rfl
 .exact iM h rfl (BN (by rw[zD,show(zs 12).length=12 from rfl];lia))
 .exact iM h rfl rfl
end
section
variable {G T:Γ Pl}{W:Γ Wy}{P Q:Γ Int}{k n m:Nat}{w d e t:D}{C:Ψ}{ns:Γ Int}{u:Nat->D}{p:Nat->Γ Int}{ρ:aq}
abbrev sX(u:Nat->D)(p:Nat->Γ Int)(n:Nat):Γ D:=(List.range<|n+1).map λi=>.tuple [u i,ai<|p i]
abbrev sg(ns:Γ Int)(w f:D)(s4:Slot)(k:Nat)(x6 x7 x8 x9 x10 x11 x12 x13 x14:Slot):aq:=[.val<|gH ns,.val w,.val f,.obj 0,s4,.val<|nD k,x6,x7,x8,x9,x10,x11,x12,x13,x14,.non]
def MO(s:Slot)(l:Γ D):Prop:=s=.own l\/s=.val (.list l)
def GI(s:Slot)(h:ρ[i]?=↑s)(hc:I.contains i=true):(hand I 0 ρ)[i]?=↑s.aam:=by
 rw[fg,h,zB,jA,yK hc]
def El(h:MO s l)(hi:ρ[i]?=↑s)(hc:I.contains i=true):ae i (bx<|hand I 0 ρ)=↑(.list l):=by
 rw[ae,bx,zO,GI s hi hc];rcases h with rfl|rfl<;>rfl
def Cr(h:MO s l)(hi:ρ[i]?=↑s):ae i (aI ρ)=↑(.list l):=by
 rw[ae,aI,zO,hi];rcases h with rfl|rfl<;>rfl
def Gf(h:k<=n):aK (.list<|sX u p n) (nD k)=↑(.tuple [u k,ai<|p k]):=y0 (f:=λi=>.tuple [u i,ai<|p i]) (i:=k) (x:=k) (by rw[List.getElem?_range<|by lia])
def WH:aK (.tuple [a,b]) (.int 0)=↑a:=rfl
def IY:aK (.tuple [a,b]) (.int 1)=↑b:=rfl
def ZY(G T:Γ Pl)(W:Γ Wy)(a:Int)(t:D):Prop:=t∈n9\/(a=0/\∃i:Nat,t=nD i)\/(a≠0/\∃Q,t=ai Q/\Pn G T W Q)
def U8(H:0<=i)(b:i<8):∃a:Int,aK (.list [.int 0,.int 0,.int 0,.int 1,.int 1,.int 2,.int 3,.int 4]) (.int i)=↑(.int a)/\0<=a/\a<=4:=by
 rcases(by lia:i=0\/i=1\/i=2\/i=3\/i=4\/i=5\/i=6\/i=7)with rfl|rfl|rfl|rfl|rfl|rfl|rfl|rfl
 .exact{0,rfl,by lia,by decide}
 .exact{0,rfl,by decide,by decide}
 .exact{0,rfl,by decide,by decide}
 .exact{1,rfl,by decide,by decide}
 .exact{1,rfl,by decide,by decide}
 .exact{2,rfl,by decide,by decide}
 .exact{3,rfl,by decide,by decide}
 .exact{4,rfl,by decide,by decide}
def Xp(l:ns.length<=63)(h:Wd G T W)(hw:W.length<=9)(hk:k<=n)(q:Pn G T W (p k))(j:Nat){os:Γ Oj}(h4:MO s4 (sX u p n)):∃H a t s,0<=a/\a<=4/\ZY G T W a t /\
  bD (bC<|Dl.aR 7 [6]<|f2 Dl.aC (fC<|.int 80)<|f2 Dl.eH (fC<|.int 20)<|ae 6) (bD (bC<|Dl.aR 8 [4,5]<|f2 aK (f2 aK (ae 4)<|ae 5)<|fC<|.int 1)<|bD (bC<|Dl.aR 9 [0,7]<|f2 aK (dh<|dD<|aa (fC<|.int 0)<|aa (fC<|.int 0)<|aa (fC<|.int 0)<|aa (fC<|.int 1)<|aa (fC<|.int 1)<|aa (fC<|.int 2)<|aa (fC<|.int 3)<|aa (fC<|.int 4) ag)<|aj 3 ao<|aa (ae 0)<|aa (ae 7)<|aa (fC<|.int 8) ag)<|bD (bC<|bH 10 [0,1,7,8]<|MN lz (aj 2 bI<|aa (ae 1)<|aa (ae 8) ag)<|dh<|dD<|aa (aj 3 ao<|aa (ae 0)<|aa (f2 Dl.aC (ae 7)<|fC<|.int 1)<|aa (fC<|.int 9) ag) ag)<|bD (bC<|Dl.aR 11 [0,1,7,9,10]<|tM (fB<|f2 bc (ae 9)<|fC<|.int 0) (f2 aK (ae 10)<|aj 3 ao<|aa (ae 0)<|aa (f2 Dl.aC (ae 7)<|fC<|.int 2)<|aa (bT bX<|aa (ae 10) ag) ag)<|aj 3 cZ<|aa (ae 0)<|aa (f2 Dl.aC (ae 7)<|fC<|.int 3)<|aa (ae 1) ag)<|bD (vn (oT<|fB<|f2 bc (aj 3 ao<|aa (ae 0)<|aa (f2 Dl.aC (ae 7)<|fC<|.int 13)<|aa (fC<|.int 8) ag)<|fC<|.int 0) (bC<|Dl.aR 11 [0,7]<|f2 aK (dh<|dD<|aa (fC .none)<|aa (f1 IW<|fC<|.int 1)<|aa (fC<|.bool true)<|aa (f2 Dl.eH (aX<|aa (fC<|.int 0) ag)<|fC<|.int 12)<|aa (fC<|.str "0") ag)<|aj 3 ao<|aa (ae 0)<|aa (f2 Dl.aC (ae 7)<|fC<|.int 14)<|aa (fC<|.int 5) ag) CW) g) (sg ns (aW G T W) f s4 k (.val<|nD j) x7 x8 x9 x10 x11 x12 x13 x14) os=g (sg ns (aW G T W) f s4 k (.val<|nD j) (.val<|.int H) (.val<|ai<|p k) (.val<|.int a) (.own s) (.val t) x12 x13 x14) os:=by
 let b:Int:=80+20*((j:Nat):Int);let(J,K,L):=d9 (ns:=ns) b 8 l (by lia);let(a,V,M,N):=U8 K L;let(c1,c2,c3):=d9 (ns:=ns) (b+1) 9 l (by decide);obtain⟨c,hc⟩:∃c:Nat,dr ns (b+1) 9=((c:Nat):Int):={_,(Int.toNat_of_nonneg c2).symm}
 rw[hc]at c1;let(F,O,P):=d9 (ns:=ns) (b+2) (((ll G T W (p k)++[c]).length:Nat):Int) l (by simp);obtain⟨i,hi⟩:∃i:Nat,dr ns (b+2) (((ll G T W (p k)++[c]).length:Nat):Int)=((i:Nat):Int):={_,(Int.toNat_of_nonneg O).symm}
 rw[hi]at F P;obtain⟨x,hx⟩:∃x,(ll G T W (p k)++[c])[i]?=↑x:={_,zK<|by lia}
 let(r1,r2,r3):=d9 (ns:=ns) (b+13) 8 l (by lia);let(S,s2,s3):=d9 (ns:=ns) (b+14) 5 l (by lia);obtain⟨o,ho⟩:∃o:Nat,dr ns (b+14) 5=((o:Nat):Int):={_,(Int.toNat_of_nonneg s2).symm}
 rw[ho]at S s3;have e7:∀e:Dl.Env,ae 6 e=↑(nD j)->f2 Dl.aC (fC<|.int 80) (f2 Dl.eH (fC<|.int 20)<|ae 6) e=↑(.int b):=λe z=>ak (dJ 80<|20*((j:Nat):Int)) rfl (ak (gC<|nF<|by decide) rfl z);have A:∀(e:Dl.Env)(y:Int),ae 7 e=↑(.int b)->f2 Dl.aC (ae 7) (fC<|.int y) e=↑(.int<|b+y):=λe y z=>ak (dJ b y) z rfl;let s:Γ D:=(ll G T W (p k)++[c]).map nD;have E:∀e:Dl.Env,ae 0 e=↑(gH ns)->ae 1 e=↑(aW G T W)->ae 7 e=↑(.int b)->ae 8 e=↑(ai<|p k)->MN lz (aj 2 bI<|aa (ae 1)<|aa (ae 8) ag) (dh<|dD<|aa (aj 3 ao<|aa (ae 0)<|aa (f2 Dl.aC (ae 7)<|fC<|.int 1)<|aa (fC<|.int 9) ag) ag) e=↑s:=λe Z z1 m z8=>by
  unfold MN;rw[show aj 2 bI (aa (ae 1)<|aa (ae 8) ag) e=↑(.list<|(ll G T W<|p k).map nD)from call_of (qf h q.len<|q.smP h) (cons_of z1<|cons_of z8 rfl) rfl,zA,
   show dh (dD<|aa (aj 3 ao<|aa (ae 0)<|aa (f2 Dl.aC (ae 7)<|fC<|.int 1)<|aa (fC<|.int 9) ag) ag) e=↑(.list [nD c])from nY<|nR (cons_of (call_of c1 (cons_of Z<|cons_of (A e 1 m) rfl) rfl) rfl)<|by simp,zA]
  show small ((ll G T W<|p k).map nD++[nD c])=↑((ll G T W (p k)++[c]).map nD);rw[qX];exact cU (by have:(ll G T W<|p k).length<=W.length:=yD (xO _ _) (by simp);grind)
 obtain⟨Q,U,pQ⟩:∃Q,cZ _=↑_/\Pn G T W Q:={_,tK l h,EG l h}
 let r:=sg ns (aW G T W) f s4 k (.val<|nD j) (.val<|.int b) (.val<|ai<|p k) (.val<|.int a) (.own s) x11 x12 x13 x14;obtain⟨v,C,w⟩:∃v,((a=0/\∃i ,v=nD i)\/(a≠0/\∃Q,v=ai Q/\Pn G T W Q))/\Dl.aR 11 [0,1,7,9,10] (tM (fB (f2 bc (ae 9) (fC _))) (f2 aK (ae 10) (aj 3 ao (aa (ae 0) (aa _ (aa (bT bX (aa (ae 10) ag)) ag))))) _) r=↑(.nx (r.set 11 _)):=by
  by_cases B:a=0
  .refine{nD x,.inl {B,x,rfl},bM (iO (aF<|ak ((bf a 0).trans<|by grind) rfl rfl) ?_) rfl};exact ak (y0 hx) rfl (call_of F (cons_of rfl (cons_of (A _ 2 rfl)<|cons_of (jf rfl) rfl)) rfl)
  .have z:∀e ,ae 0 e=↑_->ae 1 e=↑_->ae 7 e=↑_->ae 9 e=↑_->tM (fB<|f2 bc _<|fC _) (f2 aK (ae 10)<|aj 3 ao<|aa (ae 0)<|aa (f2 Dl.aC (ae 7)<|fC<|.int 2)<|aa (bT bX<|aa (ae 10) ag) ag) (aj 3 cZ<|aa _<|aa _<|aa _ ag) e=↑_:=λe Z z1 m z9=>mn (aF<|ak ((bf a 0).trans<|by rw[zZ B]) z9 rfl)<|call_of U (cons_of Z<|cons_of (A e 3 m)<|cons_of z1 rfl) rfl;exact{ai Q,.inr {B,Q,rfl,pQ},jd (z _ rfl rfl rfl rfl)<|z _ rfl rfl rfl rfl}
 have I:∀e ,ae 0 e=↑_->ae 7 e=↑_->fB (f2 bc (aj 3 ao<|aa _<|aa _<|aa (fC _) ag)<|fC _) e=↑_:=λe Z m=>aF<|ak (bf _ 0) (call_of r1 (cons_of Z<|cons_of (A e 13 m) rfl) rfl) rfl
 suffices fin:∃t,ZY G T W a t/\vn _ _ CW _ os=↑_ by
  let(t,ht,X):=fin;refine{b,a,t,s,M,N,ht,?_};refine(aJ<|bu<|jd (ak IY (ak (Gf hk) (Cr h4 rfl) rfl) rfl)<|ak IY (ak (Gf hk) (El h4 rfl rfl) rfl) rfl).trans<|(aJ<|bu<|bM (ak V (nY<|nR rfl (by simp))<|call_of J rfl rfl) rfl).trans ?_;refine(aJ<|bu<|qk (E _ rfl rfl rfl rfl) rfl).trans ?_;exact(aJ<|bu w).trans <| aJ X
 by_cases R:dr ns (b+13) 8=0
 .let(d,Y,hm):=ND o (by lia);refine{d,.inl hm,(fY<|eV<|(I _ rfl rfl).trans<|by rw[yA R]).trans ?_};have z:∀e ,ae 0 e=↑_->ae 7 e=↑_->f2 aK (dh<|dD<|aa (fC _)<|aa (f1 IW<|fC<|.int 1)<|aa (fC _)<|aa (f2 Dl.eH (aX<|aa (fC _) ag)<|fC _)<|aa (fC _) ag) (aj 3 ao<|aa _<|aa _<|aa (fC _) ag) e=↑d:=λe Z m=>ak (a:=.list n9) ((ixL (by lia) (by simp[n9];lia)).trans (by rw[yG,zG,Y];rfl)) (nY<|nR (cons_of rfl (cons_of rfl (cons_of rfl (cons_of (ak (Rc<|by lia) (Et rfl) rfl)<|cons_of rfl rfl))))<|by simp[n9])<|call_of S (cons_of Z<|cons_of (A e 14 m) rfl) rfl;exact bu<|(bS (z _ rfl rfl) (z _ rfl rfl) rfl).trans rfl
 .exact{v,.inr C,(fP<|eV<|(I _ rfl rfl).trans<|by rw[zZ R]).trans rfl}
end
section
variable {G T:Γ Pl}{W:Γ Wy}{P Q:Γ Int}{k n m:Nat}{w d e t du f:D}{C:Ψ}{ns:Γ Int}{u:Nat->D}{p:Nat->Γ Int}{ρ:aq}{s4 x6 x7 x8 x9 x10 x11 x12 x13 x14:Slot}{s:Fs}{a:Int}
def W4(x:Slot):x.aam.aam=x.aam:=by cases x<;>rfl
abbrev ff:OG:=cq (List.range 16)<|i6<|oD<|fC<|.bool false
def QA(C:Ψ):OG:=bD (cq (List.range 16)<|vn (Ob.oB<|Jg gq (p8 3 C 3 (ay C)<|Gv<|A4 (oD<|ae 9)<|A4 (oD<|ae 11) LW)<|oD<|ae 13) ff CW)<|bD (cq (List.range 16)<|vn (Ob.oB<|Jg gq (dE 3 C "counts" 1 (dm C) iA)<|oD<|aX<|aa (ae 5)<|aa (f2 Dl.eK (f2 Dl.eK (bT bX<|aa (ae 4) ag)<|fC<|.int 1)<|ae 5) ag) ff CW)<|cq (List.range 16)<|vn (Ob.oB<|Jg gq (dE 3 C "plan" 1 (ej C) iA)<|oD<|f2 aK (f2 aK (ae 4)<|ae 5)<|fC<|.int 1) ff CW
abbrev AS(w:D)(u:Nat->D)(p:Nat->Γ Int)(k n:Nat):Fs:=atK w (λi=>u<|i+1) p k<|n-k
def XU(h4:MO s4 (sX u p n))(hk:k<=n)(ht:ay C (tA a t) s=↑(d,AS w u p k n))(D:gq d du=↑(.bool false)):QA C (sg ns w f s4 k x6 x7 x8 (.val<|.int a) x10 (.val t) x12 (.val du) x14) [⟨C,s⟩]=↑(.nx (sg ns w f (.val<|.list<|sX u p n) k x6.aam x7.aam x8.aam (.val<|.int a) x10.aam (.val t) x12.aam (.val du) x14.aam) [{C,AS w u p k n}]):=by
 have H:hand (List.range 16) 0 (sg ns w f (.val<|.list<|sX u p n) k x6.aam x7.aam x8.aam (.val<|.int a) x10.aam (.val t) x12.aam (.val du) x14.aam)=sg ns w f (.val<|.list<|sX u p n) k x6.aam x7.aam x8.aam (.val<|.int a) x10.aam (.val t) x12.aam (.val du) x14.aam:=by
  show sg ns w f (.val _) k x6.aam.aam x7.aam.aam x8.aam.aam (.val _) x10.aam.aam (.val t) x12.aam.aam (.val du) x14.aam.aam=_;simp[W4]
 apply(aJ<|(va (ρ':=sg ns w f (.val _) k x6.aam x7.aam x8.aam _ x10.aam _ x12.aam _ x14.aam) (by rw[<-(show s4.aam=.val (.list<|sX u p n)by rcases h4 with rfl|rfl<;>rfl)];rfl)).trans<|(fP<|L3<|C2 D (Ik (aB rfl rfl) (PJ<|Fq (cX rfl)<|Fq (cX rfl) P2) (aB rfl rfl) rfl ht)<|cX rfl).trans MK).trans;apply(aJ<|(va H).trans<|(fP<|L3<|C2 (yv [k,(n-k:Nat)]) (ask (aB rfl rfl) GK) (cX<|tup_is (cons_of rfl (cons_of ((λb z4=>ak ((eZ (n) _).trans<|by grind)<|ak ((eZ _ 1).trans<|by simp) (jf z4) rfl) _ rfl rfl) rfl))<|by simp)).trans MK).trans;exact(va H).trans<|(fP<|L3<|C2 (yv _) (ask (aB rfl rfl) P4)<|cX<|ak IY (ak (Gf hk) rfl rfl) rfl).trans MK
end
section
variable {G T:Γ Pl}{W:Γ Wy}{P Q:Γ Int}{k n m:Nat}{w d e t du f:D}{C:Ψ}{ns:Γ Int}{u:Nat->D}{p:Nat->Γ Int}{ρ:aq}{s4 x6 x7 x8 x9 x10 x11 x12 x13 x14:Slot}{s:Fs}{a:Int}{os:Γ Oj}
def word(v:D):Prop:=v=.str "push"\/v=.str "lay"\/v=.str "settle"
def Fb(h:word v):gq v v=↑(.bool false):=by
 rcases h with rfl|rfl|rfl
 .kernel_rfl
 .kernel_rfl
 .kernel_rfl
def Pb(h:word v):ki v=true:=by rcases h with rfl|rfl|rfl<;>rfl
abbrev xc:Dl.Env->Δ θ:=fB<|gR CD AN (fC<|.int 0) (ae 12)<|bT bX<|aa (ae 4) ag
def Hg:OG:=vn (oT<|fB<|f2 yc (ae 9)<|fC<|.int 2) (bD (bC<|Dl.aR 12 [5,9]<|tM (fB<|f2 bc (ae 9)<|fC<|.int 3) (f2 Dl.eK (ae 5)<|fC<|.int 1)<|f2 Dl.aC (ae 5)<|fC<|.int 1)<|bD (bC<|Dl.aR 13 [4,5,12]<|tM xc (f2 aK (f2 aK (ae 4)<|bT Cm<|aa (ae 5)<|aa (ae 12) ag)<|fC<|.int 0)<|aX<|aa (fC<|.str "refused")<|aa (fC<|.int 3) ag)<|bC<|Dl.aR 5 [4,5,12]<|tM xc (ae 12)<|ae 5)<|bD (bC<|nK 13 14 [1,8,9,11]<|aj 4 bj<|aa (ae 1)<|aa (ae 8)<|aa (ae 9)<|aa (ae 11) ag)<|vn (oT<|fB<|f2 mY (ae 14)<|fC .none) (bD (bC<|bH 4 [4,5,9,14]<|MN lz (fQ cY (ae 4) gK<|rN<|f2 Dl.aC (ae 5)<|fC<|.int 1)<|dh<|dD<|aa (aX<|aa (f2 aK (dh<|dD<|aa (fC<|.str "push")<|aa (fC<|.str "lay")<|aa (fC<|.str "settle") ag)<|ae 9)<|aa (ae 14) ag) ag)<|bC<|Dl.aR 5 [5]<|f2 Dl.aC (ae 5)<|fC<|.int 1) CW
def Gz(A:g (aI ρ)=↑d)(F:g (bx<|hand I 0 ρ)=↑d)(s:ki d=false)(n:fH d=true):Dl.aR i I g ρ=↑(.nx<|ρ.set i<|.val d):=by
 rw[Dl.aR,A,zA,yM<|by grind,F];show some (Out.nx _)=_;rw[yK n]
def KD{g:Γ D->Δ D}{fs:Dl.Env->Δ (Γ D)}{ρ:Dl.Env}{ds:Γ D}(h:fs ρ=↑ds):bT g fs ρ=g ds:=by unfold bT;rw[h];rfl
def LD(ρ:Dl.Env)(z4:ae 4 ρ=↑(.list<|sX u p n)):bT bX acS ρ=↑(.int (n+1:Nat)):=by
 have:=jf z4;rw[zR]at this;lia
def Xo{k' j:Nat}(h4:MO s4 (sX u p n))(A:2<a)(e:(if a=3 then(k:Int)-1 else k+1)=k')(K:k'<=n)(J:max (k:Int) k'=j)(H:j<=n)(hw:word (u j)) :
  Hg (sg ns w f s4 k x6 x7 x8 (.val<|.int a) x10 x11 x12 x13 x14) os=↑(.nx (sg ns w f s4 k' x6 x7 x8 (.val<|.int a) x10 x11 (.val<|nD k') (.val<|u j) x14) os):=by
 have E:∀b ,ae 5 b=↑_->ae 9 b=↑_->tM (fB<|f2 bc _<|fC _) (f2 Dl.eK _<|fC _) (f2 Dl.aC _<|fC _) b=↑_:=λb z5 Z=>by
  by_cases c:a=3
  .rw[yK c]at e;exact iO (aF<|ak ((bf a 3).trans<|by rw[yA c]) Z rfl)<|ak ((eZ _ 1).trans<|by rw[e]) z5 rfl
  .rw[yM c]at e;exact mn (aF<|ak ((bf a 3).trans<|by rw[zZ c]) Z rfl)<|ak ((dJ _ 1).trans<|by rw[e]) z5 rfl
 have C:∀b ,ae 4 b=↑(.list<|sX u p n)->ae 12 b=↑(nD k')->xc b=↑true:=λb z4 z=>aF<|(BF rfl z (LD b z4)).trans (by rw[yA<|by lia,yA<|by lia];rfl);apply(fY<|eV<|aF<|ak ((cN a 2).trans<|by grind) rfl rfl).trans;apply(aJ<|bu<|bM (E _ rfl rfl) rfl).trans;apply(aJ<|bu<|bM ((λb z4 z5 z=>iO (C b z4 z) (ak WH (ak (Gf H) z4<|(KD<|cons_of z5<|cons_of z rfl).trans (by show some _=_;rw[J])) rfl):∀b ,ae 4 b=↑_->ae 5 b=↑(nD k)->ae 12 b=↑_->tM xc (f2 aK (f2 aK _<|bT Cm<|aa _<|aa _ ag)<|fC _) (aX<|aa (fC<|.str "refused")<|aa (fC<|.int 3) ag) b=↑_) _ (Cr h4 rfl) rfl rfl)<|Pb hw).trans;exact(bu<|bM (iO (C _ (Cr h4 rfl) rfl) rfl) rfl).trans rfl
def XC(h4:MO s4 (sX u p n))(A:2<a)(H:(if a=3 then(k:Int)-1 else k+1)=i)(hi:i<0\/n<i) :
  Hg (sg ns w f s4 k x6 x7 x8 (.val<|.int a) x10 x11 x12 x13 x14) os=↑(.nx (sg ns w f s4 k x6 x7 x8 (.val<|.int a) x10 x11 (.val<|.int i) (.val<|di 3) x14) os):=by
 have E:∀b ,ae 5 b=↑_->ae 9 b=↑_->tM (fB<|f2 bc _<|fC _) (f2 Dl.eK _<|fC _) (f2 Dl.aC _<|fC _) b=↑_:=λb z5 Z=>by
  by_cases c:a=3
  .rw[yK c]at H;exact iO (aF<|ak ((bf a 3).trans<|by grind) Z rfl)<|ak ((eZ _ 1).trans<|by rw[H]) z5 rfl
  .rw[yM c]at H;exact mn (aF<|ak ((bf a 3).trans<|by grind) Z rfl)<|ak ((dJ _ 1).trans<|by rw[H]) z5 rfl
 have C:∀b ,ae 4 b=↑(.list<|sX u p n)->ae 12 b=↑(.int i)->xc b=↑false:=λb z4 z=>aF ((BF rfl z (LD b z4)).trans (by
  grind))
 have e:∀b ,ae 4 b=↑_->ae 12 b=↑_->tM xc (f2 aK (f2 aK (ae 4)<|bT Cm<|aa (ae 5)<|aa (ae 12) ag)<|fC<|.int 0) (aX<|aa (fC<|.str "refused")<|aa (fC<|.int 3) ag) b=↑_:=λb z4 z=>mn (C b z4 z)<|tup_is rfl (by simp);apply(fY<|eV<|aF<|ak ((cN a 2).trans<|by grind) rfl rfl).trans;apply(aJ<|bu<|bM (E _ rfl rfl) rfl).trans;apply(aJ<|bu<|Gz (e _ (Cr h4 rfl) rfl) (e _ (El h4 rfl rfl) rfl) rfl rfl).trans;exact(bu<|bM (mn (C _ (Cr h4 rfl) rfl) rfl) rfl).trans rfl
end
section
variable {G T:Γ Pl}{W:Γ Wy}{P Q:Γ Int}{k n m:Nat}{w d e t du wd f:D}{C:Ψ}{ns:Γ Int}{u:Nat->D}{p:Nat->Γ Int}{ρ:aq}{s4 x6 x7 x8 x9 x10 x11 x12 x13 x14:Slot}{s:Fs}{a:Int}{os:Γ Oj}
def YU(H:¬2<a)(n:bj [w,ai<|p k,.int a,t]=↑(.tuple [du,.none])) :
  Hg (sg ns w f s4 k x6 x7 (.val<|ai<|p k) (.val<|.int a) x10 (.val t) x12 x13 x14) os=↑(.nx (sg ns w f s4 k x6 x7 (.val<|ai<|p k) (.val<|.int a) x10 (.val t) x12 (.val du)<|.val .none) os):=by
 apply(fP<|eV<|aF<|ak ((cN a 2).trans<|by rw[zZ H]) rfl rfl).trans;apply(aJ<|bu<|B3 (call_of n rfl rfl) rfl).trans;rfl
def JJ(hk:k<=n):Dl.cut (sX u p n) none (↑(k+1:Nat))=sX u p k:=by
 simp?[Dl.cut,HT.ur,HT.Ad,List.drop_zero,Nat.sub_zero,zD,zR];rw[<-List.map_take,List.take_range]
 grind
def N8(hk:k<=n):sX u p k++[.tuple [wd,ai Q]]=sX (oX u (k+1) wd) (oX p (k+1) Q) (k+1):=by
 show _=(List.range _).map _;rw[vO,qX,List.map_singleton,jt,jt]
 congr 1
 exact yH λi H=>by
  have:=List.mem_range.mp H;rw[mU<|by lia,mU<|by lia]
def Zf(h4:MO s4 (sX u p n))(hk:k<=n)(N:n<=100)(H:¬2<a)(hw:aK (.list [.str "push",.str "lay",.str "settle"]) (.int a)=↑wd)(c:bj [w,ai<|p k,.int a,t]=↑(.tuple [du,ai Q])) :
  Hg (sg ns w f s4 k x6 x7 (.val<|ai<|p k) (.val<|.int a) x10 (.val t) x12 x13 x14) os=↑(.nx (sg ns w f (.own<|sX (oX u (k+1) wd) (oX p (k+1) Q)<|k+1) (k+1) x6 x7 (.val<|ai<|p k) (.val<|.int a) x10 (.val t) x12 (.val du)<|.val<|ai Q) os):=by
 apply(fP<|eV<|aF<|ak ((cN a 2).trans<|by rw[zZ H]) rfl rfl).trans;apply(aJ<|bu<|B3 (call_of c rfl rfl) rfl).trans;have e:∀b ,ae 4 b=↑(.list _)->ae 5 b=↑_->ae 9 b=↑_->ae 14 b=↑(ai Q)->MN lz (fQ cY _ gK _) (dh<|dD<|aa (aX<|aa (f2 aK (dh<|dD<|aa (fC _)<|aa (fC _)<|aa (fC _) ag) _)<|aa _ ag) ag) b=↑_:=λb z4 z5 Z z=>by
  have y:fQ cY (ae 4) gK (rN<|f2 Dl.aC (ae 5)<|fC<|.int 1) b=↑(.list<|sX u p k):=by
   rw[<-JJ hk,fQ,z4,zA,show gK b=↑none from rfl,zA,(WI (ak (dJ (k) 1) z5 rfl):rN (f2 Dl.aC _<|fC _) b=↑_),zA];rfl
  rw[MN,y,zA,
   nY (nR (cons_of (tup_is (cons_of (ak hw (nY<|nR rfl (by simp)) Z)<|cons_of z rfl)<|by simp) rfl)<|by simp),zA]
  show small _=_;rw[N8 hk];exact cU<|by grind
 apply(aJ<|bu<|Aj rfl (e _ (El h4 rfl rfl) rfl rfl rfl)).trans;rfl
end
section
variable {G T:Γ Pl}{W:Γ Wy}{P Q:Γ Int}{k n m:Nat}{w d e t du wd f:D}{C:Ψ}{ns:Γ Int}{u:Nat->D}{p:Nat->Γ Int}{ρ:aq}{s4 x6 x7 x8 x9 x10 x11 x12 x13 x14:Slot}{s:Fs}{a:Int}{os:Γ Oj}
def R72(ns:Γ Int)(G T:Γ Pl)(W:Γ Wy)(f:D)(C:Ψ)(j:Nat)(ρ:aq)(os:Γ Oj):Prop:=∃n k u p s d e g l x X a b c,k<=n/\n<=j/\(∀i,i<=n->Pn G T W (p i))/\(∀i,1<=i->i<=n->word (u i))/\MO s (sX u p n)/\ρ=sg ns (aW G T W) f s k d e g l x X a b c/\os=[{C,AS (aW G T W) u p k n}]
def TY:fE w (ai Q) (CV (λi=>u<|i+1) p k++[Vo wd<|p k]) []=AS w (oX u (k+1) wd) (oX p (k+1) Q) (k+1) (k+1):=by
 rw[M6];have e:oX (λi=>u<|i+1) k wd=λi=>oX u (k+1) wd (i+1):=by
  unfold oX;simp
 show _=atK w _ _ _ _;rw[e,Nat.sub_self]
def FX{α:Type}{z:Nat->α}{y:α}{S:α->Prop}{b:Nat}(H:∀i,b<=i->i<=k->S (z i))(q:S y):∀i,b<=i->i<=k+1->S (oX z (k+1) y i):=λi a I=>by
 by_cases c:i=k+1
 .rw[c,jt];exact q
 .rw[mU c];exact H i a (by omega)
def Ys(ns:Γ Int)(G T:Γ Pl)(W:Γ Wy)(f:D)(C:Ψ)(j:Nat)(ρ:aq)(o:Γ Oj):Prop:=∃a s,mj C ρ o=↑(.nx a s)/\R72 ns G T W f C (j+1) a s
def TV(hl:ns.length<=63)(h:Wd G T W)(h2:∀w∈W,w.2.2<=2)(hw:W.length<=9)(hj:j<=10)(hk:k<=n)(hnj:n<=j)(o:∀i,i<=n->Pn G T W (p i))(H:∀i,1<=i->i<=n->word (u i))(h4:MO s4 (sX u p n)):Ys ns G T W f C j (sg ns (aW G T W) f s4 k (.val<|nD j) x7 x8 x9 x10 x11 x12 x13 x14) [{C,AS (aW G T W) u p k n}]:=by
 have big:=YT;have q:=o k hk;have V:(CV (λi=>u<|i+1) p k).length<sizeLine:=by rw[Ed];lia
 let(E,a,t,so,a0,a4,ht,eA):=Xp (f:=f) (x7:=x7) (x8:=x8) (x9:=x9) (x10:=x10) (x11:=x11) (x12:=x12) (x13:=x13) (x14:=x14) (os:=[{C,AS (aW G T W) u p k n}]) (g:=bD Hg<|QA C) hl h hw hk q j h4;have fin:∀{N K:Nat}{B:Nat->D}{A:Nat->Γ Int}{s F J:Slot}{U d:D},Hg (sg ns (aW G T W) f s4 k (.val<|nD j) (.val<|.int E) (.val<|ai<|p k) (.val<|.int a) (.own so) (.val t) x12 x13 x14) [{C,AS (aW G T W) u p k n}]=↑(.nx (sg ns (aW G T W) f s K (.val<|nD j) (.val<|.int E) (.val<|ai<|p k) (.val<|.int a) (.own so) (.val t) F (.val U) J) [{C,AS (aW G T W) u p k n}])->MO s (sX B A N)->K<=N->N<=j+1->(∀i,i<=N->Pn G T W (A i))->(∀i,1<=i->i<=N->word (B i))->ay C (tA a t) (AS (aW G T W) u p k n)=↑(d,AS (aW G T W) B A K N)->gq d U=↑(.bool false)->Ys ns G T W f C j (sg ns (aW G T W) f s4 k (.val<|nD j) x7 x8 x9 x10 x11 x12 x13 x14) [{C,AS (aW G T W) u p k n}]:=λ{N K B A s F J U d}eM l4 b1 b2 b3 b4 eT O =>
  {_,_,eA.trans<|(aJ eM).trans<|XU l4 b1 eT O,N,K,B,A,_,_,_,_,_,_,_,_,_,_,b1,b2,b3,b4,.inr rfl,rfl,rfl}
 have l:∀{Q:Γ Int}{U L d:D},¬2<a->aK (.list [.str "push",.str "lay",.str "settle"]) (.int a)=↑L->word L->Pn G T W Q->bj [aW G T W,ai<|p k,.int a,t]=↑(.tuple [U,ai Q])->ay C (tA a t) (AS (aW G T W) u p k n)=↑(d,fE (aW G T W) (ai Q) (CV (λi=>u<|i+1) p k++[Vo L<|p k]) [])->gq d U=↑(.bool false)->Ys ns G T W f C j (sg ns (aW G T W) f s4 k (.val<|nD j) x7 x8 x9 x10 x11 x12 x13 x14) [{C,AS (aW G T W) u p k n}]:=λ{Q U L d}Z X S y en eT O =>
  fin (Zf h4 hk (by lia) Z X en) (.inl rfl) (yL _) (by lia) (λi hi=>FX (b:=0) (λi _ c=>o i<|yD c hk) y i (xU _) hi) (FX (λi h1 c=>H i h1<|yD c hk) S) (eT.trans<|by rw[TY]) O
 have r:∀{R:Int},¬2<a->bj [aW G T W,ai<|p k,.int a,t]=↑(.tuple [di R,.none])->ay C (tA a t) (AS (aW G T W) u p k n)=↑(di R,AS (aW G T W) u p k n)->Ys ns G T W f C j (sg ns (aW G T W) f s4 k (.val<|nD j) x7 x8 x9 x10 x11 x12 x13 x14) [{C,AS (aW G T W) u p k n}]:=λ{R}Z en eT=>fin (YU Z en) h4 hk (by lia) o H eT<|uj R;rcases(by lia:a=0\/a=1\/a=2\/a=3\/a=4)with rfl|rfl|rfl|rfl|rfl
 .rcases ht with M|⟨_,i,rfl⟩|⟨z,_⟩
  .let(z1,z2):=KP (n:=W.length) M;exact r (by decide) (od0 h q M)<|Eh (tT<|Rk h q<|VQ (n:=((W.length:Nat):Int)) z1 z2) WJ
  .by_cases I:i<W.length
   .by_cases Y:gM G T W (p k) i=3
    .have pn:=Aq h q I Y;exact l (by decide) rfl (.inl rfl) pn (nx0 h q I Y) (Wl<|NB V (JS h q I Y)<|mV h pn) (wg _)
    .exact r (by decide) (Hx h q<|.inr {rfl,(ib _ _).trans (by rw[decide_eq_decide.mpr<|Ak (G:=G) (T:=T) (P:=p k) I,zZ Y];rfl)})<|Eh (tT<|XA h q I Y) WJ
   .have z2:whole 0 (((W.length:Nat):Int)-1) (nD i)=false:=by
     show(decide ((0:Int)<=((i:Nat):Int))&&decide (((i:Nat):Int)<=((W.length:Nat):Int)-1))=false;rw[zZ (show ¬((i:Nat):Int)<=((W.length:Nat):Int)-1 by lia),kR]
    have cn:¬∃x∈ll G T W (p k),((x:Nat):Int)=((i:Nat):Int):=by
     rintro⟨x,X,e⟩;unfold ll at X
     grind
    exact r (by decide) (Hx h q<|.inr {rfl,(ib _ _).trans (by rw[zZ cn];rfl)})<|Eh (tT<|Rk h q<|VQ (n:=((W.length:Nat):Int)) rfl z2) WJ
  .exact absurd rfl z
 .rcases ht with M|⟨z,_⟩|⟨_,Q,rfl,y⟩
  .exact r (by decide) (od1 q hw M)<|Uz (Pp<|WK h<|NQ h hw M) Xu
  .exact absurd z<|by decide
  .exact l (by decide) rfl (.inr<|.inl rfl) y (nx1 h q y) (VX<|S7 V (dP h y)<|mV h y) (wg _)
 .let(w1,wp):=LL h q;exact l (by decide) rfl (.inr<|.inr rfl) wp (nx2 h q h2 hw) (Xe<|Hh V (SJ h q h2 hw) w1) ((u9 _ _).trans (by rw[yA rfl];rfl))
 .by_cases c:k=0
  .subst c;exact fin (XC (i:=-1) h4 (by decide) rfl (.inl<|by decide)) h4 hk (by lia) o H (SU Kr ZU)<|uj 3
  .obtain⟨K,rfl⟩:∃K,k=K+1:={k-1,by lia}
   have eT:=Xz (t:=t)<|Pa (C:=C) (w:=aW G T W) (v:=λi=>u<|i+1) (p:=p) (k:=K) (m:=n-(K+1)) (by lia);rw[show n-(K+1)+1=n-K by lia]at eT;exact fin (Xo (k':=K) (j:=K+1) h4 (by decide) (by rw[yK rfl];lia) (by lia) (by lia) hk<|H _ (by lia) hk) h4 (by lia) (by lia) o H eT<|Fb<|H _ (by lia) hk
 .by_cases c:k=n
  .subst c;refine fin (XC (i:=((k:Nat):Int)+1) h4 (by decide) (by rw[yM<|by decide])<|.inr<|by lia) h4 hk (by lia) o H ?_<|uj 3;show ay C (tA 4 t) (atK (aW G T W) (λi=>u<|i+1) p k<|k-k)=↑(di 3,atK (aW G T W) (λi=>u<|i+1) p k<|k-k);rw[Nat.sub_self];exact Sa GW ZU
  .have eT:=XG (t:=t)<|MC (C:=C) (w:=aW G T W) (v:=λi=>u<|i+1) (p:=p) (k:=k) (m:=n-(k+1)) (by lia);rw[show n-(k+1)+1=n-k by lia]at eT;exact fin (Xo (k':=k+1) (j:=k+1) h4 (by decide) (by rw[yM<|by decide];lia) (by lia) (by lia) (by lia)<|H _ (by lia)<|by lia) h4 (by lia) (by lia) o H eT<|Fb<|H _ (by lia)<|by lia
end
namespace K72M
abbrev Za(P:Γ Int):Γ D:=[.none,ai<|P++[0],.list<|P.map PyData.int]
variable {G T:Γ Pl}{W:Γ Wy}{P:Γ Int}{C:Ψ}
def NN(h:Wd G T W)(p:P.length=W.length):∀d∈Za P,il C [aW G T W,d]=↑(di 1):=λd H=>by
 simp  at H;refine Bq (WK h ?_) Xu;rcases H with rfl|rfl|rfl
 .exact iM h rfl rfl
 .exact iM h rfl (BN<|by grind)
 .exact iM h rfl rfl
def JU(j:Int):bc (di j) (di j)=↑(.bool true):=by simp[bc,Tw,uY,jM,xG,Ay,zB]
def WV(i:fi ρ=↑l)(L:l.length<=1000)(H:∀d∈l,te (↑d::cs.map λj=>(ρ[j]?).getD none)=↑(di 1)):aD 1 cs fi (fG 0) (λ_=>↑true) te ρ=↑(List.replicate l.length<|di 1):=by
 rw[dy i (by lia) H,List.map_const']
def main(C:Ψ)(ns:Γ Int)(l:ns.length<=63):xp C [.list<|ns.map PyData.int]=↑(.bool true):=by
 let(G,T,W,w,h,f):=BS (ns:=ns) (a:=0) (mo:=9) l (by lia);have hw:W.length<=9:=by have:=f.wm;lia
 obtain⟨P,E,q⟩:∃P,cZ [gH ns,.int 70,aW G T W]=↑(ai P)/\Pn G T W P:={_,tK l h,EG l h}
 obtain⟨N,R,B⟩:∃N:Nat,max (1:Int) (min 10 ((ns.length:Nat):Int))=((N:Nat):Int)/\N<=10:={(max (1:Int)<|min 10 ((ns.length:Nat):Int)).toNat,by lia,by lia}
 let U:Nat->D:=λ_=>.str "";let p0:Nat->Γ Int:=λ_=>P;let(L,I,l1,n,k,u,p,S,J,m,s,t,x,X,b,c,g,hk,y,z,A,H,rfl,rfl):=xu (tgt:=CY 6) (gb:=mj C) nD (R72 ns G T W (ai P) C) N (ρ:=sg ns (aW G T W) (ai P) (.own<|sX U p0 0) 0 .non .non .non .non .non .non .non .non .non) (os:=[{C,AS (aW G T W) U p0 0 0}])
  (λj K O V hR=>by
   let(n,k,u,p,S,J,m,s,t,x,X,b,c,g,hk,y,z,A,H,rfl,rfl):=hR;let(v,o,e,r):=TV (C:=C) (f:=ai P) (x7:=m) (x8:=s) (x9:=t) (x10:=x) (x11:=X) (x12:=b) (x13:=c) (x14:=g) l h f.w2 hw (j:=j) (by lia) hk y z A H;exact{_,v,o,rfl,e,r})
  {0,0,U,p0,_,_,_,_,_,_,_,_,_,_,yL _,yL _,λi _=>q,λi Q M=>by lia,.inl rfl,rfl,rfl}
 apply O3 (os:=[{C,AS (aW G T W) u p k n}]);show mR C [.val<|gH ns,.non,.non,.non,.non,.non,.non,.non,.non,.non,.non,.non,.non,.non,.non,.non] []=_;unfold mR;refine(aJ<|bu<|bS (call_of w rfl rfl) (call_of w rfl rfl) rfl).trans<|(aJ<|bu<|jd (call_of E rfl rfl)<|call_of E rfl rfl).trans<|(aJ<|Im (aU (cX rfl)<|aU (cX rfl) cf) rfl rfl (Od<|dP h q)).trans<|(aJ<|bu<|qk (ds:=sX U p0 0) (nR (cons_of (tup_is rfl (by simp)) rfl)<|by simp) rfl).trans ?_;apply(aJ<|Qh (uK (cons_of ((KD<|cons_of rfl (cons_of ((KD<|cons_of rfl (cons_of (jf rfl) rfl)).trans rfl) rfl)).trans (by show some _=_;grind)) rfl)<|by lia) l1).trans;apply(aJ<|bu<|Aj rfl (WV (EX<|tup_is (cons_of rfl (cons_of (ak (sP (by have:=q.len;grind)) rfl (Et rfl))<|cons_of (nY rfl) rfl))<|by simp) (by simp) λd F=>call_of (NN h q.len d F) rfl rfl)).trans;apply dR;exact cX<|CC (ak (HZ 1 3) rfl (Li 1 (n:=3) (by lia) _))<|ak (JU 0) (call_of (Bq (RL<|Ov h) fn0) (cons_of ((YI rfl rfl rfl).trans rfl) rfl) rfl)<|tup_is rfl (by simp)
end K72M
end Wm
namespace K72
open PySem L2 Dl PySem.Spec PyProof.Rows Pg Hd PySem.W Rg
def main(ns:Γ Int)(h:ns.length<=63):Mg [.list<|ns.map PyData.int]=↑(.bool true):=Wm.K72M.main bF ns h
def ins(P:Params){h:ι}{m:Str->Δ Θ}(X:(Kf P).In h)(G:h.Ns mainGlobals m):TN (Kf P) m:=⟨λ_ _ _=>by
 have B:∀x∈dk,m x=none:=λx H=>mg_none_of X G<|Dl.SE (by kernel_rfl) x H;have M:Ex.vx (Kf P) m clF clC:=Ex.NA X G (by kernel_rfl);refine Rgo.oT (c:=Zr) (top 55) 3 (f3 432 431 lA) M (ns:=clN) (Ex.Q8 (st:=top 54) ((f1 425 424 lA).mg X G) M B rfl Rf.XX rfl rfl rfl rfl rfl (by decide +kernel) (by decide +kernel) (by decide) rfl rfl) ?_;refine Rgo.oN (c:=c10) (top 56) 2 (f2 439 438 lA) M (ns:=clN) (Ex.Q8 (st:=top 54) ((f1 425 424 lA).mg X G) M B rfl Rf.XX rfl rfl rfl rfl rfl (by decide +kernel) (by decide +kernel) (by decide) rfl rfl) ?_;refine Rgo.om (c:=c9) (bG 9) (Rgo.m1 "Floor.counts" 319 318 wa) ?_;refine Rgo.Ym (c:=c8) (bG 8) (Rgo.m1 "Floor.forth" 312 311 wa) ?_;refine Rgo.Ym (c:=c7) (bG 7) (Rgo.m1 "Floor.back" 305 304 wa) ?_;refine Rgo.om (c:=c6) (bG 5) (Rgo.m1 "Floor.plan" 291 290 wa) ?_;refine Rgo.om (c:=c5) (bG 4) (Rgo.m1 "Floor.settle" 284 283 wa) ?_;refine Rgo.Ym (c:=c4) (bG 3) (Rgo.m2 "Floor.lay" 277 276 wa) ?_;refine Rgo.Ym (c:=c3) (bG 2) (Rgo.m2 "Floor.push" 270 269 wa) ?_;refine Rgo.om (c:=c2) (bG 1) (Rgo.m3 "Floor.step_to" 263 262 wa) ?_;refine Rgo.oi (c:=c1) 256 (bG 0) (Rgo.m3 "Floor.__init__" 256 255 wa) {by kernel_rfl,by kernel_rfl,by kernel_rfl,by kernel_rfl} (mg_of X G<|by kernel_rfl) ?_;refine Rgo.ov1 (c:=c0) (bG 6) (Rgo.m3 "Floor.move" 298 297 wa) (by unfold bV;kernel_rfl) (by decide +kernel) (M.at_ ("Nothing",80)<|by decide +kernel) (M.ex ("Nothing",80)<|by decide +kernel) ?_;refine Rgo.oc0 {by kernel_rfl,by kernel_rfl,by kernel_rfl,by kernel_rfl} (by kernel_rfl) ?_;refine on (top 57) (f4 446 445 lA) ?_;refine on (top 53) (f2 418 417 lA) ?_;refine on (top 52) (f3 411 410 lA) ?_;refine on (top 51) (f4 404 403 lA) ?_;refine on (top 50) (f2 397 396 lA) ?_;refine on (top 49) (f3 392 391 lA) ?_;refine on (top 48) (f5 385 384 lA) ?_;refine on (top 47) (f3 378 377 lA) ?_;refine on (top 46) (f2 371 370 lA) ?_;refine on (top 45) (f4 364 363 lA) ?_;refine on (top 44) (f3 359 358 lA) ?_;refine on (top 43) (f3 354 353 lA) ?_;refine on (top 42) (f3 347 346 lA) ?_;refine on (top 41) (f2 340 339 lA) ?_;refine on (top 37) (f2 242 241 Q6) ?_;refine ox (top 36) (f3 235 234 Q6) ?_;refine on (top 35) (f3 228 227 Q6) ?_;refine on (top 34) (f4 221 220 Q6) ?_;refine on (top 32) (f2 216 215 ML) ?_;refine on (top 31) (f2 211 210 ML) ?_;refine on (top 30) (f3 204 203 ML) ?_;refine on (top 29) (f4 197 196 ML) ?_;refine ol (top 28) GC "ways_of.<locals>.<lambda>" (l3 192 191 ML) ?_;refine on (top 26) (f3 187 186 mL) ?_;refine ox (top 25) (f2 180 179 mL) ?_;refine ox (top 24) (f3 173 172 mL) ?_;refine ox (top 23) (f2 166 165 mL) ?_;refine ox (top 22) (f1 159 158 mL) ?_;refine on (top 21) (f2 152 151 mL) ?_;refine on (top 20) (f3 147 146 mL) ?_;refine on (top 19) (f4 142 141 mL) ?_;refine on (top 18) (f1 137 136 mL) ?_;refine on (top 17) (f1 132 131 mL) ?_;refine on (top 16) (f3 127 126 mL) ?_;refine on (top 15) (f3 122 121 mL) ?_;refine on (top 14) (f2 115 114 mL) ?_;refine on (top 13) (f2 108 107 mL) ?_;refine on (top 12) (f3 103 102 mL) ?_;refine on (top 11) (f2 96 95 mL) ?_;refine on (top 10) (f3 89 88 mL) ?_;exact{Rf.YQ,Ex.Y6,(Rf.QJ {280,mg_of X G<|by kernel_rfl}<|Rf.QJ {282,mg_of X G<|by kernel_rfl} Rf.Zn),B,M.ok<|by decide +kernel,{_,X,G}},iu.mg (f1 451 450 lA) X G⟩
def Ye(w:δ):pC (Kf w.params) [189]=true:=by rfl
end K72
open PySem PySem.W PyProof.Rows
theorem PySem.Challenge.cw_stillflow_k72_floors_holds : PySem.Challenge.rw_stillflow_k72_floors.Holds := by
 refine holds_law K72.YO λk1=>?_
 refine holds_open (XP:=XL K72.vw []) (YP:=K72.hk.says) K72.left K72.hk.of K72.hk.keeps (λs e=>xl_of s (Bool.and_eq_true_iff.mp e).1) XL.keeps (by rfl) (by rfl) (by rfl) (λs e=>recFacts_of (Bool.and_eq_true_iff.mp e).2) (by rfl) k1 (by decide +kernel) ⟨rfl,rfl,rfl,rfl,rfl,by decide +kernel⟩ ?hw ?hc
 case hw=>w_witness2
 case hc=>exact K72.walk (l:=PySem.Challenge.rw_stillflow_k72_floors) (K:=K72.Kf) (ts:=[189]) rfl rfl rfl (λw h Y=>⟨Y.1,Y.2⟩) K72.Ye (λw=>K72.ins w.params) K72.main
