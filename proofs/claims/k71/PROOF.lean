import PyProof.Rows.All
import Wide.All
import OpenK.AllK
import Wide.FinOn
import PyProof.EqAt
import PyProof.EqKinds
import PyProof.TupleCall
import Lean
import PyProof.Draws
import PyProof.ListRange
import PySem.SetTable
import KE.KIsAll
import PyProof.Rows.Range3
import PySem.Challenge.RW_stillflow_k71_whole_desks
set_option Elab.async false
set_option linter.all false
set_option maxRecDepth 100000
set_option maxHeartbeats 4000000
set_option genInjectivity false
set_option genSizeOf false
set_option compiler.extract_closed false
local macro_rules|`(↑$x)=>`(some $x)
abbrev Γ:=@List
abbrev Δ:=@Option
abbrev Θ:=PySem.Value
abbrev Ξ:=PySem.Shared
abbrev Φ:=PySem.W.Frag
abbrev Ψ:=PySem.Addr
abbrev Ω:=PySem.Stmt
abbrev γ:=PySem.Expr
abbrev δ:=PySem.World
abbrev ε:=PySem.Program
abbrev ζ:=PySem.Scope
abbrev η:=PySem.FuncData
abbrev θ:=Bool
abbrev ι:=PySem.Heap
abbrev ξ:=PySem.Around
abbrev zA:=@Option.bind_some
abbrev zB:=@Option.map_some
abbrev zC:=@List.mem_cons_of_mem
abbrev zD:=@List.length_map
abbrev zE:=@List.mem_cons_self
abbrev zF:=@Bool.and_eq_true
abbrev zG:=@List.getD_eq_getElem?_getD
abbrev zH:=@List.size_toArray
abbrev zI:=@List.map_cons
abbrev zJ:=@decide_eq_true_eq
abbrev zK:=@List.getElem?_eq_getElem
abbrev zL:=@List.length_cons
abbrev zM:=@List.map_map
abbrev zN:=@List.length_append
abbrev zO:=@List.getElem?_map
abbrev zP:=@Nat.lt_of_lt_of_le
abbrev zQ:=@List.mem_map
abbrev zR:=@List.mem_cons
abbrev zS:=@List.length_range
abbrev zT:=@List.mem_range
abbrev zU:=@List.getElem?_eq_some_iff
abbrev zV:=@PySem.Heap.get?_push_of_some
abbrev zW:=@PySem.wpAny_bind
abbrev zX:=@PySem.wpAny_pure
abbrev zY:=@PySem.Heap.get?_push_size
abbrev zZ:=@PySem.Heap.lt_size
abbrev yA:=@decide_eq_false
abbrev yB:=@decide_eq_true
abbrev yC:=@List.lookup_cons
abbrev yD:=@List.length_set
abbrev yE:=@Nat.le_trans
abbrev yF:=@List.mem_append_right
abbrev yG:=@List.not_mem_nil
abbrev yH:=@Int.toNat_natCast
abbrev yI:=@List.map_congr_left
abbrev yJ:=@List.foldl_cons
abbrev yK:=@List.mem_singleton
abbrev yL:=@Option.some.injEq
abbrev yM:=@if_pos
abbrev yN:=@Nat.le_refl
abbrev yO:=@if_neg
abbrev yP:=@Bool.false_eq_true
abbrev yQ:=@Bool.not_eq_true'
abbrev yR:=@of_decide_eq_true
abbrev yS:=@Nat.ne_of_lt
abbrev yT:=@List.getElem?_append_left
abbrev yU:=@List.getElem?_append_right
abbrev yV:=@List.map_nil
abbrev yW:=@List.set_cons_zero
abbrev yX:=@List.set_cons_succ
abbrev yY:=@List.getElem?_replicate
abbrev yZ:=@List.getElem?_cons_succ
abbrev xA:=@Bool.false_ne_true
abbrev xB:=@PySem.wpAny_mono
abbrev xC:=@decide_eq_false_iff_not
abbrev xD:=@List.length_singleton
abbrev xE:=@Option.some.inj
abbrev xF:=@List.cons_append
abbrev xG:=@List.all_eq_true
abbrev xH:=@if_true
abbrev xI:=@List.getElem?_set
abbrev xJ:=@PySem.Heap.size_push
abbrev xK:=@List.length_nil
abbrev xM:=@List.length_replicate
abbrev xN:=@PySem.Heap.get?_update_other
abbrev xO:=@List.nil_append
abbrev xP:=@List.length_filter_le
abbrev xQ:=@List.getElem?_cons_zero
abbrev xR:=@PySem.wpAny_pyIter_tuple
abbrev xS:=@List.all_cons
abbrev xU:=@or_false
abbrev xV:=@Nat.zero_le
abbrev xW:=@PySem.wpAny_truthy_bool
abbrev xX:=@PySem.wpAny_holding
abbrev xY:=@Bool.not_true
abbrev xZ:=@Int.le_refl
abbrev qA:=@List.getElem_mem
abbrev qB:=@List.mem_of_getElem?
abbrev qC:=@PySem.wpAny_callSpecial?_slot
abbrev qD:=@Array.getD_eq_getD_getElem?
abbrev qE:=@Nat.lt_irrefl
abbrev qF:=@List.append_nil
abbrev qG:=@Option.getD_some
abbrev qH:=@List.length_drop
abbrev qJ:=@List.mem_append_left
abbrev qK:=@PySem.wpAny_pyIter_list
abbrev qL:=@PySem.wpAny_newObj_type
abbrev qM:=@PySem.F.plainAttrs_list
abbrev qN:=@if_false
abbrev qP:=@List.getElem_of_mem
abbrev qQ:=@PyProof.Rows.callWith_type1
abbrev qS:=@PySem.wpAny_field
abbrev qT:=@PySem.sizeLine_eq
abbrev qU:=@PySem.wpAny_call_entry
abbrev qV:=@PySem.call_meets
abbrev qX:=@PySem.wpAny_Call_Name_kw
abbrev qY:=@Nat.lt_of_le_of_lt
abbrev qZ:=@List.map_append
abbrev jA:=@Bool.or_eq_true
abbrev jB:=@congrArg
abbrev jC:=@Nat.zero_add
abbrev jD:=@List.pairwise_map
abbrev jE:=@PyProof.Rows.slot_tuple_getitem
abbrev jF:=@List.filterMap_cons
abbrev jG:=@List.ext_getElem
abbrev jH:=@Nat.ne_of_gt
abbrev jI:=@PySem.wpAny_passesOwn
abbrev jJ:=@Bool.true_and
abbrev jK:=@List.getElem?_eq_none
abbrev jL:=@Ne.symm
abbrev jM:=@Nat.lt_succ_of_lt
abbrev jN:=@and_self
abbrev jO:=@decide_true
abbrev jP:=@PySem.F.slot_tuple_iterator_next
abbrev jQ:=@PySem.codeAny_mono
abbrev jR:=@Nat.le_of_lt
abbrev jS:=@Int.le_trans
abbrev jT:=@Nat.le_add_right
abbrev jU:=@List.length_take
abbrev jV:=@List.filter_cons
abbrev jW:=@List.mem_of_find?_eq_some
abbrev jX:=@Array.getElem?_eq_getElem
abbrev jY:=@PySem.mem_of_lookup
abbrev jZ:=@PyProof.Rows.listUpdate_at
abbrev kA:=@List.sum_cons
abbrev kC:=@PyProof.Rows.get?_update_seq
abbrev kE:=@PySem.codeAny_builtin
abbrev kF:=@List.filter_map
abbrev kG:=@PySem.wpAny_seqItems
abbrev kJ:=@List.take_of_length_le
abbrev kK:=@List.findIdx_lt_length_of_exists
abbrev kL:=@Option.getD_none
abbrev kM:=@Nat.lt_succ_self
abbrev kN:=@PySem.wpAny_newList
abbrev kO:=@PySem.wpAny_attempt
abbrev kP:=@List.getElem?_set_ne
abbrev kR:=@List.nodup_cons
abbrev kU:=@List.cons.injEq
abbrev kW:=@PySem.wpAny_setField_rec
abbrev kX:=@Int.emod_lt_of_pos
abbrev kY:=@List.drop_eq_getElem_cons
abbrev kZ:=@List.reverse_cons
abbrev vA:=@List.foldl_append
abbrev vB:=@List.findIdx_cons
abbrev vC:=@PySem.wpAny_standAt
abbrev vD:=@PySem.F.args_tuple_add_2
abbrev vE:=@List.range'_succ
abbrev vF:=@PySem.F.entry_tuple_add
abbrev vG:=@Int.eq_ofNat_of_zero_le
abbrev vH:=@PySem.wpAny_call
abbrev vI:=@beq_iff_eq
abbrev vJ:=@PyProof.Rows.listItems_at
abbrev vK:=@PySem.F.slot_tuple_add
abbrev vL:=@List.range_succ_eq_map
abbrev vM:=@List.getElem?_set_self
abbrev vN:=@PySem.wpAny_execs_nil
abbrev vO:=@Nat.not_lt_zero
abbrev vP:=@List.range_succ
abbrev vQ:=@List.of_mem_zip
abbrev vR:=@List.find?_some
abbrev vS:=@Int.emod_nonneg
abbrev vT:=@PySem.F.slot_zip_next
abbrev vU:=@List.getElem?_toArray
abbrev vV:=@Nat.mul_le_mul
abbrev vW:=@PyProof.Rows.IntsAre.length
abbrev vX:=@Bool.false_and
abbrev vY:=@PySem.codeAny_call_builtin
abbrev vZ:=@List.getD_cons_zero
abbrev wA:=@List.getD_cons_succ
abbrev wC:=@Array.length_toList
abbrev wD:=@PySem.wpAny_rule
abbrev wF:=@PySem.wpAny_Name
abbrev wG:=@Option.isNone_none
abbrev wH:=@PySem.F.args_tuple_mul_2
abbrev wI:=@PySem.Code.quiet_builtin
abbrev wJ:=@PySem.wpAny_typeOf
abbrev wK:=@decide_false
abbrev wL:=@PySem.concat_meets
abbrev wM:=@Nat.lt_trans
abbrev wN:=@List.any_map
abbrev wQ:=@PySem.wpAny_pyIter_enum
abbrev wR:=@List.nodup_append
abbrev wU:=@PySem.F.entry_tuple_mul
local macro_rules|`(tactic|simp?[$t,*] $[$l:location]?)=>`(tactic|simp only[$t,*] $[$l]?)
local macro_rules(kind:=«term{_}»)|s=>let a:Array (Lean.TSyntax `term):=s[1].getSepArgs.map (⟨·⟩);`(⟨$a,*⟩)
local macro_rules|`(tactic|let $p:term:=$e)=>do
 let rec f(n:Nat)(t:Lean.Syntax):Lean.MacroM (Lean.TSyntax `rcasesPat):=match n with
 |0=>Lean.Macro.throwUnsupported
 |n+1=>do
  let g(b:Array Lean.Syntax):Lean.MacroM (Lean.TSyntax `rcasesPat):=do
   let c<-b.mapM fun x=>do `(Lean.Parser.Tactic.rcasesPatLo|$(<-f n x):rcasesPat)
   `(rcasesPat|⟨$c,*⟩)
  match t with
  |`(⟨$b,*⟩)=>g b.getElems
  |`(($b,$c,*))=>g (#[b.raw]++c.getElems.map (·.raw))
  |`($x:ident)=>`(rcasesPat|$x:ident)
  |_=>`(rcasesPat|_)
 `(tactic|obtain $(<-f 9 p):rcasesPat:=$e)
local macro_rules|`(def $i:declId $s:optDeclSig $v:declVal)=>`(noncomputable def $i:declId $s:optDeclSig $v:declVal)
local macro_rules|`(abbrev $i:declId $s:optDeclSig $v:declVal)=>`(noncomputable abbrev $i:declId $s:optDeclSig $v:declVal)
namespace L2
open PySem
def eh(s:Ω):Arguments:=match s with
 |.FunctionDef _ a _ _ _ _ _ _ _ _=>a
 |_=>{posonlyargs:=[],args:=[],vararg:=none,kwonlyargs:=[],kw_defaults:=[],kwarg:=none,defaults:=[]}
def ba(s:Ω):Γ Ω:=match s with
 |.FunctionDef _ _ b _ _ _ _ _ _ _=>b
 |_=>[]
def ax(s:Ω):ζ:=match s with
 |.FunctionDef _ _ _ _ _ _ c _ _ _=>c
 |_=>{kind:=.function,names:=[],isGenerator:=false,isCoroutine:=false}
end L2
namespace Hd
open PySem L2 PySem.Spec PyProof.Rows
variable {N:Nat}
def en(P:Params)(x:String)(t:Nat)(v:Θ):DictEntry:={PyData.keyHash P<|Str.ofString x,.str (Str.ofString x) t,v}
def fo(x:Str)(st:Ω)(p:Θ)(c:Ψ):Obj:={.type "function",none,.func<|W.fnOf x x (eh st) (ba st) (ax st) .none .none .none p none (.ref c) .none,#[]}
def co(vs:Γ Θ):Obj:={.type "code",none,.fields vs.toArray,#[]}
def Hl(n:Nat):Θ:=if n=0 then .none else .ref n
def Ry(x:Str)(t l n a b c d e f u:Nat):Obj:=co [.str x t,.str x<|t+1,.str "/claim/cut.py"<|t+2,.int l 0,.int n 0,.int 0 0,.int 0 0,.int 3 0,Hl a,.bool true,.int 181 0,Hl b,Hl c,Hl d,Hl e,Hl f,.int u 0,.int l 0,.str "/claim/cut.py"<|u+1]
open PySem PySem.W L2
structure Acc where
 a:Nat
 t:Nat
 nm:Θ
 es:Γ DictEntry
 ts:Γ Θ
 os:Γ Obj
def LP(q:NameKind)(sc:ζ):Γ Str:=sc.names.filterMap λ(x,k)=>if k=q then↑x else none
def OJ:Nat->Γ Str->Γ Θ
 |_,[]=>[]
 |t,x::l=>.str x t::OJ (t+1) l
def JQ(vs:Γ Θ):Obj:={.type "tuple",none,.seq vs.toArray,#[]}
def PV:Obj:={.none,none,.fields #[],#[]}
def P0(x:Str)(st:Ω):Obj:={.none,none,.func {name:=x,qualname:=x,params:=eh st,body:=.stmts<|ba st,scope:=ax st,globals:=0,closure:=[],defaults:=.none,kwdefaults:=.none},#[]}
def UK(P:Params)(k:Nat)(st:Ω):Acc->Acc
 |⟨a,t,N,e,T,o⟩=>match st with
  |.FunctionDef x s _ _ _ _ S _ _ p =>
   if k=0 then⟨a+5,t+6,N,{PyData.keyHash P x,.str x<|t+5,.ref<|a+4}::e,.ref (a+3)::.int 0 0::.int p.line 0::T,
    fo x st N (a+3)::Ry x t p.line s.args.length a (a+1) 0 0 0 (a+2) (t+3)::P0 x st::PV::JQ []::o⟩
   else
    let m:=(LP .local S).length;let n:=m+(LP .cell S).length
    ⟨a+7,t+6+n,N,{PyData.keyHash P x,.str x<|t+5+n,.ref<|a+6}::e,.ref (a+5)::.int 0 0::.int p.line 0::T,
    fo x st N (a+5)::Ry x t p.line s.args.length a (a+1) 0 (a+2) (a+3) (a+4) (t+3+n)::P0 x st::JQ (OJ (t+3+m)<|LP .cell S)::JQ (OJ (t+3)<|LP .local S)::PV::JQ []::o⟩
  |.Assign [.Name x _] (.Constant c _ _) _ =>
   let v:=match c with|.int i=>Value.int i t|.str y=>.str y t|_=>.none
   if k=2 then {a,t+2,v,e,T,o}else {a,t+2,N,{PyData.keyHash P x,.str x<|t+1,v}::e,T,o}
  |_=>{a,t,N,e,T,o}
def Rh(P:Params):Γ Nat->Γ Ω->Acc->Acc
 |k::s,st::r,A=>Rh P s r (UK P k st A)
 |_,_,A=>A
def SY:ι->Acc->ι
 |⟨⟨o0::o1::o2::⟨c3,D,.dict ⟨e::E⟩ n,S⟩::r⟩,l⟩,A=>⟨⟨o0::o1::o2::{c3,D,.dict {{e with val:=A.nm}::(E++A.es.reverse)}<|n+A.es.length,S} ::
   (r.modify 8 (fun|⟨c,d,.fields ⟨v⟩,s⟩=>{c,d,.fields {v++A.ts.reverse},s}|o=>o)++A.os.reverse)⟩,l⟩
 |h,_=>h
def p5(s:Ξ)(A:Acc):Ξ:={s with heap:=SY s.heap A,toks:=A.t}
section
variable (p:ε)(w:δ)
abbrev AN:=behindTheImports p
abbrev Jg:PySem.Env:={scope:=p.main.scope,locals:=3,globals:=3,cells:=[],code:=.ref 13,frame:=↑14}
abbrev AL:Code:=.body (AN p)<|Jg p
def FJ(i:Nat):Pos:=if i=0 then default else((AN p).getD (i-1) (.Pass default)).pos
abbrev J4:Γ Frame:=[topFrame default]
def S0:Ξ:=(fencedOpening treeTable p w 6000).getD {}
def Sb:Ξ:=((topGo treeTable p w 11 (↑(.ref 6)) 12 (S0 p w)<|topStub p).map (·.1)).getD {}
abbrev Pe(n i j:Nat)(s:Ξ):=segRun treeTable p w 11 (↑(.ref 6)) 1 n s<|piecesOf (((AN p).drop i).take<|j-i) (Jg p) (AL p) (FJ p i) J4
end
def K0{p q:ε}{l:Γ Str}{X:Ξ->θ}{α:Type}{f:Ξ->α}{Y:δ->α}{g:θ}{s:δ->Ξ}{M:Nat}
  (o:∀w,fencedOpening treeTable p w 6000=↑(S0 p w))(hs:∀w,((S0 p w).heap.isNs mainGlobals&&(S0 p w).gens.size==0,(S0 p w).heap.objs.size,(S0 p w).heap.nsMap mainGlobals "__annotations__")=(true,11,↑(.ref 6)))
  (R:∀w,topRun treeTable p w 11 (↑(.ref 6)) M (S0 p w) (topStub p)=↑(s w))(m:M<=6000)
  (H:∀w,(staticsOk (importedModules p.main.body) (S0 p w).heap (s w).heap&&namesBound p (s w).heap&&gensDone (s w)&&laidKept (S0 p w).heap (s w).heap)=true)
  (hk:∀w,openSeen q l (importedModules p.main.body) X g (s w)=openGood q l)(y:∀w,f (s w)=Y w):LeftO p q l X f Y 6000 g:=λw=>by
 have r:=topRun_mono (6000-M) _ _ _ _ (R w);rw[show M+(6000-M)=6000 by lia]at r;have e:=hs w;simp?[Prod.mk.injEq]at e;have t:openEnds treeTable p w 6000=↑(s w):=by
  unfold openEnds;rw[o w,zA];unfold topFrom;rw[e.1,e.2.1,e.2.2];dsimp only;rw[r,zA,H w]
 rw[t,zB,hk w,y w]
def N9{p:ε}{w:δ}{r:Ξ}(a:topGo treeTable p w 11 (↑(.ref 6)) 12 (S0 p w) (topStub p)=↑(Sb p w,{denote treeTable<|.body (AN p)<|Jg p,AL p,default,J4}))
  (b:segRun treeTable p w 11 (↑(.ref 6)) 1 1 (Sb p w) (blockOf (AN p) (Jg p) (AL p) default J4)=↑(.next,Sb p w,AL p,FJ p 0))
  (k:topRun treeTable p w 11 (↑(.ref 6)) N (Sb p w) (restOf (AN p) (Jg p) (AL p) (FJ p 0) J4)=↑r):topRun treeTable p w 11 (↑(.ref 6)) (12+(1+N)) (S0 p w) (topStub p)=↑r:=go_top a<|piece_block b k
def Rx{p:ε}{w:δ}{n N i j:Nat}{s s' r:Ξ}(h:Pe p w n i j s=↑(.next,s',AL p,FJ p j))(U:i<=j)(k:topRun treeTable p w 11 (↑(.ref 6)) N s' (restOf ((AN p).drop j) (Jg p) (AL p) (FJ p j) J4)=↑r) :
  topRun treeTable p w 11 (↑(.ref 6)) (n+N) s (restOf ((AN p).drop i) (Jg p) (AL p) (FJ p i) J4)=↑r:=by
 have e:(AN p).drop i=((AN p).drop i).take (j-i)++(AN p).drop j:=by
  have:=List.take_append_drop (j-i) ((AN p).drop i);simp_all
 rw[e];exact piece_app h k
def Ki:Ω->Γ Ω
 |.ClassDef _ _ _ b ..=>b
 |_=>[]
def T5(x:Str)(C ns t u:Nat):Obj:={.type "type",none,.cls {name:=x,bases:=[.type "object"],mro:=[.ref C,.type "object"],ns:=ns,qualname:=x,subclasses:=[]},#[none,none,↑(.str x t),↑(.str x u),↑(.builtin "object.__new__"),↑(.bool true)]}
def QN(x q:Str)(st:Ω)(p:Θ)(c:Ψ):Obj:={.type "function",none,.func<|W.fnOf x q (eh st) (ba st) (ax st) .none .none .none p none (.ref c) .none,#[]}
def Uv(x q:Str)(t l n a b d e f u:Nat):Obj:=co [.str x t,.str q<|t+1,.str "/claim/cut.py"<|t+2,.int l 0,.int n 0,.int 0 0,.int 0 0,.int 3 0,Hl a,.bool true,.int 181 0,Hl b,.none,Hl d,Hl e,Hl f,.int u 0,.int l 0,.str "/claim/cut.py"<|u+1]
def d5(x:Str)(st:Ω)(p:Θ)(t l n a:Nat):Γ (Ψ×Obj):=[(a+3,Ry x t l n a (a+1) 0 0 0 (a+2)<|t+3),(a+4,fo x st p<|a+3)]
def d7(x:Str)(st:Ω)(p:Θ)(t l n a u:Nat):Γ (Ψ×Obj):=[(a+5,Ry x t l n a (a+1) 0 (a+2) (a+3) (a+4) u),(a+6,fo x st p<|a+5)]
def m7(x q:Str)(st:Ω)(p:Θ)(t l n a u:Nat):Γ (Ψ×Obj):=[(a+5,Uv x q t l n a (a+1) (a+2) (a+3) (a+4) u),(a+6,QN x q st p<|a+5)]
section
variable (p:ε)(w:δ)
def Sd(n i j:Nat)(s:Ξ):Ξ:=((Pe p w n i j s).map (·.2.1)).getD {}
def SB(s:Ξ)(j:Nat)(A:Acc)(k:Γ Nat)(m:Nat):Ξ:=p5 s<|Rh w.params (k.take m) ((AN p).drop j) A
end
end Hd
namespace K71
open PySem L2 PySem.Spec PyProof.Rows Hd PySem.W
abbrev top(i:Nat):Ω:=PySem.Challenge.pw_stillflow_k71_whole_desks.main.body.getD i<|.Pass {0,0,0,0}
def vw:ε:=W.view PySem.Challenge.pw_stillflow_k71_whole_desks [1,2,3,4,5,7,8,9,10,11,12,13,14,15,16,17,18,19,20,21,22,23,24,25,26,27,29,30,31,32,33,34,36,37,38,39,40,41,42,44,45,46,47,48,49,50,52,53,54,56,57,58,59,60,61,62]
abbrev d9:Ψ:=407
abbrev cI(i:Nat):Ω:=(Ki<|top 54).getD i<|.Pass {0,0,0,0}
def tj:Θ:=(.str "stillflow.desks" 593)
def jx:Θ:=(.str "stillflow.worlds" 271)
def AM:Θ:=(.str "stillflow.changes" 419)
def De:Θ:=(.str "stillflow.flows" 476)
def Dq:Θ:=(.str "stillflow.finding" 530)
def C2:Θ:=(.str "law_stillflow_k71_whole_desks" 708)
def Kf(P:Params):Φ:=[(3,{.type "dict",none,.dict #[en P "__name__" 165<|.str "law_stillflow_k71_whole_desks" 708,en P "__doc__" 166 .none,en P "__package__" 167 .none,en P "__loader__" 168<|.builtin "__main__.__loader__#opaque",en P "__spec__" 169 .none,en P "__annotations__" 170<|.ref 6,en P "__builtins__" 171<|.ref 4,en P "__file__" 173<|.str "/claim/cut.py" 172,en P "__cached__" 174 .none,en P "FlowError" 206<|.ref 24,en P "NoWorld" 222<|.ref 37,en P "NoPlan" 238<|.ref 49,en P "NoPlace" 254<|.ref 61,en P "Nothing" 270<|.ref 73,en P "MOST_PLACES" 274<|.int 4 273,en P "MOST" 276<|.int 9 275,en P "is_whole" 285<|.ref 82,en P "is_number" 293<|.ref 89,en P "is_long" 302<|.ref 96,en P "are_likes" 308<|.ref 101,en P "is_end" 316<|.ref 108,en P "is_way" 325<|.ref 115,en P "are_parts" 331<|.ref 120,en P "liked_pairs" 337<|.ref 125,en P "is_world" 343<|.ref 130,en P "through" 349<|.ref 135,en P "keeps_amounts" 355<|.ref 140,en P "is_plan" 361<|.ref 145,en P "check_world" 368<|.ref 152,en P "check_plan" 376<|.ref 159,en P "check_whole" 385<|.ref 166,en P "check_number" 393<|.ref 173,en P "check_side" 400<|.ref 180,en P "check_place" 409<|.ref 187,en P "replaced" 418<|.ref 194,en P "with_end" 431<|.ref 201,en P "with_likes" 441<|.ref 208,en P "with_ways" 449<|.ref 215,en P "with_amount" 459<|.ref 222,en P "with_limit" 469<|.ref 229,en P "without_way" 475<|.ref 234,en P "ways_of" 483<|.ref 239,en P "chosen_by" 489<|.ref 244,en P "wants_more" 495<|.ref 249,en P "why_kept" 504<|.ref 256,en P "first_leaving" 513<|.ref 263,en P "is_still" 521<|.ref 270,en P "rests" 529<|.ref 277,en P "chosen_by_all" 537<|.ref 282,en P "limits" 543<|.ref 287,en P "lowered" 552<|.ref 294,en P "refused" 564<|.ref 301,en P "steps" 574<|.ref 308,en P "capped" 585<|.ref 315,en P "givers_best" 592<|.ref 322,en P "flows_between" 600<|.ref 327,en P "gone_otherwise" 613<|.ref 334,en P "Desk" 707<|.ref 407,en P "_law_cell" 717<|.ref 418,en P "_law_drawn" 727<|.ref 425,en P "_law_orders" 742<|.ref 432,en P "_law_world" 748<|.ref 437,en P "_law_goes" 754<|.ref 442,en P "_law_led" 760<|.ref 447,en P "law" 766<|.ref 452] 65,#[]})] ++
 (d7 "is_whole" (top 9) jx 277 15 3 76 283 ++
 (d7 "is_number" (top 10) jx 286 19 2 83 291 ++
 (d7 "is_long" (top 11) jx 294 21 3 90 300 ++
 (d5 "are_likes" (top 12) jx 303 23 2 97 ++
 (d7 "is_end" (top 13) jx 309 29 2 102 314 ++
 (d7 "is_way" (top 14) jx 317 31 3 109 323 ++
 (d5 "are_parts" (top 15) jx 326 35 3 116 ++
 (d5 "liked_pairs" (top 16) jx 332 43 1 121 ++
 (d5 "is_world" (top 17) jx 338 48 1 126 ++
 (d5 "through" (top 18) jx 344 55 4 131 ++
 (d5 "keeps_amounts" (top 19) jx 350 57 3 136 ++
 (d5 "is_plan" (top 20) jx 356 59 2 141 ++
 (d7 "check_world" (top 21) jx 362 66 1 146 366 ++
 (d7 "check_plan" (top 22) jx 369 69 2 153 374 ++
 (d7 "check_whole" (top 23) jx 377 73 3 160 383 ++
 (d7 "check_number" (top 24) jx 386 76 2 167 391 ++
 (d7 "check_side" (top 25) jx 394 78 1 174 398 ++
 (d7 "check_place" (top 26) jx 401 80 3 181 407 ++
 (d7 "replaced" (top 27) jx 410 83 3 188 416 ++
 (d7 "with_end" (top 29) AM 421 86 5 195 429 ++
 (d7 "with_likes" (top 30) AM 432 88 4 202 439 ++
 (d7 "with_ways" (top 31) AM 442 90 2 209 447 ++
 (d7 "with_amount" (top 32) AM 450 92 4 216 457 ++
 (d7 "with_limit" (top 33) AM 460 97 3 223 467 ++
 (d5 "without_way" (top 34) AM 470 103 2 230 ++
 (d5 "ways_of" (top 36) De 478 113 3 235 ++
 (d5 "chosen_by" (top 37) De 484 118 4 240 ++
 (d5 "wants_more" (top 38) De 490 125 4 245 ++
 (d7 "why_kept" (top 39) De 496 132 3 250 502 ++
 (d7 "first_leaving" (top 40) De 505 140 2 257 511 ++
 (d7 "is_still" (top 41) De 514 145 2 264 519 ++
 (d7 "rests" (top 42) De 522 147 2 271 527 ++
 (d5 "chosen_by_all" (top 44) Dq 532 151 3 278 ++
 (d5 "limits" (top 45) Dq 538 157 1 283 ++
 (d7 "lowered" (top 46) Dq 544 159 3 288 550 ++
 (d7 "refused" (top 47) Dq 553 161 2 295 562 ++
 (d7 "steps" (top 48) Dq 565 168 1 302 572 ++
 (d7 "capped" (top 49) Dq 575 177 2 309 583 ++
 (d7 "givers_best" (top 50) Dq 586 182 1 316 590 ++
 (d5 "flows_between" (top 52) tj 595 186 1 323 ++
 (d7 "gone_otherwise" (top 53) tj 601 188 2 328 611 ++
 (m7 "__init__" "Desk.__init__" (cI 0) tj 626 199 2 342 631 ++
 (m7 "world" "Desk.world" (cI 1) tj 634 203 1 349 638 ++
 (m7 "plan" "Desk.plan" (cI 2) tj 641 206 1 356 645 ++
 (m7 "change_to" "Desk.change_to" (cI 3) tj 648 209 2 363 654 ++
 (m7 "set_amount" "Desk.set_amount" (cI 4) tj 657 214 4 370 664 ++
 (m7 "set_limit" "Desk.set_limit" (cI 5) tj 667 217 3 377 673 ++
 (m7 "close" "Desk.close" (cI 6) tj 676 220 2 384 681 ++
 (m7 "undo" "Desk.undo" (cI 7) tj 684 223 1 391 689 ++
 (m7 "many" "Desk.many" (cI 8) tj 692 229 1 398 696 ++
 ([(406,{.type "dict",none,.dict #[en P "__module__" 621<|.str "stillflow.desks" 593,en P "__firstlineno__" 625<|.int 197 624,en P "__init__" 633<|.ref 348,en P "world" 640<|.ref 355,en P "plan" 647<|.ref 362,en P "change_to" 656<|.ref 369,en P "set_amount" 666<|.ref 376,en P "set_limit" 675<|.ref 383,en P "close" 683<|.ref 390,en P "undo" 691<|.ref 397,en P "many" 698<|.ref 404,en P "__static_attributes__" 700<|.ref 405,en P "__dict__" 702<|.ref 408,en P "__weakref__" 704<|.ref 409,en P "__doc__" 705 .none] 4,#[]})] ++
 ([(407,T5 "Desk" 407 406 614 622)] ++
 (d7 "_law_cell" (top 56) C2 710 232 2 412 715 ++
 (d7 "_law_drawn" (top 57) C2 718 236 3 419 725 ++
 (d7 "_law_orders" (top 58) C2 728 240 3 426 740 ++
 (d5 "_law_world" (top 59) C2 743 248 3 433 ++
 (d5 "_law_goes" (top 60) C2 749 264 1 438 ++
 (d5 "_law_led" (top 61) C2 755 266 2 443 ++
 (d5 "law" (top 62) C2 761 271 1 448)))))))))))))))))))))))))))))))))))))))))))))))))))))))))))
def hk:W.Hook:=W.kmHook Kf [3,81,82,88,89,95,96,100,101,107,108,114,115,119,120,124,125,129,130,134,135,139,140,144,145,151,152,158,159,165,166,172,173,179,180,186,187,193,194,200,201,207,208,214,215,221,222,228,229,233,234,238,239,243,244,248,249,255,256,262,263,269,270,276,277,281,282,286,287,293,294,300,301,307,308,314,315,321,322,326,327,333,334,347,348,354,355,361,362,368,369,375,376,382,383,389,390,396,397,403,404,406,407,417,418,424,425,431,432,436,437,441,442,446,447,451,452] (λ_=>rfl) [236]
abbrev pp:=PySem.Challenge.pw_stillflow_k71_whole_desks
abbrev Tc(w:δ):Ξ:=Sd pp w 1048 0 6<|Sb pp w
abbrev A0:Acc:={76,271,.str "stillflow.errors" 187,[],[],[]}
abbrev Ui:Γ Nat:=[2,3,3,1,1,1,0,1,1,0,0,0,0,0,0,1,1,1,1,1,1,1,2,1,1,1,1,1,0,2,0,0,0,1,1,1,1,2,0,0,1,1,1,1,1,2,0,1]
abbrev Qc(w:δ)(m:Nat):Ξ:=SB pp w (Tc w) 6 A0 Ui m
abbrev R9(w:δ):Ξ:=Sd pp w 480 54 55<|Qc w 48
abbrev A2:Acc:={412,708,.str "stillflow.desks" 593,[],[],[]}
abbrev Ul:Γ Nat:=[2,1,1,1,0,0,0,0]
abbrev Rq(w:δ)(m:Nat):Ξ:=SB pp w (R9 w) 55 A2 Ul m
def o0(w:δ):fencedOpening treeTable pp w 6000=↑(S0 pp w):=by kernel_rfl
def o1(w:δ):((S0 pp w).heap.isNs mainGlobals&&(S0 pp w).gens.size==0,(S0 pp w).heap.objs.size,(S0 pp w).heap.nsMap mainGlobals "__annotations__")=(true,11,↑(.ref 6)):=by kernel_rfl
def o2(w:δ):topGo treeTable pp w 11 (↑(.ref 6)) 12 (S0 pp w) (topStub pp)=↑(Sb pp w,{denote treeTable<|.body (AN pp)<|Jg pp,AL pp,default,J4}):=by kernel_rfl
def o3(w:δ):segRun treeTable pp w 11 (↑(.ref 6)) 1 1 (Sb pp w) (blockOf (AN pp) (Jg pp) (AL pp) default J4)=↑(.next,Sb pp w,AL pp,FJ pp 0):=by kernel_rfl
def q0(w:δ):Pe pp w 1048 0 6 (Sb pp w)=↑(.next,Tc w,AL pp,FJ pp 6):=by kernel_rfl
def p0(w:δ):Tc w=Qc w 0:=by kernel_rfl
def r0(w:δ):Pe pp w 1267 6 54 (Qc w 0)=↑(.next,Qc w 48,AL pp,FJ pp 54):=by kernel_rfl
def q2(w:δ):Pe pp w 480 54 55 (Qc w 48)=↑(.next,R9 w,AL pp,FJ pp 55):=by kernel_rfl
def p2(w:δ):R9 w=Rq w 0:=by kernel_rfl
def r1(w:δ):Pe pp w 213 55 63 (Rq w 0)=↑(.next,Rq w 8,AL pp,FJ pp 63):=by kernel_rfl
abbrev fs(w:δ):Ξ:=Rq w 8
def qe(w:δ):topRun treeTable pp w 11 (↑(.ref 6)) 3 (fs w) (restOf ((AN pp).drop 63) (Jg pp) (AL pp) (FJ pp 63) J4)=↑(fs w):=by kernel_rfl
def rl(w:δ):topRun treeTable pp w 11 (↑(.ref 6)) (12+(1+(1048+(1267+(480+(213+3)))))) (S0 pp w) (topStub pp)=↑(fs w):=N9 (o2 w) (o3 w)<|Rx (i:=0) (q0 w) (by decide) (by rw[p0 w];exact(Rx (r0 w) (by decide)<|Rx (q2 w) (by decide) (by rw[p2 w];exact(Rx (r1 w) (by decide)<|qe w))))
abbrev sn(w:δ):=openSeen vw [] (importedModules pp.main.body) (λs=>xlAt vw [] s&&recOk [] s) true<|fs w
abbrev gd:=openGood vw []
def l0(w:δ):(staticsOk (importedModules pp.main.body) (S0 pp w).heap (fs w).heap&&namesBound pp (fs w).heap&&gensDone (fs w)&&laidKept (S0 pp w).heap (fs w).heap)=true:=by kernel_rfl
def TR(w:δ):(sn w).1=gd.1:=by kernel_rfl
def Ua(w:δ):(sn w).2.1=gd.2.1:=by kernel_rfl
def Uj(w:δ):(sn w).2.2.1=gd.2.2.1:=by kernel_rfl
def Um(w:δ):(sn w).2.2.2.1=gd.2.2.2.1:=by kernel_rfl
def TZ(w:δ):(sn w).2.2.2.2.1=gd.2.2.2.2.1:=by kernel_rfl
def Uo(w:δ):(sn w).2.2.2.2.2.1=gd.2.2.2.2.2.1:=by kernel_rfl
def UG(w:δ):(sn w).2.2.2.2.2.2=gd.2.2.2.2.2.2:=by kernel_rfl
def Ud(w:δ):hk.obs (fs w)=hk.val w:=by kernel_rfl
def left:LeftO pp vw [] (λs=>xlAt vw [] s&&recOk [] s) hk.obs hk.val 6000:=K0 o0 o1 rl (by decide) l0 (λw=>Prod.ext (TR w)<|Prod.ext (Ua w)<|Prod.ext (Uj w)<|Prod.ext (Um w)<|Prod.ext (TZ w)<|Prod.ext (Uo w)<|UG w) Ud
def R4:PySem.Challenge.rw_stillflow_k71_whole_desks.wellSaid=true:=by kernel_rfl
end K71
namespace L2
open PySem PySem.Spec PyProof.Rows
abbrev j5:=Sum Int Str
def Du:j5->Θ->θ
 |.inl k,v=>Value.isInt k v
 |.inr x,v=>Value.isStrOf x v
def Td(w:δ):j5->Int
 |.inl k=>hashInt k
 |.inr x=>hashStr w x
def bR:∀{k:j5}{v:Θ},Du k v=true->(∃i t,k=Sum.inl i/\v=Value.int i t)\/(∃x t,k=Sum.inr x/\v=Value.str x t)
 |.inl i,v,h=>by
  let(t,e):=Value.isInt_shape h;exact .inl {i,t,rfl,e}
 |.inr x,v,h=>by
  let(t,e):=Value.isStrOf_shape h;exact .inr {x,t,rfl,e}
def Ek(i:Int)(t:Tok):Du (.inl i) (.int i t)=true:=by simp[Du,Value.isInt]
def OK(a b:Int):decide ((Sum.inl a:j5)=Sum.inl b)=(a==b):=by
 grind
def OU(a b:Str):decide ((Sum.inr a:j5)=Sum.inr b)=decide (a=b):=by
 simp
def Nl(a:Int)(b:Str):decide (Sum.inl a=Sum.inr b)=false:=yA<|nofun
def Nt(a:Str)(b:Int):decide (Sum.inr a=Sum.inl b)=false:=yA<|nofun
def dE(prog:ε)(w:δ):PySem.KeyKind prog w j5 where
 is:=Du
 hash:=Td w
 inj:=λv a b A B=>by
  rcases bR A with ⟨i,t,rfl,rfl⟩|⟨x,t,rfl,rfl⟩
  .rcases bR B with ⟨j,u,rfl,e⟩|⟨y,u,rfl,e⟩
   .injection e with E _;rw[E]
   .exact nomatch e
  .rcases bR B with ⟨j,u,rfl,e⟩|⟨y,u,rfl,e⟩
   .exact nomatch e
   .injection e with E _;rw[E]
 byValue:=λk v h=>by
  rcases bR h with ⟨i,t,rfl,rfl⟩|⟨x,t,rfl,rfl⟩<;>rfl
 pyHash:=λH h=>by
  rcases bR H with ⟨i,t,rfl,rfl⟩|⟨x,t,rfl,rfl⟩
  .exact wpAny_pyHash_int h
  .exact wpAny_pyHash_str h
 eqBool:=λU H h=>by
  rcases bR U with ⟨i,t,rfl,rfl⟩|⟨x,t,rfl,rfl⟩
  .rcases bR H with ⟨j,u,rfl,rfl⟩|⟨y,u,rfl,rfl⟩
   .rw[OK]at h;exact wpAny_eqBool_int h
   .rw[Nl]at h;exact SeqAt.EqAt.int_str i t y u _ _ _ _ h
  .rcases bR H with ⟨j,u,rfl,rfl⟩|⟨y,u,rfl,rfl⟩
   .rw[Nt]at h;exact SeqAt.EqAt.str_int x t j u _ _ _ _ h
   .rw[OU]at h;exact wpAny_eqBool_str h
 «strs»:=λk x t v h=>by
  rcases bR h with ⟨i,u,rfl,e⟩|⟨y,u,rfl,e⟩
  .exact nomatch e
  .injection e with E _
   subst E;cases v<;>rfl
def yb(prog:ε)(w:δ)(i:Int)(t:Tok):(dE prog w).is (.inl i) (.int i t)=true:=Ek i t
set_option genInjectivity true in
inductive V where
 |UQ|bl (b:θ)|int (i:Int)|str (x:Str)|byt (b:Array UInt8)|flt (b:UInt64)|ref (a:Ψ)|ty (n:String)
 deriving DecidableEq
def RelV:V->Θ->Prop
 |.UQ,u=>u=Value.none
 |.bl b,u=>u=Value.bool b
 |.int i,u=>∃t,u=Value.int i t
 |.str x,u=>∃t,u=Value.str x t
 |.byt b,u=>∃t,u=Value.bytes b t
 |.flt b,u=>∃t,u=Value.float b t
 |.ref a,u=>u=Value.ref a
 |.ty n,u=>u=Value.type n
abbrev aI:Γ V->Γ Θ->Prop:=Paired RelV
def aI.length(r:aI xs us):xs.length=us.length:=Paired.length r
def aI.get:∀{xs:Γ V}{s:Γ Θ}{i:Nat}{x:V},aI xs s->xs[i]?=↑x->∃u,s[i]?=↑u/\RelV x u
 |_,_,_,_,.nil,e=>by simp at e
 |_,_,0,_,.cons r _,e=>by simp at e;subst e;exact{_,rfl,r}
 |_,_,i+1,x,.cons _ t,e=>by
  let(u,H,a):=aI.get (i:=i) (x:=x) t (by simpa using e);exact{u,by simpa using H,a}
def aI.set(r:RelV x u):∀{xs:Γ V}{s:Γ Θ}(i:Nat),aI xs s->aI (xs.set i x) (s.set i u)
 |_,_,_,.nil=>.nil
 |_,_,0,.cons _ t=>.cons r t
 |_,_,i+1,.cons q t=>.cons q<|aI.set r i t
def aI.append:∀{xs ys:Γ V}{u w:Γ Θ},aI xs u->aI ys w->aI (xs++ys) (u++w)
 |_,_,_,_,.nil,s=>s
 |_,_,_,_,.cons r t,s=>.cons r<|aI.append t s
def aI.take:∀{xs:Γ V}{u:Γ Θ}n,aI xs u->aI (xs.take n) (u.take n)
 |_,_,0,_=>.nil
 |_,_,_+1,.nil=>.nil
 |_,_,n+1,.cons r t=>.cons r<|aI.take n t
def aI.drop:∀{xs:Γ V}{u:Γ Θ}n,aI xs u->aI (xs.drop n) (u.drop n)
 |_,_,0,r=>r
 |_,_,_+1,.nil=>.nil
 |_,_,n+1,.cons _ t=>aI.drop n t
def xr:Δ V->Δ Θ->Prop
 |some v,↑u=>RelV v u
 |none,none=>True
 |_,_=>False
def KV:Γ (U×V)->Γ (U×Θ)->Prop:=Paired λ(p:U×V)(q:U×Θ)=>p.1=q.1/\RelV p.2 q.2
def kV:j5->V
 |.inl i=>.int i
 |.inr x=>.str x
set_option genInjectivity true in
inductive HO where
  |lst (xs:Γ V)
  |tup (xs:Γ V)
  |dK (Vn:Γ (j5×V))|dT (ep:Nat) (xs:Γ (Γ j5×Ψ×Θ))
  |set (S:Int->θ) (n:Nat)
  |ins (C dx:Ψ) (fs:Γ (Str×V))
  |own (x:Ψ)
  |xd (fs:Γ (Str×V))
  |met (f x:Ψ)
  |rng (lo hi:Int)
  |Vt (o:Obj) (u:HO)
  |tab (q:Str)
 |Yl (q:Str)
  |ext (φ:ι->Prop)
abbrev Hp:=Ψ->Δ HO
def upd(H:Hp)(a:Ψ)(o:HO):Hp:=λb=>if b=a then↑o else H b
def ar:upd H a o a=↑o:=by unfold upd;simp
def ai(h:b≠a):upd H a o b=H b:=by unfold upd;rw[yO h]
def aF{H:Hp}{a b:Ψ}{o:HO}(h:H a=↑o)(h':H b=none):a≠b:=by
 grind
def Eg(h:ι)(a:Ψ)(U:Array Θ):Prop:=IsTup h a U/\∃o,h.get? a=↑o/\o.dict=none
def Eg.new(h:ι)(U:Array Θ):Eg (h.push {cls:=.type "tuple",data:=.seq U}) h.objs.size U:={.new _ _,_,zY _ rfl,rfl}
section
variable (P:ε)(w:δ)
def cC(H:Hp)(h:ι)(a:Ψ):HO->Prop
 |.lst s=>s.length<=sizeLine/\∃ (U:Γ Θ) (n:Nat),aI s U/\h.get? a=some {cls:=.type "list",data:=.seq U.toArray n}
 |.tup s=>s.length<=sizeLine/\∃U:Γ Θ,aI s U/\Eg h a U.toArray
 |.dK N=>N.length<=sizeLine/\(a==sysModules)=false/\∃j,KV N j/\h.DictOf (dE P w) a j
 |.dT k s=>s.length<=sizeLine/\(a==sysModules)=false /\
   ∃o E,h.get? a=↑o/\o.ExactDict/\o.data=.dict E k/\E.toList=s.map (entryOfKey<|tupleKind<|dE P w)/\(s.map (·.1)).Nodup
 |.set S n=>h.SetOf (intKind P w) a S n
 |.ins C d fs=>H d=↑(.own a)/\fs.length<=1000/\d≠a/\h.get? a=↑(W.instObj C d) /\
   ∃m,h.Ns1 d m/\(∀f,xr (fs.lookup f)<|m f)/\PySem.Within m (fs.map (·.1))
 |.own _=>∃o,h.get? a=↑o
 |.xd fs=>∃m,h.Ns1 a m/\∀f,xr (fs.lookup f) (m f)
 |.rng l I=>∃t u v,h.get? a=some {cls:=.type "range",data:=.fields #[.int l t,.int I u,.int 1 v]}
 |.Vt o u=>h.get? a=↑o/\cC H h a u
 |.tab q=>∃b:Array Θ,h.get? a=some {cls:=.none,data:=.fields b}/\TriplesOk b.toList/\∀p v,codeAmong p b.toList=↑v->∃c,v=.ref c/\H c=↑(.Yl q)
 |.Yl q=>h.CodeRec (.ref a) q
 |.met f x=>h.get? a=↑(W.methodObj (.ref f)<|.ref x)
 |.ext e=>e h/\(∃o,h.get? a=↑o)/\∀g i:ι,e g->(∀o,g.get? a=↑o->i.get? a=↑o)->e i
def pN(H:Hp)(h:ι):Prop:=∀a o,H a=↑o->cC P w H h a o
end
def cC.lt(x:cC P w H h a o):a<h.objs.size:=by
 cases o with
 |lst s=>let(_,_,_,_,e):=x;exact zZ e
 |tup s=>let(_,_,_,p):=x;exact p.1.lt
 |dK v=>let(_,_,_,_,o,_,_,e,_):=x;exact zZ e
 |dT b v=>let(_,_,o,_,e,_):=x;exact zZ e
 |set S n=>let(o,_,_,_,e,_):=x;exact zZ e
 |ins C d fs=>let(_,_,_,e,_):=x;exact zZ e
 |own y=>let(_,e):=x;exact zZ e
 |xd fs=>let(_,(_,_,_,e,_),_):=x;exact zZ e
 |rng l i=>let(_,_,_,e):=x;exact zZ e
 |Vt ob u=>let(e,_):=x;exact zZ e
 |tab q=>let(_,e,_):=x;exact zZ e
 |Yl q=>let(_,_,_,_,E,e,_):=x;cases E;exact zZ e
 |met f y=>exact zZ (show h.get? a=↑_ from x)
 |ext c=>let(_,(_,e),_):=x;exact zZ e
def Paired.aaE:∀{l₁:Γ α}{H:Γ β},Paired F l₁ H->(∀a b,F a b->G a b)->Paired G l₁ H
 |_,_,.nil,_=>.nil
 |_,_,.cons r t,f=>.cons (f _ _ r)<|Paired.aaE t f
def TM:HO->Prop
 |.tup _=>True
 |.Yl _=>True
 |_=>False
def cC.VF(x:cC P w H h a o)(k:∀b u,(b=a\/H b=↑(.own a))->h.get? b=↑u->h'.get? b=↑u)
  (O:∀b,H b=↑(.own a)->H' b=↑(.own a))(ht:∀b u,H b=↑u->TM u->H' b=↑u):cC P w H' h' a o:=by
 induction o with
 |lst X=>let(z,U,n,r,e):=x;exact{z,U,n,r,k _ _ (.inl rfl) e}
 |tup X=>let(z,U,r,(ob,e,c),o2,g,D):=x;exact{z,U,r,{ob,k _ _ (.inl rfl) e,c},o2,k _ _ (.inl rfl) g,D}
 |dK N=>let(z,y,j,r,ob,s,E,e,c):=x;exact{z,y,j,r,ob,s,E,k _ _ (.inl rfl) e,c}
 |dT E N =>
  let(z,y,ob,s,e,c):=x;exact{z,y,ob,s,k _ _ (.inl rfl) e,c}
 |set S n=>let(ob,s,E,t,e,c):=x;exact{ob,s,E,t,k _ _ (.inl rfl) e,c}
 |ins C G fs =>
  let(d,z,A,e,m,(od,s,E,g,c),r):=x;exact{O _ d,z,A,k _ _ (.inl rfl) e,m,{od,s,E,k _ _ (.inr d) g,c},r}
 |own y=>let(ob,e):=x;exact{ob,k _ _ (.inl rfl) e}
 |xd fs=>let(m,(od,s,E,e,c),r):=x;exact{m,{od,s,E,k _ _ (.inl rfl) e,c},r}
 |rng L J=>let(t,u,v,e):=x;exact{t,u,v,k _ _ (.inl rfl) e}
 |Vt ob u I=>let(e,q):=x;exact{k _ _ (.inl rfl) e,I q}
 |tab q=>let(F,e,t,c):=x;exact{F,k a _ (.inl rfl) e,t,λi v z=>let ⟨c0,z1,z2⟩:=c i v z;{c0,z1,ht _ _ z2 trivial}}
 |Yl q=>let(c,B,j,t,l,e,r):=x;cases l;exact{_,B,j,t,rfl,k _ _ (.inl rfl) e,r}
 |met f y =>
  have e:h.get? a=↑(W.methodObj (.ref f)<|.ref y):=x;show h'.get? a=↑(W.methodObj (.ref f)<|.ref y);exact k a _ (.inl rfl) e
 |ext K=>let(p,(o,e),st):=x;exact{st _ _ p λo q=>k _ _ (.inl rfl) q,{o,k _ _ (.inl rfl) e},st}
def pN.lt(x:pN P w H h)(e:H a=↑o):a<h.objs.size:=(x a o e).lt
def pN.fresh(x:pN P w H h)(e:h.objs.size<=a):H a=none:=by
 cases q:H a with
 |none=>rfl
 |some u=>exact absurd (zP (x.lt q) e)<|qE _
def pN.kept(x:pN P w H h)(k:∀b u,h.get? b=↑u->h'.get? b=↑u):pN P w H h':=λa o e =>
 (x a o e).VF (λb u _=>k b u) (λ_ q=>q) λ_ _ q _=>q
def pN.laid(x:pN P w H h)(k:∀b u,h.get? b=↑u->h'.get? b=↑u)(p:h.objs.size<=a)(N:cC P w (upd H a o) h' a o):pN P w (upd H a o) h':=λb u e=>by
 have n:=x.fresh p;by_cases B:b=a
 .subst B;rw[ar]at e;grind
 .rw[ai B]at e;exact(x b u e).VF (λc v _=>k c v) (λc q=>by rw[ai<|aF q n];lia) λc s q _=>by rw[ai<|aF q n];lia
def Rd(H:Hp)(a:Ψ)(u:HO):Prop:=H a=↑u\/∃o,H a=↑(.Vt o u)
def Rd.ok(r:Rd H a u)(x:pN P w H h):cC P w H h a u:=by
 rcases r with r|⟨o,r⟩
 .exact x a u r
 .let(_,q):=x a _ r;lia
def Qi:Δ HO->Prop
 |some (.lst _)=>True
 |some (.dK _)=>True
 |some (.dT ..)=>True
 |some (.set _ _)=>True
 |some (.ins _ _ _)=>True
 |some (.ext _)=>True
 |_=>False
def pN.write(O:pN P w H h)(m:Qi (H x))(d:e=x\/H e=↑(.own x))(k:∀b u,b≠e->h.get? b=↑u->h'.get? b=↑u)(o:∃u,h'.get? e=↑u)
  (n:cC P w (upd H x U) h' x U):pN P w (upd H x U) h':=λb u q=>by
 have a:∀c y,H c=↑(.own y)->c≠x:=λc y r z=>by subst z;rwa[r]at m
 by_cases B:b=x
 .subst B;rw[ar]at q;grind
 .rw[ai B]at q;by_cases E:b=e
  .have Q:H b=↑(.own x):=by
    grind
   rw[q]at Q;cases Q;let(v,f):=o;exact{v,by grind}
  .refine (O b u q).VF (λc v hc=>k c v ?_) (λc r=>by rw[ai<|a c b r];lia) λc s r R=>by rw[ai<|(λc u r R z=>by subst z;rw[r]at m;cases u<;>first|exact m|exact R:∀c u,H c=↑u->TM u->c≠x) c s r R];lia
   grind
def Rv:HO->Prop
 |.tab _=>True
 |.Yl _=>True
 |_=>False
def Rv.ZK(h:Rv u):¬Qi (↑u):=by cases u<;>first|exactλz=>z|exact h.elim
structure Mo(H H':Hp)(h h':Heap):Prop where
 st:∀b u,H b=↑u->Rv u->H' b=↑u
 gr:∀b q ps,H b=↑(.tab q)->h.get? b=some {cls:=.none,data:=.fields ps}->∃more:Array Θ,h'.get? b=some {cls:=.none,data:=.fields (ps++more)}
def Mo.kept(k:∀b u,(∃q,H b=↑(.tab q))->h.get? b=↑u->h'.get? b=↑u)(st:∀b u,H b=↑u->Rv u->H' b=↑u):Mo H H' h h':=
 {st,λb q p e z=>{#[],by exact k b _ {q,e} z}}
def Mo.trans(a:Mo H U h h1)(b:Mo U H2 h1 h2):Mo H H2 h h2:=
 ⟨λc u q t=>b.st c u (a.st c u q t) t,λc q p e z=>by
  let(m1,z1):=a.gr c q p e z;let(m2,z2):=b.gr c q _ (a.st c _ e trivial) z1;exact{m1++m2,by rw[z2,Array.append_assoc]}⟩
structure Un(fs ex:List Addr)(H H':Hp)(h h':Heap):Prop where
 keep:∀b o,h.get? b=↑o->H b=none->b∉fs->b∉ex->h'.get? b=↑o
 slot:∀b o,h.get? b=↑o->H b=none->b∈fs->b∉ex->∃sl,h'.get? b=some {o with slots:=sl}
 free:∀b o,h.get? b=↑o->H b=none->b∉ex->H' b=none
 there:∀b o,h.get? b=↑o->b∉ex->∃o',h'.get? b=↑o'
 WG:∀b xs,H b=↑(.tup xs)->H' b=↑(.tup xs)
 Wo:∀b o u,H b=↑(.Vt o u)->H' b=↑(.Vt o u)
 V1:Mo H H' h h'
def Un.any(u:Un fs ex H H1 h U)(q:h.get? b=↑ob)(n:H b=none)(x:b∉ex):∃s,U.get? b=some {ob with slots:=s}:=by
 by_cases B:b∈fs
 .exact u.slot b ob q n B x
 .exact{ob.slots,u.keep b ob q n B x}
def Un.kept(k:∀b u,h.get? b=↑u->h'.get? b=↑u):Un fs ex H H h h':=
 {λb ob q _ _ _=>k b ob q,λb ob q _ _ _=>{ob.slots,k b ob q},λ_ _ _ n _=>n,λb ob q _=>{ob,k b ob q},λ_ _ q=>q,λ_ _ _ q=>q,.kept (λb u _=>k b u) λ_ _ e _=>e}
def Un.refl:Un fs ex H H h h:=Un.kept λ_ _ q=>q
def Un.laid(k:∀b u,h.get? b=↑u->h'.get? b=↑u)(p:h.objs.size<=a)(N:H a=none):Un fs ex H (upd H a o) h h' where
 keep:=λb u q _ _ _=>k b u q
 slot:=λb u q _ _ _=>{u.slots,k b u q}
 free:=λb u q n _=>by rw[ai<|yS<|zP (zZ q) p];lia
 there:=λb u q _=>{u,k b u q}
 WG:=λb x q=>by rw[ai<|aF q N];lia
 Wo:=λb u x q=>by rw[ai<|aF q N];lia
 V1:=.kept (λb u _=>k b u) λb u q _=>by rw[ai<|aF q N];lia
def Un.write(m:Qi (H x))(E:e=x\/H e=↑(.own x))(k:∀b u,b≠e->h.get? b=↑u->h'.get? b=↑u)(O:∃u,h'.get? e=↑u):Un fs ex H (upd H x o) h h':=by
 have X:∀b,H b=none->b≠x:=λb n z=>by subst z;rwa[n]at m
 have B:∀b,H b=none->b≠e:=λb n z=>by
  grind
 have M:∀b u,H b=↑u->¬Qi (↑u)->b≠x:=λb u q N z=>by subst z;rw[q]at m;exact N m
 refine⟨λb u q n _ _=>k b u (B b n) q,λb u q n _ _=>{u.slots,k b u (B b n) q},λb u q n _=>by rw[ai<|X b n];lia,λb u q _=>?_,
  λb s q=>by rw[ai<|M b _ q λz=>z];lia,λb u s q=>by rw[ai<|M b _ q λz=>z];lia,.kept (λb u z=>k b u (λr=>by subst r;rcases E with r|r<;>first|(subst r;rcases z with ⟨q,z⟩;rw[z]at m;exact m)|grind)) λb u q N=>by rw[ai<|M b _ q<|N.ZK];lia⟩
 grind
def Rw(h:ι)(H:Hp):Γ Ψ:=(List.range h.objs.size).filter λa=>(H a).isSome
def EM(h:ι)(H:Hp):ι:=W.hideAll h<|Rw h H
def D8(h:ι)(H:Hp):(EM h H).objs.size=h.objs.size:=W.hideAll_size _ _
def Hr(e:h.get? b=↑o)(n:H b=none):(EM h H).get? b=↑o:=
 W.hideAll_get _ e λm=>by
  have q:(H b).isSome=true:=(List.mem_filter.mp m).2;rw[n]at q;simp at q
def L6(e:(EM h H).get? b=↑o):h.get? b=↑o/\H b=none:=by
 have E:h.get? b=↑o:=W.of_hideAll (Rw h H) e;refine{E,?_};cases q:H b with
 |none=>rfl
 |some x =>
  have m:b∈Rw h H:=List.mem_filter.mpr {List.mem_range.mpr<|zZ E,by simp[q]};have z:(EM h H).get? b=none:=W.hideAll_none (Rw h H) m;rw[z]at e;cases e
def Rt(mg:Str->Δ Θ)(base:ι):Prop:=∃b o,mg "__builtins__"=↑(.ref b)/\b≠builtinsNs/\b≠mainGlobals/\base.get? b=↑o/\o.cls=.type "module"/\o.dict=↑builtinsNs/\o.data=.plain
structure Mod(K:W.Frag)(mg:Str->Option Value)(base:Heap):Prop where
 kin:K.In base
 glob:base.Ns mainGlobals mg
 blt:∃mb,base.Ns builtinsNs mb/\∀x:Str,x≠"__name__"->mb x=bootBuiltins x
 nolimit:base.NoLimit
 bmd:Rt mg base
structure Cx where
 prog:ε
 w:δ
 K:Φ
 mg:Str->Δ Θ
 base:ι
 A:ξ
 N:Γ Str
 Ve:Ξ
 UP:Hp
 env:Env
 outer:Γ Env
 stack:Γ Env
 ex:Γ Ψ
 fn:Str->θ
 calm:θ
 pn:Γ (Ψ×Obj)
 xe:Θ->Ξ->Prop
def Et(l:Γ Env):Γ Ψ:=l.filterMap (·.frame)
abbrev Cx.fs(X:Cx):Γ Ψ:=Et X.outer
def rA(sc:ζ)(x:Str):Prop:=sc.names.lookup x=↑.local \/ sc.names.lookup x=↑.cell\/sc.names.lookup x=↑.free
def Loc(sc:ζ)(x:Str):Prop:=sc.names.lookup x=↑.local \/ sc.names.lookup x=↑.cell
def Look(env:Env)(h:ι)(m:Str->Δ Θ)(x:Str)(u:Θ):Prop:=
 (env.kindOf x=↑.local /\ m x=↑u)\/((env.kindOf x=↑.cell\/env.kindOf x=↑.free)/\∃c,env.cells.lookup x=↑c/\h.IsCell c (↑u))
structure Cx.Ok(X:Cx):Prop where
 mod:Mod X.K X.mg X.base
 kind:X.env.scope.kind=.function
 glob:X.env.globals=mainGlobals
 blt:X.env.builtins=builtinsNs
 above:X.Ve.heap.objs.size<=X.env.locals
 inj:∀x y c,X.env.cells.lookup x=↑c->X.env.cells.lookup y=↑c->x=y
 has:∀x,(X.env.kindOf x=↑.cell\/X.env.kindOf x=↑.free)->∃c,X.env.cells.lookup x=↑c
 cab:∀x c,X.fn x=true->X.env.cells.lookup x=↑c->X.Ve.heap.objs.size<=c
 hd:X.calm=true->X.A.handled=none
 frames:X.A.frames=↑X.stack
 stk:X.stack=X.outer\/(X.stack=X.env::X.outer/\X.env.frame=↑X.env.locals)
 exf:∀b∈X.ex,b≠X.env.locals/\∀x c,X.env.cells.lookup x=↑c->c≠b
 bs:∀b o,X.base.get? b=↑o->X.Ve.heap.get? b=↑o/\X.UP b=none
 ZL:X.base.objs.size<=X.Ve.heap.objs.size
 Ym:∀b o,X.base.get? b=↑o->b∉X.ex
 YK:∀b∈X.ex,b∉X.fs
 VU:X.Ve.heap.FunFrames X.base X.outer
 frf:∀b∈X.fs,X.UP b=none
structure Inv(X:Cx)(pins:List (Addr×Obj))(σ:List (Option V))(H:Hp)(s:Shared):Prop where
 ok:X.Ok
 os:s.os=X.Ve.os
 bare:AllBare s.gens
 base:Un X.fs X.ex X.UP H X.Ve.heap s.heap
 loc:∃m,s.heap.Ns X.env.locals m/\∀(i:Nat)(x:Str)(v:V),X.N[i]?=↑x->σ[i]?=↑(↑v)->rA X.env.scope x->∃u,RelV v u/\Look X.env s.heap m x u
 cell:∀x c,X.env.cells.lookup x=↑c->∃v,s.heap.IsCell c v
 free:H X.env.locals=none
 Vo:∀x c,X.env.cells.lookup x=↑c->H c=none
 pin:∀p∈X.pn++pins,s.heap.get? p.1=↑p.2/\H p.1=none/\p.1≠X.env.locals/\p.1∉X.fs/\∀v,p.2.data≠.cell v
 UX:pN X.prog X.w H s.heap
 len:σ.length=X.N.length
def Cx.Ok.adT{X:Cx}(k:X.Ok)(e:X.base.get? b=↑o):b∉X.fs:=λH=>by
 have:=(k.VU.mem H).1
 grind
def Inv.bs{X:Cx}{s:Ξ}(I:Inv X pins σ H s):∀b o,X.base.get? b=↑o->s.heap.get? b=↑o/\H b=none:=λb o e =>
 {I.base.keep b o (I.ok.bs b o e).1 (I.ok.bs b o e).2 (I.ok.adT e)<|I.ok.Ym b o e,I.base.free b o (I.ok.bs b o e).1 (I.ok.bs b o e).2<|I.ok.Ym b o e}
def Inv.bk(I:Inv X pins σ H s):∀b o,X.base.get? b=↑o->s.heap.get? b=↑o:=λb o e=>(I.bs b o e).1
def Inv.mod(I:Inv X pins σ H s):Mod X.K X.mg X.base:=I.ok.mod
def Inv.Wq(I:Inv X pins σ H s):X.K.In s.heap:=I.ok.mod.kin.keeps I.bk
def Inv.nolimit(I:Inv X pins σ H s):s.heap.NoLimit:=I.ok.mod.nolimit.keeps I.bk
def Inv.lt(I:Inv X pins σ H s):X.env.locals<s.heap.objs.size:=let ⟨_,n,_⟩:=I.loc;n.lt
def Inv.sz(I:Inv X pins σ H s):X.Ve.heap.objs.size<=s.heap.objs.size:=yE I.ok.above<|jR I.lt
def Inv.adU(I:Inv X pins σ H s)(h:s.heap.objs.size<=a):a∉X.fs:=λb=>by
 let(_,o,O,_):=I.ok.VU.mem b;exact absurd (zP (zZ O)<|yE I.sz h)<|qE _
def Inv.cne(I:Inv X pins σ H s):∀x c,X.env.cells.lookup x=↑c->c≠X.env.locals:=λx c e z=>by
 let(v,o,O,d):=I.cell x c e;let(m,(a,E,p,W,Z,_),_):=I.loc
 grind
def Inv.VU(I:Inv X pins σ H s):s.heap.FunFrames X.base X.outer:=by
 have a:∀(l:Γ Env),(∀b∈Et l,b∈X.fs)->X.Ve.heap.FunFrames X.base l->s.heap.FunFrames X.base l:=by
  intro l
  induction l with
  |nil=>intro _ _;trivial
  |cons v r i =>
   intro S g;let(hk,(L,o,f,n,O,d),R):=g;have c:L∈X.fs:=S L (by unfold Et;rw[jF,f];exact zE);let(j,e):=I.base.slot L o O (I.ok.frf L c) c λz=>I.ok.YK L z c;exact{hk,{L,_,f,n,e,d},i (λb B=>S b (by unfold Et;rw[jF,f];exact zC _ B)) R}
 exact a X.outer (λ_ B=>B) I.ok.VU
def Inv.stack(I:Inv X pins σ H s):s.heap.FunFrames X.base X.stack:=by
 rcases I.ok.stk with e|⟨e,f⟩
 .rw[e];exact I.VU
 .rw[e];let(m,n,_):=I.loc;exact .cons (by rw[I.ok.kind];simp) f n (Heap.get?_none_of_le<|yE I.ok.ZL I.ok.above) I.VU
def Inv.Xv(I:Inv X pins σ H s):∀b∈Et X.stack,b∈X.env.locals::X.fs:=λb B=>by
 rcases I.ok.stk with e|⟨e,f⟩
 .rw[e]at B;exact zC _ B
 .rw[e,Et,jF,f]at B;exact B
def Inv.WH(I:Inv X pins σ H s):∀b∈Et X.stack,H b=none:=λb B=>by
 rcases List.mem_cons.mp (I.Xv b B)with e|B
 .rw[e];exact I.free
 .let(_,o,O,_):=I.ok.VU.mem B;exact I.base.free b o O (I.ok.frf b B) λz=>I.ok.YK b z B
def Inv.step{g':Array GenState}{t':Nat}{d':Drawn}{ch:Γ Ψ}(I:Inv X pins σ H s)
  (W:∀b∈ch,(b∈X.ex\/X.Ve.heap.objs.size<=b)/\b≠X.env.locals/\(∀x c,X.env.cells.lookup x=↑c->c≠b)/\∀p∈X.pn++pins,p.1≠b)
  (P:∀b o,b≠X.env.locals->b∉X.fs->b∉ch->s.heap.get? b=↑o->H b=none->h'.get? b=↑o)
  (t:∀b o,b≠X.env.locals->b∈X.fs->b∉ch->s.heap.get? b=↑o->H b=none->∃S,h'.get? b=some {o with slots:=S})(f:∀b o,b∉ch->s.heap.get? b=↑o->H b=none->H' b=none)
  (T:∀b o,b∉ch->s.heap.get? b=↑o->∃g,h'.get? b=↑g)
  (J:∀b xs,H b=↑(.tup xs)->H' b=↑(.tup xs))(M:∀b o u,H b=↑(.Vt o u)->H' b=↑(.Vt o u))(G:Mo H H' s.heap h')
  (ns:∀m,s.heap.Ns X.env.locals m->h'.Ns X.env.locals m)(U:pN X.prog X.w H' h')(R:AllBare g') :
  Inv X pins σ H' {s with heap:=h',gens:=g',drawn:=d',toks:=t'}:=by
 have L:∀b o,X.Ve.heap.get? b=↑o->b≠X.env.locals:=λb o e=>yS<|zP (zZ e) I.ok.above;have C:∀b o,X.Ve.heap.get? b=↑o->b∉X.ex->b∉ch:=λb o e a B=>by
  rcases(W b B).1 with z|z
  .exact a z
  .exact absurd (zP (zZ e) z)<|qE _
 have K:∀x c,X.env.cells.lookup x=↑c->∀v,s.heap.IsCell c v->h'.IsCell c v:=λx c e v z=>by
  let(o,O,D):=z;have Y:=λz=>(W c z).2.2.1 x c e rfl;by_cases hc:c∈X.fs
  .let(S,q):=t c o (I.cne x c e) hc Y O<|I.Vo x c e;exact{_,q,D}
  .exact{o,P c o (I.cne x c e) hc Y O<|I.Vo x c e,D}
 refine{I.ok,I.os,R,{λb o e n B a=>(P b o (L b o e) B (C b o e a) (I.base.keep b o e n B a)<|I.base.free b o e n a),λb o e n B a=>?_,λb o e n a=>?_,λb o e a=>?_,λb xs e=>J b xs<|I.base.WG b xs e,λb o xs e=>M b o xs<|I.base.Wo b o xs e,I.base.V1.trans G},?_,λx c e=>?_,?_,λx c e=>?_,λp A=>?_,U,I.len}
 .let(S,E):=I.base.slot b o e n B a;let(y,j):=t b _ (L b o e) B (C b o e a) E<|I.base.free b o e n a;exact{y,j}
 .let(g,E):=I.base.there b o e a;exact f b g (C b o e a) E<|I.base.free b o e n a
 .let(g,E):=I.base.there b o e a;exact T b g (C b o e a) E
 .let(m,hn,Z):=I.loc;refine{m,ns m hn,λi x v E j Q=>?_};let(u,r,l):=Z i x v E j Q;refine{u,r,?_};rcases l with l|⟨k,c,e,z⟩
  .exact .inl l
  .exact .inr {k,c,e,K x c e _ z}
 .let(v,z):=I.cell x c e;exact{v,K x c e v z}
 .let(m,(o,_,_,O,_),_):=I.loc;exact f _ o (λz=>(W _ z).2.1 rfl) O I.free
 .let(v,o,O,D):=I.cell x c e;exact f c o (λz=>(W c z).2.2.1 x c e rfl) O<|I.Vo x c e
 .let(e,n,N,F,d):=I.pin p A;have Y:=λz=>(W _ z).2.2.2 p A rfl;exact{P _ _ N F Y e n,f _ _ Y e n,N,F,d}
def Inv.un{t':Nat}(I:Inv X pins σ H s)(u:Un X.fs [] H H' s.heap h')(U:pN X.prog X.w H' h'):Inv X pins σ H' {s with heap:=h',toks:=t'}:=by
 let(m,(o,S,p,O,r),_):=I.loc;let(l,L):=u.any O I.free (by simp);exact I.step (ch:=[]) (nofun) (λb o _ B _ e n=>u.keep b o e n B<|by lia) (λb o _ B _ e n=>u.slot b o e n B<|by lia) (λb o _ e n=>u.free b o e n<|by lia) (λb o _ e=>u.there b o e<|by lia) u.WG u.Wo u.V1 (λa M=>by
  let(c,E,i,W,R):=M;rw[O]at W;cases W;exact{_,E,i,L,R}) U I.bare
def Inv.call{t':Nat}{d':Drawn}{ch:Γ Ψ}(I:Inv X pins σ H s)(u:Un (Et X.stack) ch H H' s.heap h')(U:pN X.prog X.w H' h')(g:AllBare g')
  (W:∀b∈ch,(b∈X.ex\/X.Ve.heap.objs.size<=b)/\b≠X.env.locals/\(∀x c,X.env.cells.lookup x=↑c->c≠b)/\∀p∈X.pn++pins,p.1≠b) :
  Inv X pins σ H' {s with heap:=h',gens:=g',drawn:=d',toks:=t'}:=by
 let(m,(o,S,P,O,r),_):=I.loc;let(f,L):=u.any O I.free λz=>(W _ z).2.1 rfl;exact I.step W (λb o L B hc e n=>u.keep b o e n (λz=>(List.mem_cons.mp<|I.Xv b z).elim L B) hc) (λb o _ _ hc e n=>u.any e n hc) (λb o hc e n=>u.free b o e n hc) (λb o hc e=>u.there b o e hc) u.WG u.Wo u.V1 (λa M=>by
  let(d,E,i,l,R):=M;rw[O]at l;cases l;exact{_,E,i,L,R}) U g
def Inv.turned{t':Nat}(I:Inv X pins σ H s)(k:∀b o,b≠it->s.heap.get? b=↑o->h'.get? b=↑o)(N:H it=none)(L:it≠X.env.locals)
  (a:it∈X.ex\/X.Ve.heap.objs.size<=it)(d:∀x c,X.env.cells.lookup x=↑c->c≠it)(f:∀p∈X.pn++pins,p.1≠it):Inv X pins σ H {s with heap:=h',toks:=t'}:=by
 refine I.step (ch:=[it]) (λb B=>?_) (λb o _ _ hc e _=>k b o (λz=>hc<|by grind) e) (λb o _ _ hc e _=>{o.slots,k b o (λz=>hc<|by grind) e}) (λ_ _ _ _ n=>n)
  (λb o hc e=>{o,k b o (λz=>hc<|by grind) e}) (λ_ _ e=>e) (λ_ _ _ e=>e) (.kept (λb u z=>k b u λr=>by grind) λ_ _ e _=>e) (λm M=>?_) (λb u e=>?_) I.bare
 .have e:=by simpa using B
  subst e;exact{a,L,d,f}
 .let(o,S,E,O,r):=M;exact{o,S,E,k _ o (jL L) O,r}
 .refine (I.UX b u e).VF (λc v hc=>k c v ?_) (λ_ q=>q) λ_ _ q _=>q
  grind
def Inv.tok(I:Inv X pins σ H s)(t:Nat):Inv X pins σ H {s with toks:=t}:=I.un Un.refl I.UX
def Inv.kept{t':Nat}(I:Inv X pins σ H s)(k:∀b u,s.heap.get? b=↑u->h'.get? b=↑u):Inv X pins σ H {s with heap:=h',toks:=t'}:=I.un (Un.kept k)<|I.UX.kept k
def Inv.laid{t':Nat}(I:Inv X pins σ H s)(k:∀b u,s.heap.get? b=↑u->h'.get? b=↑u)(p:s.heap.objs.size<=a)(n:cC X.prog X.w (upd H a o) h' a o) :
  Inv X pins σ (upd H a o) {s with heap:=h',toks:=t'}:=I.un (Un.laid k p<|I.UX.fresh p)<|I.UX.laid k p n
def Inv.write{t':Nat}(I:Inv X pins σ H s)(m:Qi (H x))(E:e=x\/H e=↑(.own x))(k:∀b u,b≠e->s.heap.get? b=↑u->h'.get? b=↑u)(O:∃u,h'.get? e=↑u)
  (n:cC X.prog X.w (upd H x o) h' x o):Inv X pins σ (upd H x o) {s with heap:=h',toks:=t'}:=I.un (Un.write m E k O)<|I.UX.write m E k O n
def Inv.X0(I:Inv X pins σ H s)(h:∀p∈U,s.heap.get? p.1=↑p.2/\H p.1=none/\p.1≠X.env.locals/\p.1∉X.fs/\∀v,p.2.data≠.cell v):Inv X U σ H s:=
 {I.ok,I.os,I.bare,I.base,I.loc,I.cell,I.free,I.Vo,λp P=>(List.mem_append.mp P).elim (λz=>I.pin p<|qJ _ z)<|h p,I.UX,I.len}
def yq{N:Γ Str}(H:N.Nodup){i j:Nat}(a:N[i]?=↑x)(b:N[j]?=↑x):i=j:=by
 let(c,e):=List.getElem?_eq_some_iff.mp a;let(d,E):=List.getElem?_eq_some_iff.mp b;exact(List.getElem_inj H).mp<|e.trans E.symm
def uy{M:Model}{A:ξ}{E:Θ->Ξ->Prop}{i:Nat}{Q:Unit->Ξ->Prop}(I:Inv X pins σ H s)(hN:X.N.Nodup)(hi:X.N[i]?=↑x)(g:Loc X.env.scope x)(r:RelV v u)
  (h:∀s',Inv X pins (σ.set i<|↑v) H s'->(∃a,Heap.SameBut a s.heap s'.heap/\(a=X.env.locals\/X.env.cells.lookup x=↑a))->Q () s')(hf:X.fn x=true\/X.env.scope.names.lookup x=↑.local:=by first|exact .inl rfl|exact .inr rfl|assumption):wpAny M A (storeName X.env x u) Q E s:=by
 let(m,Y,hl):=id I.loc;have R:(X.env.scope.kind==.class||(X.env.scope.kind==.module&&X.env.locals != X.env.globals))=false:=by rw[I.ok.kind];rfl
 have L:i<σ.length:=by rw[I.len];exact(List.getElem?_eq_some_iff.mp hi).1
 have C:=I.cne;have t:∀{a:Ψ}{F:ι},(∃o,s.heap.get? a=↑o/\H a=none)->Heap.SameBut a s.heap F->pN X.prog X.w H F:=λ{a F}ha S b ob e=>by
  let(_,_,VI):=ha;refine(I.UX b ob e).VF (λc W hc q=>(S.2 c ?_).trans q) (λ_ q=>q) λ_ _ q _=>q;rintro rfl;rcases hc with rfl|hc
  .rw[VI]at e;cases e
  .rw[VI]at hc;cases hc
 rcases g with hk|hk
 .refine wpAny_storeName_local hk Y (λF Z S=>?_) R;let(oL,_,_,hoL,_):=id Y;refine h _ {I.ok,I.os,I.bare,{λb o e n B g=>?_,λb o e n B g=>?_,I.base.free,λb o e g=>?_,I.base.WG,I.base.Wo,I.base.V1.trans<|.kept (λb u z e=>(S.2 b (λr=>by rcases z with ⟨q,z⟩;rw[r,I.free]at z;cases z)).trans e) λ_ _ e _=>e},{_,Z,λj y v' f l U=>?_},λy c e=>?_,I.free,I.Vo,λp hp=>?_,t {oL,hoL,I.free} S,by simpa using I.len} {_,S,.inl rfl}
  .exact (S.2 b<|yS<|zP (zZ e) I.ok.above).trans<|I.base.keep b o e n B g
  .let(sl,f):=I.base.slot b o e n B g;exact{sl,(S.2 b<|yS<|zP (zZ e) I.ok.above).trans f}
  .let(o',f):=I.base.there b o e g;exact{o',(S.2 b<|yS<|zP (zZ e) I.ok.above).trans f}
  .by_cases J:j=i
   .subst J;rw[hi]at f;cases f;rw[vM L]at l;cases l;exact{u,r,.inl {hk,by simp}}
   .rw[kP<|jL J]at l;let(u',r',q):=hl j y v' f l U;refine{u',r',?_};rcases q with ⟨k,e⟩|⟨k,c,e,z⟩
    .refine .inl {k,?_};have:y≠x:=λe=>J<|yq hN f<|e▸hi;simp[this,e]
    .exact .inr {k,c,e,z.sameBut S<|C y c e}
  .let(W,z):=I.cell y c e;exact{W,z.sameBut S<|C y c e}
  .let(e,n,P,nf,d):=I.pin p hp;exact{(S.2 p.1 P).trans e,n,P,nf,d}
 .have D:X.fn x=true:=by
   rcases hf with z|z
   .exact z
   .rw[z]at hk;cases hk
  let(c,hc):=I.ok.has x<|.inl hk;let(W,z):=I.cell x c hc;refine wpAny_storeName_cell I.ok.kind hk hc z λF WJ S=>?_;let(oc,K,T):=id z;refine h {s with heap:=F} {I.ok,I.os,I.bare,{λb o e n B g=>?_,λb o e n B g=>?_,I.base.free,λb o e g=>?_,I.base.WG,I.base.Wo,I.base.V1.trans<|.kept (λb u z e=>(S.2 b (λr=>by rcases z with ⟨q,z⟩;rw[r,I.Vo x c hc]at z;cases z)).trans e) λ_ _ e _=>e},{m,Y.sameBut S<|jL<|C x c hc,λj y v' f l U=>?_},λy O e=>?_,I.free,I.Vo,λp hp=>?_,t {oc,K,I.Vo x c hc} S,by simpa using I.len} {c,S,.inr hc}
  .exact (S.2 b<|yS<|zP (zZ e)<|I.ok.cab x c D hc).trans<|I.base.keep b o e n B g
  .let(sl,f):=I.base.slot b o e n B g;exact{sl,(S.2 b<|yS<|zP (zZ e)<|I.ok.cab x c D hc).trans f}
  .let(o',f):=I.base.there b o e g;exact{o',(S.2 b<|yS<|zP (zZ e)<|I.ok.cab x c D hc).trans f}
  .by_cases J:j=i
   .subst J;rw[hi]at f;cases f;rw[vM L]at l;cases l;exact{u,r,.inr {.inl hk,c,hc,WJ}}
   .rw[kP<|jL J]at l;let(u',r',q):=hl j y v' f l U;refine{u',r',?_};rcases q with q|⟨k,O,e,z'⟩
    .exact .inl q
    .refine .inr {k,O,e,z'.sameBut S ?_};rintro rfl;exact J<|yq hN f<|I.ok.inj _ _ _ e hc▸hi
  .by_cases G:O=c
   .subst G;exact{_,WJ}
   .let(w2,z2):=I.cell y O e;exact{w2,z2.sameBut S G}
  .let(e,n,P,nf,d):=I.pin p hp;refine{(S.2 p.1 ?_).trans e,n,P,nf,d};intro q;rw[q,K]at e;have q':oc=p.2:=xE e;exact d W (by rw[<-q'];exact T)
def Ah{M:Model}{A:ξ}{E:Θ->Ξ->Prop}(I:Inv X pins σ H s)(n:X.N.Nodup)(hi:X.N[i]?=↑x)(b:Loc X.env.scope x)(r:RelV v u)
  (h:∀s',Inv X pins (σ.set i<|↑v) H s'->Q () s')(f:X.fn x=true\/X.env.scope.names.lookup x=↑.local:=by first|exact .inl rfl|exact .inr rfl|assumption):wpAny M A (storeName X.env x u) Q E s:=
 uy I n hi b r (λs' a _=>h s' a) f
def Inv.aal{ch:Γ Ψ}(I:Inv X pins σ H s)(o:s'.os=s.os)(u:Un (Et X.stack) ch H H' s.heap s'.heap)(U:pN X.prog X.w H' s'.heap)(g:AllBare s'.gens)
  (W:∀b∈ch,(b∈X.ex\/X.Ve.heap.objs.size<=b)/\b≠X.env.locals/\(∀x c,X.env.cells.lookup x=↑c->c≠b)/\∀p∈X.pn++pins,p.1≠b):Inv X pins σ H' s':=by
 let(a,G,d,t,O):=s';subst o;exact I.call u U g W
abbrev XK:=Θ->Δ Ψ->Hp->Prop
abbrev St:=Γ<|Δ V
abbrev VK:=V->Hp->Prop
abbrev TE:=St->Hp->VK->Prop
abbrev TT:=St->Hp->(θ->Hp->Prop)->Prop
abbrev TA:=St->Hp->(Γ V->Hp->Prop)->Prop
structure Ends where
 nx:St->Hp->Prop
 rt:VK
 bk:St->Hp->Prop:=λ_ _=>False
 ct:St->Hp->Prop:=λ_ _=>False
abbrev TS:=Ends->St->Hp->Prop
def EP(X:Cx)(pins:Γ (Ψ×Obj))(σ:St)(Q:VK)(u:Θ)(s':Ξ):Prop:=∃v H,Inv X pins σ H s'/\RelV v u/\Q v H
def TP(X:Cx)(pins:Γ (Ψ×Obj))(σ:St)(Q:θ->Hp->Prop)(b:θ)(s':Ξ):Prop:=∃H,Inv X pins σ H s'/\Q b H
def AP(X:Cx)(pins:Γ (Ψ×Obj))(σ:St)(Q:Γ V->Hp->Prop)(u:Γ Θ)(s':Ξ):Prop:=∃v H,Inv X pins σ H s'/\aI v u/\Q v H
def SP(X:Cx)(pins:Γ (Ψ×Obj))(D:Ends)(f:Flow)(s':Ξ):Prop:=
 match f with
 |.next=>∃a H,Inv X pins a H s'/\D.nx a H
 |.brk=>∃a H,Inv X pins a H s'/\D.bk a H
 |.cont=>∃a H,Inv X pins a H s'/\D.ct a H
 |.ret u=>∃v a H,Inv X pins a H s'/\RelV v u/\D.rt v H
def PE(X:Cx)(e:γ)(t:TE):Prop:=
 ∀(p:Γ (Ψ×Obj))(s:Ξ)(a:St)(H:Hp)(Q:VK),Inv X p a H s->t a H Q->wpAny (model X.prog X.w) X.A (eval e X.env) (EP X p a Q) X.xe s
def PT(X:Cx)(e:γ)(t:TT):Prop:=
 ∀(p:Γ (Ψ×Obj))(s:Ξ)(a:St)(H:Hp)(Q:θ->Hp->Prop),Inv X p a H s->t a H Q->wpAny (model X.prog X.w) X.A (isTrue e X.env<|eval e X.env) (TP X p a Q) X.xe s
def PW(X:Cx)(e:γ)(t:TT):Prop:=
 ∀(whole:Sem Θ)(p:Γ (Ψ×Obj))(s:Ξ)(a:St)(H:Hp)(Q:θ->Hp->Prop),Inv X p a H s->t a H Q->wpAny (model X.prog X.w) X.A (isTrue e X.env whole) (TP X p a Q) X.xe s
def PW.pt(h:PW X e t):PT X e t:=h _
def PA(X:Cx)(es:Γ γ)(t:TA):Prop:=
 ∀(P:Pos)(p:Γ (Ψ×Obj))(s:Ξ)(a:St)(H:Hp)(Q:Γ V->Hp->Prop),Inv X p a H s->t a H Q->wpAny (model X.prog X.w) X.A (spliced<|backTo P<|starEach es X.env) (AP X p a Q) X.xe s
def PS(X:Cx)(st:Ω)(t:TS):Prop:=
 ∀(p:Γ (Ψ×Obj))(s:Ξ)(a:St)(H:Hp)(D:Ends),Inv X p a H s->t D a H->wpAny (model X.prog X.w) X.A (exec st X.env) (SP X p D) X.xe s
def xv(X:Cx)(st:Γ Ω)(t:TS):Prop:=
 ∀(p:Γ (Ψ×Obj))(s:Ξ)(a:St)(H:Hp)(D:Ends),Inv X p a H s->t D a H->wpAny (model X.prog X.w) X.A (execs st X.env) (SP X p D) X.xe s
def b9(h:wpAny M A t Q E s)(H:∀a s,Q a s->U a s):wpAny M A t U E s:=xB h H λ_ _ x=>x
section
def IG(i:Nat):TE:=λa H Q=>∃v,a[i]?=↑(↑v)/\Q v H
def tC(v:V):TE:=λ_ H Q=>Q v H
def dv(n:X.N[i]?=↑x)(f:rA X.env.scope x)(d:(x=="__debug__")=false:=by decide)(b:(x=="__classdict__")=false:=by decide):PE X (.Name x pos) (IG i):=by
 intro p s g H Q I h;let(v,e,h):=h;let(m,a,L):=I.loc;let(u,r,l):=L i x v n e f;have fin:EP X p g Q u s:={v,H,I,r,h}
 rcases l with ⟨hk,M⟩|⟨hk,c,hc,W⟩
 .exact wF (wpAny_loadName_local I.ok.kind hk a M fin) d
 .rcases hk with hk|hk
  .exact wF (wpAny_loadName_cell I.ok.kind hk hc W fin) d
  .exact wF (wpAny_loadName_free I.ok.kind hk hc W fin b) d
def IM{i j pos}:PE X (.Constant (.int i) j pos) (tC<|.int i):=λ_ _ _ H _ I h=>wpAny_Constant_int {.int i,H,I.tok _,{_,rfl},h}
def Qx{b j pos}:PE X (.Constant (.bool b) j pos) (tC<|.bl b):=λ_ _ _ H _ I h=>Constant_bool {.bl b,H,I,rfl,h}
def N7{j pos}:PE X (.Constant .none j pos) (tC .UQ):=λ_ _ _ H _ I h=>Constant_none {.UQ,H,I,rfl,h}
def NM{x j pos}:PE X (.Constant (.str x) j pos) (tC<|.str x):=λ_ _ _ H _ I h=>Calls.Constant_str {.str x,H,I.tok _,{_,rfl},h}
def Gl(X:Cx)(x:Str):Prop:=X.env.kindOf x=↑.globalImplicit
def xp{E:Θ->Ξ->Prop}{pos:Pos}(I:Inv X pins σ H s)(g:Gl X x)(m:X.mg x=↑u)(h:Q u s)
  (d:(x=="__debug__")=false:=by decide):wpAny (model X.prog X.w) X.A (eval (.Name x pos) X.env) Q E s:=
 Calls.Name_function_global I.ok.kind g (Calls.loadGlobal_global (by rw[I.ok.glob];exact I.mod.glob.keeps I.bk) m h) d
def gE{E:Θ->Ξ->Prop}{pos:Pos}(I:Inv X pins σ H s)(g:Gl X x)(m:X.mg x=none)(v:bootBuiltins x=↑u)(h:Q u s)
  (n:x≠"__name__":=by decide)(d:(x=="__debug__")=false:=by decide):wpAny (model X.prog X.w) X.A (eval (.Name x pos) X.env) Q E s:=by
 let(M,a,b):=I.mod.blt;exact Calls.Name_function_global I.ok.kind g (Calls.loadGlobal_builtin (by rw[I.ok.glob];exact I.mod.glob.keeps I.bk) m (by rw[I.ok.blt];exact a.keeps I.bk) ((b x n).trans v) h) d
def K5(g:Gl X x)(m:X.mg x=↑u)(r:RelV v u)(d:(x=="__debug__")=false:=by decide):PE X (.Name x pos) (tC v):=
 λ_ _ _ H _ I h=>xp I g m {v,H,I,r,h} d
def Kx(g:Gl X x)(m:X.mg x=none)(a:bootBuiltins x=↑u)(r:RelV v u)(n:x≠"__name__":=by decide)(d:(x=="__debug__")=false:=by decide):PE X (.Name x pos) (tC v):=
 λ_ _ _ H _ I h=>gE I g m a {v,H,I,r,h} n d
def tB(t:TE):TT:=λb H Q=>t b H λx a=>∃c,x=.bl c/\Q c a
def Iq(h:PE X e t)(E:∀whole,isTrue e X.env whole=(do let v <- whole;standAt e.pos;holding [v]<|truthy v):=by intro _;rfl):PT X e (tB t):=by
 refineλp s c H Q I hw=>isTrue_plain (b9 (h p s c H _ I hw) λv S z=>?_)<|E _;let(x,a,i,r1,b):=z;let(d,rfl,q):=b;cases r1;exact xW {a,i,q}
variable {rest:Γ γ}
def RE(t u:TT):TT:=λb H Q=>t b H λc a=>if c=true then u b a Q else Q false a
def T6(t u:TT):TT:=λb H Q=>t b H λc a=>if c=true then Q true a else u b a Q
def S5(t:TT):TT:=λb H Q=>t b H λc a=>Q (!c) a
def KW(A:PT X a tA):PW X (.BoolOp .And [a] pos) tA:=by
 refineλw p s b H Q I h=>isTrue_and<|b9 (A p s b H Q I h) λc S e=>?_;cases c with
 |true=>exact isTrue_and_nil e
 |false=>exact e
def Hj(A:PT X a tA):PW X (.BoolOp .Or [a] pos) tA:=by
 refineλw p s b H Q I h=>isTrue_or<|b9 (A p s b H Q I h) λc S e=>?_;cases c with
 |false=>exact isTrue_or_nil e
 |true=>exact e
def NF(A:PT X a tA)(B:PW X (.BoolOp .And (b::rest) pos) U):PW X (.BoolOp .And (a::b::rest) pos) (RE tA U):=by
 refineλw p s e H Q I h=>isTrue_and<|b9 (A p s e H _ I h) λc S z=>?_;let(d,i,q):=z;cases c with
 |true=>exact B w p S e d Q i q
 |false=>exact{d,i,q}
def Mt(A:PT X a tA)(B:PW X (.BoolOp .Or (b::rest) pos) U):PW X (.BoolOp .Or (a::b::rest) pos) (T6 tA U):=by
 refineλw p s e H Q I h=>isTrue_or<|b9 (A p s e H _ I h) λc S z=>?_;let(d,i,q):=z;cases c with
 |true=>exact{d,i,q}
 |false=>exact B w p S e d Q i q
def Gs(A:PT X a tA):PT X (.UnaryOp .Not a pos) (S5 tA):=by
 exactλp s b H Q I h=>isTrue_not<|A p s b H _ I h
def P5(ta tb:TE):TE:=λb H Q=>ta b H λx a=>∃c,x=.bl c/\if c=true then tb b a Q else Q (.bl false) a
def SR(ta tb:TE):TE:=λb H Q=>ta b H λx a=>∃c,x=.bl c/\if c=true then Q (.bl true) a else tb b a Q
def GQ{op}(h:PE X a t):PE X (.BoolOp op [a] pos) t:=λp s b H Q I hw=>BoolOp_one<|h p s b H Q I hw
def FQ(A:PE X a ta)(B:PE X (.BoolOp .And (b::rest) pos) tb):PE X (.BoolOp .And (a::b::rest) pos) (P5 ta tb):=by
 refineλp s e H Q I h=>BoolOp_and<|b9 (A p s e H _ I h) λv S z=>?_;let(x,d,i,r1,q):=z;let(c,rfl,q):=q;cases r1;apply xW;cases c with
 |true=>exact B p S e d Q i q
 |false=>exact{.bl false,d,i,rfl,q}
def Mv(A:PE X a ta)(B:PE X (.BoolOp .Or (b::rest) pos) tb):PE X (.BoolOp .Or (a::b::rest) pos) (SR ta tb):=by
 refineλp s e H Q I h=>BoolOp_or<|b9 (A p s e H _ I h) λv S z=>?_;let(x,d,i,r1,q):=z;let(c,rfl,q):=q;cases r1;apply xW;cases c with
 |false=>exact B p S e d Q i q
 |true=>exact{.bl true,d,i,rfl,q}
def Uq(t:TT)(ta tb:TE):TE:=λa H Q=>t a H λc b=>if c=true then ta a b Q else tb a b Q
def zw(hc:PT X c tA)(A:PE X a ta)(B:PE X b tb):PE X (.IfExp c a b pos) (Uq tA ta tb):=by
 refineλp s e H Q I h=>wpAny_IfExp<|b9 (hc p s e H _ I h) λd S z=>?_;let(f,i,q):=z;cases d with
 |true=>exact A p S e f Q i q
 |false=>exact B p S e f Q i q
end
def ik(K:Φ)(H:Hp)(a:Ψ)(xs:Γ V):Prop:=
 Rd H a (.lst xs) \/
  ∃ (o:Obj) (U:Array Θ) (n:Nat),K.lookup a=↑o/\o.cls=.type "list"/\o.dict=none/\o.data=.seq U n/\U.size<=sizeLine/\aI xs U.toList
def fP(K:Φ)(H:Hp)(a:Ψ)(xs:Γ V):Prop:=
 Rd H a (.tup xs) \/
  ∃ (o:Obj) (U:Array Θ) (n:Nat),K.lookup a=↑o/\o.cls=.type "tuple"/\o.dict=none/\o.data=.seq U n/\U.size<=sizeLine/\aI xs U.toList
def Tj:Θ->Δ V
 |.none=>↑.UQ
 |.bool b=>↑(.bl b)
 |.int i _=>↑(.int i)
 |.str x _=>↑(.str x)
 |.bytes b _=>↑(.byt b)
 |.float b _=>↑(.flt b)
 |.ref a=>↑(.ref a)
 |.type n=>↑(.ty n)
 |_=>none
def RelV.abs(r:RelV x u):Tj u=↑x:=by
 cases x with
 |UQ=>cases r;rfl
 |bl _=>cases r;rfl
 |int _=>let(t,rfl):=r;rfl
 |str _=>let(t,rfl):=r;rfl
 |byt _=>let(t,rfl):=r;rfl
 |flt _=>let(t,rfl):=r;rfl
 |ref _=>cases r;rfl
 |ty _=>cases r;rfl
def RelV.inj(r:RelV x u)(q:RelV y u):x=y:=xE<|r.abs.symm.trans q.abs
def aI.inj(h:aI xs us):aI ys us->xs=ys:=by
 induction h generalizing ys with
 |nil=>intro h;cases h;rfl
 |cons r t i=>intro h;cases h with|cons R T=>rw[r.inj R,i T]
def ik.of{K:Φ}(h:H a=↑(.lst xs)):ik K H a xs:=.inl<|.inl h
def Inv.list(I:Inv X pins σ H s)(h:ik X.K H a xs):∃U ,aI xs U/\PlainL s.heap a U.toArray/\xs.length<=sizeLine:=by
 rcases h with h|⟨o,U,n,hk,hc,d,S,Z,r⟩
 .let(z,U,n,r,e):=h.ok I.UX;exact{U,r,{_,n,e,rfl,rfl,rfl},z}
 .refine{U.toList,r,{o,n,I.Wq a o hk,hc,d,by omega},?_};have e:=r.length
  grind
def Inv.tuple(I:Inv X pins σ H s)(h:fP X.K H a xs):∃U ,aI xs U/\IsTup s.heap a U.toArray/\xs.length<=sizeLine:=by
 rcases h with h|⟨o,U,n,hk,hc,_,S,Z,r⟩
 .let(z,U,r,p):=h.ok I.UX;exact{U,r,p.1,z}
 .refine{U.toList,r,{o,I.Wq a o hk,hc,n,by omega},?_};have e:=r.length
  grind
def Inv.W7(I:Inv X pins σ H s)(h:ik X.K H a xs)(h':ik X.K H a ys):xs=ys:=by
 let(U,r,(o,n,e,_,_,d),_):=I.list h;let(i,R,(O,N,E,_,_,D),_):=I.list h';have:U=i:=by grind
 subst this;exact r.inj R
def Inv.Wx(I:Inv X pins σ H s)(h:fP X.K H a xs)(h':fP X.K H a ys):xs=ys:=by
 let(U,r,(o,e,_,n,d),_):=I.tuple h;let(i,R,(O,E,_,N,D),_):=I.tuple h';have:U=i:=by grind
 subst this;exact r.inj R
abbrev Cx.Wr(X:Cx)(E:Θ->Ξ->Prop):Cx:={X with xe:=E}
abbrev Cx.ZM(X:Cx):Cx:=X.Wr λ_ _=>False
def Cx.Ok.Wr{X:Cx}(o:X.Ok)(E:Θ->Ξ->Prop):(X.Wr E).Ok:=
 {o.mod,o.kind,o.glob,o.blt,o.above,o.inj,o.has,o.cab,o.hd,o.frames,o.stk,o.exf,o.bs,o.ZL,o.Ym,o.YK,o.VU,o.frf}
def Cx.Ok.Vy{X:Cx}{E:Θ->Ξ->Prop}(o:(X.Wr E).Ok):X.Ok:=
 {o.mod,o.kind,o.glob,o.blt,o.above,o.inj,o.has,o.cab,o.hd,o.frames,o.stk,o.exf,o.bs,o.ZL,o.Ym,o.YK,o.VU,o.frf}
def Inv.Wr(I:Inv X pins σ H s)(E:Θ->Ξ->Prop):Inv (X.Wr E) pins σ H s:={I.ok.Wr E,I.os,I.bare,I.base,I.loc,I.cell,I.free,I.Vo,I.pin,I.UX,I.len}
def Inv.Vy(I:Inv (X.Wr E) pins σ H s):Inv X pins σ H s:={I.ok.Vy,I.os,I.bare,I.base,I.loc,I.cell,I.free,I.Vo,I.pin,I.UX,I.len}
def SP.Vy{D:Ends}(h:SP (X.Wr E) pins D f s'):SP X pins D f s':=by
 cases f with
 |next=>let(a,H,I,q):=h;exact{a,H,I.Vy,q}
 |brk=>let(a,H,I,q):=h;exact{a,H,I.Vy,q}
 |cont=>let(a,H,I,q):=h;exact{a,H,I.Vy,q}
 |ret u=>let(v,a,H,I,r,q):=h;exact{v,a,H,I.Vy,r,q}
def xv.ZM{st:Γ Ω}(h:xv X.ZM st t):xv X st t:=λp s a H D I hw =>
 xB (h p s a H D (I.Wr _) hw) (λ_ _ q=>q.Vy) λ_ _=>False.elim
section
variable {st:Ω}{rest:Γ Ω}
def Qh:TS:=λD a H=>D.nx a H
def R3(t u:TS):TS:=λD a H=>t {D with nx:=u D} a H
def Cy:xv X [] Qh:=λ_ _ a H _ I h=>vN {a,H,I,h}
def yd(c:PS X st t)(d:xv X rest u):xv X (st::rest) (R3 t u):=by
 refineλp s e H D I h=>wpAny_execs_cons<|b9 (c p s e H _ I h) λf S q=>?_;cases f with
 |next =>
  let(a,b,i,q):=q;exact d p S a b D i q
 |ret v=>exact q
 |brk=>exact q
 |cont=>exact q
def uY(a:PS X st t):xv X [st] t:=by
 refineλp s b H D I h=>wpAny_execs_cons<|b9 (a p s b H D I h) λf S q=>?_;cases f with
 |next=>exact vN q
 |ret v=>lia
 |brk=>lia
 |cont=>lia
def Inv.quiet(I:Inv X pins σ H s):interactive X.env=false:=by simp[interactive,I.ok.kind]
def Mp(te:TE):TS:=λD a H=>te a H λ_ b=>D.nx a b
def lH(E:PE X e te)(hs:swapsWith e none pos.line X.env=pure false:=by rfl):PS X (.Expr e pos) (Mp te):=by
 exactλp s a H D I h=>wpAny_Expr_any (b9 (E p s a H _ I h) λv S z=>by let(x,b,i,r1,q):=z;exact {a,b,i,q}) I.quiet hs
def Sr(te:TE):TS:=λD a H=>te a H D.rt
def Bf(E:PE X e te):PS X (.Return (↑e) pos) (Sr te):=by
 exactλp s a H D I h=>wpAny_Return_some (b9 (E p s a H _ I h) λv S z=>by let(x,b,i,r1,q):=z;exact {x,a,b,i,r1,q})
def S6(c:TT)(t u:TS):TS:=λD a H=>c a H λb d=>if b=true then t D a d else u D a d
def MK(hc:PT X c U)(A:xv X a t)(B:xv X b u):PS X (.If c a b pos) (S6 U t u):=by
 refineλp s e H D I h=>wpAny_If<|b9 (hc p s e H _ I h) λd S z=>?_;let(f,i,q):=z;cases d with
 |true=>exact A p S e f D i q
 |false=>exact B p S e f D i q
end
abbrev TG:=V->St->Hp->(St->Hp->Prop)->Prop
abbrev QJ:=Γ V->St->Hp->(St->Hp->Prop)->Prop
def PG(X:Cx)(T:γ)(t:TG):Prop:=
 ∀(p:Γ (Ψ×Obj))(s:Ξ)(c:St)(H:Hp)(v:V)(u:Θ)(Q:St->Hp->Prop),Inv X p c H s->RelV v u->t v c H Q ->
  wpAny (model X.prog X.w) X.A (assign T X.env u) (λ_ S=>∃a b,Inv X p a b S/\Q a b) X.xe s
def Rn(X:Cx)(ts:Γ γ)(t:QJ):Prop:=
 ∀(p:Γ (Ψ×Obj))(s:Ξ)(c:St)(H:Hp)(v:Γ V)(u:Γ Θ)(Q:St->Hp->Prop),Inv X p c H s->aI v u->t v c H Q ->
  wpAny (model X.prog X.w) X.A (assignInOrder ((assignEach ts X.env).map (·.2)) u) (λ_ S=>∃a b,Inv X p a b S/\Q a b) X.xe s
abbrev QH:=V->V->V->Hp->(Hp->Prop)->Prop
def Oc(X:Cx)(t:QH):Prop:=
 ∀(p:Γ (Ψ×Obj))(s:Ξ)(b:St)(H:Hp)(o i v:V)(O I u:Θ)(Q:Hp->Prop),Inv X p b H s->RelV o O->RelV i I->RelV v u->t o i v H Q ->
  wpAny (model X.prog X.w) X.A (setItem O I u) (λ_ S=>∃a,Inv X p b a S/\Q a) X.xe s
def yk(i:Nat):TG:=λv a H Q=>Q (a.set i<|↑v) H
def dq(n:X.N.Nodup)(hi:X.N[i]?=↑x)(b:Loc X.env.scope x)(f:X.fn x=true\/X.env.scope.names.lookup x=↑.local:=by first|exact .inl rfl|exact .inr rfl|assumption):PG X (.Name x pos) (yk i):=by
 exactλp s c H v u Q I r h=>wpAny_assign_Name<|Ah I n hi b r (λS a=>{_,H,a,h}) f
def Sa:QJ:=λv a H Q=>v=[]/\Q a H
def Qm(t:TG)(u:QJ):QJ:=λs c H Q=>∃v r,s=v::r/\t v c H λa b=>u r a b Q
def qu:Rn X [] Sa:=by
 intro p s a H v u Q I r h;let(e,h):=h;exact assignInOrder_nil {a,H,I,h}
def cZ(c:PG X e t)(d:Rn X es u)
  (hs:(assignEach (e::es) X.env).map (·.2)=assign e X.env::(assignEach es X.env).map (·.2):=by rfl):Rn X (e::es) (Qm t u):=by
 intro p s f H j U Q I r h;let(v,g,E,h):=h;subst E;cases r with
 |cons r R =>
  rw[hs];exact assignInOrder_cons (b9 (c p s f H _ _ _ I r h) λ_ S z=>by let(a,b,i,q):=z;exact(d p S a b _ _ Q i R q))
def SV(K:Φ)(n:Nat)(t:QJ):TG:=λv b H Q=>∃a x,v=.ref a/\fP K H a x/\x.length=n/\t x b H Q
def wq{k:Nat}(hc:X.calm=true)(h:Rn X es t)
  (N:(assignEach es X.env).length=n:=by rfl)(d:(assignEach es X.env).findIdx? (·.1)=none:=by rfl):PG X (.Tuple es k pos) (SV X.K n t):=by
 intro p s c H v u Q I r hw;let(a,S,E,q,l,hw):=hw;subst E;cases r;let(U,R,ht,z):=I.tuple q;exact assign_Tuple_tuple (I.ok.hd hc) ht (by simp[N,<-l,R.length]) d λf x=>(h p _ c H S _ Q (I.kept λb o e=>x b o (yS<|zZ e) e:Inv X p c H {s with heap:=f}) (by lia) hw)
def ib(O T:TE)(t:QH):TG:=λv a H Q=>O a H λo b=>T a b λi c=>t o i v c λd=>Q a d
def FK(k:PE X o to)(hi:PE X i ti)(hs:Oc X t)
  (A:∀v,assign (.Subscript o i pos) X.env v=(do
   let O <- holding [v]<|eval o X.env
   let a <- holding [v,O]<|eval i X.env
   standAt pos
   holding [v,O,a] (setItem O a v)
   release [v,O,a] []):=by intro _;rfl):PG X (.Subscript o i pos) (ib to ti t):=λp s b H v u Q I r h=>zW<|xX (b9 (k p s b H _ I h) λO S z=>by let(x,c,f,r1,q):=z;exact(zW<|xX (b9 (hi p S b c _ f q) λa m z=>by let(y,d,g,R,q2):=z;exact(zW<|vC<|zW<|xX (b9 (hs p m b d x y v O a u _ g r1 R r q2) λ_ n z=>by let(e,j,l):=z;exact(wpAny_release {b,e,j,l}))))))
def Gn(te:TE)(g:TG):TS:=λD a H=>te a H λx b=>g x a b D.nx
def Hg(E:PE X e te)(G:PG X tg g)(hs:swapsWithSole [tg] e pos.line X.env=pure false:=by rfl)(hw:swappedStores [tg] e X.env=pure none:=by rfl)
  (c:(assignEach [tg] X.env).map (·.2)=[assign tg X.env]:=by rfl):PS X (.Assign [tg] e pos) (Gn te g):=by
 refineλp s a H D I h=>wpAny_Assign_stores (b9 (E p s a H _ I h) λv S z=>?_) hs hw;let(x,b,i,r1,Q):=z;rw[c];exact b9 (G p S a b x v _ i r1 Q) λ_ d q=>q
def sO(n:X.N.Nodup)(hi:X.N[i]?=↑x)(d:Loc X.env.scope x)(E:PE X e te)(hs:swapsWith e (↑(.Name x pos')) pos.line X.env=pure false:=by rfl)(f:X.fn x=true\/X.env.scope.names.lookup x=↑.local:=by first|exact .inl rfl|exact .inr rfl|assumption) :
  PS X (.Assign [.Name x pos'] e pos) (Gn te<|yk i):=by
 exactλp s g H D I h=>wpAny_Assign_Name (b9 (E p s g H _ I h) λv S z=>by let(y,a,b,r1,q):=z;exact(Ah b n hi d r1 (λj c=>{_,a,c,q}) f)) hs
def Nq(c:TT)(tb:TS):TS:=λD a H=>∃W:Nat->St->Hp->Prop,(∃m,W m a H)/\∀m a H,W m a H ->
 c a H λb f=>if b=true then ∃N:St->Hp->Prop,(∀d e,N d e->∃M,M<m/\W M d e)/\tb {D with nx:=N,ct:=N,bk:=D.nx} a f else D.nx a f
def IF(P:PassesOwn (model X.prog X.w) X.A X.env X.xe)(hc:PT X c U)(B:xv X body tb):PS X (.While c body [] pos) (Nq U tb):=by
 intro p s F H D I h;let(W,(x,C),turn):=h;refine wpAny_While<|codeAny_whileLoop (λn S=>∃e k,Inv X p e k S/\W n e k) ?_ x {F,H,I,C};rintro n y ⟨a,l,u,E⟩;refine jI P<|b9 (hc p y a l _ u<|turn n a l E) λb z ⟨o,r,q2⟩=>?_;cases b with
 |true =>
  let(N,t,q2):=q2;refine jI P<|b9 (B p z a o _ r q2) λf G q=>?_;cases f with
  |next =>
   let(Y,d,i,g):=q;let(M,m,j):=t Y d g;exact{M,m,Y,d,i,j}
  |cont =>
   let(Y,d,i,g):=q;let(M,m,j):=t Y d g;exact{M,m,Y,d,i,j}
  |brk=>exact q
  |ret v=>exact q
 |false =>
  exact vN {a,o,r,q2}
structure It where
 go:Nat->Hp->Prop
 ZC:Nat->Hp->V->Hp->Prop
 stop:Nat->Hp->Prop
def dc(X:Cx)(pins:Γ (Ψ×Obj))(H:Hp)(b:Ψ):Prop:=
 H b=none/\b≠X.env.locals/\b∉X.fs/\(b∈X.ex\/X.Ve.heap.objs.size<=b)/\(∀x c,X.env.cells.lookup x=↑c->c≠b)/\∀p∈X.pn++pins,p.1≠b
def Inv.VV(I:Inv X pins σ H s)(B:s.heap.objs.size<=b)(n:H' b=none):dc X pins H' b:=by
 refine{n,jH<|zP I.lt B,I.adU B,.inr<|yE I.sz B,λx c e z=>?_,λp P z=>(absurd (zP (zZ (I.pin p P).1) (by rw[z];lia))<|qE _)}
 .let(v,q):=I.cell x c e;exact absurd (zP q.lt (by rw[z];lia))<|qE _
structure Turn(P:Program)(w:World)(K:W.Frag)(tg:Expr)(J:It)(fp:List Addr)(it:Addr)(tn:Nat->Heap->Prop):Prop where
 mem:it∈fp
 obj:∀i h,tn i h->∀b∈fp,∃o,h.get? b=↑o/\∀v,o.data≠.cell v
 keep:∀i h h',tn i h->(∀b∈fp,∀o,h.get? b=↑o->h'.get? b=↑o)->tn i h'
 item:∀(X:Cx),X.prog=P->X.w=w->X.K=K->X.calm=true->∀(i:Nat)(pins:Γ (Ψ×Obj))(s:Ξ)(σ:St)(H:Hp)(E:Θ->Ξ->Prop),Inv X pins σ H s->(∀b∈fp,dc X pins H b)->tn i s.heap->J.go i H ->
  wpAny (model P w) X.A (pyNext<|.ref it) (λr s1=>∃u,r=↑u /\
   wpAny (model P w) X.A (letOwnedTupleGo tg (.ref it) u) (λ_ s2=>∃x H',Inv X pins σ H' s2/\RelV x u/\J.ZC i H x H'/\tn (i+1) s2.heap/\∀b∈fp,H' b=none) E s1) E s
 done:∀(X:Cx),X.prog=P->X.w=w->X.K=K->X.calm=true->∀(i:Nat)(pins:Γ (Ψ×Obj))(s:Ξ)(σ:St)(H:Hp)(E:Θ->Ξ->Prop),Inv X pins σ H s->(∀b∈fp,dc X pins H b)->tn i s.heap->J.stop i H ->
  wpAny (model P w) X.A (pyNext<|.ref it) (λr s1=>r=none/\Inv X pins σ H s1) E s
 self:∀(A:ξ)(i:Nat)(s:Ξ)(Q:Θ->Ξ->Prop)(E:Θ->Ξ->Prop),tn i s.heap->Q (.ref it) s->wpAny (model P w) A (pyIter<|.ref it) Q E s
abbrev TI:=St->Hp->(It->Hp->Prop)->Prop
def Tq(X:Cx)(pins:Γ (Ψ×Obj))(σ:St)(tg:γ)(R:It->Hp->Prop)(i:Θ)(s2:Ξ):Prop:=
 ∃ (it:Ψ) (f:Γ Ψ) (t:Nat->ι->Prop) (J:It) (H:Hp),i=.ref it/\Inv X pins σ H s2/\Turn X.prog X.w X.K tg J f it t/\t 0 s2.heap/\(∀b∈f,dc X pins H b)/\R J H
def PI(X:Cx)(tg iter:γ)(wi:TI):Prop:=
 ∀(p:Γ (Ψ×Obj))(s:Ξ)(a:St)(H:Hp)(R:It->Hp->Prop),Inv X p a H s->wi a H R ->
  wpAny (model X.prog X.w) X.A (eval iter X.env) (λv S=>wpAny (model X.prog X.w) X.A (pyIter v) (Tq X p a tg R) X.xe S) X.xe s
def Cq(O:s.heap.get? it=↑o)(hc:o.cls=.type n)(d:o.data=.fields vs)
  (N:["enumerate","zip","dict_itemiterator","dict_reverseitemiterator","odict_iterator","itertools.zip_longest","itertools.pairwise"].contains n=false)(H:Q () s):wpAny M A (letOwnedTupleGo tg (.ref it) u) Q E s:=by
 cases tg<;>first
  |exact zX H
  | (cases u<;>first
    |exact zX H
    | (refine zW (wpAny_load O ?_)
       rw[hc,d];show wpAny M A (if(["enumerate","zip","dict_itemiterator","dict_reverseitemiterator","odict_iterator","itertools.zip_longest","itertools.pairwise"].contains n&&vs[0]?==some _)=true then _ else _) Q E s;rw[yO<|by grind];exact zX H))
def RY(K:Φ)(a:Ψ):It:=
 {λi H=>∃s x,ik K H a s/\s[i]?=↑x,λi H x b=>b=H/\∀s,ik K H a s->s[i]?=↑x,λi H=>∃s,ik K H a s/\s.length<=i}
def SO(K:Φ)(a:Ψ):It:=
 {λi H=>∃s x,fP K H a s/\s[i]?=↑x,λi H x b=>b=H/\∀s,fP K H a s->s[i]?=↑x,λi H=>∃s,fP K H a s/\s.length<=i}
def Rp(lo:Int)(n:Nat):It:={λi _=>i<n,λi H x a=>a=H/\x=.int (lo+i),λi _=>n<=i}
def ES{K:Φ}(a it:Ψ):Turn P w K tg (RY K a) [it] it (λi h=>h.IsListIter it a i) where
 mem:=by simp
 obj:=λi h st b B=>by
  have e:b=it:=by simpa using B
  subst e;let(o,e,c,d):=st;exact{o,e,λv z=>by rw[d]at z;cases z}
 keep:=λi h f st k=>st.at λo e=>k it (by simp) o e
 item:=by
  intro X l hw j hc i S s n H E I F st G;subst l hw j;let(J,x,q,m):=G;let(U,r,p,Z):=I.list q;let(u,A,R):=r.get m;let(g,f1,f2,f3,f4,f5):=F it (by simp);refine wpAny_pyNext_list_item st p.isList (x:=u) (by simpa using A) λf D C=>?_;have t:Inv X S n H {s with heap:=f}:=I.turned (t':=s.toks) (λb o B e=>(C.2 b B).trans e) g f1 f3 f4 f5;let(o,e,c,d):=id D;exact{u,rfl,Cq (s:={s with heap:=f}) e c d (by decide) {x,H,t,R,{rfl,λM Y=>by rw[I.W7 Y q];exact m},D,λb B=>(F b B).1}}
 done:=by
  intro X l hw j hc i S s n H E I F st G;subst l hw j;let(J,q,m):=G;let(U,r,p,Z):=I.list q;let(g,f1,f2,f3,f4,f5):=F it (by simp);have L:=r.length;exact wpAny_pyNext_list_end (I.ok.hd hc) st p.isList (by simp;lia) λf y=>{rfl,I.turned (t':=s.toks) (λb o B e=>y b o B e) g f1 f3 f4 f5}
 self:=λ_ _ _ _ _ st h=>wpAny_pyIter_listiter st h
def BP{K:Φ}(a it:Ψ):Turn P w K tg (SO K a) [it] it (λi h=>h.IsTupleIter it a i) where
 mem:=by simp
 obj:=λi h st b B=>by
  let(o,e,c,d):=st
  grind
 keep:=λi h l st k=>st.at λo=>k it (by simp) o
 item:=by
  intro X j hw g hc i S s C H E I f st G;subst j hw g;let(A,x,q,m):=G;let(U,r,p,z):=I.tuple q;let(u,D,R):=r.get m;let(F,f1,f2,f3,f4,f5):=f it (by simp);refine wpAny_pyNext_tuple_item st (p) (x:=u) (by grind) λl v t=>?_;let(o,e,c,d):=id v;exact{u,rfl,Cq e c d (by rfl) {x,H,I.turned (λb o B=>(t.2 b B).trans) F f1 f3 f4 f5,R,{rfl,λY y=>by rw[I.Wx y q];lia},v,λb B=>(f b B).1}}
 done:=by
  intro X j hw g hc i S s C H E I f st G;subst j hw g;let(A,q,m):=G;let(U,r,p,z):=I.tuple q;let(F,f1,f2,f3,f4,f5):=f it (by simp);have L:=r.length;exact wpAny_pyNext_tuple_end (I.ok.hd hc) st (p) (by grind) λl n=>{rfl,I.turned (n) F f1 f3 f4 f5}
 self:=λ_ _ _ _ _=>wpAny_pyIter_tupleiter
def Bq{K:Φ}(it:Ψ)(lo:Int)(n:Nat):Turn P w K tg (Rp lo n) [it] it (λi h=>IsRangeIter h it (lo+i*1) (n-i) 1) where
 mem:=by simp
 obj:=λi h st b B=>by
  have e:=by simpa using B
  subst e;exact⟨_,st,λv z=>by
   cases z⟩
 keep:=λi h a st k=>k it (by simp) _ st
 item:=by
  intro X l hw j hc i p s r H E I f st g;let(F,f1,f2,f3,f4,f5):=f it (by simp);refine(Walks.range (I.ok.hd hc) it lo 1 n).item i s _ _ g st λv a T m d q=>?_;let(t,rfl):=m;refine{_,rfl,Cq d rfl rfl (by rfl) {.int _,H,(I.turned (λb o B=>q b o<|by grind) F f1 f3 f4 f5),{t,?_},{rfl,rfl},d,λb B=>(f b B).1}};simp
 done:=by
  intro X l hw j hc i p s r H E I f st g;let(F,f1,f2,f3,f4,f5):=f it (by simp);exact wpAny_pyNext_range_end (I.ok.hd hc) st (by have:n<=i:=g;lia) λa c=>{rfl,I.turned (c) F f1 f3 f4 f5}
 self:=λ_ _ _ _ _=>wpAny_pyIter_rangeiter
def FS{lo:Int}{t u v:Tok}{k:Nat}(I:Inv X pins σ H s)(a:-(2^62)<=lo)(c:lo<2^62)(d:-(2^62)<=hi)(h4:hi<2^62)
  (q:R (Rp lo (hi-lo).toNat) H):wpAny (model X.prog X.w) X.A (pyIter<|.ref s.heap.objs.size) (Tq X pins σ tg R) E {s with heap:=s.heap.push {cls:=.type "range",data:=.fields #[.int lo t,.int hi u,.int 1 v]},toks:=k}:=by
 apply wpAny_pyIter_range (.new ..)<|small_one a c d h4;have i:Inv X pins σ H {s with heap:=s.heap.push {cls:=.type "range",data:=.fields #[.int lo t,.int hi u,.int 1 v]},toks:=k}:=I.kept λb o=>zV _;refine⟨(s.heap.push _).objs.size,[(s.heap.push _).objs.size],_,_,H,rfl,
  i.kept λb o=>zV _,Bq _ lo _,?_,λb B=>?_,q⟩
 .rw[(show lo+(0:Nat)*1=lo by lia),(show(hi-lo).toNat-(0:Nat)=Builtin.Range.rangeSize lo hi 1 by rw[rangeSize_one];split<;>lia)];exact zY _ rfl
 .have e:b=(s.heap.push {cls:=.type "range",data:=.fields #[.int lo t,.int hi u,.int 1 v]}).objs.size:=by grind
  subst e;exact i.VV (yN _)<|i.UX.fresh<|yN _
def PJ(ta:TA):TI:=λb H R=>ta b H λv a=>∃j:Int,v=[.int j]/\-(2^62)<=j/\j<2^62/\R (Rp 0 j.toNat) a
def Fn(g:Gl X "range")(m:X.mg "range"=none)(A:PA X [a] ta)(hs:starEach [a] X.env=[(false,eval a X.env)]:=by rfl):PI X tg (.Call (.Name "range" p) [a] [] pos) (PJ ta):=by
 refineλP s c H R I h=>Call_<|gE I g m boot_range<|qQ (b9 (A pos P s c H _ I h) λu S z=>?_) hs rfl;let(v,d,i,r1,Q):=z;let(j,e,Q,q2,q):=Q;subst e;cases r1 with
 |cons r b =>
  cases b;let(t,rfl):=r;exact call_range_1<|FS i (by lia) (by lia) Q q2<|by simpa using q
def SX(wi:TI)(g:TG)(tb:TS):TS:=λD a H=>wi a H λJ d=>∃W:Nat->Nat->St->Hp->Prop,(∃m,W 0 m a d)/\∀i m a H,W i m a H ->
 (J.stop i H/\D.nx a H)\/(J.go i H/\∃N:St->Hp->Prop,(∀c b,N c b->∃M,M<m/\W (i+1) M c b)/\∀x b,J.ZC i H x b->g x a b λw e=>tb {D with nx:=N,ct:=N,bk:=D.nx} w e)
def wX(fp:Γ Ψ)(h:ι):Γ (Ψ×Obj):=fp.filterMap λb=>(h.get? b).map λo=>(b,o)
def eQ(H:b∈fp)(e:h.get? b=↑o):(b,o)∈wX fp h:=List.mem_filterMap.mpr {b,H,by rw[e];rfl}
def EK(P:p∈wX fp h):p.1∈fp/\h.get? p.1=↑p.2:=by
 let(b,H,e):=List.mem_filterMap.mp P;cases q:h.get? b with
 |none=>rw[q]at e;cases e
 |some o =>
  rw[q]at e;have E:(b,o)=p:=xE e;subst E;exact{H,q}
def Inv.pinned(I:Inv X pins σ H s)(F:∀b∈fp,dc X pins H b)(O:∀b∈fp,∃o,s.heap.get? b=↑o/\∀v,o.data≠.cell v):Inv X (pins++wX fp s.heap) σ H s:=
 I.X0 λp P=>(List.mem_append.mp P).elim (λz=>I.pin p<|yF _ z) λz=>by
  let(B,e):=EK z;let(f,f1,f2,_):=F _ B;let(o,E,d):=O _ B;rw[e]at E;cases E;exact{e,f,f1,f2,d}
def Inv.Vp(I:Inv X (pins++pl) σ H s):Inv X pins σ H s:=I.X0 λp P=>I.pin p<|yF _<|qJ _ P
def HA{pos:Pos}(P:PassesOwn (model X.prog X.w) X.A X.env X.xe)(hc:X.calm=true)(hi:PI X tg iter wi)(hg:PG X tg g)(B:xv X body tb)
  (hs:∀x,foldedSetIterable iter X.env x=pure x:=by intro _;rfl):PS X (.For tg iter body [] pos) (SX wi g tb):=by
 refineλp s σ H D I h=>wpAny_For (b9 (hi p s σ H _ I h) λv s1 h1=>b9 h1 λitv s2 h2=>?_) hs;let(it,E,tn,J,H2,e,I2,T,WK,f2,W,(m0,w0),turn):=h2;subst e;have t:∀{l:Hp},(∀b∈E,l b=none)->∀b∈E,dc X p l b:=λhn b B=>{hn b B,(f2 b B).2}
 refine codeAny_forLoop_any (λn Z=>∃i k l,Inv X p k l Z/\tn i Z.heap/\(∀b∈E,l b=none)/\W i n k l) ?_ m0 {0,σ,H2,I2,WK,λb B=>(f2 b B).1,w0};rintro n s3 ⟨i,M,C,Q,U,F,w3⟩;rcases turn i n M C w3 with ⟨z,qn⟩|⟨go,N,hN,step⟩
 .refine jI P<|b9 (T.done X rfl rfl rfl hc i p s3 M C X.xe Q (t F) U z) λr s4 z=>?_;let(R,I4):=z;subst R;exact vN {M,C,I4,qn}
 .refine jI P<|b9 (T.item X rfl rfl rfl hc i p s3 M C X.xe Q (t F) U go) λr s4 z=>?_;let(u,R,h4):=z;subst R;refine jI P<|b9 h4 λ_ s5 ⟨x,O,I5,r5,y5,S,G⟩=>(jI P<|b9 (hg _ s5 M O x u _ (I5.pinned (t G)<|T.obj _ _ S) r5<|step x O y5) λ_ s6 ⟨L,H6,I6,q6⟩=>(jI P<|b9 (B _ s6 L H6 _ I6 q6) λf K q=>?_));have j:∀{Y:St}{a:Hp},Inv X _ Y a K->N Y a->∃m,m<n/\∃i k l,Inv X p k l K/\tn i K.heap/\(∀b∈E,l b=none)/\W i m k l:=λ{Y a}c y=>by
   let(m',hm,w7):=hN Y a y;refine{m',hm,i+1,Y,a,c.Vp,T.keep _ _ _ S λb B o e=>(c.pin _<|yF _<|yF _<|eQ B e).1,λb B=>?_,w7};let(o,e,d):=T.obj _ _ S b B;exact(c.pin _<|yF _<|yF _<|eQ B e).2.1
  cases f with
  |next=>let(Y,a,c,y):=q;exact j c y
  |cont=>let(Y,a,c,y):=q;exact j c y
  |brk=>let(Y,a,c,q):=q;exact{Y,a,c.Vp,q}
  |ret v=>let(x7,Y,a,c,r7,q):=q;exact{x7,Y,a,c.Vp,r7,q}
abbrev R2:=V->V->Hp->VK->Prop
def iM(X:Cx)(f:Θ->Θ->Sem Θ)(r:R2):Prop:=
 ∀(p:Γ (Ψ×Obj))(s:Ξ)(a:St)(H:Hp)(x y:V)(v u:Θ)(Q:VK),Inv X p a H s->RelV x v->RelV y u->r x y H Q ->
  wpAny (model X.prog X.w) X.A (f v u) (EP X p a Q) X.xe s
def Tg(X:Cx)(f:Θ->Sem Θ)(r:V->Hp->VK->Prop):Prop:=
 ∀(p:Γ (Ψ×Obj))(s:Ξ)(a:St)(H:Hp)(x:V)(v:Θ)(Q:VK),Inv X p a H s->RelV x v->r x H Q ->
  wpAny (model X.prog X.w) X.A (f v) (EP X p a Q) X.xe s
def fQ(X:Cx)(f:Θ)(r:Γ V->Hp->VK->Prop):Prop:=
 ∀(p:Γ (Ψ×Obj))(s:Ξ)(a:St)(H:Hp)(x:Γ V)(u:Γ Θ)(Q:VK),Inv X p a H s->aI x u->r x H Q ->
  wpAny (model X.prog X.w) X.A (call f u) (EP X p a Q) X.xe s
def M9(r:R2)(ta tb:TE):TE:=λa H Q=>ta a H λx b=>tb a b λy c=>r x y c Q
def UD(r:V->Hp->VK->Prop)(ta:TE):TE:=λb H Q=>ta b H λx a=>r x a Q
def rI(C:Int->Int->Prop)(g:Int->Int->V):R2:=λx y H Q=>∃i j,x=.int i/\y=.int j/\C i j/\Q (g i j) H
def JG(g:Int->Int->V):R2:=λx y H Q=>∃i j,x=.int i/\y=.int j/\Q (g i j) H
def rU(g:Int->V):V->Hp->VK->Prop:=λx H Q=>∃i,x=.int i/\Q (g i) H
def OC(g:PE X a ta)(B:PE X b tb){pins:Γ _}{σ:St}{R:V->V->Hp->Prop}(I:Inv X pins σ H s)
  (h:ta σ H λx d=>tb σ d λy c=>R x y c){Q:Θ->Ξ->Prop}{f:Θ->Θ->Sem Θ}
  (F:∀v u s2 x y c,Inv X pins σ c s2->RelV x v->RelV y u->R x y c->wpAny (model X.prog X.w) X.A (f v u) Q X.xe s2) :
  wpAny (model X.prog X.w) X.A (eval a X.env) (λv U=>wpAny (model X.prog X.w) X.A (eval b X.env) (λu Z=>wpAny (model X.prog X.w) X.A (f v u) Q X.xe Z) X.xe U) X.xe s:=by
 refine b9 (g pins s σ H _ I h) λv S z=>?_;let(x,d,i,r1,q):=z;refine b9 (B pins S σ d _ i q) λu s2 z=>?_;let(y,c,e,r,q2):=z;exact F v u s2 x y c e r1 r q2
def Ca(o:iM X (binaryOp op) r)(A:PE X a ta)(B:PE X b tb):PE X (.BinOp a op b pos) (M9 r ta tb):=by
 exactλp s d H Q I h=>wpAny_BinOp<|OC A B I h λv u S x y c i R Y=>o p S d c x y v u Q i R Y
def MD(o:Tg X (unaryOp op) r)(A:PE X a ta):PE X (.UnaryOp op a pos) (UD r ta):=by
 exactλp s b H Q I h=>UnaryOp_ (b9 (A p s b H _ I h) λv S z=>by let(x,c,i,r1,q):=z;exact o p S b c x v Q i r1 q)
def SQ{f:Θ->Θ->Sem Θ}{C:Int->Int->Prop}{g:Int->Int->Int}
  (r:∀i j t u s Q E,C i j->Q (.int (g i j) s.toks) {s with toks:=s.toks+1}->wpAny (model X.prog X.w) X.A (f (.int i t)<|.int j u) Q E s) :
  iM X f (rI C λi j=>.int<|g i j):=by
 intro p s a H x y v u Q I R Y h;let(i,j,rfl,rfl,hc,q):=h;let(t,rfl):=R;let(T,rfl):=Y;exact r i j t T s _ _ hc {.int _,H,I.tok _,{_,rfl},q}
def Qp{f:Θ->Θ->Sem Θ}{g:Int->Int->Int}
  (r:∀i j t u s Q E,Q (.int (g i j) s.toks) {s with toks:=s.toks+1}->wpAny (model X.prog X.w) X.A (f (.int i t)<|.int j u) Q E s) :
  iM X f (JG λi j=>.int<|g i j):=by
 intro p s a H x y v u Q I R Y h;let(i,j,rfl,rfl,q):=h;let(t,rfl):=R;let(T,rfl):=Y;exact r i j t T s _ _ {.int _,H,I.tok _,{_,rfl},q}
def Pb{f:Θ->Θ->Sem Θ}{g:Int->Int->θ}
  (r:∀i j t u s Q E,Q (.bool<|g i j) s->wpAny (model X.prog X.w) X.A (f (.int i t)<|.int j u) Q E s) :
  iM X f (JG λi j=>.bl<|g i j):=by
 intro p s a H x y v u Q I R Y h;let(i,j,rfl,rfl,q):=h;let(t,rfl):=R;let(T,rfl):=Y;exact r i j t T s _ _ {.bl _,H,I,rfl,q}
def J1(i j:Int):Prop:=0<j/\j<1073741824
def wg(i j:Int):Prop:=(-(2^64)<i/\i<2^64)\/(-(2^64)<j/\j<2^64)
def wg.ok(h:wg i j):IntMulOk i j:=by
 rcases h with ⟨H,a⟩|⟨H,a⟩
 .exact .of_left<|intBits_le_64 H a
 .exact .of_right<|intBits_le_64 H a
def Hx:iM X (binaryOp .Add) (JG λi j=>.int<|i+j):=Qp λ_ _ _ _ _ _ _=>add_int
def FX:iM X (binaryOp .Sub) (JG λi j=>.int<|i-j):=Qp λ_ _ _ _ _ _ _=>sub_int
def MR:iM X (binaryOp .Mult) (rI wg λi j=>.int<|i*j):=SQ λ_ _ _ _ _ _ _ hc q=>mul_int q hc.ok
def LJ:iM X (binaryOp .FloorDiv) (rI J1 λi j=>.int<|i/j):=SQ λi j _ _ _ _ _ hc q=>by
 have H:=hc.1;have a:=hc.2;exact floordiv_int (by lia) (by rw[Int.fdiv_eq_ediv_of_nonneg i<|by lia];lia)<|.inl<|PyProof.noPylong_small<|by lia
def M7:iM X (binaryOp .Mod) (rI (λ_ j=>0<j) λi j=>.int<|i%j):=SQ λi j _ _ _ _ _ hc q=>by
 exact mod_int' (by lia) (by rw[Int.fmod_eq_emod_of_nonneg i<|by lia];lia)
def TV{f:Θ->Sem Θ}{g:Int->Int}
  (r:∀i t s Q E,Q (.int (g i) s.toks) {s with toks:=s.toks+1}->wpAny (model X.prog X.w) X.A (f<|.int i t) Q E s) :
  Tg X f (rU λi=>.int<|g i):=by
 intro p s a H x v Q I R h;let(i,rfl,q):=h;let(t,rfl):=R;exact r i t s _ _ {.int _,H,I.tok _,{_,rfl},q}
def GT:Tg X (unaryOp .USub) (rU λi=>.int<|-i):=TV λ_ _ _ _ _=>neg_int
def GE(I:Inv X pins σ H s)(q:Q (.bl k) H)(e:k=U):EP X pins σ Q (.bool U) s:=by
 subst e;exact{.bl k,H,I,rfl,q}
def QW:iM X (compareOp .Lt) (JG λi j=>.bl<|decide (i<j)):=Pb λ_ _ _ _ _ _ _=>lt_int
def FO:iM X (compareOp .LtE) (JG λi j=>.bl<|decide (i<=j)):=Pb λ_ _ _ _ _ _ _=>le_int
def Mj:iM X (compareOp .Gt) (JG λi j=>.bl<|decide (j<i)):=Pb λ_ _ _ _ _ _ _=>gt_int
def FN:iM X (compareOp .Is) (λx y H Q=>y=.UQ/\Q (.bl<|decide (x=.UQ)) H):=by
 intro p s a H x y v u Q I r R h;let(rfl,q):=h;cases R;refine is_none_gen<|GE I q ?_;cases x<;>(let(t,rfl):=r;rfl)
def Kj:iM X (compareOp .IsNot) (λx y H Q=>y=.UQ/\Q (.bl<|!decide (x=.UQ)) H):=by
 intro p s a H x y v u Q I r R h;let(rfl,q):=h;cases R;refine isnot_none_gen<|GE I q ?_;cases x<;>(let(t,rfl):=r;rfl)
def iM.or(h:iM X f r)(h':iM X f U):iM X f (λx y H Q=>r x y H Q\/U x y H Q):=by
 intro p s a H x y v u Q I R Y q;rcases q with q|q
 .exact h p s a H x y v u Q I R Y q
 .exact h' p s a H x y v u Q I R Y q
def eF(b:γ)(h:op≠.In:=by decide)(H:op≠.NotIn:=by decide):behindInMarks op b=false:=by
 have e:(op==.In)=false:=by grind
 cases b<;>simp[behindInMarks,e,(show(op==CmpOp.NotIn)=false by grind)]
def Dz(o:iM X (compareOp op) r)(A:PE X a ta)(B:PE X b tb)(m:behindInMarks op b=false):PE X (.Compare a [op] [b] pos) (M9 r ta tb):=by
 exactλp s d H Q I h=>wpAny_Compare1 (OC A B I h λv u S x y c i R Y=>o p S d c x y v u Q i R Y) m
def Qk(t:TE):TT:=λb H Q=>t b H λx a=>∃k,x=.bl k/\Q k a
def CS(o:iM X (compareOp op) r)(A:PE X a ta)(B:PE X b tb)(M:behindInMarks op b=false):PT X (.Compare a [op] [b] pos) (Qk<|M9 r ta tb):=by
 intro p s d H Q I h;refine wpAny_isTrue_Compare1 (b9 (A p s d H _ I h) λv S ⟨x,f,j,r1,q⟩=>b9 (B p S d f _ j q) λu w ⟨y,g,l,R,q2⟩ =>
  b9 (o p w d g x y v u _ l r1 R q2) λc C ⟨z,i,m,t,k,e,n⟩=>?_) M
 subst e;cases t;exact xW ⟨i,m,n⟩
def Gq(r R:R2)(ta tb t:TE):TE:=λa H Q=>ta a H λx c=>tb a c λy d=>r x y d λz b=>∃k,z=.bl k /\
 (if k=true then t a b λw e=>R y w e Q else Q (.bl false) b)
def HP(O:iM X (compareOp op) r)(W:iM X (compareOp U) r')(A:PE X a ta)(B:PE X b tb)(hc:PE X c tc)
  (M:lastMarks [op,U] [b,c]=false:=by with_unfolding_all rfl):PE X (.Compare a [op,U] [b,c] pos) (Gq r r' ta tb tc):=by
 intro p s f H Q I h;refine Compare_chain (b9 (A p s f H _ I h) λv S ⟨x,j,n,r1,w⟩=>chain_link (b9 (B p S f j _ n w) λu F ⟨y,l,o,R,q2⟩ =>
  b9 (O p F f l x y v u _ o r1 R q2) λd G ⟨z,g,i,D,k,e,q⟩=>?_)) M
 subst e;cases D;apply xW;cases k with
 |false=>exact ite_ff {.bl false,g,i,rfl,q}
 |true=>exact ite_tt<|chain_last (b9 (hc p G f g _ i q) λK J z=>by let(Z,m,t,E,C):=z;exact W p J f m y Z u K Q t R E C)
def oO:sizeLine<2^63:=by decide
def vals1(r:aI [x] us):∃u,us=[u]/\RelV x u:=by
 cases r with
 |cons r1 R=>cases R;exact{_,rfl,r1}
def vals2(r:aI [x,y] us):∃u w',us=[u,w']/\RelV x u/\RelV y w':=by
 cases r with
 |cons r1 R =>
  cases R with
  |cons a b=>cases b;exact{_,_,rfl,r1,a}
structure B3(h:Heap)(x dx C:Addr)(mA:Str->Option Value):Prop where
 obj:h.get? x=↑(W.instObj C dx)
 ns:h.Ns1 dx mA
 ne:dx≠x
def EZ{h:ι}(n:h.Ns1 dx mA):∃od,h.get? dx=↑od/\∀name,W.lookIn name od=↑(mA name):=by
 let(o,s,p,H,d,hk,_,m):=n;refine{o,H,λname=>?_};have e:=m name;unfold nsFind findBy at e;rw[<-Array.find?_toList]at e;unfold W.lookIn;rw[d];dsimp only;split
 .rename_i y q;rw[q]at e;exact jB some e
 .rename_i q;rw[q]at e;have a:s.toList.any (·.refKey)=false:=by
   rw[List.any_eq_false];intro y Y;let(z,t,Z):=hk y<|Array.mem_toList_iff.mp Y;simp[DictEntry.refKey,Z]
  have A:¬s.toList.any (·.refKey)=true:=by rw[a];exact xA
  rw[yO A];exact jB some e
def B3.look(I:B3 h x dx C mA):∃od,W.InstAt h x (W.instObj C dx) C (↑od)/\∀name,W.lookIn name od=↑(mA name):=
 let ⟨od,o,l⟩:=EZ I.ns
 {od,{I.obj,rfl,rfl,o},l}
section
variable {K:Φ}
def JT{e:θ}(X:K.In s.heap)(I:B3 s.heap x dx C mA)(g:W.plainGet K C name=true)(b:W.hasDictIn K C=true)
  (a:W.findIn K (.ref C) name=↑none)(c:mA name=↑v)(H:W.handedIn v=true)(h:Q v {s with toks:=s.toks+1}) :
  wpAny (model prog w) A (getAttr (.ref x) name e) Q E s:=by
 let(od,J,l):=I.look;exact W.get_value X J (W.plainGet_of g).1 (W.findObj_own b a rfl (by rw[l,c])) H h
def GU(X:K.In s.heap)(I:B3 s.heap x dx C mA)(g:W.plainGet K C name=true)
  (H:W.findIn K (.ref C) name=↑(↑(.ref f)))(ht:W.isFn K (.ref f)=true)(v:mA name=none)(h:Q (.ref f,[.ref x]) s) :
  wpAny (model prog w) A (getMethod (.ref x) name pl) Q E s:=by
 let(od,J,l):=I.look;exact W.method_fn X J (W.plainGet_of g).1 (W.plainGet_of g).2 H (beq_iff_eq.mp ht) (by show(W.lookIn name od).map _=↑false;rw[l,v];rfl) h
def wa(X:K.In s.heap)(I:B3 s.heap x dx C mA)
  (hs:W.findIn K (.ref C) "__setattr__"=↑(↑(.builtin "object.__setattr__")))(p:W.plainOver K C=true)(ht:W.takerIn K C name=↑none)(f:W.hasDictIn K C=true)
  (hw:PySem.Within mA ns)(hsz:ns.length<=sizeLine)
  (h:∀h',B3 h' x dx C (λy=>if y=name then↑v else mA y)->Heap.SameBut dx s.heap h'->Q () {s with heap:=h',toks:=s.toks+2}) :
  wpAny (model prog w) A (setAttr (.ref x) name v) Q E s:=by
 let(od,J,l):=I.look;refine W.set_plain X J hs<|W.osa_open X J p ht λb=>?_;let(g,hc,Z):=W.any_some f;refine zW<|zX<|zW<|zW<|wpAny_loadPart I.obj<|zW<|W.Looks.here (W.looks_clsIn X hc) ?_;rw[Z];refine zX<|zW<|zX<|zW<|wpAny_nsSet1 I.ns λh' H a=>?_;let(oD,c,e,Y,d,D):=H.count<|.cons name v hw;exact zW<|wpAny_lookBehind Y (by rw[d];exact pastItsLine_dict<|yE D<|by grind)<|zX<|h _ {(a.2 _<|jL I.ne).trans I.obj,H,I.ne} a
def II(X:K.In s.heap)(m:W.makesIn K C=true)
  (hi:W.findIn K (.ref C) "__init__"=↑(↑(.ref f)))(H:W.typeIn K (.ref f)=↑(.type "function"))
  (h:codeAny (model prog w) (A.under<|.builtin "type.__call__" {.ref C::vs,kw}) (.call (.ref f) {.ref (s.heap.objs.size+1)::vs,kw}) (W.InitBack (s.heap.objs.size+1) R)
   {s with heap:=(s.heap.push W.emptyDict).push (W.instObj C s.heap.objs.size)}) :
  codeAny (model prog w) A (.call (.ref C) {vs,kw}) R s:=by
 exact W.make_core (W.makes_of X m) (W.looks_findIn X hi) (λS=>W.bind_fn X S H) (.inl rfl) h
end
def iC(f:Str)(v:V):Γ (Str×V)->Γ (Str×V)
 |[]=>[(f,v)]
 | (g,x)::r=>if g=f then(g,v)::r else(g,x)::iC f v r
def pq(f g:Str)(v:V):∀fs ,(iC f v fs).lookup g=if g=f then↑v else fs.lookup g
 |[]=>by
  show List.lookup g [(f,v)]=_
  grind
 | (k,x)::r=>by
  have i:=pq f g v r;rw[show iC f v _=(if k=f then(k,v)::r else(k,x)::iC f v r)from rfl]
  grind
def oM(f:Str)(v:V):∀fs:Γ (Str×V),f∈(iC f v fs).map (·.1)/\∀g,g∈fs.map (·.1)->g∈(iC f v fs).map (·.1)
 |[]=>{by simp[iC],λg h=>by grind}
 | (k,x)::r=>by
  let(i,I):=oM f v r;rw[show iC f v _=(if k=f then(k,v)::r else(k,x)::iC f v r)from rfl]
  grind
def pO(f:Str)(v:V):∀fs ,(iC f v fs).length<=fs.length+1
 |[]=>by simp[iC]
 | (k,x)::r=>by
  have i:=pO f v r;rw[show iC f v _=(if k=f then(k,v)::r else(k,x)::iC f v r)from rfl]
  grind
def xr.some_of(r:xr (↑v) o):∃u,o=↑u/\RelV v u:=by
 cases o with
 |none=>exact(r).elim
 |some u=>exact{u,rfl,r}
def xr.none_of(r:xr none o):o=none:=by
 cases o with
 |none=>rfl
 |some u=>exact(r).elim
def Fi(r:RelV v u):W.handedIn u=true:=by
 cases v with
 |UQ=>cases(r);rfl
 |bl b=>cases(r);rfl
 |int i=>let(t,e):=(r);cases e;rfl
 |str x=>let(t,e):=(r);cases e;rfl
 |byt b=>let(t,e):=(r);cases e;rfl
 |flt b=>let(t,e):=(r);cases e;rfl
 |ref a=>cases(r);rfl
 |ty n=>cases(r);rfl
def vv(U:pN P w H h)(e:H a=↑(.ins C dx fs)):∃m,B3 h a dx C m/\(∀f,xr (fs.lookup f)<|m f)/\PySem.Within m (fs.map (·.1))/\fs.length<=1000/\H dx=↑(.own a):=by
 let(d,z,N,ob,m,n,r,q):=(U a _ e)
 exact{m,⟨ob,n,N⟩,r,q,z,d}
structure tK(K:W.Frag)(C:Addr):Prop where
 pg:W.plainGet K C Str.empty=true
 hd:W.hasDictIn K C=true
 po:W.plainOver K C=true
 sa:W.findIn K (.ref C) "__setattr__"=↑(↑(.builtin "object.__setattr__"))
def tK.get{K:Φ}(c:tK K C)(f:Str):W.plainGet K C f=true:=c.pg
def eI(K:Φ)(C:Ψ)(f:Str):Prop:=W.findIn K (.ref C) f=↑none
def eI.abP{K:Φ}(n:eI K C f):W.takerIn K C f=↑none:=by
 rw[W.takerIn,n];rfl
structure AW(K:W.Frag)(C:Addr)(m:Str)(f:Addr):Prop where
 at_:W.findIn K (.ref C) m=↑(↑(.ref f))
 fn:W.isFn K (.ref f)=true
 kp:W.keepIn K (.ref f)=true
def BO(I:Inv X pins σ H s)(e:H a=↑(.ins C dx fs))(c:tK X.K C)(n:eI X.K C f)(l:fs.lookup f=↑v)
  (h:∀u s',Inv X pins σ H s'->RelV v u->Q u s'):wpAny (model X.prog X.w) A (getAttr (.ref a) f b) Q E s:=by
 let(m,O,r,_,_,_):=vv I.UX e;let(u,U,R):=xr.some_of (by rw[<-l];exact r f);exact JT I.Wq O (c.get f) c.hd n U (Fi R)<|h u _ (I.tok _) R
def rC(I:Inv X pins σ H s)(e:H a=↑(.ins C dx fs))(c:tK X.K C)(k:AW X.K C m g)(l:fs.lookup m=none)
  (h:Q (.ref g,[.ref a]) s):wpAny (model X.prog X.w) A (getMethod (.ref a) m pl) Q E s:=by
 let(M,O,r,_,_,_):=vv I.UX e;exact GU I.Wq O (c.get m) k.at_ k.fn (xr.none_of (by rw[<-l];exact r m)) h
def BK(I:Inv X pins σ H s)(e:H a=↑(.ins C dx fs))(c:tK X.K C)(n:eI X.K C f)(L:fs.length<1000)(R:RelV y u)
  (h:∀s',Inv X pins σ (upd H a<|.ins C dx<|iC f y fs) s'->Q () s'):wpAny (model X.prog X.w) A (setAttr (.ref a) f u) Q E s:=by
 let(m,O,r,i,_,k):=vv I.UX e;refine wa I.Wq O c.sa c.po n.abP c.hd i (by rw[zD,qT];lia) λl d S=>h _ ?_;apply I.write (by rw[e];exact True.intro) (.inr k) (λb q B=>(S.2 b B).trans) (let ⟨o,_,_,j,_⟩:=d.ns;⟨o,j⟩);refine{by rw[ai O.ne];lia,?_,O.ne,d.obj,_,d.ns,λg=>?_,λg G=>?_}
 .have:=pO f y fs;lia
 .rw[pq];by_cases q:g=f
  .rw[yM q,yM q];exact R
  grind
 .by_cases q:g=f
  .rw[q];exact(oM f y fs).1
  .refine (oM f y fs).2 g (i g λz=>G ?_)
   grind
def Inv.made(I:Inv X pins σ H s):Inv X pins σ (upd (upd H s.heap.objs.size<|.own<|s.heap.objs.size+1) (s.heap.objs.size+1)<|.ins C s.heap.objs.size [])
  {s with heap:=(s.heap.push W.emptyDict).push (W.instObj C s.heap.objs.size)}:=by
 have E:(s.heap.push W.emptyDict).get? s.heap.objs.size=↑W.emptyDict:=zY s.heap rfl;have a:((s.heap.push W.emptyDict).push<|W.instObj C s.heap.objs.size).get? (s.heap.objs.size+1)=↑(W.instObj C s.heap.objs.size):=by
  have:=zY (s.heap.push W.emptyDict) (o:=W.instObj C s.heap.objs.size) rfl;simp_all
 apply(I.laid (o:=.own _) (t':=s.toks) (λb u=>zV _) (yN _) {_,E}).laid (λb u=>zV _)<|Nat.le_of_eq<|xJ _ _;have n:s.heap.objs.size≠s.heap.objs.size+1:=yS<|kM _;exact{by rw[ai n,ar],xV _,n,a,λ_=>none,(Heap.Ns1.of_empty {W.emptyDict,#[],_,E,rfl,(λe c=>absurd c<|by simp),λ_=>rfl}).at λo=>zV _,λ_=>True.intro,nofun}
def Lx{env:Env}(b:attributeBase e f env (eval e env)=eval e env)
  (h:wpAny (model prog w) A (eval e env) (λo U=>wpAny (model prog w) A (getAttr o f true) Q E U) E s):wpAny (model prog w) A (eval (.Attribute e f pos) env) Q E s:=
 Attribute_any_ h (by rw[arm_eval_Attribute,b])
def JA(K:Φ)(ta:TE)(f:Str):TE:=λc H Q=>ta c H λx b=>∃a C d fs v,x=.ref a/\b a=↑(.ins C d fs)/\tK K C/\eI K C f/\fs.lookup f=↑v/\Q v b
def RX(K:Φ)(ta t:TE)(f:Str):TS:=λD b H=>t b H λy e=>ta b e λx c=>∃a C d fs,x=.ref a/\c a=↑(.ins C d fs)/\tK K C/\eI K C f/\fs.length<1000 /\
 D.nx b (upd c a<|.ins C d<|iC f y fs)
def wc(j:PE X e ta)(B:attributeBase e f X.env (eval e X.env)=eval e X.env):PE X (.Attribute e f pos) (JA X.K ta f):=by
 refineλp s k H Q I h=>Lx B<|b9 (j p s k H _ I h) λu S z=>?_;let(x,b,i,R,a,C,D,fs,v,g,E,c,n,l,q):=z;subst g;obtain rfl:u=.ref a:=R;exact BO i E c n l λU m d r=>{v,b,d,r,q}
def M1(A:PE X o ta)(v:PE X value U)(hs:swapsWith value (↑(.Attribute o f pos')) pos.line X.env=pure false):PS X (.Assign [.Attribute o f pos'] value pos) (RX X.K ta U f):=by
 refineλp s b H D I h=>plainObj_wpAny_Assign_Attribute (b9 (v p s b H _ I h) λu S ⟨y,d,i,R,q⟩=>b9 (A p S b d _ i q) λO t z=>?_) hs;let(x,k,e,r,a,C,m,fs,j,E,c,n,l,q2):=z;subst j;obtain rfl:O=.ref a:=r;exact BK e E c n l R λw g=>{b,_,g,q2}
structure cE(k:Nat)(A:Around):Prop where
 hd:A.handled=none
 dp:A.depth+3*k+5<recursionLimit
 un:A.units+16*k+200<cLine
def cE.mono(r:cE k A)(h:j<=k):cE j A:={r.hd,by have:=r.dp;lia,by have:=r.un;lia}
def cE.deeper(r:cE (k+1) A)(env:Env):cE k (A.deeper env):=
 {r.hd,by have:=r.dp;show A.depth+1+3*k+5<_;lia,by have:=r.un;show A.units+3+16*k+200<_;lia}
def cE.in1(r:cE (k+1) A):cE k A.in1:=
 {r.hd,by have:=r.dp;grind,by have:=r.un;grind}
def B5{A:ξ}{u:Γ Θ}:(A.under<|.builtin "type.__call__" {.ref C::u,kw}).depth=A.depth+1:=by
 rfl
def BU{A:ξ}{u:Γ Θ}:(A.under<|.builtin "type.__call__" {.ref C::u,kw}).units=A.units+1:=by
 rfl
def cE.make(r:cE (k+1) A)(C:Ψ)(u:Γ Θ)(w:Γ _):cE k (A.under<|.builtin "type.__call__" {.ref C::u,w}):=
 {r.hd,by have:=r.dp;rw[B5];lia,by have:=r.un;rw[BU];lia}
def cE.depth(r:cE k A):A.depth<recursionLimit:=by have:=r.dp;lia
def cE.units(r:cE k A):A.units+64<cLine:=by have:=r.un;lia
def Qf:TA:=λ_ H Q=>Q [] H
def Qe(ta:TE)(t:TA):TA:=λa H Q=>ta a H λx b=>t a b λs c=>Q (x::s) c
def cQ:PA X [] Qf:=λ_ _ _ _ H Q I h=>Calls.spliced_nil {[],H,I,.nil,h}
def br(A:PE X e te)(r:PA X es t)(hs:starEach (e::es) X.env=(false,eval e X.env)::starEach es X.env:=by rfl):PA X (e::es) (Qe te t):=by
 intro P p s a H Q I h;rw[hs];exact Calls.spliced_cons (b9 (A p s a H _ I h) λu S z=>by let(x,b,i,r1,q):=z;exact(b9 (r P p S a b _ i q) λU g z=>by let(f,c,d,R,q2):=z;exact {x::f,c,d,.cons r1 R,q2}))
def Ss(t:TA):TE:=λb H Q=>t b H λx a=>x.length<=sizeLine/\∀p,a p=none->Q (.ref p) (upd a p<|.tup x)
def RO(t:TA):TE:=λb H Q=>t b H λx a=>x.length<=sizeLine/\∀p,a p=none->Q (.ref p) (upd a p<|.lst x)
def Gp{x1}(h:PA X es t):PE X (.Tuple es x1 pos) (Ss t):=by
 refineλp s d H Q I c=>wpAny_Tuple_spliced<|b9 (h pos p s d H _ I c) λU S ⟨x,a,i,r,z,q⟩=>{by rw[<-r.length];lia,({.ref S.heap.objs.size,upd a S.heap.objs.size _,i.laid (λb u=>zV _) (yN _) ?_,rfl,q _<|i.UX.fresh<|yN _})};exact{z,U,r,{_,zY _ rfl,rfl,_,rfl},_,zY _ rfl,rfl}
def ON(h:PA X es t):PE X (.List es pos) (RO t):=by
 refineλp s d H Q I c=>wpAny_List_spliced<|b9 (h pos p s d H _ I c) λU S ⟨x,a,i,r,z,q⟩=>{by rw[<-r.length];lia,({.ref S.heap.objs.size,upd a S.heap.objs.size _,i.laid (λb u=>zV _) (yN _) ?_,rfl,q _<|i.UX.fresh<|yN _})};exact{z,U,0,r,zY _ rfl}
abbrev Sp:=Γ V->Hp->VK->XK->Prop
abbrev JC:=Γ Env->Hp->Ξ->XK->Θ->Ξ->Prop
structure Bm(P:Program)(w:World)(K:W.Frag)(mg:Str->Option Value)(base:Heap)(A:Around)(outer:List Env)(s:Shared)(H:Hp):Prop where
 frames:A.frames=↑outer
 mod:Mod K mg base
 bs:∀b o,base.get? b=↑o->s.heap.get? b=↑o/\H b=none
 ZL:base.objs.size<=s.heap.objs.size
 VU:s.heap.FunFrames base outer
 frf:∀b∈Et outer,H b=none
 UX:pN P w H s.heap
 bare:AllBare s.gens
def CE(o:Γ Env)(P:ε)(w:δ)(H:Hp)(s:Ξ)(Q:VK)(u:Θ)(s':Ξ):Prop:=
 ∃v a,s'.os=s.os/\AllBare s'.gens/\Un (Et o) [] H a s.heap s'.heap/\pN P w a s'.heap/\RelV v u/\Q v a
def CR(CX:JC)(o:Γ Env)(P:ε)(w:δ)(H:Hp)(s:Ξ)(Q:VK)(E:XK)(r:Result)(s':Ξ):Prop:=
 match r with
 |.ok (.ret u)=>CE o P w H s Q u s'
 |.ok _=>False
 |.error e=>CX o H s E e s'
structure dZ(P:Program)(w:World)(K:W.Frag)(mg:Str->Option Value)(base:Heap)(CX:JC)(k:Nat)(f:Addr)(fd:FuncData)(ps:List Str)(sp:Sp):Prop where
 len:∀vs H Q E,sp vs H Q E->vs.length=ps.length
 run:∀(A:ξ)(outer:Γ Env)(s:Ξ)(H:Hp)(args:Args)(us:Γ Θ)(vs:Γ V)(Q:VK)(E:XK),cE k A->Bm P w K mg base A outer s H->BindsTo s fd args (ps.zip us)->aI vs us->sp vs H Q E ->
  codeAny (model P w) A (.call (.ref f) args) (CR CX outer P w H s Q E) s
def dZ.mono{K:Φ}(F:dZ P w K mg base CX j f fd ps sp)(h:j<=k) :
  dZ P w K mg base CX k f fd ps sp:={F.len,λA o s H a u v Q E r=>F.run A o s H a u v Q E<|r.mono h}
def Bm.make{K:Φ}(e:Bm P w K mg base A outer s H)(C:Ψ)(u:Γ Θ)(k:Γ _) :
  Bm P w K mg base (A.under<|.builtin "type.__call__" {.ref C::u,k}) outer s H:={by (exact e.frames),e.mod,e.bs,e.ZL,e.VU,e.frf,e.UX,e.bare}
def Inv.abQ(I:Inv X pins σ H s):Bm X.prog X.w X.K X.mg X.base X.A X.stack s H:=
 {I.ok.frames,I.ok.mod,I.bs,yE I.ok.ZL I.sz,I.stack,I.WH,I.UX,I.bare}
def Inv.after(I:Inv X pins σ H s)(h:CE X.stack X.prog X.w H s Q u s'):EP X pins σ Q u s':=by
 let(v,a,O,b,n,U,r,q):=h;let(c,g,d,t,o):=s';obtain rfl:o=s.os:=O;exact{v,a,I.call n U b<|nofun,r,q}
def P8(sp:Sp)(W:Γ V)(E:XK)(t:TA):TE:=λb H Q=>t b H λv a=>sp (v++W) a Q E
def GR(C:Ψ)(m:Str)(sp:Sp)(W:Γ V)(E:XK)(ta:TE)(t:TA):TE:=λc H Q=>ta c H λx b=>∃a D fs,x=.ref a/\b a=↑(.ins C D fs)/\fs.lookup m=none /\
 t c b λv d=>sp (x::(v++W)) d Q E
def QI(C:Ψ)(sp:Sp)(W:Γ V)(E:XK)(t:TA):TE:=λc H Q=>t c H λs a=>∀x d,a x=none->a d=none->d≠x ->
 sp (.ref x::(s++W)) (upd (upd a d<|.own x) x<|.ins C d []) (λv b=>v=.UQ/\Q (.ref x) b) E
def Binds(K:Φ)(f:η)(ps:Γ Str)(ds:Γ Θ):Prop:=
 ∀(s:Ξ)(u:Γ Θ),K.In s.heap->(u++ds).length=ps.length->BindsTo s f {u,[]} (ps.zip<|u++ds)
def Binds.all{K:Φ}(h:∀u ,u.length=ps.length->bindArgs fd {u,[]}=pure (ps.zip u)):Binds K fd ps []:=λs u _ l=>by
 rw[qF]at l ⊢;exact .of_eq<|h u l
def mC(CX:JC)(X:Cx)(E:XK):Prop:=∀(p:Γ (Ψ×Obj))(a:St)(H:Hp)(s:Ξ)(e:Θ)(S:Ξ),Inv X p a H s->CX X.stack H s E e S->X.xe e S
def B8(F:dZ X.prog X.w X.K X.mg X.base CX k f fd ps sp)(a:cE k X.A)(b:Binds X.K fd ps ds)(d:aI U ds)(x:mC CX X E)
  (I:Inv X pins σ H s)(r:aI vs us)(h:sp (vs++U) H Q E):wpAny (model X.prog X.w) X.A (call (.ref f) us) (EP X pins σ Q) X.xe s:=by
 have R:=r.append d;refine vH<|jQ (F.run X.A X.stack s H _ _ _ Q E a I.abQ (b s us I.Wq (by rw[<-R.length];exact F.len _ _ _ _ h)) R h) λr S q=>?_;cases r with
 |error e=>exact x pins σ H s e S I q
 |ok l =>
  cases l with
  |ret u=>exact I.after q
  |next=>exact False.elim q
  |brk=>exact False.elim q
  |cont=>exact False.elim q
def vb(F:dZ X.prog X.w X.K X.mg X.base CX k f fd ps sp)(R:cE k X.A)(g:Gl X x)(m:X.mg x=↑(.ref f))(hk:W.keepIn X.K (.ref f)=true)(B:Binds X.K fd ps ds)(d:aI U ds)(j:mC CX X E)
  (b:PA X (e::es) t)(v:(x==("__debug__":Str))=false:=by decide)(c:starEach (e::es) X.env=(false,eval e X.env)::starEach es X.env:=by rfl)(a:(backTo pos<|starEach es X.env).any (·.1)=false:=by rfl) :
  PE X (.Call (.Name x p) (e::es) [] pos) (P8 sp U E t):=λP s l H Q I h=>qX<|xp I g m (W.callWith_K I.ok.mod.kin hk (b9 (b pos P s l H _ I h) λu S z=>by let(o,n,i,r,q):=z;exact {i.Wq,(B8 F R B d j i r q)}) c a) v
def J6{pl:Sem θ}(J:PE X o ta)(c:tK X.K C)(M:AW X.K C m f)(F:dZ X.prog X.w X.K X.mg X.base CX k f fd ps sp)(R:cE k X.A)(D:Binds X.K fd ps ds)(G:aI U ds)(L:mC CX X E)(B:PA X (e::es) t)
  (j:starEach (e::es) X.env=(false,eval e X.env)::starEach es X.env:=by rfl)(n:(backTo pos<|starEach es X.env).any (·.1)=false:=by rfl)
  (ht:eval (.Call (.Attribute o m apos) (e::es) [] pos) X.env=(do
   let v <- eval o X.env
   standAt apos.atName
   let (f,first) <- holding [v]<|getMethod v m pl
   callWith pos f first (backTo pos<|starEach (e::es) X.env) (backToKw pos<|keywordEach [] X.env)):=by rfl) :
  PE X (.Call (.Attribute o m apos) (e::es) [] pos) (GR C m sp U E ta t):=by
 refineλp s d H Q I h=>W.methodCall_KW (b9 (J p s d H _ I h) λu O ⟨x,g,i,N,a,T,fs,z,y,l,q⟩=>?_) ht;subst z;obtain rfl:u=.ref a:=N;apply rC i y c M l;exact W.callWith_K I.ok.mod.kin M.kp (b9 (B pos p O d g _ i q) λZ Y z=>by let(S,P,b,r,q2):=z;exact {b.Wq,(B8 (vs:=.ref a::S) F R D G L b (.cons rfl r) q2)}) j n
def rE(g:PE X o ta)(c:tK X.K C)(M:AW X.K C m f)(F:dZ X.prog X.w X.K X.mg X.base CX k f fd ps sp)(r:cE k X.A)(B:Binds X.K fd ps ds)(d:aI U ds)(j:mC CX X E)
  (ht:eval (.Call (.Attribute o m apos) [] [] pos) X.env=(do
   let v <- eval o X.env
   standAt apos.atName
   let (f,first) <- holding [v]<|getMethod v m pl
   callWith pos f first (backTo pos<|starEach [] X.env) (backToKw pos<|keywordEach [] X.env)):=by rfl) :
  PE X (.Call (.Attribute o m apos) [] [] pos) (GR C m sp U E ta Qf):=by
 refineλp s n H Q I h=>W.methodCall_KW (b9 (g p s n H _ I h) λu S z=>?_) ht;let(x,t,i,R,a,D,fs,b,e,l,q):=z;subst b;obtain rfl:u=.ref a:=R;apply rC i e c M l;exact W.callWith_K0 i.Wq M.kp<|B8 (vs:=[.ref a]) F r B d j i (.cons rfl .nil) q
structure Mk(K:W.Frag)(C f:Addr):Prop where
 makes:W.makesIn K C=true
 init:W.findIn K (.ref C) "__init__"=↑(↑(.ref f))
 fn:W.isFn K (.ref f)=true
 kp:W.keepIn K (.ref C)=true
def FZ(M:Mk X.K C f)(F:dZ X.prog X.w X.K X.mg X.base CX k f fd ps sp)(j:cE (k+1) X.A)(B:Binds X.K fd ps ds)(D:aI U ds)
  (m:mC CX X E)(I:Inv X pins σ H s)(r:aI vs us)
  (h:∀x d,H x=none->H d=none->d≠x->sp (.ref x::(vs++U)) (upd (upd H d<|.own x) x<|.ins C d []) (λv b=>v=.UQ/\Q (.ref x) b) E) :
  wpAny (model X.prog X.w) X.A (call (.ref C) us) (EP X pins σ Q) X.xe s:=by
 have q:=h _ s.heap.objs.size (I.UX.fresh<|Nat.le_succ _) (I.UX.fresh<|yN _)<|yS<|kM _;have i:=Inv.made (C:=C) I;have R:aI (V.ref (s.heap.objs.size+1)::(vs++U)) _:=.cons rfl (r.append D);have L:(.ref (s.heap.objs.size+1)::us++ds).length=ps.length:=by
  have e:=R.length;rw[F.len _ _ _ _ q]at e
  grind
 refine vH (II I.Wq M.makes M.init (beq_iff_eq.mp M.fn) (jQ (F.run _ X.stack _ _ _ _ _ _ E (j.make C us [])
  (i.abQ.make C us []) (B _ _ i.Wq L) R q) λr S Y=>?_))
 cases r with
 |error e=>exact m pins σ _ _ e S i Y
 |ok l =>
  cases l with
  |ret u =>
   let(v,a,c,o,g,n):=i.after Y;subst g;exact{o,V.ref _,a,c,rfl,n}
  |next=>exact False.elim Y
  |brk=>exact False.elim Y
  |cont=>exact False.elim Y
def Da(M:Mk X.K C f)(F:dZ X.prog X.w X.K X.mg X.base CX k f fd ps sp)(R:cE (k+1) X.A)(g:Gl X x)(m:X.mg x=↑(.ref C))(B:Binds X.K fd ps ds)(d:aI U ds)(j:mC CX X E)
  (b:PA X (e::es) t)(v:(x==("__debug__":Str))=false:=by decide)(c:starEach (e::es) X.env=(false,eval e X.env)::starEach es X.env:=by rfl)(a:(backTo pos<|starEach es X.env).any (·.1)=false:=by rfl) :
  PE X (.Call (.Name x p) (e::es) [] pos) (QI C sp U E t):=λP s l H Q I h=>qX<|xp I g m (W.callWith_K I.ok.mod.kin M.kp (b9 (b pos P s l H _ I h) λu S z=>by let(o,n,i,r,q):=z;exact {i.Wq,(FZ M F R B d j i r q)}) c a) v
structure bO(N P:List Str)(sc:Scope):Prop where
 kind:sc.kind=.function
 co:sc.isCoroutine=false
 gen:sc.isGenerator=false
 nd:N.Nodup
 pre:N.take P.length=P
 par:∀x∈P,sc.names.lookup x=↑.local \/ sc.names.lookup x=↑.cell
 aaJ:∀y∈sc.names,y.2≠.free
def ur{k:Str->Δ NameKind}:∀{b:Γ (Str×Θ)}{m:Str->Δ Θ},(∀v,(x,v)∉b)->bindL k b m x=m x
 |[],_,_=>rfl
 | (n,v)::r,m,h=>by
  unfold bindL;rw[ur λw hw=>h w<|zC _ hw];split
  .have:x≠n:=by rintro rfl;exact h v zE
   simp[this]
  .rfl
def uK{k:Str->Δ NameKind}:∀{b:Γ _}{m:Str->Δ Θ},(∀v,(x,v)∉b)->bindC k b m x=m x
 |[],_,_=>rfl
 | (n,v)::r,m,h=>by
  rw[bindC,uK λw hw=>h w<|zC _ hw];split<;>grind
def tV{k:Str->Δ NameKind}:∀{P:Γ Str}{vs:Γ Θ}{i:Nat}{m:Str->Δ Θ},P.Nodup->P[i]?=↑x->vs[i]?=↑v->k x=↑.local ->
  bindL k (P.zip vs) m x=↑v
 |[],_,_,_,_,h,_,_=>by simp at h
 |_::_,[],_,_,_,_,h,_=>by simp at h
 |p::P,w::vs,0,m,n,H,a,hk=>by
  simp at H a;subst H;subst a;show bindL k ((p,w)::P.zip vs) m p=_;rw[bindL,ur λv b=>(List.nodup_cons.mp n).1 (vQ b).1,yM hk];simp
 |p::P,w::vs,i+1,m,n,H,a,hk=>by
  show bindL k ((p,w)::P.zip vs) m x=_;exact tV (i:=i) (List.nodup_cons.mp n).2 (by simpa using H) (by simpa using a) hk
def uI{k:Str->Δ NameKind}:∀{P:Γ Str}{vs:Γ Θ}{i:Nat}{m:Str->Δ Θ},P.Nodup->P[i]?=↑x->vs[i]?=↑v->k x≠some .local ->
  bindC k (P.zip vs) m x=↑v
 |[],_,_,_,_,h,_,_=>by simp at h
 |_::_,[],_,_,_,_,h,_=>by simp at h
 |p::P,w::vs,0,m,n,H,a,hk=>by
  simp at H a;subst H;subst a;show bindC k ((p,w)::P.zip vs) m p=_;rw[bindC,uK λv b=>(List.nodup_cons.mp n).1 (vQ b).1,yO hk];simp
 |p::P,w::vs,i+1,m,n,H,a,hk=>by
  show bindC k ((p,w)::P.zip vs) m x=_;exact uI (i:=i) (List.nodup_cons.mp n).2 (by simpa using H) (by simpa using a) hk
def start(N:Γ Str)(vs:Γ V):St:=vs.map some++List.replicate (N.length-vs.length) none
def z7(CX:JC)(P:ε)(w:δ)(K:Φ)(mg:Str->Δ Θ)(base:ι)(N:Γ Str)(q:Str)(scope:ζ)(f:Ψ)(c:Θ)(A:ξ)(o:Γ Env)(s:Ξ)(H:Hp)(E:XK):Cx where
 prog:=P
 w:=w
 K:=K
 mg:=mg
 base:=base
 A:=A.deeper<|envOfC q scope s.heap.objs.size f c
 N:=N
 Ve:=s
 UP:=H
 env:=envOfC q scope s.heap.objs.size f c
 outer:=o
 stack:=envOfC q scope s.heap.objs.size f c::o
 ex:=[]
 calm:=true
 fn:=λ_=>true
 pn:=[]
 xe:=λe S=>wpAny (model P w) (A.deeper<|envOfC q scope s.heap.objs.size f c) (leaving (envOfC q scope s.heap.objs.size f c) e) (λ_ X=>CX o H s E e X) (λa X=>CX o H s E a X) S
def rF{sc:ζ}{n:Nat}(h:sc.names.lookup x=↑.cell):∃c,(cellsFrom n sc.names []).lookup x=↑c:=by
 exact Option.isSome_iff_exists.mp<|W.cellsFrom_some sc.names n []<|.inl h
def EL{CX:JC}{K:Φ}{mg:Str->Δ Θ}{ps:Γ Str}{scope:ζ}{C:Θ}{A:ξ}{o:Γ Env}{s:Ξ}{E:XK}{U:Γ Θ}{vs:Γ V}
  (S:bO N ps scope)(D:A.handled=none)(g:Bm P w K mg base A o s H)(L:vs.length=ps.length)(r:aI vs U)
  (x:InCallC s s.heap.objs.size (bindL (envOfC qual scope s.heap.objs.size f C).kindOf (ps.zip U) λ_=>none) (cellsFrom (s.heap.objs.size+1) scope.names []) (bindC (envOfC qual scope s.heap.objs.size f C).kindOf (ps.zip U) λ_=>none) s1) :
  Inv (z7 CX P w K mg base N qual scope f C A o s H E) [] (start N vs) H s1:=by
 have F:ps.length<=N.length:=by have:=jB List.length S.pre;rw[jU]at this;lia
 let(m,T,rfl,hk):=x.done;have Z:∀b:Ψ,b∉(z7 CX P w K mg base N qual scope f C A o s H E).ex:=λb z=>absurd (show b∈([]:Γ Ψ)from z) (by simp);refine⟨{g.mod,S.kind,rfl,rfl,yN _,λy z c m d=>?_,λy Y=>?_,λy c _ h=>?_,λ_=>D,Around.frames_deeper g.frames,.inr {rfl,rfl},λb z=>absurd z<|Z b,g.bs,g.ZL,λb _ _=>Z b,λb z=>absurd z<|Z b,g.VU,g.frf},
  rfl,g.bare,Un.kept hk,{_,x.toInCall.ns,λi y v m d G=>?_},λy c h=>{_,x.cell y c h},g.UX.fresh<|yN _,λy c h=>?_,λp j=>absurd (show p∈([]:Γ (Ψ×Obj))from j)<|by simp,g.UX.kept hk,?_⟩
 .exact name_of_addr x.apart (jY m)<|jY d
 .have Y:scope.names.lookup y=↑.cell\/scope.names.lookup y=↑.free:=Y;rcases Y with Y|Y
  .exact rF Y
  .exact absurd rfl (S.aaJ _<|jY Y)
 .exact jR<|x.above y c<|jY h
 .have I:i<vs.length:=by
   unfold start at d;by_cases I:i<vs.length
   .exact I
   .rw[yU<|by simpa using I]at d;rw[yY]at d;split at d<;>cases d
  have B:vs[i]?=↑v:=by
   unfold start at d;rw[yT<|by simpa using I,zO]at d;cases e:vs[i]? with
   |none=>rw[e]at d;cases d
   |some a=>rw[e]at d;cases d;rfl
  let(u,t,R):=r.get B;have j:ps[i]?=↑y:=by
   rw[<-S.pre,List.getElem?_take_of_lt<|by lia];exact m
  have l:ps.Nodup:=by rw[<-S.pre];exact S.nd.sublist<|List.take_sublist _ _
  refine{u,R,?_};rcases S.par y (qB j)with k|k
  .exact .inl {k,tV l j t k}
  .let(c,e):=rF (n:=s.heap.objs.size+1) k;refine .inr {.inl k,c,e,?_};have q:=x.cell y c e;rwa[uI l j t (by show scope.names.lookup y≠_;rw[k];decide)]at q
 .exact g.UX.fresh<|jR<|x.above y c<|jY h
 .unfold start;show _=N.length;rw[zN,zD,xM];lia
def Cf{K:Φ}{kV:Θ}
  {F:Array (Δ Θ)}{N ps:Γ Str}{sp:Sp}(lk:K.lookup f=↑{oc,od,.func<|W.fnOf name qual params body scope dV kV doc pm an U ct,F})(D:W.codeIn K U qual=true)(S:bO N ps scope)
  (l:∀vs H Q E,sp vs H Q E->vs.length=ps.length)
  (R:∀(A:ξ)(O:Γ Env)(s:Ξ)(H:Hp)(vs:Γ V)(Q:VK)(E:XK),cE k (A.deeper<|envOfC qual scope s.heap.objs.size f U)->sp vs H Q E ->
   ∃t,xv (z7 CX P w K mg base N qual scope f U A O s H E) body t/\t {nx:=λ_ H'=>Q .UQ H',rt:=Q} (start N vs) H) :
  dZ P w K mg base CX (k+1) f (W.fnOf name qual params body scope dV kV doc pm an U ct) ps sp:=by
 refine{l,λA O s H B us vs Q E i d M r p=>?_};have Y:=l _ _ _ _ p;have X:K.In s.heap:=d.mod.kin.keeps λb o e=>(d.bs b o e).1;have m:s.heap.NoLimit:=d.mod.nolimit.keeps λb o e=>(d.bs b o e).1;have g:∀y∈ps.zip us,scope.names.lookup y.1=↑.local \/ (scope.names.lookup y.1=↑.cell/\((cellsFrom (s.heap.objs.size+1) scope.names []).lookup y.1).isSome=true):=λz hy=>by
  let(n,v):=z
  rcases S.par n (vQ hy).1 with q|q
  .exact .inl q
  .exact .inr {q,W.cellsFrom_some _ _ _<|.inl q}
 refine codeAny_call_function i.depth (X _ _ lk) rfl S.co S.gen rfl (W.codeRec_of X D) (M _ _ _ _ ?_);refine wpAny_newFunctionEnv_cells S.kind g λG T C x=>?_;subst T;refine{m.keeps x.toInCall.keep,codeAny_func ?_};let(t,ht,Z):=R A O s H vs Q E (i.deeper _) p;have I:Inv (z7 CX P w K mg base N qual scope f U A O s H E) [] (start N vs) H C:=EL S i.hd d Y r x;refine xB (ht [] C (start N vs) H _ I Z) (λL z c=>?_) λe z c=>c;have fin:∀{a:St}{H':Hp}{v:V}{u:Θ},Inv (z7 CX P w K mg base N qual scope f U A O s H E) [] a H' z->RelV v u->Q v H'->CE O P w H s Q u z:=
  λ{a H' v u}J j q=>{v,H',J.os,J.bare,J.base,J.UX,j,q}
 cases L with
 |ret u =>
  let(v,a,H',J,j,q):=c;exact fin J j q
 |next =>
  let(a,H',J,q):=c;exact fin (v:=V.UQ) (u:=Value.none) J rfl q
 |brk =>
  let(_,_,_,q):=c;exact False.elim q
 |cont =>
  let(_,_,_,q):=c;exact False.elim q
section
variable {id T:String}
def QU(r:Γ V->Hp->VK->Prop)(t:TA):TE:=λb H Q=>t b H λv a=>r v a Q
def iL(hc:fQ X (.builtin id) r)(g:Gl X x)(m:X.mg x=none)(c:bootBuiltins x=↑(.builtin id))(A:PA X (e::es) t)(n:x≠"__name__":=by decide)(v:(x==("__debug__":Str))=false:=by decide)
  (E:starEach (e::es) X.env=(false,eval e X.env)::starEach es X.env:=by rfl)(w:(backTo pos<|starEach es X.env).any (·.1)=false:=by rfl):PE X (.Call (.Name x p) (e::es) [] pos) (QU r t):=by
 exactλP s a H Q I h=>qX<|gE I g m c (PyProof.Rows.callWith_builtin1 (b9 (A pos P s a H _ I h) λu S z=>by let(d,b,i,r1,q):=z;exact hc P S a b d u Q i r1 q) E w) n v
def uB(hc:fQ X (.type T) r)(g:Gl X x)(m:X.mg x=none)(c:bootBuiltins x=↑(.type T))(A:PA X (e::es) t)(n:x≠"__name__":=by decide)(v:(x==("__debug__":Str))=false:=by decide)
  (E:starEach (e::es) X.env=(false,eval e X.env)::starEach es X.env:=by rfl)(w:(backTo pos<|starEach es X.env).any (·.1)=false:=by rfl):PE X (.Call (.Name x p) (e::es) [] pos) (QU r t):=by
 exactλP s a H Q I h=>qX<|gE I g m c (qQ (b9 (A pos P s a H _ I h) λu S z=>by let(d,b,i,r1,q):=z;exact hc P S a b d u Q i r1 q) E w) n v
end
end L2
namespace HT
open PySem PyProof.Rows
def lexLt:Γ Int->Γ Int->θ
 |[],[]=>false
 |[],_::_=>true
 |_::_,[]=>false
 |x::s,y::Y=>if x=y then lexLt s Y else decide (x<y)
def cR(x y:Int)(xs ys:Γ Int):lexLt (x::xs) (y::ys)=if x=y then lexLt xs ys else decide (x<y):=rfl
section
open PySem.SeqAt
open PySem.AutoSeq1 (wpAny_loadPart')
open PySem.MeetsSeq PySem.MeetsSeq2 PySem.MeetsSeq3
end
def KU(ht:IsTup s.heap t vs.toArray)(B:IsTup s.heap b ws.toArray)(v:vs≠[])
  (f:ws=[]->Q (.ref t) s)(g:ws≠[]->Q (.ref s.heap.objs.size) {s with heap:=s.heap.push {cls:=.type "tuple",data:=.seq (vs++ws).toArray}})
  (hsz:vs.length+ws.length<=sizeLine):wpAny (model prog w) A (binaryOp .Add (.ref t)<|.ref b) Q E s:=by
 let((cls,c,d,l),o,hc,n,i):=ht;let((T,D,a,S),Z,Y,N,H):=B;subst hc i Y H;have e:vs.toArray++ws.toArray=(vs++ws).toArray:=by simp
 by_cases hw:ws=[]
 .exact wL {_,o,rfl} {_,Z,rfl} noFill_tuple_add seq_tuple_add vK vF (vD _ _)
   (tuple_addW1 t b vs.toArray ws.toArray n N c D l S (by simpa using v)<|by grind) {o,Z,f hw}
 .refine wL {_,o,rfl} {_,Z,rfl} noFill_tuple_add seq_tuple_add vK vF (vD _ _)
   (tuple_addW2 t b vs.toArray ws.toArray n N c D l S (by simpa using v) (by simpa using hw)<|by omega) {o,Z,?_}
  rw[e];exact g hw
def e8(n d:Nat):Δ Int->Nat
 |none=>d
 |some v=>if v<0 then(v+(n:Int)).toNat else min v.toNat n
def zi(n d:Nat):e8 n d none=d:=rfl
def C3(n d k:Nat):e8 n d (↑k)=min k n:=by
 rfl
def ND(n d:Nat)(H:d<=n)(o:Δ Int):e8 n d o<=n:=by
 cases o with
 |none=>exact H
 |some v =>
  show(if v<0 then(v+n).toNat else min v.toNat n)<=n
  grind
def Ct(v:Int)(n d:Nat):(if v<0 then max (v+n) 0 else min v n)=e8 n d (↑v):=by
 show(if v<0 then max _ 0 else min v n)=(if v<0 then(v+n).toNat else min v.toNat n)
 grind
def Bl(lo hi:Δ Int)(n:Nat):Builtin.Slice.sliceAdjust lo hi 1 n=((e8 n 0 lo:Int),(e8 n n hi:Int)):=by
 apply Prod.ext
 .cases lo with
  |none=>rfl
  |some v=>exact Ct v n 0
 .cases hi with
  |none=>rfl
  |some v=>exact Ct v n n
def BI(i j:Nat):Builtin.Slice.slicePlaces (i) j 1=j-i:=by
 unfold Builtin.Slice.slicePlaces;simp ;lia
def sN(p:IsPart v o)(h:Q o s):wpAny (model prog w) A (Builtin.Slice.slicePartIndex v) Q E s:=by
 cases p with
 |none=>exact slicePart_none h
 |int i t=>exact slicePart_int h
def iJ{vl:Θ}{lo hi:Δ Int}{n:Nat}{Q:Int×Int×Nat->Ξ->Prop}(hs:s.heap.IsSliceOf sl vl U .none)(pl:IsPart vl lo)(pu:IsPart U hi)
  (h:Q (e8 n 0 lo,1,e8 n n hi-e8 n 0 lo) s):wpAny (model prog w) A (Builtin.Slice.sliceApplied (.ref sl)<|pure n) Q E s:=by
 let(o,T,H,Y):=hs;refine zW<|zW<|qS T Y rfl (zW<|qS T Y rfl (zW<|qS T Y rfl (zX<|zW<|slicePart_none<|zW<|sN pl<|zW<|sN pu<|zW<|zX ?_)));show wpAny _ _ (match Builtin.Slice.sliceAdjust lo hi 1 (n)with|(lo,hi)=>pure (lo,(1:Int),Builtin.Slice.slicePlaces lo hi 1)) _ _ s;rw[Bl lo hi n];show wpAny _ _ (pure _) _ _ s;rw[BI];exact zX h
def HM(xs:Array Θ)(i k:Nat):((List.range k).filterMap λ(m:Nat)=>xs[((i:Int)+(m:Int)*1).toNat]?).toArray=((xs.toList.drop i).take k).toArray:=by
 have e:(λ(m:Nat)=>xs[((i:Int)+(m:Int)*1).toNat]?)=λm=>xs[i+m]?:=by
  funext m;have:((i:Int)+(m:Int)*1).toNat=i+m:=by lia
  rw[this]
 rw[e];have:=pick_run xs i k;rw[List.filterMap_map]at this;have E:((λx=>xs[x]?) ∘ λx=>i+x)=λm=>xs[i+m]?:=rfl;rw[E]at this;rw[this]
def nE{items:Array Θ}{vl:Θ}{lo:Δ Int}(ht:IsTup s.heap t items)(hs:s.heap.IsSliceOf sl vl U .none)(pl:IsPart vl lo)(pu:IsPart U hi)
  (hw:¬(e8 items.size 0 lo=0/\e8 items.size items.size hi=items.size))
  (h:Q (.ref s.heap.objs.size) {s with heap:=s.heap.push {cls:=.type "tuple",data:=.seq ((items.toList.drop<|e8 items.size 0 lo).take<|e8 items.size items.size hi-e8 items.size 0 lo).toArray}})
  (hsz:items.size<=sizeLine):wpAny (model prog w) A (getItem (.ref t)<|.ref sl) Q E s:=by
 have X:sizeOk (.seq ((items.toList.drop<|e8 items.size 0 lo).take<|e8 items.size items.size hi-e8 items.size 0 lo).toArray):=by
  show((items.toList.drop<|e8 items.size 0 lo).take<|e8 items.size items.size hi-e8 items.size 0 lo).toArray.size<=sizeLine;rw[zH,jU,qH,wC];lia
 have j:e8 items.size items.size hi<=items.size:=ND _ _ (yN _) hi;let(O,Y,S,G):=id hs;have H:s.TypeIs (.ref sl) "slice":={O,Y,S}
 unfold getItem
 try with_reducible refine xX ?_
 first|refine zW (zX ?_)|skip
 refine zW<|wpAny_sequenceKey ht.typeIs (by decide) ?_;refine zW (qC (name:=Str.ofString "__getitem__") ht.typeIs jE
  (qU jE ht.typeIs entry_tuple_getitem ?_<|args_tuple_getitem _ _))
 show wpAny _ _ (Builtin.Tuple.tupleItemsOf (.ref t) >>= _) _ _ s;refine zW<|tupleItemsOf_ ht ?_;refine zW<|wJ H ?_;rw[yM<|by decide];refine zW<|iJ hs pl pu ?_;have o:¬((((e8 items.size 0 lo:Nat):Int)==0&&(1:Int)==1&&(e8 items.size items.size hi-e8 items.size 0 lo)==items.size)=true):=by
  intro q;rw[zF,zF]at q;have a:((e8 items.size 0 lo:Nat):Int)=0:=eq_of_beq q.1.1;have q2:e8 items.size items.size hi-e8 items.size 0 lo=items.size:=eq_of_beq q.2;exact hw {by lia,by lia}
 show wpAny _ _ (if(((e8 items.size 0 lo:Nat):Int)==0&&(1:Int)==1&&(e8 items.size items.size hi-e8 items.size 0 lo)==items.size)=true then _ else _) _ _ s;rw[yO o,HM]
 first
  |exact zW (m:=Builtin.Tuple.tupleExact _) (qL (zX {_,rfl,zX h}) X)
  |exact zW (m:=Builtin.Tuple.tupleExact _) (qL (zW<|zX<|zX {_,rfl,zX h}) X)
  |exact zW (zW (m:=Builtin.Tuple.tupleExact _)<|qL (zX<|zX {_,rfl,zX h}) X)
  |exact zW<|zW (m:=Builtin.Tuple.tupleExact _)<|qL (zX {_,rfl,zX h}) X
end HT
namespace L2
open PySem PySem.Spec PyProof.Rows
abbrev TO:=St->Hp->(Δ Int->Hp->Prop)->Prop
def PO(X:Cx)(e:Δ γ)(t:TO):Prop:=
 ∀(p:Γ (Ψ×Obj))(s:Ξ)(a:St)(H:Hp)(Q:Δ Int->Hp->Prop),Inv X p a H s->t a H Q ->
  wpAny (model X.prog X.w) X.A (evalPart e X.env) (λu S=>∃o b,Inv X p a b S/\IsPart u o/\Q o b) X.xe s
def Lv:TO:=λ_ H Q=>Q none H
def Qb(t:TE):TO:=λb H Q=>t b H λx a=>∃i,x=.int i/\Q (↑i) a
def intsAre_of:∀{u:Γ Θ},aI (ns.map V.int) u->IntsAre u ns:=by
 induction ns with
 |nil=>intro u r;cases r;exact .nil
 |cons n ns i =>
  intro u r;cases r with
  |cons r1 R =>
   let(t,e):=r1;subst e;exact .cons n t<|i R
section
variable {lo hi:Δ γ}
def Ks:PO X none Lv:=by
 exactλp s a H Q I h=>zX {none,H,I,.none,h}
def Dr(h:PE X e te):PO X (↑e) (Qb te):=by
 refineλp s d H Q I hw=>b9 (h p s d H _ I hw) λu S z=>?_;let(x,a,b,r1,c):=z;let(i,rfl,q):=c;let(t,rfl):=r1;exact{↑i,a,b,.int i t,q}
def Ml(X:Cx)(r:V->Δ Int->Δ Int->Hp->VK->Prop):Prop:=
 ∀(p:Γ (Ψ×Obj))(s:Ξ)(a:St)(H:Hp)(x:V)(v vl u:Θ)(l i:Δ Int)(S:Ψ)(Q:VK),Inv X p a H s->RelV x v->s.heap.IsSliceOf S vl u .none->IsPart vl l->IsPart u i->r x l i H Q ->
  ∃T id,typeLookup (.type T) "__getitem__"=pure (↑(.builtin id))/\s.TypeIs v T/\wpAny (model X.prog X.w) X.A (getItem v<|.ref S) (EP X p a Q) X.xe s
def Ml.or(h:Ml X r)(h':Ml X U):Ml X (λx lo hi H Q=>r x lo hi H Q\/U x lo hi H Q):=by
 intro p s a H x v vl u lo hi L Q I R S l pu q;rcases q with q|q
 .exact h p s a H x v vl u lo hi L Q I R S l pu q
 .exact h' p s a H x v vl u lo hi L Q I R S l pu q
def UB(r:V->Δ Int->Δ Int->Hp->VK->Prop)(te:TE)(T t:TO):TE:=λa H Q=>te a H λx b=>T a b λl c=>t a c λu d=>r x l u d Q
def Hz(R:Ml X r)(E:PE X e te)(L:PO X lo tl)(U:PO X hi th):PE X (.Subscript e (.Slice lo hi none p2) pos) (UB r te tl th):=by
 refineλp s a H Q I h=>Subscript_<|b9 (E p s a H _ I h) λv S ⟨x,c,i,r1,q⟩=>(wpAny_Slice<|b9 (L p S a c _ i q) λvl m ⟨l,d,g,P,q2⟩=>b9 (U p m a d _ g q2) λo n z=>?_);let(u,f,j,pu,k):=z;apply zX;let(T,id,t,ht,G):=R p _ a f x v vl o l u n.heap.objs.size Q (j.kept λb ob=>zV _) r1 (.new ..) P pu k;exact tail_any ht t G (by rfl)
def Nh(xs:Γ V)(lo hi:Δ Int):Γ V:=(xs.drop<|HT.e8 xs.length 0 lo).take<|HT.e8 xs.length xs.length hi-HT.e8 xs.length 0 lo
def yr(xs:Γ V)(lo hi:Δ Int):(Nh xs lo hi).length<=xs.length:=by
 unfold Nh;rw[jU,qH];lia
def SU(K:Φ):V->Δ Int->Δ Int->Hp->VK->Prop:=λx l i H Q=>∃a s,x=.ref a/\fP K H a s /\
 ¬(HT.e8 s.length 0 l=0/\HT.e8 s.length s.length i=s.length)/\∀p,H p=none->Q (.ref p) (upd H p<|.tup<|Nh s l i)
def Nx:Ml X (SU X.K):=by
 intro p s e H x v vl u l i L Q I R c P pu h;let(a,S,rfl,d,hw,q):=h;cases R;let(U,r,ht,z):=I.tuple d;have n:U.toArray.size=S.length:=by exact r.length.symm
 refine{"tuple",_,PyProof.Rows.slot_tuple_getitem.lookup,ht.typeIs,(HT.nE ht c P pu (by grind) ?_ (by rw[n];exact z))};rw[n];refine{.ref s.heap.objs.size,_,I.laid (λb ob=>zV _) (yN _) ?_,rfl,q _<|I.UX.fresh<|yN _};exact{yE (yr S l i) z,_,(r.drop _).take _,.new _ _}
def Qd(K:Φ):R2:=λx y H Q=>∃a b X s,x=.ref a/\y=.ref b/\fP K H a X/\fP K H b s/\X≠[]/\X.length+s.length<=sizeLine /\
 (s=[]->Q (.ref a) H)/\(s≠[]->∀p,H p=none->Q (.ref p) (upd H p<|.tup<|X++s))
def aI.VZ(r:aI xs us):us=[]↔xs=[]:=by
 cases r with
 |nil=>simp
 |cons _ _=>simp
def Kg:iM X (binaryOp .Add) (Qd X.K):=by
 intro p s e H x y v u Q I R Y h;let(a,b,S,d,rfl,rfl,A,B,c,Z,q,q2):=h;cases R;cases Y;let(U,r1,P,_):=I.tuple A;let(O,r,p2,_):=I.tuple B;refine HT.KU P p2 (λz=>c<|r1.VZ.mp z) (λz=>{.ref a,H,I,rfl,q<|r.VZ.mp z}) (λz=>({.ref s.heap.objs.size,_,I.laid (λb ob=>zV _) (yN _) ?_,rfl,q2 (λw=>z<|r.VZ.mpr w) _<|I.UX.fresh<|yN _})) (by rw[<-r1.length,<-r.length];lia);exact{by rw[zN];exact Z,_,r1.append r,.new _ _}
end
def FD(n:Nat)(i:Int):Δ Nat:=if 0<=i then(if i<n then↑i.toNat else none)else if -(n:Int)<=i then↑(i+n).toNat else none
def tW(xs:Γ α)(i:Int):Δ α:=(FD xs.length i).bind λj=>xs[j]?
def CH(h:FD n i=↑j):seqIndex? i n=↑j/\j<n/\-(n:Int)<=i/\i<n:=by
 unfold FD at h;by_cases a:0<=i
 .rw[yM a]at h;by_cases H:i<n
  .rw[yM H]at h;have e:i.toNat=j:=xE h;exact{by rw[seqIndex_of a H,e],by lia,by lia,H}
  .rw[yO H]at h;cases h
 .rw[yO a]at h;by_cases H:-(n:Int)<=i
  .rw[yM H]at h;have e:(i+n).toNat=j:=xE h;exact{by rw[seqIndex_neg (by lia) H,e],by lia,H,by lia}
  .rw[yO H]at h;cases h
def uW(h:tW xs i=↑v):∃j,seqIndex? i xs.length=↑j/\xs[j]?=↑v/\j<xs.length/\-(xs.length:Int)<=i/\i<xs.length:=by
 unfold tW at h;cases e:FD xs.length i with
 |none=>rw[e]at h;cases h
 |some j =>
  rw[e]at h;let(H,a,b,c):=CH e;exact⟨j,H,h,a,b,c⟩
def wx{α:Type}{xs:Γ α}{j:Nat}{v:α}(h:xs[j]?=↑v):tW xs (j:Int)=↑v:=by
 have H:j<xs.length:=(List.getElem?_eq_some_iff.mp h).1;have e:FD xs.length (j:Int)=↑j:=by
  unfold FD;rw[yM<|by lia,yM<|by lia];simp
 unfold tW;rw[e];exact h
def lG(b:γ):Prop:=∀o i,subscripted b false o i=operate [o,i] (getItem o i)
def Je(X:Cx)(r:R2):Prop:=
 ∀(E e:γ)(p:Γ (Ψ×Obj))(s:Ξ)(a:St)(H:Hp)(x y:V)(v u:Θ)(Q:VK),Inv X p a H s->RelV x v->RelV y u->r x y H Q ->
  subscripted e false v u=operate [v,u] (getItem v u)->wpAny (model X.prog X.w) X.A (subscriptTail E e v u) (EP X p a Q) X.xe s
def Ti(X:Cx)(id:String)(r:V->Γ V->Hp->VK->Prop):Prop:=
 ∀(p:Γ (Ψ×Obj))(s:Ξ)(a:St)(H:Hp)(x:V)(S:Γ V)(v:Θ)(u:Γ Θ)(Q:VK),Inv X p a H s->RelV x v->aI S u->r x S H Q ->
  wpAny (model X.prog X.w) X.A (call (.builtin id) (v::u)) (EP X p a Q) X.xe s
section
def Je.or(h:Je X r)(h':Je X U):Je X (λx y H Q=>r x y H Q\/U x y H Q):=by
 intro E e p s a H x y v u Q I R Y q S;rcases q with q|q
 .exact h E e p s a H x y v u Q I R Y q S
 .exact h' E e p s a H x y v u Q I R Y q S
def CZ(R:Je X r)(A:PE X a ta)(B:PE X b tb)(hs:lG b):PE X (.Subscript a b pos) (M9 r ta tb):=by
 exactλp s e H Q I h=>Subscript_<|OC A B I h λv u S x y c i d Y q=>R a b p S e c x y v u Q i d Y q<|hs _ _
def QC(K:Φ):R2:=λx y H Q=>∃p s i v,x=.ref p/\y=.int i/\ik K H p s/\tW s i=↑v/\Q v H
def Pt(K:Φ):R2:=λx y H Q=>∃p s i v,x=.ref p/\y=.int i/\fP K H p s/\tW s i=↑v/\Q v H
def PD:R2:=λx y H Q=>∃z i c,x=.str z/\y=.int i/\z.length<=sizeLine/\tW z.cps.toList i=↑c/\Q (.str {#[c]}) H
def Kw:Je X (QC X.K):=by
 intro E e P s c H x y v u Q I n Y h S;let(p,B,i,z,rfl,rfl,m,k,q):=h;cases n;let(t,rfl):=Y;let(U,r,l,Z):=I.list m;let(j,a,d,A,f,g):=uW k;let(w,W,R):=r.get d;have L:=r.length;have N:=oO;have fin:EP X P c Q w s:={z,H,I,R,q}
 by_cases b:0<=i
 .have J:i.toNat=j:=by
   rw[seqIndex_of b g]at a;exact xE a
  exact item_listR l.isList b (by lia) (by rw[J];simpa using W) fin S
 .have J:(i+(U.toArray.size:Int)).toNat=j:=by
   rw[seqIndex_neg (by lia) f]at a;rw[zH,<-L];exact xE a
  exact subscriptTail_builtinR (x:=w) l.isList.typeIs slot_list_getitem.lookup
   (wpAny_getItem_list_neg (Q:=λr o=>r=w/\EP X P c Q r o) l.isList (by lia) (by rw[zH]<;>lia) (by lia) (by rw[J];simpa using W) {rfl,fin}) S
def sj:Je X (Pt X.K):=by
 intro E e P s a H x y v u Q I g Y h S;let(p,A,i,z,rfl,rfl,f,d,q):=h;cases g;let(t,rfl):=Y;let(U,r,l,Z):=I.tuple f;let(j,b,c,m,n,o):=uW d;let(w,W,R):=r.get c;have L:=r.length;have N:=oO;have fin:EP X P a Q w s:={z,H,I,R,q}
 exact subscriptTail_builtinR (x:=w) l.typeIs slot_tuple_getitem.lookup
  (getItem_tuple (j:=j) (Q:=λr k=>r=w/\EP X P a Q r k) l (by lia) (by lia) (by rw[zH,<-L];exact b) (by simpa using W) {rfl,fin}) S
def NO:Je X PD:=by
 intro E e p s m H x y v u Q I r R h S;let(z,i,c,rfl,rfl,Z,a,q):=h;let(t,rfl):=r;let(T,rfl):=R;let(j,b,d,f,g,k):=uW a;have l:z.cps.toList.length=z.length:=by rfl
 have n:=oO;exact tail_any (typeIs_str s z t) slot_str_getitem.lookup (getItem_str (by
  grind) (by grind) {.str _,H,I.tok _,{_,rfl},q}) S
def TH(K:Φ):R2:=λx y H Q=>QC K x y H Q\/Pt K x y H Q\/PD x y H Q
def BQ:Je X (TH X.K):=Kw.or<|sj.or NO
def Bg(U:Γ Θ)(n j:Nat)(u:Θ):Obj.mapSeq (·.setIfInBounds j u) {cls:=.type "list",data:=.seq U.toArray n}={cls:=.type "list",data:=.seq (U.set j u).toArray n}:=by
 simp[Obj.mapSeq]
def Inv.lst(I:Inv X pins σ H s)(h:H p=↑(.lst xs)) :
  ∃ (U:Γ Θ) (n:Nat),aI xs U/\s.heap.get? p=some {cls:=.type "list",data:=.seq U.toArray n}/\xs.length<=sizeLine:=by
 let(z,U,n,r,e):=I.UX p _ h;exact{U,n,r,e,z}
def Inv.aaL{ys:Γ V}{U its':Γ Θ}{n N:Nat}{f:Obj->Obj}(I:Inv X pins σ H s)(h:H p=↑(.lst xs))
  (o:s.heap.get? p=some {cls:=.type "list",data:=.seq U.toArray n})(F:f {cls:=.type "list",data:=.seq U.toArray n}={cls:=.type "list",data:=.seq its'.toArray N})(r:aI ys its')(z:ys.length<=sizeLine)(t:Nat) :
  Inv X pins σ (upd H p<|.lst ys) {s with heap:=s.heap.update p f,toks:=t}:=by
 have e:(s.heap.update p f).get? p=some {cls:=.type "list",data:=.seq its'.toArray N}:=by
  rw[Heap.get?_update_self f o (by rw[F]<;>rfl),F]
 refine I.write (x:=p) (e:=p) (by rw[h];trivial) (.inl rfl) (λb u B q=>(xN _ _<|jL B).trans q) {_,e} ?_;exact{z,its',N,r,e}
def PP:V->V->V->Hp->(Hp->Prop)->Prop:=λo i v H Q=>∃p x k j,o=.ref p/\i=.int k/\H p=↑(.lst x)/\FD x.length k=↑j/\Q (upd H p<|.lst<|x.set j v)
def set_list:Oc X PP:=by
 intro P s w H o i v B A u Q I g R m h;let(p,x,k,j,rfl,rfl,f,J,q):=h;cases g;let(t,rfl):=R;let(U,n,r,O,z):=I.lst f;let(a,y,d,e):=CH J;have l:=r.length;have N:=oO;have b:Inv X P w (upd H p<|.lst<|x.set j v) {s with heap:=s.heap.update p (Obj.mapSeq (·.setIfInBounds j u))}:=
  I.aaL f O (Bg U n j u) (r.set m j) (by rw[yD];exact z) s.toks
 by_cases c:0<=k
 .have hk:k.toNat=j:=by
   rw[seqIndex_of c e]at a;exact xE a
  exact W.ki_setAt O c (by lia) (by rw[zH,<-l];exact e) (by rw[hk];exact{_,b,q})
 .have hk:(k+(U.toArray.size:Int)).toNat=j:=by
   rw[seqIndex_neg (by lia) d]at a;rw[zH,<-l];exact xE a
  exact W.ki_setBack O (by lia) (by rw[zH,<-l];exact d) (by lia) (by rw[hk];exact{_,b,q})
def i6:fQ X (.builtin "len") (λxs H Q=>∃p ys,xs=[.ref p]/\(ik X.K H p ys\/fP X.K H p ys)/\Q (.int ys.length) H):=by
 intro P s b H xs S Q I r h;let(p,ys,rfl,a,q):=h;let(u,rfl,x):=vals1 r;cases x;have N:=oO;rcases a with a|a
 .let(U,R,l,z):=I.list a;have n:=R.length;exact Calls.call_len_list l.isList (by simp?[zH]<;>lia) {.int ys.length,H,I.tok _,{s.toks+1,by rw[zH,n]},q}
 .let(U,R,l,z):=I.tuple a;have n:=R.length;exact len_tuple l (by simp?[zH]<;>lia) {.int ys.length,H,I.tok _,{s.toks+1,by rw[zH,n]},q}
def tL:fQ X (.type "tuple") (λxs H Q=>∃p ys,xs=[.ref p]/\((ik X.K H p ys/\∀l,H l=none->Q (.ref l) (upd H l<|.tup ys))\/(fP X.K H p ys/\Q (.ref p) H))):=by
 intro P s d H xs S Q I r h;let(p,ys,rfl,h):=h;let(u,rfl,x):=vals1 r;cases x;rcases h with ⟨c,q⟩|⟨c,q⟩
 .let(U,R,L,z):=I.list c;have n:=R.length;refine call_tuple_list L.isList (λa k=>?_) (by grind);have i:Inv X P d H {s with heap:=a}:=I.kept k;exact{.ref a.objs.size,_,(i.laid (λb o=>zV _) (yN _) ({z,U,R,.new _ _}):Inv X P d (upd H a.objs.size<|.tup ys) _),rfl,q _<|i.UX.fresh<|yN _}
 .let(U,R,L,z):=I.tuple c;exact call_tuple_same L {.ref p,H,I,rfl,q}
def S7(K:Φ)(T:String)(x:V)(H:Hp):Prop:=match x with
 |.str _=>T="str"
 |.int _=>T="int"
 |.ref p=>(T="list"/\∃s,ik K H p s)\/(T="tuple"/\∃s,fP K H p s) \/
   (T="dict"/\((∃v,H p=↑(.dK v))\/∃e v,H p=↑(.dT e v)))\/(T="set"/\∃S n,H p=↑(.set S n))
 |_=>False
def GB(I:Inv X pins σ H s)(r:RelV x v)(y:S7 X.K T x H) :
  s.TypeIs v T/\∀a,v=.ref a->∃ob,s.heap.get? a=↑ob/\ob.dict=none:=by
 cases x with
 |str z =>
  let(t,rfl):=r;cases(show T="str"from y);exact{typeIs_str s z t,λ_ e=>nomatch e}
 |int i =>
  let(t,rfl):=r;cases(show T="int"from y);exact{typeIs_int s i t,λ_ e=>nomatch e}
 |ref p =>
  cases r;rcases y with ⟨rfl,k,q⟩|⟨rfl,k,q⟩|⟨rfl,hk⟩|⟨rfl,S,n,hk⟩
  .let(U,_,l,_):=I.list q;refine{l.isList.typeIs,λa e=>?_};cases e;let(o,n,e,c,d,_):=l;exact{o,e,d}
  .rcases q with q|⟨o,U,n,hk,hc,d,_⟩
   .let(_,_,_,(o,f,b,_),o2,g,j):=q.ok I.UX;exact{⟨o,f,b⟩,λa e=>by cases e;exact{o2,g,j}}
   .exact{{o,I.Wq p o hk,hc},λa e=>by cases e;exact{o,I.Wq _ o hk,d}}
  .have z:∃o,s.heap.get? p=↑o/\o.ExactDict:=by
    rcases hk with ⟨N,hk⟩|⟨P,N,hk⟩
    .let(_,_,_,_,o,_,_,e,E,_):=I.UX p _ hk;exact{o,e,E}
    .let(_,_,o,_,e,E,_):=I.UX p _ hk;exact{o,e,E}
   let(o,e,E):=z;refine{{o,e,E.1},λa b=>?_};cases b;exact{o,e,E.2.1}
  .let(o,_,_,_,e,E,_):=I.UX p _ hk;refine{{o,e,E.1},λa b=>?_};cases b;exact{o,e,E.2.1}
 |_=>exact False.elim y
def QQ(K:Φ)(T:String)(r:V->Γ V->Hp->VK->Prop)(t:TE):TE:=λb H Q=>t b H λx a=>S7 K T x a/\r x [] a Q
def Ts(K:Φ)(T:String)(r:V->Γ V->Hp->VK->Prop)(o:TE)(t:TA):TE:=λb H Q=>o b H λx a=>S7 K T x a/\t b a λs c=>r x s c Q
variable {T id:String}
def Nm(pa:PlainAttrs T)(t:Slot T name id)(y:typeOf (.builtin id)=pure (.type "method_descriptor"))(M:Ti X id r)(O:PE X o to)
  (m:attributeBase o name X.env (eval o X.env)=eval o X.env:=by rfl)(U:(apos.endLine==UU.line)=true:=by rfl):PE X (.Call (.Attribute o name apos) [] [] UU) (QQ X.K T r to):=by
 refineλp s a H Q I h=>wpAny_Call_method0_late m U<|b9 (O p s a H _ I h) λv S z=>?_;let(x,b,i,r1,Y,q):=z;let(c,d):=GB i r1 Y;exact{T,id,pa,t,y,c,d,Calls.callWith_builtin rfl (PySem.evalArgs_none<|M p S a b x [] v [] Q i r1 .nil q)}
def pS(pa:PlainAttrs T)(S:Slot T name id)(y:typeOf (.builtin id)=pure (.type "method_descriptor"))(M:Ti X id r)(O:PE X o to)(l:PA X (e::es) t)
  (m:attributeBase o name X.env (eval o X.env)=eval o X.env:=by rfl)
  (g:((backTo UU<|starEach (e::es) X.env).all (λx=>!x.1)&&(backToKw UU<|keywordEach [] X.env).all (λx=>x.1.isSome)
   &&decide ((e::es).length+([]:Γ Keyword).length+(if([]:Γ Keyword).isEmpty then 0 else 1)<30))=true:=by rfl)
  (U:(apos.endLine==UU.line)=true:=by rfl)(hs:starEach (e::es) X.env=(false,eval e X.env)::starEach es X.env:=by rfl)(a:(backTo UU<|starEach es X.env).any (·.1)=false:=by rfl) :
  PE X (.Call (.Attribute o name apos) (e::es) [] UU) (Ts X.K T r to t):=by
 intro p s b H Q I h;refine wpAny_Call_method_late m g U rfl (b9 (O p s b H _ I h) λv n ⟨x,c,i,r1,Y,q⟩=>?_);let(j,k):=GB i r1 Y;refine{T,id,pa,S,y,j,k,?_};have A:=l UU p n b c _ i q;rw[hs]at A ⊢;refine Calls.callWith_builtin (by show(false||(backTo UU<|starEach es X.env).any (·.1))=false;rw[a]<;>rfl)<|Calls.evalArgs_plain ?_;exact b9 A λw u ⟨z,d,f,R,q2⟩=>M p u b d x z v w Q f r1 R q2
/- xs.append(e),list.index on a abV tuple .. are Ti facts of 06m -/
end
def O5(X:Cx)(id:String)(r:V->Γ V->Hp->VK->Prop):Prop:=
 ∀(p:Γ (Ψ×Obj))(s:Ξ)(a:St)(H:Hp)(x:V)(S:Γ V)(v:Θ)(u:Γ Θ)(Q:VK),Inv X p a H s->RelV x v->aI S u->r x S H Q ->
  wpAny (model X.prog X.w) X.A (call (.builtin id) (v::u)) (EP X p a Q) X.xe s
def aI.one(h:aI [x] us):∃u,us=[u]/\RelV x u:=by
 cases h with|cons r t=>cases t;exact{_,rfl,r}
def aI.two(h:aI [x,y] us):∃u v,us=[u,v]/\RelV x u/\RelV y v:=by
 cases h with|cons r t=>let(v,rfl,q):=aI.one t;exact{_,_,rfl,r,q}
def aI.zero:∀{u:Γ Θ},aI [] u->u=[]
 |_,.nil=>rfl
def aI.dropLast(h:aI xs us):aI xs.dropLast us.dropLast:=by
 induction h with
 |nil=>exact .nil
 |cons r t i =>
  cases t with
  |nil=>exact .nil
  |cons q T=>exact .cons r i
def aI.reverse(h:aI xs us):aI xs.reverse us.reverse:=by
 induction h with
 |nil=>exact .nil
 |cons r t i=>rw[kZ,kZ];exact aI.append i<|.cons r .nil
def aI.rep(h:aI xs us):∀k ,aI (List.replicate k xs).flatten (List.replicate k us).flatten
 |0=>.nil
 |k+1=>by
  exact aI.append h<|.rep h k
def Be(l:Γ α):l.eraseIdx (l.length-1)=l.dropLast:=by
 simp
def foldl_rep(U:Γ Θ):∀(k:Nat)(acc:Γ Θ),
  List.foldl (λx x2=>x++x2) acc.toArray (List.replicate k U.toArray)=(acc++(List.replicate k U).flatten).toArray
 |0,acc=>by simp
 |k+1,acc=>by
  have e:acc.toArray++U.toArray=(acc++U).toArray:=by simp
  have E:(acc++U)++(List.replicate k U).flatten=acc++(List.replicate (k+1) U).flatten:=by
   rw[List.replicate_succ,List.flatten_cons,List.append_assoc]
  rw[<-E,<-foldl_rep U k<|acc++U,<-e,List.replicate_succ,yJ]
section
variable {xs ys zs:Γ V}
def Inv.ZP{U its':Γ Θ}{n:Nat}{f:Array Θ->Array Θ}{t':Nat}(I:Inv X pins σ H s)(a:H l=↑(.lst xs))
  (e:s.heap.get? l=some {cls:=.type "list",data:=.seq U.toArray n})(F:f U.toArray=its'.toArray)(v:aI ys its')(z:ys.length<=sizeLine) :
  Inv X pins σ (upd H l<|.lst ys) {s with heap:=s.heap.update l<|Obj.mapSeq f,toks:=t'}:=by
 have q:=PySem.IsL.update e f;rw[F]at q;apply I.write (by rw[a];exact trivial) (.inl rfl) (λB u b=>(xN s.heap _<|jL b).trans) {_,q};exact{z,its',_,v,q}
def Inv.aaN{t':Nat}(I:Inv X pins σ H s)(v:aI ys UR)(z:ys.length<=sizeLine) :
  Inv X pins σ (upd H s.heap.objs.size<|.lst ys) {s with heap:=s.heap.push {cls:=.type "list",data:=.seq UR.toArray},toks:=t'}:=
 I.laid (λ_ _=>zV _) (yN _) {z,UR,0,v,zY _ rfl}
def Inv.fresh(I:Inv X pins σ H s):H s.heap.objs.size=none:=I.UX.fresh<|yN _
def Inv.YU(I:Inv X pins σ H s)(a:H l=↑(.lst xs)):xs.length<=sizeLine/\∃ (U:Γ Θ) (n:Nat),aI xs U/\xs.length=U.length/\s.heap.get? l=some {cls:=.type "list",data:=.seq U.toArray n}:=by
 let(z,U,n,r,e):=I.UX l _ a;exact{z,U,n,r,r.length,e}
def Im(h:n<=sizeLine):Builtin.List.listTooLong n=false:=by
 unfold Builtin.List.listTooLong
 grind
end
def KQ:V->Γ V->Hp->VK->Prop:=λx v H Q=>∃l s y,x=.ref l/\v=[y]/\H l=↑(.lst s)/\s.length<sizeLine/\Q .UQ (upd H l<|.lst<|s++[y])
def lF:O5 X "list.append" KQ:=by
 intro p s g H x d v S Q I c b h;let(l,f,y,rfl,rfl,a,Z,q):=h;cases c;let(u,rfl,R):=b.one;let(z,U,n,r,L,e):=I.YU a;refine qV F.slot_list_append {_,e,rfl} F.entry_list_append (F.args_list_append_2 _ _) (PySem.list_append l U.toArray n u<|by grind) {e,({.UQ,_,I.ZP a e (by simp) (r.append<|.cons R .nil) ?_,rfl,q})}
 grind
def L0:V->Γ V->Hp->VK->Prop:=λx v H Q=>∃l b s zs,x=.ref l/\v=[.ref b]/\H l=↑(.lst s)/\H b=↑(.lst zs)/\s.length+zs.length<=sizeLine/\Q .UQ (upd H l<|.lst<|s++zs)
def EE:O5 X "list.extend" L0:=by
 intro p s o H x k v S Q I i g h;let(l,b,m,zs,rfl,rfl,c,B,j,q):=h;cases i;let(u,rfl,f):=g.one;cases f;let(z,U,n,r,L,e):=I.YU c;let(z2,O,N,R,d,E):=I.YU B;have Z:U.toArray.size+O.toArray.size<=sizeLine:=by rw[zH,zH];lia
 have a:¬(!U.toArray.isEmpty&&Builtin.List.listTooLong (U.toArray.size+O.toArray.size))=true:=by
  rw[Im Z,Bool.and_false];exact xA
 refine qV F.slot_list_extend {_,e,rfl} F.entry_list_extend (F.args_list_extend_2 _ _)
  (AutoSeq1.list_extend_list_list_0 l U.toArray n b O.toArray N a (by rw[zH];lia)<|by lia) {e,E,?_}
 refine{.UQ,_,I.ZP (its':=U++O) c e (by simp) (r.append R) ?_,rfl,q};rw[zN];lia
def SF:V->Γ V->Hp->VK->Prop:=λx v H Q=>∃l s y,x=.ref l/\v=[]/\H l=↑(.lst s)/\s[s.length-1]?=↑y/\Q y (upd H l<|.lst s.dropLast)
def NB:O5 X "list.pop" SF:=by
 intro p s k H x i v g Q I f d h;let(l,j,y,rfl,rfl,a,c,q):=h;cases f;have S:=d.zero;subst S;let(z,U,n,r,L,e):=I.YU a;let(u,b,R):=r.get c;have Y:U.toArray[U.toArray.size-1]?=↑u:=by
  show U.toArray[U.length-1]?=↑u;rw[<-Array.getElem?_toList,<-L];exact b
 refine qV F.slot_list_pop {_,e,rfl} F.entry_list_pop (F.args_list_pop_1 _) (MeetsSeq.list_pop_last l U.toArray n u Y (by rw[zH];lia)) {e,?_};refine{y,_,I.ZP (its':=U.dropLast) a e ?_ r.dropLast ?_,R,q}
 .show U.toArray.eraseIdxIfInBounds (U.toArray.size-1)=U.dropLast.toArray;rw[zH,List.eraseIdxIfInBounds_toArray,Be]
 .rw[List.length_dropLast];lia
def len_rep(xs:Γ α)(k:Nat):(List.replicate k xs).flatten.length=k*xs.length:=by
 simp
end L2
namespace Att
open PySem PySem.W PySem.Calls PyProof.Rows
variable {n:Nat}
def VW:∀ns vs,WellAll P h vs (ns.map WData.int)->IntsAre vs ns:=by
 intro ns
 induction ns with
 |nil =>
  intro vs w;cases w;exact .nil
 |cons n ns i =>
  intro vs w;cases w with
  |cons a b =>
   cases a;exact .cons _ _<|i _ b
def Yn{l:OpenLaw}(N:l.most=↑n){P:Params}{h:ι}{args:Γ WData}{v:Γ Θ}
  (Z:l.row.toRowW.claim.pre args=true)(L:WellAll P h v args) :
  ∃a vs ns,v=[Value.ref a]/\args=[WData.list<|ns.map WData.int]/\h.get? a=some {cls:=.type "list",data:=.seq vs.toArray}/\IntsAre vs ns/\ns.length<=n:=by
 have hc:l.pre.holds [] _=true:=(pre_splitW Z).2;let(d,r,rfl,c,e):=hasAllW_cons<|(pre_splitW Z).1;obtain rfl:=hasAllW_nil e;let(x,rfl,f):=hasW_list c;let(ns,rfl):=items_int f;have H:ns.length<=n:=by
  have b:(WTm.not<|.lt (.lit<|.int n)<|.len<|.arg 0).holds [] {args:=[.list<|ns.map .int]}=true:=by
   have b:=(holds_andW hc).1
   grind
  have g:=condW_of b<|w_not<|w_lt w_lit<|w_len_list<|w_arg rfl
  grind
 cases L with
 |cons w W =>
  cases W;cases w with
  |list o R=>exact{_,_,ns,rfl,rfl,o,VW ns _ R,H}
def Yp(l:OpenLaw)(args:Γ WData):l.row.toRowW.claim.post args (.bool true) args=true:=
 postW_of
  (by rfl)
  (w_eq_bool (w_res rfl) w_lit) rfl
def W8{l:OpenLaw}{q:ε}{e:Γ Str}{XP:(Str->Δ Θ)->ι->Prop}{YP:δ->ι->Prop}{d:DefRec}
  (N:l.most=↑n)(F:d.params.defaults=[])
  (C:∀w v U mg m fa o p D c a vs ns,
   Ground q e [] XP w v mg m U.heap->YP w U.heap ->
   U.heap.get? fa=↑o->o.data=.func (docDef d.name d.params d.body d.scope p D c)->U.heap.CodeRec D d.name->mg d.name=↑(.ref fa) ->
   U.heap.get? a=some {cls:=.type "list",data:=.seq vs.toArray}->IntsAre vs ns->ns.length<=n->U.gens=#[] ->
   codeAny (model l.prog w) callerA (.call (.ref fa) {[.ref a],[]}) (λr s'=>r=.ok (.ret<|.bool true)/\OldK U.heap s'.heap/\s'.os=U.os/\AllBare s'.gens) U) :
  WalkO q e XP YP l.row.toRowW d [] (λf vs=>PySem.call f vs):=by
 intro w v U mg m G Y fa o p D c i kV z u B b g x A S J Z E I L y;obtain rfl:i=.none:=Dflts.none b F;obtain rfl:kV=.none:=Dflts.noKw b;let(a,vs,ns,rfl,rfl,O,s,H):=Yn N Z L;refine enter_call<|jQ (C w v U mg m fa o p D c a vs ns G Y z (fd_plain u) B g O s H x) λr s' Q=>?_;let(rfl,j,k,t):=Q;exact{.inl {.bool true,.bool true,[],rfl,λ_=>rfl,.bool true,Yp l _,λ_=>{.nil,nofun}},j,k,t}
section
variable {K:Frag}
end
end Att
namespace L2
open PySem PySem.Spec PyProof.Rows
variable {B:Prop}
def tN:∀{vs:Γ Θ}{ns:Γ Int},IntsAre vs ns->aI (ns.map V.int) vs
 |_,_,.nil=>.nil
 |_,_,.cons n t h=>.cons {t,rfl}<|tN h
abbrev vi:JC:=λ_ _ _ _ _ _=>False
abbrev E0:XK:=λ_ _ _=>False
def nL:mC vi X E0:=λ_ _ _ _ _ _ _ h=>h.elim
structure CM(K:W.Frag)(x qual:Str)(st:Stmt)(f:Addr)(fd:FuncData):Prop where
 ex:∃ (oc:Θ) (od:Δ Ψ) (kV doc pm:Θ) (an:Δ Ψ) (Vu ct:Θ) (Xq:Array (Δ Θ)),
  fd=W.fnOf x qual (eh st) (ba st) (ax st) .none kV doc pm an Vu ct/\K.lookup f=↑{oc,od,.func fd,Xq}/\W.codeIn K Vu qual=true
 kp:W.keepIn K (.ref f)=true
section
variable {K:Φ}
def CM.binds{st:Ω}(F:CM K x qual st f fd)
  (h:∀kV d p a u c s,s.length=ps.length->bindArgs (W.fnOf x qual (eh st) (ba st) (ax st) .none kV d p a u c) {s,[]}=pure (ps.zip s)):Binds K fd ps []:=by
 let(o,od,kV,d,p,a,u,c,X,rfl,l,b):=F.ex;exact .all<|h kV d p a u c
def oZ{st:Ω}{kV:Θ}(l:K.lookup f=↑{oc,od,.func<|W.fnOf x qual (eh st) (ba st) (ax st) .none kV doc pm an U ct,Xq})
  (c:W.codeIn K U qual=true)(k:W.keepIn K (.ref f)=true):CM K x qual st f (W.fnOf x qual (eh st) (ba st) (ax st) .none kV doc pm an U ct):={{oc,od,kV,doc,pm,an,U,ct,Xq,rfl,l,c},k}
end
def rM{A B:Prop}(h:B):if false=true then A else B:=by
 rw[yO xA];exact h
def so{A B:Prop}(h:A):if true=true then A else B:=by
 rw[yM rfl];exact h
def aA(H H':Hp):Prop:=∀b o,H b=↑o->H' b=↑o
def aA.refl(H:Hp):aA H H:=λ_ _ h=>h
def aA.trans(a:aA H U)(b:aA U H2):aA H H2:=λc o h=>b c o<|a c o h
def aA.free(e:aA H H')(h:H' l=Option.none):H l=Option.none:=by
 cases q:H l with
 |none=>rfl
 |some o =>
  rw[e l o q]at h;lia
def aA.seq{K:Φ}(e:aA H H')(h:ik K H a xs):ik K H' a xs:=by
 rcases h with (h|⟨o,h⟩)|h
 .exact .inl<|.inl<|e _ _ h
 .exact .inl<|.inr {o,e _ _ h}
 .exact .inr h
def bV:∀s n acc,cellsFrom n s acc=cellsFrom n s []++acc
 |[],_,_=>rfl
 | (e,k)::r,n,acc=>by
  unfold cellsFrom;split
  .rw[bV r _ _,bV r _ [(e,n)]];simp
  .exact bV r n acc
def jz:∀{l m:Γ (Str×α)},(l++m).lookup x=↑c->l.lookup x=↑c\/(l.lookup x=none/\m.lookup x=↑c)
 |[],_,h=>.inr {rfl,h}
 | (k,v)::r,m,h=>by
  have i:=@jz α x c r m;rw[xF,yC]at h;rw[yC];cases e:x==k with
  |true=>rw[e]at h;exact .inl h
  |false=>rw[e]at h;exact i h
def qb:∀{l m:Γ (Str×α)},l.lookup x=↑c->(l++m).lookup x=↑c
 |[],_,h=>by grind
 | (k,v)::r,m,h=>by
  grind
def oQ:∀{l m:Γ (Str×α)},l.lookup x=none->(l++m).lookup x=m.lookup x
 |[],_,_=>rfl
 | (k,v)::r,m,h=>by
  grind
def gG:∀s n x c,(x,c)∈cellsFrom n s []->(x,NameKind.cell)∈s
 |[],_,_,_,h=>by cases h
 | (e,k)::r,n,x,c,h=>by
  unfold cellsFrom at h;split at h
  .rw[bV]at h;rcases List.mem_append.mp h with h|h
   .exact zC _<|gG r _ x c h
   grind
  .exact zC _<|gG r n x c h
def fX(env:Env):Γ (Str×NameKind)->Γ (Str×Ψ)->Γ (Str×Ψ)
 |[],a=>a
 | (n,k)::r,a=>if k==.free then fX env r ((n,(env.cells.lookup n).getD 0)::a)else fX env r a
def mf(env:Env):∀s acc,(∀x∈s,x.2=.free->∃c,env.cells.lookup x.1=↑c) ->
  (forIn s acc λ(p:Str×NameKind)cs=>if p.2==.free then(do let a <- cellOf env p.1;pure<|.yield ((p.1,a)::cs))else pure (.yield cs))=pure (fX env s acc)
 |[],acc,_=>rfl
 | (n,k)::r,acc,h=>by
  rw[List.forIn_cons];have H:=λx X=>h x<|zC _ X;unfold fX;by_cases hk:k=.free
  .let(c,hc):=h _ zE hk;subst hk;have e:cellOf env n=pure c:=by
    rw[cellOf,hc]
   have W:=hc;simp?[beq_self_eq_true,xH,e,pure_bind,W,qG];exact mf env r _ H
  .simp?[(show(k==NameKind.free)=false by grind),yP,qN,pure_bind];exact mf env r _ H
def mF{env:Env}(h:∀x∈scope.names,x.2=.free->∃c,env.cells.lookup x.1=↑c):closureFor scope env=pure (fX env scope.names []):=by
 have:=mf env scope.names [] h;exact(bind_pure _).trans this
def lx{env:Env}:∀{s:Γ _}{acc:Γ _},(∀x∈s,x.2=.free->∃c,env.cells.lookup x.1=↑c)->(∀x c,(x,c)∈acc->env.cells.lookup x=↑c) ->
  ∀x c,(x,c)∈fX env s acc->env.cells.lookup x=↑c
 |[],acc,_,a,x,c,m=>a x c m
 | (n,k)::r,acc,h,a,x,c,m=>by
  unfold fX at m;have H:=λx X=>h x<|zC _ X;split at m
  .let(C,hc):=h _ zE (show k=.free by grind);refine lx H (λy d Y=>?_) x c m
   grind
  .exact lx H a x c m
def gh{env:Env}:∀{s:Γ (Str×NameKind)}{acc:Γ (Str×Ψ)}{x:Str},(s.lookup x=↑.free\/∃c,acc.lookup x=↑c)->∃c,(fX env s acc).lookup x=↑c
 |[],acc,x,h=>by
  rcases h with h|h
  .cases h
  .exact h
 | (n,k)::r,acc,x,h=>by
  unfold fX;split
  .apply gh;rcases h with h|⟨c,h⟩
   .rw[yC]at h;cases e:x==n with
    |true=>exact .inr {_,by rw[yC,e]}
    |false=>rw[e]at h;exact .inl h
   .refine .inr ?_;rw[yC];cases e:x==n with
    |true=>exact{_,rfl}
    |false=>exact⟨c,h⟩
  .rename_i hk;apply gh;rcases h with h|h
   .rw[yC]at h;cases e:x==n with
    |true =>
     rw[e]at h;cases h;exact absurd rfl hk
    |false=>rw[e]at h;exact .inl h
   .exact .inr h
def nF{env:Env}:∀{s:Γ (Str×NameKind)}{x:Str}{k:NameKind},s.lookup x=↑k ->
  (s.map λ(n,k)=>if(k==NameKind.free&&env.scope.kind==.function&&env.kindOf n==some .cell)then(n,NameKind.cell)else(n,k)).lookup x=↑(if(k==NameKind.free&&env.scope.kind==.function&&env.kindOf x==some .cell)then NameKind.cell else k)
 |[],_,_,h=>by cases h
 | (n,k)::r,x,K,h=>by
  have i:=@nF env r x K;rw[zI];dsimp only;cases H:x==n with
  |true =>
   have e:x=n:=by simpa using H
   subst e;rw[yC,H]at h;cases h;split<;>simp[yC, *]
  |false =>
   rw[yC,H]at h;have i:=i h;split
   .rw[yC,H];exact i
   .rw[yC,H];exact i
def pU{env:Env}:∀{s:Γ (Str×NameKind)}{x:Str},s.lookup x=none ->
  (s.map λ(n,k)=>if(k==NameKind.free&&env.scope.kind==.function&&env.kindOf n==some .cell)then(n,NameKind.cell)else(n,k)).lookup x=none
 |[],_,h=>rfl
 | (n,k)::r,x,h=>by
  have i:=@pU env r x;rw[zI];dsimp only;cases H:x==n with
  |true=>rw[yC,H]at h;cases h
  |false =>
   rw[yC,H]at h;split
   .rw[yC,H];exact i h
   .rw[yC,H];exact i h
def fE(X:Cx)(scope:ζ)(C:Ψ):Env:=
 {scope:=relabel scope X.env,locals:=C,globals:=X.env.globals,cells:=cellsFrom (C+1) scope.names<|fX X.env scope.names [],qual:=X.env.qual,func:=none,code:=X.env.code,frame:=X.env.frame,builtins:=X.env.builtins}
def aL(X:Cx)(scope:ζ)(N:Γ Str)(fp:Γ Ψ)(s:Ξ)(H:Hp):Cx:=
 {X with N:=N,Ve:=s,UP:=H,env:=fE X scope s.heap.objs.size,outer:=X.stack,ex:=fp,fn:=λx=>decide (scope.names.lookup x=↑.cell),pn:=[],xe:=λ_ _=>False}
def Bv{M:Model}{A:ξ}{E:Θ->Ξ->Prop}{g:Ψ}{cl:Γ (Str×Ψ)}{q:Str}{env:Env}
  (H:∀h',h'.Ns s.heap.objs.size (λ_=>none)->(∀b o,s.heap.get? b=↑o->h'.get? b=↑o)->CellsOk h' (s.heap.objs.size+1) (cellsFrom (s.heap.objs.size+1) scope.names []) ->
   Q {scope:=scope,locals:=s.heap.objs.size,globals:=g,cells:=cellsFrom (s.heap.objs.size+1) scope.names cl,qual:=q,func:=none,code:=env.code,frame:=env.frame,builtins:=env.builtins} {s with heap:=h'}) :
  wpAny M A (newFunctionEnv scope g cl [] q none .none<|↑env) Q E s:=by
 refine zW<|wpAny_alloc<|zW<|wpAny_layCells _ (λn k c=>by rfl) _ _ _ _ ?_;have O:=cellsFrom_ok scope.names (s.heap.push {cls:=.type "dict",data:=.dict #[]}) (s.heap.objs.size+1) [] {nofun,.nil} (by simp);rw[xJ]at O;rw[xJ ..];exact zW<|zX<|zX<|H _ ((Heap.Ns.new s.heap _).keeps<|pushCells_keeps _ _) (λb o e=>pushCells_keeps _ _ b o<|zV _ e) O
section
variable {X:Cx}{pins:Γ (Ψ×Obj)}{σ σ':St}{H:Hp}{s:Ξ}{fp:Γ Ψ}{scope:ζ}{N:Γ Str}{h4:ι}
def k6(o:X.Ok)(I:∀x∈scope.names,x.2=.free->X.env.kindOf x.1=↑.cell\/X.env.kindOf x.1=↑.free):∀x∈scope.names,x.2=.free->∃c,X.env.cells.lookup x.1=↑c:=
 λx H hk=>o.has _<|I x H hk
def oU(h:scope.names.lookup x=↑k):(fE X scope C).kindOf x=↑k\/(k=.free/\(fE X scope C).kindOf x=↑.cell):=by
 have q:(fE X scope C).kindOf x=↑_:=(nF (env:=X.env) h)
 rw[q];split
 .rename_i hc;have:k=.free:=by
   simp  at hc
   grind
  exact .inr {this,rfl}
 simp
def lZ(h:(fE X scope C).kindOf x=↑k):scope.names.lookup x=↑k\/(k=.cell/\scope.names.lookup x=↑.free):=by
 cases e:scope.names.lookup x with
 |none =>
  have q:(fE X scope C).kindOf x=none:=pU (env:=X.env) e;rw[q]at h;cases h
 |some K =>
  rcases oU (X:=X) (C:=C) e with q|⟨q,Q⟩
  .rw[q]at h;cases h;exact .inl rfl
  .rw[Q]at h;cases h;subst q;exact .inr {rfl,rfl}
def F0(I:Inv X pins σ H s)(G:∀b∈fp,dc X pins H b)(Z:∀b∈fp,b<s.heap.objs.size)(hk:scope.kind=.function)
  (L:∀x∈scope.names,x.2=.free->X.env.kindOf x.1=↑.cell\/X.env.kindOf x.1=↑.free)
  (YH:h4.Ns s.heap.objs.size (λ_=>none))(A:∀b o,s.heap.get? b=↑o->h4.get? b=↑o)(Y:CellsOk h4 (s.heap.objs.size+1) (cellsFrom (s.heap.objs.size+1) scope.names []))
  (P:∀{x:Str},(x,NameKind.cell)∈scope.names->(x,NameKind.free)∈scope.names->False)(Q:∀(i:Nat)(x:Str)(v:V),N[i]?=↑x->σ'[i]?=↑(↑v)->scope.names.lookup x=↑.free/\∃j:Nat,X.N[j]?=↑x/\σ[j]?=↑(↑v))(r:σ'.length=N.length)(t':Nat) :
  Inv (aL X scope N fp s H) [] σ' H {s with heap:=h4,toks:=t'}:=by
 have Xw:=k6 I.ok L;have g:∀x c,(fX X.env scope.names []).lookup x=↑c->X.env.cells.lookup x=↑c:=λx c e=>lx Xw (λ_ _ z=>by cases z) x c<|mem_of_lookup e;have l:∀x c,(fE X scope s.heap.objs.size).cells.lookup x=↑c->(x,c)∈cellsFrom (s.heap.objs.size+1) scope.names []\/X.env.cells.lookup x=↑c:=λx c e=>by
  have e:(cellsFrom (s.heap.objs.size+1) scope.names<|fX X.env scope.names []).lookup x=↑c:=e;rw[bV]at e;rcases jz e with q|⟨_,q⟩
  .exact .inl<|mem_of_lookup q
  .exact .inr<|g x c q
 have O:∀x c,X.env.cells.lookup x=↑c->c<s.heap.objs.size:=λx c e=>let ⟨_,q⟩:=I.cell x c e;q.lt;have w:∀x c,(x,c)∈cellsFrom (s.heap.objs.size+1) scope.names []->s.heap.objs.size<c:=λx c e=>(Y.empty x c e).2;refine⟨{I.ok.mod,?_,I.ok.glob,I.ok.blt,yN _,?_,?_,?_,I.ok.hd,I.ok.frames,.inl rfl,?_,I.bs,yE I.ok.ZL I.sz,?_,?_,I.stack,I.WH},rfl,I.bare,Un.kept A,{_,YH,?_},?_,I.UX.fresh<|yN _,?_,
  λp hp=>absurd (show p∈([]:Γ (Ψ×Obj))from hp)<|by simp,I.UX.kept A,r⟩
 .show (relabel scope X.env).kind=_;exact hk
 .intro x y c E F;rcases l x c E with a|a<;>rcases l y c F with b|b
  .exact name_of_addr Y.apart a b
  .exact absurd (wM (w x c a)<|O y c b)<|qE _
  .exact absurd (wM (w y c b)<|O x c a)<|qE _
  .exact I.ok.inj x y c a b
 .intro x t;show ∃c,(cellsFrom (s.heap.objs.size+1) scope.names<|fX X.env scope.names []).lookup x=↑c;refine Option.isSome_iff_exists.mp<|W.cellsFrom_some _ _ _ ?_;rcases t with t|t
  .rcases lZ t with q|⟨_,q⟩
   .exact .inl q
   .exact .inr<|Option.isSome_iff_exists.mpr<|gh<|.inl q
  .rcases lZ t with q|⟨q,_⟩
   .exact .inr<|Option.isSome_iff_exists.mpr<|gh<|.inl q
   .cases q
 .intro x c f e;have f:scope.names.lookup x=↑.cell:=yR f;have e:(cellsFrom (s.heap.objs.size+1) scope.names<|fX X.env scope.names []).lookup x=↑c:=e;let(R,J):=rF (n:=s.heap.objs.size+1) f;rw[bV,qb J]at e;cases e;exact jR<|w x c<|mem_of_lookup J
 .intro b B;refine{yS<|Z b B,λx c e z=>?_};rcases l x c e with a|a
  .exact absurd (wM (w x c a) (by rw[z];exact Z b B))<|qE _
  .exact (G b B).2.2.2.2.1 x c a z
 .intro b o e B;let(f0,f1,f2,f3,f4,f5):=G b B;rcases f3 with z|z
  .exact I.ok.Ym b o e z
  .exact absurd (zP (zZ (I.ok.bs b o e).1) z)<|qE _
 .intro b B hz;let(f0,f1,f2,f3,f4,f5):=G b B;rcases List.mem_cons.mp (I.Xv b hz)with z|z
  .exact f1 z
  .exact f2 z
 .intro i x v E F e3;let(D,j,hj,hv):=Q i x v E F;have U:(x,NameKind.free)∈scope.names:=mem_of_lookup D;let(m,hn,hl):=I.loc;have kx:=L _ U rfl;let(u,ru,lk):=hl j x v hj hv<|kx.elim (λk=>.inr<|.inl k) λk=>.inr<|.inr k;refine{u,ru,.inr {?_,?_}}
  .rcases oU (X:=X) (C:=s.heap.objs.size) D with q|⟨_,q⟩
   .exact .inr q
   .exact .inl q
  .rcases lk with ⟨k,_⟩|⟨_,c,ec,ic⟩
   .have k:X.env.kindOf x=↑.local:=k;rcases kx with K|K<;>· rw[k]at K;cases K
   .let(R,J):=gh (env:=X.env) (acc:=[])<|.inl D;have S:=g x R J;rw[ec]at S;cases S;refine{c,?_,ic.keeps A};show(cellsFrom (s.heap.objs.size+1) scope.names<|fX X.env scope.names []).lookup x=↑c;rw[bV];cases T:(cellsFrom (s.heap.objs.size+1) scope.names []).lookup x with
    |none=>rw[oQ T];exact J
    |some d =>
     have M:=gG _ _ _ _<|mem_of_lookup T;exact(P M U).elim
 .intro x c e;rcases l x c e with a|a
  .exact{_,(Y.empty x c a).1}
  .let(v,q):=I.cell x c a;exact{v,q.keeps A}
 .intro x c e;rcases l x c e with a|a
  .exact I.UX.fresh<|jR<|w x c a
  .exact I.Vo x c a
end
abbrev zr(ifs:Γ γ)(env:Env):Sem θ:=forIn ifs true λc r=>if r=true then do let o <- isTrue c env<|eval c env;pure (ForInStep.yield o)else pure (ForInStep.yield r)
def Pm(X:Cx)(ifs:Γ γ)(t:TT):Prop:=
 ∀(p:Γ (Ψ×Obj))(s:Ξ)(a:St)(H:Hp)(Q:θ->Hp->Prop),Inv X p a H s->t a H Q->wpAny (model X.prog X.w) X.A (zr ifs X.env) (TP X p a Q) X.xe s
def Kl:Pm X [] (λ_ H Q=>Q true H):=λ_ _ _ H _ I h=>wpAny_tests_nil {H,I,h}
def Jz(h:PT X c t):Pm X [c] t:=λp s a H Q I q=>wpAny_tests_one<|h p s a H Q I q
def vd{R:Result->Ξ->Prop}{elt t iter:γ}{ifs:Γ γ}{scope:ζ}{pos:Pos}{acc:Θ}{env:Env}(I:Nat->Ξ->Prop)
  (turn:∀n s,I n s->wpAny (model prog w) A (pyNext it) (λr U=>match r with
   |none=>R (.ok .next) U
   |some v=>wpAny (model prog w) A (letOwnedTupleGo t it v) (λ_ o=>wpAny (model prog w) A (assign t env v) (λ_ N =>
     wpAny (model prog w) A (zr ifs env) (λk Y =>
      if k=true then wpAny (model prog w) A (eval elt env) (λx T =>
       wpAny (model prog w) A (call (.builtin "list.append") [acc,x]) (λ_ Z=>∃m,m<n/\I m Z) (λ_ _=>False) T) (λ_ _=>False) Y
      else ∃m,m<n/\I m Y) (λ_ _=>False) N) (λ_ _=>False) o) (λ_ _=>False) U) (λ_ _=>False) s)
  (n:Nat)(h:I n s) :
  codeAny (model prog w) A (.compLoop (.ListComp elt [{t,iter,ifs,0}] scope pos) 0 it acc env) R s:=by
 refine codeAny_loop rfl I (λn s i=>?_) n h;apply wpAny_noted;rw[compTurn_list];refine zW<|vC<|zW<|xB (turn n s i) (λr U a=>?_) λ_ _ H=>H.elim;cases r with
 |none=>exact zX a
 |some v =>
  refine zW<|xB a (λ_ o c=>(zW<|xB c (λ_ N z=>zW<|xB z (λk Y b=>?_) λ_ _ H=>H.elim) λ_ _ H=>H.elim)) λ_ _ H=>H.elim;cases k with
  |false=>exact zX {rfl,b}
  |true =>
   exact zW<|zW<|xB b (λx T d=>zW<|xB d (λ_ Z e=>zX<|zX ⟨rfl,e⟩) λ_ _ H=>H.elim) λ_ _ H=>H.elim
def DZ(X:Cx)(pins:Γ (Ψ×Obj))(σ:St)(Q:VK)(acc:Θ)(C:Ψ)(r:Result)(s5:Ξ):Prop:=
 ∃ (D:Ψ) (H:Hp) (m:Str->Δ Θ),acc=.ref D/\r=.ok .next/\Inv X pins σ H s5/\s5.heap.Ns C m/\dc X pins H C/\Q (.ref D) H
def AQ(J:It)(g:TG)(tt:TT)(te:TE)(D:Ψ)(a:St)(j:Hp)(Q:VK):Prop:=
 ∃W:Nat->Nat->St->Hp->Prop,(∃m,W 0 m a j)/\∀i m f H,W i m f H ->
  (J.stop i H/\Q (.ref D) H)\/(J.go i H/\∀x c,J.ZC i H x c->g x f c λw k=>tt w k λb d =>
   if b=true then te w d λv e=>∃y,e D=↑(.lst y)/\y.length<sizeLine/\∃M,M<m/\W (i+1) M w (upd e D<|.lst<|y++[v])
   else ∃M,M<m/\W (i+1) M w d)
section
variable {X:Cx}{pins:Γ (Ψ×Obj)}{σ σ':St}{H:Hp}{s:Ξ}{scope:ζ}{N:Γ Str}
 {tg iter elt:γ}{ifs:Γ γ}{pos:Pos}{g:TG}{tt:TT}{te:TE}
def tQ(hc:X.calm=true)(I:Inv X pins σ H s)(T:Turn X.prog X.w X.K tg J fp it tn)(st:tn 0 s.heap)(hf:∀b∈fp,dc X pins H b)(hk:scope.kind=.function)
  (VI:∀x∈scope.names,x.2=.free->X.env.kindOf x.1=↑.cell\/X.env.kindOf x.1=↑.free)(aaP:∀{x:Str},(x,NameKind.cell)∈scope.names->(x,NameKind.free)∈scope.names->False)
  (aaQ:∀(i:Nat)(x:Str)(v:V),N[i]?=↑x->σ'[i]?=↑(↑v)->scope.names.lookup x=↑.free/\∃j:Nat,X.N[j]?=↑x/\σ[j]?=↑(↑v))(hlen:σ'.length=N.length)
  (hY:∀fp s H,PG (aL X scope N fp s H) tg g/\Pm (aL X scope N fp s H) ifs tt/\PE (aL X scope N fp s H) elt te)
  (hrd:∀D,H D=none->AQ J g tt te D σ' (upd H D<|.lst []) Q){E:Θ->Ξ->Prop} :
  wpAny (model X.prog X.w) X.A (newList []) (λacc YV=>wpAny (model X.prog X.w) X.A (newFunctionEnv scope X.env.globals (fX X.env scope.names []) [] X.env.qual none .none<|↑X.env) (λYW ZT =>
   codeAny (model X.prog X.w) X.A (.compStart (.ListComp elt [{tg,iter,ifs,0}] scope pos) 0 (.ref it) acc {YW with scope:=relabel scope X.env}) (DZ X pins σ Q acc YW.locals) ZT) E YV) E s:=by
 refine qL ?_;have ZR:=λb B=>let ⟨o,e,_⟩:=T.obj _ _ st b B;zZ e;have Y:=I.aaN (t':=s.toks) .nil<|xV _;let(W,(m0,w0),turn):=hrd _ I.fresh;generalize e3:{s with heap:=s.heap.push _,toks:=s.toks}=S at Y;have e3h:S.heap=s.heap.push {cls:=.type "list",data:=.seq [].toArray}:=by rw[<-e3]
 generalize hH3:upd H s.heap.objs.size _=L at Y w0 turn;have Vc:s.heap.objs.size<S.heap.objs.size:=by simp_all
 generalize s.heap.objs.size=D at *;have f3:∀b∈fp,dc X pins L b:=λb B=>by
  let(f0,f):=hf b B;refine{?_,f};rw[<-hH3,ai<|yS<|ZR b B];lia
 have YN:=T.keep _ _ _ st λb _ o=>(λb o e=>by rw[e3h];exact zV _ e:∀b o,s.heap.get? b=↑o->S.heap.get? b=↑o) b o;refine Bv λh4 YH F YI=>?_;have I4:=F0 Y f3 (λb B=>wM (ZR b B) Vc) hk VI YH F YI aaP aaQ hlen S.toks;let(hg,htt,hte):=hY fp S L;have P:∀b∈fp,∀a ,a b=none->dc _ [] a b:=λb B a hn=>by
  refine{hn,(I4.ok.exf b B).1,I4.ok.YK b B,.inl B,(I4.ok.exf b B).2,λp hp=>?_};cases hp
 have loop:codeAny (model X.prog X.w) X.A (.compLoop (.ListComp elt [{tg,iter,ifs,0}] scope pos) 0 (.ref it) (.ref D)<|fE X scope S.heap.objs.size) (DZ X pins σ Q (.ref D) S.heap.objs.size) {S with heap:=h4}:=by
  refine vd (λn s'=>∃i σ' a,Inv _ [] σ' a s'/\tn i s'.heap/\(∀b∈fp,a b=none)/\W i n σ' a) ?_ m0
   {0,σ',L,I4,T.keep _ _ _ YN λb _ o=>F b o,λb B=>(f3 b B).1,w0}
  rintro n s5 ⟨i,k,C,I5,st5,Z,w5⟩;rcases turn i n k C w5 with ⟨stop,q⟩|⟨go,step⟩
  .refine b9 (T.done (aL X scope N fp S L) rfl rfl rfl hc i [] s5 k C _ I5 (λb B=>P b B C<|Z b B) st5 stop) λr s6 z=>?_;let(hr,O):=z;subst hr;let(m,hn6,_):=O.loc;refine{D,C,m,rfl,rfl,Y.aal O.os O.base O.UX O.bare λb B=>?_,hn6,(λa hn=>Y.VV (yN _) hn:∀a,a S.heap.objs.size=none->dc X pins a S.heap.objs.size) C O.free,q};let(f0,f1,f2,f4,f5,f6):=f3 b B;exact{f4,f1,f5,f6}
  .refine b9 (T.item (aL X scope N fp S L) rfl rfl rfl hc i [] s5 k C _ I5 (λb B=>P b B C<|Z b B) st5 go) λr s6 z=>?_;let(u,hr,h6):=z;subst hr;refine b9 h6 λ_ s7 z=>?_;let(x,H7,I7,r7,y7,G,fr7):=z;have c:∀{pl:Γ (Ψ×Obj)}{t:St}{M:Hp}{U:Ξ}{n':Nat},Inv (aL X scope N fp S L) _ t M U->W _ n' t M->∃i σ' a,Inv _ [] σ' a U/\tn i U.heap/\(∀b∈fp,a b=none)/\W i n' σ' a:=λ{pl t M U n'}R w9=>by
    refine{i+1,t,M,R.Vp,T.keep _ _ _ G λb B o e=>(R.pin _<|yF _<|yF _<|eQ B e).1,λb B=>?_,w9};let(o,e,d):=T.obj _ _ G b B;exact(R.pin _<|yF _<|yF _<|eQ B e).2.1
   refine b9 (hg _ s7 k H7 x u _ (I7.pinned (λb B=>P b B H7<|fr7 b B)<|T.obj _ _ G) r7<|step x H7 y7) λ_ s8 z=>?_;let(l,H8,I8,q8):=z;refine b9 (htt _ s8 l H8 _ I8 q8) λok U z=>?_;let(M,R,q9):=z;cases ok with
   |false =>
    let(m',hm,w9):=q9;exact{m',hm,c (pl:=[]) R w9}
   |true =>
    refine b9 (hte _ U l M _ R q9) λy s10 z=>?_;let(v,H10,I10,r10,ys,ad7,hz,m',hm,w10):=z;refine b9 (lF _ s10 l H10 (.ref D) _ _ _ (λ_=>W _ m' l) I10 rfl (.cons r10 .nil) {D,ys,v,rfl,rfl,ad7,hz,w10}) λ_ s11 z=>?_;let(_,H11,I11,_,w11):=z;exact{m',hm,c (pl:=[]) I11 w11}
 exact codeAny_compStart_list loop<|T.self _ 0 _ _ _ (T.keep _ _ _ YN λb _ o=>F b o) loop
end
def I0(wi:TI)(g:TG)(tt:TT)(te:TE)(VC:St->St):TE:=λb H Q=>wi b H λJ a=>∀D,a D=none->AQ J g tt te D (VC b) (upd a D<|.lst []) Q
structure g9(X:Cx)(scope:Scope)(N:List Str)(VC:St->St):Prop where
 kind:scope.kind=.function
 free:∀x∈scope.names,x.2=.free->X.env.kindOf x.1=↑.cell\/X.env.kindOf x.1=↑.free
 dup:∀{x:Str},(x,NameKind.cell)∈scope.names->(x,NameKind.free)∈scope.names->False
 loc:∀x∈scope.names,x.2=.local -> scope.names.lookup x.1=↑.local
 cap:∀(σ:St)(i:Nat)(x:Str)(v:V),N[i]?=↑x->(VC σ)[i]?=↑(↑v)->scope.names.lookup x=↑.free/\∃j:Nat,X.N[j]?=↑x/\σ[j]?=↑(↑v)
 len:∀σ:St,(VC σ).length=N.length
section
variable {X:Cx}{scope:ζ}{N:Γ Str}{VC:St->St}{tg iter elt:γ}{ifs:Γ γ}{pos:Pos}{wi:TI}{g:TG}{tt:TT}{te:TE}
def C9(hc:X.calm=true)(S:g9 X scope N VC)(hi:PI X tg iter wi)
  (Y:∀fp s H,PG (aL X scope N fp s H) tg g/\Pm (aL X scope N fp s H) ifs tt/\PE (aL X scope N fp s H) elt te)
  (hs:∀x,foldedSetIterable iter X.env x=pure x:=by intro _;rfl):PE X (.ListComp elt [{tg,iter,ifs,0}] scope pos) (I0 wi g tt te VC):=by
 refineλp s a H Q I h=>wpAny_comprehension_free rfl hs (mF<|k6 I.ok S.free) S.kind S.loc (b9 (hi p s a H _ I h) λv G j=>b9 j λw K k=>?_);let(it,fp,P,J,z,e,i,T,W,f2,R):=k;subst e;refine b9 (tQ hc i T W f2 S.kind S.free S.dup (S.cap a) (S.len a) Y R) λA L l=>b9 l λC M n=>(jQ n λr O t=>?_)
 let(D,c,m,rfl,rfl,d,u,fC,q):=t;refine{m,u,λE y=>?_};let(f,f1,F,f3,f4,f5):=fC;exact{.ref D,c,d.turned (λb o B=>(y.2 b B).trans) f f1 f3 f4 f5,rfl,q}
def J0(hc:X.calm=true)(S:g9 X scope N VC)(hi:PI X tg iter wi)
  (Z:∀fp s H,PG (aL X scope N fp s H) tg g/\Pm (aL X scope N fp s H) ifs tt/\PE (aL X scope N fp s H) elt te)
  (R:X.N.Nodup)(Y:X.N[i]?=↑y)(f:X.env.scope.names.lookup y=↑.local)
  (W:swapsWith (.ListComp elt [{tg,iter,ifs,0}] scope pos) (↑(.Name y py)) Va.line X.env=pure true)
  (hs:∀x,foldedSetIterable iter X.env x=pure x:=by intro _;rfl):PS X (.Assign [.Name y py] (.ListComp elt [{tg,iter,ifs,0}] scope pos) Va) (Gn (I0 wi g tt te VC)<|yk i):=by
 intro p s c H D I h;rw[exec_Assign_Name_used _ _ _ _ W];refine zW<|vC<|zW ?_;show wpAny _ X.A (do let _ <- comprehension (.ListComp elt [{tg,iter,ifs,0}] scope pos) scope X.env _ (newList []) false (eval iter X.env)<|↑(assign (.Name y py) X.env)) _ _ s;refine zW (xB (wpAny_comprehension_free (use:=↑(assign (.Name y py) X.env)) (Q:=λ_ j=>SP X p D .next j) rfl hs (mF<|k6 I.ok S.free) S.kind S.loc
  (b9 (hi p s c H _ I h) λv s1 G=>b9 G λitv s2 L=>?_)) (λ_ j hq=>zX<|zX hq) λ_ _ e=>e)
 let(it,fp,tn,J,H2,e,l,T,K,f2,rd):=L;subst e;refine b9 (tQ (iter:=iter) (pos:=pos) (E:=X.xe) hc l T K f2 S.kind S.free S.dup (S.cap c) (S.len c) Z rd) λC s3 M=>b9 M λu s4 O=>?_;refine jQ O λr s5 P=>?_;let(d,k,m,rfl,rfl,n,hn,fC,q):=P;show wpAny _ X.A (assign (.Name y py) X.env<|.ref d) _ _ _;refine wpAny_assign_Name<|uy (v:=.ref d) n R Y (.inl f) rfl (λs6 t z=>?_) (.inr f);let(a,sa,ha):=z;let(F,f1,B,f3,f4,f5):=fC;have U:u.locals≠a:=by
  rcases ha with z|z
  .rw[z];exact f1
  .exactλw=>f4 y a z w.symm
 refine{m,hn.sameBut sa U,λh' sb=>?_};exact{_,k,t.turned (t':=s6.toks) (λb o hb e=>(sb.2 b hb).trans e) F f1 f3 f4 f5,q}
end
abbrev Sf(X:Cx)(q:Str)(scope:ζ)(f c L:Ψ):Env:=W.envX q scope L f (.ref c)<|fX X.env scope.names []
def pW(X:Cx)(A:ξ)(q:Str)(scope:ζ)(N:Γ Str)(f c:Ψ)(s:Ξ)(H:Hp):Cx where
 prog:=X.prog
 w:=X.w
 K:=X.K
 mg:=X.mg
 base:=X.base
 A:=A.deeper<|Sf X q scope f c s.heap.objs.size
 N:=N
 Ve:=s
 UP:=H
 env:=Sf X q scope f c s.heap.objs.size
 outer:=X.stack
 stack:=Sf X q scope f c s.heap.objs.size::X.stack
 ex:=[]
 fn:=λ_=>false
 calm:=true
 pn:=[]
 xe:=λ_ _=>False
def KI(I:Inv X pins σ H s)(T:A.handled=none)(Q:A.frames=↑X.stack)(S:g9 X scope N VC)(B:∀x∈scope.names,x.2≠.cell)(g:N[0]?=↑p)(hp:scope.names.lookup p=↑.local)(R:N.Nodup)(r:RelV v u)
  (M:U.Ns s.heap.objs.size (λx=>[(p,u)].reverse.lookup x))(J:∀b o,s.heap.get? b=↑o->U.get? b=↑o)(t':Nat) :
  Inv (pW X A qual scope N f c s H) [] ((VC σ).set 0<|↑v) H {s with heap:=U,toks:=t'}:=by
 have G:=k6 I.ok S.free;have C:∀x c,(fX X.env scope.names []).lookup x=↑c->X.env.cells.lookup x=↑c:=λx c e=>lx G (λ_ _ z=>by cases z) x c<|mem_of_lookup e;have Z:∀b:Ψ,b∉(pW X A qual scope N f c s H).ex:=λb z=>absurd (show b∈([]:Γ Ψ)from z) (by simp);refine⟨{I.ok.mod,S.kind,rfl,rfl,yN _,λx y d E a=>I.ok.inj x y d (C x d E)<|C y d a,λx l=>?_,λx d z=>?_,λ_=>T,Around.frames_deeper Q,.inr {rfl,rfl},λb z=>absurd z<|Z b,I.bs,yE I.ok.ZL I.sz,λb _ _=>Z b,λb z=>absurd z<|Z b,I.stack,I.WH},
  rfl,I.bare,Un.kept J,{_,M,λi x w E a e3=>?_},λx d e=>?_,I.UX.fresh<|yN _,λx d e=>I.Vo x d<|C x d e,λq hq=>absurd (show q∈([]:Γ (Ψ×Obj))from hq)<|by simp,I.UX.kept J,?_⟩
 .rcases l with l|l
  .exact absurd rfl (B _<|mem_of_lookup (show scope.names.lookup x=↑.cell from l))
  .exact gh<|.inl l
 .cases z
 .cases i with
  |zero =>
   have E:N[0]?=↑x:=E;rw[g]at E;cases E;have L:0<(VC σ).length:=by rw[S.len];exact(List.getElem?_eq_some_iff.mp g).1
   rw[vM L]at a;cases a;exact{u,r,.inl {hp,by simp}}
  |succ i =>
   have t:(VC σ)[i+1]?=↑(↑w):=by
    rwa[kP<|by lia]at a
   let(Y,j,hj,hv):=S.cap σ (i+1) x w E t;have hm:(x,NameKind.free)∈scope.names:=mem_of_lookup Y;let(m,hn,L):=I.loc;have F:=S.free _ hm rfl;let(u',ru,lk):=L j x w hj hv<|F.elim (λk=>.inr<|.inl k) λk=>.inr<|.inr k;refine{u',ru,.inr {.inr Y,?_}};rcases lk with ⟨k,_⟩|⟨_,O,P,ic⟩
   .have k:X.env.kindOf x=↑.local:=k;rcases F with K|K<;>· rw[k]at K;cases K
   .let(n,W):=gh (env:=X.env) (acc:=[])<|.inl Y;have D:=C x n W;rw[P]at D;cases D;exact{O,W,ic.keeps J}
 .let(w,q):=I.cell x d<|C x d e;exact{w,q.keeps J}
 .rw[yD];exact S.len σ
def IK(I:Inv X pins σ H s)(R:cE (k+1) A)(l:A.frames=↑X.stack)(S:g9 X scope N VC)(C:∀x∈scope.names,x.2≠.cell)
  (d:N[0]?=↑p)(P:scope.names.lookup p=↑.local)(D:N.Nodup)(j:scope.isCoroutine=false)(a:scope.isGenerator=false)
  (F:s.heap.get? f=↑(W.kla_obj name qual params body scope (fX X.env scope.names []) pm c U))(T:H c=↑(.Yl qual))(n:bindArgs (W.kla_fn name qual params body scope (fX X.env scope.names []) pm (.ref c) U) {[u],[]}=pure [(p,u)])
  (r:RelV v u)(m:PE (pW X A qual scope N f c s H) body te)(q:te ((VC σ).set 0<|↑v) H Q) :
  wpAny (model X.prog X.w) A (call (.ref f) [u]) (EP X pins σ Q) (λ_ _=>False) s:=by
 refine vH<|W.kla_callFunE R.depth F rfl j a rfl (I.UX c _ T) ?_;rw[n];refine zX<|wpAny_newFunctionEnv C (λy t=>?_) (λK Y B=>{(I.nolimit.fresh _ B),(W.kla_codeExpr<|xB (m [] _ _ H Q (KI I R.hd l S C d P D r Y (λb o e=>B.extBut b o (yS<|zZ e)<|zV _ e) _) q) (λw G ⟨J,g,i,E,z⟩=>(⟨J,g,I.aal i.os i.base i.UX i.bare<|nofun,E,z⟩)) λe G=>False.elim)}) S.kind
 .rw[List.mem_singleton.mp t];lia
def Bj{pos:Pos}(l:Γ Θ)(h:TriplesOk l)(e:codeAmong pos' (l++[rawInt pos.line,rawInt pos.col,c])=↑v):codeAmong pos' l=↑v\/v=c:=by
 fun_induction TriplesOk l with
 |case1 =>
  simp?[xO,codeAmong,rawInt]at e;split at e
  .cases e;exact .inr rfl
  .cases e
 |case2 a t b u x r i =>
  simp?[xF,codeAmong]at e ⊢;split at e
  .rename_i hc;rw[yM hc];exact .inl e
  .rename_i hc;rw[yO hc];exact i h e
 |case3 l H d=>exact h.elim
def IH(I:Inv X pins σ H s)(S:g9 X scope N VC)(hq:X.env.qual++"<lambda>"=qual)(X3:X.env.code=.ref c)(C:W.CodeHd X.base c P)(T:H P=↑(.tab qual))(hB:Rt X.mg X.base)
  (E:defaultsOf params X.env=([],[]))
  (h:∀(f a:Ψ)(pm x:Θ)(s':Ξ)(H':Hp),Inv X pins σ H' s'->s'.heap.get? f=↑(W.kla_obj "<lambda>" qual params body scope (fX X.env scope.names []) pm a x)->H' f=none->H' a=↑(.Yl qual)->aA H H'->dc X pins H' f->(∀b,H' b≠none->H b≠none\/H' b=↑(.Yl qual))->Q (.ref f) s') :
  wpAny (model X.prog X.w) X.A (eval (.Lambda params body scope U) X.env) Q X.xe s:=by
 have Xw:=mF<|k6 I.ok S.free;have l:=C.keeps I.bk;have hg:s.heap.Ns mainGlobals X.mg:=by
  let(o,es,ep,e,r):=I.ok.mod.glob;exact{o,es,ep,I.bk _ _ e,r}
 have m:X.base.get? P=none:=by
  cases e:X.base.get? P with
  |none=>rfl
  |some o=>rw[(I.bs P o e).2]at T;grind
 let(O,J,ht,YI):=I.UX P _ T;have B:s.heap.BuiltinsAt X.mg P:=by
  let(bm,o,b1,b2,b3,G,b5):=hB;exact{bm,o,b1,b2,b3,(λz=>by rw[z,m]at G;cases G),I.bk _ _ G,b5}
 refine W.kla_eval E ?_;rw[hq];cases K:codeAmong U O.toList with
 |some cv =>
  let(a,rfl,WJ):=YI U cv K;refine W.kla_makeFunctionHit Xw I.ok.glob hg X3 l J ht K B λx i Y k Z=>?_;have y:H i.objs.size=none:=I.UX.fresh Z;exact h _ a _ x _ H (I.kept (t':=Y) λb o e=>zV _<|k b o e) (zY _ rfl) y WJ (.refl _) (I.VV Z y) λb z=>.inl z
 |none =>
  have L:mainGlobals≠P:=λz=>by
   let(o,es,ep,e,r):=I.ok.mod.glob;rw[z,m]at e;cases e
  refine W.kla_makeFunction Xw I.ok.glob hg X3 l J ht K L B λa x i Y hx j YS R p=>?_;have y:H a=none:=I.UX.fresh j;have Z:s.heap.objs.size<=i.objs.size:=jR<|qY j YS;have k:∀b o,b≠P->s.heap.get? b=↑o->(i.push<|W.kla_obj "<lambda>" qual params body scope (fX X.env scope.names []) ((X.mg "__name__").getD .none) a x).get? b=↑o:=λb o B e=>zV _<|hx b o B e;have hPc:P≠a:=λz=>by grind
  have up:∀b u,H b=↑u->upd H a (.Yl qual) b=↑u:=λb u e=>by rw[ai<|aF e y];lia
  have un:Un X.fs [] H (upd H a<|.Yl qual) s.heap (i.push<|W.kla_obj "<lambda>" qual params body scope (fX X.env scope.names []) ((X.mg "__name__").getD .none) a x):=by
   refine{λb o e n _ _=>k b o (λz=>by rw[z,T]at n;cases n) e,λb o e n _ _=>{o.slots,k b o (λz=>by rw[z,T]at n;cases n) e},λb o e n _=>?_,λb o e _=>?_,λb xs e=>up b _ e,λb o u e=>up b _ e,{λb u e _=>up b u e,λb q ps' e z=>?_}}
   .rw[ai<|yS<|zP (zZ e) j];lia
   .by_cases B:b=P
    .subst B;exact{_,zV _ p}
    .exact{o,k b o B e}
   .by_cases B:b=P
    .subst B;rw[J]at z;cases z;exact{_,zV _ p}
    simp_all
  have UX:pN X.prog X.w (upd H a<|.Yl qual) (i.push<|W.kla_obj "<lambda>" qual params body scope (fX X.env scope.names []) ((X.mg "__name__").getD .none) a x):=by
   intro b u e;by_cases g:b=a
   .subst g;rw[ar]at e;cases e;let(c0,oc,vs,t,e0,e1,r):=R;exact{c0,oc,vs,t,e0,zV _ e1,r}
   .rw[ai g]at e;by_cases B:b=P
    .subst B;rw[T]at e;cases e;refine{_,zV _ p,?_,λM v hv=>?_}
     .have:=TriplesOk_snoc U.line U.col (.ref a) O.toList ht;simpa using this
     .rcases Bj O.toList ht (by simpa using hv)with z|z
      .let(c0,z1,z2):=YI M v z;exact{c0,z1,up _ _ z2}
      .exact{a,z,ar}
    .exact (I.UX b u e).VF (λd o D eo=>k d o (by
      rcases D with rfl|D
      .exact B
      .exact (λ{b u}e U8 z=>by grind:∀{b:Ψ}{u:HO},H b=↑u->(∀q,u≠.tab q)->b≠P) D λq z=>by cases z) eo) (λd D=>up d _ D) λd o D _=>up d _ D
  have F:upd H a (.Yl qual) i.objs.size=none:=by
   rw[ai<|jH YS];exact I.UX.fresh Z
  refine h _ a _ x _ _ (I.un (t':=Y) un UX) (zY _ rfl) F ar up (I.VV Z F) λb z=>?_;by_cases g:b=a
  .subst g;exact .inr ar
  .rw[ai g]at z;exact .inl z
end L2
namespace Dl
open PySem L2 PySem.Spec PyProof.Rows
abbrev D:=PyData
abbrev fN(ns:Γ Int):D:=.tuple<|ns.map PyData.int
def eA(K:Φ)(H:Hp):Γ (D×D)->Γ (Γ j5×Ψ×Θ)->Prop
 |[],x=>x=[]
 |p::l,x=>∃s n t b r,p=(fN s,.int n)/\x=(s.map Sum.inl,b,.int n t)::r/\fP K H b (s.map V.int)/\eA K H l r
mutual
def Rep(K:Φ)(H:Hp):D->V->Prop
 |.none,v=>v=.UQ
 |.bool b,v=>v=.bl b
 |.int i,v=>v=.int i
 |.str x,v=>v=.str x
 |.tuple d,v=>∃a s,v=.ref a/\fP K H a s/\au K H d s
 |.list d,v=>∃a s,v=.ref a/\ik K H a s/\au K H d s
 |.dict l,v=>∃a e X,v=.ref a/\H a=↑(.dT e X)/\eA K H l X
def au(K:Φ)(H:Hp):Γ D->Γ V->Prop
 |[],s=>s=[]
 |d::S,s=>∃v r,s=v::r/\Rep K H d v/\au K H S r
end
def ay{K:Φ}(e:aA H H')(h:fP K H a xs):fP K H' a xs:=by
 rcases h with (h|⟨o,h⟩)|h
 .exact .inl<|.inl<|e _ _ h
 .exact .inl<|.inr {o,e _ _ h}
 .exact .inr h
def eA.mono{K:Φ}{H H':Hp}(e:aA H H'):∀{l:Γ (D×D)}{xs:Γ (Γ j5×Ψ×Θ)},eA K H l xs->eA K H' l xs
 |[],_,h=>h
 |p::l,_,⟨s,n,t,b,r,a,c,d,f⟩=>{s,n,t,b,r,a,c,ay e d,eA.mono e f}
mutual
theorem Rep.mono{K:Φ}{H H':Hp}(e:aA H H'):∀{d:D}{v:V},Rep K H d v->Rep K H' d v
 |.none,_,h=>h
 |.bool _,_,h=>h
 |.int _,_,h=>h
 |.str _,_,h=>h
 |.tuple S,_,h=>by
  simp?[Rep]at h ⊢;let(a,s,rfl,q,r):=h;exact{a,s,rfl,ay e q,au.mono e r}
 |.list S,_,h=>by
  simp?[Rep]at h ⊢;let(a,s,rfl,q,r):=h;exact{a,s,rfl,e.seq q,au.mono e r}
 |.dict l,_,h=>by
  simp?[Rep]at h ⊢;let(a,p,x,b,c,f):=h;exact{a,p,x,b,e _ _ c,f.mono e}
theorem au.mono{K:Φ}{H H':Hp}(e:aA H H'):∀{ds:Γ D}{vs:Γ V},au K H ds vs->au K H' ds vs
 |[],_,h=>h
 |d::ds,_,h=>by
  simp?[au]at h ⊢;let(v,r,rfl,a,b):=h;exact{v,r,rfl,Rep.mono e a,au.mono e b}
end
section
variable {K:Φ}
def au.nil:au K H [] []:=by rfl
def au.cons(a:Rep K H d v)(b:au K H ds vs):au K H (d::ds) (v::vs):=by
 exact{v,vs,rfl,a,b}
def au.cons_inv(h:au K H (d::ds) vs):∃v r,vs=v::r/\Rep K H d v/\au K H ds r:=by exact h
def au.nil_inv(h:au K H [] vs):vs=[]:=by exact h
def au.length:∀{ds:Γ D}{vs:Γ V},au K H ds vs->vs.length=ds.length
 |[],_,h=>by rw[h.nil_inv];rfl
 |d::ds,_,h=>by let(v,r,rfl,_,b):=h.cons_inv;simp[au.length b]
def au.get:∀{ds:Γ D}{vs:Γ V}{i:Nat}{v:V},au K H ds vs->vs[i]?=↑v->∃d,ds[i]?=↑d/\Rep K H d v
 |[],_,i,v,h,e=>by rw[h.nil_inv]at e;simp at e
 |d::ds,_,i,v,h,e=>by
  let(j,r,rfl,a,b):=h.cons_inv;cases i with
  |zero=>simp at e;subst e;exact{d,rfl,a}
  |succ i=>simp at e;let(c,f,g):=au.get b e;exact{c,by simpa using f,g}
def au.getD:∀{ds:Γ D}{vs:Γ V}{i:Nat}{d:D},au K H ds vs->ds[i]?=↑d->∃v,vs[i]?=↑v/\Rep K H d v
 |[],_,i,d,h,e=>by simp at e
 |d::ds,_,i,j,h,e=>by
  let(g,r,rfl,a,b):=h.cons_inv;cases i with
  |zero=>simp at e;subst e;exact{g,rfl,a}
  |succ i=>simp at e;let(v,c,f):=au.getD b e;exact{v,by simpa using c,f}
def au.append:∀{ds es:Γ D}{vs u:Γ V},au K H ds vs->au K H es u->au K H (ds++es) (vs++u)
 |[],_,_,_,h,g=>by rw[h.nil_inv];exact g
 |d::ds,_,_,_,h,g=>by let(v,r,rfl,a,b):=h.cons_inv;exact au.cons a<|au.append b g
def au.take:∀{ds:Γ D}{vs:Γ V}n,au K H ds vs->au K H (ds.take n) (vs.take n)
 |[],_,n,h=>by rw[h.nil_inv];simp[au]
 |d::ds,_,0,h=>by rfl
 |d::ds,_,n+1,h=>by let(v,r,rfl,a,b):=h.cons_inv;exact au.cons a<|au.take n b
def au.drop:∀{ds:Γ D}{vs:Γ V}n,au K H ds vs->au K H (ds.drop n) (vs.drop n)
 |[],_,n,h=>by rw[h.nil_inv];simp[au]
 |d::ds,_,0,h=>h
 |d::ds,_,n+1,h=>by let(v,r,rfl,a,b):=h.cons_inv;exact au.drop n b
def au.reverse:∀{ds:Γ D}{vs:Γ V},au K H ds vs->au K H ds.reverse vs.reverse
 |[],_,h=>by rw[h.nil_inv];rfl
 |d::ds,_,h=>by
  let(v,r,rfl,a,b):=h.cons_inv;rw[kZ,kZ];exact au.append (au.reverse b)<|au.cons a .nil
end
structure bc(HF H US H':Hp):Prop where
 hh:aA H H'
 ff:aA HF US
 fh:aA US H'
 nw:∀a o,US a=↑o->HF a=↑o\/H a=none
def bc.refl(s:aA HF H):bc HF H HF H:={.refl _,.refl _,s,λ_ _=>.inl}
def bc.trans(a:bc HF H UT U)(b:bc UT U U3 H2):bc HF H U3 H2:=
 {a.hh.trans b.hh,a.ff.trans b.ff,b.fh,λx o e=>(b.nw x o e).elim (a.nw x o) λz=>.inr<|a.hh.free z}
def cT(h:H p=none):aA H (upd H p o):=λb u e=>by rw[ai<|aF e h];lia
def bc.new(s:aA HF H)(h:H p=none):bc HF H (upd HF p o) (upd H p o):=by
 have f:HF p=none:=s.free h;refine{cT h,cT f,λb u e=>?_,λb u e=>?_}
 .by_cases B:b=p
  .subst B;rw[ar]at e ⊢;exact e
  .rw[ai B]at e ⊢;exact s b u e
 .by_cases B:b=p
  .subst B;exact .inr h
  .rw[ai B]at e;exact .inl e
def bc.own(s:aA HF H)(h:H p=none):bc HF H HF (upd H p o):=
 {cT h,.refl _,λb u e=>by rw[ai<|aF (s b u e) h];exact s b u e,λ_ _=>.inl}
def bc.freeze(g:bc HF H UT U)(h:H p=none)(a:U p=↑o)(f:UT p=none):bc HF H (upd UT p o) U:=
 ⟨g.hh,g.ff.trans<|cT f,λb u e=>by
  by_cases B:b=p
  .subst B;rw[ar]at e;rw[a,<-e]
  .rw[ai B]at e;exact g.fh b u e,λb u e=>by
  by_cases B:b=p
  .subst B;exact .inr h
  .rw[ai B]at e;exact g.nw b u e⟩
def kh:Γ Str:=["ways_of","turned_order","fairest"]
def cm(K:Φ)(HF:Hp):Prop:=∀(f:Ψ)(o:Θ)(od:Δ Ψ)(d:η)(s:Array (Δ Θ))(c P:Ψ),K.lookup f=↑{o,od,.func d,s}->d.qualname∈kh->d.code=.ref c->W.codeHdIn K c P=true->HF P=↑(.tab<|d.qualname++".<locals>."++"<lambda>")
def cm.mono{K:Φ}(h:cm K HF)(e:aA HF US):cm K US:=λf o od F s c P a b d q=>e _ _<|h f o od F s c P a b d q
abbrev Env:=Γ<|Δ D
structure cw(K:W.Frag)(HF:Hp)(ρ:Env)(σ:L2.St):Prop where
 get:∀(i:Nat)(d:D),ρ[i]?=↑(↑d)->∃v,σ[i]?=↑(↑v)/\Rep K HF d v
 len:ρ.length<=σ.length
 tb:cm K HF
def cw.mono{K:Φ}(h:cw K HF ρ σ)(e:aA HF US):cw K US ρ σ:={λi d q=>let ⟨v,a,b⟩:=h.get i d q;{v,a,b.mono e},h.len,h.tb.mono e}
def tD(K:Φ)(f:Env->Δ D):TE:=λc H Q=>∃F b d,aA F H/\cw K F b c/\f b=↑d/\∀v a U,bc F H U a->Rep K U d v->Q v a
def DE(X:Cx)(e:γ)(f:Env->Δ D):Prop:=PE X e<|tD X.K f
def tF(K:Φ)(f:Env->Δ (Γ D)):TE:=λe H Q=>∃F c d,aA F H/\cw K F c e/\f c=↑d /\
 ∀a v b U,bc F H U b->H a=none->U a=none->b a=↑(.lst v)->au K U d v->Q (.ref a) b
def DF(X:Cx)(e:γ)(f:Env->Δ (Γ D)):Prop:=PE X e<|tF X.K f
def JM(K:Φ)(f:Env->Δ θ):TT:=λd H Q=>∃F c b,aA F H/\cw K F c d/\f c=↑b/\∀a U,bc F H U a->Q b a
def DT(X:Cx)(e:γ)(f:Env->Δ θ):Prop:=PT X e<|JM X.K f
def R0(K:Φ)(f:Env->Δ (Γ D)):TA:=λc H Q=>∃F b d,aA F H/\cw K F b c/\f b=↑d/\∀v a U,bc F H U a->au K U d v->Q v a
def DA(X:Cx)(es:Γ γ)(f:Env->Δ (Γ D)):Prop:=PA X es<|R0 X.K f
def aE(h:PE X e t)(i:∀σ H Q,t' σ H Q->t σ H Q):PE X e t':=λp s σ H Q I q=>h p s σ H Q I<|i σ H Q q
def ml(h:PT X e t)(i:∀σ H Q,t' σ H Q->t σ H Q):PT X e t':=λp s σ H Q I q=>h p s σ H Q I<|i σ H Q q
def iW(h:PA X e t)(i:∀σ H Q,t' σ H Q->t σ H Q):PA X e t':=λP p s σ H Q I q=>h P p s σ H Q I<|i σ H Q q
def bs(h:x.bind f=↑b):∃a,x=↑a/\f a=↑b:=by
 cases x with
 |none=>cases h
 |some a=>exact{a,rfl,h}
def DF.de(h:DF X e f):DE X e (λρ=>(f ρ).map PyData.list):=aE h λj H Q z=>by
 let(b,ρ,d,sm,o,F,q):=z;have F:(f ρ).map PyData.list=↑d:=F;cases E:f ρ with
 |none=>grind
 |some s =>
  rw[E]at F;obtain rfl:PyData.list s=d:=xE F;exact{b,ρ,s,sm,o,E,λa v i U g A Y c r=>q _ _ _ (g.freeze A c Y)<|{a,v,rfl,.inl<|.inl ar,r.mono<|cT Y}}
def ab(i:Nat):Env->Δ D:=λa=>(a[i]?).getD none
def O9(i:Nat)(n:X.N[i]?=↑x)(g:rA X.env.scope x)(D:(x==("__debug__":Str))=false:=by decide)(B:(x==("__classdict__":Str))=false:=by decide):DE X (.Name x pos) (ab i):=
 aE (dv n g D B) λj H Q z=>by
  let(F,c,d,sm,E,f,q):=z;have f:(c[i]?).getD none=↑d:=f;cases e:c[i]? with
  |none=>rw[e]at f;cases f
  |some o =>
   rw[e]at f;have f:o=↑d:=f;subst f;let(v,a,b):=E.get i d e;exact{v,a,q v H F (.refl sm) b}
def fC(d:D):Env->Δ D:=λ_=>↑d
def Nd{i j pos}:DE X (.Constant (.int i) j pos) (fC<|.int i):=aE IM λb H Q z=>by let(F,a,d,sm,e,f,q):=z;cases f;exact q _ H F (.refl sm) (by rfl)
def Qn{b j pos}:DE X (.Constant (.bool b) j pos) (fC<|.bool b):=aE Qx λc H Q z=>by let(F,a,d,sm,e,f,q):=z;cases f;exact q _ H F (.refl sm) (by rfl)
def MT{j pos}:DE X (.Constant .none j pos) (fC .none):=aE N7 λb H Q z=>by let(F,a,d,sm,e,f,q):=z;cases f;exact q _ H F (.refl sm) (by rfl)
def Ox{x j pos}:DE X (.Constant (.str x) j pos) (fC<|.str x):=aE NM λb H Q z=>by let(F,a,d,sm,e,f,q):=z;cases f;exact q _ H F (.refl sm) (by rfl)
def Lw(g:Gl X x)(m:X.mg x=↑(.int i t))(D:(x=="__debug__")=false:=by decide):DE X (.Name x pos) (fC<|.int i):=
 aE (K5 (v:=.int i) g m {t,rfl} D) λb H Q z=>by let(F,a,d,sm,e,f,q):=z;cases f;exact q _ H F (.refl sm) (by rfl)
def eu(K:Φ)(r:R2)(g:D->D->Δ D):Prop:=∀F H x y b c d Q,aA F H->Rep K F x b->Rep K F y c->g x y=↑d->(∀v a U,bc F H U a->Rep K U d v->Q v a)->r b c H Q
def f2(g:D->D->Δ D)(f1 f2:Env->Δ D):Env->Δ D:=λa=>(f1 a).bind λx=>(f2 a).bind λy=>g x y
def HH{X:Cx}{fa fb:Env->Δ D}(R:eu X.K r g):∀σ H Q,tD X.K (f2 g fa fb) σ H Q->M9 r (tD X.K fa) (tD X.K fb) σ H Q:=λσ H Q z=>by
 let(F,b,d,sm,e,f,q):=z;let(x,l,f):=bs f;let(y,Y,k):=bs f;exact{F,b,x,sm,e,l,λn p T G r1=>{T,b,y,G.fh,e.mono G.ff,Y,λo i U a m=>R U i x y n o d Q a.fh (r1.mono a.ff) m k λv c S j=>q v c S<|(G.trans a).trans j}}
def z9(o:iM X (binaryOp op) r)(R:eu X.K r g)(H:DE X a fa)(B:DE X b fb):DE X (.BinOp a op b pos) (f2 g fa fb):=aE (Ca o H B)<|HH R
def xc(o:iM X (compareOp op) r)(R:eu X.K r g)(H:DE X a fa)(B:DE X b fb)(m:behindInMarks op b=false):DE X (.Compare a [op] [b] pos) (f2 g fa fb):=aE (Dz o H B m)<|HH R
def xy(C:Int->Int->Prop)[∀i j,Decidable<|C i j](g:Int->Int->D):D->D->Δ D
 |.int i,.int j=>if C i j then↑(g i j)else none
 |_,_=>none
def Hs{K:Φ}{C:Int->Int->Prop}[∀i j,Decidable<|C i j]{gi:Int->Int->Int}:eu K (rI C λi j=>.int<|gi i j) (xy C λi j=>.int<|gi i j):=by
 intro F H x y v a d Q sm r1 r g q;cases x<;>cases y<;>simp?[xy]at g<;>try grind
 rename_i i j;by_cases hc:C i j
 .rw[yM hc]at g;cases g;exact{i,j,r1,r,hc,q _ H F (.refl sm)<|by rfl}
 grind
def uP{K:Φ}{gi:Int->Int->Int}:eu K (JG λi j=>.int<|gi i j) (xy (λ_ _=>True) λi j=>.int<|gi i j):=by
 intro F H x y v a d Q sm r1 r g q;cases x<;>cases y<;>simp[xy]at g<;>try cases g
 rename_i i j;exact{i,j,r1,r,q _ H F (.refl sm)<|by rfl}
def o5{K:Φ}{gi:Int->Int->θ}:eu K (JG λi j=>.bl<|gi i j) (xy (λ_ _=>True) λi j=>.bool<|gi i j):=by
 intro F H x y v a d Q sm r1 r g q;cases x<;>cases y<;>simp[xy]at g<;>try cases g
 rename_i i j;exact{i,j,r1,r,q _ H F (.refl sm)<|by rfl}
noncomputable instance (i j:Int):Decidable (wg i j):=by unfold wg;infer_instance
noncomputable instance (i j:Int):Decidable (J1 i j):=by unfold J1;infer_instance
section
variable {X:Cx}{a b c:γ}{fa fb fc:Env->Δ D}{pos:Pos}{rest:Γ γ}
def mh(fa fb:Env->Δ D):Env->Δ D:=λa=>(fa a).bind fun|.bool true=>fb a|.bool false=>↑(.bool false)|_=>none
def UA(fa fb:Env->Δ D):Env->Δ D:=λa=>(fa a).bind fun|.bool true=>↑(.bool true)|.bool false=>fb a|_=>none
def Qy:D->Δ D|.bool b=>↑(.bool<|!b)|_=>none
def SJ(fa:Env->Δ D):Env->Δ D:=λa=>(fa a).bind Qy
def MQ{op}(h:DE X a fa):DE X (.BoolOp op [a] pos) fa:=GQ h
def Oe(A:DE X a fa)(B:DE X (.BoolOp .And (b::rest) pos) fb):DE X (.BoolOp .And (a::b::rest) pos) (mh fa fb):=aE (FQ A B) λn H Q z=>by
 let(F,c,d,sm,e,f,q):=z;let(x,l,f):=bs f;refine{F,c,x,sm,e,l,λm j U G r1=>?_};cases x<;>try cases f
 rename_i k;refine{k,r1,?_};cases k with
 |true=>exact so {U,c,d,G.fh,e.mono G.ff,f,λv i S g=>q v i S<|G.trans g}
 |false=>cases f;exact rM<|q _ j U G<|by rfl
def gB:D->Δ θ|.bool b=>↑b|_=>none
def fB(f:Env->Δ D):Env->Δ θ:=λa=>(f a).bind gB
def HK:∀σ H(Q:θ->Hp->Prop),JM X.K (fB f) σ H Q->tD X.K f σ H λx a=>∃c,x=.bl c/\Q c a:=λσ H Q z=>by
 let(b,i,k,sm,e,F,q):=z;let(x,d,F):=bs F;refine{b,i,x,sm,e,d,λv a U g r1=>?_};cases x<;>try cases F
 simp?[Rep]at r1;exact{_,r1,q a U g}
def Pa(h:DE X a f)(e:∀whole,isTrue a X.env whole=(do let v <- whole;standAt a.pos;holding [v]<|truthy v):=by intro _;rfl):DT X a (fB f):=ml (Iq h e) HK
def oK(o:iM X (compareOp op) r)(R:eu X.K r g)(A:DE X a fa)(B:DE X b fb)(m:behindInMarks op b=false):DT X (.Compare a [op] [b] pos) (fB<|f2 g fa fb):=
 ml (CS o A B m) λc H Q h=>HH R c H _<|HK c H Q h
def sJ(fa fb:Env->Δ θ):Env->Δ θ:=λa=>(fa a).bind fun|true=>fb a|false=>↑false
def ma(fa fb:Env->Δ θ):Env->Δ θ:=λa=>(fa a).bind fun|true=>↑true|false=>fb a
def cY(fa:Env->Δ θ):Env->Δ θ:=λa=>(fa a).map (!·)
variable {ta tb:Env->Δ θ}
def DW(X:Cx)(e:γ)(f:Env->Δ θ):Prop:=PW X e<|JM X.K f
def AR(h:PW X e t)(i:∀σ H Q,t' σ H Q->t σ H Q):PW X e t':=λw p s σ H Q I q=>h w p s σ H Q I<|i σ H Q q
def DW.dt(h:DW X a ta):DT X a ta:=PW.pt h
def Jv(H:DT X a ta):DW X (.BoolOp .And [a] pos) ta:=KW H
def M4(H:DT X a ta):DW X (.BoolOp .Or [a] pos) ta:=Hj H
def G1(A:DT X a ta)(B:DW X (.BoolOp .And (b::rest) pos) tb):DW X (.BoolOp .And (a::b::rest) pos) (sJ ta tb):=AR (NF A B) λl H Q z=>by
 let(F,c,d,sm,e,f,q):=z;let(x,k,f):=bs f;refine{F,c,x,sm,e,k,λj U G=>?_};cases x with
 |true=>exact so {U,c,d,G.fh,e.mono G.ff,f,λi S g=>q i S<|G.trans g}
 |false=>cases f;exact rM<|q j U G
def Mc(A:DT X a ta)(B:DW X (.BoolOp .Or (b::rest) pos) tb):DW X (.BoolOp .Or (a::b::rest) pos) (ma ta tb):=AR (Mt A B) λl H Q z=>by
 let(F,c,d,sm,e,f,q):=z;let(x,k,f):=bs f;refine{F,c,x,sm,e,k,λj U G=>?_};cases x with
 |false=>exact rM {U,c,d,G.fh,e.mono G.ff,f,λi S g=>q i S<|G.trans g}
 |true=>cases f;exact so<|q j U G
def Nf(A:DT X a ta):DT X (.UnaryOp .Not a pos) (cY ta):=ml (Gs A) λi H Q z=>by
 let(F,b,d,sm,o,f,q):=z;have f:(ta b).map (!·)=↑d:=f;cases e:ta b with
 |none=>rw[e]at f;cases f
 |some k=>rw[e]at f;cases f;exact{F,b,k,sm,o,e,λc U g=>q c U g}
def T4(t:Env->Δ θ)(fa fb:Env->Δ D):Env->Δ D:=λa=>(t a).bind fun|true=>fa a|false=>fb a
def Re(hc:DT X c ta)(A:DE X a fa)(B:DE X b fb):DE X (.IfExp c a b pos) (T4 ta fa fb):=aE (zw hc A B) λl H Q z=>by
 let(F,i,d,sm,o,f,q):=z;let(x,j,f):=bs f;refine{F,i,x,sm,o,j,λk T G=>?_};cases x with
 |true=>exact so {T,i,d,G.fh,o.mono G.ff,f,λv e U g=>q v e U<|G.trans g}
 |false=>exact rM {T,i,d,G.fh,o.mono G.ff,f,λv e U g=>q v e U<|G.trans g}
def mJ(g g':D->D->Δ D)(fa fb fc:Env->Δ D):Env->Δ D:=λa=>(fa a).bind λx=>(fb a).bind λy=>(g x y).bind fun|.bool true=>(fc a).bind λz=>g' y z|.bool false=>↑(.bool false)|_=>none
def KE(A:eu X.K r g)(Z:eu X.K r' g'):∀σ H Q,tD X.K (mJ g g' fa fb fc) σ H Q->Gq r r' (tD X.K fa) (tD X.K fb) (tD X.K fc) σ H Q:=λσ H Q z=>by
 let(F,i,d,sm,e,f,q):=z;let(x,B,f):=bs f;let(y,Y,f):=bs f;let(z,C,f):=bs f;refine{F,i,x,sm,e,B,λI L T a r1=>{T,i,y,a.fh,e.mono a.ff,Y,λm o U b R=>A U o x y I m z _ b.fh (r1.mono b.ff) R C λM p j l D=>?_}};cases z<;>try cases f
 rename_i k;refine{k,D,?_};have G:=(a.trans b).trans l;cases k with
 |false=>cases f;exact rM (q _ p j G<|by rfl)
 |true =>
  let(w,hw,u):=bs f;exact so {j,i,w,G.fh,e.mono G.ff,hw,λJ s W c E=>Z W s y w m J d Q c.fh (R.mono<|l.ff.trans c.ff) E u λv n S t=>q v n S<|(G.trans c).trans t}
def IT(o:iM X (compareOp op) r)(R:eu X.K r g)(W:iM X (compareOp U) r')(z:eu X.K r' g')(H:DE X a fa)(B:DE X b fb)(hc:DE X c fc)
  (m:lastMarks [op,U] [b,c]=false:=by with_unfolding_all rfl):DE X (.Compare a [op,U] [b,c] pos) (mJ g g' fa fb fc):=aE (HP o W H B hc m)<|KE R z
def af:Env->Δ (Γ D):=λ_=>↑[]
def aa(f:Env->Δ D)(g:Env->Δ (Γ D)):Env->Δ (Γ D):=λa=>(f a).bind λx=>(g a).map (x::·)
def Bx:DA X [] af:=iW cQ λb H Q z=>by let(F,a,d,sm,e,f,q):=z;cases f;exact q [] H F (.refl sm) .nil
def vq(j:DE X e f)(hs:DA X es g)(v:starEach (e::es) X.env=(false,eval e X.env)::starEach es X.env:=by rfl):DA X (e::es) (aa f g):=
 iW (br j hs v) λn H Q z=>by
  let(i,a,d,sm,o,F,q):=z;let(x,k,F):=bs F;cases E:g a with
  |none=>grind
  |some s =>
   rw[E]at F;cases F;exact{i,a,x,sm,o,k,λm l T G r1=>{T,a,s,G.fh,o.mono G.ff,E,λS c U b r=>q _ c U (G.trans b)<|au.cons (r1.mono b.ff) r}}
variable {es:Γ γ}{fs:Env->Δ (Γ D)}
def small(ds:Γ D):Δ (Γ D):=if ds.length<=sizeLine then↑ds else none
def cU{ds es:Γ D}(h:small ds=↑es):es=ds/\ds.length<=sizeLine:=by
 unfold small at h;split at h
 .cases h;exact{rfl,‹_›}
 .cases h
def bq(g:Env->Δ (Γ D)):Env->Δ D:=λa=>(g a).bind λd=>(small d).map PyData.tuple
def j6(g:Env->Δ (Γ D)):Env->Δ (Γ D):=λa=>(g a).bind small
def Nk{U}(h:DA X es fs):DE X (.Tuple es U pos) (bq fs):=aE (Gp h) λc H Q z=>by
 let(F,a,d,sm,o,f,q):=z;let(s,x,f):=bs f;cases e:small s with
 |none=>grind
 |some E =>
  rw[e]at f;cases f;let(rfl,Z):=cU e;exact{F,a,_,sm,o,x,λv b T g r1=>{by rw[r1.length];lia,λp P=>q _ _ _ (g.trans<|.new g.fh P)<|{p,v,rfl,.inl<|.inl ar,r1.mono<|cT<|g.fh.free P}}}
def Nn(h:DA X es fs):DF X (.List es pos) (j6 fs):=aE (ON h) λc H Q z=>by
 let(F,a,d,sm,e,f,q):=z;let(s,x,f):=bs f;let(rfl,Z):=cU f;exact{F,a,_,sm,e,x,λv b U g r1=>{by rw[r1.length];lia,λp P=>q p v _ U (g.trans<|.own g.fh P) (g.hh.free P) (g.fh.free P) ar r1}}
def aH:D->D->Δ D
 |.tuple d,.int i=>tW d i
 |.list d,.int i=>tW d i
 |_,_=>none
def sR{K:Φ}(r:au K HF ds vs)(h:tW ds i=↑d):∃v,tW vs i=↑v/\Rep K HF d v:=by
 unfold tW at h ⊢;rw[r.length];let(j,H,h):=bs h;let(v,a,b):=r.getD h;exact{v,by rw[H];exact a,b}
def IZ{K:Φ}:eu K (TH K) aH:=by
 intro F H x y e f d Q sm r1 c g q;cases x<;>cases y<;>simp[aH]at g<;>try grind
 .let(a,S,rfl,s,r):=r1;let(v,b,R):=sR r g;exact .inl {a,S,_,v,rfl,c,sm.seq s,b,q v H F (.refl sm) R}
 .let(a,S,rfl,s,r):=r1;let(v,b,R):=sR r g;exact .inr<|.inl {a,S,_,v,rfl,c,ay sm s,b,q v H F (.refl sm) R}
def PN(H:DE X a fa)(B:DE X b fb)(hs:lG b:=by intro _ _;rfl):DE X (.Subscript a b pos) (f2 aH fa fb):=aE (CZ BQ H B hs)<|HH IZ
def sv{h:ι}:∀{ns:Γ Int}{u:Γ Θ},aI (ns.map V.int) u->∃as,ReadsAll h u (ns.map PyData.int) as
 |[],_,r=>by cases r;exact{_,.nil}
 |n::ns,_,r=>by
  rw[zI]at r ⊢;cases r with
  |cons a b =>
   let(t,rfl):=a;let(as,q):=sv b;exact{_,.cons (.int n t) q}
def tT{pins:Γ (Ψ×Obj)}{σ:L2.St}{H HF:Hp}{s:Ξ}(I:Inv X pins σ H s)(sm:aA HF H):∀{l:Γ (D×D)}{xs:Γ (Γ j5×Ψ×Θ)},eA X.K HF l xs ->
  ∃as bs,ReadsAll s.heap ((xs.map<|entryOfKey<|tupleKind<|dE X.prog X.w).map (·.key)) (l.map (·.1)) as/\ReadsAll s.heap ((xs.map<|entryOfKey<|tupleKind<|dE X.prog X.w).map (·.val)) (l.map (·.2)) bs
 |[],_,h=>by
  cases(show _=[]from h);exact{_,_,.nil,.nil}
 |p::l,_,⟨S,n,t,b,r,a,c,d,e⟩=>by
  subst a c;let(as,bs,q,q2):=tT I sm e;let(U,v,(o,O,hc,N,f),_):=I.tuple<|ay sm d;let(C,Q):=sv (h:=s.heap) v;exact{_,_,.cons (.tuple O hc f<|by simpa using Q) q,.cons (.int n t) q2}
mutual
theorem ki{pins:Γ (Ψ×Obj)}{σ:L2.St}{H HF:Hp}{s:Ξ}(I:Inv X pins σ H s)(sm:aA HF H):∀{d:D}{v:V}{u:Θ},Rep X.K HF d v->RelV v u->∃as,Reads s.heap u d as
 |.none,_,_,h,r=>by simp?[Rep]at h;subst h;cases r;exact{_,.none}
 |.bool b,_,_,h,r=>by simp?[Rep]at h;subst h;cases r;exact{_,.bool b}
 |.int i,_,_,h,r=>by simp?[Rep]at h;subst h;let(t,rfl):=r;exact{_,.int i t}
 |.str i,_,_,h,r=>by simp?[Rep]at h;subst h;let(t,rfl):=r;exact{_,.str i t}
 |.tuple g,_,_,h,r=>by
  simp?[Rep]at h;let(a,j,rfl,S,R):=h;cases r;let(U,f,(o,O,hc,n,c),_):=I.tuple<|ay sm S;let(as,q):=pd I sm R f;exact{as,.tuple O hc c<|by simpa using q}
 |.list g,_,_,h,r=>by
  simp?[Rep]at h;let(a,j,rfl,S,R):=h;cases r;let(U,f,P,_):=I.list<|sm.seq S;let(o,O,hc,n,c):=P.isList;let(as,q):=pd I sm R f;exact{_,.list O hc c<|by simpa using q}
 |.dict l,_,_,h,r=>by
  simp?[Rep]at h;let(a,p,k,rfl,e,dr):=h;cases r;let(_,_,o,m,O,x,c,E,_):=(show cC X.prog X.w H s.heap a (.dT p k)from I.UX a _<|sm _ _ e)
  let(as,bs,Q,q2):=tT I sm dr;exact{_,.dict O x.1 c (by rw[E];exact Q) (by rw[E];exact q2)}
theorem pd{pins:Γ (Ψ×Obj)}{σ:L2.St}{H HF:Hp}{s:Ξ}(I:Inv X pins σ H s)(sm:aA HF H):∀{ds:Γ D}{vs:Γ V}{u:Γ Θ},au X.K HF ds vs->aI vs u->∃as,ReadsAll s.heap u ds as
 |[],_,_,h,r=>by rw[h.nil_inv]at r;cases r;exact{_,.nil}
 |d::ds,_,_,h,r=>by
  let(v,c,rfl,a,b):=h.cons_inv;cases r with
  |cons r R =>
   let(as,q):=ki I sm a r;let(bs,p):=pd I sm b R;exact{_,.cons q p}
end
def SE(K:Φ)(g:D->D->Δ θ):R2:=λv a H Q=>∃F x y k,aA F H/\Rep K F x v/\Rep K F y a/\g x y=↑k/\Q (.bl k) H
def ph{K:Φ}:eu K (SE K g) (λx y=>(g x y).map PyData.bool):=by
 intro F H x y v a d Q sm r1 r G q;have G:(g x y).map PyData.bool=↑d:=G;cases e:g x y with
 |none=>rw[e]at G;cases G
 |some k=>rw[e]at G;cases G;exact{F,x,y,k,sm,r1,r,e,q _ H F (.refl sm)<|by simp[Rep]}
def Pi(x y:D):Δ θ:=if SeqAt.shaped x=true/\SeqAt.shaped y=true then↑(PyData.eqv x y)else none
def Pd(x y:D):Δ θ:=if SeqAt.shaped x=true/\SeqAt.shaped y=true then↑(!PyData.eqv x y)else none
def wk(u:X.A.units+64<cLine):iM X (compareOp .Eq) (SE X.K Pi):=by
 intro p s f H v e U d Q I c Y h;let(F,x,y,k,sm,r1,r,g,q):=h;unfold Pi at g;split at g<;>cases g;rename_i a;let(S,R):=ki I sm r1 c;let(bs,b):=ki I sm r Y;exact eq_dataH R b a.1 a.2 u {.bl _,H,I,rfl,q}
def IX(u:X.A.units+64<cLine):iM X (compareOp .NotEq) (SE X.K Pd):=by
 intro p s f H v e U d Q I c Y h;let(F,x,y,k,sm,r1,r,g,q):=h;unfold Pd at g;split at g<;>cases g;rename_i a;let(S,R):=ki I sm r1 c;let(bs,b):=ki I sm r Y;exact ne_dataH R b a.1 a.2 u {.bl _,H,I,rfl,q}
def items:D->Δ (Γ D)|.tuple d=>↑d|.list d=>↑d|_=>none
end
def Pq(K:Φ)(n:Nat)(m:Γ D->Δ D):Sp:=λS H Q _=>∃F s d,aA F H/\cm K F/\au K F s S/\s.length=n/\m s=↑d/\∀v a U,bc F H U a->Rep K U d v->Q v a
structure FI(P:Program)(w:World)(K:W.Frag)(mg:Str->Option Value)(base:Heap)(k:Nat)(x:Str)(n:Nat)(m:List D->Option D):Prop where
 ex:∃ (f:Ψ) (fd:η) (ps:Γ Str),dZ P w K mg base vi k f fd ps (Pq K n m)/\mg x=↑(.ref f)/\W.keepIn K (.ref f)=true/\Binds K fd ps []
def FI.mono{K:Φ}(F:FI P w K mg base k x n m)(h:k<=j):FI P w K mg base j x n m:=by
 let(f,D,p,a,b,c,d):=F.ex;exact{f,D,p,a.mono h,b,c,d}
def ah(n:Nat)(m:Γ D->Δ D)(fs:Env->Δ (Γ D)):Env->Δ D:=λa=>(fs a).bind λd=>if d.length=n then m d else none
def Lr(F:FI X.prog X.w X.K X.mg X.base k x n m)(R:cE k X.A)(t:Gl X x)(j:DA X (e::es) fs)(i:(x==("__debug__":Str))=false:=by decide)
  (l:starEach (e::es) X.env=(false,eval e X.env)::starEach es X.env:=by rfl)(W:(backTo pos<|starEach es X.env).any (·.1)=false:=by rfl):DE X (.Call (.Name x p) (e::es) [] pos) (ah n m fs):=by
 let(f,D,P,O,M,hk,B):=F.ex;refine aE (vb (E:=E0) O R t M hk B .nil nL j i l W) λI H Q z=>?_;let(c,y,d,sm,o,a,q):=z;let(s,u,a):=bs a;split at a
 .rename_i L;exact{c,y,s,sm,o,u,λS C T G r1=>{T,s,d,G.fh,o.tb.mono G.ff,by rw[qF];exact r1,L,a,λv b U g r=>q v b U (G.trans g) r}}
 .cases a
def El(K:Φ)(r:Γ V->Hp->VK->Prop)(g:Γ D->Δ D):Prop:=∀F H s S d Q,aA F H->au K F s S->g s=↑d->(∀v a U,bc F H U a->Rep K U d v->Q v a)->r S H Q
def b8(g:Γ D->Δ D)(fs:Env->Δ (Γ D)):Env->Δ D:=λa=>(fs a).bind g
def Qg{X:Cx}{fs:Env->Δ _}(hs:El X.K r g):∀σ H Q,tD X.K (b8 g fs) σ H Q->QU r (R0 X.K fs) σ H Q:=λσ H Q z=>by
 let(F,i,d,sm,e,f,q):=z;let(s,x,f):=bs f;exact{F,i,s,sm,e,x,λS b T G r1=>hs T b s S d Q G.fh r1 f λv a U c=>q v a U<|G.trans c}
def Mx(K:Φ)(r:Γ V->Hp->VK->Prop)(g:Γ D->Δ (Γ D)):Prop:=∀F H d v e Q,aA F H->au K F d v->g d=↑e ->
 (∀a u b U,bc F H U b->H a=none->U a=none->b a=↑(.lst u)->au K U e u->Q (.ref a) b)->r v H Q
def si(g:Γ D->Δ (Γ D))(fs:Env->Δ (Γ D)):Env->Δ (Γ D):=λa=>(fs a).bind g
def QG{X:Cx}{fs:Env->Δ _}(hs:Mx X.K r g):∀σ H Q,tF X.K (si g fs) σ H Q->QU r (R0 X.K fs) σ H Q:=λσ H Q z=>by
 let(F,k,d,sm,e,f,q):=z;let(s,x,f):=bs f;exact{F,k,s,sm,e,x,λv c T G r1=>hs T c s v d Q G.fh r1 f λa u b U i A Y j=>q a u b U (G.trans i) (G.hh.free A) Y j}
structure iN(X:Cx)(x:Str)(v:Value):Prop where
 gl:Gl X x
 mg:X.mg x=none
 bt:bootBuiltins x=↑v
def iI{id:String}(hc:fQ X (.builtin id) r)(hs:El X.K r g)(B:iN X x (.builtin id))(a:DA X (e::es) fs)(n:x≠"__name__":=by decide)(v:(x==("__debug__":Str))=false:=by decide)
  (H:starEach (e::es) X.env=(false,eval e X.env)::starEach es X.env:=by rfl)(w:(backTo pos<|starEach es X.env).any (·.1)=false:=by rfl):DE X (.Call (.Name x p) (e::es) [] pos) (b8 g fs):=
 aE (iL hc B.gl B.mg B.bt a n v H w) (Qg hs)
def IC{id:String}(hc:fQ X (.builtin id) r)(hs:Mx X.K r g)(B:iN X x (.builtin id))(a:DA X (e::es) fs)(n:x≠"__name__":=by decide)(v:(x==("__debug__":Str))=false:=by decide)
  (H:starEach (e::es) X.env=(false,eval e X.env)::starEach es X.env:=by rfl)(w:(backTo pos<|starEach es X.env).any (·.1)=false:=by rfl):DF X (.Call (.Name x p) (e::es) [] pos) (si g fs):=
 aE (iL hc B.gl B.mg B.bt a n v H w) (QG hs)
def EC(hc:fQ X (.type T) r)(hs:El X.K r g)(B:iN X x (.type T))(a:DA X (e::es) fs)(n:x≠"__name__":=by decide)(v:(x==("__debug__":Str))=false:=by decide)
  (H:starEach (e::es) X.env=(false,eval e X.env)::starEach es X.env:=by rfl)(w:(backTo pos<|starEach es X.env).any (·.1)=false:=by rfl):DE X (.Call (.Name x p) (e::es) [] pos) (b8 g fs):=
 aE (uB hc B.gl B.mg B.bt a n v H w) (Qg hs)
def gO:D->Δ (Γ D)|.tuple d=>↑d|.list d=>↑d|_=>none
def oneOf:Γ D->Δ D|[d]=>↑d|_=>none
def gH(h:oneOf ds=↑d):ds=[d]:=by
 cases ds with
 |nil=>cases h
 |cons x r=>cases r with
  |nil=>cases h;rfl
  |cons _ _=>cases h
def mj(h:gO d=↑ds):d=.tuple ds\/d=.list ds:=by
 cases d<;>cases h
 .exact .inr rfl
 .exact .inl rfl
def fJ:Γ D->Δ (Γ D):=λd=>(oneOf d).bind gO
def kz{ds es:Γ D}(h:fJ ds=↑es):ds=[.tuple es]\/ds=[.list es]:=by
 let(d,H,a):=bs h;rw[gH H];rcases mj a with rfl|rfl
 .exact .inl rfl
 .exact .inr rfl
def bP:Γ D->Δ D:=λd=>(fJ d).map λe=>.int e.length
def ag{α c:Type}{x:Δ α}{f:α->c}{b:c}(h:x.map f=↑b):∃a,x=↑a/\f a=b:=by
 simp_all
def D6{K:Φ}:El K (λxs H Q=>∃p ys,xs=[.ref p]/\(ik K H p ys\/fP K H p ys)/\Q (.int ys.length) H) bP:=by
 intro F H s S d Q sm r g q;let(e,c,rfl):=ag g;rcases kz c with rfl|rfl
 all_goals
  let(v,f,rfl,a,b):=r.cons_inv;rw[b.nil_inv];let(p,u,rfl,h,R):=a
 .exact{p,u,rfl,.inr<|ay sm h,q _ H F (.refl sm)<|by simp[Rep,R.length]}
 .exact{p,u,rfl,.inl<|sm.seq h,q _ H F (.refl sm)<|by simp[Rep,R.length]}
def N2(B:iN X "len" (.builtin "len"))(a:DA X [e] fs)(H:starEach [e] X.env=(false,eval e X.env)::starEach [] X.env:=by rfl):DE X (.Call (.Name "len" p) [e] [] pos) (b8 bP fs):=
 iI i6 D6 B a (by decide) (by rfl) H rfl
def eR{K:Φ}(h:HF l=none)(r:au K HF ds vs):Rep K (upd HF l<|.tup vs) (.tuple ds) (.ref l):=by
 exact{l,vs,rfl,.inl<|.inl ar,r.mono<|cT h}
def EB{K:Φ}:El K (λxs H Q=>∃p ys,xs=[.ref p]/\((ik K H p ys/\∀l,H l=none->Q (.ref l) (upd H l<|.tup ys))\/(fP K H p ys/\Q (.ref p) H))) (λds=>(fJ ds).map PyData.tuple):=by
 intro F H ds s d Q sm r g q;let(e,c,rfl):=ag g;rcases kz c with rfl|rfl
 all_goals
  let(v,f,rfl,a,b):=r.cons_inv;rw[b.nil_inv];have A:=a;let(p,u,rfl,h,R):=a
 .exact{p,u,rfl,.inr {ay sm h,q _ H F (.refl sm) A}}
 .exact{p,u,rfl,.inl {sm.seq h,λl L=>q _ _ _ (.new sm L)<|eR (sm.free L) R}}
def GD(B:iN X "tuple" (.type "tuple"))(a:DA X [e] fs)(H:starEach [e] X.env=(false,eval e X.env)::starEach [] X.env:=by rfl):DE X (.Call (.Name "tuple" p) [e] [] pos) (b8 (λds=>(fJ ds).map PyData.tuple) fs):=
 EC tL EB B a (by decide) (by rfl) H rfl
def jg:D->String|.none=>"NoneType" | .bool _=>"bool" | .int _=>"int" | .str _=>"str" | .tuple _=>"tuple" | .list _=>"list" | .dict _=>"dict"
def vc(a b:String):Δ θ:=if((Value.type a)==(Value.type b))=true then↑true else if W.kitMeta b=true then(fastBuiltinMro a).map (·.contains (Value.type b))else none
def LI:∀a∈["NoneType","bool","int","str","tuple","list"],vc a "int"=↑(a=="int"||a=="bool"):=by decide +kernel
def IV:∀a∈["NoneType","bool","int","str","tuple","list"],vc a "bool"=↑(a=="bool"):=by decide +kernel
def kit_tuple:∀a∈["NoneType","bool","int","str","tuple","list"],vc a "tuple"=↑(a=="tuple"):=by decide +kernel
def GN{A:ξ}{E:Θ->Ξ->Prop}(I:Inv X pins σ H s)(sm:aA HF H)(r:Rep X.K HF d v)(R:RelV v u)
  (e:vc (jg d) T=↑k)(h:∀g,Q (.bool k) {s with toks:=g}):wpAny (model X.prog X.w) A (call (.builtin "isinstance") [u,.type T]) Q E s:=by
 have b:=e;cases d<;>simp?[Rep]at r
 .subst r;cases R;exact W.kia_one W.kitx_none I.Wq True.intro b (nofun) h
 .subst r;cases R;exact W.kia_one W.kitx_bool I.Wq True.intro b (nofun) h
 .subst r;let(t,rfl):=R;exact W.kia_one W.kitx_int I.Wq True.intro b (nofun) h
 .subst r;let(t,rfl):=R;exact W.kia_one W.kitx_str I.Wq True.intro b (nofun) h
 .let(a,i,rfl,S,f):=r;cases R;let(U,R,l,_):=I.list<|sm.seq S;let(o,O,hc,n,D):=l.isList;exact W.kia_one W.kitx_list I.Wq {o,O,hc} b (nofun) h
 .let(a,i,rfl,S,f):=r;cases R;let(U,R,(o,O,hc,n,D),_):=I.tuple<|ay sm S;exact W.kia_one W.kitx_tuple I.Wq {o,O,hc} b (nofun) h
 .let(a,p,j,rfl,c,_):=r;cases R;let(_,_,o,m,O,x,_):=(show cC X.prog X.w H s.heap a (.dT p j)from I.UX a _<|sm _ _ c)
  exact W.kia_one W.kitx_dict I.Wq {o,O,x.1} b (λz=>nomatch z) h
def N4(T:String)(f:Env->Δ D):Env->Δ D:=λa=>(f a).bind λd=>(vc (jg d) T).map PyData.bool
def Pv(B:iN X "isinstance" (.builtin "isinstance"))(C:iN X U (.type T))(h:DE X e f)(n:U≠"__name__":=by decide)(D:(U=="__debug__")=false:=by decide)
  (E:starEach [e,.Name U pT] X.env=(false,eval e X.env)::starEach [.Name U pT] X.env:=by rfl):DE X (.Call (.Name "isinstance" p) [e,.Name U pT] [] pos) (N4 T f):=by
 have hc:fQ X (.builtin "isinstance") (λS H Q=>∃F d v k,S=[v,.ty T]/\aA F H/\Rep X.K F d v/\vc (jg d) T=↑k/\Q (.bl k) H):=by
  intro P s w H S A Q I r h;let(F,d,v,k,rfl,sm,j,hk,q):=h;cases r with
  |cons R l =>
   cases l with
   |cons i N =>
    cases N;cases i;exact GN I sm j R hk λy=>{.bl k,H,I.tok _,rfl,q}
 refine aE (iL hc B.gl B.mg B.bt (br h (br (Kx (v:=.ty T) C.gl C.mg C.bt rfl n D) cQ) E) (by decide) (by rfl) E rfl) λw H Q z=>?_;let(F,t,d,sm,o,a,q):=z;let(x,c,a):=bs a;let(k,hk,rfl):=ag a;exact{F,t,x,sm,o,c,λm b u g r1=>{u,x,m,k,rfl,g.fh,r1,hk,q _ b u g<|by rfl}}
def LD:D->D->Δ D
 |.tuple x,.tuple y=>(small<|x++y).map PyData.tuple
 |_,_=>none
def CD(K:Φ):R2:=λx y H Q=>∃a b s Y,x=.ref a/\y=.ref b/\fP K H a s/\fP K H b Y/\s.length+Y.length<=sizeLine /\
 (s=[]->Q (.ref b) H)/\(Y=[]->Q (.ref a) H)/\(∀p,H p=none->Q (.ref p) (upd H p<|.tup<|s++Y))
def uj:iM X (binaryOp .Add) (CD X.K):=by
 intro P s w H x y v u Q I r R h;let(a,b,j,t,rfl,rfl,g,B,z,q0,q,q2):=h;by_cases f:j=[]
 .cases r;cases R;let(U,r1,m,_):=I.tuple g;let(O,E,p2,_):=I.tuple B;let((C,k,A,L),o,hc,n,i):=id m;let((T,D,d,S),Z,Y,N,c):=id p2;simp only at hc i Y c;subst hc i Y c;have e:U=[]:=(L2.aI.VZ r1).mpr f;exact wL {_,o,rfl} {_,Z,rfl} noFill_tuple_add seq_tuple_add vK vF (vD _ _)
   (tuple_addW0 a b U.toArray O.toArray n N k D L S<|by simp[e]) {o,Z,{.ref b,H,I,rfl,q0 f}}
 .exact Kg P s w H _ _ v u Q I r R {a,b,j,t,rfl,rfl,g,B,f,z,q,λ_ p l=>q2 p l}
def DQ{K:Φ}:eu K (CD K) LD:=by
 intro F H x y k l d Q sm r1 c g q;cases x<;>cases y<;>simp?[LD]at g<;>try grind
 rename_i s Y;let(E,f,rfl):=ag g;let(rfl,z):=cU f;have r:=r1;have R:=c;let(a,v,rfl,i,A):=r1;let(b,u,rfl,j,B):=c;refine{a,b,v,u,rfl,rfl,ay sm i,ay sm j,by rw[A.length,B.length,<-zN];lia,λe=>?_,λe=>?_,λp P=>q _ _ _ (.new sm P)<|eR (sm.free P)<|A.append B}
 .have:s=[]:=by have:=A.length;grind
  subst this;exact q _ H F (.refl sm) R
 .have:Y=[]:=by have:=B.length;grind
  subst this;rw[qF]at q;exact q _ H F (.refl sm) r
structure mV(K:W.Frag)(J:It)(HF:Hp)(ds:List D):Prop where
 go:∀i d Vf U5,ds[i]?=↑d->aA HF U5->aA U5 Vf->J.go i Vf/\∀x W9,J.ZC i Vf x W9->∃aap,bc U5 Vf aap W9/\Rep K aap d x
 stop:∀Vf U5,aA HF U5->aA U5 Vf->J.stop ds.length Vf
def TK(K:Φ)(f:Env->Δ (Γ D)):TI:=λc H R=>∃F b d,aA F H/\cw K F b c/\f b=↑d/\∀J a U,bc F H U a->mV K J U d->R J a
def DI(X:Cx)(tg iter:γ)(f:Env->Δ (Γ D)):Prop:=PI X tg iter<|TK X.K f
def Ea{K:Φ}(h:ik K HF a vs)(r:au K HF ds vs):mV K (RY K a) HF ds where
 go:=λi d f U e s S=>by
  let(v,H,R):=r.getD e;have q:=S.seq<|s.seq h;refine{{vs,v,q,H},λx w ⟨E,y⟩=>{U,by rw[E];exact .refl S,?_}};have:=y vs q;rw[H]at this;cases this;exact R.mono s
 stop:=λf U s S=>{vs,S.seq<|s.seq h,by rw[r.length];apply yN}
def Ho{K:Φ}(h:fP K HF a vs)(r:au K HF ds vs):mV K (SO K a) HF ds where
 go:=λi d f U e s S=>by
  let(v,H,R):=r.getD e;have q:=ay S<|ay s h;refine{{vs,v,q,H},λx w ⟨E,y⟩=>{U,by rw[E];exact .refl S,?_}};have:=y vs q;rw[H]at this;cases this;exact R.mono s
 stop:=λf U s S=>{vs,ay S<|ay s h,by rw[r.length];apply yN}
def BE{K:Φ}{lo:Int}:mV K (Rp lo n) HF ((List.range n).map λi=>PyData.int<|lo+(i:Nat)) where
 go:=λi d f U e S s=>by
  rw[zO]at e;let(j,J,rfl):=ag e;let(H,Y):=List.getElem?_eq_some_iff.mp J;have z:=by simpa using H
  have:j=i:=by rw[<-Y];simp
  subst this;exact{z,λx w z=>by let(E,X):=z;exact {U,by rw[E];exact .refl s,by simp[Rep,X]}}
 stop:=λf U S s=>by
  show n<=_;simp
section
variable {X:Cx}{tg l e:γ}{f:Env->Δ D}{fs:Env->Δ (Γ D)}{pos p:Pos}
def r6(h:PI X tg l t)(i:∀σ H R,t' σ H R->t σ H R):PI X tg l t':=λp s σ H R I q=>h p s σ H R I<|i σ H R q
def Oi(L:PE X l tl):PI X tg l (λσ H R=>tl σ H λx c=>∃a,x=.ref a/\((∃xs,ik X.K c a xs/\R (RY X.K a) c)\/∃xs,fP X.K c a xs/\R (SO X.K a) c)):=by
 refineλp s σ H R I h=>b9 (L p s σ H _ I h) λv S z=>?_;let(x,c,i,r1,d):=z;let(a,e,q):=d;subst e;cases r1;rcases q with ⟨xs,Q,q⟩|⟨xs,Q,q⟩
 .let(U,r,P,Z):=i.list Q;refine qK P.isList {S.heap.objs.size,[S.heap.objs.size],_,_,c,rfl,i.kept λb o=>zV _,ES a _,{_,zY _ rfl,rfl,rfl},λb B=>?_,q};cases List.mem_singleton.mp B;exact i.VV (yN _) i.fresh
 .let(U,r,P,Z):=i.tuple Q;refine xR (P) {S.heap.objs.size,[S.heap.objs.size],_,_,c,rfl,i.kept λb o=>zV _,BP a _,{_,zY _ rfl,rfl,rfl},λb B=>?_,q};cases List.mem_singleton.mp B;exact i.VV (yN _) i.fresh
def bu(f:Env->Δ D):Env->Δ (Γ D):=λa=>(f a).bind gO
def OZ(h:DE X l f):DI X tg l (bu f):=r6 (Oi h) λk H R z=>by
 let(c,i,D,sm,e,F,q):=z;let(x,d,F):=bs F;refine{c,i,x,sm,e,d,λj b U g r1=>?_};rcases mj F with rfl|rfl
 .let(a,v,rfl,s,r):=r1;exact{a,rfl,.inr {v,ay g.fh s,q _ b U g<|Ho s r}}
 .let(a,v,rfl,s,r):=r1;exact{a,rfl,.inl {v,g.fh.seq s,q _ b U g<|Ea s r}}
def FF(i:Int):θ:=decide (-(2^62)<=i)&&decide (i<2^62)
def md:Γ D->Δ (Γ D)
 |[.int j]=>if FF j then↑((List.range j.toNat).map λi=>PyData.int ((i:Nat):Int))else none
 |_=>none
def zh(h:md ds=↑es):∃j,ds=[.int j]/\FF j=true/\es=(List.range j.toNat).map λi=>PyData.int ((i:Nat):Int):=by
 unfold md at h;split at h
 .split at h
  .cases h;exact{_,rfl,‹_›,rfl}
  .cases h
 .cases h
def cO(fs:Env->Δ (Γ D)):Env->Δ (Γ D):=λa=>(fs a).bind md
def GY(B:iN X "range" (.type "range"))(h:DA X [e] fs)(hs:starEach [e] X.env=[(false,eval e X.env)]:=by rfl):DI X tg (.Call (.Name "range" p) [e] [] pos) (cO fs):=
 r6 (Fn B.gl B.mg h hs) λk H R z=>by
  let(F,i,s,sm,o,f,q):=z;let(x,d,f):=bs f;let(j,rfl,J,rfl):=zh f;refine{F,i,_,sm,o,d,λS c U g r1=>?_};let(v,r,rfl,a,b):=r1.cons_inv;rw[b.nil_inv];simp[Rep]at a;subst a;unfold FF at J;rw[zF]at J;refine{j,rfl,yR J.1,yR J.2,q _ c U g ?_};have:=BE (K:=X.K) (HF:=U) (lo:=0) (n:=j.toNat);simpa using this
def Pr(K:Φ)(f:Env->D->Δ Env):TG:=λv e H Q=>∃F c d b,aA F H/\cw K F c e/\Rep K F d v/\f c d=↑b/\∀a,cw K F b a->cw K F c a->Q a H
def DG(X:Cx)(tg:γ)(f:Env->D->Δ Env):Prop:=PG X tg<|Pr X.K f
def oN(h:PG X tg t)(i:∀v σ H Q,t' v σ H Q->t v σ H Q):PG X tg t':=λp s σ H v u Q I r q=>h p s σ H v u Q I r<|i v σ H Q q
def isFree(ρ:Env)(i:Nat):θ:=((ρ[i]?).getD none).isNone
def qm{K:Φ}(o:cw K HF ρ σ)(r:Rep K HF d v):cw K HF (ρ.set i<|↑d) (σ.set i<|↑v):=by
 refine{λj e h=>?_,by rw[yD,yD];exact o.len,o.tb};rw[xI]at h ⊢;by_cases U:i=j
 .rw[yM U]at h ⊢;by_cases l:i<ρ.length
  .rw[yM l]at h;cases h;rw[yM<|zP l o.len];exact{v,rfl,r}
  .rw[yO l]at h;cases h
 .rw[yO U]at h ⊢;exact o.get j e h
def xn{K:Φ}(o:cw K HF ρ σ)(f:isFree ρ i=true):cw K HF ρ (σ.set i<|↑v):=by
 refine{λj e h=>?_,by rw[yD];exact o.len,o.tb};have U:i≠j:=by
  intro z;subst z;unfold isFree at f;rw[h]at f;cases f
 rw[xI,yO U];exact o.get j e h
def fG(i:Nat):Env->D->Δ Env:=λa d=>if isFree a i=true then↑(a.set i<|↑d)else none
def K8(i:Nat)(n:X.N.Nodup)(hi:X.N[i]?=↑x)(a:Loc X.env.scope x)(f:X.fn x=true\/X.env.scope.names.lookup x=↑.local:=by first|exact .inl rfl|exact .inr rfl|assumption):DG X (.Name x pos) (fG i):=
 oN (dq n hi a f) λv g H Q z=>by
  let(F,c,d,b,sm,e,r,f,q):=z;unfold fG at f;split at f
  .cases f;exact q _ (qm e r)<|xn e ‹_›
  .cases f
def il(i j:Nat):Env->D->Δ Env:=λa d=>match d with
 |.tuple [x,y]=>if isFree a i=true/\isFree a j=true then↑((a.set i<|↑x).set j<|↑y)else none
 |_=>none
def Ot(i j:Nat){px py:Pos}{k:Nat}(hc:X.calm=true)(n:X.N.Nodup)(hi:X.N[i]?=↑x)(l:Loc X.env.scope x)(J:X.N[j]?=↑y)(m:Loc X.env.scope y)
  (f:X.fn x=true\/X.env.scope.names.lookup x=↑.local:=by first|exact .inl rfl|exact .inr rfl|assumption)(Y:X.fn y=true\/X.env.scope.names.lookup y=↑.local:=by first|exact .inl rfl|exact .inr rfl|assumption) :
  DG X (.Tuple [.Name x px,.Name y py] k pos) (il i j):=
 oN (wq hc<|cZ (dq n hi l f)<|cZ (dq n J m Y) qu) λv C H Q z=>by
  let(F,w,d,t,sm,e,r,f,q):=z;unfold il at f;split at f
  .split at f
   .rename_i b;cases f;let(a,S,rfl,s,R):=r;let(o,r1,rfl,A,B):=R.cons_inv;let(p,u,rfl,c,g):=B.cons_inv;rw[g.nil_inv]at s;exact{a,_,rfl,ay sm s,rfl,o,_,rfl,p,_,rfl,rfl,q _ (qm (qm e A) c)<|xn (xn e b.1) b.2}
   .cases f
  .cases f
def df(tgt:Env->D->Δ Env)(tt:Env->Δ θ)(te:Env->Δ D)(ρ:Env):Γ D->Δ (Γ D)
 |[]=>↑[]
 |d::s=>(tgt ρ d).bind λa=>(tt a).bind λb=>if b=true then(te a).bind λx=>(df tgt tt te ρ s).map (x::·)else df tgt tt te ρ s
def Jj(X:Cx)(ifs:Γ γ)(f:Env->Δ θ):Prop:=Pm X ifs<|JM X.K f
def Lc:Jj X [] (λ_=>↑true):=λp s a H Q I z=>by let(F,c,b,sm,e,f,q):=z;exact Kl p s a H Q I (by cases f;exact q H F<|.refl sm)
def Lo(h:DT X c t):Jj X [c] t:=Jz h
def iE(t:Nat)(cs:Γ Nat)(σ:L2.St):L2.St:=List.replicate t none++cs.map λj=>(σ[j]?).getD none
def eK(t:Nat)(cs:Γ Nat)(ρ:Env):Env:=List.replicate t none++cs.map λj=>(ρ[j]?).getD none
def Di{K:Φ}{cs:Γ Nat}(E:cw K HF ρ σ):cw K HF (eK t cs ρ) (iE t cs σ):=by
 refine{λi d h=>?_,by simp[eK,iE],E.tb};unfold eK at h;unfold iE;by_cases H:i<t
 .rw[yT<|by simpa using H,yY,yM H]at h;cases h
 .rw[yU<|by simpa using H,zO,xM]at h;rw[yU<|by simpa using H,zO,xM];let(j,J,h):=ag h;rw[J];cases e:ρ[j]? with
  |none=>rw[e]at h;cases h
  |some o =>
   rw[e]at h;subst (h);let(v,a,b):=E.get j d e;exact{v,by show some ((σ[j]?).getD none)=_;rw[a];rfl,b}
def av(t:Nat)(cs:Γ Nat)(fi:Env->Δ (Γ D))(tgt:Env->D->Δ Env)(tt:Env->Δ θ)(te:Env->Δ D):Env->Δ (Γ D):=λa=>(fi a).bind λd=>(df tgt tt te (eK t cs a) d).bind small
variable {elt iter:γ}{ifs:Γ γ}{scope:ζ}{N:Γ Str}{t:Nat}{cs:Γ Nat}{fi:Env->Δ (Γ D)}{tgt:Env->D->Δ Env}{tt:Env->Δ θ}{te:Env->Δ D}
def D1{HF H U C:Hp}{ds O:Γ D}{Q:VK}{J:It}{σ:L2.St}{ρ:Env}(eo:cw X.K HF ρ σ)(ho:df tgt tt te (eK t cs ρ) ds=↑O)(hz:O.length<=sizeLine)(g1:bc HF H U C)(it:mV X.K J U ds)
  (q:∀a vs H' US,bc HF H US H'->H a=none->US a=none->H' a=↑(.lst vs)->au X.K US O vs->Q (.ref a) H'):∀Dn,C Dn=none->AQ J (Pr X.K tgt) (JM X.K tt) (tD X.K te) Dn (iE t cs σ) (upd C Dn<|.lst []) Q:=λDn F=>by
 have M:=Di (t:=t) (cs:=cs)<|eo.mono g1.ff;have T:U Dn=none:=g1.fh.free F;refine⟨λi m p H'=>m+i=ds.length/\∃US S s r,bc U C US H'/\US Dn=none/\H' Dn=↑(.lst s)/\au X.K US S s/\cw X.K US (eK t cs ρ) p/\df tgt tt te (eK t cs ρ) (ds.drop i)=↑r/\S++r=O,
  {ds.length,rfl,U,[],[],O,.own g1.fh F,T,ar,au.nil,M,ho,rfl},?_⟩
 rintro i m p H' ⟨hm,US,S,s,r,G,k,c,R,L,hc,Y⟩;by_cases hi:i<ds.length
 .refine .inr ?_;have hd:ds.drop i=ds[i]::ds.drop (i+1):=kY hi;have he:ds[i]?=↑ds[i]:=List.getElem?_eq_some_iff.mpr {hi,rfl};generalize ds[i]=d at hd he;rw[hd]at hc;unfold df at hc;let(j,h1,hc):=bs hc;let(b,h2,hc):=bs hc;let(go,ZC):=it.go i d H' US he G.ff G.fh;refine{go,λx H2 y=>?_};let(Z,f,rx):=ZC x H2 y;refine{Z,_,d,j,f.fh,L.mono f.ff,rx,h1,λWW E l=>?_};refine{Z,j,b,f.fh,E,h2,λH3 Vx g=>?_};have N:∀W I,bc US H' W I->W Dn=none:=λW I u=>by
   cases e4:W Dn with
   |none=>rfl
   |some o =>
    rcases u.nw Dn o e4 with z|z
    .rw[k]at z;cases z
    .rw[c]at z;cases z
  cases b with
  |false =>
   refine rM {m-1,by lia,by lia,Vx,S,s,r,(G.trans f).trans g,N _ _<|f.trans g,(f.trans g).hh _ _ c,R.mono (f.trans g).ff,l.mono g.ff,by simpa using hc,Y}
  |true =>
   rw[yM rfl]at hc;let(z,h3,hc):=bs hc;let(A,h4,rfl):=ag hc;refine so {Vx,j,z,g.fh,E.mono g.ff,h3,λv I W u rv=>?_};have B:=(f.trans g).trans u;have n4:=N _ _ B;have P:=B.hh _ _ c;have n:s.length<sizeLine:=by
    have e1:=R.length;have e2:O.length=S.length+(A.length+1):=by rw[<-Y];simp
    lia
   refine{s,P,n,m-1,by lia,by lia,W,S++[z],s++[v],A,?_,n4,ar,(R.mono B.ff).append<|au.cons rv au.nil,l.mono<|g.ff.trans u.ff,h4,by simp[<-Y]};have w:=G.trans B;refine{λb o e=>?_,w.ff,λb o e=>?_,w.nw}
   .rw[ai<|aF e F];exact w.hh b o e
   .rw[ai<|aF e n4];exact w.fh b o e
 .have Wz:i=ds.length:=by lia
  subst Wz;rw[List.drop_length]at hc;cases hc;rw[qF]at Y;subst Y;exact .inl {it.stop H' US G.ff G.fh,q Dn s H' US (g1.trans G) (g1.hh.free F) k c R}
def Iu:∀σ H Q,tF X.K (av t cs fi tgt tt te) σ H Q->I0 (TK X.K fi) (Pr X.K tgt) (JM X.K tt) (tD X.K te) (iE t cs) σ H Q:=λσ H Q z=>by
 let(F,b,O,sm,e,f,q):=z;let(d,x,f):=bs f;let(a,o,f):=bs f;let(rfl,Z):=cU f;refine{F,b,d,sm,e,x,λJ c U g it=>D1 e o Z g it q}
def LA(hc:X.calm=true)(S:g9 X scope N (iE t cs))(hi:DI X tg iter fi)
  (Y:∀fp s H,DG (aL X scope N fp s H) tg tgt/\Jj (aL X scope N fp s H) ifs tt/\DE (aL X scope N fp s H) elt te)
  (hs:∀x,foldedSetIterable iter X.env x=pure x:=by intro _;rfl):DF X (.ListComp elt [{tg,iter,ifs,0}] scope pos) (av t cs fi tgt tt te):=aE (C9 (g:=Pr X.K tgt) (tt:=JM X.K tt) (te:=tD X.K te) hc S hi Y hs) Iu
end
set_option genInjectivity true in
inductive Slot where
 |UQ|val (d:D)|own (ds:Γ D)|tab (ks:Γ (D×D))|obj (k:Nat)
abbrev ak:=Γ Slot
def Slot.all:Slot->Δ D|.UQ=>none|.val d=>↑d|.own s=>↑(.list s)|.tab _=>none|.obj _=>none
def Slot.Vt:Slot->Δ D|.val d=>↑d|_=>none
def Slot.ab8:Slot->Slot|.own d=>.val (.list d)|s=>s
def aS(ρ:ak):Env:=ρ.map Slot.all
def bh(ρ:ak):Env:=ρ.map Slot.Vt
def hand(fz:Γ Nat):Nat->ak->ak
 |_,[]=>[]
 |k,s::r=>(if fz.contains k=true then s.ab8 else s)::hand fz (k+1) r
def fu(fz:Γ Nat):∀ρ k i,(hand fz k ρ)[i]?=(ρ[i]?).map λs=>if fz.contains (k+i)=true then s.ab8 else s
 |[],k,i=>by rfl
 |s::r,k,0=>by rfl
 |s::r,k,i+1=>by
  simp?[hand,yZ];rw[fu fz r _ i,Nat.add_assoc,Nat.add_comm 1 i]
def AA(fz:Γ Nat):∀ρ k,(hand fz k ρ).length=ρ.length
 |[],k=>rfl
 |s::r,k=>by simp[hand,AA fz r _]
structure Hq where
 h:Hp
 ad:Nat->Ψ
instance:CoeFun Hq λ_=>Ψ->Δ HO:={Hq.h}
instance:Coe Hq Hp:={Hq.h}
structure fH(K:W.Frag)(UO:Hp)(UP:Hq)(HF H:Hp)(ρ:ak)(σ:L2.St):Prop where
 gr:bc UO UP HF H
 val:∀(i:Nat)(d:D),ρ[i]?=↑(.val d)->∃v,σ[i]?=↑(↑v)/\Rep K HF d v
 own:∀(i:Nat)(ds:Γ D),ρ[i]?=↑(.own ds)->∃a vs,σ[i]?=↑(↑(.ref a))/\H a=↑(.lst vs)/\HF a=none/\UP a=none/\au K HF ds vs
 inj:∀(i j:Nat)(ds es:Γ D)(a:Ψ),ρ[i]?=↑(.own ds)->ρ[j]?=↑(.own es)->σ[i]?=↑(↑(.ref a))->σ[j]?=↑(↑(.ref a))->i=j
 len:ρ.length<=σ.length
 tb:cm K HF
 tab:∀(i:Nat)(ks:Γ (D×D)),ρ[i]?=↑(.tab ks)->∃a ep Vn,σ[i]?=↑(↑(.ref a))/\H a=↑(.dT ep Vn)/\HF a=none/\UP a=none/\True/\eA K HF ks Vn
 one:∀(i j:Nat)(ks ls:Γ (D×D)),ρ[i]?=↑(.tab ks)->ρ[j]?=↑(.tab ls)->i=j
 ob:∀(i k:Nat),ρ[i]?=↑(.obj k)->σ[i]?=↑(↑(.ref<|UP.ad k))
section
variable {K:Φ}
def fH.all(S:fH K UO UP HF H ρ σ):cw K H (aS ρ) σ:=by
 refine{λi d h=>?_,by simpa [aS]using S.len,S.tb.mono S.gr.fh};rw[aS,zO]at h;let(s,c,h):=ag h;cases s with
 |UQ=>cases h
 |val e=>cases h;let(v,a,b):=S.val i _ c;exact{v,a,b.mono S.gr.fh}
 |own D =>
  cases h;let(a,j,E,f,l,_,g):=S.own i D c;exact{.ref a,E,by exact{a,j,rfl,.of f,g.mono S.gr.fh}}
 |tab k=>cases h
 |obj k=>cases h
def fH.Vt(S:fH K UO UP HF H ρ σ):cw K HF (bh ρ) σ:=by
 refine{λi d h=>?_,by simpa [bh]using S.len,S.tb};unfold bh at h;rw[zO]at h;let(s,a,h):=ag h;cases s with
 |UQ=>cases h
 |val e=>cases h;exact S.val i _ a
 |own D=>cases h
 |tab k=>cases h
 |obj k=>cases h
def bc.VF(g:bc HF H US H')(b:HF a=none)(E:H a=↑u):US a=none:=by
 cases e:US a with
 |none=>rfl
 |some o =>
  rcases g.nw a o e with z|z<;>grind
def fH.grow(S:fH K UO UP HF H ρ σ)(g:bc HF H US H'):fH K UO UP US H' ρ σ where
 gr:=S.gr.trans g
 val:=λi d h=>let ⟨v,a,b⟩:=S.val i d h;{v,a,b.mono g.ff}
 own:=λi s h=>by
  let(a,l,c,e,f,j,E):=S.own i s h;exact{a,l,c,g.hh _ _ e,g.VF f e,j,E.mono g.ff}
 inj:=S.inj
 len:=S.len
 tb:=S.tb.mono g.ff
 tab:=λi k h=>by
  let(a,p,n,c,e,f,j,E):=S.tab i k h;exact{a,p,n,c,g.hh _ _ e,g.VF f e,j,E.1,E.2.mono g.ff}
 one:=S.one
 ob:=S.ob
def fH.step(S:fH K UO UP HF H ρ σ)(g:aA H H'):fH K UO UP HF H' ρ σ:=S.grow {g,.refl _,S.gr.fh.trans g,λ_ _=>.inl}
def rO{ρ:ak}{fz:Γ Nat}{i:Nat}{k:Γ (D×D)}(h:(Dl.hand fz 0 ρ)[i]?=↑(Slot.tab k)):ρ[i]?=↑(Slot.tab k):=by
 rw[fu]at h;let(s,H,h):=ag h;cases s<;>(split at h<;>cases h)<;>exact H
def HI{ρ:ak}{fz:Γ Nat}{i k:Nat}(h:(Dl.hand fz 0 ρ)[i]?=↑(Slot.obj k)):ρ[i]?=↑(Slot.obj k):=by
 rw[fu]at h;let(s,H,h):=ag h;cases s<;>(split at h<;>cases h)<;>exact H
def fH.hand(S:fH K UO UP HF H ρ σ)(fz:Γ Nat):∃U,aA HF U/\fH K UO UP U H (hand fz 0 ρ) σ:=by
 let P:Ψ->Prop:=λa=>∃i D,fz.contains i=true/\ρ[i]?=↑(.own D)/\σ[i]?=↑(↑(.ref a));have C:=Classical.propDecidable;let U:Hp:=λa=>if P a then H a else HF a
 have w:∀a,P a->HF a=none/\UP a=none:=λa z=>by
  let(i,D,_,c,f):=z;let(A,u,E,m,q,r,n):=S.own i D c;rw[f]at E;cases E;exact{q,r}
 have p:aA HF U:=λb o e=>by
  show(if P b then H b else HF b)=↑o;by_cases h:P b
  .rw[(w b h).1]at e;cases e
  .rw[yO h];exact e
 have B:aA U H:=λb o e=>by
  have e:(if P b then H b else HF b)=↑o:=e;by_cases h:P b
  .rw[yM h]at e;exact e
  .rw[yO h]at e;exact S.gr.fh b o e
 refine{U,p,{S.gr.hh,S.gr.ff.trans p,B,λb o e=>?_},λi d h=>?_,λi D h=>?_,λi j D t a c f=>?_,by rw[AA];exact S.len,S.tb.mono p,λi g h=>?_,λi j g L c f=>S.one i j g L (rO c)<|rO f,λi k h=>S.ob i k<|HI h}
 .have e:(if P b then H b else HF b)=↑o:=e;by_cases h:P b
  .exact .inr (w b h).2
  .rw[yO h]at e;exact S.gr.nw b o e
 .rw[fu]at h;let(s,l,h):=ag h;rw[jC]at h;cases s with
  |UQ=>split at h<;>cases h
  |tab g=>split at h<;>cases h
  |obj g=>split at h<;>cases h
  |val e =>
   have:Slot.val e=Slot.val d:=by split at h<;>exact h
   cases this;let(v,a,b):=S.val i _ l;exact{v,a,b.mono p}
  |own D =>
   split at h
   .rename_i hc;cases h;let(a,u,E,m,q,r,n):=S.own i D l;refine{.ref a,E,?_};simp?[Rep];refine{a,u,rfl,.inl<|.inl ?_,n.mono p};show(if P a then H a else HF a)=_;rw[yM {i,D,hc,l,E}];exact m
   .cases h
 .rw[fu]at h;let(s,l,h):=ag h;rw[jC]at h;cases s with
  |UQ=>split at h<;>cases h
  |tab g=>split at h<;>cases h
  |obj g=>split at h<;>cases h
  |val e=>split at h<;>cases h
  |own t =>
   split at h
   .cases h
   .rename_i hc;cases h;let(a,u,E,m,q,r,n):=S.own i D l;refine{a,u,E,m,?_,r,n.mono p};show(if P a then H a else HF a)=none;rw[yO ?_]
    .exact q
    .rintro⟨j,t,J,c,f⟩;have:=S.inj i j D t a l c E f;subst this;exact hc J
 .rw[fu]at c f;let(s,l,c):=ag c;let(y,W,f):=ag f;rw[jC]at c f;cases s with
  |UQ=>split at c<;>cases c
  |tab g=>split at c<;>cases c
  |obj g=>split at c<;>cases c
  |val e=>split at c<;>cases c
  |own X =>
   cases y with
   |UQ=>split at f<;>cases f
   |tab g=>split at f<;>cases f
   |obj g=>split at f<;>cases f
   |val e=>split at f<;>cases f
   |own Y=>exact S.inj i j _ _ a l W
 .let(a,x,N,E,m,q,r,n):=S.tab i g<|rO h;refine{a,x,N,E,m,?_,r,n.1,n.2.mono p};show(if P a then H a else HF a)=none;rw[yO ?_]
  .exact q
  .rintro⟨j,t,J,c,f⟩;let(A,u,f1,f2,_):=S.own j t c;rw[f]at f1;cases f1;rw[m]at f2;cases f2
def fH.VD(S:fH K UO UP HF H ρ σ)(r:Rep K HF d v):fH K UO UP HF H (ρ.set i<|.val d) (σ.set i<|↑v):=by
 have n:∀{j:Nat}{s:Slot},(ρ.set i<|.val d)[j]?=↑s->(∀e,s≠.val e)->i≠j/\ρ[j]?=↑s:=λ{j s}h N=>by
  rw[xI]at h;by_cases U:i=j
  .rw[yM U]at h;split at h
   .cases h;exact absurd rfl (N _)
   .cases h
  .rw[yO U]at h;exact{U,h}
 refine{S.gr,λj e h=>?_,λj D h=>?_,λj k D E a b c g l=>?_,by rw[yD,yD];exact S.len,S.tb,λj f h=>?_,λj k f m b c=>S.one j k f m (n b λe z=>by cases z).2 (n c λe z=>by cases z).2,λj k h=>by rw[xI,yO (n h λe z=>by cases z).1];exact S.ob j k (n h λe z=>by cases z).2}
 .rw[xI]at h ⊢;by_cases U:i=j
  .rw[yM U]at h ⊢;split at h
   .rename_i L;cases h;rw[yM<|zP L S.len];exact{v,rfl,r}
   .cases h
  .rw[yO U]at h ⊢;exact S.val j e h
 .let(U,h):=n h λe z=>by cases z
  rw[xI,yO U];exact S.own j D h
 .let(o,b):=n b λe z=>by cases z
  let(p,c):=n c λe z=>by cases z
  rw[xI,yO o]at g;rw[xI,yO p]at l;exact S.inj j k D E a b c g l
 .let(U,h):=n h λe z=>by cases z
  rw[xI,yO U];exact S.tab j f h
def fH.aec(S:fH K UO UP HF H ρ σ)(hs:aA H H')(g:H' a=↑(.lst vs))(l:HF a=none)(m:UP a=none)(r:au K HF ds vs)
  (F:∀j es,i≠j->ρ[j]?=↑(.own es)->σ[j]?≠some (↑(.ref a))):fH K UO UP HF H' (ρ.set i<|.own ds) (σ.set i<|↑(.ref a)):=by
 have S:=S.step hs;have o:∀{j k:Nat},(ρ.set i<|.own ds)[j]?=↑(.obj k)->i≠j/\ρ[j]?=↑(.obj k):=λ{j k}h=>by
  rw[xI]at h;by_cases U:i=j
  .rw[yM U]at h;split at h<;>cases h
  .rw[yO U]at h;exact{U,h}
 have n:∀{j:Nat}{s:Γ (D×D)},(ρ.set i<|.own ds)[j]?=↑(.tab s)->i≠j/\ρ[j]?=↑(.tab s):=λ{j s}h=>by
  rw[xI]at h;by_cases U:i=j
  .rw[yM U]at h;split at h<;>cases h
  .rw[yO U]at h;exact{U,h}
 refine{S.gr,λj e h=>?_,λj es h=>?_,λj k x y b d f E c=>?_,by rw[yD,yD];exact S.len,S.tb,λj s h=>by rw[xI,yO (n h).1];exact S.tab j s (n h).2,λj k s p g l=>S.one j k s p (n g).2 (n l).2,λj k h=>by rw[xI,yO (o h).1];exact S.ob j k (o h).2}
 .rw[xI]at h ⊢;by_cases U:i=j
  .rw[yM U]at h;split at h<;>cases h
  .rw[yO U]at h ⊢;exact S.val j e h
 .rw[xI]at h ⊢;by_cases U:i=j
  .rw[yM U]at h ⊢;split at h
   .rename_i L;cases h;rw[yM<|zP L S.len];exact{a,vs,rfl,g,l,m,r}
   .cases h
  .rw[yO U]at h ⊢;exact S.own j es h
 .rw[xI]at d f E c;by_cases U:i=j
  .by_cases W:i=k
   .exact U.symm.trans W
   .rw[yM U]at d E;rw[yO W]at f c;split at E
    .cases E;exact absurd c<|F k y W f
    .cases E
  .by_cases W:i=k
   .rw[yO U]at d E;rw[yM W]at f c;split at c
    .cases c;exact absurd E<|F j x U d
    .cases c
   .rw[yO U]at d E;rw[yO W]at f c;exact S.inj j k x y b d f E c
end
set_option genInjectivity true in
inductive Out where
 |nx (ρ:ak)|rt (d:D)
def DN(K:Φ)(UO:Hp)(UP:Hq)(HF:Hp)(E:Ends):Out->Prop
 |.nx b=>∀a H U,fH K UO UP U H b a->aA HF U->E.nx a H
 |.rt d=>∀v H U,bc UO UP U H->Rep K U d v->E.rt v H
def tS(K:Φ)(UO:Hp)(UP:Hq)(g:ak->Δ Out):TS:=λE b H=>∃F a o,fH K UO UP F H a b/\g a=↑o/\DN K UO UP F E o
def DS(X:Cx)(UO:Hp)(UP:Hq)(st:Ω)(g:ak->Δ Out):Prop:=PS X st<|tS X.K UO UP g
def FB(X:Cx)(UO:Hp)(UP:Hq)(st:Γ Ω)(g:ak->Δ Out):Prop:=xv X st<|tS X.K UO UP g
section
variable {X:Cx}{UO:Hp}{UP:Hq}{st:Ω}{rest:Γ Ω}{g g1 g2:ak->Δ Out}{e:γ}{pos:Pos}
def bH(h:PS X st t)(i:∀E σ H,t' E σ H->t E σ H):PS X st t':=λp s σ H E I q=>h p s σ H E I<|i E σ H q
def qv(h:xv X rest t)(i:∀E σ H,t' E σ H->t E σ H):xv X rest t':=λp s σ H E I q=>h p s σ H E I<|i E σ H q
def lY:ak->Δ Out:=λa=>↑(.nx a)
def aG(g1 g2:ak->Δ Out):ak->Δ Out:=λb=>(g1 b).bind fun|.nx a=>g2 a|.rt d=>↑(.rt d)
def DN.mono{K:Φ}(s:aA HF US)(h:DN K UO UP HF E o):DN K UO UP US E o:=by
 cases o with
 |nx c=>exactλa H U S b=>h a H U S (s.trans b)
 |rt d=>exact h
def J2:FB X UO UP [] lY:=qv Cy λE a H z=>by let(F,b,o,S,g,q):=z;cases g;exact q a H F S<|.refl _
def An(c:DS X UO UP st g1)(e:FB X UO UP rest g2):FB X UO UP (st::rest) (aG g1 g2):=qv (yd c e) λE k H z=>by
 let(F,f,o,S,g,q):=z;let(o1,h,g):=bs g;refine{F,f,o1,S,h,?_};cases o1 with
 |nx a=>exactλi j U b s=>{U,a,o,b,g,q.mono s}
 |rt d=>cases g;exact q
def CU(H:DS X UO UP st g1):FB X UO UP [st] g1:=uY H
def lJ(t:Env->Δ θ)(g1 g2:ak->Δ Out):ak->Δ Out:=λa=>(t<|aS a).bind λb=>if b=true then g1 a else g2 a
def Mq(hc:DT X c t)(A:FB X UO UP a g1)(B:FB X UO UP b g2):DS X UO UP (.If c a b pos) (lJ t g1 g2):=bH (MK hc A B) λE f H z=>by
 let(F,d,o,S,g,q):=z;let(b,h,g):=bs g;refine{H,aS d,b,.refl _,S.all,h,λe U G=>?_};cases b with
 |true=>exact so {F,d,o,S.step G.hh,g,q}
 |false=>exact rM {F,d,o,S.step G.hh,g,q}
def zp:∀ρ k n,k+ρ.length<=n->bh (hand (List.range n) k ρ)=aS ρ
 |[],k,n,h=>rfl
 |s::r,k,n,h=>by
  have i:=zp r (k+1) n (by grind);unfold bh aS at i ⊢;rw[hand,yM (show(List.range n).contains k=true by grind),zI,zI,i];cases s<;>rfl
def aV(f:Env->Δ D):ak->Δ Out:=λa=>(f<|aS a).map Out.rt
def Ir(h:DE X e f):DS X UO UP (.Return (↑e) pos) (aV f):=bH (Bf h) λE i H z=>by
 let(F,a,o,S,g,q):=z;let(d,h,rfl):=ag g;let(T,c,s):=S.hand _;refine{T,aS a,d,s.gr.fh,?_,h,λv b U G=>q v b U<|s.gr.trans G};have:=s.Vt;rw[zp a 0 a.length<|by lia]at this;lia
def nP:D->θ|.none=>true|.bool _=>true|.int _=>true|.str _=>true|_=>false
def rG{K:Φ}(h:nP d=true)(r:Rep K HF d v):Rep K US d v:=by
 cases d<;>cases h<;>(simp[Rep]at r ⊢;lia)
mutual
def lT:D->θ
 |.tuple d=>u0 d
 |.list _=>false
 |.dict _=>false
 |_=>true
def u0:Γ D->θ
 |[]=>true
 |d::s=>lT d&&u0 s
end
mutual
theorem yh{K:Φ}{H b:Hp}(ht:∀a xs,fP K H a xs->fP K b a xs):∀{d:D}{v:V},lT d=true->Rep K H d v->Rep K b d v
 |.none,_,_,r=>by simp?[Rep]at r ⊢;exact r
 |.bool _,_,_,r=>by simp?[Rep]at r ⊢;exact r
 |.int _,_,_,r=>by simp?[Rep]at r ⊢;exact r
 |.str _,_,_,r=>by simp?[Rep]at r ⊢;exact r
 |.tuple S,v,h,r=>by
  simp?[lT]at h;simp?[Rep]at r ⊢;let(a,s,e,q,R):=r;exact{a,s,e,ht _ _ q,uu ht h R}
 |.list _,_,h,_=>by simp[lT]at h
 |.dict _,_,h,_=>by simp[lT]at h
theorem uu{K:Φ}{H c:Hp}(ht:∀a xs,fP K H a xs->fP K c a xs):∀{ds:Γ D}{vs:Γ V},u0 ds=true->au K H ds vs->au K c ds vs
 |[],_,_,r=>by simp?[au]at r ⊢;exact r
 |d::ds,vs,h,r=>by
  simp?[u0,zF]at h;simp?[au]at r ⊢;let(v,R,e,a,b):=r;exact{v,R,e,yh ht h.1 a,uu ht h.2 b}
end
def fH.back{K:Φ}(S:fH K UO UP HF H ρ σ)(y:fH K UO UP UT H ρ1 σ)(L:aA HF UT)(G:bc UT H US H'):∃U,aA HF U/\fH K UO UP U H' ρ σ/\(∀d v,lT d=true->Rep K US d v->Rep K U d v)/\∀b o,U b=↑o->US b=↑o:=by
 have M:=Classical.propDecidable;let O:Ψ->Prop:=λa=>(∃ (i:Nat) (g:Γ D),ρ[i]?=↑(Slot.own g)/\σ[i]?=↑(↑(V.ref a)))\/∃ (i:Nat) (k:Γ (D×D)),ρ[i]?=↑(Slot.tab k)/\σ[i]?=↑(↑(V.ref a));let U:Hp:=λa=>if O a then none else US a
 have x:∀a,O a->HF a=none/\((∃s,H a=↑(.lst s))\/∃p N,H a=↑(.dT p N)):=λa z=>by
  rcases z with ⟨i,g,t,f⟩|⟨i,k,t,f⟩
  .let(F,s,E,c,j,_,_):=S.own i g t;rw[f]at E;cases E;exact{j,.inl ⟨s,c⟩}
  .let(F,p,N,E,c,j,_,_):=S.tab i k t;rw[f]at E;cases E;exact{j,.inr ⟨p,N,c⟩}
 have f:∀a,¬O a->U a=US a:=λa n=>yO n;have u:∀a,O a->U a=none:=λa n=>yM n;have A:aA HF U:=λb o e=>by
  have J:¬O b:=λz=>by rw[(x b z).1]at e;cases e
  rw[f b J];exact G.ff b o<|L b o e
 have B:∀b o,U b=↑o->US b=↑o:=λb o e=>by
  by_cases z:O b
  .rw[u b z]at e;cases e
  .rwa [f b z]at e
 have w:=y.gr.trans G;refine{U,A,{{w.hh,S.gr.ff.trans A,λb o e=>G.fh b o<|B b o e,λb o e=>w.nw b o<|B b o e},λi d h=>?_,λi g h=>?_,S.inj,S.len,S.tb.mono A,λi k h=>?_,S.one,S.ob},λd v I r=>yh (λa P q=>?_) I r,B}
 .let(v,E,r):=S.val i d h;exact{v,E,r.mono A}
 .let(a,s,E,c,j,m,l):=S.own i g h;exact{a,s,E,G.hh _ _ c,u a<|.inl ⟨i,g,h,E⟩,m,l.mono A}
 .let(a,p,N,E,c,j,m,l):=S.tab i k h;exact{a,p,N,E,G.hh _ _ c,u a<|.inr ⟨i,k,h,E⟩,m,l.1,l.2.mono A}
 .have T:∀o,US a=↑o->(∀s,o≠.lst s)->(∀p N,o≠.dT p N)->U a=↑o:=λo e C X=>by
   by_cases z:O a
   .rcases (x a z).2 with ⟨s,c⟩|⟨p,s,c⟩
    .have:=G.hh _ _ c;rw[G.fh a o e]at this;cases this;exact absurd rfl (C s)
    .have:=G.hh _ _ c;rw[G.fh a o e]at this;cases this;exact absurd rfl (X p s)
   .rw[f a z];exact e
  rcases q with (q|⟨o,q⟩)|q
  .exact .inl<|.inl<|T _ q (λs z=>by cases z) λp s z=>by cases z
  .exact .inl<|.inr {o,T _ q (λs z=>by cases z) λp s z=>by cases z}
  .exact .inr q
def aO(i:Nat)(fz:Γ Nat)(f:Env->Δ D):ak->Δ Out:=λa=>(f<|aS a).bind λd=>if nP d=true then↑(.nx<|a.set i<|.val d)else(f<|bh<|hand fz 0 a).map λb=>.nx<|(if lT b=true then a else hand fz 0 a).set i<|.val b
def Pu:∀E σ H,tS X.K UO UP (aO i fz f) E σ H->Gn (tD X.K f) (yk i) E σ H:=λE σ H z=>by
 let(F,l,o,S,g,q):=z;let(d,h,g):=bs g;split at g
 .rename_i j;cases g;exact{H,aS l,d,.refl _,S.all,h,λv a U G r=>q _ a F ((S.step G.hh).VD<|rG j r)<|.refl _}
 .let(D,e,rfl):=ag g;let(T,b,s):=S.hand fz;refine{T,_,D,s.gr.fh,s.Vt,e,λv a U G r=>?_};by_cases n:lT D=true
  .rw[yM n]at q;let(u,k,c,B,_):=S.back s b G;exact q _ a u (c.VD<|B D v n r) k
  .rw[yO n]at q;exact q _ a U ((s.grow G).VD r)<|b.trans G.ff
def Nj(i:Nat)(fz:Γ Nat)(H:X.N.Nodup)(hi:X.N[i]?=↑x)(a:Loc X.env.scope x)(E:DE X e f)(hs:swapsWith e (↑(.Name x pos')) pos.line X.env=pure false:=by rfl)
  (F:X.fn x=true\/X.env.scope.names.lookup x=↑.local:=by first|exact .inl rfl|exact .inr rfl|assumption):DS X UO UP (.Assign [.Name x pos'] e pos) (aO i fz f):=bH (sO H hi a E hs F) Pu
def bb(i:Nat)(fz:Γ Nat)(f:Env->Δ (Γ D)):ak->Δ Out:=λa=>(f<|bh<|hand fz 0 a).map λd=>.nx<|(hand fz 0 a).set i<|.own d
def IJ:∀E σ H,tS X.K UO UP (bb i fz f) E σ H->Gn (tF X.K f) (yk i) E σ H:=λE σ H z=>by
 let(m,t,o,S,k,q):=z;let(d,h,rfl):=ag k;let(T,l,s):=S.hand fz;refine{T,_,d,s.gr.fh,s.Vt,h,λa v c U G A F g r=>q _ c U ((s.grow G).aec (.refl _) g F (s.gr.hh.free A) r λj e _ J z=>?_)<|l.trans G.ff};let(b,u,n,p,_):=s.own j e J
 grind
def LM(i:Nat)(fz:Γ Nat)(H:X.N.Nodup)(hi:X.N[i]?=↑x)(a:Loc X.env.scope x)(E:DF X e f)(hs:swapsWith e (↑(.Name x pos')) pos.line X.env=pure false:=by rfl)
  (F:X.fn x=true\/X.env.scope.names.lookup x=↑.local:=by first|exact .inl rfl|exact .inr rfl|assumption):DS X UO UP (.Assign [.Name x pos'] e pos) (bb i fz f):=bH (sO H hi a E hs F) IJ
def Jx(i:Nat)(fz:Γ Nat){cs:Γ Nat}
  (hc:X.calm=true)(S:g9 X scope N (iE t cs))(hi:DI X tg iter fi)
  (b:∀fp s H,DG (aL X scope N fp s H) tg tgt/\Jj (aL X scope N fp s H) ifs tt/\DE (aL X scope N fp s H) elt te)
  (n:X.N.Nodup)(Y:X.N[i]?=↑y)(c:X.env.scope.names.lookup y=↑.local)
  (w:swapsWith (.ListComp elt [{tg,iter,ifs,0}] scope pos) (↑(.Name y py)) U.line X.env=pure true)
  (hs:∀x,foldedSetIterable iter X.env x=pure x:=by intro _;rfl):DS X UO UP (.Assign [.Name y py] (.ListComp elt [{tg,iter,ifs,0}] scope pos) U) (bb i fz<|av t cs fi tgt tt te):=
 bH (J0 (g:=Pr X.K tgt) (tt:=JM X.K tt) (te:=tD X.K te) hc S hi b n Y c w hs) λE a H q=>by
  have:=IJ E a H q;exact Iu a H _ this
def Ue(K:Φ)(UO:Hp)(UP:Hq)(f:ak->D->Δ ak):TG:=λv e H Q=>∃F c d a,fH K UO UP F H c e/\Rep K F d v/\f c d=↑a/\∀b,fH K UO UP F H a b->Q b H
def HQ(X:Cx)(UO:Hp)(UP:Hq)(tg:γ)(f:ak->D->Δ ak):Prop:=PG X tg<|Ue X.K UO UP f
def wY(i:Nat):ak->D->Δ ak:=λa d=>↑(a.set i<|.val d)
def FV(i:Nat)(n:X.N.Nodup)(hi:X.N[i]?=↑x)(a:Loc X.env.scope x)(f:X.fn x=true\/X.env.scope.names.lookup x=↑.local:=by first|exact .inl rfl|exact .inr rfl|assumption):HQ X UO UP (.Name x pos) (wY i):=
 oN (dq n hi a f) λv e H Q z=>by let(F,c,d,b,S,r,f,q):=z;cases f;exact q _<|S.VD r
def j4(i j:Nat):ak->D->Δ ak:=λa d=>match d with
 |.tuple [x,y]=>↑((a.set i<|.val x).set j<|.val y)
 |_=>none
def Lk(i j:Nat){px py:Pos}{k:Nat}(hc:X.calm=true)(n:X.N.Nodup)(hi:X.N[i]?=↑x)(e:Loc X.env.scope x)(J:X.N[j]?=↑y)(g:Loc X.env.scope y)
  (f:X.fn x=true\/X.env.scope.names.lookup x=↑.local:=by first|exact .inl rfl|exact .inr rfl|assumption)(Y:X.fn y=true\/X.env.scope.names.lookup y=↑.local:=by first|exact .inl rfl|exact .inr rfl|assumption) :
  HQ X UO UP (.Tuple [.Name x px,.Name y py] k pos) (j4 i j):=
 oN (wq hc<|cZ (dq n hi e f)<|cZ (dq n J g Y) qu) λv w H Q z=>by
  let(F,u,d,o,S,r,f,q):=z;unfold j4 at f;split at f
  .cases f;let(a,t,rfl,s,R):=r;let(l,r1,rfl,A,B):=R.cons_inv;let(m,p,rfl,b,c):=B.cons_inv;rw[c.nil_inv]at s;exact{a,_,rfl,ay S.gr.fh s,rfl,l,_,rfl,m,_,rfl,rfl,q _<|(S.VD A).VD b}
  .cases f
def eN(tgt:ak->D->Δ ak)(gb:ak->Δ Out):Γ D->ak->Δ Out
 |[],a=>↑(.nx a)
 |d::s,a=>(tgt a d).bind λb=>(gb b).bind fun|.nx L=>eN tgt gb s L|.rt v=>↑(.rt v)
def gK(fz:Γ Nat)(fi:Env->Δ (Γ D))(tgt:ak->D->Δ ak)(gb:ak->Δ Out):ak->Δ Out:=λa=>(fi<|bh<|hand fz 0 a).bind λd=>eN tgt gb d<|hand fz 0 a
def NA(fz:Γ Nat)(hp:PassesOwn (model X.prog X.w) X.A X.env X.xe)(hc:X.calm=true)(hi:DI X tg iter fi)(g:HQ X UO UP tg tgt)(Y:FB X UO UP body gb)
  (hs:∀x,foldedSetIterable iter X.env x=pure x:=by intro _;rfl):DS X UO UP (.For tg iter body [] pos) (gK fz fi tgt gb):=bH (HA hp hc hi g Y hs) λE σ H z=>by
 let(HF,ρ,o,S,g,q):=z;let(s,h,g):=bs g;let(T,s1,n):=S.hand fz;refine{T,_,s,n.gr.fh,n.Vt,h,λJ H2 u G it=>({λi m b c=>m+i=s.length/\∃U a,fH X.K UO UP U c a b/\aA u U/\eN tgt gb (s.drop i) a=↑o,{s.length,rfl,u,_,n.grow G,.refl _,g},?_})};rintro i m b c ⟨hm,U,a,k,l,f⟩;by_cases hi:i<s.length
 .refine .inr ?_;have D:=kY hi;have t:=List.getElem?_eq_some_iff.mpr {hi,rfl};generalize s[i]=d at D t;rw[D]at f;let(e,Q,f):=bs f;let(o1,R,f):=bs f;let(P,I):=it.go i d c U t l k.gr.fh;refine{P,λp j=>∃v W,fH X.K UO UP v j W p/\aA u v/\eN tgt gb _ W=↑o,λp j z=>by let(v,W,M,N,O):=z;exact {m-1,by lia,by lia,v,W,M,N,O},λx j y=>?_};let(v,r,rx):=I x j y;refine{v,a,d,e,k.grow r,rx,Q,λp B=>{v,e,o1,B,R,?_}};cases o1 with
  |nx L=>exactλσ4 H4 F C s4=>{F,L,C,(l.trans r.ff).trans s4,f}
  |rt d=>cases f;exact q
 .have Z:i=s.length:=by lia
  subst Z;rw[List.drop_length]at f;cases f;exact .inl {it.stop c U l k.gr.fh,q b c U k<|(s1.trans G.ff).trans l}
end
def Sz(X:Cx)(sc:ζ):Prop:=∀x k,sc.names.lookup x=↑k->X.env.kindOf x=↑k\/(k=.free/\X.env.kindOf x=↑.cell)
structure Bk(X:Cx)(N:List Str)(sc:Scope)(k:Nat):Prop where
 n:X.N=N
 nd:N.Nodup
 tb:Sz X sc
 calm:X.calm=true
 fn:∀x,sc.names.lookup x=↑.cell->X.fn x=true
 room:cE k X.A
 xe:X.xe=λ_ _=>False
 kd:X.env.scope.kind=.function
def eD:Γ Str:=["len","isinstance","int","bool","tuple","list","range","all","any","set","sorted","enumerate","zip","sum","min","max","reversed","abs","dict","str","type","iter","next"]
def Bn(X:Cx):Prop:=∀x∈eD,X.mg x=none
def Jl(sc:ζ)(x:Str):θ:=decide (sc.names.lookup x=↑.globalImplicit)
def ip(N:Γ Str)(sc:ζ)(i:Nat)(x:Str):θ:=decide (N[i]?=↑x)&&(decide (sc.names.lookup x=↑.local)||decide (sc.names.lookup x=↑.cell)||decide (sc.names.lookup x=↑.free))&&!(x==("__debug__":Str))&&!(x==("__classdict__":Str))
def gW(N:Γ Str)(sc:ζ)(i:Nat)(x:Str):θ:=decide (N[i]?=↑x)&&(decide (sc.names.lookup x=↑.local)||decide (sc.names.lookup x=↑.cell))
def Bk.gl(C:Bk X N sc k)(h:Jl sc x=true):Gl X x:=by
 rcases C.tb x _ (yR h)with q|⟨q,_⟩
 .exact q
 .cases q
def Bk.W4(C:Bk X N sc k)(h:ip N sc i x=true):X.N[i]?=↑x/\rA X.env.scope x/\(x==("__debug__":Str))=false/\(x==("__classdict__":Str))=false:=by
 unfold ip at h;simp?[zF,jA,zJ,yQ]at h;let(((a,H),b),c):=h;refine{by rw[C.n];exact a,?_,b,c};rcases H with (H|H)|H
 .rcases C.tb x _ H with q|⟨q,_⟩
  .exact .inl q
  .cases q
 .rcases C.tb x _ H with q|⟨q,_⟩
  .exact .inr<|.inl q
  .cases q
 .rcases C.tb x _ H with q|⟨_,q⟩
  .exact .inr<|.inr q
  .exact .inr<|.inl q
def Bk.loc(C:Bk X N sc k)(h:gW N sc i x=true):X.N.Nodup/\X.N[i]?=↑x/\Loc X.env.scope x/\(X.fn x=true\/X.env.scope.names.lookup x=↑.local):=by
 unfold gW at h;simp  at h;let(a,H):=h;refine{by rw[C.n];exact C.nd,by rw[C.n];lia,?_};rcases H with H|H
 .rcases C.tb x _ H with q|⟨q,_⟩
  .exact{.inl q,.inr q}
  .cases q
 .rcases C.tb x _ H with q|⟨q,_⟩
  .exact{.inr q,.inl<|C.fn x H}
  .cases q
def Bk.blt(C:Bk X N sc k)(B:Bn X)(h:Jl sc x=true)(m:x∈eD)(H:bootBuiltins x=↑v):iN X x v:={C.gl h,B x m,H}
def Bk.v(C:Bk X N sc k)(i:Nat)(h:ip N sc i x=true):DE X (.Name x pos) (ab i):=let ⟨a,b,c,d⟩:=C.W4 h;O9 i a b c d
def Bk.pass(C:Bk X N sc k):PassesOwn (model X.prog X.w) X.A X.env X.xe:=by rw[C.xe];exact PassesOwn.never
def jl(sc scope:ζ)(N n:Γ Str)(t:Nat)(cs:Γ Nat):θ:=
 decide (scope.kind=.function)&&scope.names.all (λp=>(!decide (p.2=NameKind.free)||decide (sc.names.lookup p.1=↑.cell)||decide (sc.names.lookup p.1=↑.free))&&(!decide (p.2=NameKind.local)||decide (scope.names.lookup p.1=↑.local)))
  &&scope.names.all (λp=>!decide (p.2=NameKind.cell)||!scope.names.any λq=>decide (q.1=p.1)&&decide (q.2=NameKind.free))
  &&decide (n.length=t+cs.length)&&decide (n.drop t=cs.filterMap λj=>N[j]?)&&cs.all (λj=>decide (j<N.length))&&(n.drop t).all (λx=>decide (scope.names.lookup x=↑.free))&&decide n.Nodup
def filterMap_get(N:Γ α):∀(cs:Γ Nat),(∀j∈cs,j<N.length)->∀(i:Nat),(cs.filterMap λj=>N[j]?)[i]?=(cs[i]?).bind λj=>N[j]?
 |[],_,i=>by rfl
 |c::cs,h,i=>by
  rw[jF,zK<|h c zE];cases i with
  |zero=>simp
  |succ i =>
   exact filterMap_get N cs (λj H=>h j<|zC _ H) i
def Bk.comp(C:Bk X N sc k){cs:Γ Nat}(h:jl sc scope N U t cs=true):g9 X scope U (iE t cs)/\∀fp s H,Bk (aL X scope U fp s H) U scope k:=by
 unfold jl at h;simp?[zF,zJ,xG,jA,yQ,xC]at h;obtain⟨⟨⟨⟨⟨⟨⟨f,g⟩,p⟩,r⟩,u⟩,w⟩,y⟩,A⟩:=h;refine{{f,λx c hk=>?_,λ{x}a b=>?_,λx c hk=>?_,λl i x v m E=>?_,λl=>?_},λfp s H=>{rfl,A,λx k c=>oU c,C.calm,λx c=>yB c,C.room,rfl,f}}
 .rcases (g x c).1 with (q|q)|q
  .exact absurd hk q
  .rcases C.tb _ _ q with z|⟨z,_⟩
   .exact .inl z
   .cases z
  .rcases C.tb _ _ q with z|⟨_,z⟩
   .exact .inr z
   .exact .inl z
 .rcases p _ a with q|q
  .exact q rfl
  .have:(scope.names.any λq=>decide (q.1=x)&&decide (q.2=NameKind.free))=true:=List.any_eq_true.mpr {_,b,by simp};rw[this]at q;cases q
 .rcases (g x c).2 with q|q
  .exact absurd hk q
  .exact q
 .unfold iE at E;by_cases I:i<t
  .rw[yT<|by simpa using I,yY,yM I]at E;cases E
  .rw[yU<|by simpa using I,zO,xM]at E;let(j,J,E):=ag E;have d:(U.drop t)[i-t]?=↑x:=by rw[List.getElem?_drop];rw[show t+(i-t)=i by lia];exact m
   refine{y x<|qB d,j,?_,?_}
   .rw[u,filterMap_get N cs w,J]at d;rw[C.n];exact d
   .cases e:l[j]? with
    |none=>rw[e]at E;cases E
    |some o=>rw[e]at E;have E:o=↑v:=E;rw[E]
 .unfold iE;rw[zN,xM,zD,r]
def bo(g:ak->Δ Out)(n:Nat)(args:Γ D):Δ D:=(g<|args.map Slot.val++List.replicate (n-args.length) .UQ).map fun|.rt d=>d|.nx _=>.none
def vh{ds:Γ D}{n i:Nat}{k:Γ (D×D)}:¬(ds.map Slot.val++List.replicate n .UQ)[i]?=↑(.tab k):=λh=>by
 rcases List.mem_append.mp (qB h)with z|z
 .let(d,_,e):=List.mem_map.mp z;cases e
 .cases List.eq_of_mem_replicate z
def Ie{ds:Γ D}{n i:Nat}{k:Nat}:¬(ds.map Slot.val++List.replicate n .UQ)[i]?=↑(.obj k):=λh=>by
 rcases List.mem_append.mp (qB h)with z|z
 .let(d,_,e):=List.mem_map.mp z;cases e
 .cases List.eq_of_mem_replicate z
def PR{K:Φ}{st:Ω}(F:CM K x qual st f fd)(S:bO N ps (ax st))
  (body:∀X ,X.prog=P->X.w=w->X.K=K->X.mg=mg->X.base=base->Bk X N (ax st) k->X.env.code=fd.code->X.env.qual=qual++".<locals>."->∀UO UP,FB X UO UP (ba st) g):dZ P w K mg base vi (k+1) f fd ps (Pq K ps.length<|bo g N.length):=by
 let(oc,od,kV,C,pm,an,Vu,ct,Xq,rfl,T,B):=F.ex;refine Cf T B S (λvs H Q E z=>by let(l,D,d,h1,_,t,u,_):=z;rw[t.length,u]) λA r s H vs Q E J z=>?_;let(l,D,d,sm,tb,R,hl,b,q):=z;refine{_,(body _ rfl rfl rfl rfl rfl {rfl,S.nd,λy kd=>.inl,rfl,λ_ _=>rfl,J,rfl,S.kind} rfl rfl l {H,λ_=>0}).ZM,?_};let(o,O,b):=ag b;refine{l,_,o,{.refl sm,λi e h=>?_,λi p h=>?_,λi j p fs a h=>?_,?_,tb,λi M h=>absurd h vh,λi j M ls h=>absurd h vh,λi k h=>absurd h Ie},O,?_}
 .have I:i<D.length:=by
   by_cases I:i<D.length
   .exact I
   .rw[yU<|by simpa using I,yY]at h;split at h<;>cases h
  rw[yT<|by grind,zO]at h;let(m,Z,h):=ag h;cases h;let(v,L,Y):=R.getD Z;refine{v,?_,Y};rw[L2.start,yT<|by simpa [R.length]using I,zO,L];rfl
 .by_cases I:i<D.length
  .rw[yT<|by simpa using I,zO]at h;let(m,Z,h):=ag h;cases h
  .rw[yU<|by simpa using I,yY]at h;split at h<;>cases h
 .by_cases I:i<D.length
  .rw[yT<|by simpa using I,zO]at h;let(m,Z,h):=ag h;cases h
  .rw[yU<|by simpa using I,yY]at h;split at h<;>cases h
 .rw[L2.start,zN,zN,zD,zD,xM,xM,R.length];apply yN
 .cases o with
  |rt m=>cases b;exactλv c U G=>q v c U G
  |nx ρ'=>cases b;exactλσ' c U n _=>q _ c U n.gr (by rfl)
def Tz{K:Φ}{st:Ω}(F:CM K x qual st f fd)(S:bO N ps (ax st))(b:Binds K fd ps [])(m:mg x=↑(.ref f))
  (body:∀X ,X.prog=P->X.w=w->X.K=K->X.mg=mg->X.base=base->Bk X N (ax st) k->X.env.code=fd.code->X.env.qual=qual++".<locals>."->∀UO UP,FB X UO UP (ba st) g):FI P w K mg base (k+1) x ps.length (bo g N.length):={f,fd,ps,PR F S body,m,F.kp,b}
def lX(fz:Γ Nat)(f:Env->Δ D)(ρ:ak):Δ (D×ak):=(f<|aS ρ).bind λd=>if nP d=true then↑(d,ρ)else(f<|bh<|hand fz 0 ρ).map λa=>(a,hand fz 0 ρ)
def oX{K:Φ}(S:fH K UO UP HF H ρ σ)(h:lX fz f ρ=↑(d,ρ'))
  (q:∀v H' US,aA HF US->fH K UO UP US H' ρ' σ->aA H H'->Rep K US d v->Q v H'):tD K f σ H Q:=by
 let(D,a,h):=bs h;split at h
 .rename_i c;cases h;exact{H,aS ρ,d,.refl _,S.all,a,λv H' US G r=>q v H' HF (.refl _) (S.step G.hh) G.hh<|rG c r}
 .let(g,b,h):=ag h;cases h;let(U,e,s):=S.hand fz;exact{U,_,d,s.gr.fh,s.Vt,b,λv H' US G=>q v H' US (e.trans G.ff) (s.grow G) G.hh}
def qd(i:Nat)(m:Γ D->Δ (Γ D))(ρ:ak):Δ Out:=match ρ[i]? with
 |some (.own d)=>(m d).map λe=>.nx (ρ.set i<|.own e)
 |_=>none
def lE(h:qd i m ρ=↑o):∃ds es,ρ[i]?=↑(.own ds)/\m ds=↑es/\o=.nx (ρ.set i<|.own es):=by
 unfold qd at h;split at h
 .rename_i ds d;let(es,H,a):=ag h;exact{ds,es,d,H,a.symm}
 .cases h
def fH.mut{K:Φ}(S:fH K UO UP HF H ρ σ)(h:ρ[i]?=↑(.own ds))(A:σ[i]?=↑(↑(.ref a)))(P:H a=↑(.lst vs))(r:au K HF es us) :
  fH K UO UP HF (upd H a<|.lst us) (ρ.set i<|.own es) σ:=by
 let(I,F,E,l,c,f,M):=S.own i ds h;rw[A]at E;cases E;have L:i<ρ.length:=(List.getElem?_eq_some_iff.mp h).1;have R:bc UO UP HF (upd H a<|.lst us):={λb o e=>by rw[ai<|aF e f];exact S.gr.hh b o e,S.gr.ff,λb o e=>by rw[ai<|aF e c];exact S.gr.fh b o e,S.gr.nw}
 have N:∀{j k:Nat},(ρ.set i<|.own es)[j]?=↑(.obj k)->i≠j/\ρ[j]?=↑(.obj k):=λ{j k}h=>by
  rw[xI]at h;by_cases U:i=j
  .rw[yM U]at h;split at h<;>cases h
  .rw[yO U]at h;exact{U,h}
 have n:∀{j:Nat}{s:Γ (D×D)},(ρ.set i<|.own es)[j]?=↑(.tab s)->ρ[j]?=↑(.tab s):=λ{j s}h=>by
  rw[xI]at h;by_cases U:i=j
  .rw[yM U]at h;split at h<;>cases h
  .rw[yO U]at h;exact h
 refine{R,λj d J=>?_,λj x J=>?_,λj k x Y b f1 f2 f3 f4=>?_,by rw[yD];exact S.len,S.tb,λj s J=>?_,λj k s B u w=>S.one j k s B (n u)<|n w,λj k h=>S.ob j k (N h).2}
 .rw[xI]at J;by_cases U:i=j
  .rw[yM U]at J;split at J<;>cases J
  .rw[yO U]at J;exact S.val j d J
 .rw[xI]at J;by_cases U:i=j
  .subst U;rw[yM rfl,yM L]at J;cases J;exact{a,us,A,ar,c,f,r}
  .rw[yO U]at J;let(b,C,f1,f2,f3,f5,f4):=S.own j x J;refine{b,C,f1,?_,f3,f5,f4};rw[ai]
   .exact f2
   .rintro rfl;exact U<|S.inj i j ds x b h J A f1
 .have O:∀{j:Nat}{x:Γ D},(ρ.set i<|.own es)[j]?=↑(.own x)->∃Y,ρ[j]?=↑(.own Y):=λ{j x}J=>by
   rw[xI]at J;by_cases U:i=j
   .subst U;exact⟨ds,h⟩
   .rw[yO U]at J;exact⟨x,J⟩
  let(X,G):=O f1;let(y,g):=O f2;exact S.inj j k X y b G g f3 f4
 .let(b,p,v,G,g,m,t,q):=S.tab j s<|n J;refine{b,p,v,G,?_,m,t,q};rw[ai λz=>by rw[z,l]at g;cases g];exact g
def lN(i:Nat)(fz:Γ Nat)(f:Env->Δ D):ak->Δ Out:=λa=>(lX fz f a).bind λp=>qd i (λd=>if d.length<sizeLine then↑(d++[p.1])else none) p.2
def ET(i:Nat)(fz:Γ Nat)(p:X.N[i]?=↑x)(w:rA X.env.scope x)(h:DE X e f)(t:(x==("__debug__":Str))=false:=by decide)(B:(x==("__classdict__":Str))=false:=by decide)
  (m:((backTo UU<|starEach [e] X.env).all (λx=>!x.1)&&(backToKw UU<|keywordEach [] X.env).all (λx=>x.1.isSome)&&decide ([e].length+([]:Γ Keyword).length+(if([]:Γ Keyword).isEmpty then 0 else 1)<30))=true:=by rfl)
  (u:(apos.endLine==UU.line)=true:=by rfl)(hs:starEach [e] X.env=(false,eval e X.env)::starEach [] X.env:=by rfl) :
  DS X UO UP (.Expr (.Call (.Attribute (.Name x px) "append" apos) [e] [] UU) pos) (lN i fz f):=
 bH (lH<|pS qM PySem.F.slot_list_append PySem.F.type_list_append lF (dv p w t B) (br h cQ hs) rfl m u hs rfl) λE L H z=>by
  let(O,J,o,S,G,q):=z;let((d,K),c,G):=bs G;let(D,es,b,k,rfl):=lE G;have g:∃Z,J[i]?=↑(.own Z):=by
   let(Q,_,c):=bs c;split at c
   .cases c;exact{D,b}
   .let(R,_,c):=ag c;cases c;rw[fu]at b;let(s,hs,b):=ag b;cases s with
    |UQ=>split at b<;>cases b
    |tab _=>split at b<;>cases b
    |obj _=>split at b<;>cases b
    |val _=>split at b<;>cases b
    |own I=>exact{I,hs}
  let(Z,g):=g;let(a,C,j,n,T,e5,W):=S.own i Z g;refine{.ref a,j,.inl {rfl,C,ik.of n},oX S c λv M U A l sh r=>?_};let(P,Y,f1,f2,f3,f5,f4):=l.own i D b;rw[j]at f1;cases f1;split at k
  .rename_i y;cases k;exact{a,Y,v,rfl,rfl,f2,by rw[f4.length];exact y,q L _ U (l.mut b j f2<|f4.append<|au.cons r au.nil) A}
  .cases k
def uR(K:Φ)(o:Obj):Δ (Ψ×Str):=match o.data with
 |.func f=>if kh.contains f.qualname=true then(match f.code with
   |.ref c=>(match K.lookup c with
    |some ⟨_,_,.fields v,_⟩=>(match(v[11]?:Δ Θ)with
     |some (.ref P)=>if W.codeHdIn K c P=true then↑(P,f.qualname++".<locals>."++"<lambda>")else none
     |_=>none)
    |_=>none)
   |_=>none)else none
 |_=>none
def hZ(K:Φ):Γ (Ψ×Str):=K.filterMap λp=>uR K p.2
def nW(K:Φ)(ts:Γ Ψ):θ:=(hZ K).all λp=>ts.contains p.1&&(K.lookup p.1).isNone&&decide ((hZ K).lookup p.1=↑p.2)
def zm{K:Φ}(h:uR K o=↑(P,q)):∃c,W.codeHdIn K c P=true:=by
 unfold uR at h;split at h
 .split at h
  .split at h
   .split at h
    .split at h
     .split at h
      .cases h;exact{_,‹_›}
      .cases h
     .cases h
    .cases h
   .cases h
  .cases h
 .cases h
def yv{K:Φ}(h:(P,q)∈hZ K):∃c,W.codeHdIn K c P=true:=by
 let(p,_,e):=List.mem_filterMap.mp h;exact zm e
def BX{K:Φ}(a:K.lookup f=↑{oc,od,.func fd,sl})(b:fd.qualname∈kh)(d:fd.code=.ref c)(e:W.codeHdIn K c P=true) :
  (P,fd.qualname++".<locals>."++"<lambda>")∈hZ K:=by
 refine List.mem_filterMap.mpr {(f,_),W.mem_of_lookupK a,?_};have E:=e;unfold W.codeHdIn at E;unfold uR;simp?[d,List.contains_iff_mem,b,xH];split at E
 .rename_i S s l;simp?[l];simp?[zF]at E;have g:=E.1.1.1.1.1;split at g
  .rename_i p v;have:p=P:=by simpa using g
   subst this;simp?[v,e,xH]
  .cases g
 .cases E
def FL:∀{l:Γ (Ψ×α)},l.lookup b=↑q->(b,q)∈l
 |[],e=>by cases e
 | (c,x)::r,e=>by
  rw[yC]at e;cases h:b==c with
  |true=>rw[h]at e;cases e;rw[eq_of_beq h];exact zE
  |false=>rw[h]at e;exact zC _<|FL e
def ka(K:Φ)(H:Hp):Hp:=λb=>match(hZ K).lookup b with|some q=>↑(.tab q)|none=>H b
def Ei{K:Φ}(h:nW K ts=true):cm K (ka K h0):=λf o od F s c P a b d e=>by
 have:=List.all_eq_true.mp h _<|BX a b d e;simp?[zF,zJ]at this;unfold ka;rw[this.2]
def Eh{w:δ}{K:Φ}{CX:JC}{k:Nat}{fa:Ψ}{fd:η}{sp:Sp}{vs:Γ Θ}{ns:Γ Int}
  (X:K.In U.heap)(YH:U.heap.Ns mainGlobals mg)(B:U.heap.Ns builtinsNs mb)(M:∀x:Str,x≠"__name__"->mb x=bootBuiltins x)(Y1:U.heap.NoLimit)(O:Rt mg U.heap)(hg:U.gens=#[])
  (ht:nW K ts=true)(S:∀P∈ts,U.heap.get? P=↑(W.tabObj #[]))
  (A:U.heap.get? a=some {cls:=.type "list",data:=.seq vs.toArray})(hi:IntsAre vs ns)(hl:ns.length<=sizeLine)(hr:cE k callerA)
  (F:∀base:ι,K.In base->base.Ns mainGlobals mg->dZ P w K mg base CX k fa fd [x] sp)(D:∀(s:Ξ)(u:Θ),BindsTo s fd {[u],[]} [(x,u)])
  (R:∀H:Hp,cm K H->ik K H a (ns.map V.int)->sp [.ref a] H (λv _=>v=.bl true) λ_ _ _=>False)
  (J:∀H e s',CX [] H U (λ_ _ _=>False) e s'->False) :
  codeAny (model P w) callerA (.call (.ref fa) {[.ref a],[]}) (λr s'=>r=.ok (.ret<|.bool true)/\OldK U.heap s'.heap/\s'.os=U.os/\AllBare s'.gens) U:=by
 have rv:=tN hi;have G:=hi.length;have T:∀b q,(hZ K).lookup b=↑q->U.heap.get? b=↑(W.tabObj #[])/\K.lookup b=none/\∃c,W.CodeHd U.heap c b:=λb q e=>by
  have hm:=FL e;have:=List.all_eq_true.mp ht _ hm;simp?[zF,zJ,List.contains_iff_mem,Option.isNone_iff_eq_none]at this;let(c,hc):=yv hm;exact{S b this.1.1,this.1.2,c,W.codeHd_of_K X hc}
 have aT:(hZ K).lookup a=none:=by
  cases e:(hZ K).lookup a with
  |none=>rfl
  |some q=>have:=(T a q e).1;rw[A]at this;cases this
 have C:∀f:Hp,ik K (ka K f) a (ns.map V.int)->pN P w (ka K f) U.heap->(∀b,f b≠none->b=a)->(f a≠none->K.lookup a=none)->(∀b,f b=none\/∃o xs,f b=↑(.Vt o<|.lst xs)) ->
   codeAny (model P w) callerA (.call (.ref fa) {[.ref a],[]}) (λr s'=>r=.ok (.ret<|.bool true)/\OldK U.heap s'.heap/\s'.os=U.os/\AllBare s'.gens) U:=by
  intro f hS UX hA hK hO;have l:∀b u,ka K f b=↑u->(∃q,(hZ K).lookup b=↑q/\u=.tab q)\/(b=a/\f b=↑u):=λb u e=>by
   unfold ka at e;split at e
   .rename_i q j;cases e;exact .inl {q,j,rfl}
   .exact .inr {hA b (by rw[e];simp),e}
  have L:∀{b:Ψ}{o:Obj},U.heap.get? b=↑o->ka K f b=none->(EM U.heap _).get? b=↑o:=λe=>Hr e;have ZD:∀{b:Ψ}{o:Obj},U.heap.get? b=↑o->(∀vs n,o.data≠.seq vs n)->(∀vs,o.data≠.fields vs)->ka K f b=none:=λ{b o}e d d2=>by
   cases q:ka K f b with
   |none=>rfl
   |some u =>
    rcases l b u q with ⟨Q,z,_⟩|⟨z,_⟩
    .rw[(T b Q z).1]at e;cases e;exact absurd rfl (d2 _)
    .subst z;rw[A]at e;cases e;exact absurd rfl (d _ _)
  have N:∀{b:Ψ}{m:Str->Δ Θ},U.heap.Ns b m->(EM U.heap _).Ns b m:=λ{b m}z=>by let(o,es,ep,e,d,r):=z;exact {o,es,ep,L e<|ZD e (λ_ _ z=>by grind) λ_ z=>by grind,d,r}
  have g:=λb o e=>L (X b o e) (by
   cases q:ka K f b with
   |none=>rfl
   |some u =>
    rcases l b u q with ⟨Q,z,_⟩|⟨z,z2⟩
    .rw[(T b Q z).2.1]at e;cases e
    .subst z;rw[hK (by rw[z2];simp)]at e;cases e)
  have hM:Mod K mg _:=⟨g,N YH,{mb,N B,M},let ⟨mc,h1,h2⟩:=Y1;{mc,N h1,h2},
   let ⟨bm,o,b1,b2,b3,b4,b5,b6,b7⟩:=O;{bm,o,b1,b2,b3,L b4<|ZD b4 (λ_ _ z=>by grind) λ_ z=>by grind,b5,b6,b7}⟩
  have e0:Bm P w K mg _ callerA [] U _:={rfl,hM,λb o=>L6,Nat.le_of_eq<|D8 _ _,trivial,nofun,UX,.of_eq hg}
  refine jQ ((F _ g<|N YH).run callerA [] U _ _ _ [.ref a] _ _ hr e0 (D U _) (.cons rfl .nil)<|R _ (Ei ht) hS) λr s' h=>?_;cases r with
  |error e=>exact(J _ e s' h).elim
  |ok fl =>
   cases fl with
   |next=>exact False.elim h
   |brk=>exact False.elim h
   |cont=>exact False.elim h
   |ret u =>
    let(v,H',os,E,Z,I,r',q):=h;have Q:=q;subst Q;obtain rfl:u=Value.bool true:=r';have y:∀b o,U.heap.get? b=↑o->s'.heap.get? b=↑o\/(isCodeTable U.heap b/\o=W.tabObj _/\∃p,s'.heap.get? b=↑(W.tabObj p)):=λb o e=>by
     cases q:ka K f b with
     |none=>exact .inl (Z.keep b o e q (by intro z;exact absurd (show b∈[]from z)<|by simp)<|by simp)
     |some u =>
      rcases l b u q with ⟨Q,z,rfl⟩|⟨z,z2⟩
      .let(Y,_,c,t3):=T b Q z;let(more,m1):=Z.V1.gr b Q #[] q Y;rw[e]at Y;cases Y;exact .inr {(t3.tab e).isCodeTable,rfl,_,m1}
      .rcases hO b with z3|⟨ob,xs,z3⟩
       .rw[z2]at z3;cases z3
       .rw[z2]at z3;cases z3;let(e1,_):=UX b _ q;let(e2,_):=I b _<|Z.Wo b ob _ q;rw[e]at e1;cases e1;exact .inl e2
    refine{rfl,{λb o e=>?_,λb o e=>?_},os,E}
    .rcases y b o e with z|⟨t,rfl,p,z⟩
     .exact .inl z
     .exact .inr<|.inl {t,rfl,#[],p,rfl,by rw[Array.empty_append];exact z}
    .rcases y b o e with z|⟨_,_,p,z⟩
     .exact⟨o,z⟩
     .exact{_,z}
 have i:∀f b q,(hZ K).lookup b=↑q->cC P w (ka K f) U.heap b (.tab q):=λf b q e=>{#[],(T b q e).1,trivial,λpos v z=>by cases z}
 cases hk:K.lookup a with
 |some o =>
  have e:=X a o hk;rw[A]at e;cases e;refine C _ (.inr {_,vs.toArray,_,hk,rfl,rfl,rfl,by rw[zH,G];exact hl,by exact rv}) (λb u z=>?_) (λb z=>absurd rfl z) (λz=>absurd rfl z) λ_=>.inl rfl;unfold ka at z;split at z
  .rename_i q j;cases z;exact i _ b q j
  .cases z
 |none =>
  refine C (λb=>if b=a then↑(.Vt {cls:=.type "list",data:=.seq vs.toArray}<|.lst<|ns.map V.int)else none) (.inl<|.inr {{cls:=.type "list",data:=.seq vs.toArray},?_}) (λb u z=>?_) (λb z=>?_) (λ_=>hk) λb=>?_
  .unfold ka;rw[aT];exact yM rfl
  .unfold ka at z;split at z
   .rename_i q j;cases z;exact i _ b q j
   .by_cases B:b=a
    .replace z:=(yM B).symm.trans z;cases z;subst B;exact{A,by rw[zD];exact hl,vs,_,rv,A}
    .replace z:=(yO B).symm.trans z;cases z
  .by_cases B:b=a
   .exact B
   .exact absurd (yO B) z
  .by_cases B:b=a
   .exact .inr {_,_,yM B}
   .exact .inl<|yO B
def HV{l:W.OpenLaw}{n k:Nat}{q:ε}{L:Γ Str}{XP:(Str->Δ Θ)->ι->Prop}{YP:δ->ι->Prop}{d:DefRec}{K:Params->Φ}{CX:δ->JC}{sp:δ->Sp}{x:Str}{ts:Γ Ψ}
  (hn:l.most=↑n)(j:n<=sizeLine)(c:d.params.defaults=[])(hr:cE k callerA)
  (Z:∀w h,YP w h->(K w.params).In h/\∀P∈ts,h.get? P=↑(W.tabObj #[]))(ht:∀w:δ,nW (K w.params) ts=true)
  (F:∀w(mg:Str->Δ Θ)fa h,(K w.params).In h->h.Ns mainGlobals mg->mg d.name=↑(.ref fa) ->
   ∃D:η,(∀s u,BindsTo s D {[u],[]} [(x,u)]) /\
    ∀base:ι,(K w.params).In base->base.Ns mainGlobals mg->dZ l.prog w (K w.params) mg base (CX w) k fa D [x] (sp w))
  (p:∀w H a(ns:Γ Int),ns.length<=n->cm (K w.params) H->ik (K w.params) H a (ns.map V.int)->sp w [.ref a] H (λv _=>v=.bl true) λ_ _ _=>False)
  (X:∀w H s e s',CX w [] H s (λ_ _ _=>False) e s'->False) :
  W.WalkO q L XP YP l.row.toRowW d [] (λf vs=>PySem.call f vs):=by
 refine Att.W8 hn c λw Ve U mg mb fa o pm cd J a vs ns G Y ho hd Vb i O S N hg=>?_;let(t,r):=Z w _ Y;let(D,hb,Q):=F w mg fa _ t G.T.g i;have m:Rt mg U.heap:=by
  let(M,ob,B,y,A,C,E,I):=G.T.bmain;refine{M,ob,B,y,λz=>?_,A,C,E,I};let(o',es,ep,e1,e2,_):=G.T.g
  grind
 exact Eh t G.T.g G.T.b G.T.builtins G.T.nolimit m hg (ht w) r O S (yE N j) hr Q hb (λH R=>p w H a ns N R) λH e=>X w H U e
end Dl
namespace SP
open PySem PySem.W PyProof.Rows
def run(l:Nat->Nat->θ):KasT α->α
 |.ret a=>a
 |.ask i j k=>run l<|k<|l i j
def iw(l:Nat->Nat->θ)(f:α->KasT β):∀t ,run l (t.bind f)=run l (f<|run l t)
 |.ret a=>rfl
 |.ask i j k=>by
  show run l ((k _).bind f)=run l _;exact iw l f _
def Pk(n:Nat):KasT α->Prop
 |.ret _=>True
 |.ask i j k=>i<n/\j<n/\∀b,Pk n<|k b
def wp_run(hc:∀i j C,i<n->j<n->C (lt i j) s->cmp i j C s):∀t{Q:α->Ξ->Prop},Pk n t->Q (run lt t) s->t.kasWp cmp Q s
 |.ret a,Q,_,h=>h
 |.ask i j k,Q,b,h=>hc i j _ b.1 b.2.1<|wp_run hc _ (b.2.2 _) h
def rz(n:Nat)(R:α->Prop):KasT α->Prop
 |.ret a=>R a
 |.ask i j k=>i<n/\j<n/\∀b,rz n R<|k b
def oo:∀{t:KasT α},rz n R t->(∀a,R a->Pk n (f a))->Pk n (t.bind f)
 |.ret a,b,h=>h a b
 |.ask i j k,b,h=>{b.1,b.2.1,λc=>oo (b.2.2 c) h}
def iX:∀{t:KasT α},rz n R t->(∀a,R a->rz n S (f a))->rz n S (t.bind f)
 |.ret a,b,h=>h a b
 |.ask i j k,b,h=>{b.1,b.2.1,λc=>iX (b.2.2 c) h}
def Bd(n:Nat)(p:Array Nat):Prop:=∀a,p.getD a 0<n
def Bd.perm(h:Bd n p)(e:q.Perm p):Bd n q:=by
 intro a;rw[qD];cases H:q[a]? with
 |none=>have:=h p.size;simpa using this
 |some x =>
  let(i,I,rfl):=Array.mem_iff_getElem.mp<|e.mem_iff.mp<|Array.mem_of_getElem? H;have:=h i;simp_all
def Ha(h:Bd n p):∀f m,rz n (λ_=>True) (kas_asc p f m)
 |0,m=>trivial
 |f+1,m=>⟨h _,h _,λc=>by
  dsimp only;split
  .trivial
  .exact Ha h f _⟩
def yp(h:Bd n p)(i j:Nat):Bd n (kas_rev p i j):=h.perm<|mirror_perm _ _ _ _
def xq:∀f{p:Array Nat}(h:Bd n p)m q,rz n (λr=>Bd n r.1) (kas_desc f p m q)
 |0,p,h,m,q=>h
 |f+1,p,h,m,q=>⟨h _,h _,λc=>by
  dsimp only;split
  .split
   .exact xq f (yp h _ _) _ 0
   .exact xq f h _ 0
  .exact⟨h _,h _,λd=>by
    dsimp only;split
    .exact h
    .exact xq f h _ _⟩⟩
def DU(h:Bd n p)(m U:Nat):rz n (λr=>Bd n r.2) (kas_tail3 m U p):=iX (Ha (yp h 0 m) _ _) λ_ _=>yp h 0 m
def rq(h:Bd n p)(m U:Nat):rz n (λr=>Bd n r.2) (kas_descPart m U p):=iX (xq _ h _ _) λr H=>by
 split
 .apply DU<|yp H _ _
 .apply DU H
def Ln(h:Bd n p)(U:Nat):rz n (λr=>Bd n r.2) (kas_count U p):=iX (Ha h _ _) λm _=>by
 split
 .exact h
 .split
  .exact⟨h _,h _,λc=>by
    dsimp only;split
    .exact h
    .apply rq<|yp h _ _⟩
  .apply rq h
def uS(h:Bd n p)(k:Nat):∀f l r,rz n (λ_=>True) (kas_place p k f l r)
 |0,l,r=>trivial
 |f+1,l,r=>by
  unfold kas_place;split
  .trivial
  .exact⟨h _,h _,λc=>by
    dsimp only;split
    .apply uS h k f
    .apply uS h k f⟩
def Mu:∀f{p:Array Nat}(h:Bd n p)k,Pk n (kas_bin f p k)
 |0,p,h,k=>trivial
 |f+1,p,h,k=>oo (uS h k _ _ _) λl _=>Mu f (h.perm<|bubble_perm _ _ _) _
def Gj(b:1<=n):Pk n (kas_sort n):=by
 have h:Bd n (List.toArray<|List.range n):=λa=>by
  by_cases H:a<n
  .simp[H]
  .simp[H];lia
 refine oo (Ln h n) λr R=>?_;split
 .apply Mu _ R
 .trivial
section
variable (z:Nat->Int)
def Z(p:Array Nat)(a:Nat):Int:=z<|p.getD a 0
def ij:Nat->Nat->θ:=λi j=>decide (z i<z j)
def nI(h:p[a]?=q[b]?):Z z p a=Z z q b:=by
 unfold Z;simp_all
def GX(J:j<=p.size)(k:Nat):Z z (kas_rev p i j) k=if i<=k/\k<j then Z z p (i+j-1-k)else Z z p k:=by
 have e:=getElem?_mirror_all (i:=i) J k;by_cases H:i<=k/\k<j
 .rw[yM H]at e ⊢;exact nI z e
 .rw[yO H]at e ⊢;exact nI z e
def GF(hs:src<p.size)(D:d<=src)(k:Nat):Z z (bubble p src d) k=if k=src-d then Z z p src else if src-d<k/\k<=src then Z z p (k-1)else Z z p k:=by
 have e:=getElem?_bubble hs d D k;by_cases H:k=src-d
 .rw[yM H]at e ⊢;exact nI z e
 .rw[yO H]at e ⊢;by_cases a:src-d<k/\k<=src
  .rw[yM a]at e ⊢;exact nI z e
  .rw[yO a]at e ⊢;exact nI z e
def Up(p:Array Nat)(n:Nat):Prop:=∀a b,a<=b->b<n->Z z p a<=Z z p b
def Dn(p:Array Nat)(n:Nat):Prop:=∀a b,a<=b->b<n->Z z p b<=Z z p a
variable {z}
def JE(h:Up z p n)(N:1<=n)(c:Z z p (n-1)<=Z z p n):Up z p (n+1):=by
 intro a b X B;by_cases H:b<n
 .exact h a b X H
 .have e:b=n:=by lia
  subst e;by_cases A:a=b
  .subst A;exact xZ _
  .exact jS (h a (b-1) (by lia) (by lia)) c
def Sh:∀f n,1<=n->Up z p n->n<=run (ij z) (kas_asc p f n)/\run (ij z) (kas_asc p f n)<=n+f/\Up z p (run (ij z)<|kas_asc p f n)/\(run (ij z) (kas_asc p f n)<n+f->Z z p (run (ij z)<|kas_asc p f n)<Z z p (run (ij z) (kas_asc p f n)-1))
 |0,n,H,h=>{yN _,yN _,h,λq=>absurd q<|qE _}
 |f+1,n,H,h=>by
  show n<=run _ (if ij z _ _=true then .ret n else kas_asc p f _)/\run _ (if ij z _ _=true then .ret n else kas_asc p f _)<=n+(f+1)/\Up z p (run _ (if ij z _ _=true then .ret n else kas_asc p f _))/\(run _ (if ij z _ _=true then .ret n else kas_asc p f _)<n+(f+1)->Z z p (run _ (if ij z _ _=true then .ret n else kas_asc p f _))<Z z p (run _ (if ij z _ _=true then .ret n else kas_asc p f _)-1))
  by_cases hc:ij z (p.getD n 0) (p.getD (n-1) 0)=true
  .rw[yM hc];exact{yN _,jT _ _,h,λ_=>yR hc}
  .have e:Z z p (n-1)<=Z z p n:=by
    have:¬(Z z p n<Z z p _):=λq=>hc<|yB q;lia
   let(a,b,c,d):=Sh f _ (by lia)<|JE h H e
   grind
def BB(H:j<=p.size)(h:∀a b,i<=a->a<j->i<=b->b<j->Z z p a=Z z p b)(k:Nat):Z z (kas_rev p i j) k=Z z p k:=by
 rw[GX z H]
 grind
def Hb(e:∀k,Z z q k=Z z p k)(h:Dn z p n):Dn z q n:=λa b X H=>by rw[e,e];exact h a b X H
def Oh(H:n<=p.size)(h:Dn z p n):Up z (kas_rev p 0 n) n:=by
 intro a b X B;rw[GX z H,GX z H,yM {xV _,by lia},yM {xV _,B}];exact h _ _ (by lia) (by lia)
def nz(p:Array Nat)(i j:Nat):(kas_rev p i j).size=p.size:=mirror_size _ _ _ _
def n5(p:Array Nat)(i j:Nat):(kas_rev p i j).Perm p:=mirror_perm _ _ _ _
structure Ny(z:Nat->Int)(Vg p:Array Nat)(n q U4:Nat):Prop where
 perm:p.Perm Vg
 size:p.size=Vg.size
 le:n<=U4
 qn:q+1<=n
 dn:Dn z p n
 eq:∀a b,n-(q+1)<=a->a<n->n-(q+1)<=b->b<n->Z z p a=Z z p b
def JV(i:U4<=Vg.size):∀(f:Nat)(p:Array Nat)(n q:Nat),n+f<=U4->Ny z Vg p n q U4 ->
  let r:=run (ij z)<|kas_desc f p n q;Ny z Vg r.1 r.2.1 r.2.2 U4
 |0,p,n,q,w,h=>h
 |f+1,p,n,q,w,h=>by
  intro r;have R:r=run (ij z) (if ij z (p.getD n 0) (p.getD (n-1) 0)=true then(if q > 0 then kas_desc f (kas_rev p (n-(q+1)) n) (n+1) 0 else kas_desc f p (n+1) 0)
   else .ask (p.getD (n-1) 0) (p.getD n 0) λd=>if d=true then .ret (p,n,q)else kas_desc f p (n+1) (q+1)):=rfl
  have x:=h.qn;by_cases hc:ij z (p.getD n 0) (p.getD (n-1) 0)=true
  .rw[yM hc]at R;have step:∀P ,P.Perm Vg->P.size=Vg.size->(∀k,Z z P k=Z z p k)->Ny z Vg P (n+1) 0 U4:=λP j l A=>by
    refine{j,l,by lia,by lia,λa b v B=>?_,λa b m o s t=>by grind};rw[A,A];by_cases H:b<n
    .exact h.dn a b v H
    .have e:b=n:=by lia
     subst e;by_cases u:a=b
     .grind
     .exact jS (Int.le_of_lt<|yR hc)<|h.dn a _ (by lia)<|by lia
   by_cases g:q > 0
   .rw[yM g]at R;rw[R];exact JV i f _ _ 0 (by lia)<|step _ ((n5 _ _ _).trans h.perm) (by rw[nz,h.size])<|BB (by rw[h.size];lia) h.eq
   .rw[yO g]at R;rw[R];exact JV i f p _ 0 (by lia)<|step p h.perm h.size λ_=>rfl
  .rw[yO hc]at R;have F:=by
    have:¬(Z z p n<Z z p _):=λq=>hc<|yB q;omega
   have X:r=run _ (if ij z _ _=true then .ret _ else kas_desc f p _ _):=R;by_cases D:ij z (p.getD (n-1) 0) (p.getD n 0)=true
   .rw[yM D]at X;rw[X];exact h
   .rw[yO D]at X;rw[X];have Q:Z z p n=Z z p (n-1):=by
     have:¬(Z z p _<Z z p n):=λq=>D<|yB q;omega
    refine JV i f p _ _ (by lia) {h.perm,h.size,by lia,by lia,λa b v B=>?_,λa b m o s t=>?_}
    .by_cases H:b<n
     .exact h.dn a b v H
     .have e:b=n:=by lia
      subst e;by_cases u:a=b
      .grind
      .rw[Q];exact h.dn a _ (by lia)<|by lia
    .have y:∀c,n+1-(q+1+1)<=c->c<n+1->Z z p c=Z z p (n-1):=λc c1 c2=>by
      by_cases N:c<n
      .exact h.eq c _ (by lia) N (by lia)<|by lia
      grind
     grind
structure Rk(z:Nat->Int)(Vg:Array Nat)(U4:Nat)(r:Nat×Array Nat):Prop where
 perm:r.2.Perm Vg
 size:r.2.size=Vg.size
 ge:1<=r.1
 le:r.1<=U4
 up:Up z r.2 r.1
def tail3(Z:U4<=Vg.size)(H:1<=n)(N:n<=U4)(P:p.Perm Vg)(hs:p.size=Vg.size)(d:Dn z p n):Rk z Vg U4 (run (ij z)<|kas_tail3 n U4 p):=by
 rw[kas_tail3,iw];let(a,b,c,_):=Sh _ n H<|Oh (by lia) d;exact{(n5 _ _ _).trans P,by show(kas_rev p 0 n).size=_;rw[nz,hs],by show 1<=run _ _;lia,by show run _ _<=U4;lia,c}
def descPart(c:U4<=Vg.size)(f:1<=n)(N:n<U4)(P:p.Perm Vg)(hs:p.size=Vg.size)(d:Dn z p n)(v:Z z p n<=Z z p (n-1)):Rk z Vg U4 (run (ij z)<|kas_descPart n U4 p):=by
 rw[kas_descPart,iw];have D:=JV c (U4-(n+1)) p (n+1) 0 (by lia) ⟨P,hs,by lia,by lia,λa b X B=>by
  by_cases H:b<n
  .exact d a b X H
  .have e:b=n:=by lia
   subst e;by_cases A:a=b
   .grind
   .exact jS v<|d a _ (by lia)<|by lia,λa b f g i j=>by grind⟩
 have q:=D.qn;split
 .exact tail3 c (by lia) D.le ((n5 _ _ _).trans D.perm) (by rw[nz,D.size])<|Hb (BB (by have:=D.size;have:=D.le;lia) D.eq) D.dn
 .exact tail3 c (by lia) D.le D.perm D.size D.dn
def count(f:U4<=p.size)(m:1<=U4):Rk z p U4 (run (ij z)<|kas_count U4 p):=by
 unfold kas_count;rw[iw];let(a,b,c,d):=Sh (z:=z) (p:=p) (U4-1) 1 (yN _) (λx y H Y=>by rw[show x=y by lia];exact xZ _);generalize run (ij z) (kas_asc p (U4-1) 1)=n at a b c d;split
 .exact{Array.Perm.refl _,rfl,a,by show n<=U4;lia,c}
 .rename_i U;have v:n<U4:=by
   have:n≠U4:=λe=>U (by simp[e]);lia
  have D:=d (by lia);split
  .rename_i g;show Rk z p U4 (run (ij z) (if ij z (p.getD 0 0) (p.getD (n-1) 0)=true then .ret (n,p)else kas_descPart n U4 (kas_rev p 0 n)));by_cases hc:ij z (p.getD 0 0) (p.getD (n-1) 0)=true
   .rw[yM hc];exact{Array.Perm.refl _,rfl,a,by show n<=U4;lia,c}
   .rw[yO hc];have F:Z z p (n-1)<=Z z p 0:=by
     have:¬(Z z p 0<Z z p (n-1)):=λq=>hc<|yB q;lia
    have l:∀x,x<n->Z z p x=Z z p 0:=λx X=>by
     have E:=c 0 x (xV _) X;have k:=c x (n-1) (by lia) (by lia);lia
    have s:=BB (z:=z) (p:=p) (i:=0) (j:=n) (by lia) λx y _ X _ Y=>by rw[l x X,l y Y]
    refine descPart f (by lia) v (n5 _ _ _) (by rw[nz]) (λx y H Y=>?_) ?_
    .rw[s,s,l x<|by lia,l y Y];exact xZ _
    .rw[s,s];lia
  .exact descPart f (by lia) v (Array.Perm.refl _) rfl (λx y H Y=>by rw[show x=y by lia];exact xZ _) (by lia)
def place(u:Up z p k):∀f l r,r-l<=f->l<=r->r<=k->(∀a,a<l->Z z p a<=Z z p k)->(∀a,r<=a->a<k->Z z p k<=Z z p a) ->
  let m:=run (ij z)<|kas_place p k f l r;m<=k/\(∀a,a<m->Z z p a<=Z z p k)/\(∀a,m<=a->a<k->Z z p k<=Z z p a)
 |0,l,r,d,L,R,b,c=>by
  have e:l=r:=by lia
  subst e;exact{R,b,c}
 |f+1,l,r,d,L,R,b,c=>by
  intro m;have M:m=run _ (if l >= r then .ret l else .ask _ _ _):=rfl;by_cases H:l >= r
  .rw[yM H]at M;rw[M];have e:l=r:=by lia
   subst e;exact{R,b,c}
  .rw[yO H]at M;have W:m=run _ (if ij z _ _=true then kas_place p k f l _ else kas_place p k f _ r):=M;by_cases hc:ij z (p.getD k 0) (p.getD ((l+r)/2) 0)=true
   .rw[yM hc]at W;rw[W];exact place u f l _ (by lia) (by lia) (by lia) b λa A K=>jS (Int.le_of_lt<|yR hc)<|u _ a A K
   .rw[yO hc]at W;rw[W];have F:Z z p ((l+r)/2)<=Z z p k:=by
     have:¬(Z z p k<Z z p _):=λq=>hc<|yB q;lia
    exact place u f _ r (by lia) (by lia) R (λa A=>jS (u a _ (by lia)<|by lia) F) c
def bin:∀f p k,p.Perm Vg->p.size=Vg.size->k+f<=Vg.size->Up z p k ->
  (run (ij z)<|kas_bin f p k).Perm Vg/\(run (ij z)<|kas_bin f p k).size=Vg.size/\Up z (run (ij z)<|kas_bin f p k) (k+f)
 |0,p,k,i,s,hk,u=>{i,s,u}
 |f+1,p,k,i,s,hk,u=>by
  rw[kas_bin,iw];have P:=place u k 0 k (by lia) (by lia) (yN _) (nofun) λa A K=>absurd A (by lia);generalize run _ _=l at P;have Z:=GF z (p:=p) (src:=k) (d:=k-l) (by lia) (by lia);rw[(show k-(k-l)=l by lia)]at Z;let(q,q2,Q):=bin f (bubble p k<|k-l) (k+1) ((bubble_perm _ _ _).trans i) (by rw[bubble_size,s]) (by lia) λa b X B=>by
   rw[Z,Z];by_cases c:a=l
   .grind
   .rw[yO c];by_cases e:b=l
    .grind
    .rw[yO e];by_cases H:l<a/\a<=k
     .rw[yM H,yM<|by lia];exact u _ _ (by lia)<|by lia
     .rw[yO H];by_cases g:l<b/\b<=k
      .grind
      .rw[yO g];exact u _ _ X<|by lia
  grind
def jh(d:1<=n):(run (ij z)<|kas_sort n).toList.Perm (List.range n)/\((run (ij z)<|kas_sort n).toList.map z).Pairwise (·<=·):=by
 have H:(List.toArray<|List.range n).size=n:=by simp
 have C:=count (z:=z) (p:=List.toArray<|List.range n) (by lia) d;have fin:∀p ,p.Perm (List.toArray<|List.range n)->p.size=n->Up z p n->p.toList.Perm _/\(p.toList.map z).Pairwise (·<=·):=λp a b c=>by
  refine{by have:=a.toList;omega,?_};rw[List.pairwise_iff_getElem];intro i j I J U;have W:i<n:=by grind
  have Y:j<n:=by grind
  have:=c i j (jR U) Y;unfold Z at this;simp_all
 rw[kas_sort,iw];generalize run _ _=r at C;let(k,p):=r;have s:=C.size;rw[H]at s;split
 .have F:=C.ge;rw[(show max k 1=k by lia)];let(q,q2,Q):=bin (n-k) p k C.perm C.size (by lia) C.up;apply fin _ q (by grind);rw[show k+(n-k)=n by lia]at Q;lia
 .have E:=C.le;have e:k=n:=by lia
  subst e;exact fin p C.perm s C.up
end
end SP
namespace X4
open PySem PySem.W PySem.Calls PyProof.Rows
def Vh(z:Nat->Int)(vs:Γ Θ):Γ Θ:=if vs.length<2 then vs else(SP.run (SP.ij z)<|kas_sort vs.length).toList.map λi=>vs.getD i Value.none
def Xa(z:Nat->Int)(vs:Γ Θ):(Vh z vs).length=vs.length:=by
 unfold Vh;split
 .rfl
 .rename_i h;have:=(SP.jh (z:=z) (n:=vs.length)<|by lia).1.length_eq;simpa using this
def V5{P:PySem.Fin->Ξ->Prop}(O:s.heap.get? a=↑(seqObj "list" vs.toArray n))(X:vs.length<64)(z:Nat->Int)(r:SortKind)
  (hk:2<=vs.length->∀h':ι,(∀b o,b≠a->s.heap.get? b=↑o->h'.get? b=↑o)->∀u:SortKind->Ξ->Prop,u r {s with heap:=h'}->wpAny (model prog w) A (keyKind' vs.toArray) u (λ_ _=>False) {s with heap:=h'})
  (D:2<=vs.length->∀h':ι,(∀b o,b≠a->s.heap.get? b=↑o->h'.get? b=↑o)->∀i j C,i<vs.length->j<vs.length->C (SP.ij z i j) {s with heap:=h'}->kas_ask prog w A r vs i j C {s with heap:=h'})
  (h:∀(h':ι)(c:Nat),(∀b o,b≠a->s.heap.get? b=↑o->h'.get? b=↑o)->h'.get? a=↑(seqObj "list" (Vh z vs).toArray c)->P (.done<|.ret .none) {s with heap:=h'}) :
  wpAny (model prog w) A (Builtin.«list.sort» {[.ref a],[]}) P E s:=by
 rw[list_sort_plain];have T:a<s.heap.objs.size:=zZ O;have N:vs.length<=sizeLine:=by rw[qT];lia
 refine zW<|vJ O rfl (zW<|jZ O rfl ?_ (by omega) (xV _));obtain⟨y,W⟩:∃e,(s.heap.update a (Obj.mapSeq λ_=>(#[]:Array Θ))).get? a=↑(seqObj "list" #[] e):={_,kC O λ_=>#[]}
 have K:∀b o,b≠a->s.heap.get? b=↑o->(s.heap.update a<|Obj.mapSeq λ_=>(#[]:Array Θ)).get? b=↑o:=λb o B e=>(xN _ _<|jL B).trans e;refine zW<|seqEpoch_at W rfl (zW<|wpAny_newTuple (zW<|kN (xX ?_)<|xV _)<|by lia);have H:(((s.heap.update a<|Obj.mapSeq λ_=>(#[]:Array Θ)).push<|seqObj "tuple" vs.toArray 0).push<|seqObj "list" #[] 0).get? a=↑(seqObj "list" #[] y):=zV _<|zV _ W;have k:∀b o,b≠a->s.heap.get? b=↑o->(((s.heap.update a<|Obj.mapSeq λ_=>(#[]:Array Θ)).push<|seqObj "tuple" vs.toArray 0).push<|seqObj "list" #[] 0).get? b=↑o:=λb o B e=>zV _<|zV _<|K b o B e;show wpAny _ A _ P E {s with heap:=((s.heap.update a<|Obj.mapSeq λ_=>(#[]:Array Θ)).push<|seqObj "tuple" vs.toArray 0).push (seqObj "list" #[] 0)};generalize ((s.heap.update a<|Obj.mapSeq λ_=>(#[]:Array Θ)).push<|seqObj "tuple" vs.toArray 0).push (seqObj "list" #[] 0)=l at H k;clear W K;dsimp only;have fin:∀d:SortSt,(arrOf d).map (·.2)=(Vh z vs).toArray->failedOf d=none ->
   wpAny (model prog w) A (do
    let S:=(arrOf d).map (·.2);let t:=(<- seqEpoch a) != y
    Builtin.List.listUpdate (.ref a) λ_=>S
    if let some e:=failedOf d then rule "list.sort.comparison-raised";throw e
    if t then rule "list.sort.modified";raiseError "ValueError" "list modified during sort"
    ret .none) P E {s with heap:=l}:=λd J g=>by
  dsimp only;rw[J,g];refine zW<|seqEpoch_at H rfl (zW<|jZ H rfl ?_ (xV _) (by show(Vh z vs).toArray.size<=_;rw[zH,Xa];lia));obtain⟨c,hc⟩:∃c,(l.update a (Obj.mapSeq λ_=>(Vh z vs).toArray)).get? a=↑(seqObj "list" (Vh z vs).toArray c):={_,kC H λ_=>(Vh z vs).toArray}
  simp ;exact zX<|h _ c (λb o B e=>(xN _ _<|jL B).trans<|k b o B e) hc
 by_cases g:vs.toArray.size<2
 .rw[yM g,yM g];refine zW<|zX<|fin _ ?_ rfl;rw[Vh,yM<|by omega];show((vs.toArray.zip vs.toArray).map _)=vs.toArray;simp ;exact List.map_snd_zip<|yN _
 .rw[yO g,yO g];have Z:2<=vs.length:=by
   have:¬vs.length<2:=by exact g
   lia
  refine zW<|xB (hk Z l k (λm f=>m=r/\f={s with heap:=l}) ⟨rfl,rfl⟩) (λm f q=>?_) λ_ _ x=>x.elim;let(rfl,rfl):=q;refine zW (xB (kat_run (Q:=λd f=>f={s with heap:=l}/\(arrOf d).map (·.2)=(Vh z vs).toArray/\failedOf d=none) (G:=λp f=>f={s with heap:=l}/\p=SP.run _ _)
   rfl Z X (λp d f R F I v=>{v.1,?_,I}) (SP.wp_run (D Z l k) _ (SP.Gj<|by lia) {rfl,rfl})) ?_ λ_ _ e=>e)
  .rw[kat_snds rfl F,v.2,Vh,yO<|by lia]
  .rintro⟨⟨⟩,d⟩ f ⟨q,L,M⟩;subst q;exact fin d L M
def ZV(h:ι)(l:Ψ)(vs:Γ Θ):Prop:=∃ (o:Obj) (T:String) (n:Nat),(T="list"\/T="tuple")/\h.get? l=↑o/\o.cls=.type T/\o.data=.seq vs.toArray n
def Y2(H:ZV s.heap l vs)
  (h:Q vs {s with heap:=(s.heap.push<|seqObj "list" #[] 0).update s.heap.objs.size (Obj.mapSeq (·++vs.toArray))})(hsz:vs.length<=sizeLine):wpAny (model prog w) A (collect<|.ref l) Q E s:=by
 let(o,T,n,t,O,hc,d):=H;refine zW<|wpAny_runValue<|kE entry_proto_collect'<|zW<|kN<|zX {wI _<|by simp,kE entry_list_iadd' ?_};show wpAny _ _ (Builtin.List.listExtendWith _ _ _) _ _ _;have W:(s.heap.push<|seqObj "list" #[] 0).get? l=↑o:=zV _ O;refine zW<|wJ {o,W,hc} ?_;rw[yM<|by grind];refine zW<|vJ W d<|zW<|vJ (zY _ rfl) rfl (zW<|jZ (zY _ rfl) rfl ?_ (xV _) (by grind));apply zX;refine zW<|wpAny_load (kC (zY _ rfl) _) ?_;show wpAny _ _ (pure _) Q E _;rw[show((#[]:Array Θ)++vs.toArray).toList=vs by simp];exact zX h
def ZW{s:Ξ}{Q:Θ->Ξ->Prop}(m:ZV s.heap l vs)(X:vs.length<64)(z:Nat->Int)(d:SortKind)
  (hk:2<=vs.length->∀h' ,(∀b o,s.heap.get? b=↑o->h'.get? b=↑o)->∀f:SortKind->Ξ->Prop,f d {s with heap:=h'}->wpAny (model prog w) A.in1.in1 (keyKind' vs.toArray) f (λ_ _=>False) {s with heap:=h'})
  (v:2<=vs.length->∀h' ,(∀b o,s.heap.get? b=↑o->h'.get? b=↑o)->∀i j C,i<vs.length->j<vs.length->C (SP.ij z i j) {s with heap:=h'}->kas_ask prog w A.in1.in1 d vs i j C {s with heap:=h'})
  (h:∀(h':ι)(D:Ψ)c,(∀b o,s.heap.get? b=↑o->h'.get? b=↑o)->s.heap.objs.size<=D->h'.get? D=↑(seqObj "list" (Vh z vs).toArray c)->Q (.ref D) {s with heap:=h'}) :
  wpAny (model prog w) A (call (.builtin "sorted") [.ref l]) Q E s:=by
 have L:vs.length<=sizeLine:=by rw[qT];lia
 apply Calls.call_function_entry kind_sorted plain_sorted entry_sorted<|args_sorted1 _;refine zW<|zX<|zW<|Y2 m (zW<|kN ?_<|by lia) L;have H:((s.heap.push<|seqObj "list" #[] 0).update s.heap.objs.size (Obj.mapSeq (·++vs.toArray))).objs.size=s.heap.objs.size+1:=by simp
 have p:∀b o,s.heap.get? b=↑o->(((s.heap.push<|seqObj "list" #[] 0).update s.heap.objs.size (Obj.mapSeq (·++vs.toArray))).push<|seqObj "list" vs.toArray 0).get? b=↑o:=λb o e =>
  zV _ ((xN _ _<|jH<|zZ e).trans<|zV _ e)
 have Y:(((s.heap.push<|seqObj "list" #[] 0).update s.heap.objs.size (Obj.mapSeq (·++vs.toArray))).push<|seqObj "list" vs.toArray 0).get? (s.heap.objs.size+1)=↑(seqObj "list" vs.toArray 0):=by
  rw[<-H];exact zY _ rfl
 rw[H];generalize ((s.heap.push _).update s.heap.objs.size _).push _=g at p Y;have k:∀h':ι,(∀b o,b≠s.heap.objs.size+1->g.get? b=↑o->h'.get? b=↑o)->∀b o,s.heap.get? b=↑o->h'.get? b=↑o:=λh' q b o e=>q b o (yS<|jM<|zZ e)<|p b o e;exact zW<|xX<|qU slot_list_sort {_,Y,rfl} entry_list_sort (V5 Y X z d (λa h' q=>hk a h'<|k h' q) (λa h' q=>v a h'<|k h' q) λh' c q e=>{_,rfl,(zX {_,rfl,h h' _ c (k h' q) (by lia) e})})<|args_list_sort _
end X4
namespace Dl
open PySem L2 PySem.Spec PyProof.Rows
def Er(i:Nat)(fz:Γ Nat)(f:Env->Δ (Γ D)):ak->Δ Out:=λa=>(f<|bh<|hand fz 0 a).bind λu=>qd i (λd=>if d.length+u.length<=sizeLine then↑(d++u)else none)<|hand fz 0 a
def EI(i:Nat)(fz:Γ Nat)(t:X.N[i]?=↑x)(w:rA X.env.scope x)(h:DF X e f)(u:(x=="__debug__")=false:=by decide)(v:(x=="__classdict__")=false:=by decide)
  (l:((backTo UU<|starEach [e] X.env).all (λx=>!x.1)&&(backToKw UU<|keywordEach [] X.env).all (λx=>x.1.isSome)&&decide ([e].length+([]:Γ Keyword).length+(if([]:Γ Keyword).isEmpty then 0 else 1)<30))=true:=by rfl)
  (Z:(apos.endLine==UU.line)=true:=by rfl)(hs:starEach [e] X.env=(false,eval e X.env)::starEach [] X.env:=by rfl) :
  DS X UO UP (.Expr (.Call (.Attribute (.Name x px) "extend" apos) [e] [] UU) pos) (Er i fz f):=
 bH (lH<|pS qM PySem.F.slot_list_extend PySem.F.type_list_extend EE (dv t w u v) (br h cQ hs) rfl l Z hs rfl) λE C H z=>by
  let(J,ρ,o,S,j,q):=z;let(A,p,j):=bs j;let(D,P,d,g,rfl):=lE j;let(T,y,s):=S.hand fz;let(a,B,c,m,L,O,M):=s.own i D d;refine{.ref a,c,.inl {rfl,B,.of m},T,_,A,s.gr.fh,s.Vt,p,λb W I U G Q R n r=>?_};have k:=s.grow G;let(K,Y,f1,f2,f3,f5,f4):=k.own i D d;rw[c]at f1;cases f1;split at g
  .cases g;exact{a,b,Y,W,rfl,rfl,f2,n,by rw[f4.length,r.length];lia,q C _ U (k.mut d c f2<|f4.append r)<|y.trans G.ff}
  .cases g
def DP(ds:Γ D)(k:Int)(d:D):Γ D:=let j:=if k<0 then(k+(ds.length:Int)).toNat else min k.toNat ds.length;ds.take j++d::ds.drop j
def Kh:V->Γ V->Hp->VK->Prop:=λx v H Q=>∃l s k y,x=.ref l/\v=[.int k,y]/\H l=↑(.lst s)/\s.length<sizeLine/\-(2^62)<=k/\k<2^62 /\
 Q .UQ (upd H l<|.lst (s.take (if k<0 then(k+(s.length:Int)).toNat else min k.toNat s.length)++y::s.drop (if k<0 then(k+(s.length:Int)).toNat else min k.toNat s.length)))
def Fc:O5 X "list.insert" Kh:=by
 intro p s m H x i v S Q I c R h;let(l,j,k,y,rfl,rfl,b,Z,K,f,q):=h;cases c;let(g,d,rfl,(t,rfl),u):=L2.aI.two R;let(z,U,n,r,L,e):=I.YU b;have a:¬(!Builtin.List.listFitsIndex k)=true:=by
  have:Builtin.List.listFitsIndex k=true:=by
   unfold Builtin.List.listFitsIndex
   grind
  grind
 refine qV F.slot_list_insert {_,e,rfl} F.entry_list_insert (F.args_list_insert_3 _ _ _) (AutoListH.list_insert_list_int_val_1 l U.toArray n k t d a<|by grind) {e,?_};refine{.UQ,_,I.ZP b e ?_ ((r.take _).append<|.cons u<|r.drop _) ?_,rfl,q}<;>grind
def FU(i:Nat)(fz:Γ Nat)(fk f:Env->Δ D):ak->Δ Out:=λa=>(fk<|aS a).bind λkd=>match kd with
 |.int k=>(lX fz f a).bind λp=>qd i (λd=>if FF k=true/\d.length<sizeLine then↑(DP d k p.1)else none) p.2
 |_=>none
def E1(i:Nat)(fz:Γ Nat)(I:X.N[i]?=↑x)(L:rA X.env.scope x)(hk:DE X e fk)(h:DE X c f)(J:(x==("__debug__":Str))=false:=by decide)(B:(x==("__classdict__":Str))=false:=by decide)
  (C:((backTo UU<|starEach [e,c] X.env).all (λx=>!x.1)&&(backToKw UU<|keywordEach [] X.env).all (λx=>x.1.isSome)&&decide ([e,c].length+([]:Γ Keyword).length+(if([]:Γ Keyword).isEmpty then 0 else 1)<30))=true:=by rfl)
  (A:(apos.endLine==UU.line)=true:=by rfl)(hs:starEach [e,c] X.env=(false,eval e X.env)::starEach [c] X.env:=by rfl)(p:starEach [c] X.env=(false,eval c X.env)::starEach [] X.env:=by rfl) :
  DS X UO UP (.Expr (.Call (.Attribute (.Name x px) "insert" apos) [e,c] [] UU) pos) (FU i fz fk f):=
 bH (lH<|pS qM PySem.F.slot_list_insert PySem.F.type_list_insert Fc (dv I L J B) (br hk (br h cQ p) hs) rfl C A hs (by rw[p];rfl)) λE T H z=>by
  let(HF,w,o,S,G,q):=z;let(kd,D,G):=bs G;cases kd<;>try cases G
  rename_i k;let((d,R),g,G):=bs G;let(t,es,b,m,rfl):=lE G;have j:∃Z,w[i]?=↑(.own Z):=by
   let(d1,_,g):=bs g;split at g
   .cases g;exact⟨t,b⟩
   .let(d2,_,g):=ag g;cases g;rw[fu]at b;let(s,hs,b):=ag b;cases s with
    |UQ=>split at b<;>cases b
    |tab _=>split at b<;>cases b
    |obj _=>split at b<;>cases b
    |val _=>split at b<;>cases b
    |own Q=>exact⟨Q,hs⟩
  let(Z,j):=j;let(a,P,l,c,e3,e5,e4):=S.own i Z j;refine{.ref a,l,.inl {rfl,P,ik.of c},H,aS w,_,.refl _,S.all,D,λvk Hk y K rk=>?_};simp?[Rep]at rk;subst rk;refine oX (S.step K.hh) g λv W U M n sh r=>?_;let(a',Y,f1,f2,f3,f5,f4):=n.own i t b;rw[l]at f1;cases f1;split at m
  .rename_i u;cases m;have O:=u.1;unfold FF at O;rw[zF]at O;refine{a,Y,k,v,rfl,rfl,f2,by rw[f4.length];exact u.2,yR O.1,yR O.2,q T _ U (n.mut b l f2 ?_) M};unfold DP;rw[f4.length];exact(f4.take _).append<|au.cons r<|f4.drop _
  .cases m
def AG:D->D->Δ (Γ D)
 |.list x,.list y=>small (x++y)
 |_,_=>none
def GH(K:Φ):R2:=λx y H Q=>∃a b s Y,x=.ref a/\y=.ref b/\ik K H a s/\ik K H b Y/\s.length+Y.length<=sizeLine/\∀p,H p=none->Q (.ref p) (upd H p<|.lst<|s++Y)
def sX:iM X (binaryOp .Add) (GH X.K):=by
 intro p s m H x y v u Q I R i h;let(a,b,j,k,rfl,rfl,f,B,z,q):=h;cases R;cases i;let(U,r1,P,_):=I.list f;let(O,r,p2,_):=I.list B;let((C,e,A,l),o,hc,n,g):=P.isList;let((T,D,d,S),Z,Y,N,c):=p2.isList;subst hc g Y c;refine wL {_,o,rfl} {_,Z,rfl} noFill_list_add seq_list_add PySem.F.slot_list_add PySem.F.entry_list_add (PySem.F.args_list_add_2 _ _) (list_addW a b U.toArray O.toArray n N e D l S (by rw[zH,zH,<-r1.length,<-r.length];lia)) {o,Z,?_};rw[(show U.toArray++O.toArray=(U++O).toArray by simp)];exact{.ref s.heap.objs.size,_,I.aaN (r1.append r) (by rw[zN];exact z),rfl,q _ I.fresh}
def Uu(g:D->D->Δ (Γ D))(f1 f2:Env->Δ D):Env->Δ (Γ D):=λa=>(f1 a).bind λx=>(f2 a).bind λy=>g x y
def MU(A:DE X a fa)(B:DE X b fb):DF X (.BinOp a .Add b pos) (Uu AG fa fb):=aE (Ca sX A B) λt H Q z=>by
 let(F,i,d,sm,o,f,q):=z;let(x,j,f):=bs f;let(y,Y,e):=bs f;refine{F,i,x,sm,o,j,λn l T c r1=>{T,i,y,c.fh,o.mono c.ff,Y,λs m U g k=>?_}};cases x<;>cases y<;>simp[AG]at e<;>try cases e
 let(rfl,Z):=cU e;let(a,v,rfl,A,r):=(r1.mono g.ff)
 let(b,u,rfl,B,R):=k;have G:=c.trans g;exact{a,b,v,u,rfl,rfl,g.fh.seq A,g.fh.seq B,by rw[r.length,R.length,<-zN];lia,λp P=>q p _ _ U (G.trans<|.own G.fh P) (G.hh.free P) (G.fh.free P) ar<|r.append R}
def boolsOf:Γ D->Δ (Γ θ)
 |[]=>↑[]
 |.bool b::r=>(boolsOf r).map (b::·)
 |_::_=>none
def iU:∀{ds:Γ D}{bs:Γ θ},boolsOf ds=↑bs->ds=bs.map PyData.bool
 |[],bs,h=>by cases h;rfl
 |d::r,bs,h=>by
  cases d<;>simp?[boolsOf]at h<;>try cases h
  let(b,H,rfl):=ag h;rw[iU H];rfl
def mG{K:Φ}:∀{bs:Γ θ}{vs:Γ V},au K H (bs.map PyData.bool) vs->vs=bs.map V.bl
 |[],vs,h=>h.nil_inv
 |b::bs,vs,h=>by
  let(v,r,rfl,a,c):=h.cons_inv;rw[a,mG c];rfl
def l9:∀{bs:Γ θ}{u:Γ Θ},aI (bs.map V.bl) u->u=bs.map Value.bool
 |[],u,h=>by cases h;rfl
 |b::bs,u,h=>by
  cases h with
  |cons r R=>cases r;rw[l9 R];rfl
def range_all(bs:Γ θ):(List.range bs.length).all (λi=>bs.getD i false)=bs.all id:=by
 induction bs with
 |nil=>rfl
 |cons b bs I=>rw[zL,vL,xS,List.all_map,xS];exact jB _ I
def range_any(bs:Γ θ):(List.range bs.length).any (λi=>bs.getD i false)=bs.any id:=by
 induction bs with
 |nil=>rfl
 |cons b bs I=>rw[zL,vL,List.any_cons,wN,List.any_cons];exact jB _ I
def BY(hc:X.calm=true):fQ X (.builtin "all") (λxs H Q=>∃ (a:Ψ) (bs:Γ θ),xs=[.ref a]/\ik X.K H a (bs.map V.bl)/\Q (.bl<|bs.all id) H):=by
 intro S s C H xs y Q I r h;let(a,bs,rfl,f,q):=h;let(u,rfl,x):=vals1 r;cases x;let(U,R,p,z):=I.list f;have g:=l9 R;subst g;have d:X.A.in1.handled=none:=I.ok.hd hc;refine call_all_walk<|qK p.isList ?_;let(o,O,w,n,D):=p.isList;refine{_,_,_,_,_,_,λi=>bs.getD i false,rfl,Walks.list d s.heap.objs.size a (yS<|zZ O) _,{{_,zY _ rfl,rfl,rfl},p.isList.push _},λi v t l E P c=>?_,λm T k=>?_}
 .have e:v=Value.bool (bs.getD i false):=by
   have P:(bs.map Value.bool).toArray[i]?=↑v:=P;rw[vU,zO]at P;let(b,B,rfl):=ag P;rw[zG,B];rfl
  subst e;exact xW c
 .refine{.bl _,H,(I.kept λb j e=>k b j (by simp;exact yS<|zZ e)<|zV _ e),?_,q}
  .show Value.bool _=Value.bool _;have:=range_all bs
   grind
def oP:Γ D->Δ D:=λs=>(oneOf s).bind λd=>match d with
 |.list e=>(boolsOf e).map λbs=>.bool (bs.all id)
 |_=>none
def Oa(hc:X.calm=true)(B:iN X "all" (.builtin "all"))(A:DA X [e] fs)(E:starEach [e] X.env=(false,eval e X.env)::starEach [] X.env:=by rfl):DE X (.Call (.Name "all" p) [e] [] pos) (b8 oP fs):=
 iI (BY hc) (by
  intro F H s S d Q sm r g q;let(x,f,g):=bs g;rw[gH f]at r;cases x<;>try cases g
  let(bs,c,rfl):=ag g;let(v,i,rfl,a,b):=r.cons_inv;rw[b.nil_inv];let(p,u,rfl,h,R):=a;rw[iU c]at R;have:=mG R;subst this;exact{p,bs,rfl,sm.seq h,q _ H F (.refl sm)<|by rfl}) B A (by decide) (by rfl) E rfl
abbrev lexLt:=HT.lexLt
def dI:∀a ,lexLt a a=false
 |[]=>rfl
 |x::a=>by show HT.lexLt _ _=false;rw[HT.cR,yM rfl];exact dI a
def dP:∀{a b c:Γ Int},lexLt a b=true->lexLt b c=true->lexLt a c=true
 |[],[],_,h,_=>by lia
 |[],_::_,[],_,h=>by cases h
 |[],_::_,_::_,_,_=>rfl
 |_::_,[],_,h,_=>by cases h
 |_::_,_::_,[],_,h=>by cases h
 |x::a,y::b,z::c,H,d=>by
  have H:HT.lexLt _ _=true:=H;have d:HT.lexLt _ _=true:=d;show HT.lexLt _ _=true;rw[HT.cR]at H d ⊢;by_cases e:x=y
  .rw[yM e]at H;by_cases E:y=z
   .rw[yM E]at d;rw[yM<|e.trans E];exact dP H d
   grind
  grind
def lr:∀{a b:Γ Int},lexLt a b=false->lexLt b a=false->a=b
 |[],[],_,_=>rfl
 |[],_::_,h,_=>by cases h
 |_::_,[],_,h=>by cases h
 |x::a,y::b,H,c=>by
  have H:HT.lexLt _ _=false:=H;have c:HT.lexLt _ _=false:=c;rw[HT.cR]at H c;by_cases e:x=y
  .rw[yM e]at H;rw[yM e.symm]at c;rw[e,lr H c]
  grind
def lexLe(a b:Γ Int):θ:=!lexLt b a
def AH(a b c:Γ Int)(H:lexLe a b=true)(d:lexLe b c=true):lexLe a c=true:=by
 rw[lexLe,yQ]at *;cases e:lexLt c a with
 |false=>rfl
 |true =>
  cases E:lexLt a b with
  |true=>rw[dP e E]at d;lia
  |false =>
   have:=lr E H
   grind
def AJ(a b:Γ Int):(lexLe a b||lexLe b a)=true:=by
 unfold lexLe;cases e:lexLt b a with
 |false=>rfl
 |true =>
  cases E:lexLt a b with
  |false=>rfl
  |true=>have:=dP e E;rw[dI]at this;grind
def su(H:lexLe a b=true)(c:lexLe b a=true):a=b:=by
 unfold lexLe at *;rw[yQ]at *;exact lr c H
def tP{α:Type}{L:α->α->θ}(i:∀a b,L a b=true->L b a=true->a=b):∀{l m:Γ α},l.Perm m->l.Pairwise (λa b=>L a b=true)->m.Pairwise (λa b=>L a b=true)->l=m
 |[],m,p,_,_=>p.nil_eq
 |a::l,[],p,_,_=>by simp_all
 |a::l,b::m,p,c,d=>by
  let(A,H):=List.pairwise_cons.mp c;let(f,B):=List.pairwise_cons.mp d;have e:a=b:=by
   have g:=p.mem_iff.mp zE;have j:=p.mem_iff.mpr zE
   grind
  subst e;rw[tP i (List.perm_cons a |>.mp p) H B]
def mz(l:Γ (Γ Int)):Γ (Γ Int):=l.mergeSort lexLe
def et(l:Γ _):(mz l).Perm l:=List.mergeSort_perm l lexLe
def A1(l:Γ _):(mz l).Pairwise (λa b=>lexLe a b=true):=List.pairwise_mergeSort AH AJ l
def vz{l:Γ _}(p:l.Perm m)(h:l.Pairwise (λa b=>lexLe a b=true)):l=mz m:=tP (λ_ _=>su) (p.trans (et m).symm) h<|A1 m
def rk(l:Γ (Γ Int))(a:Γ Int):Int:=((l.countP λb=>lexLt b a:Nat):Int)
def Hh(H:a∈l):lexLt a b=decide (rk l a<rk l b):=by
 unfold rk;have o:∀{a b:Γ Int},lexLt a b=true->(l.countP λc=>lexLt c a)<=l.countP λc=>lexLt c b:=λ{a b}h=>List.countP_mono_left λc _ hc=>dP hc h;have s:∀{a b:Γ Int}(H:a∈l),lexLt a b=true->(l.countP λc=>lexLt c a)<l.countP λc=>lexLt c b:=λ{a b}H h=>by
  have k:∀m:Γ (Γ Int),a∈m->(m.countP λc=>lexLt c a)<m.countP λc=>lexLt c b:=λm M=>by
   induction m with
   |nil=>cases M
   |cons x m i =>
    rw[List.countP_cons,List.countP_cons];have O:(m.countP λc=>lexLt c a)<=m.countP λc=>lexLt c b:=List.countP_mono_left λc _ hc=>dP hc h;rcases List.mem_cons.mp M with e|M
    .subst e;rw[dI,h];simp?[yP,qN,xH];lia
    .have:=i M;by_cases X:lexLt x a=true
     .rw[X,dP X h];simp?[xH];lia
     .have Y:lexLt x a=false:=by simpa using X
      rw[Y];simp?[yP,qN];split<;>lia
  exact k l H
 cases e:lexLt a b with
 |true=>exact(yB (by have:=s H e;lia)).symm
 |false =>
  refine(yA ?_).symm;cases E:lexLt b a with
  |true=>have:=o E;lia
  |false=>rw[lr e E];lia
section
variable {prog:ε}{w:δ}{A:ξ}{E:Θ->Ξ->Prop}{s:Ξ}
def sf:∀{U S:Γ Θ}{ns M:Γ Int}i,IntsAre U ns->IntsAre S M->Q (lexLt ns M) s->W.KatLex prog w A true (decide (ns.length<M.length)) Q (U.zip S) i s
 |[],[],_,_,i,.nil,.nil,h=>h
 |[],_::_,_,_,i,.nil,.cons _ _ _,h=>by
  exact h
 |_::_,[],_,_,i,.cons _ _ _,.nil,h=>by
  exact h
 |_::U,_::S,_,_,i,.cons n t r1,.cons m u r,h=>by
  have h:Q (HT.lexLt _ _) s:=h;rw[HT.cR]at h;refine W.kat_cons<|SeqAt.EqAt.int_int n t m u prog w _ _ ?_;cases e:(n==m)with
  |true =>
   have E:=eq_of_beq e;rw[yM E]at h;have:=sf (i+1) r1 r h;simp ;exact this
  |false =>
   rw[yO λq=>by grind]at h;apply W.kat_no;by_cases H:(true&&i==0)=true
   .rw[H];exact oneLt_int h
   .rw[(show(true&&i==0)=false by grind)];exact W.kat_one _ _<|lt_int h
end
def ae(ns:Γ Int):D:=.tuple<|ns.map PyData.int
def intsOf:Γ D->Δ (Γ Int)
 |[]=>↑[]
 |.int n::r=>(intsOf r).map (n::·)
 |_::_=>none
def dO:∀{ds:Γ D}{ns:Γ Int},intsOf ds=↑ns->ds=ns.map PyData.int
 |[],ns,h=>by cases h;rfl
 |d::r,ns,h=>by
  cases d<;>simp?[intsOf]at h<;>try cases h
  let(n,H,rfl):=ag h;rw[dO H];rfl
def bX:∀ns ,intsOf (ns.map PyData.int)=↑ns
 |[]=>rfl
 |n::ns=>by simp[intsOf,bX ns]
def CQ:D->Δ (Γ Int)|.tuple d=>(intsOf d).bind λn=>if n=[]then none else↑n|_=>none
def Bh(h:CQ d=↑ns):d=ae ns/\ns≠[]:=by
 cases d<;>try cases h
 let(m,a,H):=bs h;split at H
 .cases H
 .rename_i n;cases H;rw[dO a];exact{rfl,n}
def E3(h:ns≠[]):CQ (ae ns)=↑ns:=by
 simp?[ae,CQ,bX,zA];rw[yO h]
def rowsOf:Γ D->Δ (Γ<|Γ Int)
 |[]=>↑[]
 |d::r=>(CQ d).bind λn=>(rowsOf r).map (n::·)
def pY:∀{ds:Γ D}{U:Γ _},rowsOf ds=↑U->ds=U.map ae/\∀ns∈U,ns≠[]
 |[],U,h=>by cases h;simp
 |d::r,U,h=>by
  let(ns,H,h):=bs h;let(t,a,rfl):=ag h;let(e,n):=Bh H;let(E,b):=pY a
  grind
def l8:∀{U:Γ _},(∀ns∈U,ns≠[])->rowsOf (U.map ae)=↑U
 |[],_=>rfl
 |ns::r,h=>by
  simp[zI,rowsOf,E3<|h ns zE,zA,l8 λm H=>h m<|zC _ H,zB]
structure p8(h:Heap)(v:Value)(ns:List Int):Prop where
 ex:∃ (a:Ψ) (o:Obj) (UR:Array Θ) (n:Nat),v=.ref a/\h.get? a=↑o/\o.cls=.type "tuple"/\o.data=.seq UR n/\IntsAre UR.toList ns
def p8.keep(r:p8 h v ns)(k:∀b o,h.get? b=↑o->h'.get? b=↑o):p8 h' v ns:=let ⟨a,o,U,n,e,E,c,d,f⟩:=r.ex;{a,o,U,n,e,k _ _ E,c,d,f}
def sP:∀{vs:Γ Θ}{u:Γ (Γ Int)},Paired (p8 h) vs u->(∀ns∈u,ns≠[])->∃fs:Γ Θ,W.KatTups h vs fs/\fs.length=vs.length/\∀f∈fs,∃n t,f=Value.int n t
 |_,_,.nil,_=>{[],trivial,rfl,λ_ z=>by grind}
 |_,_,.cons (a:=v) (b:=ns) r p,H=>by
  let(fs,j,k,l):=sP p λm M=>H m<|zC _ M;let(a,o,U,n,rfl,E,c,d,e):=r.ex;cases s:U.toList with
  |nil =>
   rw[s]at e;cases e;exact absurd rfl (H [] zE)
  |cons f R =>
   rw[s]at e;cases e with
   |cons m t w =>
    have i:U[0]?=↑(.int m t):=by
     have:U.toList[0]?=↑(.int m t):=by rw[s];rfl
     simpa using this
    exact⟨.int m t::fs,.cons E c d i j,by simp[k],λg G=>by
     rcases List.mem_cons.mp G with q|q
     .exact{m,t,q}
     .exact l g q⟩
def gy:∀{l:Γ α}{m:Γ β}{i:Nat},Paired R l m->i<l.length->R (l.getD i d) (m.getD i d')
 |_,_,i,.nil,h=>by simp at h
 |_,_,0,.cons r _,_=>r
 |_,_,i+1,.cons _ p,h=>by simpa using gy p (by simpa using h)
def Am(L:X4.ZV s.heap l vs)(p:Paired (p8 s.heap) vs U)(N:∀ns∈U,ns≠[])(X:vs.length<64)
  (h:∀(h':ι)(D:Ψ)(c:Nat),(∀b o,s.heap.get? b=↑o->h'.get? b=↑o)->s.heap.objs.size<=D->h'.get? D=↑(seqObj "list" (X4.Vh (λi=>rk U<|U.getD i []) vs).toArray c)->Q (.ref D) {s with heap:=h'}) :
  wpAny (model prog w) A (call (.builtin "sorted") [.ref l]) Q E s:=by
 refine X4.ZW L X _ (tuples' true) (λm h' k z q=>?_) (λm h' k i j C u J q=>?_) h
 .let(fs,t,H,F):=sP (Paired.aaE p λ_ _ r=>r.keep k) N;refine W.kat_kind (T:=.type "int") t (by lia) (λv x=>?_) (by rfl) q;let(n,t,rfl):=F v x;exact .of_pure rfl
 .have H:=p.length;let(a,o,R,n,g,d,G,f,e):=((gy p u).keep k).ex;let(b,O,I,K,B,f1,f2,f3,f4):=((gy p J).keep k).ex;rw[W.kas_ask,g,B];have Z:U.getD i []∈U:=by
   rw[zG,zK<|by lia];apply qA
  have y:C (lexLt (U.getD i [])<|U.getD j []) {s with heap:=h'}:=by
   rw[Hh Z];exact q
  apply W.kat_lt d f f1 f3;have:=sf (prog:=prog) (w:=w) (A:=A.in1.in1) 0 e f4 y;rw[(show R.size=(U.getD i []).length by have:=vW e;omega),(show I.size=(U.getD j []).length by have:=vW f4;omega)];exact this
def AC(z:Nat->Int)(l:Γ α)(d:α):Γ α:=if l.length<2 then l else(SP.run (SP.ij z)<|W.kas_sort l.length).toList.map λi=>l.getD i d
def k5(l:Γ α)(d:α):(List.range l.length).map (λi=>l.getD i d)=l:=by
 apply jG
 .simp
 .intro i a H;simp[H]
def j9(z:Nat->Int)(l:Γ α)(d:α):(AC z l d).Perm l:=by
 unfold AC;split
 .rfl
 .have:=((SP.jh (z:=z) (n:=l.length)<|by lia).1).map λi=>l.getD i d;rw[k5]at this;lia
def CJ(U:Γ (Γ Int)):AC (λi=>rk U<|U.getD i []) U []=mz U:=by
 refine vz (j9 _ _ _) ?_;unfold AC;split
 .rename_i h
  match U,h with
  |[],_=>exact List.Pairwise.nil
  |[a],_=>exact List.pairwise_singleton _ _
 .rename_i h;let(p,s):=SP.jh (z:=λi=>rk U<|U.getD i []) (n:=U.length) (by lia);rw[jD]at s ⊢;refine s.imp_of_mem λ{i j}I H u=>?_;have Y:j<U.length:=by have:=p.mem_iff.mp H;simpa using this
  unfold lexLe;rw[Hh (l:=U) (a:=U.getD j []) (by rw[zG,zK Y];exact qA _)];simp?[yQ,xC];lia
def sx{K:Φ}(z:Nat->Int)(r:au K HF ds vs):au K HF (AC z ds .none) (AC z vs .UQ):=by
 unfold AC;rw[r.length];split
 .lia
 .let(p,_):=SP.jh (n:=ds.length) (by lia);have k:∀l:Γ Nat,(∀i∈l,i<ds.length)->au K HF (l.map λi=>ds.getD i .none) (l.map λi=>vs.getD i .UQ):=λl=>by
   induction l with
   |nil=>exactλ_=>.nil
   |cons i l I =>
    intro L;have H:=L i zE;let(v,e,E):=r.getD<|zK H;refine au.cons ?_<|I λj J=>L j<|zC _ J;dsimp only;rw[zG,zG,e,zK H];exact E
  exact k _ λi H=>by have:=p.mem_iff.mp H;simpa using this
def rj(z:Nat->Int)(r:aI vs us):aI (AC z vs .UQ) (X4.Vh z us):=by
 unfold AC X4.Vh;rw[r.length];split
 .exact r
 .rename_i h;let(p,_):=SP.jh (z:=z) (n:=us.length) (by lia);have k:∀l:Γ Nat,(∀i∈l,i<vs.length)->aI (l.map λi=>vs.getD i .UQ) (l.map λi=>us.getD i Value.none):=λl=>by
   induction l with
   |nil=>exactλ_=>.nil
   |cons i l I =>
    intro L;have H:=L i zE;let(v,e,E):=r.get<|zK H;refine .cons ?_<|I λj J=>L j<|zC _ J;dsimp only;rw[zG,zG,e,zK H];exact E
  exact k _ λi H=>by have:=p.mem_iff.mp H;rw[r.length];simpa using this
def C6(z:Nat->Int)(U:Γ _):AC z (U.map ae) .none=(AC z U []).map ae:=by
 unfold AC;rw[zD];split
 .rfl
 .rw[zM];let(p,_):=SP.jh (n:=U.length) (by lia);refine yI λi H=>?_;have W:=by have:=p.mem_iff.mp H;simpa using this
  simp[W]
def xj(I:Inv X pins σ H s)(sm:aA HF H):∀{U:Γ (Γ Int)}{vs:Γ V}{u:Γ Θ},au X.K HF (U.map ae) vs->aI vs u->Paired (p8 s.heap) u U
 |[],_,_,h,r=>by rw[h.nil_inv]at r;cases r;exact .nil
 |N::U,_,_,h,r=>by
  let(v,g,rfl,a,b):=h.cons_inv;cases r with
  |cons r e =>
   refine .cons ?_<|xj I sm b e;unfold ae at a;simp?[Rep]at a;let(p,w,rfl,S,R):=a;cases r;let(c,f,(o,O,hc,n,d),_):=I.tuple<|ay sm S;have:w=N.map V.int:=by
    have k:∀{N:Γ Int}{w:Γ V},au X.K HF (N.map PyData.int) w->w=N.map V.int:=λ{N}=>by
     induction N with
     |nil=>exactλh=>h.nil_inv
     |cons n N i =>
      intro w h;let(v,r,rfl,a,b):=h.cons_inv;simp?[Rep]at a;rw[a,i b];rfl
    exact k R
   subst this;exact{p,o,c.toArray,n,rfl,O,hc,d,intsAre_of f}
def oC:fQ X (.builtin "sorted") (λxs H Q=>∃ (HF:Hp) (a:Ψ) (vs:Γ V) (U:Γ _),xs=[.ref a]/\aA HF H/\(ik X.K HF a vs\/fP X.K HF a vs)/\au X.K HF (U.map ae) vs/\(∀ns∈U,ns≠[])/\U.length<64 /\
  ∀Dn S,H Dn=none->au X.K HF ((mz U).map ae) S->Q (.ref Dn) (upd H Dn<|.lst S)):=by
 intro P s l H xs S Q I r h;let(HF,a,vs,U,rfl,sm,b,f,N,B,q):=h;let(u,rfl,x):=vals1 r;cases x;obtain⟨R,v,p,z⟩:∃R ,aI vs R/\X4.ZV s.heap a R/\vs.length<=sizeLine:=by
  rcases b with b|b
  .let(R,v,p,z):=I.list<|sm.seq b;let(o,O,hc,n,d):=p.isList;exact{R,v,{o,"list",n,.inl rfl,O,hc,d},z}
  .let(R,v,p,z):=I.tuple<|ay sm b;let(o,O,hc,n,d):=(p)
   exact{R,v,{o,"tuple",n,.inr rfl,O,hc,d},z}
 have Z:=f.length;rw[zD]at Z;refine Am p (xj I sm f v) N (by have:=v.length;lia) λj Dn c k D e=>?_;have g:=sx (λi=>rk U<|U.getD i []) f;rw[C6,CJ]at g;refine{.ref Dn,_,I.laid (o:=.lst _) k D {?_,_,c,(rj (λi=>rk U<|U.getD i []) v),e},rfl,q Dn _ (I.UX.fresh D) g};rw[(j9 _ _ _).length_eq];lia
def dY:Γ D->Δ (Γ D):=λs=>(oneOf s).bind λd=>match d with
 |.list e=>(rowsOf e).bind λU=>if U.length<64 then↑((mz U).map ae)else none
 |.tuple e=>(rowsOf e).bind λU=>if U.length<64 then↑((mz U).map ae)else none
 |_=>none
def Fk(B:iN X "sorted" (.builtin "sorted"))(A:DA X [e] fs)(l:starEach [e] X.env=(false,eval e X.env)::starEach [] X.env:=by rfl):DF X (.Call (.Name "sorted" p) [e] [] pos) (si dY fs):=
 IC oC (by
  intro F H o S d Q sm r g q;let(x,m,g):=bs g;rw[gH m]at r;have k:∀(b:θ)s,au X.K F [if b then .tuple s else .list s] S->((rowsOf s).bind λU=>if U.length<64 then↑((mz U).map ae)else none)=↑d->(∃ (F:Hp) (a:Ψ) (u:Γ V) (U:Γ _),S=[.ref a]/\aA F H/\(ik X.K F a u\/fP X.K F a u)/\au X.K F (U.map ae) u/\(∀n∈U,n≠[])/\U.length<64/\∀Dn w,H Dn=none->au X.K F ((mz U).map ae) w->Q (.ref Dn) (upd H Dn<|.lst w)):=λb s r g=>by
   let(U,j,g):=bs g;split at g
   .rename_i c;cases g;let(v,t,rfl,a,E):=r.cons_inv;rw[E.nil_inv];let(f,i):=pY j;obtain⟨p,u,rfl,h,R⟩:∃p u,v=.ref p/\(ik X.K F p u\/fP X.K F p u)/\au X.K F s u:=by
     cases b
     .let(p,u,rfl,h,R):=a;exact{p,u,rfl,.inl h,R}
     .let(p,u,rfl,h,R):=a;exact{p,u,rfl,.inr h,R}
    rw[f]at R;exact{F,p,u,U,rfl,sm,h,R,i,c,λDn w D=>q Dn w _ F (.own sm D) D (sm.free D) ar}
   grind
  cases x<;>try cases g
  .exact k false _ r g
  .exact k true _ r g) B A (by decide) (by rfl) l rfl
end Dl
namespace En
open PySem PyProof.Rows
open AutoSeq1 (wpAny_loadPart')
def XC(H:s.heap.IsTupleIter j t k)(ht:s.heap.IsTuple t UR)(a:UR[k]?=↑v)
  (q:∀g,g.IsTupleIter j t (k+1)->Heap.SameBut j s.heap g->Q v {s with heap:=g}):wpAny (model prog w) A (Builtin.SmallTypes.nextOf<|.ref j) Q E s:=by
 let(o,G,c,d):=id H;let(O,T,_,n,D):=ht;refine zW<|qC H.typeIs jP<|qU jP H.typeIs F.entry_tuple_iterator_next (zW (m:=field _ 0)<|qS G d rfl (zW<|qS G d rfl (zW<|kG T D ?_)))<|F.args_tuple_iterator_next_1 _;simp[yH,a];refine zW<|wpAny_setField G d (by simp)<|zX {v,rfl,zX<|q _ {_,Heap.get?_update_self _ G<|Obj.isFreed_of_fields<|Obj.data_mapFields d _,(Obj.cls_mapFields ..).trans c,?_}<|.update ..};rw[Obj.data_mapFields d];rfl
def Yq{Q:Θ->Ξ->Prop}(a:A.handled=none)(H:s.heap.IsTupleIter j t k)(ht:s.heap.IsTuple t UR)(v:UR[k]?=none)
  (e:∀g x,Heap.ExtBut j s.heap g->(∃o,g.get? x=↑o/\o.cls=.type "StopIteration")->E (.ref x) {s with heap:=g}):wpAny (model prog w) A (Builtin.SmallTypes.nextOf<|.ref j) Q E s:=by
 let(O,G,c,d):=id H;let(b,T,_,n,D):=ht;refine zW<|qC H.typeIs jP<|qU jP H.typeIs F.entry_tuple_iterator_next (zW (m:=field _ 0)<|qS G d rfl (zW<|qS G d rfl (zW<|kG T D ?_)))<|F.args_tuple_iterator_next_1 _;simp[yH,v];refine zW<|wD<|zW<|wpAny_setField G d (by simp)<|zW<|zW<|qL (zW<|wpAny_of_eq (by rfl)<|qL (zW<|wpAny_handled ?_)<|by size_fits) (by size_fits);rw[a];exact zW<|zX<|wpAny_throw<|e _ _ (((Heap.SameBut.update ..).extBut.push _).push _) {_,zY _ rfl,rfl}
def Xb(t:Ψ)(U:Array Θ)(n:Nat)(D:Δ Ψ)(S:Array (Δ Θ)) :
  Meets (Builtin.«enumerate.__new__» {[.type "enumerate",.ref t],[]}) (λ_ R s=>s.heap.get? t=some {cls:=.type "tuple",dict:=D,data:=.seq U n,slots:=S} /\
   R (.ok<|.ret<|.ref (s.heap.push {cls:=.type "tuple_iterator",data:=.fields #[.ref t,.int 0 0]}).objs.size)
    {s with heap:=(s.heap.push {cls:=.type "tuple_iterator",data:=.fields #[.ref t,.int 0 0]}).push {cls:=.type "enumerate",data:=.fields #[.none,.bool false,.ref s.heap.objs.size,rawInt 0,.none,.none]}}):=
 .of_wp λp w A R s h=>by
  let(H,g,d,k,o):=s;let(l,h):=h;have X:=sub_enumerate;have L:Heap.IsTuple (Shared.heap ⟨H,g,d,k,o⟩) t U:={_,l,rfl,n,rfl}
  wp_walk using wpAny_loadPart' l
  refine wpAny_stack_any λst=>zX ?_;split
  .rename_i c _ _ _ _ _;cases(c==Value.type "enumerate")
   .wp_walk using wpAny_loadPart' l,xR L
    exact{_,rfl,h}
   .wp_walk using wpAny_loadPart' l,xR L
    exact{_,rfl,h}
  .wp_walk using wpAny_loadPart' l,xR L
   exact{_,rfl,h}
def XD(ht:s.heap.IsTuple t UR)
  (h:∀h',IsEnum h' (s.heap.objs.size+1) s.heap.objs.size 0 .none->h'.IsTupleIter s.heap.objs.size t 0->h'.objs.size=s.heap.objs.size+2->(∀b o,s.heap.get? b=↑o->h'.get? b=↑o)->Q (.ref<|s.heap.objs.size+1) {s with heap:=h'}) :
  wpAny (model prog w) A (call (.type "enumerate") [.ref t]) Q E s:=by
 let((c,d,D,S),l,hc,n,H):=ht;subst hc H;refine callType_new F.called_enumerate (by rfl) (F.typeCall_enumerate_1 _) (F.newCall_enumerate_1 _) (λobj=>F.args_object_init_2 obj _) F.entry_enumerate_new (Xb t UR n d S) {l,?_};have e:=zY (s.heap.push {cls:=.type "tuple_iterator",data:=.fields #[.ref t,.int 0 0]}) (o:={cls:=.type "enumerate",data:=.fields #[.none,.bool false,.ref s.heap.objs.size,rawInt 0,.none,.none]}) rfl;rw[(show(s.heap.push {cls:=.type "tuple_iterator",data:=.fields #[.ref t,.int 0 0]}).objs.size=s.heap.objs.size+1 by simp)]at e ⊢;refine{{_,e,rfl},h _ e {_,zV _<|zY _ rfl,rfl,rfl} ?_ λb o x=>zV _<|zV _ x};simp
end En
namespace Dl
open PySem L2 PySem.Spec PyProof.Rows
section
variable {ch:Γ Ψ}
def Aa(I:Inv X pins σ H s)(W:∀b∈ch,dc X pins H b)(k:∀b o,b∉ch->s.heap.get? b=↑o->h'.get? b=↑o){T:Ψ}{S:Γ Θ}{xs:Γ V}(t:s.heap.objs.size<=T)(ht:Eg h' T S.toArray)
  (R:aI xs S)(Z:xs.length<=sizeLine):Inv X pins σ (upd H T<|.tup xs) {s with heap:=h',toks:=t'}:=by
 have N:∀b o,H b=↑o->b≠T:=λb o e=>aF e<|I.UX.fresh t;have Y:∀b o,H b=↑o->b∉ch:=λb o e z=>by rw[(W b z).1]at e;grind
 refine I.step (λb B=>?_) (λb o _ _ hc e _=>k b o hc e) (λb o _ _ hc e _=>{o.slots,k b o hc e}) (λb o _ e n=>by rw[ai<|(λb o e=>yS (zP (zZ e) t):∀b o,s.heap.get? b=↑o->b≠T) b o e];lia)
  (λb o hc e=>{o,k b o hc e}) (λb y e=>by rw[ai<|N b _ e];lia) (λb o u e=>by rw[ai<|N b _ e];lia) (.kept (λb u ⟨q,z⟩=>k b u<|Y b _ z) λb u e _=>by rw[ai<|N b _ e];lia) (λm M=>?_) (λb u e=>?_) I.bare
 .let(f,f1,f2,f3,f4,f5):=W b B;exact{f3,f1,f4,f5}
 .let(o,E,p,O,r):=M;exact{o,E,p,k _ o (λz=>(W _ z).2.1 rfl) O,r}
 .by_cases B:b=T
  .subst B;rw[ar]at e;cases e;exact{Z,S,R,ht}
  .rw[ai B]at e;refine(I.UX b u e).VF (λc v hc=>k c v ?_) (λ_ q=>?_) λc v q _=>?_
   .grind
   all_goals (rw[ai<|N _ _ q];lia)
def Q5(I:Inv X pins σ H s)(f:dc X pins H b)(h:X.K.lookup a=↑o):a≠b:=by
 rintro rfl;have B:=I.ok.mod.kin a o h;rcases f.2.2.2.1 with z|z
 .exact I.ok.Ym a o B z
 .exact absurd (zP (zZ (I.ok.bs a o B).1) z)<|qE _
def NH(I:Inv X pins σ H s)(f:dc X pins H b)(h:ik X.K H a xs):a≠b:=by
 rcases h with (h|⟨o,h⟩)|⟨o,UR,n,h,_⟩
 .exact aF h f.1
 .exact aF h f.1
 .exact Q5 I f h
def MS(I:Inv X pins σ H s)(f:dc X pins H b)(h:fP X.K H a xs):a≠b:=by
 rcases h with (h|⟨o,h⟩)|⟨o,UR,n,h,_⟩
 .exact aF h f.1
 .exact aF h f.1
 .exact Q5 I f h
end
def SK(q:Hp->Γ V->Prop):It:={λi H=>∃s x,q H s/\s[i]?=↑x,λi H v a=>∃T y,v=.ref T/\H T=none/\a=upd H T (.tup [.int (i:Nat),y])/\∀s,q H s->s[i]?=↑y,λi H=>∃s,q H s/\s.length<=i}
def bZ(k:Nat):Γ D->Γ D
 |[]=>[]
 |d::s=>.tuple [.int (k:Nat),d]::bZ (k+1) s
def uJ:∀{ds:Γ D}{k i:Nat}{d:D},(bZ k ds)[i]?=↑d->∃x,ds[i]?=↑x/\d=.tuple [.int ((k+i:Nat):Int),x]
 |[],k,i,d,h=>by simp[bZ]at h
 |x::ds,k,0,d,h=>by simp[bZ]at h;exact{x,rfl,h.symm}
 |x::ds,k,i+1,d,h=>by
  simp?[bZ,yZ]at h;let(y,H,a):=uJ h;refine{y,by simpa using H,?_};rw[a,show k+1+i=k+(i+1)by lia]
def uc:∀ds k,(bZ k ds).length=ds.length
 |[],k=>rfl
 |x::ds,k=>by simp[bZ,uc ds _]
def Eo{K:Φ}(h:U HF vs)(mo:∀H H',aA H H'->U H vs->U H' vs)(r:au K HF ds vs):mV K (SK U) HF (bZ 0 ds) where
 go:=λi d f u e S s=>by
  let(x,X,rfl):=uJ e;rw[jC];let(v,a,R):=r.getD X;have q:=mo _ _ s<|mo _ _ S h;refine{{vs,v,q,a},λy w ⟨T,z,E,t,b,Y⟩=>?_};have:=Y vs q;rw[a]at this;cases this;subst E b;exact{_,.new s t,eR (s.free t)<|au.cons (by rfl)<|au.cons (R.mono S) .nil}
 stop:=λf u S s=>{vs,mo _ _ s<|mo _ _ S h,by rw[uc,r.length];apply yN}
def Si(S a:Hp->Γ V->Prop):It:=⟨λi H=>∃s Y x y,S H s/\a H Y/\s[i]?=↑x/\Y[i]?=↑y,
 λi H v b=>∃T x y,v=.ref T/\H T=none/\b=upd H T (.tup [x,y])/\(∀s,S H s->s[i]?=↑x)/\∀Y,a H Y->Y[i]?=↑y,
 λi H=>∃s Y,S H s/\a H Y/\(s.length<=i\/Y.length<=i)⟩
section
variable {ch:Γ Ψ}
def Ew(I:Inv X pins σ H s)(W:∀b∈ch,dc X pins H b)(k:∀b o,b∉ch->s.heap.get? b=↑o->h'.get? b=↑o):Inv X pins σ H {s with heap:=h',toks:=t'}:=by
 have Y:∀b o,H b=↑o->b∉ch:=λb o e z=>by rw[(W b z).1]at e;cases e
 refine I.step (g':=s.gens) (d':=s.drawn) (ch:=ch) (λb B=>?_) (λb o _ _ hc e _=>k b o hc e) (λb o _ _ hc e _=>{o.slots,k b o hc e}) (λb o _ e n=>n)
  (λb o hc e=>{o,k b o hc e}) (λb y e=>e) (λb o u e=>e) (.kept (λb u ⟨q,z⟩ e=>k b u (Y b _ z) e) λb u e _=>e) (λm M=>?_) (λb u e=>?_) I.bare
 .let(f,f1,f2,f3,f4,f5):=W b B;exact{f3,f1,f4,f5}
 .let(o,E,p,O,r):=M;exact{o,E,p,k _ o (λz=>(W _ z).2.1 rfl) O,r}
 .refine (I.UX b u e).VF (λc v hc q=>k c v ?_ q) (λ_ q=>q) λc v q _=>q;rcases hc with z|z
  .rw[z];exact Y b u e
  .exact Y c _ z
end
structure Uh(z TI TO i1 i2:Addr):Prop where
 a1:TI≠z
 a2:TO≠z
 a3:i1≠z
 a4:i2≠z
 a5:TI≠TO
 a6:TI≠i1
 a7:TI≠i2
 a8:TO≠i1
 a9:TO≠i2
 a0:i1≠i2
def mw:Γ D->Γ D->Γ D
 |x::s,y::Y=>.tuple [x,y]::mw s Y
 |_,_=>[]
def rK:∀{xs ys:Γ D}{i:Nat}{d:D},(mw xs ys)[i]?=↑d->∃x y,xs[i]?=↑x/\ys[i]?=↑y/\d=.tuple [x,y]
 |[],_,i,d,h=>by simp[mw]at h
 |_::_,[],i,d,h=>by simp[mw]at h
 |x::xs,y::ys,0,d,h=>by simp[mw]at h;exact{x,y,rfl,rfl,h.symm}
 |x::xs,y::ys,i+1,d,h=>by
  simp?[mw,yZ]at h;let(a,b,H,c,e):=rK h;exact{a,b,by simpa using H,by simpa using c,e}
def nU:∀xs ys,(mw xs ys).length=min xs.length ys.length
 |[],_=>by rfl
 |_::_,[]=>by rfl
 |x::xs,y::ys=>by simp[mw,nU xs ys]
def yx{K:Φ}(c:U HF vs)(m:∀H H',aA H H'->U H vs->U H' vs)(f:sq2 HF us)(M:∀H H',aA H H'->sq2 H us->sq2 H' us)(r1:au K HF xs vs)(r:au K HF ys us) :
  mV K (Si U sq2) HF (mw xs ys) where
 go:=λi d F k e s S=>by
  let(x,y,X,Y,rfl):=rK e;let(v,j,p):=r1.getD X;let(u,g,R):=r.getD Y;have q:=m _ _ S<|m _ _ s c;have q2:=M _ _ S<|M _ _ s f;refine{{vs,us,v,u,q,q2,j,g},λw z ⟨T,a,b,l,t,n,A,o⟩=>?_};have E:=A vs q;have B:=o us q2;rw[j]at E;rw[g]at B;cases E;cases B;subst l n;exact{_,.new S t,eR (S.free t)<|au.cons (p.mono s)<|au.cons (R.mono s) .nil}
 stop:=λF k s S=>{vs,us,m _ _ S<|m _ _ s c,M _ _ S<|M _ _ s f,by rw[nU,r1.length,r.length];lia}
def cut(xs:Γ α)(lo hi:Δ Int):Γ α:=(xs.drop<|HT.e8 xs.length 0 lo).take<|HT.e8 xs.length xs.length hi-HT.e8 xs.length 0 lo
def Kb(xs:Γ α)(lo hi:Δ Int):(cut xs lo hi).length<=xs.length:=by
 unfold cut;rw[jU,qH];lia
def rP{K:Φ}(r:au K H ds vs)(lo hi:Δ Int):au K H (cut ds lo hi) (cut vs lo hi):=by
 unfold cut;rw[r.length];exact(r.drop _).take _
section
def Ef{vl:Θ}{lo:Δ Int}(ht:IsTup s.heap t UR)(hs:s.heap.IsSliceOf sl vl U .none)(pl:IsPart vl lo)(pu:IsPart U hi)
  (hw:HT.e8 UR.size 0 lo=0/\HT.e8 UR.size UR.size hi=UR.size)(h:Q (.ref t) s):wpAny (model prog w) A (getItem (.ref t)<|.ref sl) Q E s:=by
 let(o,Y,H,G):=id hs;unfold getItem
 try with_reducible apply xX
 refine zW<|wpAny_sequenceKey ht.typeIs (by rfl)<|zW<|qC ht.typeIs jE<|qU jE ht.typeIs entry_tuple_getitem (zW (m:=Builtin.Tuple.tupleItemsOf _)<|tupleItemsOf_ ht<|zW<|wJ ({o,Y,H}:s.TypeIs (.ref sl) _)<|zW<|HT.iJ hs pl pu ?_)<|args_tuple_getitem _ _;show wpAny _ _ (if((HT.e8 UR.size 0 lo:Int)==0&&1==1&&(HT.e8 UR.size UR.size hi-HT.e8 UR.size 0 lo)==UR.size)=true then _ else _) _ _ s;rw[hw.1,hw.2,yM<|by simp];exact zW<|zW<|wJ ht.typeIs<|zX<|zW<|wD<|zX {_,rfl,zX h}
def So(K:Φ):V->Δ Int->Δ Int->Hp->VK->Prop:=λx l i H Q=>∃a s,x=.ref a/\fP K H a s/\(cut s l i=s->Q (.ref a) H)/\∀p,H p=none->Q (.ref p) (upd H p<|.tup<|cut s l i)
def OV:Ml X (So X.K):=by
 intro p s d H x v vl u l i L Q I R b P pu h;let(a,S,rfl,c,q,q2):=h;by_cases hw:HT.e8 S.length 0 l=0/\HT.e8 S.length S.length i=S.length
 .cases R;let(U,r,ht,z):=I.tuple c;have n:U.toArray.size=S.length:=by rw[zH];exact r.length.symm
  refine{"tuple",_,PyProof.Rows.slot_tuple_getitem.lookup,ht.typeIs,Ef ht b P pu (by rw[n];exact hw) {.ref a,H,I,rfl,q ?_}};unfold cut;rw[hw.1,hw.2,List.drop_zero,Nat.sub_zero,List.take_length]
 .exact Nx p s d H (.ref a) v vl u l i L Q I R b P pu {a,S,rfl,c,hw,q2}
def Sl(K:Φ):V->Δ Int->Δ Int->Hp->VK->Prop:=λx l i H Q=>∃a s,x=.ref a/\ik K H a s/\∀p,H p=none->Q (.ref p) (upd H p<|.lst<|cut s l i)
def A8(lo hi:Δ Int)(n:Nat):sliceBounds lo hi none n=(((HT.e8 n 0 lo:Nat):Int),((HT.e8 n n hi:Nat):Int),1):=by
 have H:(1:Int) > 0:=by lia
 refine Prod.ext ?_<|Prod.ext ?_ rfl
 .cases lo with
  |none=>simp[sliceBounds,HT.e8]
  |some x =>
   by_cases h:x<0
   .simp?[sliceBounds,HT.e8,kL,H,xH,yM h];lia
   .simp?[sliceBounds,HT.e8,kL,H,xH,yO h];lia
 .cases hi with
  |none=>simp[sliceBounds,HT.e8]
  |some x =>
   by_cases h:x<0
   .simp?[sliceBounds,HT.e8,kL,H,xH,yM h];lia
   .simp?[sliceBounds,HT.e8,kL,H,xH,yO h];lia
def JI:Ml X (Sl X.K):=by
 intro P s e H x v vl u l i d Q I R b L pu h;let(a,S,rfl,c,q):=h;cases R;let(U,r,p,z):=I.list c;have n:=r.length;refine{"list",_,slot_list_getitem.lookup,p.isList.typeIs,wpAny_getItem_list_slice p.isList b L pu .none (by simp) ?_<|by grind};rw[W.kmk_pick_nat U.toArray<|A8 l i U.toArray.size];exact{.ref s.heap.objs.size,_,I.aaN (show aI (cut S l i) (cut U l i)by rw[cut,n];apply(r.drop _).take)<|yE (Kb S l i) z,rfl,q _ I.fresh}
def Uw(K:Φ)(f:Env->Δ (Δ Int)):TO:=λc H Q=>∃F b o,aA F H/\cw K F b c/\f b=↑o/\∀a U,bc F H U a->Q o a
def DO(X:Cx)(e:Δ γ)(f:Env->Δ (Δ Int)):Prop:=PO X e<|Uw X.K f
def nG:Env->Δ (Δ Int):=λ_=>↑none
def gI:D->Δ Int|.int i=>↑i|_=>none
def CN(f:Env->Δ D):Env->Δ (Δ Int):=λa=>(f a).bind λd=>(gI d).map some
def KD:DO X none nG:=λp s a H Q I z=>by let(F,b,o,sm,e,f,q):=z;exact Ks p s a H Q I (by cases f;exact q H F<|.refl sm)
def JB(h:DE X e f):DO X (↑e) (CN f):=λp s k H Q I ⟨b,j,o,sm,E,F,q⟩=>Dr h p s k H Q I (by
 let(d,D,F):=bs F;let(i,c,rfl):=ag F;cases d<;>try cases c
 exact{b,j,_,sm,E,D,λv a U g r1=>{_,by exact r1,q a U g}})
variable {lo hi:Δ γ}{fl fh:Env->Δ (Δ Int)}
def nN(g:D->Δ Int->Δ Int->Δ β)(fa:Env->Δ D)(fl fh:Env->Δ (Δ Int)):Env->Δ β:=λa=>(fa a).bind λx=>(fl a).bind λl=>(fh a).bind λh=>g x l h
end
def rQ:∀{l:Γ α},(∀x∈l,f x=g x)->l.filterMap f=l.filterMap g
 |[],_=>rfl
 |x::l,h=>by rw[jF,jF,h x zE,rQ λy H=>h y<|zC _ H]
def FR(xs:Γ Θ):((List.range xs.length).filterMap λ(k:Nat)=>xs.toArray[((xs.length:Int)-1+k*(-1)).toNat]?)=xs.reverse:=by
 have e:∀k∈List.range xs.length,xs.toArray[((xs.length:Int)-1+k*(-1)).toNat]?=xs.reverse[k]?:=λk hk=>by
  have P:=by simpa using hk
  have:((xs.length:Int)-1+k*(-1)).toNat=xs.length-1-k:=by lia
  simp_all
 rw[rQ e];have y:∀(l:Γ Θ),(List.range l.length).filterMap (λk=>l[k]?)=l:=λl=>by
  induction l with
  |nil=>rfl
  |cons x l i =>
   rw[zL,vL,jF];simp?[xQ];rw[List.filterMap_map]
   congr 1
 grind
def f1(g:D->Δ D)(f:Env->Δ D):Env->Δ D:=λa=>(f a).bind g
end Dl
namespace HT
open PySem PyProof.Rows
section
open PySem.SeqAt
open PySem.AutoSeq1 (wpAny_loadPart')
open PySem.MeetsSeq PySem.MeetsSeq2 PySem.MeetsSeq3
end
end HT
namespace Dl
open PySem L2 PySem.Spec PyProof.Rows
def bj:D->Δ (Γ Int)|.tuple d=>intsOf d|_=>none
def dg(h:bj x=↑ns):x=.tuple (ns.map PyData.int):=by
 cases x<;>try cases h
 rw[dO h]
end Dl
namespace En
open PySem PyProof.Rows
open AutoSeq1 (wpAny_loadPart')
def XG:fillsNumberSlot (.type "tuple") "mul"=pure false:=PySem.fillsNumberSlot_seq F.slot_tuple_mul.lookup (by rfl) F.slot_tuple_rmul.lookup (by rfl)
def XH:seqRepeat? (.type "tuple")=pure (↑(.builtin "tuple.__mul__")):=by
 rw[seqRepeat?,PySem.seqSlot_of (name:="__mul__") F.slot_tuple_mul.lookup<|by rfl,PySem.seqSlot_of (name:="__rmul__") F.slot_tuple_rmul.lookup<|by rfl];rfl
def Y4(a:Int)(t:Tok)(l:Ψ)(U:Array Θ)(n:Nat)(d:Δ Ψ)(S:Array (Δ Θ)) :
  Meets (Builtin.«int.__rmul__» {[.int a t,.ref l],[]}) (λ_ R s=>s.heap.get? l=some {cls:=.type "tuple",dict:=d,data:=.seq U n,slots:=S}/\R (.ok<|.ret Value.notImplemented) s):=
 .of_wp λp w A R s h=>by
  let(H,h):=h
  wp_walk
  exact{_,rfl,h}
def Yr(l:Ψ)(U:Array Θ)(n:Nat)(D:Δ Ψ)(S:Array (Δ Θ))(k:Int)(t:Tok)(a:¬(decide (k < -(2^63))||decide (k >= 2^63))=true)(b:(U.isEmpty||k==1)=true) :
  Meets (Builtin.«tuple.__mul__» {[.ref l,.int k t],[]}) (λ_ R s=>s.heap.get? l=some {cls:=.type "tuple",dict:=D,data:=.seq U n,slots:=S}/\R (.ok<|.ret<|.ref l) s):=
 .of_wp λp w A R s h=>by
  let(P,g,d,T,o):=s;let(H,h):=h;have f1:=AutoSeq1.idx_int
  wp_walk using wpAny_loadPart' H
  rw[yO a]
  wp_walk using wpAny_loadPart' H
  exact{_,rfl,h}
def Ys(l:Ψ)(U:Array Θ)(n:Nat)(D:Δ Ψ)(S:Array (Δ Θ))(k:Int)(t:Tok)(a:¬(decide (k < -(2^63))||decide (k >= 2^63))=true)(b:¬(U.isEmpty||k==1)=true)(c:(decide (k<=0)||U.isEmpty)=true) :
  Meets (Builtin.«tuple.__mul__» {[.ref l,.int k t],[]}) (λ_ R s=>s.heap.get? l=some {cls:=.type "tuple",dict:=D,data:=.seq U n,slots:=S}/\R (.ok<|.ret<|.ref s.heap.objs.size) {s with heap:=s.heap.push {cls:=.type "tuple",data:=.seq #[]}}):=
 .of_wp λp w A R s h=>by
  let(P,g,d,T,o):=s;let(H,h):=h;have f1:=AutoSeq1.idx_int
  wp_walk using wpAny_loadPart' H
  rw[yO a]
  wp_walk using wpAny_loadPart' H
  exact{_,rfl,h}
def Yt(l:Ψ)(U:Array Θ)(n:Nat)(d:Δ Ψ)(S:Array (Δ Θ))(k:Int)(t:Tok)(a:¬(decide (k < -(2^63))||decide (k >= 2^63))=true)(b:¬(U.isEmpty||k==1)=true)(c:¬(decide (k<=0)||U.isEmpty)=true)
  (h4:¬((U.size:Nat):Int)*k > (2^63-1)/8)(e:¬Builtin.Tuple.tupleTooMany (((U.size:Nat):Int)*k)=true)(z:((List.replicate k.toNat U).foldl (·++·) #[]).size<=sizeLine) :
  Meets (Builtin.«tuple.__mul__» {[.ref l,.int k t],[]}) (λ_ R s=>s.heap.get? l=some {cls:=.type "tuple",dict:=d,data:=.seq U n,slots:=S}/\R (.ok<|.ret<|.ref s.heap.objs.size) {s with heap:=s.heap.push {cls:=.type "tuple",data:=.seq ((List.replicate k.toNat U).foldl (·++·) #[])}}):=
 .of_wp λp w A R s h=>by
  let(H,h):=h
  wp_walk using wpAny_loadPart' H
  rw[yO a]
  wp_walk using wpAny_loadPart' H
  rw[yO h4]
  wp_walk using wpAny_loadPart' H
  exact{_,rfl,h}
end En
namespace Dl
open PySem L2 PySem.Spec PyProof.Rows
def MB(K:Φ):R2:=λx y H Q=>∃a k s,x=.ref a/\y=.int k/\fP K H a s/\-(2^62)<=k/\k<2^62/\s.length*k.toNat<=sizeLine/\((List.replicate k.toNat s).flatten=s->Q (.ref a) H) /\
 ∀p,H p=none->Q (.ref p) (upd H p<|.tup (List.replicate k.toNat s).flatten)
def LY:iM X (binaryOp .Mult) (MB X.K):=by
 intro p s σ H x y v u Q I L Y h;let(a,k,xs,rfl,rfl,z,k1,k2,hz,J,q2):=h;cases L;let(t,rfl):=Y;let(R,r,P,G):=I.tuple z;have hl:=r.length;let((C,d,D,l),O,hc,n,g):=id P;simp only at hc g;subst hc g;have B:¬(decide (k < -(2^63))||decide (k >= 2^63))=true:=by
  grind
 refine wpAny_binaryOp_repeat_ref (T:="tuple") (U:="int") (by rfl) {_,O,rfl} (λS=>typeIs_int S k t) En.XG F.fills_int_mul F.slot_int_rmul En.XH F.slot_int_index.lookup
  (qV F.slot_int_rmul (typeIs_int s k t) F.entry_int_rmul (F.args_int_rmul_2 _ _) (En.Y4 k t a R.toArray n d l) {O,rfl,{_,O,rfl},?_})
 have Z:∀m:Nat,List.foldl (λM W=>M++W) #[] (List.replicate m R.toArray)=(List.replicate m R).flatten.toArray:=λm=>by
  have:=foldl_rep R m []
  grind
 by_cases c:(R.toArray.isEmpty||k==1)=true
 .refine qV F.slot_tuple_mul {_,O,rfl} wU (wH _ _) (En.Yr a R.toArray n d l k t B c) {O,{.ref a,H,I,rfl,J ?_}};rw[jA]at c;rcases c with c|c<;>simp_all
 .by_cases f:(decide (k<=0)||R.toArray.isEmpty)=true
  .refine qV F.slot_tuple_mul {_,O,rfl} wU (wH _ _) (En.Ys a R.toArray n d l k t B c f) {O,?_};have e:k.toNat=0:=by
    grind
   have i:=q2 s.heap.objs.size I.fresh;rw[e]at i;exact{.ref s.heap.objs.size,_,I.laid (t':=s.toks) (o:=.tup []) (λb ob q=>zV _ q) (yN _) {xV _,[],.nil,Eg.new _ _},rfl,i}
  .have hm:R.length*k.toNat<=sizeLine:=by grind
   have N:(k.toNat:Int)=k:=by
    grind
   have w:((R.toArray.size:Nat))*k=R.length*k.toNat:=by grind
   have A:(List.replicate k.toNat xs).flatten.length<=sizeLine:=by rw[len_rep,Nat.mul_comm];lia
   have E:sizeLine<=(2^63-1)/8:=by decide
   have j:¬Builtin.Tuple.tupleTooMany (R.toArray.size*k)=true:=by
    unfold Builtin.Tuple.tupleTooMany
    grind
   refine qV F.slot_tuple_mul {_,O,rfl} wU (wH _ _) (En.Yt a R.toArray n d l k t B c f (by lia) j<|by simp_all) {O,?_};rw[Z];exact{.ref s.heap.objs.size,_,I.laid (o:=.tup _) (λb ob=>zV _) (yN _) {A,_,(L2.aI.rep r k.toNat),.new _ _},rfl,q2 _ I.fresh}
def HW:D->D->Δ D
 |.tuple d,.int k=>if FF k=true/\d.length*k.toNat<=sizeLine then↑(.tuple (List.replicate k.toNat d).flatten)else none
 |_,_=>none
def sD{K:Φ}(r:au K HF ds vs):∀k ,au K HF (List.replicate k ds).flatten (List.replicate k vs).flatten
 |0=>.nil
 |k+1=>by exact r.append<|sD r k
def GW{K:Φ}:eu K (MB K) HW:=by
 intro F H x y c f d Q sm r1 R g q;cases x<;>cases y<;>simp?[HW]at g<;>try grind
 split at g
 .rename_i s k b;cases g;let(a,v,rfl,A,r):=r1;have o:=b.1;rw[FF,zF]at o;refine{a,k,v,rfl,R,ay sm A,yR o.1,yR o.2,by rw[r.length];exact b.2,λe=>q _ H F (.refl sm) ?_,λp P=>q _ _ _ (.new sm P)<|eR (sm.free P)<|sD r _};simp[Rep];have:=sD r k.toNat
  grind
 grind
end Dl
namespace En
open PySem PyProof.Rows
def Yu(hh:A.handled=none)(hl:s.heap.IsTuple l UR)(hi:IntsAre UR.toList ns)(hb:UR.size+1<scanBound)
  (h:∀(h':ι)(k:Nat),h'.SetOf (intKind prog w) s.heap.objs.size (λz=>(firstMet (λi=>ns.getD i 0) UR.size).any (· == z)) (firstMet (λi=>ns.getD i 0) UR.size).length->(∀b o,b<s.heap.objs.size->s.heap.get? b=↑o->h'.get? b=↑o)->Q (.ref s.heap.objs.size) {s with heap:=h',toks:=k}) :
  wpAny (model prog w) A (call (.type "set") [.ref l]) Q E s:=by
 let(c,tl,J):=F.called_set.mro;have G:=F.called_set.made;have Xc:=F.called_set.sub;refine vH<|codeAny_of_tree ?_;show wpAny _ _ (callAny (.type "set") _) _ _ _;refine zX {wI _<|by decide +kernel,kE F.entry_type_call ?_};rw[Around.under_plain (weight_type_call_type "set" [.ref l] []) rfl];have h1:=F.called_set.notType;have h2:=F.called_set.canCreate;have hct:=F.typeCall_set_1<|.ref l
 repeat (any_goals (first|assumption|wp_step))
 refine jQ (code_set_new_1 (.ref l) (E:=E) (Q₁:=λobj C=>∃led:θ,obj=.ref s.heap.objs.size/\C={s with heap:=s.heap.push {cls:=.type "set",dict:=none,data:=.set #[] 0 (.fresh 0 0 led)}}) λled=>{led,rfl,rfl}) λr C y=>?_;cases r with
 |error e=>exact y
 |ok fl =>
  cases fl with
  |ret obj =>
   let(led,rfl,rfl):=y;have B:(s.heap.push {cls:=.type "set",dict:=none,data:=.set #[] 0 (.fresh 0 0 led)}).get? s.heap.objs.size=some {cls:=.type "set",dict:=none,data:=.set #[] 0 (.fresh 0 0 led)}:=by exact zY _ rfl
   have hT:Shared.TypeIs {s with heap:=s.heap.push {cls:=.type "set",dict:=none,data:=.set #[] 0 (.fresh 0 0 led)}} (.ref s.heap.objs.size) "set":={_,B,rfl}
   have hli:=F.called_set.init.lookup;have hbi:=F.called_set.init.bind<|.ref s.heap.objs.size
   repeat (any_goals (first|assumption|wp_step))
   refine jQ (vY (R:=wants (λr D=>r=.none/\∃h' k,D={s with heap:=h',toks:=k}/\h'.SetOf (intKind prog w) s.heap.objs.size (λz=>(firstMet (λi=>ns.getD i 0) UR.size).any (· == z)) (firstMet (λi=>ns.getD i 0) UR.size).length /\
     (∀b o,b<s.heap.objs.size->s.heap.get? b=↑o->h'.get? b=↑o)) E) F.called_set.init.plain F.entry_set_init<|check_set_init_1 hT ?_) λr2 D H=>?_
   .let(ol,f,W,N,L):=hl;let(U,n,M,g):=ol;simp only at W L;subst W L;have a:(s.heap.push {cls:=.type "set",dict:=none,data:=.set #[] 0 (.fresh 0 0 led)}).get? l=some {cls:=.type "tuple",dict:=n,data:=.seq UR N,slots:=g}:=zV _ f;have Y:=F.sub_tuple_set;have ahS:=F.sub_tuple_frozenset;have U8:(Value.type "tuple"==Value.type "dict")=false:=by decide
    have Z:(s.heap.push {cls:=.type "set",dict:=none,data:=.set #[] 0 (.fresh 0 0 led)}).IsTuple l UR:={_,a,rfl,N,rfl}
    unfold Builtin.«set.__init__» noKeywords Builtin.Frozenset.updateFrom;generalize I:pyIter=PI
    wp_walk
    subst I;refine xR Z<|zW<|wpAny_runValue ?_;have d:l<s.heap.objs.size:=zZ f;have x:A.in1.in1.in1.handled=none:=by simp[hh]
    have j:l≠(s.heap.push {cls:=.type "set",dict:=none,data:=.set #[] 0 (.fresh 0 0 led)}).objs.size:=by rw[xJ];exact yS<|jM d
    have u:s.heap.objs.size∉[(s.heap.push {cls:=.type "set",dict:=none,data:=.set #[] 0 (.fresh 0 0 led)}).objs.size,l]:=by
     rw[xJ];simp?[zR,yG,xU,not_or];exact{yS<|kM _,jH d}
    have K:∀(i:Nat)(v:Θ),UR[i]?=↑v->∃t,v=.int ((λi=>ns.getD i 0) i) t:=λi v hv=>IntsAre.int_at hi i v (by rw[Array.getElem?_toList];exact hv);refine codeAny_set_update_loopS ((Walks.tuple x _ l j UR).toS) s.heap.objs.size u (λi=>ns.getD i 0) K hb (UR.size-0) 0 _ (by lia) (xV _) {{_,zY _ rfl,rfl,rfl},?ht} ?hS0 ?hR
    case ht=>exact{_,zV _ a,rfl,N,rfl}
    case hS0 =>
     have p:((s.heap.push {cls:=.type "set",dict:=none,data:=.set #[] 0 (.fresh 0 0 led)}).push {cls:=.type "tuple_iterator",data:=.fields #[.ref l,.int 0 0]}).get? s.heap.objs.size=some {cls:=.type "set",dict:=none,data:=.set #[] 0 (.fresh 0 0 led)}:=by exact zV _ B
     exact SetOf_congr ((setObjOf_fresh (knd:=intKind prog w) led).setOf p (by unfold scanBound;lia)) (λ_=>rfl) rfl
    case hR =>
     intro s' m S;let(h',g',d',T,O):=s';have eg:g'=s.gens:=m.gens;have ed:d'=s.drawn:=m.drawn;have eo:O=s.os:=m.os;subst eg ed eo;show wpAny _ _ _ _ _ _;refine zX ?_;show wpAny _ _ (ret Value.none) _ _ _;refine zX {rfl,h',T,rfl,S,λb o X e=>?_};refine m.heap b o ?_<|zV _<|zV _ e;simp?[zR,yG,xU,not_or];exact{yS X,by rw[xJ];exact yS<|jM X}
   .cases r2 with
    |error e=>exact H
    |ok q =>
     cases q with
     |ret r =>
      let(rfl,h',k,rfl,S,P):=H
      repeat (any_goals (first|assumption|wp_step))
      exact h _ _ S P
     |_=>exact H.elim
  |_=>exact y.elim
end En
namespace Dl
open PySem L2 PySem.Spec PyProof.Rows
variable {env:PySem.Env}
def many(ns:Γ Int):Nat:=(firstMet (λi=>ns.getD i 0) ns.length).length
def E8(hc:X.calm=true):fQ X (.type "set") (λxs H Q=>∃ (a:Ψ) (ns:Γ Int),xs=[.ref a]/\fP X.K H a (ns.map V.int)/\ns.length+1<scanBound/\∀q S,H q=none->Q (.ref q) (upd H q<|.set S<|many ns)):=by
 intro p s i H xs g Q I r h;let(a,ns,rfl,f,B,q):=h;let(u,rfl,x):=vals1 r;cases x;let(U,v,l,z):=I.tuple f;have n:U.toArray.size=ns.length:=by have:=v.length;grind
 refine En.Yu (I.ok.hd hc) (l) (intsAre_of v) (by rw[n];exact B) λd t c hk=>?_;rw[n]at c;exact{.ref s.heap.objs.size,_,I.laid (λb o e=>hk b o (zZ e) e) (yN _) (show cC X.prog X.w _ d _ (.set _ _)from c),rfl,q _ _ I.fresh}
def E6:fQ X (.builtin "len") (λxs H Q=>∃ (a:Ψ) (S:Int->θ) (n:Nat),xs=[.ref a]/\H a=↑(.set S n)/\Q (.int n) H):=by
 intro p s g H xs U Q I r h;let(a,S,n,rfl,b,q):=h;let(u,rfl,R):=vals1 r;cases R;let(o,e,E,t,O,x,d,l,Z,c,f,N):=(show s.heap.SetOf (intKind X.prog X.w) a S n from I.UX a _ b)
 have W:((e.size:Nat):Int)<2^63:=by unfold scanBound at c;lia
 refine call_len_set O x d f W {.int n,H,I.tok _,{s.toks+1,by rw[N]},q}
def nQ:D->Δ D:=λd=>(bj d).bind λn=>if n.length+1<scanBound then↑(.int<|many n)else none
def E9(hc:X.calm=true)(B:iN X "len" (.builtin "len"))(C:iN X "set" (.type "set"))(h:DE X e f)(E:starEach [e] X.env=(false,eval e X.env)::starEach [] X.env:=by rfl) :
  DE X (.Call (.Name "len" p) [.Call (.Name "set" p') [e] [] pos'] [] pos) (f1 nQ f):=
 aE (iL E6 B.gl B.mg B.bt (br (uB (E8 hc) C.gl C.mg C.bt (br h cQ E) (by decide) (by decide) E rfl) cQ) (by decide) (by decide) rfl rfl) λG H Q z=>by
  let(c,u,d,sm,o,F,q):=z;let(x,m,F):=bs F;let(s,i,F):=bs F;split at F
  .rename_i j;cases F;refine{c,u,x,sm,o,m,λA y U g r1=>?_};rw[dg i]at r1;simp?[Rep]at r1;let(a,D,rfl,l,t):=r1;have k:∀{s:Γ Int}{w:Γ V},au X.K U (s.map PyData.int) w->w=s.map V.int:=λ{s}=>by
    induction s with
    |nil=>exactλh=>h.nil_inv
    |cons n s I =>
     intro w h;let(v,r,rfl,a,b):=h.cons_inv;simp?[Rep]at a;rw[a,I b];rfl
   have:=k t;subst this;refine{a,s,rfl,ay g.fh l,j,λb S R=>{b,S,_,rfl,ar,q _ _ U (g.trans<|.own g.fh R)<|by simp[Rep]}}
  .cases F
def k8(v:Nat->Int):∀i,(firstMet v i).length=i↔((List.range i).map v).Nodup
 |0=>by simp[firstMet]
 |i+1=>by
  have f:=firstMet_length_le v i;rw[firstMet_succ,step_length,vP,qZ,wR];have H:=firstMet_any v i<|v i;have I:=k8 v i;constructor
  .intro h;by_cases X:(firstMet v i).any (· == v i)=true
   .rw[yM X]at h;lia
   .rw[yO X]at h;refine{I.mp<|by lia,by simp,λa m b B z=>?_};have r:b=v i:=by simpa using B
    subst z r;rw[H]at X;exact X<|List.any_eq_true.mpr {_,m,by simp}
  .rintro⟨c,_,d⟩;rw[yO ?_]
   .rw[I.mpr c]
   .rw[H];intro X;let(x,g,E):=List.any_eq_true.mp X;have e:x=v i:=by simpa using E
    exact d x g (v i) (by simp) e
def B7(ns:Γ Int):many ns=ns.length↔ns.Nodup:=by
 unfold many;rw[k8];have:(List.range ns.length).map (λi=>ns.getD i 0)=ns:=k5 ns 0;rw[this]
def rf{K:Φ}(h:eu K r g)(h':eu K U g'):eu K (λx y H Q=>r x y H Q\/U x y H Q) (λx y=>(g x y).or<|g' x y):=by
 intro F H x y v a d Q sm r1 R G q;cases e:g x y with
 |some D =>
  have G:(g x y).or _=↑d:=G;rw[e]at G;cases G;exact .inl (h F H x y v a d Q sm r1 R e q)
 |none =>
  have G:(g x y).or _=↑d:=G;rw[e]at G;exact .inr<|h' F H x y v a d Q sm r1 R G q
def uf{K:Φ}:eu K (GH K) (λx y=>(AG x y).map PyData.list):=by
 intro F H x y e f d Q sm r1 r G q;let(zs,g,rfl):=ag G;clear G;cases x<;>cases y<;>simp?[AG]at g<;>try cases g
 let(rfl,z):=cU g;simp?[Rep]at r1 r;let(a,v,rfl,A,R):=r1;let(b,u,rfl,c,B):=r;refine{a,b,v,u,rfl,rfl,sm.seq A,sm.seq c,by rw[R.length,B.length,<-zN];exact z,λp P=>q _ _ _ (.new sm P) ?_};simp?[Rep];exact{p,_,rfl,.inl<|.inl ar,(R.append B).mono<|cT<|sm.free P}
def aQ:D->D->Δ D:=λx y=>((xy (λ_ _=>True) λi j=>.int<|i+j) x y).or<|(LD x y).or<|(AG x y).map PyData.list
def Bk.add(C:Bk X N sc k)(H:DE X a fa)(B:DE X b fb):DE X (.BinOp a .Add b pos) (f2 aQ fa fb):=z9 (Hx.or<|uj.or sX) (rf uP<|rf DQ uf) H B
def ib:D->D->Δ D:=xy (λ_ _=>True) λi j=>.int<|i-j
def Bk.sub(C:Bk X N sc k)(H:DE X a fa)(B:DE X b fb):DE X (.BinOp a .Sub b pos) (f2 ib fa fb):=z9 FX uP H B
def hV:D->D->Δ D:=λx y=>((xy wg λi j=>.int<|i*j) x y).or<|HW x y
def Bk.mul(C:Bk X N sc k)(H:DE X a fa)(B:DE X b fb):DE X (.BinOp a .Mult b pos) (f2 hV fa fb):=z9 (MR.or LY) (rf Hs GW) H B
def p6:D->D->Δ D:=xy J1 λi j=>.int<|i/j
def Bk.div(C:Bk X N sc k)(H:DE X a fa)(B:DE X b fb):DE X (.BinOp a .FloorDiv b pos) (f2 p6 fa fb):=z9 LJ Hs H B
def nM:D->D->Δ D:=xy (λ_ j=>0<j) λi j=>.int<|i%j
def Bk.mod(C:Bk X N sc k)(H:DE X a fa)(B:DE X b fb):DE X (.BinOp a .Mod b pos) (f2 nM fa fb):=z9 M7 Hs H B
def JZ:D->D->Δ D:=xy (λ_ _=>True) λi j=>.bool<|decide (i<j)
def FH:D->D->Δ D:=xy (λ_ _=>True) λi j=>.bool<|decide (i<=j)
def FE:D->D->Δ D:=xy (λ_ _=>True) λi j=>.bool<|decide (j<i)
def bS:D->D->Δ D:=λx y=>(Pi x y).map PyData.bool
def dX:D->D->Δ D:=λx y=>(Pd x y).map PyData.bool
def Bk.u64(C:Bk X N sc k):X.A.units+64<cLine:=C.room.units
def Bk.u66(C:Bk X N sc k):X.A.units+66<cLine:=by have:=C.room.un;lia
def Bk.le(C:Bk X N sc k)(H:DE X a fa)(B:DE X b fb):DE X (.Compare a [.LtE] [b] pos) (f2 FH fa fb):=xc FO o5 H B<|eF _
def Bk.gt(C:Bk X N sc k)(H:DE X a fa)(B:DE X b fb):DE X (.Compare a [.Gt] [b] pos) (f2 FE fa fb):=xc Mj o5 H B<|eF _
def Bk.eq(C:Bk X N sc k)(H:DE X a fa)(B:DE X b fb):DE X (.Compare a [.Eq] [b] pos) (f2 bS fa fb):=xc (wk C.u64) ph H B<|eF _
def Bk.tlt(C:Bk X N sc k)(H:DE X a fa)(B:DE X b fb):DT X (.Compare a [.Lt] [b] pos) (fB<|f2 JZ fa fb):=oK QW o5 H B<|eF _
def Bk.tgt(C:Bk X N sc k)(H:DE X a fa)(B:DE X b fb):DT X (.Compare a [.Gt] [b] pos) (fB<|f2 FE fa fb):=oK Mj o5 H B<|eF _
def Bk.teq(C:Bk X N sc k)(H:DE X a fa)(B:DE X b fb):DT X (.Compare a [.Eq] [b] pos) (fB<|f2 bS fa fb):=oK (wk C.u64) ph H B<|eF _
def Bk.tne(C:Bk X N sc k)(H:DE X a fa)(B:DE X b fb):DT X (.Compare a [.NotEq] [b] pos) (fB<|f2 dX fa fb):=oK (IX C.u64) ph H B<|eF _
def Bk.aeq(C:Bk X N sc k)(H:DE X a fa)(B:DE X b fb)(hc:DE X c fc)(m:lastMarks [.LtE,.LtE] [b,c]=false:=by with_unfolding_all rfl):DE X (.Compare a [.LtE,.LtE] [b,c] pos) (mJ FH FH fa fb fc):=IT FO o5 FO o5 H B hc m
def gP:D->Δ Int->Δ Int->Δ D|.tuple d,l,i=>↑(.tuple<|cut d l i)|.list d,l,i=>↑(.list<|cut d l i)|_,_,_=>none
def Bk.cut(C:Bk X N sc k){lo:Δ γ}{fl:Env->Δ (Δ Int)}(A:DE X a fa)(L:DO X lo fl)(t:DO X hi fh):DE X (.Subscript a (.Slice lo hi none p2) pos) (nN gP fa fl fh):=aE (Hz (OV.or JI) A L t) λI H Q z=>by
 let(F,i,d,sm,o,f,q):=z;let(x,y,f):=bs f;let(l,L,f):=bs f;let(u,w,f):=bs f;refine{F,i,x,sm,o,y,λE B T g r1=>{T,i,l,g.fh,o.mono g.ff,L,λD U c=>{U,i,u,c.fh,o.mono<|g.ff.trans c.ff,w,λm n j=>?_}}};have G:=(g.trans c).trans j;have r:=r1.mono<|c.ff.trans j.ff;cases x<;>try cases f
 .simp?[Rep]at r;let(b,v,rfl,s,R):=r;refine .inr {b,v,rfl,G.fh.seq s,λp P=>q _ _ _ (G.trans<|.new G.fh P) ?_};simp?[Rep];exact{p,_,rfl,.inl<|.inl ar,(rP R l u).mono<|cT<|G.fh.free P}
 .simp?[Rep]at r;let(b,v,rfl,s,R):=r;refine .inl {b,v,rfl,ay G.fh s,λe=>q _ m n G ?_,λp P=>q _ _ _ (G.trans<|.new G.fh P)<|eR (G.fh.free P)<|rP R l u};simp?[Rep];refine{b,v,rfl,s,?_};have:=rP R l u;rw[e]at this;exact this
def Jt:D->Δ D|.int i=>↑(.int<|-i)|_=>none
def Bk.neg(C:Bk X N sc k)(A:DE X a fa):DE X (.UnaryOp .USub a pos) (f1 Jt fa):=aE (MD GT A) λj H Q z=>by
 let(F,i,d,sm,e,f,q):=z;let(x,c,f):=bs f;refine{F,i,x,sm,e,c,λv b U g r1=>?_};cases x<;>try cases f
 exact{_,by exact r1,q _ b U g<|by rfl}
def EY:bootBuiltins "sorted"=↑(.builtin "sorted"):=by rfl
abbrev dS(f:Env->Δ (Γ D)):Env->Δ D:=λa=>(f a).map PyData.list
abbrev cq:Γ D->Δ D:=λd=>(fJ d).map PyData.tuple
def Bk.aci(C:Bk X N sc k)(h:decide (sc.names.lookup x=↑.local)=true):X.env.scope.names.lookup x=↑.local:=by
 rcases C.tb x _ (yR h)with q|⟨q,_⟩
 .exact q
 .cases q
def isStar(e:γ):θ:=e.ctorIdx==22
def az(h:isStar e=false):starEach (e::es) env=(false,eval e env)::starEach es env:=by
 cases e<;>first|rfl|cases h
def NN(H:DE X e f)(hs:DA X es g)(h:isStar e=false:=by rfl):DA X (e::es) (aa f g):=vq H hs<|az h
def IY:swapsWith (.ListComp elt gens scope pos) (↑(.Name x py)) line env=pure (env.blockKind==.function&&env.kindOf x==some .local && py.line==pos.line
     &&!(scope.names.any λ(n,k)=>n==x&&(k==.local || k==.cell))):=rfl
def PH(h:env.scope.kind=.function):env.blockKind=.function:=by unfold PySem.Env.blockKind;rw[h];rfl
def Bk.swap(C:Bk X N sc k)(h:decide (sc.names.lookup x=↑.local)=true)(H:(py.line==pos.line&&!(scope.names.any λ(n,k)=>n==x&&(k==.local || k==.cell)))=true) :
  swapsWith (.ListComp elt gens scope pos) (↑(.Name x py)) line X.env=pure true:=by
 rw[IY,PH C.kd,show X.env.kindOf x=↑_ from C.aci h,Bool.and_assoc,H];rfl
section
variable {K:Φ}
structure iy(K:W.Frag)(x:Str)(st:Stmt)(ps:List Str):Prop where
 ex:∃ (f:Ψ) (fd:η),W.nsIn K mainGlobals x=↑(↑(.ref f))/\CM K x x st f fd/\Binds K fd ps []
structure JS(K:W.Frag)(mg:Str->Option Value)(x:Str)(st:Stmt)(ps:List Str):Prop where
 ex:∃ (f:Ψ) (fd:η),mg x=↑(.ref f)/\CM K x x st f fd/\Binds K fd ps []
def iy.mg{h:ι}{mg:Str->Δ Θ}{st:Ω}(D:iy K x st ps)(X:K.In h)(G:h.Ns mainGlobals mg):JS K mg x st ps:=by
 let(f,d,a,b,c):=D.ex;exact{f,d,W.mg_of X G a,b,c}
def dJ(st:Ω)(ps:Γ Str):Prop:=∀(x q:Str)(kV d p:Θ)(a:Δ Ψ)(v c:Θ)(u:Γ Θ),u.length=ps.length->bindArgs (W.fnOf x q (eh st) (ba st) (ax st) .none kV d p a v c) {u,[]}=pure (ps.zip u)
def QA{st:Ω}{kV:Θ}(b:dJ st ps)(a:W.nsIn K mainGlobals x=↑(↑(.ref f)))(l:K.lookup f=↑{oc,od,.func<|W.fnOf x x (eh st) (ba st) (ax st) .none kV d p n u t,Xq})
  (c:W.codeIn K u x=true)(k:W.keepIn K (.ref f)=true):iy K x st ps:={f,_,a,oZ l c k,(oZ l c k).binds λkV d p n u t s=>b _ _ kV d p n u t s}
structure r8(K:W.Frag)(x:Str)(st:Stmt)(ps:List Str):Prop where
 ex:∃ (f:Ψ) (fd:η) (c P:Ψ),W.nsIn K mainGlobals x=↑(↑(.ref f))/\CM K x x st f fd/\Binds K fd ps []/\fd.code=.ref c/\W.codeHdIn K c P=true
structure Om(K:W.Frag)(mg:Str->Option Value)(x:Str)(st:Stmt)(ps:List Str):Prop where
 ex:∃ (f:Ψ) (fd:η) (c P:Ψ),mg x=↑(.ref f)/\CM K x x st f fd/\Binds K fd ps []/\fd.code=.ref c/\W.codeHdIn K c P=true
def r8.mg{h:ι}{mg:Str->Δ Θ}{st:Ω}(D:r8 K x st ps)(X:K.In h)(G:h.Ns mainGlobals mg):Om K mg x st ps:=by
 let(f,d,c,P,a,b):=D.ex;exact{f,d,c,P,W.mg_of X G a,b}
def Ko(K:Φ)(c:Ψ):Ψ:=match K.lookup c with
 |some ⟨_,_,.fields v,_⟩=>(match(v[11]?:Δ Θ)with|some (.ref P)=>P|_=>0)
 |_=>0
def P6{st:Ω}{kV:Θ}(b:dJ st ps)(a:W.nsIn K mainGlobals x=↑(↑(.ref f)))(l:K.lookup f=↑{oc,od,.func<|W.fnOf x x (eh st) (ba st) (ax st) .none kV d p n (.ref c) t,Xq})
  (C:W.codeIn K (.ref c) x=true)(k:W.keepIn K (.ref f)=true)(H:W.codeHdIn K c (Ko K c)=true):r8 K x st ps:={f,_,c,Ko K c,a,oZ l C k,(oZ l C k).binds λkV d p n u t s=>b _ _ kV d p n u t s,rfl,H}
def Nu{K:Φ}(h:(eD.all λx=>match W.nsIn K mainGlobals x with|some none=>true|_=>false)=true):∀x∈eD,W.nsIn K mainGlobals x=↑none:=by
 intro x H;have:=List.all_eq_true.mp h x H;split at this
 .assumption
 .cases this
def Bp{K:Φ}{H:Hp}{a:Ψ}{ns:Γ Int}{m:Γ D->Δ D}(S:ik K H a (ns.map V.int))(T:cm K H)(h:m [.list<|ns.map PyData.int]=↑(.bool true)){X:_}:Pq K 1 m [.ref a] H (λv _=>v=.bl true) X:=by
 refine{H,[.list _],.bool true,.refl _,T,au.cons ({a,_,rfl,S,?_}) .nil,rfl,h,λv b U G r=>by exact r};clear h S T
 induction ns with
 |nil=>rfl
 |cons n ns i=>exact au.cons (by rfl) i
end
def RD(h:isStar e=false)(H:DE X e f)(hs:DA X es g):DA X (e::es) (aa f g):=NN H hs h
def Rm:ak->Δ Out:=λ_=>none
def PL{st:Ω}:DS X UO UP st Rm:=λp s b H E I z=>by let(F,a,o,S,g,q):=z;cases g
def mT(f:Env->Δ D):ak->Δ Out:=λa=>(f<|aS a).map λ_=>.nx a
def Cr(hs:swapsWith e none pos.line X.env=pure false)(h:DE X e f):DS X UO UP (.Expr e pos) (mT f):=bH (lH h hs) λE c H z=>by
 let(F,b,o,S,g,q):=z;let(d,h,rfl):=ag g;exact{H,aS b,d,.refl _,S.all,h,λv a U G r=>q c a F (S.step G.hh)<|.refl _}
def NX(t:Env->Δ θ)(gb:ak->Δ Out):Nat->ak->Δ Out
 |0,_=>none
 |n+1,a=>(t<|aS a).bind λb=>if b=true then(gb a).bind fun|.nx c=>NX t gb n c|.rt d=>↑(.rt d)else↑(.nx a)
def Ht(n:Nat)(P:PassesOwn (model X.prog X.w) X.A X.env X.xe)(hc:DT X c t)(B:FB X UO UP body gb):DS X UO UP (.While c body [] pos) (NX t gb n):=
 bH (IF P hc B) λE O H z=>by
  let(F,J,o,S,D,q):=z;refine{λm e g=>∃U a,fH X.K UO UP U g a e/\aA F U/\NX t gb m a=↑o,{n,F,J,S,.refl _,D},?_};rintro m e g ⟨U,a,s,k,f⟩;cases m with
  |zero=>cases f
  |succ m =>
   let(b,B,f):=bs f;refine{g,aS a,b,.refl _,s.all,B,λl T G=>?_};cases b with
   |false =>
    cases f;exact q e l U (s.step G.hh) k
   |true =>
    let(o1,C,f):=bs f;refine{λj i=>∃x W,fH X.K UO UP x i W j/\aA F x/\NX t gb m W=↑o,λj i z=>by let(x,W,u,v,y):=z;exact {m,kM _,x,W,u,v,y},U,a,o1,s.step G.hh,C,?_};cases o1 with
    |nx L=>exactλM N r p I=>{r,L,p,k.trans I,f}
    |rt d=>cases f;exact q
def BL:Γ D->Δ D
 |[.int a,.int b]=>↑(.int<|min a b)
 |[.int a,.int b,.int c]=>↑(.int<|min (min a b) c)
 |_=>none
def Gi(hc:X.calm=true):fQ X (.builtin "min") (λxs H Q=>(∃a b ,xs=[.int a,.int b]/\Q (.int<|min a b) H)\/(∃a b c ,xs=[.int a,.int b,.int c]/\Q (.int<|min (min a b) c) H)):=by
 intro p s i H xs U Q I r h;have e:=I.ok.hd hc;rcases h with ⟨a,b,rfl,q⟩|⟨a,b,c,rfl,q⟩
 .cases r with
  |cons r1 r =>
   cases r with
   |cons R r =>
    cases r;let(t,rfl):=r1;let(u,rfl):=R;refine min_two_ints e λf T k=>{.int _,H,I.kept k,?_,q}
    by_cases h:b<a
    .rw[yM h,show min a b=b by lia];exact{_,rfl}
    .rw[yO h,show min a b=a by lia];exact{_,rfl}
 .cases r with
  |cons r1 r =>
   cases r with
   |cons R r =>
    cases r with
    |cons g r =>
     cases r;let(t,rfl):=r1;let(u,rfl):=R;let(x,rfl):=g;refine min_three_ints e λf T k=>{.int _,H,I.kept k,?_,q}
     by_cases h:b<a
     .rw[yM h];by_cases d:c<b
      .rw[yM d,show min _ c=c by lia];exact{_,rfl}
      .rw[yO d,show min _ c=b by lia];exact{_,rfl}
     .rw[yO h];by_cases d:c<a
      .rw[yM d,show min _ c=c by lia];exact{_,rfl}
      .rw[yO d,show min _ c=a by lia];exact{_,rfl}
def y0{K:Φ}(r:Rep K H d v):∀{ds:Γ D}{vs:Γ V}(j:Nat),au K H ds vs->au K H (ds.set j d) (vs.set j v)
 |[],vs,j,h=>by rw[h.nil_inv];exact au.nil
 |x::ds,vs,j,h=>by
  let(u,s,rfl,a,b):=h.cons_inv;cases j with
  |zero=>exact au.cons r b
  |succ j=>exact au.cons a<|y0 r j b
def BJ(i:Nat)(fz:Γ Nat)(fk f:Env->Δ D):ak->Δ Out:=λa=>(lX fz f a).bind λp=>(fk<|aS p.2).bind λkd=>match kd with
 |.int k=>qd i (λd=>(FD d.length k).map λj=>d.set j p.1) p.2
 |_=>none
def Jb(i:Nat)(fz:Γ Nat)(y:X.N[i]?=↑x)(F:rA X.env.scope x)(hk:DE X e fk)(h:DE X b f)(C:(x==("__debug__":Str))=false:=by decide)(B:(x==("__classdict__":Str))=false:=by decide)
  (A:∀v,assign (.Subscript (.Name x px) e U) X.env v=(do
   let O <- holding [v]<|eval (.Name x px) X.env
   let I <- holding [v,O]<|eval e X.env
   standAt U
   holding [v,O,I] (setItem O I v)
   release [v,O,I] []):=by intro _;rfl)
  (hs:swapsWithSole [.Subscript (.Name x px) e U] b pos.line X.env=pure false:=by rfl)(hw:swappedStores [.Subscript (.Name x px) e U] b X.env=pure none:=by rfl)
  (l:(assignEach [.Subscript (.Name x px) e U] X.env).map (·.2)=[assign (.Subscript (.Name x px) e U) X.env]:=by rfl):DS X UO UP (.Assign [.Subscript (.Name x px) e U] b pos) (BJ i fz fk f):=
 bH (Hg h (FK (dv y F C B) hk set_list A) hs hw l) λE L H z=>by
  let(P,ρ,o,S,g,q):=z;let((d,n),l,g):=bs g;let(kd,u,g):=bs g;cases kd<;>try cases g
  rename_i k;let(D,es,m,w,rfl):=lE g;let(j,J,rfl):=ag w;refine oX S l λv t T K s s2 r=>?_;let(a,vs,c,b,W,e5,Z):=s.own i D m;refine{.ref a,c,t,aS n,.int k,.refl _,s.all,u,λkv M Q G rk=>?_};simp?[Rep]at rk;have p:=s.step G.hh;let(R,Y,f1,f2,f3,f5,f4):=p.own i D m;rw[c]at f1;cases f1;exact{a,Y,k,j,rfl,rk,f2,by rw[f4.length];exact J,q L _ T (p.mut m c f2<|y0 r j f4) K}
def Ra:D->θ|.none=>true|_=>false
def qo{K:Φ}(r:Rep K HF d v):decide (v=.UQ)=Ra d:=by
 cases d<;>simp?[Rep]at r<;>first
  | (subst r;rfl)
  | (let(a,s,rfl,_):=r;rfl)
  | (let(a,e,x,rfl,_):=r;rfl)
  |exact r.elim
def Ae:D->D->Δ D:=λx y=>if Ra y=true then↑(.bool<|Ra x)else match x,y with
 |.bool a,.bool b=>↑(.bool<|a==b)
 |_,_=>none
def ye:D->D->Δ D:=λx y=>if Ra y=true then↑(.bool<|!Ra x)else match x,y with
 |.bool a,.bool b=>↑(.bool<|!(a==b))
 |_,_=>none
def IB{X:Cx}:iM X (compareOp .Is) (λx y H Q=>∃a b,x=.bl a/\y=.bl b/\Q (.bl<|a==b) H):=by
 intro p s c H x y v u Q I r R q;let(a,b,rfl,rfl,q):=q;cases r;cases R;exact wpAny_is_plain rfl {.bl _,H,I,rfl,by cases a<;>cases b<;>exact q}
def L3{X:Cx}:iM X (compareOp .IsNot) (λx y H Q=>∃a b,x=.bl a/\y=.bl b/\Q (.bl<|!(a==b)) H):=by
 intro p s c H x y v u Q I r R q;let(a,b,rfl,rfl,q):=q;cases r;cases R;exact wpAny_isNot_plain rfl {.bl _,H,I,rfl,by cases a<;>cases b<;>exact q}
def Dc{K:Φ}:eu K (λx y H Q=>(y=.UQ/\Q (.bl<|decide (x=.UQ)) H)\/∃a b,x=.bl a/\y=.bl b/\Q (.bl<|a==b) H) Ae:=by
 intro F H x y v e d Q sm r1 r g q;unfold Ae at g;split at g
 .rename_i h;cases g;have c:=qo r;rw[h,zJ]at c;refine .inl {c,?_};rw[qo r1];exact q _ H F (.refl sm)<|by simp[Rep]
 .split at g
  .cases g;simp?[Rep]at r1 r;exact .inr {_,_,r1,r,q _ H F (.refl sm)<|by simp[Rep]}
  .cases g
def Jc{K:Φ}:eu K (λx y H Q=>(y=.UQ/\Q (.bl<|!decide (x=.UQ)) H)\/∃a b,x=.bl a/\y=.bl b/\Q (.bl<|!(a==b)) H) ye:=by
 intro F H x y v e d Q sm r1 r g q;unfold ye at g;split at g
 .rename_i h;cases g;have c:=qo r;rw[h,zJ]at c;refine .inl {c,?_};rw[qo r1];exact q _ H F (.refl sm)<|by simp[Rep]
 .split at g
  .cases g;simp?[Rep]at r1 r;exact .inr {_,_,r1,r,q _ H F (.refl sm)<|by simp[Rep]}
  .cases g
def Bk.is0(C:Bk X N sc k)(H:DE X a fa)(B:DE X b fb):DE X (.Compare a [.Is] [b] pos) (f2 Ae fa fb):=xc (FN.or IB) Dc H B<|eF _
def Bk.aer(C:Bk X N sc k)(H:DE X a fa)(B:DE X b fb):DT X (.Compare a [.Is] [b] pos) (fB<|f2 Ae fa fb):=oK (FN.or IB) Dc H B<|eF _
def Bk.acj(C:Bk X N sc k)(H:DE X a fa)(B:DE X b fb):DT X (.Compare a [.IsNot] [b] pos) (fB<|f2 ye fa fb):=oK (Kj.or L3) Jc H B<|eF _
def NY(hc:X.calm=true)(B:iN X "min" (.builtin "min"))(E:starEach (e::es) X.env=(false,eval e X.env)::starEach es X.env)(w:(backTo pos<|starEach es X.env).any (·.1)=false)(j:DA X (e::es) fs):DE X (.Call (.Name "min" p) (e::es) [] pos) (b8 BL fs):=
 iI (Gi hc) (by
  intro F H s S d Q sm r g q;unfold BL at g;split at g
  .cases g;let(v,r1,rfl,a,b):=r.cons_inv;let(k,R,rfl,A,c):=b.cons_inv;rw[c.nil_inv];exact .inl {_,_,by rw[a,A],q _ H F (.refl sm)<|by rfl}
  .cases g;let(v,r1,rfl,a,b):=r.cons_inv;let(k,R,rfl,A,c):=b.cons_inv;let(m,l,rfl,f,i):=c.cons_inv;rw[i.nil_inv];exact .inr {_,_,_,by rw[a,A,f],q _ H F (.refl sm)<|by rfl}
  grind) B j (by decide) (by rfl) E w
section
variable {fl fs:Env->Δ (Γ D)}
def BH(hc:X.calm=true):fQ X (.builtin "any") (λxs H Q=>∃ (a:Ψ) (bs:Γ θ),xs=[.ref a]/\ik X.K H a (bs.map V.bl)/\Q (.bl<|bs.any id) H):=by
 intro S s C H xs y Q I r h;let(a,bs,rfl,f,q):=h;let(u,rfl,x):=vals1 r;cases x;let(U,R,p,z):=I.list f;have g:=l9 R;subst g;have d:X.A.in1.handled=none:=I.ok.hd hc;refine call_any_walk<|qK p.isList ?_;let(o,O,w,n,D):=p.isList;refine{_,_,_,_,_,_,λi=>bs.getD i false,rfl,Walks.list d s.heap.objs.size a (yS<|zZ O) _,{{_,zY _ rfl,rfl,rfl},p.isList.push _},λi v t l E P c=>?_,λm T k=>?_}
 .have e:v=Value.bool (bs.getD i false):=by
   have P:(bs.map Value.bool).toArray[i]?=↑v:=P;rw[vU,zO]at P;let(b,B,rfl):=ag P;rw[zG,B];rfl
  subst e;exact xW c
 .refine{.bl _,H,(I.kept λb j e=>k b j (by simp;exact yS<|zZ e)<|zV _ e),?_,q}
  .show Value.bool _=Value.bool _;have:=range_any bs
   grind
end
def OQ(hc:X.calm=true)(B:iN X "any" (.builtin "any"))(E:starEach [e] X.env=(false,eval e X.env)::starEach [] X.env)(A:DA X [e] fs):DE X (.Call (.Name "any" p) [e] [] pos) (b8 (λds=>(oneOf ds).bind λd=>match d with
 |.list es=>(boolsOf es).map λbs=>.bool (bs.any id)
 |_=>none) fs):=
 iI (BH hc) (by
  intro F H ds s d Q sm r g q;let(x,f,g):=bs g;rw[gH f]at r;cases x<;>try cases g
  let(bs,c,rfl):=ag g;let(v,i,rfl,a,b):=r.cons_inv;rw[b.nil_inv];let(p,u,rfl,h,R):=a;rw[iU c]at R;have:=mG R;subst this;exact{p,bs,rfl,sm.seq h,q _ H F (.refl sm)<|by rfl}) B A (by decide) (by rfl) E rfl
def pK(ns:Γ Int):∀j:Nat,preSum (λi=>ns.getD i 0) j=(ns.take j).sum
 |0=>by simp[preSum]
 |j+1=>by
  rw[preSum,pK ns j,List.take_add_one,List.sum_append]
  congr 1
  rw[zG];cases ns[j]?<;>simp
def ug(v:Nat->Int)(B:Int)(h:∀i,-B<=v i/\v i<=B):∀j ,-(B*j)<=preSum v j/\preSum v j<=B*j
 |0=>by simp[preSum]
 |j+1=>by
  have I:=ug v B h j;rw[preSum]
  grind
def Ph(ns:Γ Int):θ:=decide (ns.length<=1000)&&ns.all λn=>decide (-1000000<=n)&&decide (n<=1000000)
def MP(h:Ph ns=true):ns.length<=1000/\∀i,-1000000<=ns.getD i 0/\ns.getD i 0<=1000000:=by
 unfold Ph at h;rw[zF,zJ,xG]at h;refine{h.1,λi=>?_};rw[zG];cases e:ns[i]? with
 |none=>simp
 |some n =>
  have:=h.2 n<|qB e;simpa using this
def qw{ns:Γ Int}{U:Γ Θ}(r:aI (ns.map V.int) U){i:Nat}(h:U.toArray[i]?=↑v):∃t,v=.int (ns.getD i 0) t:=by
 rw[vU]at h
 induction ns generalizing U i with
 |nil=>cases r;simp at h
 |cons n ns I =>
  cases r with
  |cons r1 R =>
   cases i with
   |zero =>
    simp?[xQ,yL]at h;subst h;let(t,rfl):=r1;exact{t,rfl}
   |succ i =>
    simp?[yZ]at h;exact I R h
def BZ(hc:X.calm=true):fQ X (.builtin "sum") (λxs H Q=>∃ (a:Ψ) (ns:Γ Int),xs=[.ref a]/\(ik X.K H a (ns.map V.int)\/fP X.K H a (ns.map V.int))/\Ph ns=true/\Q (.int ns.sum) H):=by
 intro S s Y H xs M Q I r h;let(a,ns,rfl,f,z,q):=h;let(u,rfl,E):=vals1 r;cases E;have y:X.A.in1.handled=none:=I.ok.hd hc;let(N,d):=MP z;have x:∀n:Nat,n<=1000->∀j,j<n->InLong ((λi=>ns.getD i 0) j)/\InLong (preSum (λi=>ns.getD i 0)<|j+1):=λn L j J=>by
  have F:=d j;have G:=ug (λi=>ns.getD i 0) 1000000 d<|j+1;refine{{?_,?_},?_,?_}
  .show -(2^63)<=ns.getD j 0;lia
  .show ns.getD j 0<2^63;lia
  .lia
  .lia
 have k:preSum (λi=>ns.getD i 0) ns.length=ns.sum:=by rw[pK,List.take_length]
 rcases f with f|f
 .let(U,R,p,Z):=I.list f;have l:U.length=ns.length:=by rw[<-R.length,zD]
  refine call_sum_walk<|qK p.isList ?_;let(o,O,W,n,D):=p.isList;have c:=zZ O;have g:a≠s.heap.objs.size:=yS c;refine{_,_,_,_,_,_,λi=>ns.getD i 0,rfl,Walks.list y s.heap.objs.size a g U.toArray,{{_,zY _ rfl,rfl,rfl},p.isList.push _},λb B=>?_,λi v P=>qw R P,by rw[zH,l];exact x _ N,λC T t m=>?_}
  .show b<(s.heap.push _).objs.size;rw[xJ];simp?[zR,yG,xU]at B;rcases B with rfl|rfl
   .exact kM _
   .exact jM c
  .refine{.int ns.sum,H,I.kept (t':=T) λb w e=>m b w (by simp;exact yS<|zZ e)<|zV _ e,{t,?_},q};rw[zH,l,k]
 .let(U,R,p,Z):=I.tuple f;have p:s.heap.IsTuple a U.toArray:=p;have l:U.length=ns.length:=by rw[<-R.length,zD]
  refine call_sum_walk<|xR p ?_;let(o,O,W,n,D):=id p;have c:=zZ O;have g:a≠s.heap.objs.size:=yS c;refine{_,_,_,_,_,_,λi=>ns.getD i 0,rfl,Walks.tuple y s.heap.objs.size a g U.toArray,{{_,zY _ rfl,rfl,rfl},p.push _},λb B=>?_,λi v P=>qw R P,by rw[zH,l];exact x _ N,λC T t m=>?_}
  .show b<(s.heap.push _).objs.size;rw[xJ];simp?[zR,yG,xU]at B;rcases B with rfl|rfl
   .exact kM _
   .exact jM c
  .refine{.int ns.sum,H,I.kept (t':=T) λb w e=>m b w (by simp;exact yS<|zZ e)<|zV _ e,{t,?_},q};rw[zH,l,k]
def JR:Γ D->Δ D:=λd=>(fJ d).bind λe=>(intsOf e).bind λn=>if Ph n=true then↑(.int n.sum)else none
def dQ{K:Φ}:∀{ns:Γ Int}{vs:Γ V},au K H (ns.map PyData.int) vs->vs=ns.map V.int
 |[],vs,h=>h.nil_inv
 |b::bs,vs,h=>by
  let(v,r,rfl,a,c):=h.cons_inv;rw[a,dQ c];rfl
def NJ(hc:X.calm=true)(B:iN X "sum" (.builtin "sum"))(i:starEach [e] X.env=(false,eval e X.env)::starEach [] X.env)(A:DA X [e] fs):DE X (.Call (.Name "sum" p) [e] [] pos) (b8 JR fs):=
 iI (BZ hc) (by
  intro F H s k d Q sm r g q;let(S,c,g):=bs g;let(n,f,g):=bs g;split at g
  .rename_i U;cases g;have E:=dO f;subst E;rcases kz c with rfl|rfl
   all_goals
    let(v,j,rfl,a,b):=r.cons_inv;rw[b.nil_inv];let(p,u,rfl,h,R):=a;have:=dQ R;subst this
   .exact{p,n,rfl,.inr<|ay sm h,U,q _ H F (.refl sm)<|by rfl}
   .exact{p,n,rfl,.inl<|sm.seq h,U,q _ H F (.refl sm)<|by rfl}
  grind) B A (by decide) (by rfl) i rfl
def Pj(i:Int):Θ->θ|.int a _=>a==i|_=>false
def Eu:O5 X "list.index" (λx vs H Q=>∃ (l:Ψ) (ns:Γ Int) (i:Int) (j:Nat),x=.ref l/\vs=[.int i]/\ik X.K H l (ns.map V.int)/\ns[j]?=↑i/\(∀m,m<j->ns[m]?≠some i)/\Q (.int j) H):=by
 intro p s E H x vs v B Q I w k h;let(l,ns,i,j,rfl,rfl,g,c,o,q):=h;cases w;let(u,rfl,R):=k.one;let(t,rfl):=R;let(U,r,P,z):=I.list g;let((C,f,d,S),O,hc,n,D):=id P.isList;simp only at hc D;subst hc D;have L:U.length=ns.length:=by rw[<-r.length,zD]
 have b:j<ns.length:=(List.getElem?_eq_some_iff.mp c).1;have Z:ns.length<=sizeLine:=by rwa[zD]at z
 have A:(sizeLine:Nat)<2^62:=by decide
 have a:∀m(M:m<U.toArray.size),∃T,U.toArray[m]=.int (ns.getD m 0) T:=λm M=>qw r<|jX M;refine qV F.slot_list_index {_,O,rfl} F.entry_list_index (F.args_list_index_2 _ _) (PySem.SeqAt.list_indexAt l U.toArray n f S (.int i t) (Pj i) j (by rw[zH,L];exact b) (by lia) ?_ ?_) {O,?_,?_}
 .let(T,e):=a j (by rw[zH,L];exact b);rw[e,Pj,zG,c];simp
 .intro m M J;let(T,e):=a m M;have W:m<ns.length:=by lia
  have:=o m J;rw[e,Pj,zG];rw[zK W]at this ⊢;simp?[qG,beq_eq_false_iff_ne];exactλh=>this<|by rw[h]
 .intro y Y;let(m,M,rfl):=Array.getElem_of_mem Y;let(T,e):=a m M;rw[e];exact PySem.SeqAt.EqAt.int_int _ _ _ _
 .exact{.int j,H,I.tok _,{_,rfl},q}
def zc(i:Int):Γ Int->Δ Nat
 |[]=>none
 |n::s=>if n=i then↑0 else(zc i s).map (·+1)
def oE:∀{ns:Γ Int}{j:Nat},zc i ns=↑j->ns[j]?=↑i/\∀m,m<j->ns[m]?≠some i
 |[],j,h=>by cases h
 |n::ns,j,h=>by
  unfold zc at h;split at h
  .cases h;rename_i e;exact{by rw[e];rfl,λm H=>absurd H<|vO _}
  .rename_i e;let(k,hk,rfl):=ag h;let(a,b):=oE hk;refine{by simpa using a,λm H=>?_};cases m with
   |zero=>simpa using e
   |succ m=>simpa using b m (by lia)
def Sj:D->D->Δ D
 |.list e,.int i=>(intsOf e).bind λn=>(zc i n).map λj=>.int ((j:Nat):Int)
 |_,_=>none
def GA{fo:Env->Δ D}(v:attributeBase o "index" X.env (eval o X.env)=eval o X.env)
  (s:((backTo UU<|starEach [e] X.env).all (λx=>!x.1)&&(backToKw UU<|keywordEach [] X.env).all (λx=>x.1.isSome)&&decide ([e].length+([]:Γ Keyword).length+(if([]:Γ Keyword).isEmpty then 0 else 1)<30))=true)
  (Z:(apos.endLine==UU.line)=true)(hs:starEach [e] X.env=(false,eval e X.env)::starEach [] X.env)(O:DE X o fo)(A:DE X e fe):DE X (.Call (.Attribute o "index" apos) [e] [] UU) (f2 Sj fo fe):=
 aE (pS qM PySem.F.slot_list_index PySem.F.type_list_index Eu O (br A cQ hs) v s Z hs rfl) λL H Q z=>by
  let(p,m,d,sm,E,f,q):=z;let(x,B,f):=bs f;let(y,Y,g):=bs f;refine{p,m,x,sm,E,B,λJ C T G r1=>?_};cases x<;>try cases g
  cases y<;>try cases g
  rename_i S i;let(N,u,g):=bs g;let(j,w,rfl):=ag g;have t:=dO u;subst t;simp?[Rep]at r1;let(l,I,rfl,k,R):=r1;have:=dQ R;subst this;refine{.inl {rfl,_,G.fh.seq k},T,m,.int i,G.fh,E.mono G.ff,Y,λK n U c r=>?_};simp?[Rep]at r;let(a,b):=oE w;exact{l,N,i,j,rfl,by rw[r],c.fh.seq<|c.ff.seq k,a,b,q _ n U (G.trans c)<|by simp[Rep]}
end Dl
namespace Tx
open PySem PySem.SeqAt PyProof.Rows
open PySem.AutoSeq1 (wpAny_loadPart')
open PySem.MeetsSeq PySem.MeetsSeq2 PySem.MeetsSeq3
def wpR(f:Nat->β->Sem (ForInStep β))(I:Γ Nat->β->Ξ->Prop)(Q:β->Ξ->Prop)
  (turn:∀x rest b s,I (x::rest) b s->wpAny M A (f x b) (λr s'=>match r with|.yield B=>I rest B s'|.done B=>Q B s') E s)
  (fin:∀b s,I [] b s->Q b s)(n:Nat)(b:β)(h:I (List.range' 0 n 1) b s):wpAny M A (forIn [:n] b f) Q E s:=by
 have e:forIn [:n] b f=forIn (List.range' 0 n 1) b f:=by
  simp
 rw[e];exact wpAny_forIn_list f I Q turn fin _ b h
def Wu(l:Ψ)(items:Array Θ)(n:Nat)(D:Δ Ψ)(t:Array (Δ Θ))(x:Θ)(e:Θ->θ)(j:Nat)(J:j<items.size)(H:e items[j]=true)(k:∀m(M:m<items.size),m<j->e items[m]=false) :
  Meets (Builtin.«tuple.index» {[.ref l,x],[]})
   (λA R s=>s.heap.get? l=some {cls:=.type "tuple",dict:=D,data:=.seq items n,slots:=t}/\(∀y,y∈items->EqAt A.in1 s y x (e y))/\R (.ok<|.ret<|.int (j:Nat) s.toks) {s with toks:=s.toks+1}):=
 .of_wp λp w A R s h=>by
  let(P,g,d,T,O):=s;let(L,o,h):=h
  wp_walk using wpAny_loadPart' L,wpR _ (λr b S=>S={P,g,d,T,O}/\b.1=none/\∃i,i<=j/\r=List.range' i (items.size-i) 1) _
  case turn =>
   rintro i r b S ⟨rfl,B,I,q,E⟩;have c:I<items.size:=by lia
   rw[show items.size-I=(items.size-(I+1))+1 by lia,vE]at E;injection E with a f
   subst a;subst f;simp?[jX c];refine zW<|o _ (Array.getElem_mem c) p w _ _ ?_;by_cases U:i=j
   .subst U;rw[H]
    wp_walk
    exact{_,rfl,h}
   .rw[k i c<|by lia]
    wp_walk
    exact{rfl,rfl,i+1,by lia,rfl}
  case fin =>
   rintro b S ⟨rfl,B,i,q,E⟩;have:=jB List.length E;simp at this;lia
  case h =>
   exact{rfl,rfl,0,xV _,by simp}
end Tx
namespace Dl
open PySem L2 PySem.Spec PyProof.Rows
def E7:O5 X "tuple.index" (λx vs H Q=>∃ (l:Ψ) (ns:Γ Int) (i:Int) (j:Nat),x=.ref l/\vs=[.int i]/\fP X.K H l (ns.map V.int)/\ns[j]?=↑i/\(∀m,m<j->ns[m]?≠some i)/\Q (.int j) H):=by
 intro p s B H x vs v A Q I w k h;let(l,ns,i,j,rfl,rfl,g,c,o,q):=h;cases w;let(u,rfl,R):=k.one;let(t,rfl):=R;let(U,r,P,z):=I.tuple g;let((C,f,d,S),O,hc,n,D):=id P;simp only at hc D;subst hc D;have L:U.length=ns.length:=by rw[<-r.length,zD]
 have b:j<ns.length:=(List.getElem?_eq_some_iff.mp c).1;have a:∀m(M:m<U.toArray.size),∃T,U.toArray[m]=.int (ns.getD m 0) T:=λm M=>qw r<|jX M;refine qV F.slot_tuple_index {_,O,rfl} F.entry_tuple_index (F.args_tuple_index_2 _ _) (Tx.Wu l U.toArray n f S (.int i t) (Pj i) j (by rw[zH,L];exact b) ?_ ?_) {O,?_,?_}
 .let(T,e):=a j (by rw[zH,L];exact b);rw[e,Pj,zG,c];simp
 .intro m M J;let(T,e):=a m M;have W:m<ns.length:=by
   rw[zH]at M;lia
  have:=o m J;rw[e,Pj,zG];rw[zK W]at this ⊢;simp?[qG,beq_eq_false_iff_ne];exactλh=>this<|by rw[h]
 .intro y Y;let(m,M,rfl):=Array.getElem_of_mem Y;let(T,e):=a m M;rw[e];exact PySem.SeqAt.EqAt.int_int _ _ _ _
 .exact{.int j,H,I.tok _,{_,rfl},q}
def Mv(h:PE X e t)(g:PE X e u):PE X e (λσ H Q=>t σ H Q\/u σ H Q):=λp s σ H Q I q=>q.elim (h p s σ H Q I)<|g p s σ H Q I
def p9:D->D->Δ D
 |.list e,.int i=>(intsOf e).bind λn=>(zc i n).map λj=>.int ((j:Nat):Int)
 |.tuple e,.int i=>(intsOf e).bind λn=>(zc i n).map λj=>.int ((j:Nat):Int)
 |_,_=>none
def D9{fo:Env->Δ D}(v:attributeBase o "index" X.env (eval o X.env)=eval o X.env)
  (n:((backTo UU<|starEach [e] X.env).all (λx=>!x.1)&&(backToKw UU<|keywordEach [] X.env).all (λx=>x.1.isSome)&&decide ([e].length+([]:Γ Keyword).length+(if([]:Γ Keyword).isEmpty then 0 else 1)<30))=true)
  (U:(apos.endLine==UU.line)=true)(hs:starEach [e] X.env=(false,eval e X.env)::starEach [] X.env)(O:DE X o fo)(p:DE X e fe):DE X (.Call (.Attribute o "index" apos) [e] [] UU) (f2 p9 fo fe):=
 aE (Mv (GA v n U hs O p)<|pS PySem.F.plainAttrs_tuple PySem.F.slot_tuple_index PySem.F.type_tuple_index E7 O (br p cQ hs) v n U hs rfl) λM H Q z=>by
  let(m,k,d,sm,E,f,q):=z;let(x,s,f):=bs f;let(y,Y,g):=bs f;cases x<;>try cases g
  .cases y<;>try cases g
   exact .inl {m,k,d,sm,E,by simp[f2,s,Y,zA];exact g,q}
  .cases y<;>try cases g
   rename_i S i;let(N,A,g):=bs g;let(j,B,rfl):=ag g;have w:=dO A;subst w;refine .inr {m,k,_,sm,E,s,λK I T G r1=>?_};let(l,J,rfl,r,C):=r1;have:=dQ C;subst this;refine{(.inr<|.inl {rfl,_,ay G.fh r}),T,k,.int i,G.fh,E.mono G.ff,Y,λL t u c R=>?_}
   .simp[Rep]at R;let(a,b):=oE B;exact{l,N,i,j,rfl,by grind,ay c.fh<|ay c.ff r,a,b,q _ t u (G.trans c)<|by rfl}
end Dl
namespace Zp
open PySem PyProof.Rows
def Vz(b:θ)(h:ι)(it l:Ψ)(k:Nat):Prop:=match b with|true=>h.IsTupleIter it l k|false=>h.IsListIter it l k
def VE(b:θ)(h:ι)(l:Ψ)(xs:Array Θ):Prop:=match b with|true=>h.IsTuple l xs|false=>h.IsList l xs
def Vz.obj(x:Vz b h it l k):∃o,h.get? it=↑o/\∀v,o.data≠.cell v:=by
 cases b
 .let(o,e,_,d):=(x);exact{o,e,λv q=>by grind}
 .let(o,e,_,d):=(x);exact{o,e,λv q=>by grind}
def Vz.at(x:Vz b h it l k)(e:∀o,h.get? it=↑o->h'.get? it=↑o):Vz b h' it l k:=by
 cases b
 .exact Heap.IsListIter.at x e
 .exact Heap.IsTupleIter.at x e
def Vz.extBut(x:Vz b h it l k)(e:Heap.ExtBut a h h')(n:it≠a):Vz b h' it l k:=x.at λo=>e it o n
def VE.at(x:VE b h l xs)(e:∀o,h.get? l=↑o->h'.get? l=↑o):VE b h' l xs:=by
 cases b
 .let(o,q,r):=(x);exact{o,e o q,r}
 .let(o,q,r):=(x);exact{o,e o q,r}
def VE.extBut(x:VE b h l xs)(e:Heap.ExtBut a h h')(n:l≠a):VE b h' l xs:=x.at λo=>e l o n
section
def nxt(J:Vz b s.heap j t k)(ht:VE b s.heap t UR)(a:UR[k]?=↑v)
  (H:∀g,Vz b g j t (k+1)->Heap.SameBut j s.heap g->Q v {s with heap:=g}):wpAny (model prog w) A (Builtin.SmallTypes.nextOf<|.ref j) Q E s:=by
 cases b
 .exact wpAny_nextOf_list_item J ht a H
 .exact En.XC J ht a H
def ZY{Q:Θ->Ξ->Prop}(a:A.handled=none)(J:Vz b s.heap j t k)(ht:VE b s.heap t UR)(v:UR[k]?=none)
  (H:∀g x,Heap.ExtBut j s.heap g->(∃o,g.get? x=↑o/\o.cls=.type "StopIteration")->E (.ref x) {s with heap:=g}):wpAny (model prog w) A (Builtin.SmallTypes.nextOf<|.ref j) Q E s:=by
 cases b
 .exact wpAny_nextOf_list_end a J ht v H
 .exact En.Yq a J ht v H
structure ZS(U6 Vi:Bool)(h₀ h:Heap)(z TI TO i j l m:Addr)(xs ys:Array Value)(f:Value)(p q:Nat)(a b:Value):Prop where
 zo:IsZip h z TI TO f
 ti:IsPair h TI (.ref i) (.ref j)
 to:IsPair h TO a b
 wi:Vz U6 h i l p
 wj:Vz Vi h j m q
 sl:VE U6 h l xs
 sm:VE Vi h m ys
 kp:∀c o,c≠z->c≠TO->c≠i->c≠j->h₀.get? c=↑o->h.get? c=↑o
 sz:h.objs.size=h₀.objs.size
section
variable {z TI TO i j l m:Ψ}
def ZS.fl(Z:ZS U Vi h₀ h z TI TO i j l m xs ys f p q a b)(D:ZipApart z TI TO i j l m)(e:IsZip g z TI TO f')(t:Heap.SameBut z h g):ZS U Vi h₀ g z TI TO i j l m xs ys f' p q a b:=
 {e,t.extBut _ _ D.TIz Z.ti,t.extBut _ _ D.TOz Z.to,Z.wi.extBut t.extBut D.i1z,Z.wj.extBut t.extBut D.i2z,Z.sl.extBut t.extBut D.l1z,Z.sm.extBut t.extBut D.l2z,λc o n N d k r=>t.extBut _ _ n<|Z.kp c o n N d k r,t.1.trans Z.sz}
def ZS.fst(Z:ZS U Vi h₀ h z TI TO i j l m xs ys f p q a b)(D:ZipApart z TI TO i j l m)(e:Vz U g i l (p+1))(t:Heap.SameBut i h g):ZS U Vi h₀ g z TI TO i j l m xs ys f (p+1) q a b:=
 {t.extBut _ _ D.i1z.symm Z.zo,t.extBut _ _ D.TIi1 Z.ti,t.extBut _ _ D.TOi1 Z.to,e,Z.wj.extBut t.extBut D.i12.symm,Z.sl.extBut t.extBut D.l1i1,Z.sm.extBut t.extBut D.l2i1,λc o N d n k r=>t.extBut _ _ n<|Z.kp c o N d n k r,t.1.trans Z.sz}
def ZS.snd(Z:ZS U Vi h₀ h z TI TO i j l m xs ys f p q a b)(D:ZipApart z TI TO i j l m)(e:Vz Vi g j m (q+1))(t:Heap.SameBut j h g):ZS U Vi h₀ g z TI TO i j l m xs ys f p (q+1) a b:=
 {t.extBut _ _ D.i2z.symm Z.zo,t.extBut _ _ D.TIi2 Z.ti,t.extBut _ _ D.TOi2 Z.to,Z.wi.extBut t.extBut D.i12,e,Z.sl.extBut t.extBut D.l1i2,Z.sm.extBut t.extBut D.l2i2,λc o N d k n r=>t.extBut _ _ n<|Z.kp c o N d k n r,t.1.trans Z.sz}
def ZS.put(Z:ZS U Vi h₀ h z TI TO i j l m xs ys f p q a b)(D:ZipApart z TI TO i j l m)(e:IsPair g TO x y)(t:Heap.SameBut TO h g):ZS U Vi h₀ g z TI TO i j l m xs ys f p q x y:=
 {t.extBut _ _ D.TOz.symm Z.zo,t.extBut _ _ D.TITO Z.ti,e,Z.wi.extBut t.extBut D.TOi1.symm,Z.wj.extBut t.extBut D.TOi2.symm,Z.sl.extBut t.extBut D.l1TO,Z.sm.extBut t.extBut D.l2TO,λc o N n d k r=>t.extBut _ _ n<|Z.kp c o N n d k r,t.1.trans Z.sz}
end
variable {z TI TO i j l m:Ψ}
def acn{Q:Θ->Ξ->Prop}(P:A.handled=none)(D:ZipApart z TI TO i j l m)(Z:ZS U Vi s.heap s.heap z TI TO i j l m xs ys .none p q a b)
  (I:∀x y g g',xs[p]?=↑x->ys[q]?=↑y->ZS U Vi s.heap g z TI TO i j l m xs ys .ellipsis (p+1) (q+1) x y->IsZip g' z TI TO (rawInt g.objs.size) ->
   Heap.SameBut z (g.push {cls:=.type "tuple",data:=.seq #[x,y]}) g'->Q (.ref g.objs.size) {s with heap:=g'})
  (O:(xs[p]?=none\/ys[q]?=none)->∀g e,(∀c o,c≠z->c≠TO->c≠i->c≠j->s.heap.get? c=↑o->g.get? c=↑o)->(∃o,g.get? e=↑o/\o.cls=.type "StopIteration")->E (.ref e) {s with heap:=g}) :
  wpAny (model prog w) A (Builtin.«zip.__next__» {[.ref z],[]}) (λr s'=>∃v,r=.done (.ret v)/\Q v s') E s:=by
 have S:∀{B G:ι}{e:Ψ}{c:Ψ}{T W:Nat}{L M:Θ},ZS U Vi s.heap B z TI TO i j l m xs ys .ellipsis T W L M->(c=i\/c=j)->(xs[p]?=none\/ys[q]?=none)->Heap.ExtBut c B G ->
   (∃o,G.get? e=↑o/\o.cls=.type "StopIteration")->wpAny (model prog w) A (setField (.ref z) 0 Value.none) (λ_ t=>E (.ref e) t) E {s with heap:=G}:=by
  intro B G e c T W L M Y hc hv k ⟨o,ho,ht⟩;have X:IsZip G z TI TO .ellipsis:=k _ _ (hc.elim (λe=>e▸D.i1z.symm) λe=>e▸D.i2z.symm) Y.zo;refine kW X (by simp) λN _ t=>O hv N e (λd u R n2 n3 n4 r=>t.extBut _ _ R<|k _ _ ?_<|Y.kp d u R n2 n3 n4 r) {o,t.extBut _ _ ?_ ho,ht}<;>grind
 show wpAny _ _ (field (.ref z) 2 >>= _) _ _ _;refine zW<|qS Z.zo rfl (x:=.bool false) rfl (zW<|qS Z.zo rfl (x:=.ref TI) rfl (zW<|kG Z.ti rfl (zW (m:=Builtin.SmallTypes.ownedTupleIsFree _)<|zW<|qS Z.zo rfl (x:=.none) rfl (zX ?_))));rw[yM rfl];refine zW<|wD<|zW<|qS Z.zo rfl (x:=.ref TO) rfl (zW<|kW Z.zo (by simp) λB e1 t1=>?_);have f:=Z.fl D (f':=.ellipsis) e1 t1;refine zW ?_;simp?[List.zipIdx_cons,List.zipIdx_nil,List.forIn_cons,List.forIn_nil];refine zW<|zW<|wpAny_onRaise<|zW (m:=Builtin.SmallTypes.nextOf _) ?_;cases H:xs[p]? with
 |none=>exact ZY P f.wi f.sl H λG e k o=>S f (.inl rfl) (.inl H) k o
 |some x =>
 refine nxt f.wi f.sl H λG e2 t2=>zX ?_;have F:=f.fst D e2 t2;refine zW<|kG F.to rfl (zW<|wpAny_updateSeq_pair F.to λN e3 t3=>zW<|wpAny_letGo<|zX ?_);have n:=F.put D (x:=x) (y:=b) e3 t3;refine zW<|zW<|wpAny_onRaise<|zW (m:=Builtin.SmallTypes.nextOf _) ?_;cases C:ys[q]? with
 |none=>exact ZY P n.wj n.sm C λg4 e k=>S n (.inr rfl) (.inr C) k
 |some y =>
 refine nxt n.wj n.sm C λg4 e4 t4=>zX ?_;have J:=n.snd D e4 t4;refine zW<|kG J.to rfl (zW<|wpAny_updateSeq_pair J.to λg5 e5 t5=>zW<|wpAny_letGo<|zX<|zX ?_);have K:=J.put D e5 t5;exact zW<|kG K.to rfl (zW<|wpAny_newTuple<|zW<|zW<|kW (zV _ K.zo) (by simp) λg6 e6 t6=>kW e6 (by simp) λg7 e7 t7=>zX {_,rfl,(I x y g5 g7 H C K e7<|t6.trans t7)})
def aco(v:A.handled=none)(D:ZipApart z TI TO i j l m)
  (u:IsZip s.heap z TI TO .none)(J:IsPair s.heap TI (.ref i) (.ref j))(O:IsPair s.heap TO a b)
  (P:Vz U s.heap i l p)(p2:Vz Vi s.heap j m q)(r1:VE U s.heap l xs)(R:VE Vi s.heap m ys)(X:xs[p]?=↑x)(d:ys[q]?=↑y)
  (K:∀g,IsZip g z TI TO (rawInt s.heap.objs.size)->IsPair g TO x y->Vz U g i l (p+1)->Vz Vi g j m (q+1)->IsPair g s.heap.objs.size x y->g.objs.size=s.heap.objs.size+1 ->
   (∀c o,c≠z->c≠TO->c≠i->c≠j->s.heap.get? c=↑o->g.get? c=↑o)->Q (↑(.ref s.heap.objs.size)) {s with heap:=g}) :
  wpAny (model prog w) A (pyNext<|.ref z) Q E s:=by
 have T:s.TypeIs (.ref z) "zip":={_,u,rfl}
 have Z:ZS U Vi s.heap s.heap z TI TO i j l m xs ys .none p q a b:={u,J,O,P,p2,r1,R,λ_ _ _ _ _ _ e=>e,rfl}
 refine zW<|kO<|qC (name:=Str.ofString "__next__") T vT<|qU vT T F.entry_zip_next (acn v D Z ?_ ?_)<|F.args_zip_next_1 _
 .intro M S g G H k Y f t;rw[X]at H;rw[d]at k;cases H;cases k;rw[Y.sz]at f ⊢;have L:=zZ Y.zo;have up:∀c o,c≠z->g.get? c=↑o->G.get? c=↑o:=λc o n e=>t.extBut _ _ n<|zV _ e;refine zX<|K G f (up _ _ D.TOz Y.to) (Y.wi.at λo e=>up _ _ D.i1z e) (Y.wj.at λo e=>up _ _ D.i2z e) ?_ (by rw[t.1,xJ,Y.sz]) λc o r B C I e=>up c o r<|Y.kp c o r B C I e;rw[<-Y.sz];exact t.extBut _ _ (jH L)<|zY _ rfl
 .intro N;rw[X,d]at N;rcases N with N|N<;>cases N
def aa2(H:A.handled=none)(D:ZipApart z TI TO i j l m)
  (d:IsZip s.heap z TI TO .none)(I:IsPair s.heap TI (.ref i) (.ref j))(f:IsPair s.heap TO a b)
  (P:Vz U s.heap i l p)(p2:Vz Vi s.heap j m q)(r1:VE U s.heap l xs)(r:VE Vi s.heap m ys)(S:xs[p]?=none\/ys[q]?=none)
  (k:∀g,(∀c o,c≠z->c≠TO->c≠i->c≠j->s.heap.get? c=↑o->g.get? c=↑o)->Q none {s with heap:=g}):wpAny (model prog w) A (pyNext<|.ref z) Q E s:=by
 have t:s.TypeIs (.ref z) "zip":={_,d,rfl}
 have Z:ZS U Vi s.heap s.heap z TI TO i j l m xs ys .none p q a b:={d,I,f,P,p2,r1,r,λ_ _ _ _ _ _ e=>e,rfl}
 refine zW<|kO<|qC (name:=Str.ofString "__next__") t vT<|qU vT t F.entry_zip_next (acn H D Z ?_ ?_)<|F.args_zip_next_1 _
 .intro x y g G X Y;rw[X,Y]at S;rcases S with n|n<;>cases n
 .rintro _ g e K ⟨o,O,ht⟩;exact zW<|wpAny_isInstance (T:="StopIteration") (b:=true) {o,O,ht} isSubtype_stop<|zX<|k _ K
end
abbrev itO(b:θ)(l:Ψ):Obj:={cls:=.type (if b then "tuple_iterator"else "list_iterator"),data:=.fields #[.ref l,.int 0 0]}
abbrev z1(b:θ)(h:ι)(l:Ψ):ι:=h.push<|itO b l
abbrev z2(b c:θ)(h:ι)(l m:Ψ):ι:=(z1 b h l).push<|itO c m
abbrev z3(b c:θ)(h:ι)(l m:Ψ):ι:=(z2 b c h l m).push {cls:=.type "tuple",data:=.seq #[.ref h.objs.size,.ref (z1 b h l).objs.size]}
abbrev z4(b c:θ)(h:ι)(l m:Ψ):ι:=(z3 b c h l m).push {cls:=.type "tuple",data:=.seq #[.none,.none]}
abbrev z5(b c:θ)(h:ι)(l m:Ψ):ι:=(z4 b c h l m).push {cls:=.type "zip",data:=.fields #[.none,.bool false,.bool false,.ref (z2 b c h l m).objs.size,.ref (z3 b c h l m).objs.size]}
def VE.push(x:VE b h l xs)(o:Obj):VE b (h.push o) l xs:=x.at λO=>zV _
def ZZ(b c:θ)(l m:Ψ)(xs ys:Array Θ):Meets (Builtin.«zip.__new__» {[.type "zip",.ref l,.ref m],[]}) (λ_ R s=>VE b s.heap l xs/\VE c s.heap m ys/\R (.ok<|.ret<|.ref (z4 b c s.heap l m).objs.size) {s with heap:=z5 b c s.heap l m}):=
 .of_wp λP w A R s h=>by
  let(p,g,d,t,o):=s;let(q,q2,h):=h;have X:=sub_zip;cases b<;>cases c
  .have L:Heap.IsList (Shared.heap ⟨p,g,d,t,o⟩) l xs:=q;have L2:Heap.IsList (Shared.heap {p.push {cls:=.type "list_iterator",data:=.fields #[.ref l,.int 0 0]},g,d,t,o}) m ys:=VE.push (b:=false) q2 _
   wp_walk using qK L,qK L2
   exact{_,rfl,h}
  .have L:Heap.IsList (Shared.heap ⟨p,g,d,t,o⟩) l xs:=q;have L2:Heap.IsTuple (Shared.heap {p.push {cls:=.type "list_iterator",data:=.fields #[.ref l,.int 0 0]},g,d,t,o}) m ys:=VE.push (b:=true) q2 _
   wp_walk using qK L,xR L2
   exact{_,rfl,h}
  .have L:Heap.IsTuple (Shared.heap ⟨p,g,d,t,o⟩) l xs:=q;have L2:Heap.IsList (Shared.heap {p.push {cls:=.type "tuple_iterator",data:=.fields #[.ref l,.int 0 0]},g,d,t,o}) m ys:=VE.push (b:=false) q2 _
   wp_walk using xR L,qK L2
   exact{_,rfl,h}
  .have L:Heap.IsTuple (Shared.heap ⟨p,g,d,t,o⟩) l xs:=q;have L2:Heap.IsTuple (Shared.heap {p.push {cls:=.type "tuple_iterator",data:=.fields #[.ref l,.int 0 0]},g,d,t,o}) m ys:=VE.push (b:=true) q2 _
   wp_walk using xR L,xR L2
   exact{_,rfl,h}
def X5(e:h.get? it=↑(itO b l)):Vz b h it l 0:=by
 cases b
 .exact{_,e,rfl,rfl}
 .exact{_,e,rfl,rfl}
def Y5(q:VE b s.heap l xs)(q2:VE c s.heap m ys)
  (h:∀g,IsZip g (s.heap.objs.size+4) (s.heap.objs.size+2) (s.heap.objs.size+3) .none->IsPair g (s.heap.objs.size+2) (.ref s.heap.objs.size) (.ref<|s.heap.objs.size+1)->IsPair g (s.heap.objs.size+3) .none .none ->
   Vz b g s.heap.objs.size l 0->Vz c g (s.heap.objs.size+1) m 0->(∀a o,s.heap.get? a=↑o->g.get? a=↑o)->Q (.ref<|s.heap.objs.size+4) {s with heap:=g}) :
  wpAny (model prog w) A (call (.type "zip") [.ref l,.ref m]) Q E s:=by
 refine callType_new F.called_zip (by rfl) (F.typeCall_zip_2 _ _) (F.newCall_zip_2 _ _) (λobj=>F.args_object_init_3 obj _ _) F.entry_zip_new (ZZ b c l m xs ys) {q,q2,?_};have n:(z1 b s.heap l).objs.size=s.heap.objs.size+1:=xJ ..;have N:(z2 b c s.heap l m).objs.size=s.heap.objs.size+2:=by simp
 have i:(z3 b c s.heap l m).objs.size=s.heap.objs.size+3:=by simp
 have j:(z4 b c s.heap l m).objs.size=s.heap.objs.size+4:=by simp
 have G:(z5 b c s.heap l m).get? _=↑_:=zY _ rfl;have f:(z5 b c s.heap l m).get? _=↑_:=zV _<|zY _ rfl;have e:(z5 b c s.heap l m).get? _=↑_:=zV _<|zV _<|zY _ rfl;have d:(z5 b c s.heap l m).get? _=↑_:=zV _<|zV _<|zV _<|zY _ rfl;rw[N,i,j]at G;rw[n,N]at e;rw[i]at f;rw[n]at d;rw[j];exact{{_,G,rfl},h _ G e f (X5 (zV _ (zV _<|zV _<|zV _<|zY _ rfl):(z5 b c s.heap l m).get? s.heap.objs.size=↑_)) (X5 d) λa o x=>zV _<|zV _<|zV _<|zV _<|zV _ x}
end Zp
namespace Dl
open PySem L2 PySem.Spec PyProof.Rows Zp
def uz(K:Φ)(b:θ)(a:Ψ)(H:Hp)(xs:Γ V):Prop:=match b with|true=>fP K H a xs|false=>ik K H a xs
def uz.src(I:Inv X pins σ H s)(h:uz X.K b a H xs):∃U ,aI xs U/\VE b s.heap a U.toArray/\xs.length<=sizeLine:=by
 cases b
 .let(U,r,p,z):=I.list<|h;exact{U,r,p.isList,z}
 .let(U,r,p,z):=I.tuple<|h;exact{U,r,p,z}
def uz.ne(I:Inv X pins σ H s)(f:dc X pins H c)(h:uz X.K b a H xs):a≠c:=by
 cases b
 .exact NH I f h
 .exact MS I f h
def uz.inj(I:Inv X pins σ H s)(h:uz X.K b a H xs)(h':uz X.K b a H ys):xs=ys:=by
 cases b
 .exact I.W7 h h'
 .exact I.Wx h h'
def uz.mono{K:Φ}(e:aA H H')(h:uz K b a H xs):uz K b a H' xs:=by
 cases b
 .exact e.seq h
 .exact ay e h
def EV{K:Φ}(b c:θ)(Q T z TI TO j l:Ψ)(Z:Uh z TI TO j l) :
  Turn P w K (.Tuple elts k pos) (Si (uz K b Q)<|uz K c T) [z,TI,TO,j,l] z (λi h=>IsZip h z TI TO .none/\IsPair h TI (.ref j) (.ref l)/\(∃a b,IsPair h TO a b)/\Vz b h j Q i/\Vz c h l T i) where
 mem:=by simp
 obj:=λi h st d hd=>by
  let(r,p,(a,M,O),G,p2):=st;simp?[zR,yG,xU]at hd;rcases hd with rfl|rfl|rfl|rfl|rfl
  .exact{_,r,λv q=>by have q:Data.fields _=Data.cell v:=q;cases q}
  .exact{_,p,λv q=>by have q:Data.seq _ _=Data.cell v:=q;cases q}
  .exact{_,O,λv q=>by have q:Data.seq _ _=Data.cell v:=q;cases q}
  .exact G.obj
  .exact p2.obj
 keep:=λi h h' st F=>by
  let(r,p,(a,M,O),u,A):=st;exact{F z (by simp) _ r,F TI (by simp) _ p,{a,M,F TO (by simp) _ O},u.at λo q=>F j (by simp) o q,A.at λo q=>F l (by simp) o q}
 item:=by
  intro X hP hw hK hc i J s σ H E I f st hg;subst hP hw hK;let(xs,ys,x,y,m,n,N,hy):=hg;let(U,R,G,hz1):=m.src I;let(VO,t,p2,hz2):=n.src I;let(u1,hu1,ru1):=R.get N;let(u2,hu2,ru2):=t.get hy;have D:ZipApart z TI TO j l Q T:={Z.a1,Z.a2,Z.a3,Z.a4,Z.a5,Z.a6,Z.a7,Z.a8,Z.a9,Z.a0,m.ne I<|f z<|by simp,m.ne I<|f TO<|by simp,m.ne I<|f j<|by simp,m.ne I<|f l<|by simp,n.ne I<|f z<|by simp,n.ne I<|f TO<|by simp,n.ne I<|f j<|by simp,n.ne I<|f l<|by simp}
  let(r,p,(a,M,O),u,A):=st;refine aco (I.ok.hd hc) D r p O u A G p2 (x:=u1) (y:=u2) (by simpa using hu1) (by simpa using hu2) λg b1 b2 b3 b4 b5 b6 hk=>{.ref s.heap.objs.size,rfl,?_}
  have L:∀{c:Ψ}{o:Obj},s.heap.get? c=↑o->s.heap.objs.size≠c:=λe=>jH<|zZ e;refine wpAny_letOwnedTupleGo_zip (s:={s with heap:=g}) b1 λg' hz' Y=>?_;have C:g'.get? s.heap.objs.size=some {cls:=.type "tuple",data:=.seq #[u1,u2]}:=Y.extBut _ _ (L r) b5;have ht:Eg g' s.heap.objs.size (List.toArray [u1,u2]):={{_,C,rfl,_,rfl},_,C,rfl}
  refine⟨.ref s.heap.objs.size,_,Aa (ch:=[z,TI,TO,j,l]) (xs:=[x,y]) (t':=s.toks) I f (λb o B q=>?_) (yN _) ht (.cons ru1<|.cons ru2 .nil) (by show 2<=sizeLine;decide),rfl,
   {s.heap.objs.size,x,y,rfl,I.fresh,rfl,λzs S=>by rw[S.inj I m];exact N,λzs S=>by rw[S.inj I n];exact hy},
   {hz',Y.extBut _ _ Z.a1<|hk _ _ D.TIz D.TITO D.TIi1 D.TIi2 p,{_,_,Y.extBut _ _ Z.a2 b2},b3.extBut Y.extBut Z.a3,b4.extBut Y.extBut Z.a4},λb B=>?_⟩
  .simp?[zR,yG,xU,not_or]at B;exact Y.extBut _ _ B.1<|hk b o B.1 B.2.2.1 B.2.2.2.1 B.2.2.2.2 q
  .have:s.heap.objs.size≠b:=by
    simp?[zR,yG,xU]at B;let(o1,g1,_):=u.obj;let(o2,g2,_):=A.obj;rcases B with rfl|rfl|rfl|rfl|rfl
    .exact L r
    .exact L p
    .exact L O
    .exact L g1
    .exact L g2
   rw[ai<|jL this];exact(f b B).1
 done:=by
  intro X hP hw hK hc i J s σ H E I f st hg;subst hP hw hK;let(xs,ys,m,n,N):=hg;let(U,R,G,hz1):=m.src I;let(VO,t,p2,hz2):=n.src I;have D:ZipApart z TI TO j l Q T:={Z.a1,Z.a2,Z.a3,Z.a4,Z.a5,Z.a6,Z.a7,Z.a8,Z.a9,Z.a0,m.ne I<|f z<|by simp,m.ne I<|f TO<|by simp,m.ne I<|f j<|by simp,m.ne I<|f l<|by simp,n.ne I<|f z<|by simp,n.ne I<|f TO<|by simp,n.ne I<|f j<|by simp,n.ne I<|f l<|by simp}
  let(r,p,(a,M,O),u,A):=st;have e1:=R.length;have e2:=t.length;refine aa2 (I.ok.hd hc) D r p O u A G p2 (N.elim (λq=>.inl (by simp;lia)) λq=>.inr (by simp;lia)) λg hk=>{rfl,?_}
  refine Ew (ch:=[z,TI,TO,j,l]) (t':=s.toks) I f λb o B q=>?_;simp?[zR,yG,xU,not_or]at B;exact hk b o B.1 B.2.2.1 B.2.2.2.1 B.2.2.2.2 q
 self:=λ_ _ _ _ _ st h=>wpAny_pyIter_zip st.1 h
def Dv(B:iN X "zip" (.type "zip"))(A:PA X [l,U] tl)(hs:starEach [l,U] X.env=(false,eval l X.env)::starEach [U] X.env)(x:(backTo pos<|starEach [U] X.env).any (·.1)=false) :
  PI X (.Tuple elts k tp) (.Call (.Name "zip" p) [l,U] [] pos) (λσ H R=>tl σ H λvs f=>∃a b,vs=[.ref a,.ref b]/\∃c d xs ys,uz X.K c a f xs/\uz X.K d b f ys/\R (Si (uz X.K c a)<|uz X.K d b) f):=by
 refineλP s σ H R I h=>Call_<|gE I B.gl B.mg B.bt<|qQ (b9 (A pos P s σ H _ I h) λN m z=>?_) hs x;let(vs,f,i,r1,Q):=z;let(a,b,e,c,d,xs,ys,n,o,q):=Q;subst e;let(u,M,rfl,E,Y):=vals2 r1;cases E;cases Y;let(F,J,C,G):=n.src i;let(S,D,L,z):=o.src i;refine Y5 C L λg j r t v w y=>wpAny_pyIter_zip j <| {_,_,_,_,f,rfl,i.kept y,EV c d a b _ _ _ m.heap.objs.size _ ?_,{j,r,{_,_,t},v,w},λc hc=>?_,q}
 .constructor<;>(simp)
 .have Z:m.heap.objs.size<=c:=by
   simp  at hc;rcases hc with rfl|rfl|rfl|rfl|rfl
   .apply jT
   .apply jT
   .apply jT
   .apply yN
   .apply jT
  exact i.VV Z<|i.UX.fresh Z
def Ba:Γ D->Δ (Γ D):=λd=>match d with
 |[x,y]=>(gO x).bind λs=>(gO y).map λY=>mw s Y
 |_=>none
def sF{K:Φ}(h:gO d=↑xs)(r:Rep K HF d v):∃b a vs,v=.ref a/\uz K b a HF vs/\au K HF xs vs:=by
 rcases mj h with rfl|rfl
 .let(a,vs,rfl,q,R):=r;exact{true,a,vs,rfl,q,R}
 .let(a,vs,rfl,q,R):=r;exact{false,a,vs,rfl,q,R}
def iH(fs:Env->Δ (Γ D)):Env->Δ (Γ D):=λa=>(fs a).bind Ba
def LW(B:iN X "zip" (.type "zip"))(hs:starEach [l,U] X.env=(false,eval l X.env)::starEach [U] X.env)(i:(backTo pos<|starEach [U] X.env).any (·.1)=false)(h:DA X [l,U] fs) :
  DI X (.Tuple elts k tp) (.Call (.Name "zip" p) [l,U] [] pos) (iH fs):=
 r6 (Dv B h hs i) λN H R z=>by
  let(F,E,G,sm,o,f,q):=z;let(x,t,f):=bs f;refine{F,E,_,sm,o,t,λK e T g r1=>?_};unfold Ba at f;split at f
  .let(L,m,f):=bs f;let(M,n,rfl):=ag f;let(v,I,rfl,a,b):=r1.cons_inv;let(J,u,rfl,A,j):=b.cons_inv;rw[j.nil_inv];let(c,D,S,rfl,Q,w):=sF m a;let(C,d,y,rfl,Y,r):=sF n A;exact{D,d,rfl,c,C,S,y,Q.mono g.fh,Y.mono g.fh,q _ e T g<|yx Q (λ_ _ s h=>h.mono s) Y (λ_ _ s h=>h.mono s) w r}
  .cases f
end Dl
namespace Zp
open PySem PyProof.Rows
def Vz.ne(x:Vz b h it l k)(y:VE b h l xs):l≠it:=by
 cases b
 .let(o,e,c,d):=(x)
  let(O,E,r):=(y)
  grind
 .let(o,e,c,d):=(x)
  let(O,E,r):=(y)
  grind
def aa4(n:A.handled=none)(b:θ)(it l:Ψ)(xs:Array Θ):Draws prog w A it [it,l] xs.size (λi x=>xs[i]?=↑x) (λi h=>Vz b h it l i/\VE b h l xs) where
 live:=λi h st=>let ⟨o,e,_⟩:=st.1.obj;{o,e}
 frame:=λi h a st k=>{st.1.at<|k it<|by simp,st.2.at<|k l<|by simp}
 item:=λi s Q E I st H=>nxt st.1 st.2 (v:=xs[i]) (by simp) λg e t=>H _ g s.toks (by simp) {e,st.2.extBut t.extBut<|st.1.ne st.2} t
 done:=λs Q E st=>ZY n st.1 st.2 (by simp)
def acp{U:θ}{e it l:Ψ}{i:Nat}{items:Array Θ}{x O:Θ}{Q:Δ Θ->Ξ->Prop}(j:A.handled=none)
  (qe:IsEnum s.heap e it i O)(I:Vz U s.heap it l i)(q:VE U s.heap l items)(X:items[i]?=↑x)(n:e≠it)
  (K:∀g t,IsEnumOut g e it ((i:Int)+1) x s.heap.objs.size->Vz U g it l (i+1)->g.get? s.heap.objs.size=some {cls:=.type "tuple",data:=.seq #[.int i t,x]} ->
   g.objs.size=s.heap.objs.size+1->(∀c o,c≠e->c≠it->s.heap.get? c=↑o->g.get? c=↑o)->Q (↑(.ref s.heap.objs.size)) {s with heap:=g,toks:=t+1}) :
  wpAny (model prog w) A (pyNext<|.ref e) Q E s:=by
 have N:e≠l:=by
  rintro rfl;cases U
  .let(o,f,r):=(show s.heap.IsList e items from q)
   rw[qe]at f;cases f;simp at r
  .let(o,f,r):=(show s.heap.IsTuple e items from q)
   rw[qe]at f;cases f;simp at r
 have D:Draws prog w A.in1 it [it,l] items.size (λi x=>items[i]?=↑x) (λi h=>Vz U h it l i/\VE U h l items):=aa4 (A:=A.in1) j U it l items;refine wpAny_pyNext_enum_itemD D qe {I,q} (Array.getElem?_eq_some_iff.mp X).1 n (by simp[n,N]) λy g t H a b c d k=>?_;rw[X]at H;cases H;exact K g t a b.1 c d k
end Zp
namespace Dl
open PySem L2 PySem.Spec PyProof.Rows Zp
def rL{K:Φ}(b:θ)(a it e:Ψ)(l:e≠it):Turn P w K (.Tuple elts k pos) (SK<|uz K b a) [e,it] e (λi h=>(∃d,IsEnum h e it i d)/\Vz b h it a i) where
 mem:=by simp
 obj:=λi h st c hc=>by
  let((d,f),j):=st;rcases List.mem_cons.mp hc with z|z
  .subst z;exact{_,f,λv q=>by have q:Data.fields _=Data.cell v:=q;cases q}
  .rw[List.mem_singleton.mp z];exact j.obj
 keep:=λi h h' st M=>{let ⟨d,f⟩:=st.1;{d,M e (by simp) _ f},st.2.at λo q=>M it (by simp) o q}
 item:=by
  intro X y hw t hc i S s σ H E I r st G;subst y hw t;let(N,x,Q,L):=G;let(U,R,p,hz):=Q.src I;let(u,hu,ru):=R.get L;let((d,f),j):=st;refine acp (I.ok.hd hc) f j p (by simpa using hu) l λg tk Z b2 b3 b4 hk=>{.ref s.heap.objs.size,rfl,?_}
  have lt:∀{c:Ψ}{o:Obj},s.heap.get? c=↑o->s.heap.objs.size≠c:=λe=>jH<|zZ e;refine wpAny_letOwnedTupleGo_enum Z λg' C Y=>?_;have B:=Y.extBut _ _ (lt f) b3;refine⟨.ref s.heap.objs.size,_,Aa (xs:=[.int i,x]) I r (λc o n q=>?_) (yN _) ({{_,B,rfl,_,rfl},_,B,rfl}) (.cons {_,rfl}<|.cons ru .nil) (by show 2<=sizeLine;decide),rfl,
   {s.heap.objs.size,x,rfl,I.fresh,rfl,λzs J=>by rw[J.inj I Q];lia},{{_,C},b2.extBut Y.extBut<|jL l},λc O=>?_⟩
  .simp  at n;exact Y.extBut _ _ n.1<|hk c o n.1 n.2 q
  .have:s.heap.objs.size≠c:=by
    let(o1,g1,_):=j.obj
    grind
   rw[ai<|jL this];exact(r c O).1
 done:=by
  intro X y hw t hc i S s σ H E I r st G;subst y hw t;let(N,Q,L):=G;let(U,R,p,hz):=Q.src I;have hl:=R.length;let((d,f),j):=st;have T:s.TypeIs (.ref e) _:={_,f,rfl}
  refine zW<|kO<|qC T F.slot_enumerate_next<|qU F.slot_enumerate_next T F.entry_enumerate_next (zW (m:=field _ 2)<|qS f rfl rfl (zW<|ZY (I.ok.hd hc) j p (by simp;lia) λh1 x k1 D=>?_))<|F.args_enumerate_next_1 _;let(o,ho,A):=D;refine zW<|wpAny_isInstance {o,ho,A} isSubtype_stop<|zX {rfl,?_};let(f0,f1,f2,f3,f4,f5):=r it (by simp);exact I.turned (k1) f0 f1 f3 f4 f5
 self:=λ_ _ _ _ _ st h=>let ⟨_,f⟩:=st.1;wQ f h
def Kk(B:iN X "enumerate" (.type "enumerate"))(A:PA X [l] tl)(hs:starEach [l] X.env=[(false,eval l X.env)]):PI X (.Tuple elts k tp) (.Call (.Name "enumerate" p) [l] [] pos) (λσ H R=>tl σ H λvs c=>∃a,vs=[.ref a]/\∃b xs,uz X.K b a c xs/\R (SK<|uz X.K b a) c):=by
 refineλP s σ H R I h=>Call_<|gE I B.gl B.mg B.bt<|qQ (b9 (A pos P s σ H _ I h) λo S z=>?_) hs rfl;let(vs,c,i,r1,m):=z;let(a,e,b,xs,Q,q):=m;subst e;let(u,rfl,r):=vals1 r1;cases r;have f:∀b∈[S.heap.objs.size+1,S.heap.objs.size],dc X P c b:=λb j=>by
  rcases List.mem_cons.mp j with z|z
  .subst z;exact i.VV (Nat.le_succ _)<|i.UX.fresh<|Nat.le_succ _
  .cases List.mem_singleton.mp z;exact i.VV (yN _) i.fresh
 let(U,v,L,n):=Q.src i;cases b with
 |false =>
  exact call_enumerate_list L λg E t Z d=>wQ E <| {_,_,_,_,c,rfl,i.kept d,rL false a S.heap.objs.size _<|Nat.succ_ne_self _,{{_,E},t},f,q}
 |true =>
  exact En.XD (L) λg E t Z d=>wQ E<|{_,_,_,_,c,rfl,i.kept d,rL true a S.heap.objs.size _<|Nat.succ_ne_self _,{{_,E},t},f,q}
def cD(fs:Env->Δ (Γ D)):Env->Δ (Γ D):=λa=>(fs a).bind λd=>(fJ d).map<|bZ 0
def Ld(B:iN X "enumerate" (.type "enumerate"))(h:DA X [l] fs)(hs:starEach [l] X.env=[(false,eval l X.env)]):DI X (.Tuple elts k tp) (.Call (.Name "enumerate" p) [l] [] pos) (cD fs):=
 r6 (Kk B h hs) λw H R z=>by
  let(F,n,D,sm,o,f,q):=z;let(x,i,f):=bs f;let(E,e,rfl):=ag f;let(d,m,e):=bs e;rw[gH m]at i;refine{F,n,_,sm,o,i,λS j U g r1=>?_};let(v,t,rfl,a,b):=r1.cons_inv;rw[b.nil_inv];let(c,A,u,rfl,Q,r):=sF e a;exact{A,rfl,c,u,Q.mono g.fh,q _ j U g<|Eo Q (λ_ _ s h=>h.mono s) r}
end Dl
namespace X4
open PySem PySem.W PySem.Calls PyProof.Rows L2
def dc.at(h:dc X pins H b)(e:H' b=none):dc X pins H' b:={e,h.2}
def V0{g:Array Θ->Array Θ}(I:Inv X pins σ H s)(f:dc X pins H b):Inv X pins σ H {s with heap:=s.heap.update b (Obj.mapSeq g)}:=by
 let(F,f1,f2,f3,f4,f5):=f;exact I.turned (λc o hc=>(xN _ _<|jL hc).trans) F f1 f3 f4 f5
def X8(I:Inv X (pins++wX fp h) σ H' s')(H:b∈fp)(e:h.get? b=↑o):s'.heap.get? b=↑o/\H' b=none:=
 let q:=I.pin _<|yF _<|yF _<|eQ H e;{q.1,q.2.1}
def XI(I:Inv X pins σ H s)(ho:s.heap.get? a=↑(seqObj "list" vs.toArray n))(fa:dc X pins H a)(XB:vs.length<64)
  (J:Γ Θ->Hp->Prop)(j0:J [] H)
  (step:∀U v,vs[U.length]?=↑v->∀pl s' H',Inv X (pins++pl) σ H' s'->J U H'->wpAny (model X.prog X.w) A (call f [v]) (λu r=>∃Z,Inv X (pins++pl) σ Z r/\J (U++[u]) Z) (λ_ _=>False) s')
  (fin:∀U H',U.length=vs.length->J U H'->∃ (z:Nat->Int) (W:SortKind),(2<=vs.length->∀s',Inv X pins σ H' s'->(∀Q':SortKind->Ξ->Prop,Q' W s'->wpAny (model X.prog X.w) A (keyKind' U.toArray) Q' (λ_ _=>False) s') /\
    ∀i j C,i<vs.length->j<vs.length->C (SP.ij z i j) s'->kas_ask X.prog X.w A W U i j C s') /\
   ∀s' c,Inv X pins σ H' s'->dc X pins H' a->s'.heap.get? a=↑(seqObj "list" (Vh z vs).toArray c)->P (.done<|.ret .none) s') :
  wpAny (model X.prog X.w) A (ksk_tree a f false) P E s:=by
 have hsl:vs.length<=sizeLine:=by rw[qT];lia
 unfold ksk_tree;refine zW<|vJ ho rfl ?_;refine zW<|jZ ho rfl ?_ (by omega) (xV _);obtain⟨e1,W5⟩:∃e,(s.heap.update a (Obj.mapSeq λ_=>(#[]:Array Θ))).get? a=↑(seqObj "list" #[] e):={_,kC ho λ_=>#[]}
 have I1:=V0 (g:=λ_=>(#[]:Array Θ)) I fa;refine zW<|seqEpoch_at W5 rfl ?_;refine zW<|wpAny_newTuple ?_ (by lia);refine zW<|kN ?_<|xV _;refine xX ?_;have F:(((s.heap.update a<|Obj.mapSeq λ_=>(#[]:Array Θ)).push<|seqObj "tuple" vs.toArray 0).push<|seqObj "list" #[] 0).get? a=↑(seqObj "list" #[] e1):=zV _<|zV _ W5;have l:(((s.heap.update a<|Obj.mapSeq λ_=>(#[]:Array Θ)).push<|seqObj "tuple" vs.toArray 0).push<|seqObj "list" #[] 0).get? ((s.heap.update a<|Obj.mapSeq λ_=>(#[]:Array Θ)).push<|seqObj "tuple" vs.toArray 0).objs.size=↑(seqObj "list" #[] 0):=zY _ rfl;have I3:=(I1.kept (t':=s.toks) (h':=((s.heap.update a<|Obj.mapSeq λ_=>(#[]:Array Θ)).push<|seqObj "tuple" vs.toArray 0).push<|seqObj "list" #[] 0) λb o e=>zV _<|zV _ e)
 have I2:=(I1.kept (t':=s.toks) (h':=(s.heap.update a<|Obj.mapSeq λ_=>(#[]:Array Θ)).push<|seqObj "tuple" vs.toArray 0) λb o e=>zV _ e)
 have M:dc X pins H ((s.heap.update a<|Obj.mapSeq λ_=>(#[]:Array Θ)).push<|seqObj "tuple" vs.toArray 0).objs.size:=I2.VV (yN _)<|I2.UX.fresh<|yN _;have D:((s.heap.update a<|Obj.mapSeq λ_=>(#[]:Array Θ)).push<|seqObj "tuple" vs.toArray 0).objs.size≠a:=by
  have Vc:=zZ W5;rw[xJ];exact jH<|jM Vc
 show wpAny _ A _ P E {s with heap:=((s.heap.update a<|Obj.mapSeq λ_=>(#[]:Array Θ)).push<|seqObj "tuple" vs.toArray 0).push (seqObj "list" #[] 0)};generalize ((s.heap.update a<|Obj.mapSeq λ_=>(#[]:Array Θ)).push<|seqObj "tuple" vs.toArray 0).objs.size=S at l M D;generalize e3:({s with heap:=((s.heap.update a<|Obj.mapSeq λ_=>(#[]:Array Θ)).push<|seqObj "tuple" vs.toArray 0).push (seqObj "list" #[] 0)}:Ξ)=s3 at I3;have F:s3.heap.get? a=↑(seqObj "list" #[] e1):=by rw[<-e3];exact F
 have l:s3.heap.get? S=↑(seqObj "list" #[] 0):=by rw[<-e3];exact l
 refine zW<|wD ?_;rw[List.forIn_toArray];refine zW (ksk_fold (λi s'=>∃U H' e,U.length=i/\Inv X pins σ H' s'/\H' a=none/\H' S=none/\s'.heap.get? a=↑_/\s'.heap.get? S=↑(seqObj _ U.toArray e)/\J U H') vs 0 s3
  {[],H,0,rfl,I3,fa.1,M.1,F,l,j0} ?step ?done)
 case step =>
  rintro j x s' hx ⟨U,H',e,q,T,k,Y,m,K,j'⟩;have q:U.length=j:=by lia
  have hj:=(List.getElem?_eq_some_iff.mp hx).1;have Ip:=T.pinned (λb B=>by
   rcases List.mem_cons.mp B with rfl|B
   .exact dc.at fa k
   .rw[List.mem_singleton.mp B];exact dc.at M Y) (λb B=>by
   rcases List.mem_cons.mp B with rfl|B
   .exact{_,m,λv z=>by cases z}
   .rw[List.mem_singleton.mp B];exact{_,K,λv z=>by cases z})
  refine zW<|kO<|xB (step U x (by rw[q];exact hx) _ s' H' Ip j') (λu r he=>?_) λ_ _ hF=>hF.elim;let(Z,y,j''):=he;let(ga,na):=X8 y zE m;let(gk,nk):=X8 y (zC _ zE) K;have I4:=y.Vp;obtain⟨c2,YS⟩:∃c2,(r.heap.update S (Obj.mapSeq (·.push u))).get? S=↑_:={_,kC gk _}
  refine zW<|jZ gk rfl (zX {rfl,U++[u],Z,c2,by rw[zN,q];simp,V0 I4<|dc.at M nk,na,nk,(xN _ _ D).trans ga,?_,j''}) (by rw[zH,qT];lia) (yE (Nat.le_of_eq<|Array.size_push ..) (by rw[zH,qT];lia));rw[YS];simp
 case done =>
  rintro s' ⟨U,H',e,q,T,k,Y,m,K,j'⟩;have q:U.length=vs.length:=by lia
  refine zW<|vJ K rfl ?_;let(z,W,hz,hP):=fin U H' q j';have L:∀d ,(arrOf d).map _=(Vh z vs).toArray->failedOf d=none->wpAny (model X.prog X.w) A (ksk_tail a false e1 _ d) P E s':=λd h1 t=>by
   unfold ksk_tail;rw[h1,t];have N:(s'.heap.update S<|Obj.mapSeq λ_=>#[]).get? a=↑_:=(xN _ _ D).trans m;have I6:=V0 (g:=λ_=>(Vh z vs).toArray) (V0 (g:=λ_=>(#[]:Array Θ)) T<|dc.at M Y)<|dc.at fa k;refine zW<|jZ K rfl ?_ (by rw[zH,qT];lia) (xV _);refine zW<|wpAny_letGo<|zW<|seqEpoch_at N rfl ?_;refine zW (jZ N rfl ?_ (xV _) (by
    simp?[yP,qN];rw[zH,Xa];lia))
   obtain⟨c,hc⟩:∃c,((s'.heap.update S (Obj.mapSeq _)).update a (Obj.mapSeq λ_=>(Vh z vs).toArray)).get? a=↑_:={_,kC N _}
   simp ;exact zX<|hP _ c I6 (dc.at fa k) hc
  unfold ksk_end;simp?[yP,qN];by_cases t:vs.toArray.size<2
  .rw[yM t,yM t];refine zW<|zX<|L _ ?_ rfl;rw[Vh,yM<|by simpa using t];show((U.toArray.zip vs.toArray).map _)=vs.toArray;simp ;exact List.map_snd_zip (by rw[q];apply yN)
  .rw[yO t,yO t];have ZH:2<=vs.length:=by
    have:¬vs.length<2:=by exact t
    lia
   let(hk,Vc):=hz ZH s' T;refine zW<|xB (hk (λR r=>R=W/\r=s') ⟨rfl,rfl⟩) (λR r hs=>?_) λ_ _ x=>x.elim;let(rfl,rfl):=hs;refine zW (xB (kat_run (Q:=λd O=>O=r/\(arrOf d).map (·.2)=(Vh z vs).toArray/\failedOf d=none) (G:=λp O=>O=r/\p=SP.run _ _)
    q ZH XB (λp d O a1 a2 a3 a4=>{a4.1,?_,a3}) (SP.wp_run Vc _ (SP.Gj<|by lia) {rfl,rfl})) ?_ λ_ _ e=>e)
   .rw[kat_snds q a2,a4.2];rw[Vh,yO<|by lia]
   .rintro⟨⟨⟩,d⟩ O ⟨hs,h4,h5⟩;subst hs;exact L d h4 h5
def sortedK{l:Θ}{f:Ψ}{Q:Θ->Ξ->Prop}(I:Inv X pins σ H s)(B:vs.length<64)
  (F:∀{q:Γ Θ->Ξ->Prop},(∀h':ι,(∀b o,s.heap.get? b=↑o->h'.get? b=↑o)->q vs {s with heap:=h'})->wpAny (model X.prog X.w) A.in1 (collect l) q E s)
  (J:Γ Θ->Hp->Prop)(x:J [] H)
  (step:∀U v,vs[U.length]?=↑v->∀pl s' H',Inv X (pins++pl) σ H' s'->J U H'->wpAny (model X.prog X.w) A.in1.in1 (call (.ref f) [v]) (λu p=>∃Z,Inv X (pins++pl) σ Z p/\J (U++[u]) Z) (λ_ _=>False) s')
  (fin:∀U H',U.length=vs.length->J U H'->∃ (z:Nat->Int) (a:SortKind),(2<=vs.length->∀s',Inv X pins σ H' s'->(∀q:SortKind->Ξ->Prop,q a s'->wpAny (model X.prog X.w) A.in1.in1 (keyKind' U.toArray) q (λ_ _=>False) s') /\
    ∀i j C,i<vs.length->j<vs.length->C (SP.ij z i j) s'->kas_ask X.prog X.w A.in1.in1 a U i j C s') /\
   ∀s' D c,Inv X pins σ H' s'->dc X pins H' D->s'.heap.get? D=↑(seqObj "list" (Vh z vs).toArray c)->Q (.ref D) s') :
  wpAny (model X.prog X.w) A (call (.builtin "sorted") [l] [(Str.ofString "key",.ref f)]) Q E s:=by
 have L:vs.length<=sizeLine:=by rw[qT];lia
 apply call_function_entry_kw kind_sorted plain_sorted entry_sorted<|ksk_s1 _ _;refine zW<|zX<|zW<|F λg K=>(zW<|kN ?_<|by lia);have d:=I.kept (t':=s.toks) K;have Y:(g.push<|seqObj "list" vs.toArray 0).get? g.objs.size=↑_:=zY _ rfl;refine zW<|xX<|wpAny_call_entry_kw slot_list_sort {_,Y,rfl} entry_list_sort ?body<|ksk_l1 _ _
 case body =>
  refine XI (d.kept λb o=>zV _) Y (d.VV (yN _)<|d.UX.fresh<|yN _) B J x step λU H' n t=>?_;let(z,a,r,P):=fin U H' n t;exact{z,a,r,λs' c k m e=>{_,rfl,zX {_,rfl,P s' _ c k m e}}}
end X4
namespace Dl
open PySem L2 PySem.Spec PyProof.Rows
def _root_.L2.Inv.acq(I:Inv X pins σ H s)(f:dc X pins H b)(i:cC X.prog X.w (upd H b o) s.heap b o):Inv X pins σ (upd H b o) s:=by
 let(F,f1,f2,f3,f4,f5):=f;have up:∀c u,H c=↑u->upd H b o c=↑u:=λc u e=>by rw[ai<|aF e F];lia
 refine{I.ok,I.os,I.bare,{I.base.keep,I.base.slot,λc O e n a=>?_,I.base.there,λc S e=>up c _<|I.base.WG c S e,λc O u e=>up c _<|I.base.Wo c O u e,λc u e t=>up c u<|I.base.V1.st c u e t,I.base.V1.gr},I.loc,I.cell,?_,λx c e=>?_,λp P=>?_,λc u e=>?_,I.len}
 .have U:c≠b:=λz=>by
   rcases f3 with g|g
   .exact a<|z▸g
   .exact absurd (zP (zZ e)<|z▸g)<|qE _
  rw[ai U];exact I.base.free c O e n a
 .rw[ai<|jL f1];exact I.free
 .rw[ai<|f4 x c e];exact I.Vo x c e
 .let(e,n,r):=I.pin p P;exact{e,by rw[ai<|f5 p P];lia,r}
 .by_cases hc:c=b
  .subst hc;rw[ar]at e;grind
  .rw[ai hc]at e;exact(I.UX c u e).VF (λd w _ q=>q) (λd=>up d _) λd w q _=>up d _ q
def yu(scope:ζ)(N:Γ Str)(p:Str):θ:=scope.names.all (λq=>!decide (q.2=NameKind.cell))&&decide (N[0]?=↑p)&&decide (scope.names.lookup p=↑.local)&&decide (scope.isCoroutine=false)&&decide (scope.isGenerator=false)
section
def On(C:Bk X N sc (k+3))(b:cE (k+1) A)(hk:scope.kind=.function)(a:U.Nodup)(l:yu scope U p=true):Bk (pW X A qual scope U f c s H) U scope k where
 n:=rfl
 nd:=a
 tb:=λx kd=>.inl
 calm:=rfl
 fn:=λx d=>by
  simp?[yu,zF,xG,yQ,xC]at l;exact absurd rfl (l.1.1.1.1 _<|mem_of_lookup d)
 room:=b.deeper _
 xe:=rfl
 kd:=hk
structure CT(X:Cx)(qual:Str):Prop where
 ex:∃c P,X.env.code=.ref c/\X.env.qual++"<lambda>"=qual/\W.codeHdIn X.K c P=true/\∀HF,cm X.K HF->HF P=↑(.tab qual)
def pZ(te:Env->Δ D)(ρ:Env):Γ D->Δ (Γ D)
 |[]=>↑[]
 |d::s=>(te<|ρ.set 0<|↑d).bind λx=>(pZ te ρ s).map (x::·)
def uv:∀{ds k:Γ D},pZ te ρ ds=↑k->k.length=ds.length
 |[],k,h=>by cases h;rfl
 |d::ds,k,h=>by
  let(y,a,h):=bs h;let(s,H,rfl):=ag h;simp[uv H]
def z8:∀{ds k:Γ D}{i:Nat}{d:D},pZ te ρ ds=↑k->ds[i]?=↑d->∃x,te (ρ.set 0<|↑d)=↑x/\k[i]?=↑x
 |[],k,i,d,h,e=>by simp at e
 |f::ds,k,i,d,h,e=>by
  let(y,H,h):=bs h;let(s,c,rfl):=ag h;cases i with
  |zero=>simp at e;subst e;exact{y,H,rfl}
  |succ i=>let(x,a,b):=z8 c<|e;exact⟨x,a,b⟩
def oY(cs:Γ Nat)(fl te:Env->Δ D):Env->Δ (Γ D):=λa=>(fl a).bind λl=>match l with
 |.list d=>(pZ te (eK 1 cs a) d).bind λk=>(intsOf k).bind λzs=>if d.length<64 then↑(AC (λi=>zs.getD i 0) d .none)else none
 |_=>none
def ID{K:Φ}{cs:Γ Nat}(e:cw K HF ρ σ)(r:Rep K HF d v):cw K HF ((eK 1 cs ρ).set 0<|↑d) ((iE 1 cs σ).set 0<|↑v):=qm (Di e) r
def nv{K:Φ}:∀{k:Γ D}{zs:Γ Int}{n:Γ V}{u:Γ Θ},intsOf k=↑zs->au K HF k n->aI n u->IntsAre u zs
 |[],zs,n,u,h,r,v=>by
  cases h;rw[r.nil_inv]at v;cases v;exact .nil
 |d::k,zs,n,u,h,r,v=>by
  cases d<;>simp?[intsOf]at h<;>try grind
  rename_i i;let(y,H,rfl):=ag h;let(w,s,rfl,a,b):=r.cons_inv;subst a;cases v with
  |cons r1 R =>
   let(t,rfl):=r1;exact .cons i t<|nv H b R
def jv:∀{u:Γ Θ}{zs:Γ Int}{i:Nat},IntsAre u zs->i<u.length->∃t,u.getD i Value.none=.int (zs.getD i 0) t
 |_,_,i,.nil,h=>by simp at h
 |_,_,0,.cons n t r,h=>{t,rfl}
 |_,_,i+1,.cons n t r,h=>by
  let(T,e):=jv (i:=i) r (by simpa using h);exact{T,by simpa using e}
variable {fl te:Env->Δ D}{cs:Γ Nat}
def Bk.Y7(C:Bk X N sc (k+3))(B:iN X "sorted" (.builtin "sorted"))(L:CT X qual)(ok:jl sc scope N N' 1 cs=true)(hl:yu scope N' p=true)
  (J:∀(cl:Γ (Str×Ψ))(pm Xx u:Θ)(c:Ψ),bindArgs (W.kla_fn "<lambda>" qual params body scope cl pm (.ref c) Xx) {[u],[]}=pure [(p,u)])(aaU:defaultsOf params X.env=([],[]))(h:DE X l fl)
  (hY:∀A f c s H,Bk (pW X A qual scope N' f c s H) N' scope k->DE (pW X A qual scope N' f c s H) body te)
  (V2:starEach [l] X.env=(false,eval l X.env)::starEach [] X.env)(he:backTo pos (starEach [l] X.env)=(false,eval l X.env)::backTo pos (starEach [] X.env))(Vw:(backTo pos<|starEach [l] X.env).any (·.1)=false) :
  DF X (.Call (.Name "sorted" p0) [l] [{↑"key",.Lambda params body scope Xy,acr}] pos) (oY cs fl te):=by
 let(S,_):=C.comp ok;have XA:N'.Nodup:=by
  unfold jl at ok;simp?[zF,zJ]at ok;exact ok.2
 have T:=hl;simp?[yu,zF,xG,yQ,xC,zJ]at T;obtain⟨⟨⟨⟨hnc,hN0⟩,hp⟩,YI⟩,aaS⟩:=T;let(cc,P,X3,acs,hhd,ka):=L.ex;intro Y s σ H Q I ⟨HF,ρ,out,sm,eo,F,q⟩;let(ld,hld,F):=bs F;cases ld<;>try cases F
 rename_i ds;let(ks,M,F):=bs F;let(zs,hzs,F):=bs F;split at F<;>cases F;refine qX<|gE I B.gl B.mg B.bt ?_ (by decide) (by rfl);refine PyProof.Rows.callWith_kw (b9 (vq h Bx V2 pos Y s σ H _ I {HF,ρ,[.list ds],sm,eo,by simp[aa,af,hld],λvs H1 U g r1=>({U,g,r1}:∃U,bc HF H U H1/\au X.K U [.list ds] vs)}) λn s1 z=>?_) he Vw rfl rfl;let(vs,H1,I1,rv,U,g,r1):=z;let(v,vr,rfl,a1,b1):=r1.cons_inv;rw[b1.nil_inv]at rv;let(u,rfl,rx):=vals1 rv;let(la,ws,rfl,hq,rr):=a1;cases rx;refine wpAny_evalAll_cons<|zW ?_;refine IH I1 S acs X3 (W.codeHd_of_K I1.ok.mod.kin hhd) (g.fh _ _<|ka U<|eo.tb.mono g.ff) I1.ok.mod.bmd aaU λf c' pm Xx s2 H2 I2 O hfn aaT m fp2 _=>(zW<|vC<|zX<|wpAny_evalAll_nil ?_)
 have Ip:=I2.pinned (fp:=[f]) (λb J=>by rw[List.mem_singleton.mp J];exact fp2) (λb J=>by rw[List.mem_singleton.mp J];exact{_,O,λv z=>by cases z});have g2:bc U H1 U H2:={m,.refl _,g.fh.trans m,λ_ _=>.inl}
 let(UR,r,pl,hz):=Ip.list<|m.seq<|g.fh.seq hq;have hlen:UR.length=ds.length:=by rw[<-r.length,rr.length]
 have hkl:=uv M;have hR:=C.room.in1.in1;refine X4.sortedK (vs:=UR) Ip (by lia) (λ{Q'}hQ=>?_) (λn H'=>∃US E,bc U H2 US H'/\au X.K US (ks.take n.length) E/\aI E n) {U,[],.refl g2.fh,by rfl,.nil} (λn x hx pl' s3 H3 t ⟨Vx,E,a,rk,R⟩=>?_) λn H3 hu ⟨Vx,E,a,rk,R⟩=>?_
 .exact collect_list pl.isList (hQ _ λb o e=>((xN _ _<|jH<|zZ e).trans<|zV _ e)) (by rw[qT];lia)
 .have hi:n.length<UR.length:=(List.getElem?_eq_some_iff.mp hx).1;obtain⟨w,hw⟩:∃w,ws[n.length]?=↑w:={_,zK (by rw[r.length];exact hi)}
  let(x',Y3,rw'):=r.get hw;rw[hx]at Y3;cases Y3;let(d,hd,rd):=rr.get hw;let(kd,hkd,hki):=z8 M hd;refine xB (IK (Q:=λv Z=>∃y,bc Vx H3 y Z/\Rep X.K y kd v) t hR t.ok.frames S hnc hN0 hp XA YI aaS ((t.pin (f,_)<|yF _<|qJ _<|yF _<|eQ zE O).1) (a.hh _ _ aaT) (J _ _ _ _ _) rw' (hY _ _ _ _ _<|On C hR S.kind XA hl)
   {Vx,_,kd,a.fh,ID (eo.mono<|g.ff.trans a.ff)<|rd.mono a.ff,hkd,λv Z y g4 r4=>{y,g4,r4}}) (λu s4 ⟨v4,Z,I4,r4,y,g4,rp⟩=>{Z,I4,y,E++[v4],a.trans g4,?_,R.append<|.cons r4 .nil}) λ_ _ e=>e
  rw[zN,xD,List.take_add_one,hki];exact(rk.mono g4.ff).append<|au.cons rp .nil
 .rw[(kJ<|by lia)]at rk;have ia:=nv hzs rk R;refine{λi=>zs.getD i 0,oneType',λh2 s3 t=>{λQ' q'=>?_,λi j Cc hi hj q'=>?_},λs3 Dn c t fD e=>?_}
  .rw[PyProof.Rows.ksk_kind (by exact ia)<|by simpa [hu]using h2];exact zX q'
  .let(t1,e1):=jv ia (i:=i) (by lia);let(t2,e2):=jv ia (i:=j) (by lia);rw[W.kas_ask,e1,e2];exact W.kat_lt_int q'
  .have D:=fD.1;have I4:=Inv.acq (o:=.lst _) t fD {by rw[(j9 _ _ _).length_eq];exact hz,_,c,(rj (λi=>zs.getD i 0) r),e};have G:=(g.trans g2).trans a;exact{.ref Dn,_,I4.Vp,rfl,q Dn _ _ Vx (G.trans<|.own G.fh D) (G.hh.free D) (G.fh.free D) ar<|(sx (λi=>zs.getD i 0) rr).mono a.ff}
end
end Dl
namespace X4
open PySem PySem.W PySem.Calls PyProof.Rows L2
end X4
namespace Dl
open PySem L2 PySem.Spec PyProof.Rows
section
variable {cs:Γ Nat}
end
def QS:Γ D->Δ D
 |[.int a,.int b]=>↑(.int<|max a b)
 |_=>none
def Gr(hc:X.calm=true):fQ X (.builtin "max") (λxs H Q=>∃a b ,xs=[.int a,.int b]/\Q (.int<|max a b) H):=by
 intro p s d H xs U Q I r h;let(a,b,rfl,q):=h;cases r with
 |cons r1 r =>
  cases r with
  |cons R r =>
   cases r;let(t,rfl):=r1;let(u,rfl):=R;refine max_two_ints (I.ok.hd hc) λc T k=>{.int _,H,I.kept k,?_,q}
   by_cases h:b > a
   .rw[yM h,show max a b=b by lia];exact{_,rfl}
   .rw[yO h,show max a b=a by lia];exact{_,rfl}
def Np(hc:X.calm=true)(B:iN X "max" (.builtin "max"))(E:starEach (e::es) X.env=(false,eval e X.env)::starEach es X.env)(w:(backTo pos<|starEach es X.env).any (·.1)=false)(f:DA X (e::es) fs):DE X (.Call (.Name "max" p) (e::es) [] pos) (b8 QS fs):=
 iI (Gr hc) (by
  intro F H s S d Q sm r g q;unfold QS at g;split at g
  .cases g;let(v,r1,rfl,a,b):=r.cons_inv;let(i,R,rfl,A,c):=b.cons_inv;rw[c.nil_inv];simp?[Rep]at a A;exact{_,_,by rw[a,A],q _ H F (.refl sm)<|by simp[Rep]}
  .cases g) B f (by decide) (by decide) E w
structure Tr(h:Heap)(v:Value)(r:List Int):Prop where
 ex:∃ (a:Ψ) (o:Obj) (n:Nat) (p:Θ) (x y m:Int) (t:Tok),v=.ref a/\r=[x,y,m]/\h.get? a=↑o/\o.cls=.type "tuple"/\o.data=.seq #[p,.int m t] n/\p8 h p [x,y]
end Dl
namespace HT
open PySem PyProof.Rows
section
open PySem.SeqAt
open PySem.AutoSeq1 (wpAny_loadPart')
open PySem.MeetsSeq PySem.MeetsSeq2 PySem.MeetsSeq3
end
end HT
namespace Dl
open PySem L2 PySem.Spec PyProof.Rows
def jw:Γ D->Δ (Γ<|Γ Int)
 |[]=>↑[]
 |d::r=>(bj d).bind λn=>(jw r).map (n::·)
section
variable {fl te:Env->Δ D}{cs:Γ Nat}
end
end Dl
namespace HT
open PySem PyProof.Rows
section
open PySem.SeqAt
open PySem.AutoSeq1 (wpAny_loadPart')
open PySem.MeetsSeq PySem.MeetsSeq2 PySem.MeetsSeq3
end
end HT
namespace Dl
open PySem L2 PySem.Spec PyProof.Rows
structure UM(h:Heap)(v:Value)(r:List Int):Prop where
 ex:∃ (a:Ψ) (o:Obj) (n:Nat) (p:Θ) (x y:Int) (t u:Tok) (ns:Γ Int),v=.ref a/\r=x::y::ns/\h.get? a=↑o/\o.cls=.type "tuple"/\o.data=.seq #[.int x t,.int y u,p] n/\p8 h p ns
def EU(U:Γ Θ):slicePick U.toArray none none (↑(-1))=U.reverse.toArray:=by
 rw[<-FR U];unfold slicePick;have e:sliceBounds none none (↑(-1)) U.toArray.size=(((U.length:Nat):Int)-1,-1,-1):=rfl;rw[e];unfold sliceRange;have E:((if(-1:Int) > 0 then(if((U.length:Nat):Int)-1 < -1 then(-1-(((U.length:Nat):Int)-1)+-1-1) / -1 else 0)else(if((U.length:Nat):Int)-1 > -1 then(((U.length:Nat):Int)-1 - -1 - -1-1)/(- -1)else 0)):Int).toNat=U.length:=by
  rw[yO<|by decide];simp?[Int.neg_neg,Int.ediv_one];split<;>lia
 simp?[E];rw[List.filterMap_map]
 congr 1
 refine rQ λk _=>?_;show U.toArray[(((U.length:Nat):Int)-1+(-1)*(k:Int)).toNat]?=_;rw[Int.mul_comm]
def LQ(A:PE X a ta):PE X (.Subscript a (.Slice none none (↑(.UnaryOp .USub (.Constant (.int 1) j p4) U)) p2) pos) (λσ H Q=>ta σ H λx c=>∃b xs,x=.ref b/\ik X.K c b xs/\∀p,c p=none->Q (.ref p) (upd c p<|.lst xs.reverse)):=by
 intro P s σ H Q I h;refine Subscript_<|b9 (A P s σ H _ I h) λv B z=>?_;let(x,c,l,r1,b,xs,e,w,q):=z;subst e;cases r1;refine wpAny_Slice ?_;rw[evalPart_none];refine zX<|zX ?_;have n:=Dr (X:=X) (MD (op:=.USub) GT (IM (X:=X) (i:=1) (j:=j) (pos:=p4)) (pos:=U)) P B σ c (λo g=>o=↑(-1)/\g=c) l {1,rfl,-1,rfl,rfl,rfl};refine b9 n λD d z=>?_;let(o,k,m,T,E,u):=z;subst E u;cases T with
 |int _ C =>
 have f:Inv X P σ k {d with heap:=d.heap.push {cls:=.type "slice",data:=.fields #[.none,.none,.int (-1) C]}}:=m.kept (t':=d.toks) λb ob q=>zV _ q;let(S,r,t,Z):=f.list w;refine tail_any (ops:=[.ref b,.ref d.heap.objs.size]) t.isList.typeIs slot_list_getitem.lookup (wpAny_getItem_list_slice t.isList (Heap.IsSliceOf.new ..) .none .none (.int _ _) (by decide) ?_ (by rw[zH,<-r.length];exact Z)) (by with_unfolding_all rfl);rw[EU];have y:aI xs.reverse S.reverse:=L2.aI.reverse r;exact{.ref _,_,f.laid (t':=d.toks) (o:=.lst xs.reverse) (λb ob q=>zV _ q) (yN _) {by rw[List.length_reverse];exact Z,_,0,y,zY _ rfl},rfl,q _ f.fresh}
def Ms:D->Δ D|.list d=>↑(.list d.reverse)|_=>none
def J9(A:DE X a fa):DE X (.Subscript a (.Slice none none (↑(.UnaryOp .USub (.Constant (.int 1) j p4) p3)) p2) pos) (f1 Ms fa):=aE (LQ A) λm H Q z=>by
 let(F,i,d,sm,e,f,q):=z;let(x,c,f):=bs f;refine{F,i,x,sm,e,c,λl k U g r1=>?_};cases x<;>try cases f
 simp?[Rep]at r1;let(b,v,rfl,s,r):=r1;refine{b,v,rfl,g.fh.seq s,λp P=>q _ _ _ (g.trans<|.new g.fh P) ?_};simp?[Rep];exact{p,_,rfl,.inl<|.inl ar,r.reverse.mono<|cT<|g.fh.free P}
inductive SC{α:Type}(X:Cx)(R:Addr->α->Prop):List Expr->List α->List V->Prop
 |nil:SC X R [] [] []
 |cons {x:Str}{p:Pos}{m:α}{f:Ψ}{es:Γ γ}{ms:Γ α}{vs:Γ V}(hg:Gl X x) (hm:X.mg x=↑(.ref f)) (hd:(x==("__debug__":Str))=false) (r:R f m) (t:SC X R es ms vs):SC X R (.Name x p::es) (m::ms) (.ref f::vs)
end Dl
namespace Sx
open PySem
variable {mask:Nat}{P:Nat->Prop}
def VQ:∀{l m:Γ Nat},l.Nodup->(∀x∈l,x∈m)->l.length<=m.length
 |[],m,_,_=>xV _
 |x::l,m,n,s=>by
  rw[kR]at n;let(m1,m2,rfl):=List.append_of_mem<|s x zE;have:=VQ (m:=m1++m2) n.2 λy H=>by
   have:=s y<|zC _ H;rw[List.mem_append,zR]at this;rw[List.mem_append];rcases this with h|rfl|h
   .exact .inl h
   .exact absurd H n.1
   .exact .inr h
  simp?[zN,zL]at this ⊢;lia
def sm:Nat->Nat
 |0=>0
 |n+1=>5^n+sm n
def sm4:∀n,4*sm n+1=5^n
 |0=>rfl
 |n+1=>by have:=sm4 n;rw[sm,Nat.pow_succ];lia
def aa6(e:Nat):sm (2*e)=2*(sm e*(2*sm e+1)):=by
 have H:=sm4<|2*e;have a:=sm4 e;have b:5^(2*e)=(4*sm e+1)*(4*sm e+1):=by rw[Nat.two_mul,Nat.pow_add,a]
 rw[b]at H;have E:(4*sm e+1)*(4*sm e+1)=16*(sm e*sm e)+8*sm e+1:=by
  simp?[Nat.add_mul,Nat.mul_add,Nat.one_mul,Nat.mul_one];rw[show 4*sm e*(4*sm e)=16*(sm e*sm e)by rw[Nat.mul_mul_mul_comm]];lia
 have c:2*(sm e*(2*sm e+1))=4*(sm e*sm e)+2*sm e:=by
  rw[Nat.mul_add,Nat.mul_one,Nat.mul_left_comm];lia
 lia
def Y8:∀n,sm n%2=n%2
 |0=>rfl
 |n+1=>by
  have:=Y8 n;have h:=sm4 n;rw[sm];lia
def XJ(k a:Nat):Nat.Coprime (2^k) (2*a+1):=by
 refine Nat.Coprime.pow_left k ?_;rw[Nat.coprime_comm];have:Nat.gcd (2*a+1) 2=Nat.gcd 1 2:=by
  rw[Nat.gcd_comm,Nat.gcd_rec,show(2*a+1)%2=1 by lia]
 exact this.trans rfl
def Y9:∀(k d:Nat),2^k ∣ sm d->2^k ∣ d
 |0,d,_=>{d,by simp}
 |k+1,d,h=>by
  have o:=Y8 d;have s:sm d%2=0:=by
   let(c,hc):=h;rw[hc,Nat.pow_succ,Nat.mul_right_comm,Nat.mul_mod_left]
  obtain⟨e,rfl⟩:∃e,d=2*e:={d/2,by lia}
  rw[aa6,Nat.pow_succ,Nat.mul_comm<|2^k]at h;have H:=Nat.dvd_of_mul_dvd_mul_left (by decide) h;have a:=(XJ k<|sm e).dvd_of_dvd_mul_right H;rw[Nat.pow_succ,Nat.mul_comm];exact Nat.mul_dvd_mul_left 2<|Y9 k e a
def it(M:Nat):Nat->Nat->Nat
 |0,x=>x
 |n+1,x=>it M n<|(5*x+1)%M
def XM(M:Nat):∀n x,it M n x%M=(5^n*x+sm n)%M
 |0,x=>by simp[it,sm]
 |n+1,x=>by
  rw[it,XM M n,sm,Nat.pow_succ];rw[Nat.add_mod,Nat.mul_mod,Nat.mod_mod,<-Nat.mul_mod,<-Nat.add_mod]
  congr 1
  rw[Nat.mul_add,Nat.mul_one,Nat.mul_assoc];lia
def aav{M:Nat}(H:0<M):∀n x,x<M->it M n x<M
 |0,x,h=>h
 |n+1,x,h=>aav H n _<|Nat.mod_lt _ H
def acu{k:Nat}{x m d:Nat}(D:0<d)(L:d<2^k):it (2^k) m x%2^k≠it (2^k) (m+d) x%2^k:=by
 intro h;rw[XM,XM]at h;have a:=sm4 m;have b:=sm4 d;have c:=sm4<|m+d;have e:5^(m+d)=5^m*5^d:=Nat.pow_add ..;have f:5^(m+d)*x+sm (m+d)=(5^m*x+sm m)+5^m*(sm d*(2*(2*x)+1)):=by
  have g:5^(m+d)=5^m*(4*sm d)+5^m:=by rw[e,<-b,Nat.mul_add,Nat.mul_one]
  have G:sm (m+d)=5^m*sm d+sm m:=by
   rw[g]at c;have:5^m*(4*sm d)=4*(5^m*sm d):=Nat.mul_left_comm ..;lia
  rw[g,G,Nat.add_mul];have i:5^m*(4*sm d)*x=5^m*(sm d*(2*(2*x))):=by
   rw[Nat.mul_assoc]
   congr 1
   rw[Nat.mul_assoc,Nat.mul_left_comm]
   congr 1
   lia
  rw[i,Nat.mul_add,Nat.mul_add,Nat.mul_one];lia
 rw[f]at h;have H:2^k ∣ 5^m*(sm d*(2*(2*x)+1)):=by
  have:=(Nat.sub_mod_eq_zero_of_mod_eq h.symm)
  rw[Nat.add_sub_cancel_left]at this;exact Nat.dvd_of_mod_eq_zero this
 have j:Nat.Coprime (2^k) (5^m):=by rw[<-a];exact(show 4*sm m+1=2*(2*sm m)+1 by lia)▸XJ k _
 have l:=(XJ k<|2*x).dvd_of_dvd_mul_right<|j.dvd_of_dvd_mul_left H;have n:=Nat.le_of_dvd D<|Y9 k d l;lia
def aa7{k x j:Nat}(c:x<2^k)(J:j<2^k):∃n,n<2^k/\it (2^k) n x=j:=by
 have M:0<2^k:=Nat.two_pow_pos k;by_cases h:j∈(List.range<|2^k).map λn=>it (2^k) n x
 .let(n,N,e):=List.mem_map.mp h;exact{n,List.mem_range.mp N,e}
 .exfalso;have E:∀a b,a<b->b<2^k->it (2^k) a x≠it (2^k) b x:=λa b X B e=>by
   have:=acu (k:=k) (x:=x) (m:=a) (d:=b-a) (by lia) (by lia);rw[show a+(b-a)=b by lia,e]at this;exact this rfl
  have D:((List.range<|2^k).map λn=>it (2^k) n x).Nodup:=by
   rw[List.nodup_iff_pairwise_ne,jD];exact List.pairwise_lt_range.imp_of_mem λA B X=>E _ _ X<|List.mem_range.mp B
  have:=VQ (l:=j::(List.range<|2^k).map λn=>it (2^k) n x) (m:=List.range<|2^k) (List.nodup_cons.mpr {h,D}) λy H=>by
   rw[zT];rcases List.mem_cons.mp H with rfl|H
   .exact J
   .let(n,_,rfl):=List.mem_map.mp H;exact aav M n x c
  rw[zL,zD,zS]at this;lia
def run(mask:Nat):Nat->Nat×Nat->Nat×Nat
 |0,z=>z
 |n+1,z=>run mask n<|SetTable.leap mask z.1 z.2
def X9(mask:Nat):∀a b z,run mask (a+b) z=run mask b (run mask a z)
 |0,b,z=>by rw[jC];rfl
 |a+1,b,z=>by rw[show a+1+b=a+b+1 by lia];exact X9 mask a b _
def Xe(mask:Nat):∀n z,(run mask n z).2=z.2/32^n
 |0,z=>by simp[run]
 |n+1,z=>by rw[run,Xe mask n];show z.2/32/32^n=_;rw[Nat.div_div_eq_div_mul,Nat.pow_succ,Nat.mul_comm]
def Xf(mask:Nat):∀n i,run mask n (i,0)=(it (mask+1) n i,0)
 |0,i=>rfl
 |n+1,i=>by
  rw[run,it];have:SetTable.leap mask i 0=((5*i+1)%(mask+1),0):=by unfold SetTable.leap;simp[Nat.mul_comm]
  rw[this];exact Xf mask n _
def Za(mask:Nat):∀n z,0<n->(run mask n z).1<mask+1
 |1,z,_=>Nat.mod_lt _ (Nat.succ_pos _)
 |n+2,z,_=>Za mask (n+1) _<|Nat.succ_pos _
def reach{mask k j:Nat}(hk:mask+1=2^k){z:Nat×Nat}(p:z.2<2^64)(J:j<=mask):∃n,n<mask+14/\(run mask n z).1=j:=by
 have a:(run mask 13 z).2=0:=by
  rw[Xe];exact Nat.div_eq_of_lt<|wM p<|by decide
 have H:=Za mask 13 z (by decide);rw[hk]at H;let(n,N,e):=aa7 H (show j<2^k by lia);refine{13+n,by lia,?_};rw[X9,show run mask 13 z=((run mask 13 z).1,0)from Prod.ext rfl a,Xf,hk];exact e
open PySem SetTable
def Zb(mask i:Nat):i<=runEnd mask i/\runEnd mask i<=i+9:=by
 unfold runEnd;split<;>lia
def U7(t:SetTable):Nat->Probe->Probe
 |0,p=>p
 |n+1,p=>U7 t n<|t.advance p
def V6(t:SetTable):∀a b p,U7 t (a+b) p=U7 t b (U7 t a p)
 |0,b,p=>by rw[jC];rfl
 |a+1,b,p=>by rw[show a+1+b=a+b+1 by lia];exact V6 t a b _
def rs(t:SetTable)(z:Nat×Nat):Probe:={j:=z.1,more:=runEnd t.mask z.1-z.1,i:=z.1,perturb:=z.2,dummy:=none}
def V7(t:SetTable):∀(m:Nat)(p:Probe),p.more=m->p.dummy=none->U7 t (m+1) p=rs t (leap t.mask p.i p.perturb)
 |0,p,h,H=>by
  show t.advance p=_;unfold advance;rw[yO<|by lia];let(a,b,c,d,e):=p;cases H;rfl
 |m+1,p,h,H=>by
  show U7 t (m+1) (t.advance p)=_;have e:t.advance p={p with j:=p.j+1,more:=p.more-1}:=by
   unfold advance;rw[yM<|by lia]
  rw[e];exact V7 t m _ (by show p.more-1=m;lia) H
def Yb(t:SetTable):∀(r:Nat)(z:Nat×Nat),∃n,n<=10*r/\U7 t n (rs t z)=rs t (run t.mask r z)
 |0,z=>{0,yN _,rfl}
 |r+1,z=>by
  let(n,H,e):=Yb t r<|leap t.mask z.1 z.2;refine{(runEnd t.mask z.1-z.1)+1+n,?_,?_}
  .have:=Zb t.mask z.1;lia
  .rw[V6,V7 t (runEnd t.mask z.1-z.1) (rs t z) rfl rfl];exact e
def Zc{t:SetTable}(d:t.dummies=#[])(j:Nat):t.slot j≠.dummy:=by
 unfold slot has;dsimp only;split
 .exactλz=>by cases z
 .rw[d];split
  .rename_i q;simp at q
  .exactλz=>by cases z
def Yv{t:SetTable}(d:t.dummies=#[])(L:t.place.size<=t.mask):∃j,j<=t.mask/\t.slot j=.empty:=by
 by_cases h:∃j,j<=t.mask/\t.slot j=.empty
 .exact h
 .exfalso;have:=VQ (l:=List.range<|t.mask+1) (m:=t.place.toList) List.nodup_range λj H=>by
   have H:=List.mem_range.mp H;cases q:t.slot j with
   |empty=>exact absurd {j,by lia,q} h
   |dummy=>exact absurd q (Zc d _)
   |live i =>
    unfold slot at q;dsimp only at q;split at q
    .rename_i z;have z:=eq_of_beq z;let(I,e):=Array.getElem?_eq_some_iff.mp z;rw[<-e];exact Array.getElem_mem_toList I
    .split at q<;>cases q
  rw[zS,wC]at this;lia
def Yc(h:Int):bits h<2^64:=by
 unfold bits;have H:=kX h (show(0:Int)<2^64 by decide);have a:=vS h (show(2^64:Int)≠0 by decide);lia
def Yd{α:Type}{f g:Nat->Δ α}:∀(l:Γ Nat),(∀i∈l,g i=f i)->l.filterMap g=l.filterMap f
 |[],_=>rfl
 |a::l,h=>by
  have I:=Yd l λi H=>h i<|zC _ H;have e:=h a zE;cases q:f a with
  |none=>rw[List.filterMap_cons_none<|e.trans q,List.filterMap_cons_none q,I]
  |some v=>rw[List.filterMap_cons_some<|e.trans q,List.filterMap_cons_some q,I]
def Ye{α:Type}{f g:Nat->Δ α}{j:Nat}{v:α}(H:f j=none)(G:g j=↑v)(U:∀i,i≠j->g i=f i):∀(l:Γ Nat),l.Nodup->j∈l->(l.filterMap g).Perm (v::l.filterMap f)
 |a::l,n,J=>by
  rw[kR]at n;by_cases e:a=j
  .subst e;rw[List.filterMap_cons_some G,List.filterMap_cons_none H];refine .cons _<|.of_eq<|Yd l λi b=>U i λz=>n.1<|z▸b
  .have I:=Ye H G U l n.2<|(List.mem_cons.mp J).resolve_left<|jL e;cases q:f a with
   |none=>rw[List.filterMap_cons_none<|by rw[U a e,q],List.filterMap_cons_none q];exact I
   |some u=>rw[List.filterMap_cons_some<|by rw[U a e,q],List.filterMap_cons_some q];exact(I.cons u).trans<|.swap _ _ _
structure Lay(mask:Nat)(owner:Array (Option Nat))(k:Nat):Prop where
 size:owner.size=mask+1
 pm:((List.range<|mask+1).filterMap λj=>owner.getD j none).Perm (List.range k)
def Lay.init(mask:Nat):Lay mask (Array.replicate (mask+1) none) 0 where
 size:=Array.size_replicate
 pm:=by
  refine .of_eq<|List.filterMap_eq_nil_iff.mpr λj _=>?_;simp[Array.getD]
def Lay.room{owner:Array (Δ Nat)}{k:Nat}(L:Lay mask owner k)(h:k<=mask):∃j,j<=mask/\(owner.getD j<|↑0).isNone=true:=by
 by_cases e:∃j,j<=mask/\(owner.getD j<|↑0).isNone=true
 .exact e
 .exfalso;have:∀l:Γ Nat,(∀x∈l,x<=mask)->(l.filterMap λj=>owner.getD j none).length=l.length:=by
   intro l
   induction l with
   |nil=>intro _;rfl
   |cons a l i =>
    intro b;have A:=b a zE;have c:a<owner.size:=by rw[L.size];lia
    cases q:owner.getD a none with
    |none =>
     refine absurd {a,A,?_} e;have Q:owner.getD a (↑0)=none:=by
      simp?[Array.getD,c,dite_true]at q ⊢;exact q
     rw[Q];rfl
    |some v=>rw[List.filterMap_cons_some (f:=λj=>owner.getD j none) q,zL,zL,i λx H=>b x<|zC _ H]
  have d:=this (List.range<|mask+1) λx H=>by have:=List.mem_range.mp H;lia
  rw[L.pm.length_eq,zS,zS]at d;lia
def Lay.put{owner:Array (Δ Nat)}{k j:Nat}(L:Lay mask owner k)(J:(owner.getD j<|↑0).isNone=true):Lay mask (owner.setIfInBounds j<|↑k) (k+1):=by
 have H:j<owner.size:=by
  by_cases h:j<owner.size
  .exact h
  .simp[Array.getD,h]at J
 have a:owner.getD j none=none:=by
  simp?[Array.getD,H,dite_true]at J ⊢;simpa using J
 have g:(owner.setIfInBounds j<|↑k).getD j none=↑k:=by simp[Array.getD,H]
 have G:∀i,i≠j->(owner.setIfInBounds j<|↑k).getD i none=owner.getD i none:=λi I=>by
  by_cases h:i<owner.size
  .simp[Array.getD,h,Array.getElem_setIfInBounds,jL I]
  .simp[Array.getD,h]
 refine{by rw[Array.size_setIfInBounds];exact L.size,?_};refine(Ye a g G _ List.nodup_range<|List.mem_range.mpr (by rw[<-L.size];exact H)).trans<|(L.pm.cons k).trans ?_;rw[vP];exact List.perm_append_comm (l₁:=[k])
def XN{α:Type}(f:Nat->Δ α):∀l:Γ Nat,(l.filterMap λj=>(f j).map (j,·)).map (·.1)=l.filter λj=>(f j).isSome
 |[]=>rfl
 |a::l=>by
  cases q:f a with
  |none=>rw[List.filterMap_cons_none (by rw[q];rfl),List.filter_cons_of_neg (by rw[q];simp),XN f l]
  |some v=>rw[List.filterMap_cons_some (by rw[q];rfl),List.filter_cons_of_pos (by rw[q];rfl),zI,XN f l]
def XQ{α:Type}(f:Nat->Δ α):∀l:Γ Nat,(l.filterMap λj=>(f j).map (j,·)).map (·.2)=l.filterMap f
 |[]=>rfl
 |a::l=>by
  cases q:f a with
  |none=>rw[List.filterMap_cons_none (by rw[q];rfl),List.filterMap_cons_none q,XQ f l]
  |some v=>rw[List.filterMap_cons_some (by rw[q];rfl),List.filterMap_cons_some q,zI,XQ f l]
def Xg:∀(f s n:Nat),n<s*2^f->∃m,sizeAbove.go n f s=s*2^m/\n<s*2^m/\(sizeAbove.go n f s=s\/sizeAbove.go n f s<=2*n)
 |0,s,n,h=>{0,by simp[sizeAbove.go],by simpa using h,.inl rfl}
 |f+1,s,n,h=>by
  unfold sizeAbove.go;by_cases q:s<=n
  .rw[yM q];let(m,a,b,H):=Xg f (s*2) n (by rw[Nat.mul_assoc,Nat.mul_comm 2,<-Nat.pow_succ];exact h);refine{m+1,by rw[a,Nat.pow_succ,Nat.mul_comm<|2^m,Nat.mul_assoc],by rw[Nat.pow_succ,Nat.mul_comm<|2^m,<-Nat.mul_assoc];exact b,.inr ?_};rcases H with H|H
   .rw[H];lia
   .exact H
  .rw[yO q];exact{0,by simp,by simpa using q,.inl rfl}
def above{n:Nat}(h:n<2^60):∃k,sizeAbove n=2^k/\n<sizeAbove n/\(sizeAbove n=8\/sizeAbove n<=2*n):=by
 let(m,H,a,b):=Xg 64 8 n<|wM h (by decide);refine{m+3,?_,?_,b}
 .show sizeAbove.go n 64 8=_;rw[H,Nat.pow_add,Nat.mul_comm]
 .show n<sizeAbove.go n 64 8;rw[H];exact a
def wt(mask:Nat):SetTable:={mask,#[],#[],0,true,0,true}
def WA(t:SetTable):∀n p,U7 t n p=U7 (wt t.mask) n p
 |0,p=>rfl
 |n+1,p=>WA t n _
def Yg(t:SetTable):∀(k:Nat)(p:Probe),k<=p.more->U7 t k p={p with j:=p.j+k,more:=p.more-k}
 |0,p,_=>rfl
 |k+1,p,h=>by
  show U7 t k (t.advance p)=_;have e:t.advance p={p with j:=p.j+1,more:=p.more-1}:=by
   unfold advance;rw[yM<|by lia]
  rw[e,Yg t k _ (by show k<=p.more-1;lia)];simp?[Probe.mk.injEq,and_true];lia
def V8(t:SetTable):∀n p,(U7 t n p).dummy=p.dummy
 |0,p=>rfl
 |n+1,p=>(V8 t n _).trans (by unfold advance;split<;>rfl)
def wy(mask:Nat)(h:Int)(n:Nat):Nat:=(U7 (wt mask) n<|rs (wt mask) (bits h%(mask+1),bits h)).j
def Fo(mask:Nat)(P:Nat->Prop)(h:Int)(j:Nat):Prop:=∃n,n<10*turns mask/\wy mask h n=j/\∀m,m<n->P (wy mask h m)/\wy mask h m≠j
def Fo.imp{P Q:Nat->Prop}(f:Fo mask P h j)(z:∀x,P x->Q x):Fo mask Q h j:=let ⟨n,a,b,c⟩:=f;{n,a,b,λm H=>{z _ (c m H).1,(c m H).2}}
def aa8(mask:Nat)(p:Probe)(h:p.j+p.more<=mask):((wt mask).advance p).j+((wt mask).advance p).more<=mask:=by
 unfold advance;split
 .show p.j+1+(p.more-1)<=mask;lia
 .show (leap mask p.i p.perturb).1+(runEnd mask (leap mask p.i p.perturb).1-(leap mask p.i p.perturb).1)<=mask;have H:(leap mask p.i p.perturb).1<mask+1:=Nat.mod_lt _<|Nat.succ_pos _;unfold runEnd;split<;>lia
def Yh(mask:Nat):∀n p,p.j+p.more<=mask->(U7 (wt mask) n p).j+(U7 (wt mask) n p).more<=mask
 |0,p,h=>h
 |n+1,p,h=>Yh mask n _<|aa8 mask p h
def acv(mask:Nat)(h:Int)(n:Nat):wy mask h n<=mask:=by
 have H:bits h%(mask+1)<mask+1:=Nat.mod_lt _<|Nat.succ_pos _;have:=Yh mask n (rs (wt mask) (bits h%(mask+1),bits h)) (by
  show bits h%(mask+1)+(runEnd mask (bits h%(mask+1))-bits h%(mask+1))<=mask;unfold runEnd;split<;>lia)
 exact yE (jT _ _) this
def least:∀n,P n->∃m,m<=n/\P m/\∀k,k<m->¬P k:=λn=>by
 induction n using Nat.strongRecOn with
 |ind n i =>
  intro N;by_cases z:∃m,m<n/\P m
  .let(m,H,M):=z;let(k,a,b):=i m H M;exact{k,by lia,b}
  .exact{n,yN _,N,λk hk p=>z {k,hk,p}}
def Xh{mask:Nat}{owner:Array (Δ Nat)}:∀(f i p:Nat),(∃r,r<f/\(owner.getD (run mask r (i,p)).1<|↑0).isNone=true)->∃n,n<10*f/\layClean.free mask owner f i p=↑(U7 (wt mask) n<|rs (wt mask) (i,p)).j/\(owner.getD (U7 (wt mask) n<|rs (wt mask) (i,p)).j<|↑0).isNone=true/\∀m,m<n->¬(owner.getD (U7 (wt mask) m<|rs (wt mask) (i,p)).j<|↑0).isNone=true
 |0,i,p,⟨r,R,_⟩=>absurd R (vO r)
 |f+1,i,p,⟨r,R,e⟩=>by
  have Z:=Zb mask i;have w:∀k,k<=runEnd mask i-i->(U7 (wt mask) k<|rs (wt mask) (i,p)).j=i+k:=λk hk=>by rw[Yg _ k _ hk];rfl
  unfold layClean.free;cases q:(List.range<|runEnd mask i+1-i).find? λk=>(owner.getD (i+k)<|↑0).isNone with
  |some k =>
   let(Q,q2,d):=List.find?_range_eq_some.mp q;have hk:=List.mem_range.mp q2;refine{k,by lia,by rw[w k<|by lia],by rw[w k<|by lia];exact Q,λm H=>?_};rw[w m<|by lia];have:=d m H;intro z;rw[z]at this;cases this
  |none =>
   have o:∀k,k<=runEnd mask i-i->¬(owner.getD (i+k)<|↑0).isNone=true:=λk hk=>List.find?_eq_none.mp q k<|List.mem_range.mpr (by lia);cases r with
   |zero=>exact absurd e (o 0<|xV _)
   |succ r =>
    let(n,g,N,a,b):=Xh f _ _ {r,by lia,e};have lp:∀k,U7 (wt mask) (runEnd mask i-i+1+k) (rs (wt mask) (i,p))=U7 (wt mask) k (rs (wt mask)<|leap mask i p):=λk=>by
     rw[V6,V7 (wt mask) (runEnd mask i-i) (rs (wt mask) (i,p)) rfl rfl];rfl
    refine{runEnd mask i-i+1+n,by lia,?_,by rw[lp];exact a,λm H=>?_}
    .rw[lp];exact N
    .by_cases c:m<=runEnd mask i-i
     .rw[w m c];exact o m c
     .rw[show m=runEnd mask i-i+1+(m-(runEnd mask i-i+1))by lia,lp];exact b _ (by lia)
def Ow(owner:Array (Δ Nat))(j:Nat):Prop:=(owner.getD j none).isSome=true
structure aa9(mask:Nat)(hs:List Int)(owner:Array (Option Nat))(k:Nat):Prop where
 lay:Lay mask owner k
 fo:∀j i,owner.getD j none=↑i->Fo mask (Ow owner) (hs.getD i 0) j
def Xi{mask:Nat}(hk:∃k,mask+1=2^k)(a:Γ Int):∀(hs:Γ Int)(owner:Array (Δ Nat))(k:Nat),aa9 mask a owner k->(∀i,i<hs.length->a.getD (k+i) 0=hs.getD i 0)->k+hs.length<=mask+1->∃Z,(hs.foldl (init:=↑(owner,k)) λacc h=>do let (owner,k) <- acc;let j <- layClean.free mask owner (turns mask) (bits h%(mask+1))<|bits h;pure (owner.setIfInBounds j<|↑k,k+1))=↑(Z,k+hs.length)/\aa9 mask a Z (k+hs.length)
 |[],owner,k,L,_,_=>{owner,rfl,L}
 |h::hs,owner,k,L,A,t=>by
  rw[zL]at t;let(j,s,e):=L.lay.room (by lia);let(K,P):=hk;let(r,u,R):=reach P (z:=(bits h%(mask+1),bits h)) (Yc h) s;let(n,N,l,b,d):=Xh (mask:=mask) (owner:=owner) (turns mask) (bits h%(mask+1)) (bits h) {r,by unfold turns;lia,by rw[R];exact e};generalize Y:(U7 (wt mask) n<|rs (wt mask) (bits h%(mask+1),bits h)).j=J at *;have p:∀x,Ow owner x->Ow (owner.setIfInBounds J<|↑k) x:=λx H=>by
   unfold Ow at H ⊢;by_cases c:x<owner.size
   .by_cases c2:J=x
    .subst c2;simp[Array.getD,c]
    .simpa [Array.getD,c,Array.getElem_setIfInBounds,c2]using H
   .simp[Array.getD,c]at H
  have f:∀x,x<=mask->¬(owner.getD x<|↑0).isNone=true->Ow owner x:=λx H z=>by
   have c:x<owner.size:=by rw[L.lay.size];lia
   unfold Ow;rw[qD,jX c]at z ⊢;cases e:owner[x]with
   |none=>rw[e]at z;exact absurd rfl z
   |some v=>rfl
  have st:aa9 mask a (owner.setIfInBounds J<|↑k) (k+1):=⟨L.lay.put b,λx i H=>by
   by_cases c:x=J
   .subst c;have E:i=k:=by
     by_cases c:x<owner.size
     .have:↑k=↑i:=by simpa [Array.getD,c]using H
      cases this;rfl
     .simp[Array.getD,c]at H
    subst E;have g:a.getD i 0=h:=by have:=A 0 (by simp);simpa using this
    rw[g];exact⟨n,N,Y,λm M=>⟨p _<|f _ (acv mask h m)<|d m M,λz=>d m M (by
     have z:(U7 (wt mask) m<|rs (wt mask) (bits h%(mask+1),bits h)).j=x:=z;rw[z];exact b)⟩⟩
   .refine (L.fo x i ?_).imp p;by_cases c2:x<owner.size
    .simpa [Array.getD,c2,Array.getElem_setIfInBounds,jL c]using H
    .simp[Array.getD,c2]at H⟩
  let(O,o,q):=Xi ⟨K,P⟩ a hs (owner.setIfInBounds J<|↑k) (k+1) st (λi I=>by
   have:=A (i+1) (by rw[zL];lia)
   rwa [wA,show k+(i+1)=k+1+i by lia]at this)<|by lia
  refine{O,?_,?_}
  .rw[yJ,zL,show k+(hs.length+1)=k+1+hs.length by lia];have:(do let (owner,k) <- some (owner,k);let j <- layClean.free mask owner (turns mask) (bits h%(mask+1))<|bits h;pure (owner.setIfInBounds j<|↑k,k+1))=↑(owner.setIfInBounds J<|↑k,k+1):=by
    show(layClean.free mask owner (turns mask) (bits h%(mask+1))<|bits h).bind _=_;rw[l];rfl
   rw[this];exact o
  .rw[zL,show k+(hs.length+1)=k+1+hs.length by lia];exact q
def Z6{mask finger moves:Nat}{led plain:θ}{hs:Array Int}(hk:∃k,mask+1=2^k)(l:hs.size<=mask+1) :
  ∃pl od,laid mask finger moves led plain hs=↑({mask,pl,#[],finger,led,moves,plain},od)/\pl.size=hs.size/\pl.toList.Pairwise (· < ·)/\od.toList.Perm (List.range hs.size)/\∀i,i<pl.size->Fo mask (·∈pl.toList) (hs.toList.getD (od.toList.getD i 0) 0) (pl.toList.getD i 0):=by
 let(o,d,L):=Xi hk hs.toList hs.toList _ 0 ⟨Lay.init mask,λj i h=>by
  rw[qD,Array.getElem?_replicate]at h;split at h<;>cases h⟩ (λi _=>by rw[jC]) (by rw[wC];lia)
 have hc:layClean mask hs=↑o:=by
  unfold layClean;rw[<-Array.foldl_toList,d];rfl
 let(L,fo):=L;rw[jC,wC]at L;have E:=XN (λj=>o.getD j none)<|List.range<|mask+1;have a:=XQ (λj=>o.getD j none)<|List.range<|mask+1;have n:=jB List.length a;rw[zD,L.pm.length_eq,zS]at n;have m:∀x,Ow o x->x∈(((List.range<|mask+1).filterMap λj=>(o.getD j none).map (j,·)).map (·.1)):=λx H=>by
  rw[E,List.mem_filter,zT];refine{?_,H};unfold Ow at H;by_cases c:x<o.size
  .rw[<-L.size];exact c
  .simp[Array.getD,c]at H
 refine{(((List.range<|mask+1).filterMap λj=>(o.getD j none).map (j,·)).map (·.1)).toArray,(((List.range<|mask+1).filterMap λj=>(o.getD j none).map (j,·)).map (·.2)).toArray,?_,?_,?_,?_,λi I=>?_}
 .unfold laid;rw[hc];rfl
 .simpa using n
 .rw[List.toList_toArray,E];exact List.Pairwise.filter _ List.pairwise_lt_range
 .rw[List.toList_toArray,a];exact L.pm
 .rw[List.toList_toArray,List.toList_toArray];rw[zH,zD]at I;obtain⟨p,P⟩:∃p,((List.range (mask+1)).filterMap λj=>(o.getD j none).map (j,·))[i]?=↑p:={_,zK I}
  have M:=qB P;rw[List.mem_filterMap]at M;let(j,J,e):=M;let(k,b,rfl):=Option.map_eq_some_iff.mp e;simp?[zG,zO,P,zB,qG];have:=(fo j k b).imp m;simpa only[zG]using this
end Sx
namespace Se
open PySem PySem.W PySem.Calls PyProof.Rows
variable {Q:Δ Θ->Ξ->Prop}
def slot_next:Slot "set_iterator" "__next__" "set_iterator.__next__" :=
 .of (owner:="set_iterator") (n:="__next__") (by rw[typeLookup_type,builtinLookup_eq_fast];kernel_rfl) (by decide +kernel) (by decide +kernel) (by decide +kernel) (by first|exact .inl (by decide +kernel)|exact .inr (by decide +kernel)) (by rw[isSubtype_type];kernel_rfl)
def entry_next:entryFor table "set_iterator.__next__"=↑Builtin.«set_iterator.__next__»:=entryFor_of_tree (by kernel_rfl)
def args_next(a:Θ):argsOk "set_iterator.__next__" {[a],[]}:=by unfold argsOk;kernel_rfl
def XR:entryFor table "set.__iter__"=↑Builtin.«frozenset.__iter__»:=entryFor_alias (id':="frozenset.__iter__") (by kernel_rfl) rfl (by decide +kernel) (by kernel_rfl)
def V9:∀(l:Γ α)(i:Nat)(h:i<l.length),(l[i]::l.eraseIdx i).Perm l
 |a::l,0,_=>.refl _
 |a::l,i+1,h=>by
  rw[List.getElem_cons_succ,List.eraseIdx_cons_succ];exact(List.Perm.swap a _ _).trans<|(V9 l i<|by simpa using h).cons a
def WB{α:Type}(next:Nat->Nat):∀(n k:Nat)(left:Γ α)(o:Array α),left.length=n->(pickOrder.go next n k left o).toList.Perm (o.toList++left)
 |0,_,left,o,h=>by
  rw[List.length_eq_zero_iff.mp h,qF];exact .refl _
 |n+1,k,left,o,h=>by
  have l:next k%left.length<left.length:=Nat.mod_lt _<|by lia
  have e:left[next k%left.length]?=↑left[next k%left.length]:=by simp[l]
  rw[pickOrder.go,e];refine(WB next n (k+1) _ _ (by rw[List.length_eraseIdx,yM l];lia)).trans ?_;rw[Array.toList_push,List.append_assoc];refine List.Perm.append_left _ ?_;exact V9 left _ l
def Ze{α:Type}(next:Nat->Nat)(xs:Array α):(pickOrder next xs).toList.Perm xs.toList:=by
 unfold pickOrder;exact WB next xs.size 0 xs.toList #[] (by simp)
def VA(w:δ)(a:Ψ)(ep:Nat)(es:Array (Int×Θ)):Array (Int×Θ):=if w.params.followText "set-order"=true then pickOrder (w.params.setOrder a ep) es else es
def VR:(VA w a ep es).toList.Perm es.toList:=by
 unfold VA;split
 .exact Ze _ _
 .exact .refl _
def Vj:(VA w a ep es).size=es.size:=by rw[<-wC,VR.length_eq,wC]
structure U9(w:World)(h:Heap)(a:Addr)(es:Array (Int×Value))(ep:Nat)(t:SetTable):Prop where
 get:∃o,h.get? a=↑o/\o.ExactSet/\o.data=.set es ep t
 fits:t.fits es.size=true
 plain:t.plain=true
 led:t.led=!(w.params.followText "set-order")
 ris:∀i j,i<j->j<t.place.size->t.place.getD i 0<t.place.getD j 0
def Wa(h:ι)(I a:Ψ)(s i n ep:Nat):Prop:=∃o,h.get? I=↑o/\o.cls=.type "set_iterator"/\o.data=.fields #[.int s 0,.int i 0,.ref a,.int n 0,.int ep 0]
def Wb(xs:Array Nat)(j:Nat)(r:∀a b,a<b->b<xs.size->xs.getD a 0<xs.getD b 0)(k:Nat)(hk:k<=xs.size)(H:∀a,a<k->xs.getD a 0<j)(g:∀a,k<=a->a<xs.size->j<=xs.getD a 0):∀(f lo hi:Nat),lo<=k->k<=hi->hi<=xs.size->hi-lo<=f->SetTable.below.go xs j f lo hi=k
 |0,lo,hi,a,b,_,d=>by
  rw[SetTable.below.go];lia
 |f+1,lo,hi,a,b,c,d=>by
  rw[SetTable.below.go];split
  .rename_i v;have m:(lo+hi)/2<xs.size:=by lia
   have e:xs.getD ((lo+hi)/2) j=xs.getD ((lo+hi)/2) 0:=by simp[m]
   dsimp only;rw[e];by_cases x:xs.getD ((lo+hi)/2) 0<j
   .rw[yM x];refine Wb xs j r k hk H g f ((lo+hi)/2+1) hi ?_ b c (by lia);rcases Nat.lt_or_ge ((lo+hi)/2) k with z|z
    .lia
    .have:=g _ z m;lia
   .rw[yO x];refine Wb xs j r k hk H g f lo ((lo+hi)/2) a ?_ (by lia) (by lia);rcases Nat.lt_or_ge ((lo+hi)/2) k with z|z
    .exact absurd (H _ z) x
    .exact z
  .lia
def Wc{xs:Array Nat}{j k:Nat}(r:∀a b,a<b->b<xs.size->xs.getD a 0<xs.getD b 0)(hk:k<=xs.size)(H:∀a,a<k->xs.getD a 0<j)(c:∀a,k<=a->a<xs.size->j<=xs.getD a 0):SetTable.below xs j=k:=by
 unfold SetTable.below;exact Wb xs j r k hk H c _ _ _ (xV _) hk (yN _) (by lia)
def U0(w:δ)(t:SetTable)(i:Nat):Nat:=if w.params.followText "set-order"=true then 0 else if i=0 then 0 else t.place.getD (i-1) 0+1
def XU(S:U9 w h a es ep t)(b:w.params.followText "set-order"=false)(hi:i<=es.size):SetTable.below t.place (U0 w t i)=i:=by
 have f:=S.fits;simp?[SetTable.fits,zF,vI]at f;have s:t.place.size=es.size:=f.1;unfold U0;rw[yO (by rw[b];exact xA)];refine Wc S.ris (by lia) (λa H=>?_) λa H b=>?_
 .rw[yO<|by lia];rcases Nat.lt_or_ge a (i-1)with z|z
  .have:=S.ris a (i-1) z (by lia);lia
  .have:a=i-1:=by lia
   rw[this];lia
 .by_cases z:i=0
  .rw[yM z];exact xV _
  .rw[yO z];exact S.ris (i-1) a (by lia) b
def aeK(S:U9 w h a es ep t):t.place.size=es.size/\t.fill<=t.mask:=by
 have f:=S.fits;simp?[SetTable.fits,zF,vI,zJ]at f;exact f
def We{Q:Δ (Θ×Nat)->Ξ->Prop}(S:U9 w s.heap a es ep t)(hi:i<=es.size)(h:Q (((VA w a ep es)[i]?).map λe=>(e.2,U0 w t<|i+1)) s):wpAny (model prog w) A (setNext a (U0 w t i) i ep) Q E s:=by
 let(o,H,x,d):=S.get;let(k,F):=aeK S;unfold setNext;refine zW<|wpAny_setState_of H d S.fits ?_;dsimp only;refine zW (m:=setsByText) ?_;unfold setsByText;refine zW<|wpAny_askSetting<|zX ?_;show wpAny _ _ (if w.params.followText "set-order"=true then _ else _) _ _ _;cases b:w.params.followText "set-order"with
 |true =>
  rw[yM rfl];have j:(ep != ep)=false:=by simp
  simp?[j,yP,qN];refine zW ?_;unfold setWalk;refine zW<|wpAny_setState_of H d S.fits ?_;dsimp only;refine zW (m:=setsByText) ?_;unfold setsByText;refine zW<|wpAny_askSetting<|zX ?_;show wpAny _ _ (if w.params.followText "set-order"=true then _ else _) _ _ _;rw[yM b];refine zW<|wpAny_askSetting<|zX<|zX ?_;have c:VA w a ep es=pickOrder (w.params.setOrder a ep) es:=yM b;have f:U0 w t i=U0 w t (i+1):=by unfold U0;rw[yM b,yM b]
  rw[c]at h;rw[f];exact h
 |false =>
  rw[yO xA];have c:VA w a ep es=es:=yO (by rw[b];exact xA);rw[c]at h;have c1:(!t.plain&&decide (es.size > 1))=false:=by rw[S.plain];rfl
  show wpAny _ _ (if(!t.plain&&decide (es.size > 1))=true then _ else _) _ _ _;rw[yO (by rw[c1];exact xA)];have l:t.led=true:=by rw[S.led,b];rfl
  refine zW<|wpAny_of_eq (a:=()) ?_ ?_
  .show (if(!t.led&&!es.isEmpty)=true then _ else _)=_;rw[yO (by rw[l];exact xA)]
  .rw[XU S b hi];refine zX ?_;rcases Nat.lt_or_ge i es.size with z|z
   .have Z:i<t.place.size:=by lia
    have g:U0 w t (i+1)=t.place[i]+1:=by
     unfold U0;rw[yO (by rw[b];exact xA),yO<|by lia];simp[Z]
    rw[jX z,g]at h;rw[jX z,jX Z];exact h
   .rw[Array.getElem?_eq_none z]at h ⊢;exact h
def WC:Slot "set_iterator" "__iter__" "set_iterator.__iter__" :=
 .of (owner:="set_iterator") (n:="__iter__") (by rw[typeLookup_type,builtinLookup_eq_fast];kernel_rfl) (by decide +kernel) (by decide +kernel) (by decide +kernel) (by first|exact .inl (by decide +kernel)|exact .inr (by decide +kernel)) (by rw[isSubtype_type];kernel_rfl)
def Wv:entryFor table "set_iterator.__iter__"=↑Builtin.«dict_keyiterator.__iter__»:=entryFor_alias (id':="dict_keyiterator.__iter__") (by kernel_rfl) rfl (by decide +kernel) (by kernel_rfl)
def WM(a:Θ):argsOk "set_iterator.__iter__" {[a],[]}:=by unfold argsOk;kernel_rfl
def Wa.typeIs(x:Wa s.heap I a slot i n ep):Shared.TypeIs s (.ref I) "set_iterator":=let ⟨o,H,hc,_⟩:=x;{o,H,hc}
def next_item(S:U9 w s.heap a es ep t)(x:Wa s.heap I a (U0 w t i) i es.size ep)(X:(VA w a ep es)[i]?=↑e)
  (q:∀h',Wa h' I a (U0 w t<|i+1) (i+1) es.size ep->Heap.SameBut I s.heap h'->Q (↑e.2) {s with heap:=h'}):wpAny (model prog w) A (pyNext<|.ref I) Q E s:=by
 let(o,O,hc,d):=id x;let(j,T,f,Y):=S.get;have g:i<=es.size:=by
  rcases Nat.lt_or_ge i es.size with z|z
  .lia
  .rw[Array.getElem?_eq_none (by rw[Vj];exact z)]at X;cases X
 unfold pyNext;refine zW<|kO<|qC (name:=Str.ofString "__next__") x.typeIs slot_next<|qU slot_next x.typeIs entry_next ?_<|args_next _;unfold Builtin.«set_iterator.__next__»;refine zW<|zX ?_;refine zW<|wpAny_fieldsOf O d ?_;show wpAny _ _ (setEntries a >>= _) _ _ s;refine zW<|wpAny_setEntries_of T Y S.fits ?_;have c:(((es.size:Nat):Int) != ((es.size:Nat):Int))=false:=by simp
 simp?[c,yP,qN];show wpAny _ _ (setNext a (Int.toNat ((U0 w t i:Nat):Int)) (Int.toNat ((i:Nat):Int)) (Int.toNat ((ep:Nat):Int)) >>= _) _ _ s;rw[yH,yH,yH];refine zW<|We S g ?_;rw[X];show wpAny _ _ (setField (.ref I) 0 (rawInt ((U0 w t (i+1):Nat):Int)) >>= _) _ _ s;refine zW<|wpAny_setField O d (by simp) ?_;have H:=Obj.data_mapFields d (·.setIfInBounds 0 (rawInt ((U0 w t (i+1):Nat):Int)));have W:(s.heap.update I (Obj.mapFields (·.setIfInBounds 0 (rawInt ((U0 w t (i+1):Nat):Int))))).get? I=↑(Obj.mapFields (·.setIfInBounds 0 (rawInt ((U0 w t (i+1):Nat):Int))) o):=Heap.get?_update_self _ O<|Obj.isFreed_of_fields H;refine zW<|wpAny_setField W H (by simp) ?_;have b:=Obj.data_mapFields H (·.setIfInBounds 1 (rawInt<|((i:Nat):Int)+1));refine zX {_,rfl,zX<|q _ {_,Heap.get?_update_self _ W<|Obj.isFreed_of_fields b,?_,?_}<|(Heap.SameBut.update ..).trans<|Heap.SameBut.update ..}
 .exact ((Obj.cls_mapFields ..).trans<|Obj.cls_mapFields ..).trans hc
 .rw[b];simp[rawInt]
def next_end(e:A.handled=none)(S:U9 w s.heap a es ep t)(x:Wa s.heap I a (U0 w t es.size) es.size es.size ep)
  (q:∀h',Heap.ExtBut I s.heap h'->Q none {s with heap:=h'}):wpAny (model prog w) A (pyNext<|.ref I) Q E s:=by
 let(o,H,hc,d):=id x;let(O,y,X,Y):=S.get;unfold pyNext;refine zW<|kO<|qC (name:=Str.ofString "__next__") x.typeIs slot_next<|qU slot_next x.typeIs entry_next ?_<|args_next _;unfold Builtin.«set_iterator.__next__»;refine zW<|zX ?_;refine zW<|wpAny_fieldsOf H d ?_;show wpAny _ _ (setEntries a >>= _) _ _ s;refine zW<|wpAny_setEntries_of y Y S.fits ?_;have c:(((es.size:Nat):Int) != ((es.size:Nat):Int))=false:=by simp
 simp?[c,yP,qN];show wpAny _ _ (setNext a (Int.toNat ((U0 w t es.size:Nat):Int)) (Int.toNat ((es.size:Nat):Int)) (Int.toNat ((ep:Nat):Int)) >>= _) _ _ s;rw[yH,yH,yH];refine zW<|We S (yN _) ?_;rw[Array.getElem?_eq_none (by rw[Vj];exact yN _)];show wpAny _ _ (setField (.ref I) 2 .none >>= _) _ _ s;refine zW<|wpAny_setField H d (by simp) ?_;show wpAny _ _ (newExc (.type "StopIteration") [] >>= _) _ _ _;refine zW ?_;simp?[newExc,newTuple];refine zW<|qL ?_ (by size_fits);refine zW (m:=firstArgMember _ _)<|wpAny_of_eq (a:=Value.none) (by first|rfl|(simp?[firstArgMember];rfl)) ?_;refine qL ?_ (by size_fits);simp?[raiseNew];refine zW<|wpAny_handled ?_;rw[show A.in1.handled=none from e];refine zW<|zX<|wpAny_throw ?_;refine zW<|wpAny_isInstance (T:="StopIteration") (b:=true) {_,zY _ rfl,rfl} isSubtype_stop ?_;exact zX<|q _<|((Heap.SameBut.update ..).extBut.push _).push _
def U9.at(S:U9 w h a es ep t)(e:∀o,h.get? a=↑o->h'.get? a=↑o):U9 w h' a es ep t:={let ⟨o,H,r⟩:=S.get;{o,e _ H,r},S.fits,S.plain,S.led,S.ris}
def Wa.at(x:Wa h I a slot i n ep)(e:∀o,h.get? I=↑o->h'.get? I=↑o):Wa h' I a slot i n ep:=let ⟨o,H,r⟩:=x;{o,e _ H,r}
def XW{Q:Θ->Ξ->Prop}(S:U9 w s.heap a es ep t)
  (q:Q (.ref s.heap.objs.size) {s with heap:=s.heap.push {cls:=.type "set_iterator",data:=.fields #[.int 0 0,.int 0 0,.ref a,.int es.size 0,.int ep 0]}}):wpAny (model prog w) A (pyIter<|.ref a) Q E s:=by
 let(o,H,x,d):=S.get;have T:Shared.TypeIs s (.ref a) "set":={o,H,x.1}
 refine wpAny_pyIter_slot T PySem.F.slot_set_iter<|qU PySem.F.slot_set_iter T XR ?_<|PySem.F.args_set_iter_1 _;unfold Builtin.«frozenset.__iter__»;refine zW<|wpAny_of_eq (a:=a) (by rfl) ?_;refine zW ?_;unfold Builtin.Frozenset.sizeOf;refine zW<|wpAny_setEntries_of H d S.fits<|zX ?_;refine zW ?_;unfold setDrawn;refine zW<|wpAny_setState_of H d S.fits ?_;dsimp only;refine zW (m:=setsByText) ?_;unfold setsByText;refine zW<|wpAny_askSetting<|zX<|zX ?_;have c1:(!(w.params.followText "set-order")&&(!t.plain&&decide (es.size > 1)))=false:=by rw[S.plain];simp
 show wpAny _ _ (if(!(w.params.followText "set-order")&&(!t.plain&&decide (es.size > 1)))=true then _ else _) _ _ _;rw[yO (by rw[c1];exact xA)];refine zW<|zX ?_;refine zW<|wpAny_setEpoch_of H d S.fits ?_;refine zW<|qL<|zX {_,rfl,"set_iterator",_,{_,zY _ rfl,rfl},slot_next.lookup,?_};exact q
def Yw{Q:Θ->Ξ->Prop}(x:Wa s.heap I a slot i n ep)(H:Q (.ref I) s):wpAny (model prog w) A (pyIter<|.ref I) Q E s:=by
 refine wpAny_pyIter_slot x.typeIs WC<|qU WC x.typeIs Wv ?_<|WM _;show wpAny _ _ (ret<|.ref I) _ _ s;exact zX {_,rfl,"set_iterator",_,x.typeIs,slot_next.lookup,H}
def walks(g:A.handled=none)(I a:Ψ)(U:a≠I):Walks prog w A I [I,a] [I] es.size (λi v=>∃e,(VA w a ep es)[i]?=↑e/\e.2=v) (λi h=>Wa h I a (U0 w t i) i es.size ep/\U9 w h a es ep t) where
 sub:=λb H=>by simp at H;simp[H]
 frame:=λ_ _ _ st hk=>{st.1.at λo e=>hk I (by simp) o e,st.2.at λo e=>hk a (by simp) o e}
 item:=λi s Q E d st q=>by
  obtain⟨e,x⟩:∃e,(VA w a ep es)[i]?=↑e:={(VA w a ep es)[i]'(by rw[Vj];exact d),by simp[Vj,d]}
  refine next_item st.2 st.1 x λc T S=>?_;exact q e.2 c s.toks {e,x,rfl} {T,st.2.at λo z=>S.extBut a o U z} λb o H z=>S.extBut b o (λh=>H<|by simp[h]) z
 done:=λs Q E st q=>next_end g st.2 st.1 λc f=>q c s.toks λb o H z=>f b o (λh=>H<|by simp[h]) z
 self:=λi s Q E st q=>Yw st.1 q
def Zf{Q:θ->Ξ->Prop}(H:s.TypeIs (.ref r) "set")(h:Q false s):wpAny (model prog w) A (Builtin.List.listLengthHint<|.ref r) Q E s:=by
 unfold Builtin.List.listLengthHint;refine zW<|wpAny_specialOf H PySem.F.slot_set_len.lookup ?_;generalize d:("set.__len__":String)=i
 wp_delta
 rw[show splitId i=↑("set","__len__")from by subst d;decide +kernel];subst d;refine zW<|wpAny_isInstance (T:="set") (b:=true) H (by rw[isSubtype_type];kernel_rfl) ?_;refine wpAny_ite_split (λX=>absurd X<|by decide) λ_=>?_;refine wpAny_ite_split (λ_=>?_) λX=>absurd (by decide +kernel) X;refine zW<|wJ H ?_;exact zX h
def src(hs:es.size<=sizeLine):KdlSrc prog w "set" a a es.size (λi v=>∃e,(VA w a ep es)[i]?=↑e/\e.2=v) (λh=>U9 w h a es ep t) where
 type:=λs S=>let ⟨o,H,x,_⟩:=S.get;{o,H,x.1}
 there:=λh S=>let ⟨o,H,_⟩:=S.get;{zZ H,zZ H}
 keep:=λh c S k=>S.at λo e=>k a (.inl rfl) o e
 notList:=by decide
 notTuple:=by decide
 hint:=λA E s Q S h=>Zf (let ⟨o,H,x,_⟩:=S.get;{o,H,x.1}) h
 iter:=λA s b S=>by
  have U:a≠s.heap.objs.size:=let ⟨o,H,_⟩:=S.get;yS<|zZ H;refine{_,λi h=>Wa h s.heap.objs.size a (U0 w t i) i es.size ep/\U9 w h a es ep t,λE Q q=>XW S q,walks b _ a U,{_,zY _ rfl,rfl,?_},S.at λo e=>zV _ e};have:U0 w t 0=0:=by unfold U0;split<;>simp
  rw[this];rfl
def WN{R:Result->Ξ->Prop}(d:A.handled=none)(S:U9 w s.heap a es ep t)(hs:es.size<=sizeLine)
  (h:∀(h':ι)(k:Nat)(acc:Array Θ)(c:Nat),(∀b o,s.heap.get? b=↑o->h'.get? b=↑o)->h'.get? s.heap.objs.size=some {cls:=.type "list",dict:=none,data:=.seq acc c,slots:=#[]}->ItemsOf (λi v=>∃e,(VA w a ep es)[i]?=↑e/\e.2=v) acc es.size->R (.ok<|.ret<|.ref s.heap.objs.size) {s with heap:=h',toks:=k}):codeAny (model prog w) A (.builtin "proto.collect" {[.ref a],[]}) R s:=by
 let(o,O,x,D):=S.get;have C:=zZ O;refine kE entry_proto_collect' ?_;show wpAny _ _ (do again (.builtin "list.__iadd__" {[<-newList [],.ref a],[]})) _ _ s;refine zW<|kN<|zX {wI _<|by decide +kernel,kE entry_list_iadd' ?_};show wpAny _ _ (Builtin.List.listExtendWith (.ref s.heap.objs.size) (.ref a)<|.ref s.heap.objs.size) _ _ {s with heap:=s.heap.push (seqObj "list" #[] 0)};rw[Around.under_plainId PySem.F.plain_list_iadd _];exact kdl_extend (A:=A) (R:=R) (s:={s with heap:=s.heap.push (seqObj "list" #[] 0)}) (src hs) d (S.at λo e=>zV _ e) s.heap.objs.size (jH C) (jH C) _ 0 (zY _ rfl) (λh' k acc c hk H Z=>h h' k acc c (λb f E=>hk b f (yS<|zZ E)<|zV _ E) H Z) hs
def Xj{Q:Γ Θ->Ξ->Prop}(f:A.handled=none)(S:U9 w s.heap a es ep t)(hs:es.size<=sizeLine)
  (h:∀(h':ι)(k:Nat),(∀b o,s.heap.get? b=↑o->h'.get? b=↑o)->s.heap.objs.size<=h'.objs.size->Q ((VA w a ep es).toList.map (·.2)) {s with heap:=h',toks:=k}):wpAny (model prog w) A (collect<|.ref a) Q E s:=by
 unfold collect;refine zW<|wpAny_runValue<|WN f S hs λh' k C c hk H Z=>?_;refine zW<|wpAny_load H ?_;show wpAny _ _ (pure C.toList) Q E _;have e:C.toList=(VA w a ep es).toList.map (·.2):=by
  refine List.ext_getElem? λi=>?_;rcases Nat.lt_or_ge i es.size with z|z
  .have z1:i<C.size:=by rw[Z.1];exact z
   let(e,d,v):=Z.2 i C[i] (by simp[z1]);rw[zO,Array.getElem?_toList,Array.getElem?_toList,d,jX z1,<-v];rfl
  .rw[zO,Array.getElem?_toList,Array.getElem?_toList,Array.getElem?_eq_none (by rw[Z.1];exact z),Array.getElem?_eq_none (by rw[Vj];exact z)];rfl
 rw[e];exact zX<|h h' k hk<|jR<|zZ H
end Se
namespace Sx
open PySem SetTable
variable {Q:θ->Ξ->Prop}{d:Ψ}
structure Tk(w:World)(t:SetTable)(n:Nat):Prop where
 sz:t.place.size=n
 dm:t.dummies=#[]
 pw:∃k,t.mask+1=2^k
 rm:n*5<t.mask*3
 pl:t.plain=true
 ld:t.led=!(w.params.followText "set-order")
 up:t.place.toList.Pairwise (· < ·)
def fits_of{t:SetTable}{n:Nat}(H:t.place.size=n)(a:t.dummies=#[])(b:n<=t.mask):t.fits n=true:=by
 unfold fits fill;rw[H,a];simp[b]
def Tk.fits(T:Tk w t n):t.fits n=true:=fits_of T.sz T.dm (by have:=T.rm;lia)
def WO{xs:Array Nat}(h:xs.toList.Pairwise (· < ·)):∀i j,i<j->j<xs.size->xs.getD i 0<xs.getD j 0:=λi j U H=>by
 rw[List.pairwise_iff_getElem]at h;have:=h i j (by rw[wC];lia) (by rw[wC];lia) U;simp[show i<xs.size by lia,H];simpa using this
def VM{α:Type}(xs:Array α)(p:Nat)(x:α):(insertAt xs p x).toList=xs.toList.take p++x::xs.toList.drop p:=by
 unfold insertAt;rw[Array.toList_append,Array.toList_push,Array.toList_extract,Array.toList_extract];simp[List.extract];exact kJ (by simp)
def Wf{α:Type}(xs:Array α)(p:Nat)(x:α):(insertAt xs p x).toList.Perm (x::xs.toList):=by
 rw[VM];refine List.perm_middle.trans ?_;rw[List.take_append_drop]
def Xl{α:Type}(xs:Array α)(p:Nat)(x:α):(insertAt xs p x).size=xs.size+1:=by
 rw[<-wC,(Wf xs p x).length_eq,zL,wC]
def aba{t:SetTable}{j:Nat}(h:t.place.toList.Pairwise (· < ·))(D:t.dummies=#[])(E:t.slot j=.empty):(insertAt t.place (below t.place j) j).toList.Pairwise (· < ·):=by
 have rs:=WO h;have gd:∀a(H:a<t.place.size),t.place.getD a 0=t.place.toList[a]'(by simpa using H):=λa H=>by simp[H]
 have l:∃k,k<=t.place.size/\(∀a,a<k->t.place.getD a 0<j)/\∀a,k<=a->a<t.place.size->j<=t.place.getD a 0:=by
  have:∀n,n<=t.place.size->∃k,k<=n/\(∀a,a<k->t.place.getD a 0<j)/\∀a,k<=a->a<n->j<=t.place.getD a 0:=by
   intro n
   induction n with
   |zero=>exactλ_=>{0,yN _,λa h=>absurd h<|vO _,λa _ h=>absurd h<|vO _}
   |succ n I =>
    intro o;let(k,i,d,K):=I (by lia);by_cases c:k=n/\t.place.getD n 0<j
    .refine{n+1,yN _,λa H=>?_,λa f b=>by lia};by_cases e:a=n
     .rw[e];exact c.2
     .exact d a<|by lia
    .refine{k,by lia,d,λa f b=>?_};by_cases e:a=n
     .subst e;by_cases q:k=a
      .lia
      .have A:=K k (yN _) (by lia);have m:=rs k a (by lia) (by lia);lia
     .exact K a f<|by lia
  exact this _<|yN _
 let(k,i,d,K):=l;have B:=Se.Wc rs i d K;have N:k<t.place.size->t.place.getD k 0≠j:=λhk e=>by
  unfold slot at E;dsimp only at E;rw[B,yM (by rw[vI,Array.getElem?_eq_some_iff];exact{hk,by rw[<-e];simp[hk]})]at E;cases E
 have G:∀a,k<=a->a<t.place.size->j<t.place.getD a 0:=λa f b=>by
  by_cases e:a=k
  .subst e;have:=K a f b;have:=N b;lia
  .have:=rs k a (by lia) b;have:=K k (yN _) (by lia);lia
 rw[B,VM];have g:=h;rw[<-List.take_append_drop k t.place.toList]at g;have s:=List.pairwise_append.mp g;have m1:∀x∈t.place.toList.take k,x<j:=λx X=>by
  let(a,H,rfl):=List.mem_iff_getElem.mp X;rw[jU,wC]at H;have:=d a (by lia);rw[gd a<|by lia]at this;simpa using this
 have m2:∀x∈t.place.toList.drop k,j<x:=λx X=>by
  let(a,H,rfl):=List.mem_iff_getElem.mp X;rw[qH,wC]at H;have:=G (k+a) (by lia) (by lia);rw[gd _<|by lia]at this;simpa using this
 refine List.pairwise_append.mpr {s.1,List.pairwise_cons.mpr {m2,s.2.1},λx X y Y=>?_};rcases List.mem_cons.mp Y with rfl|Y
 .exact m1 x X
 .exact wM (m1 x X)<|m2 y Y
section
variable {prog:ε}{w:δ}{A:ξ}{E:Θ->Ξ->Prop}{s:Ξ}
def stored{h:ι}{a:Ψ}{o:Obj}{es:Array (Int×Θ)}{ep:Nat}{t:SetTable}(H:h.get? a=↑o)(d:o.data=.set es ep t){es':Array (Int×Θ)}{t':SetTable} :
  (h.update a<|Obj.putSet es' t').get? a=some {o with data:=.set es' (ep+1) t'}:=by
 have:=Heap.get?_update_self (Obj.putSet es' t') H (by rw[putSet_of es' t' d];rfl);rw[putSet_of es' t' d]at this;exact this
def byValue{K:Type}[DecidableEq K]{knd:KeyKind prog w K}{c:Γ K}{b:Ψ}(hk:IsTupleKey knd s.heap c b)(hi:∀(k:K)(v:Θ),knd.is k v=true->∀n,hashByValue n v=pure true)(q:Q true s):wpAny (model prog w) A (hashByValue 8<|.ref b) Q E s:=by
 have T:=hk.typeIs;let(o,items,n,O,_,D,H):=hk;unfold hashByValue;refine zW<|wpAny_specialOf T F.slot_tuple_hash.lookup ?_;show wpAny _ _ (seqItems? (.ref b) >>= _) _ _ s;refine zW<|kG O D ?_;refine zW ?_;show wpAny _ _ (forIn items _ _) _ _ s;rw[<-Array.forIn_toList];refine wpAny_forIn_list _ (λt r a=>r.1=none/\a=s/\∃S,ItemsAre knd S t) _ ?_ ?_ _ _ {rfl,rfl,c,H}
 .rintro v t r a ⟨R,rfl,S,d⟩;cases d with
  |cons e f =>
   rw[hi _ _ e];refine zW<|zX ?_;simp?[xY,yP,qN];exact zX {rfl,rfl,_,f}
 .rintro⟨r1,g⟩ a ⟨R,rfl,_⟩;simp only at R;subst R;exact zX q
end
def Yi{t:SetTable}(up:t.place.toList.Pairwise (· < ·))(h:t.place.toList[i]?=↑j):t.slot j=.live i:=by
 have rs:=WO up;let(I,e):=List.getElem?_eq_some_iff.mp h;have W:i<t.place.size:=by simpa using I
 have gd:t.place.getD i 0=j:=by simpa [W]using e
 have b:below t.place j=i:=Se.Wc rs (by lia) (λa H=>by have:=rs a i H W;lia) (λa H b=>by
  by_cases c:a=i
  .subst c;lia
  .have:=rs i a (by lia) b;lia)
 unfold slot;dsimp only;rw[b,yM];rw[vI,<-Array.getElem?_toList];exact h
def Yj{t:SetTable}(dm:t.dummies=#[])(h:j∉t.place.toList):t.slot j=.empty:=by
 unfold slot;dsimp only;rw[yO,yO]
 .rw[dm];exactλz=>by cases z
 .intro z;rw[vI,<-Array.getElem?_toList]at z;exact h<|qB z
def slot_mem{t:SetTable}(up:t.place.toList.Pairwise (· < ·))(h:j∈t.place.toList):∃i,t.place.toList[i]?=↑j/\t.slot j=.live i:=by
 let(i,H):=List.getElem?_of_mem h;exact{i,H,Yi up H}
def Zh{t:SetTable}{f:Nat->Int}{h:Int}:∀(n l:Nat)(p:Probe),n<l->(∀m,m<n->∃i,t.slot (U7 t m p).j=.live i/\f i≠h)->∃k,probe.go t f h l p=probe.go t f h (k+1) (U7 t n p)
 |0,l,p,F,_=>{l-1,by rw[show l-1+1=l by lia];rfl}
 |n+1,0,p,F,_=>absurd F (vO _)
 |n+1,l+1,p,F,M=>by
  let(i,H,a):=M 0<|Nat.succ_pos _;let(k,e):=Zh n l (t.advance p) (by lia) λm W=>M (m+1) (by lia);refine{k,Eq.trans ?_ e};have H:t.slot p.j=.live i:=H;rw[probe.go,H];dsimp only;rw[yO<|by simpa using a]
structure Tf(w:World)(t:SetTable)(es:Array (Int×Value)):Prop where
 tk:Tk w t es.size
 nd:(es.toList.map (·.1)).Nodup
 fo:∀(i:Nat)(h:Int)(j:Nat),(es.toList.map (·.1))[i]?=↑h->t.place.toList[i]?=↑j->Fo t.mask (·∈t.place.toList) h j
def U2(w:δ)(h:ι)(a:Ψ)(l:Γ (Int×Θ)):Prop:=∃o e p t,h.get? a=↑o/\o.ExactSet/\o.data=.set e p t/\e.toList.Perm l/\Tf w t e
def U2.at(x:U2 w h a l)(e:∀o,h.get? a=↑o->h'.get? a=↑o):U2 w h' a l:=by
 let(o,s,p,t,H,b):=x;exact{o,s,p,t,e o H,b}
def U2.perm(x:U2 w h a l)(p:l.Perm m):U2 w h a m:=by
 let(o,s,e,t,H,b,c,d,T):=x;exact{o,s,e,t,H,b,c,d.trans p,T}
def Vq(t:SetTable)(h:Int)(n:Nat):(U7 t n<|t.probeStart h).j=wy t.mask h n:=by
 rw[WA];rfl
def Wg(es:Array (Int×Θ))(i:Nat):(es[i]?.map (·.1)).getD 0=((es.toList.map (·.1))[i]?).getD 0:=by
 rw[zO,Array.getElem?_toList]
def Tf.acw{w:δ}{t:SetTable}{es:Array (Int×Θ)}(T:Tf w t es)(hi:(es.toList.map (·.1))[i]?=↑h):∃j x,t.probe (λi=>(es[i]?.map (·.1)).getD 0) h (t.probeStart h)=↑(.candidate j i x):=by
 have l:i<t.place.toList.length:=by
  have:=(List.getElem?_eq_some_iff.mp hi).1;rw[zD,wC]at this;rw[wC,T.tk.sz];exact this
 have J:=zK l;let(n,N,d,g):=T.fo i h _ hi J;let(k,e):=Zh (t:=t) (f:=λi=>(es[i]?.map (·.1)).getD 0) (h:=h) n (10*turns t.mask) (t.probeStart h) N λm M=>by
  let(a,b):=g m M;rw[Vq];let(I,q,q2):=slot_mem T.tk.up a;refine{I,q2,λz=>?_};rw[Wg]at z;have:I<(es.toList.map (·.1)).length:=by
   have:=(List.getElem?_eq_some_iff.mp q).1;rw[wC,T.tk.sz]at this
   rwa [zD,wC]
  rw[zK this]at z;let(c,H):=List.getElem?_eq_some_iff.mp hi;have e:I=i:=(List.getElem_inj T.nd).mp (show _=_ from z.trans H.symm);subst e;exact b<|xE<|q.symm.trans J
 refine{(U7 t n<|t.probeStart h).j,t.advance<|U7 t n<|t.probeStart h,e.trans ?_};have:t.slot (U7 t n<|t.probeStart h).j=.live i:=by
  rw[Vq,d];exact Yi T.tk.up J
 rw[probe.go,this];dsimp only;rw[yM];rw[vI,Wg,hi];rfl
def Tf.ends{w:δ}{t:SetTable}{es:Array (Int×Θ)}(T:Tf w t es)(p:h∉es.toList.map (·.1)):∃j,t.probe (λi=>(es[i]?.map (·.1)).getD 0) h (t.probeStart h)=↑(.empty j none)/\j∉t.place.toList/\Fo t.mask (·∈t.place.toList) h j:=by
 let(K,hk):=T.tk.pw;have M:=T.tk.rm;let(J,a,g):=Yv T.tk.dm (by rw[T.tk.sz];lia);let(r,v,R):=reach hk (z:=(bits h%(t.mask+1),bits h)) (Yc h) a;let(b,s,en):=Yb t r (bits h%(t.mask+1),bits h);have l:t.slot (wy t.mask h b)=.empty:=by
  rw[<-Vq];show t.slot (U7 t b<|rs t (bits h%(t.mask+1),bits h)).j=_;rw[en];show t.slot (run t.mask r (bits h%(t.mask+1),bits h)).1=_;rw[R];exact g
 let(n,u,E,L):=least (P:=λn=>t.slot (wy t.mask h n)=.empty) b l;have d:n<10*turns t.mask:=by unfold turns;lia
 have N:∀m,m<n->wy t.mask h m∈t.place.toList:=λm H=>by
  by_cases c:wy t.mask h m∈t.place.toList
  .exact c
  .exact absurd (Yj T.tk.dm c)<|L m H
 have o:wy t.mask h n∉t.place.toList:=λz=>by
  let(i,_,q):=slot_mem T.tk.up z;rw[E]at q;cases q
 let(k,e):=Zh (t:=t) (f:=λi=>(es[i]?.map (·.1)).getD 0) (h:=h) n (10*turns t.mask) (t.probeStart h) d λm H=>by
  rw[Vq];let(I,Q,q2):=slot_mem T.tk.up<|N m H;refine{I,q2,λz=>p ?_};rw[Wg]at z;have:I<(es.toList.map (·.1)).length:=by
   have:=(List.getElem?_eq_some_iff.mp Q).1;rw[wC,T.tk.sz]at this
   rwa [zD,wC]
  rw[zK this]at z;have z:(es.toList.map (·.1))[I]=h:=z;rw[<-z];exact qA this
 refine{wy t.mask h n,e.trans ?_,o,n,d,rfl,λm H=>{N m H,λz=>o<|z▸N m H}};have:t.slot (U7 t n<|t.probeStart h).j=.empty:=by rw[Vq];exact E
 rw[probe.go,this];dsimp only;rw[V8,Vq];rfl
def ins_map{α a:Type}(f:α->a)(xs:Array α)(p:Nat)(x:α):(insertAt xs p x).toList.map f=(xs.toList.map f).take p++f x::(xs.toList.map f).drop p:=by
 rw[VM,qZ,zI,List.map_take,List.map_drop]
def Tf.put{w:δ}{t:SetTable}{es:Array (Int×Θ)}(T:Tf w t es)(b:h∉es.toList.map (·.1))(J:j∉t.place.toList)(f:Fo t.mask (·∈t.place.toList) h j)(p:(t.put j).2<=es.size) :
  ∀(i:Nat)(g:Int)(x:Nat),((insertAt es (t.put j).2 (h,v)).toList.map (·.1))[i]?=↑g->(t.put j).1.place.toList[i]?=↑x->Fo (t.put j).1.mask (·∈(t.put j).1.place.toList) g x:=by
 intro i g x H a;have e:(t.put j).1.place.toList=t.place.toList.take (t.put j).2++j::t.place.toList.drop (t.put j).2:=VM ..;have s:∀y,y∈t.place.toList->y∈(t.put j).1.place.toList:=λy Y=>by
  rw[e];rw[<-List.take_append_drop (t.put j).2 t.place.toList,List.mem_append]at Y;rw[List.mem_append,zR];rcases Y with Y|Y
  .exact .inl Y
  .exact .inr<|.inr Y
 show Fo t.mask _ g x;rw[ins_map]at H;rw[e]at a;have z1:((es.toList.map (·.1)).take (t.put j).2).length=(t.put j).2:=by rw[jU,zD,wC];lia
 have z2:(t.place.toList.take (t.put j).2).length=(t.put j).2:=by rw[jU,wC,T.tk.sz];lia
 rw[List.getElem?_append,z1]at H;rw[List.getElem?_append,z2]at a;by_cases c:i<(t.put j).2
 .rw[yM c,List.getElem?_take_of_lt c]at H a;exact(T.fo i g x H a).imp s
 .rw[yO c]at H a;cases q:i-(t.put j).2 with
  |zero =>
   rw[q]at H a;cases H;cases a;exact f.imp s
  |succ m =>
   rw[q,yZ,List.getElem?_drop]at H a;exact(T.fo _ g x H a).imp s
abbrev kd(prog:ε)(w:δ):HeapKind prog w (Γ Int):=tupleKind<|intKind prog w
section
variable {prog:ε}{w:δ}{A:ξ}{E:Θ->Ξ->Prop}{s:Ξ}
def Xm(x:(kd prog w).is s.heap k b)(h:Q false s):wpAny (model prog w) A (ofAClassStatement 8<|.ref b) Q E s:=by
 have T:s.TypeIs (.ref b) "tuple":=IsTupleKey.typeIs x;let(o,items,n,O,_,d,i):=x;unfold ofAClassStatement;refine zW<|wJ T ?_;dsimp only;have a:("tuple"=="tuple")=true:=rfl;simp?[a,xH];refine zW<|zX ?_;simp?[xY,yP,qN];refine zW<|kG O d ?_;refine zW ?_;show wpAny _ _ (forIn items _ _) _ _ s;rw[<-Array.forIn_toList];refine wpAny_forIn_list _ (λt r S=>r.1=none/\S=s/\∀v∈t,carriedByValue v=true) _ ?_ ?_ _ _ {rfl,rfl,i.byValue}
 .rintro v t r S ⟨H,rfl,R⟩;have c:=R v zE;have e:ofAClassStatement 7 v=pure false:=by cases v<;>first|rfl|cases c
  rw[e];refine zW<|zX ?_;simp?[yP,qN];exact zX {rfl,rfl,λu U=>R u<|zC _ U}
 .rintro⟨r1,f⟩ S ⟨H,rfl,_⟩;simp only at H;subst H;exact zX h
def Zi(x:(kd prog w).is s.heap k b)(l:Γ Θ)(L:∀v∈l,∃c j,v=.ref c/\(kd prog w).is s.heap j c)(h:Q false s):wpAny (model prog w) A (searchCouldBeSeen (.ref b) l) Q E s:=by
 unfold searchCouldBeSeen;refine zW ?_;refine wpAny_forIn_list _ (λt r S=>r.1=none/\S=s/\∀v∈t,∃c j,v=.ref c/\(kd prog w).is s.heap j c) _ ?_ ?_ _ _ {rfl,rfl,L}
 .rintro v t r S ⟨H,rfl,R⟩;let(c,j,rfl,y):=R v zE;dsimp only;by_cases e:(b==c||(carriedByValue (.ref b)&&carriedByValue (.ref c)))=true
  .rw[yM e];exact zX {rfl,rfl,λu U=>R u<|zC _ U}
  .rw[yO e];refine zW<|(kd prog w).quiet x ?_;simp?[xY,yP,qN];refine zW<|(kd prog w).quiet y ?_;simp?[xY,yP,qN];refine zW<|Xm x ?_;simp?[yP,qN];refine zW<|Xm y ?_;simp?[yP,qN];exact zX {rfl,rfl,λu U=>R u<|zC _ U}
 .rintro⟨r1,a⟩ S ⟨H,rfl,_⟩;simp only at H;subst H;exact zX h
def Z7(k:Int)(v:Θ)(h:(intKind prog w).is k v=true)(n:Nat):hashByValue n v=pure true:=by
 let(t,rfl):=Value.isInt_shape h;cases n<;>rfl
def Rows(prog:ε)(w:δ)(h:ι)(l:Γ (Int×Θ)):Prop:=∀e∈l,∃k c,e=((kd prog w).hash k,.ref c)/\(kd prog w).is h k c
def Rows.keep(r:Rows prog w h l)(hk:∀e∈l,∀c,e.2=.ref c->∀o,h.get? c=↑o->h'.get? c=↑o):Rows prog w h' l:=λe H=>by
 let(k,c,rfl,o,items,n,O,x):=r e H;exact{k,c,rfl,o,items,n,hk _ H c rfl o O,x}
def acx{t:SetTable}(T:Tk w t n):t.gaveWay=false:=by
 have r:=T.rm;let(k,hk):=T.pw;unfold gaveWay;cases k with
 |zero=>rw[Nat.pow_zero]at hk;lia
 |succ k=>rw[Nat.pow_succ]at hk;rw[beq_eq_false_iff_ne];lia
def Z8(D:U2 w s.heap a l)(R:Rows prog w s.heap l)(x:(kd prog w).is s.heap k b)(U:(kd prog w).room A)(M:∃c,((kd prog w).hash k,Value.ref c)∈l/\(kd prog w).is s.heap k c)(q:Q false s) :
  wpAny (model prog w) A (setAddHashed a (.ref b)<|(kd prog w).hash k) Q E s:=by
 let(o,S,ep,t,O,X,d,P,T):=D;let(c,hc,Z):=M;have W:=P.mem_iff.mpr hc;let(i,p):=List.getElem?_of_mem W;have H:(S.toList.map (·.1))[i]?=↑((kd prog w).hash k):=by rw[zO,p];rfl
 let(j,N,F):=T.acw H;unfold setAddHashed setAddHashedIn;refine xX<|zW<|wpAny_setState_of O d T.tk.fits ?_;dsimp only;rw[show byScan (.ref b) S=false from rfl];simp?[yP,qN];unfold setSearch setSearchFrom;refine zW ?_;refine zW<|wpAny_setState_of O d T.tk.fits ?_;dsimp only;rw[acx T.tk];simp?[yP,qN];generalize G:t.probe _ ((kd prog w).hash k) _=r;have e:r=↑(.candidate j i N):=G.symm.trans F;subst e;dsimp only;have B:S[i]?=↑((kd prog w).hash k,Value.ref c):=by rw[<-Array.getElem?_toList];exact p
 have g:wpAny (model prog w) A (do
   let some (_,y):=S[i]? | unsupported "internal:set-entry"
   let L <- holding [y]<|eqBool y<|.ref b
   let (es',_,t') <- setState a
   if true&&L then return .there none
   let some same:=t'.sameMemory t.moves t.mask|unsupported "set.changed-during-lookup:is-the-new-block-at-the-old-address"
   let Y <- match(if same then t'.slot j else .empty)with
    |.live I=>match es'[I]? with
     |some (_,m)=>do pure (if <- isSame m y then↑I else none)
     |none=>pure none
    |_=>pure none
   match Y with
   |none=>rule "set.search.anew";setSearchFrom a (.ref b) ((kd prog w).hash k) true 99999 none
   |some I=>if L then return .there (↑I)else setSearchFrom a (.ref b) ((kd prog w).hash k) true 99999 (↑N)) (λv f=>v=.there none/\f=s) E s:=by
  rw[B];dsimp only;refine zW<|xX<|(kd prog w).eqBool U Z x ?_;refine zW<|wpAny_setState_of O d T.tk.fits ?_;rw[yB rfl];simp?[Bool.and_self,xH];exact zX {rfl,rfl}
 refine wpAny_ite_split (λ_=>?_) λ_=>?_
 .refine zW (Zi x _ (λv J=>?_) ?_)
  .let(e,n,rfl):=List.mem_map.mp J;rw[Array.mem_toList_iff,Array.mem_filter]at n;let(K,C,u,m):=R e<|P.mem_iff.mp<|Array.mem_toList_iff.mpr n.1;exact{C,K,by rw[u],m}
  .simp?[yP,qN];exact xB g (λv f z=>by rw[z.1,z.2];exact zX q) λ_ _ h=>h
 .exact xB g (λv f z=>by rw[z.1,z.2];exact zX q) λ_ _ h=>h
end
def Zj(xs:Array Nat)(j:Nat):∀(f lo hi:Nat),lo<=hi->below.go xs j f lo hi<=hi
 |0,lo,hi,h=>h
 |f+1,lo,hi,h=>by
  unfold below.go;split
  .dsimp only;split
   .exact Zj xs j f _ _<|by lia
   .exact yE (Zj xs j f _ _<|by lia)<|by lia
  .exact h
def Zk(xs:Array Nat)(j:Nat):below xs j<=xs.size:=Zj xs j _ _ _<|xV _
def Zl{α:Type}(es:Array α)(d:α):∀l:Γ Nat,(∀i∈l,i<es.size)->l.filterMap (es[·]?)=l.map λi=>es.toList.getD i d
 |[],_=>rfl
 |a::l,h=>by
  have H:=h a zE;rw[List.filterMap_cons_some (b:=es[a])<|jX H,Zl es d l λi I=>h i<|zC _ I,zI];simp[H]
def Yk{w:δ}{mask finger moves:Nat}{es:Array (Int×Θ)}{ld:θ}(hk:∃k,mask+1=2^k)(R:es.size*5<mask*3)(L:ld=!(w.params.followText "set-order"))(N:(es.toList.map (·.1)).Nodup) :
  ∃t od,laid mask finger moves ld true (es.map (·.1))=↑(t,od)/\(od.filterMap (es[·]?)).size=es.size/\(od.filterMap (es[·]?)).toList.Perm es.toList/\t.mask=mask/\Tf w t (od.filterMap (es[·]?)):=by
 let(p,od,g,a,n,E,o):=Z6 (finger:=finger) (moves:=moves) (led:=ld) (plain:=true) (hs:=es.map (·.1)) hk (by rw[Array.size_map];lia);rw[Array.size_map]at a E;have X:∀i∈od.toList,i<es.size:=λi I=>List.mem_range.mp<|E.mem_iff.mp I;have H:(od.filterMap (es[·]?)).toList=od.toList.map λi=>es.toList.getD i (0,.none):=by
  rw[Array.toList_filterMap,Zl es (0,.none) _ X]
 have r:(List.range es.size).map (λi=>es.toList.getD i (0,.none))=es.toList:=by
  refine List.ext_getElem? λi=>?_;rw[zO];by_cases c:i<es.size
  .rw[List.getElem?_range c,zB,zG,zK<|by simpa using c];rfl
  .rw[jK<|by simpa using c,jK<|by simpa using c];rfl
 have m:(od.filterMap (es[·]?)).toList.Perm es.toList:=by
  rw[H];exact(E.map _).trans<|.of_eq r
 have z:(od.filterMap (es[·]?)).size=es.size:=by
  have:=m.length_eq
  rwa [wC,wC]at this
 refine{_,od,g,z,m,rfl,{by rw[z];exact a,rfl,hk,by rw[z];exact R,rfl,L,n},?_,λi h j b d=>?_}
 .exact (m.map _).nodup_iff.mpr N
 .have I:i<p.size:=by have:=(List.getElem?_eq_some_iff.mp d).1;simpa using this
  have:=o i I;rw[zG (i:=i) (l:=p.toList),show p.toList[i]?=↑j from d,qG]at this;rw[H,zM,zO]at b;let(x,f,e):=Option.map_eq_some_iff.mp b;rw[zG (i:=i) (l:=od.toList),f,qG]at this;have s:x<es.size:=X x<|qB f;have e:(es.toList.getD x (0,.none)).1=h:=e;have q:((es.map (·.1)).toList.getD x 0)=h:=by
   rw[<-e];simp[s]
  rw[q]at this;exact this
section
variable {prog:ε}{w:δ}{A:ξ}{E:Θ->Ξ->Prop}{s:Ξ}
def Zm{a:Ψ}{o:Obj}{es:Array (Int×Θ)}{ep:Nat}{t:SetTable}{l:Γ (Int×Θ)}{d n:Nat}{Q:Unit->Ξ->Prop}(O:s.heap.get? a=↑o)(x:o.ExactSet)(H:o.data=.set es ep t)(c:t.place.size=es.size)(f:t.dummies=#[])(g:es.size<=t.mask)(p:t.plain=true)(L:t.led=!(w.params.followText "set-order"))(h4:es.toList.Perm l)(N:(es.toList.map (·.1)).Nodup)(v:d<=20000)(i:2*n<=d)(j:es.size<=n)(u:0<n)
  (q:∀h',Heap.SameBut a s.heap h'->(∃o es ep t,h'.get? a=↑o/\o.ExactSet/\o.data=.set es ep t/\es.toList.Perm l/\Tf w t es/\n*5<t.mask*3)->Q () {s with heap:=h'}):wpAny (model prog w) A (setRelay a d) Q E s:=by
 let(k,K,y,B):=above (n:=d) (by lia);unfold setRelay;refine zW<|wpAny_setState_of O H (fits_of c f g) ?_;dsimp only;rw[yO (by rw[qT];lia)];let(b,od,e,z,m,M,T):=Yk (w:=w) (mask:=sizeAbove d-1) (finger:=t.finger) (moves:=t.movedTo<|sizeAbove d-1) (es:=es) (ld:=t.led) {k,by lia} (by lia) L N;have r:t.relaid (es.map (·.1)) d=↑(b,od):=by
  unfold relaid;rw[p];exact e
 rw[r];show wpAny _ _ ((do if(od.filterMap (es[·]?)).size != es.size then {unsupported "internal:set-table-lost-an-element" };pure (od.filterMap (es[·]?),b):Sem _) >>= _) _ _ _;rw[yO (by rw[z];simp)];refine zW<|zX<|wpAny_storeSet_of O H ?_ (by rw[z,qT];lia);exact q _ (Heap.SameBut.update _ a _) {_,_,ep+1,_,stored O H,x,rfl,m.trans h4,T,by rw[M];lia}
def abc(w:δ)(h:ι)(a:Ψ)(l:Γ (Int×Θ))(n:Nat):Prop:=∃o e p t,h.get? a=↑o/\o.ExactSet/\o.data=.set e p t/\e.toList.Perm l/\Tf w t e/\n*5<t.mask*3
def abc.set(x:abc w h a l n):U2 w h a l:=by
 let(o,s,e,t,H,b,c,d,f,_):=x;exact{o,s,e,t,H,b,c,d,f}
def Wh{a:Ψ}{l:Γ (Int×Θ)}{m:Nat}{Q:Unit->Ξ->Prop}(S:U2 w s.heap a l)(M:l.length+m<=1000)(q:∀h',Heap.SameBut a s.heap h'->abc w h' a l (l.length+m)->Q () {s with heap:=h'}):wpAny (model prog w) A (setRoomFor a m) Q E s:=by
 let(o,e,P,t,H,x,d,p,T):=S;have L:e.size=l.length:=by rw[<-p.length_eq,wC]
 have r:=T.tk.rm;have f:t.fill=e.size:=by unfold fill;rw[T.tk.sz,T.tk.dm];rfl
 unfold setRoomFor;refine zW<|wpAny_setState_of H d T.tk.fits ?_;dsimp only;unfold roomFor;rw[f,T.tk.sz];by_cases c:(e.size+m)*5 >= t.mask*3
 .rw[yM c];exact Zm H x d T.tk.sz T.tk.dm (by lia) T.tk.pl T.tk.ld p T.nd (n:=l.length+m) (by lia) (by lia) (by lia) (by lia) q
 .rw[yO c];refine zX ?_;have:=q s.heap (Heap.SameBut.refl _ _) {o,e,P,t,H,x,d,p,T,by lia};exact this
def vo{l:Γ (Int×Θ)}(x:(kd prog w).is s.heap k b)(S:U2 w s.heap a l)(U:∀e∈l,e.1≠(kd prog w).hash k)(Z:l.length<1000)
  (q:∀h',Heap.SameBut a s.heap h'->U2 w h' a (((kd prog w).hash k,.ref b)::l)->Q true {s with heap:=h'}):wpAny (model prog w) A (setAddHashed a (.ref b)<|(kd prog w).hash k) Q E s:=by
 let(o,c,p,t,O,X,d,f,T):=S;have Y:c.size=l.length:=by rw[<-f.length_eq,wC]
 have g:(kd prog w).hash k∉c.toList.map (·.1):=λz=>by
  let(e,B,z):=List.mem_map.mp z;exact U e (f.mem_iff.mp B) z
 generalize C:(kd prog w).hash k=h at *;unfold setAddHashed setAddHashedIn;refine xX<|zW<|wpAny_setState_of O d T.tk.fits ?_;dsimp only;rw[show byScan (.ref b) c=false from rfl];simp?[yP,qN];have rm:=T.tk.rm;refine zW ?_;unfold setSearch setSearchFrom;refine zW<|wpAny_setState_of O d T.tk.fits ?_;dsimp only;rw[acx T.tk];let(j,J,N,y):=T.ends g;generalize D:t.probe _ h _=r;have e:r=↑(.empty j none):=D.symm.trans J;subst e;refine zX ?_;dsimp only;refine zW<|wpAny_setState_of O d T.tk.fits ?_;dsimp only;have m:(t.put j).1.dummies=#[]:=by
  show(if has t.dummies j=true then _ else t.dummies)=_;rw[T.tk.dm];rfl
 have z1:(insertAt c (t.put j).2 (h,Value.ref b)).size=c.size+1:=Xl ..;have z2:(insertAt c (t.put j).2 (h,Value.ref b)).toList.Perm ((h,.ref b)::l):=(Wf ..).trans<|f.cons _;have H:(t.put j).1.place.size=c.size+1:=(Xl ..).trans (by rw[T.tk.sz]);have u:((insertAt c (t.put j).2 (h,Value.ref b)).toList.map (·.1)).Nodup:=((Wf ..).map _).nodup_iff.mpr<|List.nodup_cons.mpr {g,T.nd};have P:(t.put j).1.plain=true:=T.tk.pl;rw[yM P];refine zW<|byValue x (λk v hk n=>Z7 k v hk n) ?_;simp?[xH];refine zW<|wpAny_storeSet_of O d ?_ (by rw[z1,qT];lia);have W:=stored O d (es':=insertAt c (t.put j).2 (h,Value.ref b)) (t':=(t.put j).1);by_cases F:(!false&&(t.put j).1.tooFull)=true
 .rw[yM F];refine zW ?_;rw[<-z1];refine Zm (s:={s with heap:=_}) W X rfl (H.trans z1.symm) m (by rw[z1];show c.size+1<=t.mask;lia) P T.tk.ld z2 u (n:=c.size+1) ?_ ?_ (by rw[z1];exact yN _) (Nat.succ_pos _) λh' R ⟨o,c,p,t,G,q2,I,K,L,_⟩=>zX (q h' ((Heap.SameBut.update _ a _).trans R) {o,c,p,t,G,q2,I,K,L})
  .rw[z1];unfold grown;rw[yO<|by lia];lia
  .rw[z1];unfold grown;rw[yO<|by lia];lia
 .rw[yO F];have M:(c.size+1)*5<t.mask*3:=by
   have:(t.put j).1.tooFull=false:=by simpa using F
   unfold tooFull fill at this;rw[H,m]at this;have:(c.size+1)*5<(t.put j).1.mask*3:=by simpa using this
   exact this
  have i:(t.put j).2<=c.size:=by rw[<-T.tk.sz];exact Zk _ _
  refine zW<|zX<|zX<|q _ (Heap.SameBut.update _ a _) {_,_,p+1,_,W,X,rfl,z2,{H.trans z1.symm,m,T.tk.pw,by rw[z1];exact M,P,T.tk.ld,aba T.tk.up T.tk.dm<|Yj T.tk.dm N},u,T.put g N y i}
end
def Zn{α c:Type}{f:α->c}{l L:Γ c}(p:l.Perm L):∀{m:Γ α},L=m.map f->∃m':Γ α,m'.Perm m/\l=m'.map f:=by
 induction p with
 |nil=>exactλ{m}e=>{m,.refl _,e}
 |cons x _ H =>
  intro m e
  match m,e with
  |a::m,e =>
   rw[zI,kU]at e;let(m',P,E):=H e.2;exact{a::m',P.cons a,by rw[zI,e.1,E]}
 |swap x y r =>
  intro m e
  match m,e with
  |a::b::m,e =>
   rw[zI,zI,kU,kU]at e;exact{b::a::m,.swap ..,by rw[zI,zI,e.1,e.2.1,e.2.2]}
 |trans _ _ i I =>
  intro m e;let(m',P,E):=I e;let(m2,p2,d):=i E;exact{m2,p2.trans P,d}
section
variable {prog:ε}{w:δ}{A:ξ}{E:Θ->Ξ->Prop}{s:Ξ}
abbrev ent(prog:ε)(w:δ)(p:Γ Int×Ψ):Int×Θ:=((kd prog w).hash p.1,.ref p.2)
def U2.setAt(h:U2 w U a l):∃es ep t,es.toList.Perm l/\Se.U9 w U a es ep t:=by
 let(o,es,ep,t,H,b,c,d,T):=h;exact{es,ep,t,d,⟨o,H,b,c⟩,T.tk.fits,T.tk.pl,T.tk.ld,WO T.tk.up}
def wp_walk{Q:Array (Int×Θ)->Ξ->Prop}(S:Se.U9 w s.heap a es ep t)(h:Q (Se.VA w a ep es) s):wpAny (model prog w) A (setWalk a) Q E s:=by
 let(o,H,x,d):=S.get;unfold setWalk;refine zW<|wpAny_setState_of H d S.fits ?_;dsimp only;refine zW (m:=setsByText) ?_;unfold setsByText;refine zW<|wpAny_askSetting<|zX ?_;show wpAny _ _ (if w.params.followText "set-order"=true then _ else _) _ _ _;unfold Se.VA at h;cases b:w.params.followText "set-order"with
 |true =>
  rw[yM b]at h;rw[yM rfl];exact zW (wpAny_askSetting<|zX h)
 |false =>
  rw[yO (by rw[b];exact xA)]at h;rw[yO xA];have c1:(!t.plain&&decide (es.size > 1))=false:=by rw[S.plain];rfl
  have c2:(!t.led&&decide (es.size > 1))=false:=by rw[S.led,b];rfl
  show wpAny _ _ (if(!t.plain&&decide (es.size > 1))=true then _ else _) _ _ _;rw[c1,yO xA];refine zW ?_;show wpAny _ _ (if(!t.led&&decide (es.size > 1))=true then _ else _) _ _ _;rw[c2,yO xA];exact zX<|zX h
def Yy{Q:Array (Int×Θ)->Ξ->Prop}{O:Γ Ψ}{fl:Δ Ψ}(S:Se.U9 w s.heap a es ep t)(h:Q (Se.VA w a ep es) s):wpAny (model prog w) A (setWalkUnseen a O fl) Q E s:=by
 let(o,H,x,d):=S.get;unfold setWalkUnseen;refine zW<|wpAny_setState_of H d S.fits ?_;dsimp only;refine zW (m:=setsByText) ?_;unfold setsByText;refine zW<|wpAny_askSetting<|zX ?_;have c:(w.params.followText "set-order"||(t.led&&t.plain)||decide (es.size<=1))=true:=by
  rw[S.led,S.plain];cases w.params.followText "set-order"<;>rfl
 show wpAny _ _ (if(w.params.followText "set-order"||(t.led&&t.plain)||decide (es.size<=1))=true then _ else _) _ _ _;rw[yM c];exact wp_walk S h
def WD{r a:Ψ}{l:Γ (Int×Θ)}{Q:Unit->Ξ->Prop}{H:Sem Unit}(U:r≠a)(R:U2 w s.heap r [])(S:U2 w s.heap a l)(L:l.length<=500)
  (q:∀h',Heap.SameBut r s.heap h'->U2 w h' r l->Q () {s with heap:=h'}):wpAny (model prog w) A (setMerge r a H) Q E s:=by
 let(o,e,v,t,O,x,D,p,T):=S;have y:e.size=l.length:=by rw[<-p.length_eq,wC]
 unfold setMerge;rw[yO<|by simpa using U];refine zW<|wpAny_setState_of O D T.tk.fits ?_;dsimp only;by_cases c:e.isEmpty=true
 .rw[yM c];refine zX ?_;have:l=[]:=by
   have:e.size=0:=by simpa [Array.isEmpty]using c
   exact List.length_eq_zero_iff.mp<|by lia
  subst this;exact q s.heap (Heap.SameBut.refl _ _) R
 rw[yO c];have P:0<e.size:=by
  rcases Nat.eq_zero_or_pos e.size with z|z
  .exact absurd (by simpa [Array.isEmpty]using z) c
  .exact z
 refine zW<|Wh R (by simp;lia) λh' B z=>?_;let(C,i,W,b,f,q2,g,u,d,j):=z;rw[xK,jC]at j;have k:i=#[]:=by
  have:=u.length_eq;rw[wC,xK]at this;exact Array.eq_empty_of_size_eq_zero this
 subst k;refine zW<|wpAny_setState_of f g d.tk.fits ?_;dsimp only;have F:(b.fill != 0)=false:=by
  unfold fill;rw[d.tk.sz,d.tk.dm];rfl
 unfold road;rw[F];simp?[yP,qN];by_cases c2:(b.mask==t.mask&&t.dummies.isEmpty)=true
 .rw[yM c2];dsimp only;refine wpAny_storeSet_of f g ?_ (by rw[qT];lia);refine q _ (B.trans<|Heap.SameBut.update _ r _) {_,_,W+1,_,stored f g,q2,rfl,p,{T.tk.sz,T.tk.dm,T.tk.pw,T.tk.rm,?_,?_,T.tk.up},T.nd,T.fo}
  .show (b.plain&&t.plain)=true;rw[T.tk.pl,d.tk.pl];rfl
  .show (b.led&&t.led)=_;rw[T.tk.ld,d.tk.ld,Bool.and_self]
 .rw[yO c2];dsimp only;let(N,od,n,Z,m,M,TT):=Yk (w:=w) (mask:=b.mask) (finger:=b.finger) (moves:=b.moves) (es:=e) (ld:=b.led&&t.led) d.tk.pw j (by rw[T.tk.ld,d.tk.ld,Bool.and_self]) T.nd;rw[show(b.plain&&t.plain)=true by rw[T.tk.pl,d.tk.pl];rfl,n];show wpAny _ _ ((do if(od.filterMap (e[·]?)).size != e.size then {unsupported "internal:set-table-lost-an-element" };pure (od.filterMap (e[·]?),N):Sem _) >>= _) _ _ _;rw[yO (by rw[Z];simp)];refine zW<|zX<|wpAny_storeSet_of f g ?_ (by rw[Z,qT];lia);exact q _ (B.trans<|Heap.SameBut.update _ r _) {_,_,W+1,_,stored f g,q2,rfl,m.trans p,TT}
end
section
variable {prog:ε}{w:δ}{A:ξ}{E:Θ->Ξ->Prop}{s:Ξ}
structure Un(m1 m2 m:List (List Int×Addr)):Prop where
 sub:∀p∈m,p∈m1\/p∈m2
 all:∀k,(k∈m1.map (·.1)\/k∈m2.map (·.1))->k∈m.map (·.1)
 nd:(m.map (·.1)).Nodup
def VG(prog:ε)(w:δ)(h:ι)(m:Γ (Γ Int×Ψ)):Prop:=∀p∈m,(kd prog w).is h p.1 p.2
def VG.keep{m:Γ (Γ Int×Ψ)}{r:Ψ}(K:VG prog w h m)(s:∀b o,b≠r->h.get? b=↑o->h'.get? b=↑o)(R:∃o,h.get? r=↑o/\o.cls≠.type "tuple"):VG prog w h' m:=λp P=>by
 let(o,items,n,H,hc,x):=K p P;refine{o,items,n,s _ _ (λz=>?_) H,hc,x};let(O,a,c):=R;rw[z,a]at H;cases H;exact c hc
def U2.cls(S:U2 w h r l):∃o,h.get? r=↑o/\o.cls≠.type "tuple":=by
 let(o,s,e,t,H,a,_):=S;exact{o,H,by rw[a.1];decide}
def MI(prog:ε)(w:δ)(s:Ξ)(r:Ψ)(m1 m2:Γ (Γ Int×Ψ))(rest:Γ (Int×Θ))(s':Ξ):Prop:=∃ (g:ι) (m R:Γ (Γ Int×Ψ)),s'={s with heap:=g}/\rest=List.map (ent prog w) R/\U2 w g r (m.map<|ent prog w)/\Heap.SameBut r s.heap g/\m.length+R.length<=500/\(∀p∈R,p∈m2)/\(∀p∈m,p∈m1\/p∈m2)/\(∀k,(k∈m1.map (·.1)\/k∈m2.map (·.1))->k∈m.map (·.1)\/k∈R.map (·.1))/\(m.map (·.1)).Nodup
def YA{r a:Ψ}{m1 m2:Γ (Γ Int×Ψ)}{Q:Unit->Ξ->Prop}{d:Sem Unit}(hu:(kd prog w).room A)(U:r≠a)(R:U2 w s.heap r (m1.map<|ent prog w))(S:U2 w s.heap a (m2.map<|ent prog w))(hl:m1.length+m2.length<=500)(h1:m1≠[])
  (K1:VG prog w s.heap m1)(K2:VG prog w s.heap m2)(N:(m1.map (·.1)).Nodup)(inj:∀p∈m1++m2,∀q∈m1++m2,(kd prog w).hash p.1=(kd prog w).hash q.1->p.1=q.1)
  (D:∀(s':Ξ)(Q:Unit->Ξ->Prop)(E:Θ->Ξ->Prop),(∀o,s.heap.get? a=↑o->s'.heap.get? a=↑o)->Q () s'->wpAny (model prog w) A d Q E s')
  (q:∀h' m,Heap.SameBut r s.heap h'->U2 w h' r (m.map<|ent prog w)->Un m1 m2 m->Q () {s with heap:=h'}):wpAny (model prog w) A (setMerge r a d) Q E s:=by
 have S0:=S;let(o,j,ep,t,O,hex,hd,H,T):=S;have hz:j.size=m2.length:=by rw[<-wC,H.length_eq,zD]
 unfold setMerge;rw[yO<|by simpa using U];refine zW<|wpAny_setState_of O hd T.tk.fits ?_;dsimp only;by_cases c:j.isEmpty=true
 .rw[yM c];refine zX ?_;have:m2=[]:=by
   have:j.size=0:=by simpa [Array.isEmpty]using c
   exact List.length_eq_zero_iff.mp<|by lia
  subst this;exact q s.heap m1 (Heap.SameBut.refl _ _) R {λp H=>.inl H,λk hk=>by simpa using hk,N}
 rw[yO c];have pos:0<j.size:=by
  rcases Nat.eq_zero_or_pos j.size with z|z
  .exact absurd (by simpa [Array.isEmpty]using z) c
  .exact z
 refine zW<|Wh R (by rw[zD];lia) λh' sb R'=>?_;have RF:=R'.set;let(o',es',WI,t',q1,q2,q3,q4,T',q6):=R';refine zW<|wpAny_setState_of q1 q3 T'.tk.fits ?_;dsimp only;have hf:(t'.fill != 0)=true:=by
  have e:t'.fill=es'.size:=by
   unfold fill;rw[T'.tk.sz,T'.tk.dm];rfl
  have:0<m1.length:=List.length_pos_iff.mpr h1;have z:=q4.length_eq;rw[wC,zD]at z;rw[e,bne_iff_ne];lia
 unfold road;rw[hf];simp?[xH];have ha':h'.get? a=↑o:=(sb.2 a<|jL U).trans O;have SA:Se.U9 w h' a j ep t:={{o,ha',hex,hd},T.tk.fits,T.tk.pl,T.tk.ld,WO T.tk.up}
 refine zW<|Yy (s:={s with heap:=h'}) SA ?_;rw[<-Array.forIn_toList];let(m2',pm,e2):=Zn (f:=ent prog w) (Se.VR.trans H) rfl;rw[e2];refine zW<|wpAny_forIn_list _ (λi _ s'=>MI prog w s r m1 m2 i s') _ ?_ ?_ _ _ {h',m1,m2',rfl,rfl,RF,sb,by have:=pm.length_eq;lia,λp H=>pm.mem_iff.mp H,λp H=>.inl H,λk hk=>hk.imp id λz=>((pm.map _).mem_iff).mpr z,N}
 .rintro e i b s' ⟨g,m,l,rfl,C,v,u,n,J,I,L,W⟩;cases l with
  |nil=>cases C
  |cons p l =>
   rw[zI,kU]at C;let(rfl,rfl):=C;have hag:g.get? a=↑o:=(u.2 a<|jL U).trans O;have AM:p∈m2:=J p zE;have KG:∀{M},VG prog w s.heap M->VG prog w g M:=λK=>K.keep (λb o hb e=>(u.2 b hb).trans e) R.cls;have KP:(kd prog w).is g p.1 p.2:=KG K2 p AM;have KM:VG prog w g m:=λx F=>(I x F).elim (λz=>KG K1 x z) λz=>KG K2 x z;have fin:∀(G:ι)(P:ForInStep PUnit->Ξ->Prop),Heap.SameBut r g G->P (.yield ⟨⟩) {s with heap:=G}->wpAny (model prog w) A (d >>= λ_=>setState a >>= λx=>if(x.2.1 != ep)=true then((unsupported "set.changed-during-merge":Sem PUnit) >>= λ_=>pure<|ForInStep.yield PUnit.unit)else pure (ForInStep.yield PUnit.unit)) P E {s with heap:=G}:=λG P B hP=>by
    have Z:G.get? a=↑o:=(B.2 a<|jL U).trans hag;refine zW<|D _ _ _ (λo' Wl=>by rw[O]at Wl;cases Wl;exact Z) ?_;refine zW<|wpAny_setState_of Z hd T.tk.fits ?_;dsimp only;rw[yO<|by simp];exact zX hP
   refine zW<|xX ?_;by_cases X:p.1∈m.map (·.1)
   .let(x,F,ex):=List.mem_map.mp X;refine Z8 (s:={s with heap:=g}) v (λe D=>?_) KP hu {x.2,List.mem_map.mpr {x,F,by show((kd prog w).hash x.1,Value.ref x.2)=_;rw[ex]},by rw[<-ex];exact KM x F} ?_
    .let(y,Y,rfl):=List.mem_map.mp D;exact{y.1,y.2,rfl,KM y Y}
    .refine fin g _ (Heap.SameBut.refl _ _) ?_;refine({g,m,l,rfl,rfl,v,u,by rw[zL]at n;lia,λp H=>J p<|zC _ H,I,λk hk=>(L k hk).elim .inl λz=>?_,W}:MI prog w s r m1 m2 _ _);rw[zI,zR]at z;rcases z with rfl|z
     .exact .inl X
     .exact .inr z
   .refine vo (s:={s with heap:=g}) KP v (λe D z=>X ?_) (by rw[zD];lia) λG B RG'=>?_
    .let(y,Y,rfl):=List.mem_map.mp D;have:y.1=p.1:=inj y (List.mem_append.mpr<|I y Y) p (List.mem_append.mpr<|.inr AM) z;rw[<-this];exact List.mem_map.mpr {y,Y,rfl}
    .refine fin G _ B ?_;refine({G,p::m,l,rfl,rfl,RG',u.trans B,by rw[zL]at n ⊢;lia,λp H=>J p<|zC _ H,λy Y=>?_,λk hk=>?_,List.nodup_cons.mpr ⟨X,W⟩}:MI prog w s r m1 m2 _ _)
     .rcases List.mem_cons.mp Y with rfl|Y
      .exact .inr AM
      .exact I y Y
     .rcases L k hk with z|z
      .exact .inl (by rw[zI];exact zC _ z)
      .rw[zI,zR]at z;rcases z with rfl|z
       .exact .inl (by rw[zI];exact zE)
       .exact .inr z
 .rintro b s' ⟨g,m,l,rfl,C,v,u,n,J,I,L,W⟩;have:l=[]:=by simpa using C
  subst this;exact zX<|q g m u v {I,λk hk=>by simpa using L k hk,W}
end
def ob(w:δ):Obj:={cls:=.type "set",dict:=none,data:=.set #[] 0 (.fresh 0 0<|!(w.params.followText "set-order"))}
def Zo{w:δ}{p:ι}(h:p.get? a=↑(ob w)):U2 w p a []:={_,_,_,_,h,{rfl,rfl,rfl},rfl,.refl _,{rfl,rfl,{3,rfl},(by decide:0*5<7*3),rfl,rfl,.nil},.nil,λi h j H=>by simp at H}
def WQ:isSubtype (.type "set") (.type "set")=pure true:=by rw[isSubtype_type];kernel_rfl
def Zq:entryFor table "set.__or__"=↑Builtin.«frozenset.__or__»:=entryFor_alias (id':="frozenset.__or__") (by kernel_rfl) rfl (by decide +kernel) (by kernel_rfl)
section
variable {prog:ε}{w:δ}{A:ξ}{E:Θ->Ξ->Prop}{s:Ξ}
def U2.ty(S:U2 w s.heap a l):s.TypeIs (.ref a) "set":=by
 let(o,E,e,t,H,b,_):=S;exact{o,H,b.1}
def WR(h:s.TypeIs (.ref a) "set")(q:Q true s):wpAny (model prog w) A (Builtin.Frozenset.isAnySet<|.ref a) Q E s:=by
 unfold Builtin.Frozenset.isAnySet;exact zW<|wpAny_isInstance h WQ<|zX q
def YB{Q:Θ->Ξ->Prop}(q:Q (.ref s.heap.objs.size) {s with heap:=s.heap.push (ob w)}):wpAny (model prog w) A (newSet<|.type "set") Q E s:=by
 unfold newSet;refine zW (m:=setsByText) ?_;unfold setsByText;refine zW<|wpAny_askSetting<|zX ?_;exact qL q
def abe{Q:Θ->Ξ->Prop}{a b:Ψ}{m1 m2:Γ (Γ Int×Ψ)}(hu:(kd prog w).room A.in1)(Z:a≠b)(u:U2 w s.heap a (m1.map<|ent prog w))(j:U2 w s.heap b (m2.map<|ent prog w))(hl:m1.length+m2.length<=500)
  (X:VG prog w s.heap m1)(Y:VG prog w s.heap m2)(N:(m1.map (·.1)).Nodup)(C:(m2.map (·.1)).Nodup)(I:∀p∈m1++m2,∀q∈m1++m2,(kd prog w).hash p.1=(kd prog w).hash q.1->p.1=q.1)
  (q:∀h' m,(∀x o,s.heap.get? x=↑o->h'.get? x=↑o)->U2 w h' s.heap.objs.size (m.map<|ent prog w)->Un m1 m2 m->Q (.ref s.heap.objs.size) {s with heap:=h'}):wpAny (model prog w) A (binaryOp .BitOr (.ref a)<|.ref b) Q E s:=by
 have T:=u.ty (s:=s);have G:=j.ty (s:=s);refine wpAny_binaryOp_same T G F.fills_set_or F.slot_set_or<|qU F.slot_set_or T Zq ?_<|F.args_set_or_2 _ _;show wpAny _ _ (Builtin.Frozenset.slot1 "__or__" _ >>= _) _ _ _;refine zW<|wpAny_of_eq (a:=(.ref a,.ref b)) (by rfl) ?_;show wpAny _ _ ((Builtin.Frozenset.isAnySet (.ref a) <&&> Builtin.Frozenset.isAnySet (.ref b)) >>= _) _ _ _;refine zW<|zW<|WR T<|WR G ?_;simp?[xY,yP,qN];refine zW<|zX ?_;refine zW ?_;show wpAny _ _ (Builtin.Frozenset.copyOf a >>= _) _ _ _;refine zW ?_;unfold Builtin.Frozenset.copyOf;refine zW ?_;unfold Builtin.Frozenset.baseOf;refine zW<|wpAny_isInstance T WQ<|zX ?_;simp?[xH];have o2:∀x o,s.heap.get? x=↑o->(s.heap.push<|ob w).get? x=↑o:=λx o e=>zV _ e;have nw:(s.heap.push<|ob w).get? s.heap.objs.size=↑(ob w):=zY _ rfl;have O:∀{x l},U2 w s.heap x l->x<s.heap.objs.size:=λ{x l}S=>by
  let(o,es,ep,t,H,_):=S;exact zZ H
 have l1:=O u;have M:=O j;refine zW<|YB ?_;refine zW<|zX ?_;refine zW<|WD (s:={s with heap:=s.heap.push (ob w)}) (l:=m1.map<|ent prog w) (jH l1) (Zo nw) (u.at λo e=>o2 _ o e) (by rw[zD];lia) λH D R=>?_;refine zX ?_;rw[yM<|by simp[jL Z]];have g:∀x o,s.heap.get? x=↑o->H.get? x=↑o:=λx o e=>(D.2 x<|yS<|zZ e).trans<|o2 x o e;have y:Shared.TypeIs {s with heap:=H} (.ref b) "set":=(j.at λo e=>g b o e).ty (s:={s with heap:=H});refine zW<|zX ?_;refine zW<|xX ?_;unfold Builtin.Frozenset.updateFrom;refine zW<|WR y ?_;rw[yM rfl];refine zW<|zX ?_;have fin:∀h' m,(∀x o,s.heap.get? x=↑o->h'.get? x=↑o)->U2 w h' s.heap.objs.size (m.map<|ent prog w)->Un m1 m2 m->wpAny (model prog w) A.in1 (ret<|.ref s.heap.objs.size) (λfin W=>∃v,fin=Fin.done (Flow.ret v)/\v≠Value.notImplemented/\Q v W) E {s with heap:=h'}:=λh' m k S U=>zX {_,rfl,(λz=>nomatch z),q h' m k S U};have d:U2 w H b (m2.map<|ent prog w):=j.at λo e=>g b o e;have k1:VG prog w H m1:=λp P=>by
  let(o,i,n,e,r):=X p P;exact{o,i,n,g _ _ e,r}
 have k2:VG prog w H m2:=λp P=>by
  let(o,i,n,e,r):=Y p P;exact{o,i,n,g _ _ e,r}
 show wpAny _ _ (setEpoch b >>= _) _ _ _;let(ob2,es2,ep2,t2,J,g2,K,g4,L):=id d;refine zW<|wpAny_setEpoch_of J K L.tk.fits ?_;by_cases c:m1=[]
 .subst c;refine WD (s:={s with heap:=H}) (jH M) R d (by rw[zD];lia) λB f R2=>zX<|fin B m2 (λx o e=>(f.2 x<|yS<|zZ e).trans<|g x o e) R2 {λp P=>.inr P,λk hk=>by simpa using hk,C}
 .refine YA (s:={s with heap:=H}) hu (jH M) R d hl c k1 k2 N I (λW Q' E' k q'=>?_) λB m f R2 U=>zX<|fin B m (λx o e=>(f.2 x<|yS<|zZ e).trans<|g x o e) R2 U;unfold Builtin.Frozenset.unchanged;refine zW<|wpAny_setEpoch_of (k _ J) K L.tk.fits ?_;rw[yO<|by simp];exact zX q'
end
open PySem SetTable PySem.W PySem.Calls PyProof.Rows
section
variable {prog:ε}{w:δ}{A:ξ}{E:Θ->Ξ->Prop}{s:Ξ}
def Zr(a:Θ){Q₁:Θ->Ξ->Prop}(h:Q₁ (.ref s.heap.objs.size) {s with heap:=s.heap.push (ob w)}):codeAny (model prog w) A (.call (.builtin "set.__new__") {[.type "set",a],[]}) (wants Q₁ E) s:=by
 refine codeAny_of_tree ?_;show wpAny _ A.in1 (checkBuiltinCall "set.__new__" _ >>= λ_=>again<|.builtin "set.__new__" _) _ _ s;refine zW<|wpAny_of_eq (PySem.F.newCall_set_1 a)<|zX {plainId_quiet PySem.F.plain_set_new _,kE PySem.F.entry_set_new ?_};rw[Around.under_plainId PySem.F.plain_set_new _];unfold Builtin.«set.__new__» Builtin.Frozenset.newClass;have X:=WQ;let(p,g,d,t,o):=s;dsimp only
 wp_walk
 refine wpAny_askSetting<|zX ?_;dsimp only;simp?[newObj];refine zW<|wpAny_alloc<|zX ?_;exact zX h
def Zs{Q:Unit->Ξ->Prop}{id:String}{r d:Ψ}{o:Obj}{es:Array DictEntry}{ep:Nat}{m:Γ (Γ Int×Ψ)}(U:r≠d)(R:U2 w s.heap r [])(O:s.heap.get? d=↑o)(hx:o.ExactDict)(D:o.data=.dict es ep)(N:es.toList.map (λe=>(e.hash,e.key))=m.map (ent prog w))(hs:(d==sysModules)=false)(K:VG prog w s.heap m)(P:(m.map λp=>(kd prog w).hash p.1).Nodup)(hl:m.length<=500)
  (q:∀h',Heap.SameBut r s.heap h'->U2 w h' r (m.map<|ent prog w)->Q () {s with heap:=h'}):wpAny (model prog w) A (Builtin.Frozenset.updateFrom id r<|.ref d) Q E s:=by
 have T:s.TypeIs (.ref d) "dict":={o,O,hx.1}
 have hz:es.size=m.length:=by
  have:=jB List.length N
  rwa [zD,zD,wC]at this
 unfold Builtin.Frozenset.updateFrom;refine zW ?_;unfold Builtin.Frozenset.isAnySet;refine zW<|wpAny_isInstance T F.sub_dict_set<|wpAny_isInstance T F.sub_dict_frozenset ?_;rw[yO xA];refine zW<|wJ T ?_;rw[yM<|by decide];refine zW<|wD ?_;refine zW<|zX ?_;rw[hs,yO xA];refine zW<|wpAny_dictEpoch O D ?_;refine zW<|wpAny_dictEntries O D ?_;refine zW<|Wh R (by simp;lia) λL a X=>?_;have Z:L.get? d=↑o:=(a.2 d<|jL U).trans O;refine zW<|wpAny_dictEntries Z D ?_;refine zW ?_;rw[Std.Legacy.Range.forIn_eq_forIn_range'];simp?[Std.Legacy.Range.size,Nat.sub_zero,Nat.add_sub_cancel,Nat.div_one];refine wpAny_forIn_list _ (λt _ I=>∃g i,I={s with heap:=g}/\t=List.range' i (es.size-i)/\i<=es.size/\U2 w g r ((m.take i).reverse.map<|ent prog w)/\Heap.SameBut r s.heap g) _ ?_ ?_ _ _ {L,0,rfl,rfl,xV _,X.set,a}
 .rintro x t b I ⟨g,i,rfl,H,hi,f,c⟩;have v:i<es.size:=by
   rcases Nat.lt_or_ge i es.size with h|h
   .exact h
   .rw[Nat.sub_eq_zero_of_le h]at H;cases H
  rw[show es.size-i=(es.size-(i+1))+1 by lia,vE]at H;injection H with e1 e2
  subst e1;have G:g.get? d=↑o:=(c.2 d<|jL U).trans O;refine zW<|wpAny_dictEntries G D ?_;rw[jX v];dsimp only;have M:x<m.length:=by lia
  have ek:(es[x].hash,es[x].key)=ent prog w m[x]:=by
   have:=jB (λl=>l[x]?) N;simp?[zO,Array.getElem?_toList,jX v,zK M,zB]at this;exact xE this
  let(u,B):=Prod.mk.inj ek;rw[u,B];refine zW<|xX ?_;have W:(kd prog w).is g m[x].1 m[x].2:=(K.keep (λb o hb e=>(c.2 b hb).trans e) R.cls) _<|qA M;refine vo (s:={s with heap:=g}) W f (λe C z=>?_) (by rw[zD,List.length_reverse,jU];lia) λJ S k=>?_
  .let(y,Y,rfl):=List.mem_map.mp C;rw[List.mem_reverse]at Y;let(j,hj,rfl):=List.mem_take_iff_getElem.mp Y;rw[List.nodup_iff_pairwise_ne,List.pairwise_iff_getElem]at P;refine P j x (by rw[zD];lia) (by rw[zD];lia) (by lia) ?_;rw[List.getElem_map,List.getElem_map];exact z
  .have n:J.get? d=↑o:=(S.2 d<|jL U).trans G;refine zW<|wpAny_dictEpoch n D ?_;rw[yO<|by simp];refine zX {J,x+1,rfl,e2,v,?_,c.trans S};rw[List.take_succ,zK M];simp?[Option.toList_some,List.reverse_append,kZ,List.reverse_nil,xO,qZ,zI,yV,List.singleton_append];exact k
 .rintro b I ⟨g,i,rfl,H,hi,f,c⟩;have:i=es.size:=by
   rcases Nat.lt_or_ge i es.size with z|z
   .rw[show es.size-i=(es.size-(i+1))+1 by lia,vE]at H;cases H
   .lia
  subst this;refine zX<|q g c<|f.perm ?_;rw[hz,List.take_length];exact((List.reverse_perm m).map _)
def YC{Q:Θ->Ξ->Prop}{o:Obj}{es:Array DictEntry}{ep:Nat}{m:Γ (Γ Int×Ψ)}(O:s.heap.get? d=↑o)(x:o.ExactDict)(z:o.data=.dict es ep)(B:es.toList.map (λe=>(e.hash,e.key))=m.map (ent prog w))(hs:(d==sysModules)=false)(K:VG prog w s.heap m)(X:(m.map λp=>(kd prog w).hash p.1).Nodup)(C:m.length<=500)
  (h:∀(h':ι),U2 w h' s.heap.objs.size (m.map<|ent prog w)->(∀b o,s.heap.get? b=↑o->h'.get? b=↑o)->Q (.ref s.heap.objs.size) {s with heap:=h'}) :
  wpAny (model prog w) A (call (.type "set") [.ref d]) Q E s:=by
 let(c,tl,J):=PySem.F.called_set.mro;have q:=PySem.F.called_set.made;have Xc:=PySem.F.called_set.sub;refine vH<|codeAny_of_tree ?_;show wpAny _ _ (callAny (.type "set") _) _ _ _;refine zX {wI _<|by decide +kernel,kE PySem.F.entry_type_call ?_};rw[Around.under_plain (weight_type_call_type "set" [.ref d] []) rfl];have h1:=PySem.F.called_set.notType;have h2:=PySem.F.called_set.canCreate;have y:=PySem.F.typeCall_set_1<|.ref d
 repeat (any_goals (first|assumption|wp_step))
 refine jQ (Zr (.ref d) (E:=E) (Q₁:=λobj g=>obj=.ref s.heap.objs.size/\g={s with heap:=s.heap.push (ob w)}) {rfl,rfl}) λr g a=>?_;cases r with
 |error e=>exact a
 |ok L =>
  cases L with
  |ret obj =>
   let(rfl,rfl):=a;have S:(s.heap.push<|ob w).get? s.heap.objs.size=↑(ob w):=zY _ rfl;have T:Shared.TypeIs {s with heap:=s.heap.push (ob w)} (.ref s.heap.objs.size) "set":={_,S,rfl}
   have G:=PySem.F.called_set.init.lookup;have t:=PySem.F.called_set.init.bind<|.ref s.heap.objs.size
   repeat (any_goals (first|assumption|wp_step))
   refine jQ (vY (R:=wants (λr j=>r=.none/\∃h',j={s with heap:=h'}/\U2 w h' s.heap.objs.size (m.map<|ent prog w)/\(∀b o,s.heap.get? b=↑o->h'.get? b=↑o)) E) PySem.F.called_set.init.plain PySem.F.entry_set_init<|check_set_init_1 T ?_) λZ j H=>?_
   .have l:d<s.heap.objs.size:=zZ O;have W:(s.heap.push<|ob w).get? d=↑o:=zV _ O;have D:Shared.TypeIs {s with heap:=s.heap.push (ob w)} (.ref d) "dict":={o,W,x.1}
    have M:(ob w).data=.set #[] 0 (.fresh 0 0<|!(w.params.followText "set-order")):=rfl;unfold Builtin.«set.__init__» noKeywords;generalize u:Builtin.Frozenset.updateFrom=U
    wp_walk
    subst u;have Y:s.heap.objs.size≠d:=jH l;have P:VG prog w (s.heap.push<|ob w) m:=λp N=>by
     let(o,i,n,e,r):=K p N;exact{o,i,n,zV _ e,r}
    refine Zs (s:={s with heap:=s.heap.push (ob w)}) Y (Zo S) W x z B hs P X C λh' sb k=>?_;exact zX {rfl,h',rfl,k,λb o e=>(sb.2 b<|yS<|zZ e).trans<|zV _ e}
   .cases Z with
    |error e=>exact H
    |ok f =>
     cases f with
     |ret r =>
      let(rfl,h',rfl,I,v):=H
      repeat (any_goals (first|assumption|wp_step))
      exact h _ I v
     |_=>exact H.elim
  |_=>exact a.elim
end
end Sx
namespace Se
open PySem PySem.W PySem.Calls PyProof.Rows
def Z9{Q:Θ->Ξ->Prop}(vs:Γ Θ)(X:vs.length<64)(z:Nat->Int)(f:SortKind)
  (hc:∀(d:Γ Θ->Ξ->Prop)(g:Θ->Ξ->Prop),(∀(h':ι)(t:Nat),(∀b o,s.heap.get? b=↑o->h'.get? b=↑o)->s.heap.objs.size<=h'.objs.size->d vs {s with heap:=h',toks:=t})->wpAny (model prog w) A.in1 (collect<|.ref l) d g s)
  (hk:2<=vs.length->∀(h':ι)(t:Nat),(∀b o,s.heap.get? b=↑o->h'.get? b=↑o)->∀d:SortKind->Ξ->Prop,d f {s with heap:=h',toks:=t}->wpAny (model prog w) A.in1.in1 (keyKind' vs.toArray) d (λ_ _=>False) {s with heap:=h',toks:=t})
  (v:2<=vs.length->∀(h':ι)(t:Nat),(∀b o,s.heap.get? b=↑o->h'.get? b=↑o)->∀i j C,i<vs.length->j<vs.length->C (SP.ij z i j) {s with heap:=h',toks:=t}->kas_ask prog w A.in1.in1 f vs i j C {s with heap:=h',toks:=t})
  (h:∀(h':ι)(t:Nat)(D:Ψ)(c:Nat),(∀b o,s.heap.get? b=↑o->h'.get? b=↑o)->s.heap.objs.size<=D->h'.get? D=↑(seqObj "list" (X4.Vh z vs).toArray c)->Q (.ref D) {s with heap:=h',toks:=t}) :
  wpAny (model prog w) A (call (.builtin "sorted") [.ref l]) Q E s:=by
 have L:vs.length<=sizeLine:=by rw[qT];lia
 refine Calls.call_function_entry kind_sorted plain_sorted entry_sorted (args_sorted1 _) ?_;unfold Builtin.«sorted»;refine zW (m:=checkCount "sorted" 1 1 _)<|zX<|zW<|hc _ _ λH t k Z=>?_;refine zW<|kN ?_ (by simpa using L);have Y:(H.push<|seqObj "list" vs.toArray 0).get? H.objs.size=↑(seqObj "list" vs.toArray 0):=zY _ rfl;have K:∀h':ι,(∀b o,b≠H.objs.size->(H.push<|seqObj "list" vs.toArray 0).get? b=↑o->h'.get? b=↑o)->∀b o,s.heap.get? b=↑o->h'.get? b=↑o:=λh' q b o e=>q b o (yS<|zZ<|k b o e)<|zV _<|k b o e;show wpAny _ _ _ _ _ ({s with heap:=H.push<|seqObj "list" vs.toArray 0,toks:=t}:Ξ);refine zW<|xX<|qU slot_list_sort {_,Y,rfl} entry_list_sort (X4.V5 (s:=({s with heap:=H.push<|seqObj "list" vs.toArray 0,toks:=t}:Ξ)) Y X z f (λa h' q=>hk a h' t<|K h' q) (λa h' q=>v a h' t<|K h' q) λh' c q e=>{_,rfl,?_})<|args_list_sort _;exact zX {_,rfl,h h' t _ c (K h' q) Z e}
end Se
namespace Dl
open PySem L2 PySem.Spec PyProof.Rows
variable {Q:Θ->Ξ->Prop}
def eB(ns:Γ Int):Int:=reduceHash<|Builtin.Tuple.tupleHashOf<|ns.map hashInt
def lQ:Γ (D×D)->Δ (Γ<|Γ Int)
 |[]=>↑[]
 |p::l=>(bj p.1).bind λn=>(lQ l).map λr=>n::r
def j7(r u:Γ (Γ Int)):Γ (Γ Int):=r++u.filter λk=>!r.contains k
def Bw:D->D->Δ (Γ D)
 |.dict l,.dict m=>(lQ l).bind λr=>(lQ m).bind λu=>if r.Nodup/\u.Nodup/\((j7 r u).map eB).Nodup/\(j7 r u).length<64/\∀n∈j7 r u,n≠[]then↑((mz<|j7 r u).map ae)else none
 |_,_=>none
def dG{r u:Γ (Γ Int)}:k∈j7 r u↔k∈r\/k∈u:=by
 unfold j7;rw[List.mem_append,List.mem_filter];by_cases c:k∈r<;>simp[c]
def BG{r u:Γ (Γ Int)}(H:r.Nodup)(c:u.Nodup):(j7 r u).Nodup:=by
 unfold j7;rw[wR];refine{H,c.filter _,λa A b B e=>?_};subst e;have:=(List.mem_filter.mp B).2;simp[A]at this
section
variable {X:Cx}
def OO{E:Θ->Ξ->Prop}{x:Str}{pos:Pos}{i:Nat}{v:V}(I:Inv X pins σ H s)(n:X.N[i]?=↑x)(f:rA X.env.scope x)(e:σ[i]?=↑(↑v))(q:∀u,RelV v u->Q u s)(d:(x==("__debug__":Str))=false:=by decide)(b:(x==("__classdict__":Str))=false:=by decide):wpAny (model X.prog X.w) X.A (eval (.Name x pos) X.env) Q E s:=by
 let(m,a,L):=I.loc;let(u,r,l):=L i x v n e f;have fin:=q u r;rcases l with ⟨hk,M⟩|⟨hk,c,hc,W⟩
 .exact wF (wpAny_loadName_local I.ok.kind hk a M fin) d
 .rcases hk with hk|hk
  .exact wF (wpAny_loadName_cell I.ok.kind hk hc W fin) d
  .exact wF (wpAny_loadName_free I.ok.kind hk hc W fin b) d
def items_int{P:ε}{w:δ}:∀{ns:Γ Int}{u:Γ Θ},aI (ns.map V.int) u->ItemsAre (intKind P w) ns u
 |[],_,r=>by cases r;exact .nil
 |n::ns,_,r=>by
  rw[zI]at r;cases r with
  |cons h t=>let(T,rfl):=h;exact .cons (intKind_is ..)<|items_int t
def Hw{pins:Γ (Ψ×Obj)}{σ:L2.St}{H:Hp}{s:Ξ}{ns:Γ Int}{b:Ψ}(I:Inv X pins σ H s)(h:fP X.K H b (ns.map V.int)):(Sx.kd X.prog X.w).is s.heap ns b:=by
 let(U,r,(o,a,c,n,d),_):=I.tuple h;exact{o,U.toArray,n,a,c,d,by simpa using items_int r}
def rY{K:Φ}:∀{l:Γ (D×D)}{xs:Γ (Γ j5×Ψ×Θ)}{r:Γ (Γ Int)},eA K HF l xs->lQ l=↑r->∃m:Γ (Γ Int×Ψ),m.map (·.1)=r/\xs.map (λx=>(x.1,x.2.1))=m.map (λp=>(p.1.map Sum.inl,p.2))/\∀p∈m,fP K HF p.2 (p.1.map V.int)
 |[],_,r,h,e=>by cases(show _=[]from h);cases e;exact{[],rfl,rfl,λp H=>by cases H}
 |p::l,_,r,⟨s,n,t,b,xs,a,d,f,g⟩,e=>by
  subst a d;let(k,E,e):=bs e;let(R,c,rfl):=ag e;have:k=s:=by
   have:=dg E;rw[show(fN s,PyData.int n).1=PyData.tuple (s.map PyData.int)from rfl]at this;injection this with this
   have a:=jB intsOf this;rw[bX,bX]at a;exact(xE a).symm
  subst this;let(m,m1,m2,m3):=rY g c;exact⟨(k,b)::m,by rw[zI,m1],by rw[zI,zI,m2],λp H=>by
   rcases List.mem_cons.mp H with rfl|H
   .exact f
   .exact m3 p H⟩
def yi{P:ε}{w:δ}(ns:Γ Int):(tupleKind<|dE P w).hash (ns.map Sum.inl)=(Sx.kd P w).hash ns:=by
 show reduceHash (Builtin.Tuple.tupleHashOf<|(ns.map Sum.inl).map (dE P w).hash)=reduceHash (Builtin.Tuple.tupleHashOf<|ns.map (intKind P w).hash);rw[zM];rfl
def KB{K:Φ}{m:Γ (Γ Int×Ψ)}:(∀p∈m,fP K HF p.2<|p.1.map V.int)->au K HF ((m.map (·.1)).map ae) ((m.map (·.2)).map V.ref):=by
 induction m with
 |nil=>exactλ_=>au.nil
 |cons p m i =>
  intro h;refine au.cons ?_<|i λq H=>h q<|zC _ H;unfold ae;simp?[Rep];refine{p.2,_,rfl,h p zE,?_};have:∀s:Γ Int,au K HF (s.map PyData.int) (s.map V.int):=λs=>by
   induction s with
   |nil=>exact au.nil
   |cons n s i=>exact au.cons (by simp?[Rep]) i
  exact this p.1
end
section
def Fv{Q:SortKind->Ξ->Prop}(p:Paired (p8 s.heap) vs U)(N:∀ns∈U,ns≠[])(b:2<=vs.length)(q:Q (tuples' true) s):wpAny (model prog w) A (keyKind' vs.toArray) Q (λ_ _=>False) s:=by
 let(fs,t,H,f):=sP p N;refine W.kat_kind (T:=.type "int") t (by lia) (λv a=>?_) (by decide) q;let(n,t,rfl):=f v a;exact W.Looks.of_pure rfl
def HU{C:θ->Ξ->Prop}(p:Paired (p8 s.heap) vs U)(hi:i<vs.length)(J:j<vs.length)(q:C (SP.ij (λi=>rk U<|U.getD i []) i j) s):W.kas_ask prog w A (tuples' true) vs i j C s:=by
 have H:=p.length;let(a,o,R,n,f,E,g,c,e):=(gy (d:=Value.none) (d':=[]) p hi).ex;let(b,O,I,N,B,f1,f2,f3,f4):=(gy (d:=Value.none) (d':=[]) p J).ex;unfold W.kas_ask;rw[f,B];have Z:U.getD i []∈U:=by
  rw[zG,zK<|by lia];exact qA _
 have Q:C (lexLt (U.getD i [])<|U.getD j []) s:=by
  rw[Hh Z];exact q
 refine W.kat_lt E c f1 f3 ?_;have:=sf (prog:=prog) (w:=w) (A:=A) (s:=s) 0 e f4 Q;have l:R.size=(U.getD i []).length:=by have:=vW e;simpa using this
 have L:I.size=(U.getD j []).length:=by have:=vW f4;simpa using this
 rw[l,L];exact this
def E2{K:Φ}{u vs:Γ V}(p:u.Perm vs):∀{l:Γ (Γ Int)},au K HF (l.map ae) vs->∃m:Γ (Γ Int),m.Perm l/\au K HF (m.map ae) u:=by
 induction p with
 |nil=>intro l h;exact{l,.refl _,h}
 |cons x _ H =>
  intro l h;cases l with
  |nil=>have:=h.nil_inv;cases this
  |cons k l =>
   let(v,r,e,a,b):=h.cons_inv;cases e;let(m,P,r1):=H b;exact{k::m,P.cons k,au.cons a r1}
 |swap x y r =>
  intro l h
  match l,h with
  |[],h=>have:=h.nil_inv;cases this
  |[k],h =>
   let(v,r,e,a,b):=h.cons_inv;cases e;have:=b.nil_inv;cases this
  |k::c::l,h =>
   let(v,r,e,a,b):=h.cons_inv;cases e;let(d,R,E,A,B):=b.cons_inv;cases E;exact{c::k::l,List.Perm.swap ..,au.cons A<|au.cons a B}
 |trans _ _ i I =>
  intro l h;let(m,P,r1):=I h;let(m2,p2,R):=i r1;exact{m2,p2.trans P,R}
def oV:∀bs:Γ Ψ,aI (bs.map V.ref) (bs.map Value.ref)
 |[]=>.nil
 |b::bs=>.cons rfl (oV bs)
def ED{s:Γ Θ}{bs:Γ Ψ}(p:s.Perm (bs.map Value.ref)):∃cs:Γ Ψ,cs.Perm bs/\s=cs.map Value.ref:=by
 have r:∀u∈s,∃b,u=Value.ref b:=λu H=>by
  let(b,_,rfl):=List.mem_map.mp<|p.mem_iff.mp H;exact{b,rfl}
 have e:s=(s.map λu=>match u with|.ref b=>b|_=>0).map Value.ref:=by
  rw[zM];refine(List.map_id s).symm.trans<|yI λu H=>?_;let(b,rfl):=r u H;rfl
 refine{_,?_,e};have:=p.map λu:Θ=>match u with|.ref b=>b|_=>0
 rw[zM]at this;refine this.trans<|List.Perm.of_eq ?_;exact(yI λb _=>rfl).trans<|List.map_id bs
variable {X:Cx}
def Ci{pos W Y:Pos}{E:Θ->Ξ->Prop}{x:Str}{i:Nat}{l:Γ (D×D)}{r:Γ (Γ Int)}(C:iN X "set" (.type "set"))(I:Inv X pins σ H s)(sm:aA HF H)(J:X.N[i]?=↑x)(U:rA X.env.scope x)(e:σ[i]?=↑(↑v))(R:Rep X.K HF (.dict l) v)(hk:lQ l=↑r)(n:(r.map eB).Nodup)(h5:r.length<=400)(M:(x==("__debug__":Str))=false)(B:(x==("__classdict__":Str))=false)
  (q:∀(m:Γ (Γ Int×Ψ))(h':ι),m.map (·.1)=r->(∀p∈m,fP X.K HF p.2<|p.1.map V.int)->Sx.U2 X.w h' s.heap.objs.size (m.map<|Sx.ent X.prog X.w)->(∀b o,s.heap.get? b=↑o->h'.get? b=↑o)->Q (.ref s.heap.objs.size) {s with heap:=h'}):wpAny (model X.prog X.w) X.A (eval (.Call (.Name "set" W) [.Name x Y] [] pos) X.env) Q E s:=by
 refine qX<|gE I C.gl C.mg C.bt<|callWith_type1<|OO I J U e (λu Z=>?_) M B;simp?[Rep]at R;let(a,P,xs,rfl,L,d):=R;cases Z;let(z,O,o,g,G,j,t,F,g5):=(show cC X.prog X.w H s.heap a (.dT P xs)from I.UX a _<|sm _ _ L)
 let(m,m1,m2,m3):=rY d hk;have c:g.toList.map (λe=>(e.hash,e.key))=m.map (Sx.ent X.prog X.w):=by
  rw[F,zM];have:=jB (List.map λy:Γ j5×Ψ=>((tupleKind<|dE X.prog X.w).hash y.1,Value.ref y.2)) m2;rw[zM,zM]at this;refine Eq.trans ?_<|this.trans ?_
  .rfl
  .refine yI λp _=>?_;show((tupleKind<|dE X.prog X.w).hash<|p.1.map Sum.inl,Value.ref p.2)=_;rw[yi]
 refine Sx.YC G j t c O (λp T=>Hw I<|ay sm<|m3 p T) ?_ (by rw[<-zD (f:=λp:Γ Int×Ψ=>p.1),m1];lia) λh' S k=>q m h' m1 m3 S k;rwa[<-m1,zM]at n
def Gf(hc:X.calm=true)(hu:X.A.in1.in1.in1.units<cLine){x y:Str}{i j:Nat}(B:iN X "sorted" (.builtin "sorted"))(C:iN X "set" (.type "set"))(hN:X.N[i]?=↑x)(hv:rA X.env.scope x)(hN2:X.N[j]?=↑y)(hv2:rA X.env.scope y)(hd:(x==("__debug__":Str))=false:=by decide)(Vb:(x==("__classdict__":Str))=false:=by decide)(hd2:(y==("__debug__":Str))=false:=by decide)(aeY:(y==("__classdict__":Str))=false:=by decide) :
  DF X (.Call (.Name "sorted" p) [.BinOp (.Call (.Name "set" p1) [.Name x q1] [] r1) .BitOr (.Call (.Name "set" p2) [.Name y q2] [] r2) r3] [] pos) (λρ=>(ab i ρ).bind λa=>(ab j ρ).bind<|Bw a):=by
 intro pins s σ H Q I z;let(HF,ρ,out,sm,eo,f,q):=z;let(a,ea,f):=bs f;let(b,eb,f):=bs f;cases a<;>try cases f
 cases b<;>try cases f
 rename_i l1 l2;let(r,hr,f):=bs f;let(u,hu2,f):=bs f;by_cases hn:r.Nodup/\u.Nodup/\((j7 r u).map eB).Nodup/\(j7 r u).length<64/\∀ns∈j7 r u,ns≠[];rotate_left
 .rw[yO hn]at f;cases f
 rw[yM hn]at f;cases f;let(rn,Z,hh,XB,U8):=hn;have G:∀{k d},ab k ρ=↑d->ρ[k]?=↑(↑d):=λ{k d}h=>by
  have h:(ρ[k]?).getD none=↑d:=h;cases e:ρ[k]? with
  |none=>rw[e]at h;cases h
  |some o=>rw[e]at h;rw[show o=↑d from h]
 let(v1,s1,R1):=eo.get i _<|G ea;let(v2,s2,R2):=eo.get j _<|G eb;have ZI:r.length<=(j7 r u).length:=by unfold j7;rw[zN];lia
 have nr:(r.map eB).Nodup:=by
  unfold j7 at hh;rw[qZ,wR]at hh;exact hh.1
 have F:∀k∈j7 r u,∀k'∈j7 r u,eB k=eB k'->k=k':=λk hk k' VP e=>by
  let(i,hi,rfl):=qP hk;let(j,hj,rfl):=qP VP;have:i=j:=(List.getElem_inj (xs:=(j7 r u).map eB) (h₀:=by rwa [zD]) (h₁:=by rwa [zD]) hh).mp (by rw[List.getElem_map,List.getElem_map];exact e);subst this;rfl
 have nu:(u.map eB).Nodup:=by
  rw[List.nodup_iff_pairwise_ne,jD];rw[List.nodup_iff_pairwise_ne]at Z;exact Z.imp_of_mem λ{a b}ha hb z e=>z<|F a (dG.mpr<|.inr ha) b (dG.mpr<|.inr hb) e
 have hl2:u.length<=(j7 r u).length:=by
  refine List.Nodup.length_le_of_subset Z λk hk=>dG.mpr<|.inr hk
 refine qX<|gE I B.gl B.mg B.bt ?_ (by decide) (by decide);refine PyProof.Rows.callWith_builtin1 (e:=.BinOp (.Call (.Name "set" p1) [.Name x q1] [] r1) .BitOr (.Call (.Name "set" p2) [.Name y q2] [] r2) r3) (rest:=[]) ?_ rfl rfl;refine Calls.spliced_cons ?_;refine wpAny_BinOp ?_;refine Ci C I sm hN hv s1 R1 hr nr (by lia) hd Vb λm1 h1 e1 k1 S1 o1=>?_;have I1:=I.kept (t':=s.toks) (h':=h1) o1;refine Ci C I1 sm hN2 hv2 s2 R2 hu2 nu (by lia) hd2 aeY λm2 h2 e2 k2 S2 o2=>?_;have I2:=I1.kept (t':=s.toks) (h':=h2) o2;have lt1:s.heap.objs.size<h1.objs.size:=by
  let(o,_,_,_,g,_):=S1;exact zZ g
 have mk:∀{m:Γ (Γ Int×Ψ)}{t:Γ (Γ Int)},m.map (·.1)=t->(∀k∈t,k∈j7 r u)->∀p∈m,p.1∈j7 r u:=λ{m t}e h p P=>h _ (by rw[<-e];exact List.mem_map.mpr {p,P,rfl});have M:=mk e1 λk hk=>dG.mpr<|.inl hk;have O:=mk e2 λk hk=>dG.mpr<|.inr hk;have Kn:m1.length=r.length:=by rw[<-e1,zD]
 have Lh:m2.length=u.length:=by rw[<-e2,zD]
 refine Sx.abe (s:={s with heap:=h2}) (m1:=m1) (m2:=m2) (show(Sx.kd X.prog X.w).room X.A.in1 from Nat.lt_of_succ_lt<|Nat.lt_of_succ_lt hu) (yS lt1) (S1.at λo e=>o2 _ o e) S2 (by lia) (λp P=>Hw I2<|ay sm<|k1 p P) (λp P=>Hw I2<|ay sm<|k2 p P) (by rw[e1];exact rn) (by rw[e2];exact Z) (λp P q hq e=>?_) λL m o3 S3 U=>?_
 .have R:∀z∈m1++m2,z.1∈j7 r u:=λz hz=>(List.mem_append.mp hz).elim (M z)<|O z;exact F _ (R p P) _ (R q hq) e
 .refine Calls.spliced_nil ?_;have I3:=I2.kept (t':=s.toks) (h':=L) o3;have kk:∀p∈m,fP X.K HF p.2 (p.1.map V.int):=λp P=>(U.sub p P).elim (k1 p)<|k2 p;have pk:(m.map (·.1)).Perm (j7 r u):=by
   refine(List.perm_ext_iff_of_nodup U.nd<|BG rn Z).mpr λk=>{λhk=>?_,λhk=>?_}
   .let(p,P,rfl):=List.mem_map.mp hk;exact(U.sub p P).elim (M p)<|O p
   .refine U.all k ?_;rw[e1,e2];exact dG.mp hk
  have rm0:=KB kk;let(es,ep,t,pe,J):=S3.setAt;have E:=(Se.VR (w:=X.w) (a:=h2.objs.size) (ep:=ep) (es:=es)).trans pe |>.map (λe:Int×Θ=>e.2)
  rw[zM,show((λe:Int×Θ=>e.2) ∘ Sx.ent X.prog X.w)=λp:Γ Int×Ψ=>Value.ref p.2 from rfl,show m.map (λp:Γ Int×Ψ=>Value.ref p.2)=(m.map (·.2)).map Value.ref by rw[zM];rfl]at E;let(S,pc,ec):=ED E;let(mm,pm,rm):=E2 (pc.map V.ref) rm0;have D:=pm.trans pk;have hml:=D.length_eq;have Xw:=rm.length;rw[zD,zD]at Xw;have hsz:es.size=S.length:=by
   have z1:=jB List.length ec;rw[zD,zD,wC,Se.Vj]at z1;exact z1
  have ae0:Paired (p8 L) (S.map Value.ref) mm:=xj I3 sm rm<|oV S;have Y:∀l:ι,(∀b o,L.get? b=↑o->l.get? b=↑o)->Paired (p8 l) (S.map Value.ref) mm:=λl v=>Paired.aaE ae0 λ_ _ r=>r.keep v;refine Se.Z9 (s:={s with heap:=L}) (S.map Value.ref) (by rw[zD];lia) (λi=>rk mm<|mm.getD i []) (tuples' true) (λQ' E' T=>Se.Xj (s:={s with heap:=L}) (by simp[I.ok.hd hc]) J (by rw[PySem.sizeLine_eq];lia) (by rw[ec];exact T)) (λZH l W v Q' T=>?_) (λZH l W v i j C hi hj T=>?_) λl W Dn c v hD e=>?_
  .rw[zD]at ZH;exact Fv (s:={s with heap:=l,toks:=W}) (Y l v) (λns YH=>U8 ns<|D.mem_iff.mp YH) (by rw[zD];exact ZH) T
  .exact HU (s:={s with heap:=l,toks:=W}) (Y l v) hi hj T
  .have hv:=rj (λi=>rk mm<|mm.getD i [])<|oV S;have hr:=sx (λi=>rk mm<|mm.getD i []) rm;have es':mz mm=mz (j7 r u):=vz ((et mm).trans D)<|A1 mm;rw[C6,CJ,es']at hr;have n:=I3.UX.fresh hD;refine{.ref Dn,_,I3.laid (t':=W) (o:=.lst<|AC (λi=>rk mm<|mm.getD i []) (S.map V.ref) .UQ) v hD {?_,_,c,hv,e},rfl,?_}
   .rw[(j9 _ _ _).length_eq,zD,PySem.sizeLine_eq];lia
   .exact q Dn _ _ HF (.own sm n) n (sm.free n) ar hr
end
end Dl
namespace Dd
open PySem
def aaa:typeLookup (.type "list") "keys"=pure none:=by rw[typeLookup_type,builtinLookup_eq_fast];kernel_rfl
def acD:typeLookup (.type "list") "__getattr__"=pure none:=by rw[typeLookup_type,builtinLookup_eq_fast];kernel_rfl
section
variable {prog:ε}{w:δ}{A:ξ}{E:Θ->Ξ->Prop}
def XX{Q:PySem.Fin->Ξ->Prop}{s:Ξ}(b:A.handled=none)(x:s.heap.get? a=↑o)(hc:o.cls=.type "list")(hs:o.data=.seq UR n)(H:o.dict=none)
  (q:∀h' k e,Heap.NewAttrErr s.heap h' e (.ref a) "keys"->E (.ref e) {s with heap:=h',toks:=k}):wpAny (model prog w) A (Builtin.«object.__getattribute__» {[.ref a,.str "keys" k],[]}) Q E s:=by
 let(h,g,d,t,O):=s;have T:({h,g,d,t,O}:Ξ).TypeIs (.ref a) "list":={_,x,hc}
 have f4:=aaa
 repeat (any_goals (first|assumption|wp_step))
 rw[hs];dsimp only;unfold instanceDict
 repeat (any_goals (first|assumption|wp_step))
 rw[hc,H];dsimp only;refine zX ?_
 repeat (any_goals (first|assumption|wp_step))
 exact wpAny_raiseAttrError b q<|attrMsg_fits (by decide +kernel)<|by size_fits
def YD{Q:Δ Θ->Ξ->Prop}{s:Ξ}(c:A.handled=none)(pl:PlainL s.heap a UR)(h:∀(h':ι)(k:Nat),(∀b o,s.heap.get? b=↑o->h'.get? b=↑o)->Q none {s with heap:=h',toks:=k}):wpAny (model prog w) A (getAttr? (.ref a) "keys") Q E s:=by
 let(o,n,x,hc,D,S):=pl;let(p,g,d,t,O):=s;have T:({p,g,d,t,O}:Ξ).TypeIs (.ref a) "list":={_,x,hc}
 have f1:=sub_AttributeError;have f2:=F.slot_list_getattribute.lookup;have f3:=F.slot_list_getattribute.bind<|.ref a;have f5:=acD;unfold getAttr? getAttrBy? getAttrBy
 repeat (any_goals (first|assumption|wp_step))
 rw[hc]
 repeat (any_goals (first|assumption|wp_step))
 refine vY F.slot_list_getattribute.plain F.entry_list_ga<|F.slot_list_getattribute.check _ _ _ _ _ _ _ _ (show(⟨p,g,d,t+1,O⟩:Ξ).TypeIs (.ref a) "list"from⟨_,x,hc⟩) (F.args_list_getattribute_2 _ _)<|XX (s:=⟨p,g,d,t+1,O⟩) (A:=A.in1) c x hc S D λh' k e H=>?_;let(i,u,f):=H.there;dsimp only;unfold getattributeRaised
 repeat (any_goals (first|assumption|wp_step))
 exact h h' k H.keeps
def Vs:plainId "dict.update.loop"=true:=by decide +kernel
def Wi:entryFor table "dict.update.loop"=↑Builtin.«dict.update.loop»:=entryFor_of_tree (by kernel_rfl)
variable {K:Type}[DecidableEq K]{knd:HeapKind prog w K}
section
variable {R:Result->Ξ->Prop}{I:Ψ}{fp wr:Γ Ψ}{G:Array GenState->Array GenState->Prop}{n:Nat}{P:Nat->Θ->Prop}{St:Nat->Ξ->Prop}
def loop(W:WalksS prog w A.in1 I fp wr G n P St)(S:Ψ)(f:S∉fp)(a:Nat->ι->Prop)
  (Y:∀i h h',a i h->(∀b o,b∉wr->h.get? b=↑o->h'.get? b=↑o)->a i h')
  (F:∀i v(s:Ξ),i<n->P i v->a i s.heap->∃p o m k x,v=.ref p/\s.heap.get? p=↑o/\o.cls=.type "tuple"/\o.data=.seq #[k,x] m/\∀(Q:Unit->Ξ->Prop)(E:Θ->Ξ->Prop),(∀h' r,s.toks<=r->Heap.SameBut S s.heap h'->a (i+1) h'->Q () {s with heap:=h',toks:=r})->wpAny (model prog w) A.in1 (dictSet S k x) Q E s) :
  ∀(k i:Nat)(z:Int)(s:Ξ),n-i=k->i<=n->St i s->a i s.heap->(∀s',Moved (S::wr) G s s'->a n s'.heap->R (.ok<|.ret .none) s')->codeAny (model prog w) A (.builtin "dict.update.loop" {[.ref S,.ref I,rawInt z,.none],[]}) R s:=by
 have y:S∉wr:=λh=>f<|W.sub _ h;have up:∀b∈wr,b∈S::wr:=λb H=>zC _ H;intro k
 induction k with
 |zero =>
  intro i z s hk J c g hR;obtain rfl:i=n:=by lia
  refine kE Wi ?_;rw[Around.under_plainId Vs _];show wpAny _ A.in1 (pyNext (.ref I) >>= _) _ _ s;refine zW<|W.done s _ _ c λs' M=>?_;exact zW (zX<|zX<|hR s' (M.mono up)<|Y _ _ _ g M.heap)
 |succ k L =>
  intro i z s hk J c g hR;have C:i<n:=by lia
  refine kE Wi ?_;rw[Around.under_plainId Vs _];show wpAny _ A.in1 (pyNext (.ref I) >>= _) _ _ s;refine zW<|W.item i s _ _ C c λv s' u d M=>?_;let(p,o,m,k,x,rfl,O,hc,D,t):=F i v s' C u<|Y _ _ _ g M.heap;dsimp only;refine zW<|xX<|zW<|wpAny_tryCatch ?_;unfold Builtin.Dict.pairItems;refine zW<|wJ (T:="tuple") {o,O,hc} ?_;rw[yM<|by decide];refine zW<|kG O D<|zX ?_;refine xX<|t _ _ λh' r K B j=>?_;refine zX {plainId_quiet Vs _,L (i+1) _ _ (by lia) C (W.frame _ s' _ _ d K λb H o e=>?_) j λX q l=>?_}
  .rw[B.2 b (λh:b=S=>f (by rw[<-h];exact H))];exact e
  .refine hR X (Moved.trans W.gtrans ((M.mono up).then_heap K λb o H e=>?_) q) l;rw[B.2 b (λh:b=S=>H (by rw[h];exact zE))];exact e
end
abbrev ob:Obj:={cls:=.type "dict",data:=.dict #[]}
def XY{Q:Θ->Ξ->Prop}{s:Ξ}{U:Array Θ}(y:A.handled=none)(pl:PlainL s.heap l U)(I:Nat->ι->Prop)
  (R:∀h':ι,(∀b o,s.heap.get? b=↑o->h'.get? b=↑o)->h'.get? s.heap.objs.size=↑ob->I 0 h')
  (Y:∀i h h' x,s.heap.objs.size<x->I i h->(∀b o,b≠x->h.get? b=↑o->h'.get? b=↑o)->I i h')
  (f:∀i v(s':Ξ),U[i]?=↑v->I i s'.heap->∃p o m k x,v=.ref p/\s'.heap.get? p=↑o/\o.cls=.type "tuple"/\o.data=.seq #[k,x] m/\∀(Q:Unit->Ξ->Prop)(E:Θ->Ξ->Prop),(∀h' t,s'.toks<=t->Heap.SameBut s.heap.objs.size s'.heap h'->I (i+1) h'->Q () {s' with heap:=h',toks:=t})->wpAny (model prog w) A.in1.in1 (dictSet s.heap.objs.size k x) Q E s')
  (h:∀(h':ι)(t:Nat),I U.size h'->(∀b o,b<s.heap.objs.size->s.heap.get? b=↑o->h'.get? b=↑o)->Q (.ref s.heap.objs.size) {s with heap:=h',toks:=t}) :
  wpAny (model prog w) A (call (.type "dict") [.ref l]) Q E s:=by
 refine callType_codes (Q₁:=λobj W=>obj=.ref s.heap.objs.size/\W={s with heap:=s.heap.push ob}) F.kt_called_dict (F.kt_typeCall_dict_1 _) F.entry_dict_init (kt_code_dict_new _ {rfl,rfl}) ?_;rintro obj W ⟨rfl,rfl⟩;have X:(s.heap.push ob).get? s.heap.objs.size=↑ob:=zY _ rfl;have u:Shared.TypeIs {s with heap:=s.heap.push ob} (.ref s.heap.objs.size) "dict":={_,X,rfl}
 have P:PlainL (s.heap.push ob) l U:=let ⟨o,n,e,r⟩:=pl;{o,n,zV _ e,r};refine{u,F.args_dict_init_2 _ _,?_};unfold Builtin.«dict.__init__»;refine zW ?_;unfold Builtin.Dict.selfAndRest;refine zW<|wpAny_notOrdered_dict u ?_;show wpAny _ _ (pure (s.heap.objs.size,[Value.ref l])) _ _ _;refine zX ?_;show wpAny _ _ (Builtin.Dict.updateFrom "dict.__init__" s.heap.objs.size (.ref l) [] .none) _ _ _;unfold Builtin.Dict.updateFrom;have L:Shared.TypeIs {s with heap:=s.heap.push ob} (.ref l) "list":=let ⟨o,n,e,c,_⟩:=P;{o,e,c};refine zW<|wJ L ?_;rw[yM<|by decide];refine zW<|YD (s:={s with heap:=s.heap.push ob}) (A:=A.in1.in1) y P λH t D=>?_;simp?[wG,xH];refine zW<|wD ?_;have S:l<s.heap.objs.size:=let ⟨o,n,e,_⟩:=pl;zZ e;have N:H.get? s.heap.objs.size=↑ob:=D _ _ X;have g:s.heap.objs.size<H.objs.size:=zZ N;have K:∀b o,s.heap.get? b=↑o->H.get? b=↑o:=λb o e=>D _ _<|zV _ e;have a:PlainL H l U:=let ⟨o,n,e,r⟩:=pl;{o,n,K _ _ e,r};refine zW<|qK (s:={s with heap:=H,toks:=t}) a.isList<|zX {plainId_quiet Vs _,?_};have d:l≠H.objs.size:=yS<|wM S g;have q:s.heap.objs.size∉[H.objs.size,l]:=by
  simp?[zR,yG,xU,not_or];exact{yS g,jH S}
 refine loop (A:=A.in1) ((Walks.list (A:=A.in1.in1) y H.objs.size l d U).toS) s.heap.objs.size q I (λi h h' C k=>Y i h h' _ g C λb o B e=>k b o (λz=>B (by rw[yK]at z;exact z)) e) (λi v s' C hP Z=>f i v s' hP Z) (U.size-0) 0 0 _ (by lia) (xV _) {{_,zY _ rfl,rfl,rfl},a.isList.push _} (R _ (λb o e=>zV _<|K b o e)<|zV _ N) λs' M j=>?_;let(h',J,G,T,O):=s';obtain rfl:J=s.gens:=M.gens;obtain rfl:G=s.drawn:=M.drawn;obtain rfl:O=s.os:=M.os;refine{rfl,h h' T j λb o B e=>M.heap b o ?_<|zV _<|K b o e};simp?[zR,yG,xU,not_or];exact{yS B,yS<|wM B g}
end
end Dd
namespace Dl
open PySem L2 PySem.Spec PyProof.Rows
variable {X:Cx}
abbrev Ma(X:Cx):=tupleKind<|dE X.prog X.w
def zk{P:ε}{w:δ}:∀{ns:Γ Int}{u:Γ Θ},aI (ns.map V.int) u->ItemsAre (dE P w) (ns.map Sum.inl) u
 |[],_,r=>by cases r;exact .nil
 |n::ns,_,r=>by
  rw[zI]at r;cases r with
  |cons h t=>let(T,rfl):=h;exact .cons (yb P w n T)<|zk t
def nO{pins:Γ (Ψ×Obj)}{σ:L2.St}{H:Hp}{s:Ξ}{ns:Γ Int}{b:Ψ}(I:Inv X pins σ H s)(h:fP X.K H b (ns.map V.int)):(Ma X).is s.heap (ns.map Sum.inl) b:=by
 let(U,r,(o,a,c,n,d),_):=I.tuple h;exact{o,U.toArray,n,a,c,d,by simpa using zk r}
def iq{X:Cx}{pins:Γ (Ψ×Obj)}{σ:L2.St}{H HF:Hp}{s:Ξ}(I:Inv X pins σ H s)(sm:aA HF H):∀{l:Γ (D×D)}{xs:Γ (Γ j5×Ψ×Θ)},eA X.K HF l xs->∀x∈xs,(Ma X).is s.heap x.1 x.2.1
 |[],_,h,x,a=>by cases(show _=[]from h);cases a
 |p::l,_,⟨N,n,t,b,r,f,c,d,e⟩,x,a=>by
  subst c;rcases List.mem_cons.mp a with rfl|a
  .exact nO I<|ay sm d
  .exact iq I sm e x a
def m6:∀{a b:Γ Int},(a.map Sum.inl:Γ j5)=b.map Sum.inl->a=b
 |[],[],_=>rfl
 |[],_::_,h=>by simp at h
 |_::_,[],h=>by simp at h
 |x::a,y::b,h=>by
  rw[zI,zI]at h;injection h with H c
  injection H with H
  rw[H,m6 c]
def bC(ns:Γ Int):bj (fN ns)=↑ns:=bX ns
def AD(ns:Γ Int)(n:Int):Γ (D×D)->Int
 |[]=>n
 |p::l=>if bj p.1=↑ns then(match p.2 with|.int v=>v|_=>n)else AD ns n l
def Ac{K:Φ}{ns:Γ Int}{n:Int}{t:Tok}:∀{l:Γ (D×D)}{xs:Γ (Γ j5×Ψ×Θ)},eA K HF l xs->∃u,((atKey xs<|ns.map Sum.inl).map (·.2)).getD (.int n t)=.int (AD ns n l) u
 |[],_,h=>by cases(show _=[]from h);exact{t,rfl}
 |p::l,_,⟨k,v,T,b,r,H,a,d,c⟩=>by
  subst H a;let(u,i):=Ac (ns:=ns) (n:=n) (t:=t) c;unfold atKey at i ⊢;unfold AD;rw[List.find?_cons,bC];by_cases e:k=ns
  .subst e;exact{T,by simp}
  .have E:¬(k.map Sum.inl:Γ j5)=ns.map Sum.inl:=λz=>e<|m6 z;rw[yO λz=>e<|xE z,yA E];exact{u,i}
def Ni(U:X.A.in1.in1.in1.units<cLine):O5 X "dict.get" (λx vs H Q=>∃ (HF:Hp) (a:Ψ) (ep:Nat) (xs:Γ (Γ j5×Ψ×Θ)) (l:Γ (D×D)) (b:Ψ) (ns:Γ Int) (n:Int),x=.ref a/\vs=[.ref b,.int n]/\aA HF H/\HF a=↑(.dT ep xs)/\eA X.K HF l xs/\fP X.K HF b (ns.map V.int)/\Q (.int<|AD ns n l) H):=by
 intro p s y H x vs v S Q I m r h;let(HF,a,ep,xs,l,b,ns,n,rfl,rfl,sm,j,d,B,q):=h;cases m;obtain⟨u,Y,rfl,r1,r⟩:∃u Y,S=u::Y/\RelV (.ref b) u/\aI [.int n] Y:=by cases r with|cons h t=>exact{_,_,rfl,h,t}
 let(z,rfl,R):=r.one;cases r1;let(t,rfl):=R;let(Z,k,o,E,g,G,c,f,i):=(show cC X.prog X.w H s.heap a (.dT ep xs)from I.UX a _<|sm _ _ j)
 refine call_meetsIn F.slot_dict_get {o,g,G.1} F.entry_dict_get (F.args_dict_get_3 _ _ _) (meetsH_dict_get_default (Ma X) a b k<|.int n t) {?_,_,xs,nO I<|ay sm B,{o,E,ep,g,G,c,f,iq I sm d,i},?_}
 .exact Nat.lt_of_succ_lt<|Nat.lt_of_succ_lt U
 .let(u,e):=Ac (K:=X.K) (HF:=HF) (ns:=ns) (n:=n) (t:=t) d;rw[e];exact{.int<|AD ns n l,H,I.tok _,{_,rfl},q}
def My:D->D->D->Δ D
 |.dict l,k,.int n=>(bj k).map λs=>.int (AD s n l)
 |_,_,_=>none
def FA(fo fk f:Env->Δ D):Env->Δ D:=λa=>(fo a).bind λx=>(fk a).bind λy=>(f a).bind λz=>My x y z
def LB(J:X.A.in1.in1.in1.units<cLine){fo fk N:Env->Δ D}(M:attributeBase o "get" X.env (eval o X.env)=eval o X.env)
  (u:((backTo UU<|starEach [k,n] X.env).all (λx=>!x.1)&&(backToKw UU<|keywordEach [] X.env).all (λx=>x.1.isSome)&&decide ([k,n].length+([]:Γ Keyword).length+(if([]:Γ Keyword).isEmpty then 0 else 1)<30))=true)
  (Z:(apos.endLine==UU.line)=true)(hs:starEach [k,n] X.env=(false,eval k X.env)::starEach [n] X.env)(m:starEach [n] X.env=(false,eval n X.env)::starEach [] X.env)(O:DE X o fo)(hk:DE X k fk)(I:DE X n N):DE X (.Call (.Attribute o "get" apos) [k,n] [] UU) (FA fo fk N):=
 aE (pS PySem.F.plainAttrs_dict PySem.F.slot_dict_get PySem.F.type_dict_get (Ni J) O (br hk (br I cQ m) hs) M u Z hs (by rw[m];rfl)) λσ H Q z=>by
  let(t,j,d,sm,e,f,q):=z;let(x,K,f):=bs f;let(y,Y,f):=bs f;let(z,L,i):=bs f;refine{t,j,x,sm,e,K,λv1 H1 T g r1=>?_};obtain⟨l,n,rfl,rfl⟩:∃l n,x=.dict l/\z=.int n:=by
   cases x<;>try cases i
   cases z<;>try cases i
   exact{_,_,rfl,rfl}
  let(S,B,rfl):=ag (show(bj y).map _=↑d from i);simp?[Rep]at r1;let(a,E,W,rfl,p,w):=r1;refine{.inr<|.inr<|.inl ⟨rfl,.inr ⟨_,_,g.fh _ _ p⟩⟩,T,j,y,g.fh,e.mono g.ff,Y,λv2 H2 U G r=>?_};rw[dg B]at r;simp?[Rep]at r;let(b,vs,rfl,C,P):=r;have:=dQ P;subst this;refine{U,j,.int n,G.fh,e.mono (g.trans G).ff,L,λv3 s v c R=>?_};simp?[Rep]at R;exact{v,a,E,W,l,b,S,n,rfl,by rw[R],c.fh,c.ff _ _<|G.ff _ _ p,(w.mono G.ff).mono c.ff,ay c.ff C,q _ s v ((g.trans G).trans c)<|by simp[Rep]}
def Al:D->Δ (Γ Int×Int)
 |.tuple [k,.int v]=>(bj k).map (·,v)
 |_=>none
def Bi(h:Al d=↑n):d=.tuple [fN n.1,.int n.2]:=by
 unfold Al at h;split at h
 .let(k,H,rfl):=ag h;rw[dg H]
 .cases h
def Hi:Γ D->Δ (Γ<|Γ Int×Int)
 |[]=>↑[]
 |d::s=>(Al d).bind λn=>(Hi s).map λr=>n::r
def iZ(r:Γ (Γ Int×Int)):D:=.dict<|r.map λp=>(fN p.1,.int p.2)
def lU:D->Δ D
 |.list d=>(Hi d).bind λr=>if(r.map (·.1)).Nodup/\r.length<1000 then↑(iZ r)else none
 |_=>none
def uk:∀{ds:Γ D}{r:Γ (Γ Int×Int)},Hi ds=↑r->ds=r.map λn=>.tuple [fN n.1,.int n.2]
 |[],r,h=>by cases h;rfl
 |d::ds,r,h=>by
  let(n,H,h):=bs h;let(R,a,rfl):=ag h;rw[Bi H,uk a];rfl
def Dx{K:Φ}(HF:Hp)(ad:Nat->Ψ)(t:Nat->Tok):∀(l:Γ (Γ Int×Int))(i:Nat),(∀j,j<l.length->fP K HF (ad<|i+j) ((l.getD j ([],0)).1.map V.int))->eA K HF (l.map λp=>(fN p.1,.int p.2)) ((List.range l.length).map λj=>((l.getD j ([],0)).1.map Sum.inl,ad<|i+j,.int (l.getD j ([],0)).2<|t<|i+j))
 |[],_,_=>rfl
 |p::l,i,h=>by
  refine{p.1,p.2,t i,ad i,_,rfl,?_,h 0<|Nat.succ_pos _,Dx HF ad t l (i+1) λj H=>?_}
  .rw[zL,vL,zI,zM];refine jB _<|yI λj _=>?_;show _=_;simp?[Function.comp,wA,Nat.succ_eq_add_one,show i+(j+1)=i+1+j by lia]
  .have:=h (j+1) (by rw[zL];lia)
   rwa [wA,show i+(j+1)=i+1+j by lia]at this
def Dh{te:TE}(hc:X.calm=true)(hu:X.A.in1.in1.in1.units<cLine)(B:iN X "dict" (.type "dict"))(h:PE X e te)(he:starEach [e] X.env=(false,eval e X.env)::starEach [] X.env) :
  PE X (.Call (.Name "dict" p) [e] [] pos) (λσ H Q=>te σ H λv g=>∃U ds d,aA U g/\Rep X.K U (.list ds) v/\lU (.list ds)=↑d/\∀w Z U3,bc U g U3 Z->Rep X.K U3 d w->Q w Z):=by
 intro pins s σ H Q I z;refine qX<|gE I B.gl B.mg B.bt<|qQ (b9 (br h cQ he pos pins s σ H (λvs g=>match vs with|[v]=>∃U ds d,aA U g/\Rep X.K U (.list ds) v/\lU (.list ds)=↑d/\∀w Z U3,bc U g U3 Z->Rep X.K U3 d w->Q w Z|_=>False) I z) λus S z=>?_) he rfl;let(vs,g,C,rv,z1):=z;obtain⟨v,rfl⟩:∃v,vs=[v]:=by
  rcases vs with _|⟨v,_|_⟩
  .exact z1.elim
  .exact{v,rfl}
  .exact z1.elim
 let(U,ds,d,fh,a1,T,q):=z1;let(r,hr,T):=bs T;by_cases hn:(r.map (·.1)).Nodup/\r.length<1000;rotate_left
 .rw[yO hn]at T;cases T
 rw[yM hn]at T;cases T;let(nd,hz):=hn;have YG:=uk hr;let(u,rfl,rx):=vals1 rv;simp?[Rep]at a1;let(la,ws,rfl,hq,rr):=a1;cases rx;let(F,M,pl,hsz):=C.list<|fh.seq hq;have hlen:F.length=r.length:=by
  have N:=M.length;have L:=rr.length;rw[YG,zD]at L;lia
 have W:∀i,i<r.length->∃bt:Ψ×Tok,∃p o m,F[i]?=↑(.ref p)/\S.heap.get? p=↑o/\o.cls=.type "tuple"/\o.data=.seq #[.ref bt.1,.int (r.getD i ([],0)).2 bt.2] m/\fP X.K U bt.1 ((r.getD i ([],0)).1.map V.int):=λi f=>by
  have Wz:i<F.length:=by lia
  obtain⟨y,Y⟩:∃y,ws[i]?=↑y:={_,zK (by rw[M.length];exact Wz)}
  let(v',l,ry):=M.get Y;let(d,hd,rd):=rr.get Y;rw[YG,zO]at hd;let(n,hn',rfl):=ag hd;have er:r.getD i ([],0)=n:=by rw[zG,hn'];rfl
  simp?[Rep]at rd;let(p,us,rfl,hp,rp):=rd;cases ry;let(c1,r1,rfl,k1,rp):=rp;let(c2,r2,rfl,k2,rp):=rp;cases(show r2=[]from rp);have k2:c2=.int n.2:=k2;subst k2;let(b,ws',rfl,hb,rb):=k1;rw[dQ rb]at hb;let(its',R,(o,h1,h2,m,h3),_):=C.tuple<|ay fh hp;cases R with
  |cons z1 R =>
   cases R with
   |cons z2 R =>
    cases R;cases z1;let(t,rfl):=z2;exact{(b,t),p,o,m,l,h1,h2,by rw[er];exact h3,by rw[er];exact hb}
 let D:Nat->Ψ×Tok:=λi=>if h:i<r.length then Classical.choose (W i h)else(0,0)
 have G:∀i,i<r.length->∃p o m,F[i]?=↑(.ref p)/\S.heap.get? p=↑o/\o.cls=.type "tuple"/\o.data=.seq #[.ref (D i).1,.int (r.getD i ([],0)).2 (D i).2] m/\fP X.K U (D i).1 ((r.getD i ([],0)).1.map V.int):=λi f=>by
  have:=Classical.choose_spec<|W i f;have eb:D i=Classical.choose (W i f):=dif_pos f;rw[eb];exact this
 let en:Nat->Γ j5×Ψ×Θ:=λj=>((r.getD j ([],0)).1.map Sum.inl,(D j).1,.int (r.getD j ([],0)).2 (D j).2)
 have ZO:∀{c:ι},(∀b o,S.heap.get? b=↑o->c.get? b=↑o)->∀j,j<r.length->(Ma X).is c (en j).1 (D j).1:=λ{c}k j J=>by
  let(p,o,m,_,_,_,_,O):=G j J;let(o',i',n',k1,k2):=nO C<|ay fh O;exact{o',i',n',k _ _ k1,k2}
 refine Dd.XY (C.ok.hd hc) pl (λi c=>c.DictOfH (Ma X) S.heap.objs.size ((List.range i).map en)/\i<=r.length/\∀b o,S.heap.get? b=↑o->c.get? b=↑o)
  (λc k0 hS=>{{_,#[],0,hS,{rfl,rfl,rfl},rfl,rfl,λx hx=>(by cases hx),List.nodup_nil},xV _,k0}) (λi h1 h2 x hx ⟨⟨o,es,P,N,L,e3,e4,O,e6⟩,z2,z3⟩ k=>?_) (λi v s' hv ⟨z1,z2,z3⟩=>?_) λc tk ⟨z1,z2,z3⟩ kp=>?_
 .have k':∀b o,S.heap.get? b=↑o->h2.get? b=↑o:=λb o e=>k _ _ (yS<|wM (zZ e) hx)<|z3 _ _ e;refine{{o,es,P,k _ _ (yS hx) N,L,e3,e4,λy Y=>?_,e6},z2,k'};let(j,J,rfl):=List.mem_map.mp Y;exact ZO k' j (by have:=List.mem_range.mp J;lia)
 .have f:i<r.length:=by
   have:=(List.getElem?_eq_some_iff.mp (show F[i]?=↑v by simpa using hv)).1;lia
  let(p,o,m,N,L,e3,e4,O):=G i f;have ev:v=.ref p:=by
   have l:F[i]?=↑v:=by simpa using hv
   rw[N]at l;cases l;rfl
  refine{p,o,m,_,_,ev,z3 _ _ L,e3,e4,λQ E q=>?_};refine wpAny_dictSet_heap (hsz:=by rw[zD,zS,qT];lia) (show(Ma X).room X.A.in1.in1 from Nat.lt_of_succ_lt hu) (ZO z3 i f) z1 λc dd sb=>q c _ (jT _ _) sb {?_,f,λb o e=>(sb.2 b<|yS<|zZ e).trans<|z3 _ _ e};have:storedH ((List.range i).map en) (en i).1 (D i).1 (.int (r.getD i ([],0)).2 (D i).2)=(List.range<|i+1).map en:=by
   rw[vP,qZ];unfold storedH;rw[yO]
   .rfl
   .intro z;unfold atKey at z;rw[Option.isSome_map,List.find?_isSome]at z;let(y,Y,e):=z;let(j,J,rfl):=List.mem_map.mp Y;have J:=List.mem_range.mp J;have e:=m6<|yR e;rw[List.nodup_iff_pairwise_ne,List.pairwise_iff_getElem]at nd;refine nd j i (by rw[zD];lia) (by rw[zD];exact f) J ?_;rw[List.getElem_map,List.getElem_map];rwa[zG,zG,zK f,zK (show j<r.length by lia)]at e
  rw[this]at dd;exact dd
 .rw[show F.toArray.size=r.length by simp[hlen]]at z1;let(o,es,P,N,L,e3,e4,O,e6):=z1;have big:sysModules<S.heap.objs.size:=wM (by decide) (show mainGlobals<S.heap.objs.size from(C.mod.glob.keeps C.bk).lt);have I2:=C.laid (a:=S.heap.objs.size) (o:=.dT P<|(List.range r.length).map en) (h':=c) (t':=tk) z3 (yN _) {by rw[zD,zS,qT];lia,beq_eq_false_iff_ne.mpr<|jL<|yS big,o,es,N,L,e3,e4,e6};have hD1:g S.heap.objs.size=none:=C.UX.fresh<|yN _;have g2:bc U g (upd U S.heap.objs.size<|.dT P<|(List.range r.length).map en) (upd g S.heap.objs.size<|.dT P<|(List.range r.length).map en):=.new fh hD1;refine{.ref _,_,I2,rfl,q _ _ _ g2 ?_};unfold iZ;simp?[Rep];refine{_,_,_,rfl,ar,?_};have:=Dx (K:=X.K) (upd U S.heap.objs.size<|.dT P<|(List.range r.length).map en) (λi=>(D i).1) (λi=>(D i).2) r 0 λj J=>by
   let(p,o,m,_,_,_,_,O):=G j J;rw[jC];exact ay g2.ff O
  simp?[jC]at this;exact this
def JJ(hc:X.calm=true)(u:X.A.in1.in1.in1.units<cLine)(B:iN X "dict" (.type "dict"))(h:DE X e f)(E:starEach [e] X.env=(false,eval e X.env)::starEach [] X.env:=by rfl) :
  DE X (.Call (.Name "dict" p) [e] [] pos) (f1 lU f):=aE (Dh hc u B h E) λk H Q z=>by
 let(b,i,d,sm,o,F,q):=z;let(x,c,F):=bs F;cases x<;>try cases F
 exact{b,i,_,sm,o,c,λv j T g r1=>{T,_,d,g.fh,r1,F,λw a U G r=>q w a U (g.trans G) r}}
end Dl
namespace Ob
open PySem L2 PySem.Spec PyProof.Rows Dl
def cut(H B:Hp):Hp:=λb=>match B b with|none=>H b|some _=>none
def e9(h:cut H B b=↑o):H b=↑o/\B b=none:=by
 unfold cut at h;split at h
 .rename_i e;exact{h,e}
 .cases h
def ie(h:H b=↑o)(e:B b=none):cut H B b=↑o:=by
 unfold cut;rw[e];exact h
def rS(e:B b=↑u):cut H B b=none:=by
 unfold cut;rw[e]
def Jh(H B a:Hp):Hp:=λb=>match cut H B b with|some o=>↑o|none=>a b
def GK(h:Jh H B B' b=↑o):cut H B b=↑o\/B' b=↑o:=by
 unfold Jh at h
 grind
def Mg(h:cut H B b=↑o):Jh H B B' b=↑o:=by
 unfold Jh;rw[h]
def IS(h:cut H B b=none):Jh H B B' b=B' b:=by
 unfold Jh;rw[h]
inductive Fd where|val (d:D)|lst (ds:List D)
abbrev Fs:=Γ<|Str×Fd
inductive j8(K:W.Frag)(HF B:Hp):Fs->List (Str×V)->List Addr->Prop
 |nil:j8 K HF B [] [] []
 |val {f:Str}{d:D}{v:V}{st:Fs}{fs:Γ (Str×V)}{as:Γ Ψ}(r:Rep K HF d v) (h:j8 K HF B st fs as):j8 K HF B ((f,.val d)::st) ((f,v)::fs) as
 |lst {f:Str}{ds:Γ D}{b:Ψ}{us:Γ V}{st:Fs}{fs:Γ (Str×V)}{as:Γ Ψ}(e:B b=↑(.lst us)) (r:au K HF ds us) (h:j8 K HF B st fs as):j8 K HF B ((f,.lst ds)::st) ((f,.ref b)::fs) (b::as)
def j8.imp{K:Φ}{st:Fs}{fs:Γ _}(s:aA HF US)(e:∀b∈as,∀u,B b=↑(.lst u)->B' b=↑(.lst u))(h:j8 K HF B st fs as):j8 K US B' st fs as:=by
 induction h with
 |nil=>exact .nil
 |val r h i=>exact .val (r.mono s) (i e)
 |lst E r h i=>exact .lst (e _ zE _ E) (r.mono s)<|i λb H=>e b<|zC _ H
structure EN(K:W.Frag)(HF B:Hp)(C a:Addr)(st:Fs):Prop where
 ex:∃dx fs as,B a=↑(.ins C dx fs)/\B dx=↑(.own a)/\j8 K HF B st fs as/\as.Nodup
def EN.mono{K:Φ}{st:Fs}(h:EN K HF B C a st)(s:aA HF US):EN K US B C a st:=
 let ⟨d,fs,A,e,E,b,c⟩:=h.ex
 {d,fs,A,e,E,b.imp s λ_ _ _ z=>z,c}
structure Oj where
 C:Ψ
 st:Fs
structure og(K:W.Frag)(UO UP:Hp)(pa:List Addr)(HF H:Hp)(ρ:ak)(os:List Oj)(σ:L2.St)(HB:Hp)(ad:Nat->Addr)(Bs:Nat->Hp):Prop where
 S:fH K UO ⟨HB,ad⟩ HF H ρ σ
 h0:aA UP HB
 at_:∀k o,os[k]?=↑o->EN K HF (Bs k) o.C (ad k) o.st
 sb:∀k,k<os.length->aA (Bs k) HB
 fr:∀k,k<os.length->∀b o,Bs k b=↑o->UP b=none/\UO b=none
 dj:∀j k,j<os.length->k<os.length->j≠k->∀b o,Bs j b=↑o->Bs k b=none
 pl:pa.length<=os.length
 pa:∀k a,pa[k]?=↑a->ad k=a
def fS(K:Φ)(UO UP:Hp)(pa:Γ Ψ)(HF H:Hp)(ρ:ak)(os:Γ Oj)(σ:L2.St):Prop:=∃b a B,og K UO UP pa HF H ρ os σ b a B
section
variable {K:Φ}{UO UP HF H:Hp}{pa:Γ Ψ}{ρ:ak}{os:Γ Oj}{σ:L2.St}{HB:Hp}{ad:Nat->Ψ}{Bs:Nat->Hp}
def og.pure(h:og K UO UP pa HF H ρ os σ HB ad Bs)(S:fH K UO ⟨HB,ad⟩ US H' ρ' σ')(s:aA HF US):og K UO UP pa US H' ρ' os σ' HB ad Bs:=
 {S,h.h0,λk o e=>(h.at_ k o e).mono s,h.sb,h.fr,h.dj,h.pl,h.pa}
def og.nf(h:og K UO UP pa HF H ρ os σ HB ad Bs)(hk:k<os.length)(e:Bs k b=↑o):HF b=none:=by
 cases z:HF b with
 |none=>rfl
 |some u =>
  rcases h.S.gr.nw b u z with q|q
  .rw[(h.fr k hk b o e).2]at q;grind
  .have:=h.sb k hk b o e
   grind
def Ak(S:fH K UO ⟨HB,ad⟩ HF H ρ σ)(r:bc UO U US H')(f:aA HF US)(e:∀b o,HB b=none->H b=↑o->H' b=↑o/\U b=none/\(HF b=none->US b=none))
  (A:∀(i k:Nat),ρ[i]?=↑(Slot.obj k)->ad' k=ad k):fH K UO {U,ad'} US H' ρ σ where
 gr:=r
 val:=λi d h=>let ⟨v,a,b⟩:=S.val i d h;{v,a,b.mono f}
 own:=λi s h=>by
  let(a,q,c,g,j,l,E):=S.own i s h;let(z1,z2,z3):=e a _ l g;exact{a,q,c,z1,z3 j,z2,E.mono f}
 inj:=S.inj
 len:=S.len
 tb:=S.tb.mono f
 tab:=λi m h=>by
  let(a,p,n,c,g,j,l,E):=S.tab i m h;let(z1,z2,z3):=e a _ l g;exact{a,p,n,c,z1,z3 j,z2,E.1,E.2.mono f}
 one:=S.one
 ob:=λi k h=>by
  show σ[i]?=↑(↑(.ref<|ad' k));rw[A i k h];exact S.ob i k h
structure Dm(HF H B US H' B':Hp):Prop where
 gr:bc HF (cut H B) US H'
 sb:aA B' H'
 nw:∀b o,B' b=↑o->US b=none/\cut H B b=none
def og.turn(h:og K UO UP pa HF H ρ os σ HB ad Bs)(hk:os[k]?=↑ob)(t:Dm HF H (Bs k) US H' B')(q:EN K US B' ob.C (ad k) U) :
  og K UO UP pa US H' ρ (os.set k {ob.C,U}) σ (Jh HB (Bs k) B') ad (λj=>if j=k then B' else Bs j):=by
 have l:k<os.length:=(List.getElem?_eq_some_iff.mp hk).1;have g:=h.S.gr;have a:=g.hh;have up:∀b o,cut HB (Bs k) b=↑o->cut H _ b=↑o:=λb o e=>let ⟨E,d⟩:=e9 e;ie (a b o E) d;have G:bc UO (Jh HB (Bs k) B') US H':=by
  refine{λb o e=>?_,g.ff.trans t.gr.ff,t.gr.fh,λb o e=>?_}
  .rcases GK e with z|z
   .exact t.gr.hh b o<|up b o z
   .exact t.sb b o z
  .have p:B' b=none:=by
    cases z:B' b with
    |none=>rfl
    |some u=>rw[(t.nw b u z).1]at e;grind
   have fin:HB b=none\/cut H _ b=none->Jh HB _ B' b=none:=λz=>by
    have:cut HB (Bs k) b=none:=by
     cases c:cut HB _ b with
     |none=>rfl
     |some u =>
      rcases z with z|z
      .have:=(e9 c).1;rw[z]at this;cases this
      .rw[up b u c]at z;cases z
    rw[IS this];lia
   rcases t.gr.nw b o e with z|z
   .rcases g.nw b o z with y|y<;>grind
   .exact .inr<|fin<|.inr z
 refine{Ak h.S G t.gr.ff (λb o E d=>?_) λ_ _ _=>rfl,λb o e=>?_,λj o e=>?_,λj J b o e=>?_,λj J b o e=>?_,λi j I J n b o e=>?_,by rw[yD];exact h.pl,h.pa}
 .have B:Bs k b=none:=by
   cases z:Bs k b with
   |none=>rfl
   |some u=>have:=h.sb k l b u z;rw[E]at this;cases this
  have ch:=ie d B;refine{t.gr.hh b o ch,?_,λf=>t.gr.VF f ch};have:cut HB (Bs k) b=none:=by
   cases c:cut HB _ b with
   |none=>rfl
   |some u=>have:=(e9 c).1;rw[E]at this;cases this
  rw[IS this];cases z:B' b with
  |none=>rfl
  |some u=>have:=(t.nw b u z).2;rw[ch]at this;cases this
 .refine Mg<|ie (h.h0 b o e) ?_;cases z:Bs k b with
  |none=>rfl
  |some u=>have:=(h.fr k l b u z).1;rw[e]at this;cases this
 .rw[xI]at e;by_cases J:k=j
  .grind
  .rw[yO J]at e;rw[yO λz=>J z.symm];exact(h.at_ j o e).mono t.gr.ff
 .rw[yD]at J;by_cases W:j=k
  .rw[yM W]at e;have c:=(t.nw b o e).2;have:cut HB (Bs k) b=none:=by
    cases z:cut HB _ b with
    |none=>rfl
    |some u=>rw[up b u z]at c;cases c
   rw[IS this];lia
  .rw[yO W]at e;exact Mg<|ie (h.sb j J b o e)<|h.dj j k J l W b o e
 .rw[yD]at J;by_cases W:j=k
  .rw[yM W]at e;let(N,m):=t.nw b o e;have z1:UP b=none:=by
    cases z:UP b with
    |none=>rfl
    |some u =>
     cases y:Bs k b with
     |none=>rw[ie (a b u<|h.h0 b u z) y]at m;lia
     |some w=>rw[(h.fr k l b w y).1]at z;grind
   refine{z1,?_};cases z:UO b with
   |none=>rfl
   |some u=>rw[t.gr.ff b u<|g.ff b u z]at N;lia
  .rw[yO W]at e;exact h.fr j J b o e
 .rw[yD]at I J;by_cases Z:i=k
  .rw[yM Z]at e;rw[yO λz=>n<|Z.trans z.symm];cases z:Bs j b with
   |none=>rfl
   |some u =>
    have:=(t.nw b o e).2;rw[ie (a b u<|h.sb j J b u z)<|h.dj j k J l (λz=>n (Z.trans z.symm):j≠k) b u z]at this;lia
  .rw[yO Z]at e;by_cases W:j=k
   .rw[yM W];cases z:B' b with
    |none=>rfl
    |some u =>
     have:=(t.nw b u z).2;rw[ie (a b o<|h.sb i I b o e)<|h.dj i k I l Z b o e]at this
     grind
   .rw[yO W];exact h.dj i j I J n b o e
end
inductive Py where
 |nx (ρ:ak) (os:Γ Oj)|rt (d:D) (os:Γ Oj)
def RA(K:Φ)(UO UP:Hp)(pa:Γ Ψ)(HF:Hp)(E:Ends):Py->Prop
 |.nx b o=>∀a H U,fS K UO UP pa U H b o a->aA HF U->E.nx a H
 |.rt d o=>∀v H U,fS K UO UP pa U H [] o []->Rep K U d v->E.rt v H
abbrev OG:=ak->Γ Oj->Δ Py
def tO(K:Φ)(UO UP:Hp)(pa:Γ Ψ)(g:OG):TS:=λE b H=>∃F a s o,fS K UO UP pa F H a s b/\g a s=↑o/\RA K UO UP pa F E o
def OS(X:Cx)(UO UP:Hp)(pa:Γ Ψ)(st:Ω)(g:OG):Prop:=PS X st<|tO X.K UO UP pa g
def Jf(X:Cx)(UO UP:Hp)(pa:Γ Ψ)(st:Γ Ω)(g:OG):Prop:=xv X st<|tO X.K UO UP pa g
abbrev OF:=ak->Γ Oj->Δ (D×Γ Oj)
def Pp(K:Φ)(UO UP:Hp)(pa:Γ Ψ)(f:OF):TE:=λc H Q=>∃F a s d o,fS K UO UP pa F H a s c/\f a s=↑(d,o)/\∀v b U,fS K UO UP pa U b a o c->aA F U->Rep K U d v->Q v b
def OE(X:Cx)(UO UP:Hp)(pa:Γ Ψ)(e:γ)(f:OF):Prop:=PE X e<|Pp X.K UO UP pa f
abbrev Av:=ak->Γ Oj->Δ (θ×Γ Oj)
def RI(K:Φ)(UO UP:Hp)(pa:Γ Ψ)(f:Av):TT:=λd H Q=>∃F a s b o,fS K UO UP pa F H a s d/\f a s=↑(b,o)/\∀c U,fS K UO UP pa U c a o d->aA F U->Q b c
def OT(X:Cx)(UO UP:Hp)(pa:Γ Ψ)(e:γ)(f:Av):Prop:=PT X e<|RI X.K UO UP pa f
def OW(X:Cx)(UO UP:Hp)(pa:Γ Ψ)(e:γ)(f:Av):Prop:=PW X e<|RI X.K UO UP pa f
abbrev n6:=ak->Γ Oj->Δ (Γ D×Γ Oj)
def Tu(K:Φ)(UO UP:Hp)(pa:Γ Ψ)(f:n6):TA:=λc H Q=>∃F a s d o,fS K UO UP pa F H a s c/\f a s=↑(d,o)/\∀v b U,fS K UO UP pa U b a o c->aA F U->au K U d v->Q v b
def OA(X:Cx)(UO UP:Hp)(pa:Γ Ψ)(es:Γ γ)(f:n6):Prop:=PA X es<|Tu X.K UO UP pa f
section
variable {X:Cx}{UO UP HF H US H':Hp}{pa:Γ Ψ}{ρ ρ':ak}{os os':Γ Oj}{σ σ':L2.St}{st:Ω}{rest:Γ Ω}{e a b c:γ}{es:Γ γ}{pos:Pos}{g1 g2:OG}
def RA.mono{K:Φ}(s:aA HF US)(h:RA K UO UP pa HF E o):RA K UO UP pa US E o:=by
 cases o with
 |nx c O=>exactλa H U S b=>h a H U S (s.trans b)
 |rt d O=>exact h
def fS.ends{K:Φ}(h:fS K UO UP pa HF H ρ os σ):fS K UO UP pa HF H [] os []:=
 let ⟨b,A,B,o⟩:=h
 {b,A,B,o.pure {o.S.gr,λi d z=>by simp at z,λi d z=>by simp at z,λi j d e a z=>by simp at z,yN _,o.S.tb,λi d z=>by simp at z,λi j d e z=>by simp at z,λi k z=>by simp at z}<|.refl _}
def fS.grow{K:Φ}(h:fS K UO UP pa HF H ρ os σ)(g:bc HF H US H'):fS K UO UP pa US H' ρ os σ:=
 let ⟨b,a,B,o⟩:=h
 {b,a,B,o.pure (o.S.grow g) g.ff}
def fS.step{K:Φ}(h:fS K UO UP pa HF H ρ os σ)(g:aA H H'):fS K UO UP pa HF H' ρ os σ:=
 let ⟨b,a,B,o⟩:=h
 {b,a,B,o.pure (o.S.step g)<|.refl _}
def fS.all{K:Φ}(h:fS K UO UP pa HF H ρ os σ):cw K H (aS ρ) σ:=let ⟨_,_,_,o⟩:=h;o.S.all
def fS.Vt{K:Φ}(h:fS K UO UP pa HF H ρ os σ):cw K HF (bh ρ) σ:=let ⟨_,_,_,o⟩:=h;o.S.Vt
def fS.fh{K:Φ}(h:fS K UO UP pa HF H ρ os σ):aA HF H:=let ⟨_,_,_,o⟩:=h;o.S.gr.fh
def fS.hand{K:Φ}(h:fS K UO UP pa HF H ρ os σ)(fz:Γ Nat):∃U,aA HF U/\fS K UO UP pa U H (hand fz 0 ρ) os σ:=
 let ⟨b,d,B,o⟩:=h;let ⟨U,s,a⟩:=o.S.hand fz
 {U,s,b,d,B,o.pure a s}
def fS.VD{K:Φ}(h:fS K UO UP pa HF H ρ os σ)(r:Rep K HF d v):fS K UO UP pa HF H (ρ.set i<|.val d) os (σ.set i<|↑v):=
 let ⟨b,a,B,o⟩:=h
 {b,a,B,o.pure (o.S.VD r)<|.refl _}
def lV(g:ak->Δ Out):OG:=λb o=>(g b).bind fun|.nx a=>↑(.nx a o)|.rt _=>none
def O1{K:Φ}(h:tO K UO UP pa (lV g) E σ H):∃N,tS K UO N g E σ H:=by
 let(F,i,O,o,(B,A,b,k),G,q):=h;let(o1,f,G):=bs G;refine{{B,A},F,i,o1,k.S,f,?_};cases o1 with
 |nx j=>cases G;exactλa c U e s=>q a c U {B,A,b,k.pure e s} s
 |rt d=>cases G
def J5(h:∀N,DS X UO N st g):OS X UO UP pa st (lV g):=λp s a H E I q=>let ⟨N,z⟩:=O1 q;h N p s a H E I z
def Jk:OG:=λa o=>↑(.nx a o)
def dR(g1 g2:OG):OG:=λb s=>(g1 b s).bind fun|.nx a o=>g2 a o|.rt d o=>↑(.rt d o)
def KR:Jf X UO UP pa [] Jk:=qv Cy λE a H z=>by let(F,b,s,o,S,g,q):=z;cases g;exact q a H F S<|.refl _
def zz(c:OS X UO UP pa st g1)(e:Jf X UO UP pa rest g2):Jf X UO UP pa (st::rest) (dR g1 g2):=qv (yd c e) λE l H z=>by
 let(F,i,f,o,S,g,q):=z;let(o1,h,g):=bs g;refine{F,i,f,o1,S,h,?_};cases o1 with
 |nx a O=>exactλj k U b s=>{U,a,O,o,b,g,q.mono s}
 |rt d O=>cases g;exact q
def Df(H:OS X UO UP pa st g1):Jf X UO UP pa [st] g1:=uY H
def cW(fz:Γ Nat)(g:OG):OG:=λa o=>g (hand fz 0 a) o
def C0(fz:Γ Nat)(h:OS X UO UP pa st g1):OS X UO UP pa st (cW fz g1):=bH h λE c H z=>by
 let(F,b,O,o,S,g,q):=z;let(U,a,s):=S.hand fz;exact{U,_,O,o,s,g,q.mono a}
def oD(f:Dl.Env->Δ D):OF:=λa o=>match f (bh a)with
 |some d=>↑(d,o)
 |none=>(f<|aS a).bind λd=>if nP d=true then↑(d,o)else none
def K9(h:DE X e f):OE X UO UP pa e (oD f):=aE h λg H Q z=>by
 let(b,c,O,d,o,S,F,q):=z;unfold oD at F;split at F
 .rename_i D E;cases F;exact{b,bh c,d,S.fh,S.Vt,E,λv a U G r=>q v a U (S.grow G) G.ff r}
 .let(D,E,F):=bs F;split at F
  .rename_i s;cases F;exact{H,aS c,d,.refl _,S.all,E,λv a U G r=>q v a b (S.step G.hh) (.refl _)<|rG s r}
  .cases F
def mN(g:D->D->Δ D)(fa fb:OF):OF:=λa o=>(fa a o).bind λx=>(fb a x.2).bind λy=>(g x.1 y.1).map (·,y.2)
def FP(R:eu X.K r g):∀σ H Q,Pp X.K UO UP pa (mN g fa fb) σ H Q->M9 r (Pp X.K UO UP pa fa) (Pp X.K UO UP pa fb) σ H Q:=λσ H Q z=>by
 let(F,b,o,d,O,S,f,q):=z;let((x,o1),k,f):=bs f;let((y,o2),Y,f):=bs f;let(z,Z,e):=ag f;cases e;exact{F,b,o,x,o1,S,k,λn t T j m r1=>{T,b,o1,y,_,j,Y,λp i U s a l=>R U i x y n p _ Q s.fh (r1.mono a) l Z λv c u G=>q v c u (s.grow G)<|(m.trans a).trans G.ff}}
def Qs(o:iM X (binaryOp op) r)(R:eu X.K r g)(H:OE X UO UP pa a fa)(B:OE X UO UP pa b fb):OE X UO UP pa (.BinOp a op b pos) (mN g fa fb):=aE (Ca o H B)<|FP R
def NG(o:iM X (compareOp op) r)(R:eu X.K r g)(H:OE X UO UP pa a fa)(B:OE X UO UP pa b fb)(m:behindInMarks op b=false):OE X UO UP pa (.Compare a [op] [b] pos) (mN g fa fb):=aE (Dz o H B m)<|FP R
end
section
variable {X:Cx}{UO UP HF H US H':Hp}{pa:Γ Ψ}{ρ ρ':ak}{os os':Γ Oj}{σ σ':L2.St}{st:Ω}{rest:Γ Ω}{e a b c:γ}{es:Γ γ}{pos:Pos}{g1 g2:OG}{fa fb:OF}{ta tb:Av}
def Lb(fa fb:OF):OF:=λa o=>(fa a o).bind λx=>match x.1 with|.bool true=>fb a x.2|.bool false=>↑(.bool false,x.2)|_=>none
def Od(h:OE X UO UP pa a fa):OE X UO UP pa (.BoolOp op [a] pos) fa:=GQ h
def NZ(A:OE X UO UP pa a fa)(B:OE X UO UP pa (.BoolOp .And (b::es) pos) fb):OE X UO UP pa (.BoolOp .And (a::b::es) pos) (Lb fa fb):=aE (FQ A B) λp H Q z=>by
 let(F,g,O,d,o,S,f,q):=z;let((x,o1),m,f):=bs f;refine{F,g,O,x,o1,S,m,λn j U c e r1=>?_};cases x<;>try cases f
 rename_i k;simp?[Rep]at r1;refine{k,r1,?_};cases k with
 |true=>exact so {U,g,o1,d,o,c,f,λv i u l s r=>q v i u l (e.trans s) r}
 |false=>cases f;exact rM<|q _ j U c e<|by simp[Rep]
def oB(f:OF):Av:=λa o=>(f a o).bind λx=>(gB x.1).map (·,x.2)
def DJ:∀σ H Q,RI X.K UO UP pa (oB f) σ H Q->Pp X.K UO UP pa f σ H λx a=>∃c,x=.bl c/\Q c a:=λσ H Q z=>by
 let(b,g,o,k,O,S,F,q):=z;let((x,o1),d,F):=bs F;refine{b,g,o,x,o1,S,d,λv a U s e r1=>?_};cases x<;>try cases F
 exact{_,r1,q a U s e}
def O3(h:OE X UO UP pa a f)(e:∀whole,isTrue a X.env whole=(do let v <- whole;standAt a.pos;holding [v]<|truthy v):=by intro _;rfl):OT X UO UP pa a (oB f):=ml (Iq h e) DJ
def A9(o:iM X (compareOp op) r)(R:eu X.K r g)(A:OE X UO UP pa a fa)(B:OE X UO UP pa b fb)(m:behindInMarks op b=false):OT X UO UP pa (.Compare a [op] [b] pos) (oB<|mN g fa fb):=
 ml (CS o A B m) λc H Q h=>FP R c H _<|DJ c H Q h
def oT(f:Dl.Env->Δ θ):Av:=λa o=>(f<|aS a).map (·,o)
def La(h:DT X e f):OT X UO UP pa e (oT f):=ml h λg H Q z=>by
 let(F,d,s,b,o,S,c,q):=z;let(B,E,z):=ag c;cases z;exact{H,aS d,b,.refl _,S.all,E,λa U G=>q a F (S.step G.hh)<|.refl _}
def rX(fa fb:Av):Av:=λa o=>(fa a o).bind λx=>match x.1 with|true=>↑(true,x.2)|false=>fb a x.2
def As(fa:Av):Av:=λa o=>(fa a o).map λx=>(!x.1,x.2)
def OW.ot(h:OW X UO UP pa a ta):OT X UO UP pa a ta:=PW.pt h
def MX(H:OT X UO UP pa a ta):OW X UO UP pa (.BoolOp .Or [a] pos) ta:=Hj H
def Mn(A:OT X UO UP pa a ta)(B:OW X UO UP pa (.BoolOp .Or (b::es) pos) tb):OW X UO UP pa (.BoolOp .Or (a::b::es) pos) (rX ta tb):=AR (Mt A B) λm H Q z=>by
 let(F,g,O,d,o,S,f,q):=z;let((x,o1),l,f):=bs f;refine{F,g,O,x,o1,S,l,λj U c e=>?_};cases x with
 |false=>exact rM {U,g,o1,d,o,c,f,λi u k s=>q i u k<|e.trans s}
 |true=>cases f;exact so<|q j U c e
def Nc(A:OT X UO UP pa a ta):OT X UO UP pa (.UnaryOp .Not a pos) (As ta):=ml (Gs A) λg H Q z=>by
 let(F,e,o,d,O,S,f,q):=z;let((k,o1),x,z):=ag f;cases z;exact{F,e,o,k,o1,S,x,λb U s c=>q b U s c}
def bI:n6:=λ_ o=>↑([],o)
def aJ(f:OF)(g:n6):n6:=λa o=>(f a o).bind λx=>(g a x.2).map λy=>(x.1::y.1,y.2)
def O2:OA X UO UP pa [] bI:=iW cQ λb H Q z=>by let(F,a,s,d,o,S,f,q):=z;cases f;exact q [] H F S (.refl _) .nil
def LR(E:OE X UO UP pa e fa)(hs:OA X UO UP pa es g)(v:starEach (e::es) X.env=(false,eval e X.env)::starEach es X.env:=by rfl):OA X UO UP pa (e::es) (aJ fa g):=
 iW (br E hs v) λt H Q z=>by
  let(F,a,o,d,O,S,f,q):=z;let((x,o1),j,f):=bs f;let((l,o2),y,z):=ag f;cases z;exact{F,a,o,x,o1,S,j,λn m T c k r1=>{T,a,o1,l,_,c,y,λp b U i s r=>q _ b U i (k.trans s)<|au.cons (r1.mono s) r}}
def xw(t:Av)(g1 g2:OG):OG:=λa o=>(t a o).bind λx=>if x.1=true then g1 a x.2 else g2 a x.2
def P7(hc:OT X UO UP pa c ta)(A:Jf X UO UP pa ss g1)(B:Jf X UO UP pa us g2):OS X UO UP pa (.If c ss us pos) (xw ta g1 g2):=bH (MK hc A B) λE f H z=>by
 let(F,a,O,o,S,g,q):=z;let((b,o1),h,g):=bs g;refine{F,a,O,b,o1,S,h,λe U d s=>?_};cases b with
 |true=>exact so {U,a,o1,o,d,g,q.mono s}
 |false=>exact rM {U,a,o1,o,d,g,q.mono s}
def gD(f:OF):OG:=λa o=>(f a o).map λx=>.rt x.1 x.2
def F9(h:OE X UO UP pa e fa):OS X UO UP pa (.Return (↑e) pos) (gD fa):=bH (Bf h) λE f H z=>by
 let(F,c,O,o,S,g,q):=z;let((d,o1),h,z):=ag g;cases z;exact{F,c,O,d,o1,S,h,λv a U b s=>q v a U b.ends}
def hJ(i:Nat)(f:OF):OG:=λa o=>(f a o).map λx=>.nx (a.set i<|.val x.1) x.2
def O7(i:Nat)(n:X.N.Nodup)(hi:X.N[i]?=↑x)(j:Loc X.env.scope x)(c:OE X UO UP pa e fa)(hs:swapsWith e (↑(.Name x pos')) pos.line X.env=pure false:=by rfl)
  (f:X.fn x=true\/X.env.scope.names.lookup x=↑.local:=by first|exact .inl rfl|exact .inr rfl|assumption):OS X UO UP pa (.Assign [.Name x pos'] e pos) (hJ i fa):=bH (sO n hi j c hs f) λE l H z=>by
 let(F,k,O,o,S,g,q):=z;let((d,o1),h,z):=ag g;cases z;exact{F,k,O,d,o1,S,h,λv a U b s r=>q _ a U (b.VD r) s}
end
section
variable {os os':Γ Oj}{st:Ω}{rest:Γ Ω}
def fS.tbs{K:Φ}(h:fS K UO UP pa HF H ρ os σ):cm K HF:=let ⟨_,_,_,o⟩:=h;o.S.tb
def fT(n:Nat)(m:Γ D->Δ D)(fs:n6):OF:=λa o=>(fs a o).bind λx=>if x.1.length=n then(m x.1).map (·,x.2)else none
def Lp{fs:n6}(F:FI X.prog X.w X.K X.mg X.base k x n m)(R:cE k X.A)(G:Gl X x)(j:OA X UO UP pa (e::es) fs)(i:(x==("__debug__":Str))=false:=by decide)
  (o:starEach (e::es) X.env=(false,eval e X.env)::starEach es X.env:=by rfl)(W:(backTo pos<|starEach es X.env).any (·.1)=false:=by rfl):OE X UO UP pa (.Call (.Name x p) (e::es) [] pos) (fT n m fs):=by
 let(f,P,Y,O,M,hk,B):=F.ex;refine aE (vb (E:=E0) O R G M hk B .nil nL j i o W) λσ H Q z=>?_;let(c,I,u,d,y,S,a,q):=z;let((D,o1),t,a):=bs a;split at a
 .rename_i L;let(N,l,z):=ag a;cases z;exact{c,I,u,D,o1,S,t,λZ J T s C r1=>{T,D,d,s.fh,s.tbs,by rw[qF];exact r1,L,l,λv b U g r=>q v b U (s.grow g) (C.trans g.ff) r}}
 .cases a
def jy(tgt:ak->D->Δ ak)(gb:OG):Γ D->OG
 |[],a,o=>↑(.nx a o)
 |d::s,a,o=>(tgt a d).bind λb=>(gb b o).bind fun|.nx L W=>jy tgt gb s L W|.rt v W=>↑(.rt v W)
def Hv(fz:Γ Nat)(fi:Dl.Env->Δ (Γ D))(tgt:ak->D->Δ ak)(gb:OG):OG:=λa o=>(fi<|bh<|hand fz 0 a).bind λd=>jy tgt gb d (hand fz 0 a) o
def Ux(K:Φ)(UO UP:Hp)(pa:Γ Ψ)(f:ak->D->Δ ak):TG:=λv e H Q=>∃F c o d a,fS K UO UP pa F H c o e/\Rep K F d v/\f c d=↑a/\∀b,fS K UO UP pa F H a o b->Q b H
def Q4(h:∀N,HQ X UO N tg tgt):PG X tg (Ux X.K UO UP pa tgt):=λp s i H v u Q I r ⟨F,g,O,d,a,⟨c,A,B,o⟩,R,f,q⟩ =>
 h _ p s i H v u Q I r {F,g,d,a,o.S,R,f,λb e=>q b {c,A,B,o.pure e<|.refl _}}
def MY(fz:Γ Nat)(hp:PassesOwn (model X.prog X.w) X.A X.env X.xe)(hc:X.calm=true)(hi:DI X tg iter fi)(g:∀N,HQ X UO N tg tgt)(hb:Jf X UO UP pa body gb)
  (hs:∀x,foldedSetIterable iter X.env x=pure x:=by intro _;rfl):OS X UO UP pa (.For tg iter body [] pos) (Hv fz fi tgt gb):=bH (HA hp hc hi (Q4 g) hb hs) λE σ H z=>by
 let(HF,ρ,os,o,S,g,q):=z;let(D,h,g):=bs g;let(T,s1,n):=S.hand fz;refine{T,_,D,n.fh,n.Vt,h,λJ H2 u G it=>({λi m b c=>m+i=D.length/\∃U a s,fS X.K UO UP pa U c a s b/\aA u U/\jy tgt gb (D.drop i) a s=↑o,{D.length,rfl,u,_,os,n.grow G,.refl _,g},?_})};rintro i m b c ⟨hm,U,a,s,k,l,f⟩;by_cases hi:i<D.length
 .refine .inr ?_;have B:=kY hi;have C:=List.getElem?_eq_some_iff.mpr {hi,rfl};generalize D[i]=d at B C;rw[B]at f;let(e,h1,f):=bs f;let(o1,h2,f):=bs f;let(go,P):=it.go i d c U C l k.fh;refine{go,λp j=>∃v W O,fS X.K UO UP pa v j W O p/\aA u v/\jy tgt gb _ W O=↑o,λp j z=>by let(v,W,O,Q,R,Y):=z;exact {m-1,by lia,by lia,v,W,O,Q,R,Y},λx j y=>?_};let(v,r,rx):=P x j y;refine{v,a,s,d,e,k.grow r,rx,h1,λp F=>{v,e,s,o1,F,h2,?_}};cases o1 with
  |nx L t=>exactλσ4 H4 M I s4=>{M,L,t,I,(l.trans r.ff).trans s4,f}
  |rt d t=>cases f;exact q
 .have Z:i=D.length:=by lia
  subst Z;rw[List.drop_length]at f;cases f;exact .inl {it.stop c U l k.fh,q b c U k<|(s1.trans G.ff).trans l}
end
inductive gQ(K:W.Frag)(HF:Hp)(a:Addr):List Slot->List V->Prop
 |nil:gQ K HF a [] []
 |val {d:D}{v:V}{r:Γ Slot}{vs:Γ V}(h:Rep K HF d v) (t:gQ K HF a r vs):gQ K HF a (.val d::r) (v::vs)
 |obj {r:Γ Slot}{vs:Γ V}(t:gQ K HF a r vs):gQ K HF a (.obj 0::r) (.ref a::vs)
def gQ.length{K:Φ}(h:gQ K HF a as vs):vs.length=as.length:=by
 induction h with
 |nil=>rfl
 |val _ _ i=>exact jB _ i
 |obj _ i=>exact jB _ i
def gQ.get{K:Φ}(h:gQ K HF a as vs):∀{i:Nat},as[i]?=↑s->∃v,vs[i]?=↑v/\((∃d,s=.val d/\Rep K HF d v)\/(s=.obj 0/\v=.ref a)):=by
 induction h with
 |nil=>intro i e;cases e
 |val r _ I =>
  intro i e;cases i with
  |zero=>cases e;exact{_,rfl,.inl {_,rfl,r}}
  |succ i=>exact I e
 |obj _ I =>
  intro i e;cases i with
  |zero=>cases e;exact{_,rfl,.inr {rfl,rfl}}
  |succ i=>exact I e
def Lj(K:Φ)(C:Ψ)(n:Nat)(m:Γ Slot->Fs->Δ (D×Fs)):Sp:=λS H Q _=>∃F B a s st d f,aA F H/\cm K F/\aA B H/\(∀b o,B b=↑o->F b=none)/\EN K F B C a st/\gQ K F a s S/\s.length=n/\m s st=↑(d,f) /\
 ∀v e U c,Dm F H B U e c->EN K U c C a f->Rep K U d v->Q v e
def RS(C:Ψ)(d:D):Γ Oj->Δ (D×Fs)|o::_=>if o.C=C then↑(d,o.st)else none|[]=>none
def jn(g:OG)(C:Ψ)(n:Nat):Γ Slot->Fs->Δ (D×Fs):=λa st=>(g (a++List.replicate (n-a.length) .UQ) [⟨C,st⟩]).bind fun|.rt d o=>RS C d o|.nx _ o=>RS C .none o
def DK{K:Φ}{st:Fs}(sm:aA HF H)(tb:cm K HF)(u:aA B H)(p:∀b o,B b=↑o->HF b=none)(q:EN K HF B C a st)(R:gQ K HF a as vs) :
  fS K HF (cut H B) [a] HF H (as++List.replicate (N.length-as.length) .UQ) [⟨C,st⟩] (L2.start N vs):=by
 have l:∀(i:Nat)(s:Slot),(as++List.replicate (N.length-as.length) .UQ)[i]?=↑s->s=.UQ\/∃v,(L2.start N vs)[i]?=↑(↑v)/\((∃d,s=.val d/\Rep K HF d v)\/(s=.obj 0/\v=.ref a)):=λi s h=>by
  by_cases I:i<as.length
  .rw[yT I]at h;let(v,f,z):=R.get h;refine .inr {v,?_,z};unfold L2.start;rw[yT<|by simpa [R.length]using I,zO,f];rfl
  .rw[yU<|by lia,yY]at h;split at h
   .cases h;exact .inl rfl
   .cases h
 have D:∀(i:Nat)(s:Slot),(as++List.replicate (N.length-as.length) .UQ)[i]?=↑s->(∀d,s≠.val d)->s≠.UQ->s=.obj 0:=λi s h m n=>by
  rcases l i s h with z|⟨v,_,⟨d,z,_⟩|⟨z,_⟩⟩
  .exact absurd z n
  .exact absurd z<|m d
  .exact z
 refine{H,λ_=>a,λ_=>B,{{.refl sm,λi d h=>?_,λi S h=>?_,λi j S E b h=>?_,?_,tb,λi t h=>?_,λi j t L h=>?_,λi k h=>?_},λb o e=>(e9 e).1,λk o e=>?_,λk hk=>u,λk hk b o e=>{rS e,p b o e},λj k J hk w=>?_,yN _,λk c e=>?_}}
 .rcases l i _ h with z|⟨v,f,⟨g,z,r⟩|⟨z,_⟩⟩
  .cases z
  .cases z;exact⟨v,f,r⟩
  .cases z
 .cases D i _ h (λd z=>by cases z) (λz=>by cases z)
 .cases D i _ h (λd z=>by cases z) (λz=>by cases z)
 .unfold L2.start;rw[zN,zN,zD,xM,xM,R.length];exact yN _
 .cases D i _ h (λd z=>by cases z) (λz=>by cases z)
 .cases D i _ h (λd z=>by cases z) (λz=>by cases z)
 .rcases l i _ h with z|⟨v,f,⟨g,z,r⟩|⟨_,z⟩⟩
  .cases z
  .cases z
  .rw[f,z]
 .cases k with
  |zero=>simp?[xQ]at e;cases e;exact q
  |succ k=>simp at e
 .simp at J hk;lia
 .cases k with
  |zero=>simp?[xQ]at e;cases e;rfl
  |succ k=>simp at e
def fS.left{K:Φ}{os:Γ Oj}(h:fS K HF (cut H B) [a] US H' [] os [])(e:RS C d os=↑(d',U)):d'=d/\∃i,Dm HF H B US H' i/\EN K US i C a U:=by
 let(j,D,s,o):=h;cases os with
 |nil=>cases e
 |cons ob os =>
  have e:(if ob.C=C then↑_ else none)=↑_:=e;by_cases g:ob.C=C
  .rw[yM g]at e;cases e;have f:0<(ob::os).length:=by simp
   have A:=o.at_ 0 ob rfl;rw[(o.pa 0 a rfl),g]at A;refine{rfl,s 0,{{λb u z=>o.S.gr.hh b u<|o.h0 b u z,o.S.gr.ff,o.S.gr.fh,λb u z=>?_},λb u z=>o.S.gr.hh b u<|o.sb 0 f b u z,λb u z=>{o.nf f z,(o.fr 0 f b u z).1}},A};rcases o.S.gr.nw b u z with y|y
   .exact .inl y
   .refine .inr ?_;cases c:cut H B b with
    |none=>rfl
    |some w=>have:=o.h0 b w c;grind
  .rw[yO g]at e;cases e
structure Top(X:Cx)(st:Stmt):Prop where
 hs:X.stack=X.env::X.outer
 hf:X.env.frame=↑X.env.locals
 lc:∀n,(ax st).names.lookup n=↑.local -> X.env.kindOf n=↑.local /\ X.env.scope.names.lookup n=↑.local
 nc:∀n,((ax st).names.all λy=>!(y.2==NameKind.cell))=true->X.env.cells.lookup n=none
def uD:∀(s:Γ (Str×NameKind))(n:Nat),(s.all λy=>!(y.2==NameKind.cell))=true->cellsFrom n s []=[]
 |[],_,_=>rfl
 | (x,k)::r,n,h=>by
  rw[xS,zF]at h;unfold cellsFrom;rw[yO<|by simpa using h.1];exact uD r n h.2
def Qa{K:Φ}{st:Ω}:Top (z7 CX P w K mg base N qual (ax st) f U A outer s H E).ZM st:=⟨rfl,rfl,λn h=>⟨h,h⟩,λn h=>by
 show List.lookup n (cellsFrom _ _ [])=none;rw[uD _ _ h];rfl⟩
def Qo{K:Φ}{st:Ω}(F:CM K x qual st f fd)(S:bO N ps (ax st))
  (body:∀X ,X.prog=P->X.w=w->X.K=K->X.mg=mg->X.base=base->Bk X N (ax st) k->Top X st->∀UO UP pa,Jf X UO UP pa (ba st) g):dZ P w K mg base vi (k+1) f fd ps (Lj K C ps.length<|jn g C N.length):=by
 let(oc,od,kV,m,pm,an,Vu,ct,Xq,rfl,L,i):=F.ex;refine Cf L i S (λvs H Q E z=>by let(e,B,a,l,st,d,j,h1,_,_,_,_,n,p,_):=z;rw[n.length,p]) λA O s H vs Q E R z=>?_;let(e,B,a,l,st,d,j,sm,Z,Y,u,J,T,hl,D,q):=z;refine{_,(body _ rfl rfl rfl rfl rfl {rfl,S.nd,λy kd=>.inl,rfl,λ_ _=>rfl,R,rfl,S.kind} Qa e (cut H B) [a]).ZM,?_};let(o,G,D):=bs D;refine{e,_,_,o,DK sm Z Y u J T,G,?_};cases o with
 |rt d' M =>
  exactλv c U I r=>by
   let(rfl,b,t,z):=fS.left I D;exact q v c U b t z r
 |nx ρ' M =>
  exactλσ' c U I _=>by
   let(rfl,b,t,z):=fS.left I.ends D;exact q _ c U b t z (by rfl)
section
variable {K:Φ}{HF B:Hp}
def oS{f:Str}{st:Fs}{fs:Γ (Str×V)}{as:Γ Ψ}(h:j8 K HF B st fs as)(e:st.lookup f=none):fs.lookup f=none:=by
 induction h with
 |nil=>rfl
 |@val g _ _ _ _ _ r h i =>
  rw[yC]at e ⊢;cases z:f==g with
  |true=>rw[z]at e;cases e
  |false=>rw[z]at e;exact i e
 |@lst g _ _ _ _ _ _ E r h i =>
  rw[yC]at e ⊢;cases z:f==g with
  |true=>rw[z]at e;cases e
  |false=>rw[z]at e;exact i e
def AI{f:Str}{ds:Γ D}{st:Fs}{fs:Γ (Str×V)}{as:Γ Ψ}(h:j8 K HF B st fs as)(e:st.lookup f=↑(.lst ds)):∃b u,fs.lookup f=↑(.ref b)/\b∈as/\B b=↑(.lst u)/\au K HF ds u:=by
 induction h with
 |nil=>cases e
 |@val g _ _ _ _ _ r h i =>
  rw[yC]at e ⊢;cases z:f==g with
  |true=>rw[z]at e;cases e
  |false=>rw[z]at e;exact i e
 |@lst g _ _ _ _ _ _ E r h i =>
  rw[yC]at e ⊢;cases z:f==g with
  |true=>rw[z]at e;cases e;exact{_,_,rfl,zE,E,r}
  |false =>
   rw[z]at e;let(a,Y,E,c,d):=i e;exact{a,Y,E,zC _ c,d}
def p5(f:Str)(x:Fd):Fs->Fs
 |[]=>[(f,x)]
 | (g,y)::r=>if g=f then(g,x)::r else(g,y)::p5 f x r
end
section
variable {X:Cx}{UO UP HF H US H':Hp}{pa:Γ Ψ}{ρ ρ':ak}{os os':Γ Oj}{σ σ':L2.St}{st:Ω}{rest:Γ Ω}{e a b c:γ}{es:Γ γ}{pos p px apos:Pos}{g1 g2:OG}{fa fb:OF}{ta tb:Av}
def iF{K:Φ}{HF:Hp}{a:Ψ}:∀{ds:Γ D}{vs:Γ V},au K HF ds vs->gQ K HF a (ds.map Slot.val) vs
 |[],vs,r=>by rw[r.nil_inv];exact .nil
 |d::ds,vs,r=>by
  let(v,u,rfl,r1,R):=r.cons_inv;exact .val r1<|iF R
def obj(i:Nat)(C:Ψ)(ρ:ak)(os:Γ Oj):Δ (Nat×Fs):=match ρ[i]? with
 |some (.obj k)=>match os[k]? with
  |some o=>if o.C=C then↑(k,o.st)else none
  |none=>none
 |_=>none
def obj_some{i k:Nat}{C:Ψ}{st:Fs}(h:obj i C ρ os=↑(k,st)):ρ[i]?=↑(.obj k)/\os[k]?=↑⟨C,st⟩:=by
 unfold obj at h;split at h
 .rename_i K e;split at h
  .rename_i o E;split at h
   .rename_i a;cases h;refine{e,?_};rw[E,<-a]
   .cases h
  .cases h
 .cases h
def bK(i:Nat)(C:Ψ)(m:Str)(n:Nat)(mm:Γ Slot->Fs->Δ (D×Fs))(fs:n6):OF:=λa o=>(obj i C a o).bind λx=>if(x.2.lookup m).isNone=true then(fs a o).bind λy=>(obj i C a y.2).bind λz=>if y.1.length+1=n then(mm (.obj 0::y.1.map Slot.val) z.2).map λw=>(w.1,y.2.set z.1 {C,w.2})else none else none
def Ic{k n i:Nat}{C:Ψ}{m:Str}{mm:Γ Slot->Fs->Δ _}{fs:n6}{E:XK}:∀σ H Q,Pp X.K UO UP pa (bK i C m n mm fs) σ H Q->GR C m (Lj X.K C n mm) [] E (IG i) (Tu X.K UO UP pa fs) σ H Q:=λσ H Q z=>by
 let(F,ρ,Z,d,os',S,f,q):=z;let((k,st),J,f):=bs f;split at f
 .rename_i L;let((s,o1),M,f):=bs f;let((k2,D),N,f):=bs f;split at f
  .rename_i P;let((G,Y),O,f):=ag f;cases f;let(e,j):=obj_some J;let(l,g):=obj_some N;rw[e]at l;cases l;have S0:=S;let(HB,A,Bs,o):=S;let(I,R,as,f1,f2,f3,f4):=(o.at_ k _ j).ex;refine{_,o.S.ob i k e,A k,I,R,rfl,o.S.gr.hh _ _<|o.sb k ((List.getElem?_eq_some_iff.mp j).1) _ _ f1,oS f3 (by cases z:st.lookup m with|none=>rfl|some _=>rw[z]at L;cases L),F,ρ,Z,s,o1,S0,M,λvs H1 T y s1 r1=>?_};let(x,c,B,W):=y;have a:=(List.getElem?_eq_some_iff.mp g).1;have p:c k=A k:=by
    have z1:=W.S.ob i k e;rw[(o.S.ob i k e)]at z1;injection z1 with z1
    injection z1 with z1
    injection z1 with z1
    exact z1.symm
   rw[qF];exact{T,B k,A k,.obj 0::s.map _,D,G,Y,W.S.gr.fh,W.S.tb,λb u z=>W.S.gr.hh b u<|W.sb k a b u z,λb u=>W.nf a,p▸W.at_ k _ g,.obj<|iF r1,by simpa using P,O,λv w U B' t z r=>(q v w U {_,_,_,W.turn g t<|p▸z} (s1.trans t.gr.ff) r)}
  grind
 grind
end
structure MM(P:Program)(w:World)(K:W.Frag)(mg:Str->Option Value)(base:Heap)(k:Nat)(C:Addr)(m:Str)(n:Nat)(mm:List Slot->Fs->Option (D×Fs)):Prop where
 ex:∃ (f:Ψ) (fd:η) (ps:Γ Str),dZ P w K mg base vi k f fd ps (Lj K C n mm)/\AW K C m f/\Binds K fd ps []
def MM.mono{K:Φ}{mm:Γ Slot->Fs->Δ _}(F:MM P w K mg base k C m n mm)(h:k<=j):MM P w K mg base j C m n mm:=by
 let(f,d,p,a,b,c):=F.ex;exact{f,d,p,a.mono h,b,c}
section
variable {os os':Γ Oj}{st:Ω}{rest:Γ Ω}
def Ll{mm:Γ Slot->Fs->Δ (D×Fs)}{fs:n6}{pl:Sem θ}(F:MM X.prog X.w X.K X.mg X.base k C m n mm)(r:cE k X.A)(H:X.N[i]?=↑x)(c:rA X.env.scope x)(cl:tK X.K C)(a:OA X UO UP pa (e::es) fs)
  (d:(x==("__debug__":Str))=false:=by decide)(b:(x==("__classdict__":Str))=false:=by decide)
  (v:starEach (e::es) X.env=(false,eval e X.env)::starEach es X.env:=by rfl)(W:(backTo pos<|starEach es X.env).any (·.1)=false:=by rfl)
  (ht:eval (.Call (.Attribute (.Name x px) m apos) (e::es) [] pos) X.env=(do
   let o <- eval (.Name x px) X.env
   standAt apos.atName
   let (f,first) <- holding [o]<|getMethod o m pl
   callWith pos f first (backTo pos<|starEach (e::es) X.env) (backToKw pos<|keywordEach [] X.env)):=by rfl) :
  OE X UO UP pa (.Call (.Attribute (.Name x px) m apos) (e::es) [] pos) (bK i C m n mm fs):=by
 let(f,g,p,O,M,B):=F.ex;exact aE (J6 (dv H c d b) cl M O r B .nil nL a v W ht)<|Ic (k:=k)
def Gv{mm:Γ Slot->Fs->Δ (D×Fs)}{pl:Sem θ}(F:MM X.prog X.w X.K X.mg X.base k C m n mm)(R:cE k X.A)(l:X.N[i]?=↑x)(t:rA X.env.scope x)(cl:tK X.K C)
  (r:(x==("__debug__":Str))=false:=by decide)(B:(x==("__classdict__":Str))=false:=by decide)
  (ht:eval (.Call (.Attribute (.Name x px) m apos) [] [] pos) X.env=(do
   let o <- eval (.Name x px) X.env
   standAt apos.atName
   let (f,first) <- holding [o]<|getMethod o m pl
   callWith pos f first (backTo pos<|starEach [] X.env) (backToKw pos<|keywordEach [] X.env)):=by rfl) :
  OE X UO UP pa (.Call (.Attribute (.Name x px) m apos) [] [] pos) (bK i C m n mm bI):=by
 let(f,G,P,O,M,p):=F.ex;refine aE (rE (dv l t r B) cl M O R p .nil nL ht) λy H Q h=>?_;let(v,e,a,d,fs,c,g,j,b,J,I,z,u,S,s,q):=Ic (k:=k) (E:=E0) y H Q h;cases s;exact{v,e,a,d,fs,c,g,j,q [] H b S (.refl _) .nil}
def we{HF H B:Hp}{a:Ψ}{o u:HO}(s:aA B H)(n:∀b o,B b=↑o->HF b=none)(fh:aA HF H)(e:B a=↑o):Dm HF H B HF (upd H a u) (upd B a u) where
 gr:=by
  refine{λb w z=>?_,.refl _,λb w z=>?_,λb w=>.inl}
  .rw[ai<|(λb w z q=>by rw[q,rS e]at z;grind:∀b w,cut H B b=↑w->b≠a) b w z];exact(e9 z).1
  .rw[ai λq=>by grind];exact fh b w z
 sb:=λb w z=>by
  by_cases q:b=a
  .rw[q,ar]at z ⊢;lia
  .rw[ai q]at z ⊢;exact s b w z
 nw:=λb w z=>by
  by_cases q:b=a
  .rw[q];exact{n a o e,rS e}
  .rw[ai q]at z;exact{n b w z,rS z}
def JP(s:aA B H)(n:∀b o,B b=↑o->HF b=none)(G:bc HF H US H')(d:H l=none)(a:US l=none)(e:H' l=↑(.lst us)):Dm HF H B US H' (upd B l<|.lst us) where
 gr:=⟨λb w z=>G.hh b w (e9 z).1,G.ff,G.fh,λb w z=>(G.nw b w z).imp id λq=>by
  cases c:cut H B b with
  |none=>rfl
  |some y=>have:=(e9 c).1;grind⟩
 sb:=λb w z=>by
  by_cases q:b=l
  .rw[q]at z ⊢;rw[ar]at z;grind
  .rw[ai q]at z;exact G.hh b w<|s b w z
 nw:=λb w z=>by
  by_cases q:b=l
  .rw[q];refine{a,?_};cases c:cut H B l with
   |none=>rfl
   |some y=>have:=(e9 c).1;grind
  .rw[ai q]at z;exact{G.VF (n b w z)<|s b w z,rS z}
def GZ{K:Φ}{st:Fs}{fs:Γ _}(h:j8 K HF B st fs as):fs.length=st.length:=by
 induction h with
 |nil=>rfl
 |val _ _ i=>exact jB _ i
 |lst _ _ _ i=>exact jB _ i
def NR{K:Φ}{st:Fs}{fs:Γ _}(h:j8 K HF B st fs as):∀b∈as,∃u,B b=↑(.lst u):=by
 induction h with
 |nil=>simp
 |val _ _ i=>omega
 |lst e _ _ i =>
  intro b H;rcases List.mem_cons.mp H with q|q
  .rw[q];exact{_,e}
  .exact i b q
end
section
variable {K:Φ}
def Ft{st:Fs}{fs:Γ (Str×V)}(r:au K HF ds us)(j:B l=↑(.lst us))(h:j8 K HF B st fs as)(n:as.Nodup)(L:l∉as):∃a,j8 K HF B (p5 f (.lst ds) st) (iC f (.ref l) fs) a/\a.Nodup/\∀b∈a,b=l\/b∈as:=by
 induction h with
 |nil=>exact{[l],.lst j r .nil,by simp,λb i=>.inl<|by simpa using i}
 |@val g _ _ _ _ as R h I =>
  unfold p5 iC;by_cases z:g=f
  .rw[yM z,yM z];exact{l::as,.lst j r h,List.nodup_cons.mpr {L,n},λb i=>List.mem_cons.mp i}
  .rw[yO z,yO z];let(a,d,e,H):=I n L;exact{a,.val R d,e,H}
 |@lst g _ b _ _ _ as E k h I =>
  have N:l∉as:=λq=>L<|zC _ q;unfold p5 iC;by_cases z:g=f
  .rw[yM z,yM z];exact{l::as,.lst j r h,List.nodup_cons.mpr {N,(List.nodup_cons.mp n).2},λc hc=>(List.mem_cons.mp hc).imp id<|zC _}
  .rw[yO z,yO z];let(a,d,e,H):=I (List.nodup_cons.mp n).2 N;refine{b::a,.lst E k d,List.nodup_cons.mpr {λq=>?_,e},λc hc=>?_}
   .rcases H b q with y|y
    .exact L (by rw[<-y];exact zE)
    .exact (List.nodup_cons.mp n).1 y
   .rcases List.mem_cons.mp hc with q|q
    .exact .inr (by rw[q];exact zE)
    .exact (H c q).imp id<|zC _
def y1{st:Fs}{fs:Γ (Str×V)}(r:au K HF ZU U)(h:j8 K HF B st fs as)(n:as.Nodup)(e:st.lookup f=↑(.lst ds))(E:fs.lookup f=↑(.ref b)):j8 K HF (upd B b<|.lst U) (p5 f (.lst ZU) st) fs as:=by
 induction h with
 |nil=>cases e
 |@val g _ _ _ _ _ R h i =>
  rw[yC]at e E;cases z:f==g with
  |true=>rw[z]at e;cases e
  |false =>
   rw[z]at e E;unfold p5;rw[yO λq=>by rw[q]at z;simp at z];exact .val R (i n e E)
 |@lst g _ c u _ fs as H j h i =>
  rw[yC]at e E;unfold p5;cases z:f==g with
  |true =>
   rw[z]at e E;cases E;rw[yM<|by simpa using (beq_iff_eq.mp z).symm];refine .lst ar r<|h.imp (.refl _) λq Q w Z=>?_;rw[ai λy=>(List.nodup_cons.mp n).1 (by rw[<-y];exact Q)];exact Z
  |false =>
   rw[z]at e E;rw[yO λq=>by rw[q]at z;simp at z];let(k,w,G,d,l,_):=AI h e;have a:fs.lookup f=↑(.ref b):=E;rw[a]at G;cases G;refine .lst ?_ j<|i (List.nodup_cons.mp n).2 e a;rw[ai λy=>(List.nodup_cons.mp n).1 (by rw[y];exact d)];exact H
end
section
variable {os os':Γ Oj}{st:Ω}{rest:Γ Ω}
def Dm.up{HF H B U c a:Hp}(t:Dm HF H B U c a){b:Ψ}{o:HO}(z:cut H B b=↑o):cut c a b=↑o:=by
 apply ie<|t.gr.hh b o z;cases y:a b with
 |none=>rfl
 |some u=>rw[(t.nw b u y).2]at z;grind
def Dm.down{HF H B U c a:Hp}(t:Dm HF H B U c a){b:Ψ}(z:cut c a b=none):cut H B b=none:=by
 cases y:cut H B b with
 |none=>rfl
 |some u=>rw[t.up y]at z;lia
def Dm.trans(t:Dm HF H B UT H1 U)(t':Dm UT H1 U U3 H2 B2):Dm HF H B U3 H2 B2 where
 gr:=⟨λb o z=>t'.gr.hh b o<|t.up z,t.gr.ff.trans t'.gr.ff,t'.gr.fh,λb o z=>by
  rcases t'.gr.nw b o z with y|y
  .exact t.gr.nw b o y
  .exact .inr<|t.down y⟩
 sb:=t'.sb
 nw:=λb o z=>{(t'.nw b o z).1,t.down (t'.nw b o z).2}
def CP(i:Nat)(C:Ψ)(f:Str)(fl:Dl.Env->Δ (Γ D)):OG:=λa o=>(fl<|bh a).bind λd=>(obj i C a o).bind λy=>if y.2.length<1000 then↑(.nx a<|o.set y.1 {C,p5 f (.lst d) y.2})else none
def JH(W:DF X e fl)(Q:X.N[i]?=↑x)(Z:rA X.env.scope x)(cl:tK X.K C)(nf:eI X.K C f)
  (hs:swapsWith e (↑(.Attribute (.Name x px) f pos')) pos.line X.env=pure false:=by rfl)(T:(x==("__debug__":Str))=false:=by decide)(v:(x==("__classdict__":Str))=false:=by decide) :
  OS X UO UP pa (.Assign [.Attribute (.Name x px) f pos'] e pos) (CP i C f fl):=bH (M1 (dv Q Z T v) W hs) λE σ H z=>by
 let(p,ρ,os,o,S,g,q):=z;let(D,M,g):=bs g;let((k,st),P,g):=bs g;split at g
 .rename_i hl;cases g;let(I,c):=obj_some P;refine{p,bh ρ,D,S.fh,S.Vt,M,λl us H1 U G m n2 n3 r1=>?_};let(HB,A,B,O):=S;have L:k<os.length:=(List.getElem?_eq_some_iff.mp c).1;let(d,fs,r,f1,f2,f3,f4):=(O.at_ k _ c).ex;have j:=λb u z=>O.S.gr.hh b u<|O.sb k L b u z;have nB:B k l=none:=by
   cases z:B k l with
   |none=>rfl
   |some u=>rw[j l u z]at m;lia
  have t:=JP j (λb u=>O.nf L) G m n2 n3;have n:∀b u,B k b=↑u->b≠l:=λb u z y=>by grind
  refine{_,O.S.ob i k I,A k,C,d,fs,rfl,G.hh _ _<|j _ _ f1,cl,nf,by rw[GZ f3];lia,?_};have s:l∉r:=λY=>by
   let(w,z):=NR f3 l Y
   grind
  have F:upd (B k) l (.lst us) (A k)=↑(.ins C d fs):=by rw[ai<|n _ _ f1];lia
  let(a,f5,J,f7):=Ft r1 ar (f3.imp G.ff λb R w z=>by rw[ai<|n _ _ z];omega) f4 s;refine q σ _ U {_,_,_,O.turn c (t.trans<|we (u:=.ins C d<|iC f (.ref l) fs) t.sb (λb u z=>(t.nw b u z).1) t.gr.fh F) {d,iC f _ fs,a,ar,?_,f5.imp (.refl _) λb R w z=>?_,J}} G.ff
  .rw[ai λz=>by grind,ai<|n _ _ f2];lia
  .rw[ai λz'=>by grind];lia
 grind
abbrev RF:=ak->Γ Oj->Δ D
abbrev Jq:=ak->Γ Oj->Δ (Γ D)
def OP(K:Φ)(UO UP:Hp)(pa:Γ Ψ)(f:RF):TE:=λc H Q=>∃F b o d,fS K UO UP pa F H b o c/\f b o=↑d/\∀v a U,bc F H U a->Rep K U d v->Q v a
def OR(X:Cx)(UO UP:Hp)(pa:Γ Ψ)(e:γ)(f:RF):Prop:=PE X e<|OP X.K UO UP pa f
def Qr(K:Φ)(UO UP:Hp)(pa:Γ Ψ)(f:Jq):TA:=λc H Q=>∃F b o d,fS K UO UP pa F H b o c/\f b o=↑d/\∀v a U,bc F H U a->au K U d v->Q v a
def Rz(X:Cx)(UO UP:Hp)(pa:Γ Ψ)(es:Γ γ)(f:Jq):Prop:=PA X es<|Qr X.K UO UP pa f
def oR(f:RF):OF:=λa o=>(f a o).map (·,o)
def OR.oe(h:OR X UO UP pa e f):OE X UO UP pa e (oR f):=aE h λg H Q z=>by
 let(F,c,o,d,s,S,b,q):=z;let(D,E,z):=ag b;cases z;exact{F,c,o,d,S,E,λv a U G=>q v a U (S.grow G) G.ff}
def rD(f:Dl.Env->Δ D):RF:=λa _=>f<|bh a
def J8(h:DE X e f):OR X UO UP pa e (rD f):=aE h λg H Q z=>by let(F,c,o,d,S,b,q):=z;exact {F,bh c,d,S.fh,S.Vt,b,λv a U G=>q v a U G}
def vf:Jq:=λ_ _=>↑[]
def nA(f:RF)(g:Jq):Jq:=λa o=>(f a o).bind λx=>(g a o).map (x::·)
def Js:Rz X UO UP pa [] vf:=iW cQ λb H Q z=>by let(F,a,o,d,S,f,q):=z;cases f;exact q [] H F (.refl S.fh) .nil
def HX(E:OR X UO UP pa e f)(hs:Rz X UO UP pa es g)(v:starEach (e::es) X.env=(false,eval e X.env)::starEach es X.env:=by rfl):Rz X UO UP pa (e::es) (nA f g):=
 iW (br E hs v) λn H Q z=>by
  let(i,b,o,d,S,F,q):=z;let(x,j,F):=bs F;let(s,y,z):=ag F;cases z;exact{i,b,o,x,S,j,λl k T G r1=>{T,b,o,s,S.grow G,y,λm c U a r=>q _ c U (G.trans a)<|au.cons (r1.mono a.ff) r}}
end
section
variable {X:Cx}{UO UP HF H US H':Hp}{pa:Γ Ψ}{ρ ρ':ak}{os os':Γ Oj}{σ σ':L2.St}{st:Ω}{rest:Γ Ω}{e a b c:γ}{es:Γ γ}{pos p px apos UU VH:Pos}{g1 g2:OG}{fa fb:OF}{ta tb:Av}
def oTup(fs:n6):OF:=λa o=>(fs a o).bind λx=>(small x.1).map λd=>(PyData.tuple d,x.2)
def Na{x1}{fs:n6}(h:OA X UO UP pa es fs):OE X UO UP pa (.Tuple es x1 pos) (oTup fs):=aE (Gp h) λg H Q z=>by
 let(F,c,o,d,O,S,f,q):=z;let((D,o1),x,f):=bs f;let(E,e,z):=ag f;cases z;let(rfl,Z):=cU e;refine{F,c,o,_,o1,S,x,λv a U s b r1=>{by rw[r1.length];exact Z,λp P=>?_}};have G:bc U a (upd U p<|.tup v) (upd a p<|.tup v):=.new s.fh P;refine q _ _ _ (s.grow G) (b.trans G.ff) ?_;simp?[Rep];exact{p,v,rfl,.inl<|.inl ar,r1.mono G.ff}
def qp{st:Fs}{ad:Nat->Ψ}(o:og X.K UO UP pa HF H ρ os σ HB ad Bs)(E:ρ[i]?=↑(Slot.obj k))(e:os[k]?=↑⟨C,st⟩)(a:st.lookup f=↑(.lst ds))(cl:tK X.K C)(n:eI X.K C f)
  (q:∀d fs as b u,Bs k (ad k)=↑(.ins C d fs)->Bs k d=↑(.own<|ad k)->j8 X.K HF (Bs k) st fs as->as.Nodup->fs.lookup f=↑(.ref b)->Bs k b=↑(.lst u)->au X.K HF ds u->Q (.ref b) H):JA X.K (IG i) f σ H Q:=by
 let(d,fs,as,f1,f2,f3,f4):=(o.at_ k _ e).ex;let(b,u,g,j,G,c):=AI f3 a;exact{_,o.S.ob i k E,ad k,C,d,fs,.ref b,rfl,o.S.gr.hh _ _<|o.sb k ((List.getElem?_eq_some_iff.mp e).1) _ _ f1,cl,n,g,q d fs as b u f1 f2 f3 f4 g G c}
def zd(i:Nat)(C:Ψ)(f:Str)(e:RF):OG:=λa o=>(obj i C a o).bind λy=>match y.2.lookup f with
 |some (.lst s)=>(e a o).bind λd=>if s.length<sizeLine then↑(.nx a<|o.set y.1 {C,p5 f (.lst<|s++[d]) y.2})else none
 |_=>none
def Jy(T:OR X UO UP pa e fe)(P:X.N[i]?=↑x)(Y:rA X.env.scope x)(cl:tK X.K C)(nf:eI X.K C f)
  (Q:attributeBase (.Name x px) f X.env (eval (.Name x px) X.env)=eval (.Name x px) X.env:=by rfl)(R:(x==("__debug__":Str))=false:=by decide)(p:(x=="__classdict__")=false:=by decide)
  (M:attributeBase (.Attribute (.Name x px) f VH) "append" X.env (eval (.Attribute (.Name x px) f VH) X.env)=eval (.Attribute (.Name x px) f VH) X.env:=by rfl)
  (t:((backTo UU<|starEach [e] X.env).all (λx=>!x.1)&&(backToKw UU<|keywordEach [] X.env).all (λx=>x.1.isSome)&&decide ([e].length+([]:Γ Keyword).length+(if([]:Γ Keyword).isEmpty then 0 else 1)<30))=true:=by rfl)
  (Z:(apos.endLine==UU.line)=true:=by rfl)(hs:starEach [e] X.env=(false,eval e X.env)::starEach [] X.env:=by rfl)(w:swapsWith (.Call (.Attribute (.Attribute (.Name x px) f VH) "append" apos) [e] [] UU) none pos.line X.env=pure false:=by rfl) :
  OS X UO UP pa (.Expr (.Call (.Attribute (.Attribute (.Name x px) f VH) "append" apos) [e] [] UU) pos) (zd i C f fe):=
 bH (lH (pS qM PySem.F.slot_list_append PySem.F.type_list_append lF (wc (dv P Y R p) Q) (br T cQ hs) M t Z hs rfl) w) λE σ H z=>by
  let(n,ρ,os,o,S,g,q):=z;let((k,st),J,g):=bs g;let(y,a):=obj_some J;split at g
  .rename_i ds c;let(d,L,g):=bs g;split at g
   .cases g;have S0:=S;let(HB,ad,Bs,O):=S;have l:=(List.getElem?_eq_some_iff.mp a).1;unfold Mp Ts;refine qp O y a c cl nf λD fs A b s f1 f2 f3 f4 I j m=>?_;have B:=O.S.gr.hh _ _<|O.sb k l _ _ j;refine{.inl {rfl,s,.of B},n,ρ,os,d,S0,L,λv H1 U G r=>({b,s,v,rfl,rfl,G.hh _ _ B,by rw[m.length];lia,?_})};have W:=O.pure (O.S.grow G) G.ff;refine q σ _ U {_,_,_,W.turn a (we (u:=.lst<|s++[v]) (λb u z=>W.S.gr.hh b u<|W.sb k l b u z) (λb u=>W.nf l) W.S.gr.fh j) {D,fs,A,?_,?_,(y1 ((m.mono G.ff).append<|au.cons r .nil) (f3.imp G.ff λ_ _ _ z=>z) f4 c I),f4}} G.ff
    .rw[ai λz=>by grind];lia
    .rw[ai λz=>by grind];lia
   grind
  grind
def uw(i:Nat)(C:Ψ)(f:Str):RF:=λa o=>(obj i C a o).bind λy=>match y.2.lookup f with
 |some (.lst d)=>↑(.int d.length)
 |_=>none
def KO(B:iN X "len" (.builtin "len"))(n:X.N[i]?=↑x)(r:rA X.env.scope x)(cl:tK X.K C)(s:eI X.K C f)
  (m:attributeBase (.Name x px) f X.env (eval (.Name x px) X.env)=eval (.Name x px) X.env:=by rfl)(D:(x==("__debug__":Str))=false:=by decide)(v:(x==("__classdict__":Str))=false:=by decide)
  (E:starEach [.Attribute (.Name x px) f VH] X.env=(false,eval (.Attribute (.Name x px) f VH) X.env)::starEach [] X.env:=by rfl) :
  OR X UO UP pa (.Call (.Name "len" p) [.Attribute (.Name x px) f VH] [] pos) (uw i C f):=
 aE (iL i6 B.gl B.mg B.bt (br (wc (dv n r D v) m) cQ E) (by decide) (by decide) E rfl) λt H Q z=>by
  let(a,R,O,d,S,F,q):=z;let((k,st),l,F):=bs F;let(c,e):=obj_some l;split at F
  .rename_i J g;cases F;let(y,A,w,o):=S;have L:k<O.length:=(List.getElem?_eq_some_iff.mp e).1;show JA X.K (IG i) f t H _;refine qp o c e g cl s λM fs I b u f1 f2 f3 f4 P G j=>?_;exact{b,u,rfl,.inl<|ik.of<|o.S.gr.hh _ _<|o.sb k L _ _ G,q _ H a (.refl o.S.gr.fh)<|by simp[Rep,j.length]}
  .cases F
end
section
variable {K:Φ}{os os':Γ Oj}{ad:Nat->Ψ}
def FW(H B:Hp):Hp:=λb=>match H b with|some o=>↑o|none=>B b
def Me(h:H b=↑o):FW H B b=↑o:=by unfold FW;rw[h]
def Ih(h:H b=none):FW H B b=B b:=by unfold FW;rw[h]
def GJ(h:FW H B b=↑o):H b=↑o\/(H b=none/\B b=↑o):=by
 unfold FW at h
 grind
def og.make{UO UP HF H US H':Hp}{pa:Γ Ψ}{ρ:ak}{σ:L2.St}{HB:Hp}{Bs:Nat->Hp}(h:og K UO UP pa HF H ρ os σ HB ad Bs)(t:Dm HF Hn B0 US H' B')(B:∀b o,H b=↑o->cut Hn B0 b=↑o)(q:EN K US B' C x U)(N:∀(i k:Nat),ρ[i]?=↑(Slot.obj k)->k<os.length) :
  og K UO UP pa US H' ρ (os++[{C,U}]) σ (FW HB B') (λj=>if j=os.length then x else ad j) (λj=>if j=os.length then B' else Bs j):=by
 have g:=h.S.gr;have c:aA HB H:=g.hh;have f:∀b o,B' b=↑o->H b=none:=λb o e=>by
  cases z:H b with
  |none=>rfl
  |some u=>have:=(t.nw b o e).2;rw[B b u z]at this;cases this
 have n:∀b o,B' b=↑o->HB b=none:=λb o e=>by
  cases z:HB b with
  |none=>rfl
  |some u=>have:=f b o e;rw[c b u z]at this;lia
 have G:bc UO (FW HB B') US H':=by
  refine{λb o e=>?_,g.ff.trans t.gr.ff,t.gr.fh,λb o e=>?_}
  .rcases GJ e with z|⟨_,z⟩
   .exact t.gr.hh b o<|B b o<|c b o z
   .exact t.sb b o z
  .have N:B' b=none:=by
    cases z:B' b with
    |none=>rfl
    |some u=>rw[(t.nw b u z).1]at e;grind
   have fin:HB b=none->FW HB B' b=none:=λz=>by rw[Ih z];lia
   rcases t.gr.nw b o e with z|z
   .rcases g.nw b o z with y|y<;>grind
   .refine .inr<|fin ?_;cases y:HB b with
    |none=>rfl
    |some u=>rw[B b u<|c b u y]at z;lia
 have l:∀{j:Nat},j<(os++[{C,U}]:Γ Oj).length->j≠os.length->j<os.length:=λ{j}v w=>by
  grind
 refine{Ak h.S G t.gr.ff (λb o m p=>?_) λi k e=>yO<|yS<|N i k e,λb o e=>Me<|h.h0 b o e,λj o e=>?_,λj J b o e=>?_,λj J b o e=>?_,λi j I J E b o e=>?_,by rw[zN];exact yE h.pl<|jT _ _,λk a e=>?_}
 .have ch:=B b o p;refine{t.gr.hh b o ch,?_,λr=>t.gr.VF r ch};show FW HB B' b=none;rw[Ih m];cases z:B' b with
  |none=>rfl
  |some u=>grind
 .show EN K US (if j=os.length then B' else Bs j) o.C (if j=os.length then x else ad j) o.st;by_cases J:j=os.length
  .rw[yM J,yM J];rw[J,yU<|yN _,Nat.sub_self]at e;cases e;exact q
  .rw[yO J,yO J];rw[yT<|l (List.getElem?_eq_some_iff.mp e).1 J]at e;exact(h.at_ j o e).mono t.gr.ff
 .by_cases W:j=os.length
  .rw[yM W]at e;rw[Ih<|n b o e];lia
  .rw[yO W]at e;exact Me<|h.sb j (l J W) b o e
 .by_cases W:j=os.length
  .rw[yM W]at e;have s:=n b o e;refine{?_,?_}
   .cases z:UP b with
    |none=>rfl
    |some u=>rw[h.h0 b u z]at s;lia
   .cases z:UO b with
    |none=>rfl
    |some u=>have:=(t.nw b o e).1;rw[t.gr.ff b u<|g.ff b u z]at this;lia
  .rw[yO W]at e;exact h.fr j (l J W) b o e
 .by_cases Z:i=os.length
  .rw[yM Z]at e;have d:j≠os.length:=λz=>E<|Z.trans z.symm;rw[yO d];cases z:Bs j b with
   |none=>rfl
   |some u=>have:=h.sb j (l J d) b u z;rw[n b o e]at this;cases this
  .rw[yO Z]at e;by_cases W:j=os.length
   .rw[yM W];cases z:B' b with
    |none=>rfl
    |some u=>have:=h.sb i (l I Z) b o e;grind
   .rw[yO W];exact h.dj i j (l I Z) (l J W) E b o e
 .rw[yO<|yS<|zP (List.getElem?_eq_some_iff.mp e).1 h.pl];exact h.pa k a e
def Lq{UP:Hq}(S:fH K UO UP HF H ρ σ):fH K UO UP HF H (ρ.set i<|.obj k) (σ.set i<|↑(.ref<|UP.ad k)):=by
 have N:∀{j:Nat}{s:Slot},(ρ.set i<|.obj k)[j]?=↑s->s≠.obj k->i≠j/\ρ[j]?=↑s:=λ{j s}h m=>by
  rw[xI]at h;by_cases U:i=j
  .rw[yM U]at h;split at h
   .cases h;exact absurd rfl m
   .cases h
  .rw[yO U]at h;exact{U,h}
 refine{S.gr,λj e h=>?_,λj d h=>?_,λj k d E a b c g l=>?_,by rw[yD,yD];exact S.len,S.tb,λj f h=>?_,λj k f o b c=>S.one j k f o (N b λz=>by cases z).2 (N c λz=>by cases z).2,λj n h=>?_}
 .let(U,h):=N h λz=>by cases z
  rw[xI,yO U];exact S.val j e h
 .let(U,h):=N h λz=>by cases z
  rw[xI,yO U];exact S.own j d h
 .let(p,b):=N b λz=>by cases z
  let(q,c):=N c λz=>by cases z
  rw[xI,yO p]at g;rw[xI,yO q]at l;exact S.inj j k d E a b c g l
 .let(U,h):=N h λz=>by cases z
  rw[xI,yO U];exact S.tab j f h
 .rw[xI]at h ⊢;by_cases U:i=j
  .rw[yM U]at h ⊢;split at h
   .rename_i L;cases h;rw[yM<|zP L S.len]
   .cases h
  .rw[yO U]at h ⊢;exact S.ob j n h
end
section
variable {os os':Γ Oj}{st:Ω}{rest:Γ Ω}
def below(n:Nat):Slot->θ|.obj k=>decide (k<n)|_=>true
def Ab(i:Nat)(C:Ψ)(n:Nat)(m:Γ Slot->Fs->Δ (D×Fs))(fs:n6):OG:=λa o=>(fs a o).bind λy=>if a.all (below y.2.length)=true/\y.1.length+1=n then(m (.obj 0::y.1.map Slot.val) []).bind λw=>match w.1 with
 |.none=>↑(.nx (a.set i<|.obj y.2.length)<|y.2++[{C,w.2}])
 |_=>none else none
def LK{fs:n6}{pos':Pos}(M:Mk X.K C f)(F:dZ X.prog X.w X.K X.mg X.base vi k f fd ps (Lj X.K C n mi))(hr:cE (k+1) X.A)(g:Gl X cn)(hm:X.mg cn=↑(.ref C))(hb:Binds X.K fd ps [])(ha:OA X UO UP pa (e::es) fs)
  (hN:X.N.Nodup)(hi:X.N[i]?=↑x)(hx:Loc X.env.scope x)
  (V3:(cn==("__debug__":Str))=false:=by decide)(he:starEach (e::es) X.env=(false,eval e X.env)::starEach es X.env:=by rfl)(Vw:(backTo UU<|starEach es X.env).any (·.1)=false:=by rfl)
  (hs:swapsWith (.Call (.Name cn p) (e::es) [] UU) (↑(.Name x pos')) pos.line X.env=pure false:=by rfl)
  (hf:X.fn x=true\/X.env.scope.names.lookup x=↑.local:=by first|exact .inl rfl|exact .inr rfl|assumption):OS X UO UP pa (.Assign [.Name x pos'] (.Call (.Name cn p) (e::es) [] UU) pos) (Ab i C n mi fs):=
 bH (sO hN hi hx (Da (E:=E0) M F hr g hm hb .nil nL ha V3 he Vw) hs hf) λE σ H z=>by
  let(Z,Q,os,o,S,g,q):=z;let((J,o1),h1,g):=bs g;split at g
  .rename_i hc;let((d,Vd),h2,g):=bs g;split at g
   .rename_i I;cases g;have I:d=.none:=I;subst I;refine{Z,Q,os,J,o1,S,h1,λvs s U z s1 r1 x D P a c=>?_};let(W,ad,Bs,O):=z;rw[qF];let B:Hp:=upd (upd (λ_=>none) D<|.own x) x<|.ins C D [];let G:Hp:=upd (upd s D<|.own x) x<|.ins C D [];have bx:B x=↑(.ins C D []):=ar;have bd:B D=↑(.own x):=by show upd _ x _ D=_;rw[ai c,ar]
    have m:∀b u,s b=↑u->b≠x/\b≠D:=λb u z=>{aF z P,aF z a}
    have hB:∀b u,s b=↑u->cut G B b=↑u:=λb u z=>by
     let(z1,z2):=m b u z;refine ie ?_ ?_
     .show upd _ x _ b=_;rw[ai z1,ai z2];exact z
     .show upd _ x _ b=_;rw[ai z1,ai z2]
    have L:∀b u,B b=↑u->U b=none/\G b=↑u:=λb u z=>by
     have z:upd (upd (λ_=>none) D<|.own x) x (.ins C D []) b=↑u:=z;by_cases y:b=x
     .rw[y]at z ⊢;rw[ar]at z;cases z;exact{O.S.gr.fh.free P,ar}
     .rw[ai y]at z;by_cases Y:b=D
      .rw[Y]at z ⊢;rw[ar]at z;cases z;refine{O.S.gr.fh.free a,?_};show upd _ x _ D=_;rw[ai c,ar]
      .rw[ai Y]at z;cases z
    have sm:aA U G:=λb u z=>by
     let(z1,z2):=m b u<|O.S.gr.fh b u z;show upd _ x _ b=_;rw[ai z1,ai z2];exact O.S.gr.fh b u z
    refine{U,B,x,Slot.obj 0::J.map Slot.val,[],.none,Vd,sm,O.S.tb,λb u z=>(L b u z).2,λb u z=>(L b u z).1,{D,[],[],bx,bd,.nil,.nil},.obj<|iF r1,by simpa using hc.2,h2,λv T US R t z r=>?_};simp?[Rep]at r;refine{r,?_};have nb:∀(i k:Nat),Q[i]?=↑(Slot.obj k)->k<o1.length:=λi k y=>by
     have:=List.all_eq_true.mp hc.1 _<|qB y;exact yR this
    have l:=O.make t hB z nb;refine q _ T US {_,_,_,l.pure (σ':=σ.set i<|↑(.ref x)) ?_<|.refl _}<|s1.trans t.gr.ff;have:=Lq (i:=i) (k:=o1.length) l.S;rw[show(Hq.mk (FW W R) λj=>if j=o1.length then x else ad j).ad o1.length=x from yM rfl]at this;exact this
   .cases g
  .cases g
end
section
variable {K:Φ}
def Fg(r:au K HF ds us)(h:ds[ds.length-1]?=↑d):∃v,us[us.length-1]?=↑v/\Rep K HF d v:=by
 let(v,H,R):=r.getD h;exact{v,by rw[r.length];lia,R}
def uH:∀{ds:Γ D}{u:Γ V},au K HF ds u->au K HF ds.dropLast u.dropLast
 |[],u,r=>by rw[r.nil_inv];rfl
 |[d],u,r=>by
  let(v,s,rfl,_,R):=r.cons_inv;rw[R.nil_inv];rfl
 |d::a::ds,u,r=>by
  let(v,s,rfl,r1,R):=r.cons_inv;let(e,Y,rfl,b,c):=R.cons_inv;exact au.cons r1<|uH R
end
end Ob
namespace Dl
open PySem L2 PySem.Spec PyProof.Rows
def A3(i j:Nat):Env->Δ (Γ D):=λb=>(ab i b).bind λa=>(ab j b).bind<|Bw a
end Dl
namespace Rf
open PySem L2 Dl PySem.Spec PyProof.Rows
variable {env:PySem.Env}{cs fz:Γ Nat}{py apos:Pos}
def QE{c:Prop}[Decidable c]{a:Δ α}(h:(if c then a else none)=↑z):c/\a=↑z:=by
 grind
def IW:Γ D->Δ D:=λs=>(oneOf s).bind λd=>match d with
 |.list e=>(boolsOf e).map λbs=>.bool (bs.any id)
 |_=>none
def ML(e:γ):θ:=e.ctorIdx==26||e.ctorIdx==25||e.ctorIdx==22
def jj(h:ML b=false):lG b:=by
 cases b<;>first|(intro _ _;rfl)|cases h
abbrev GS:=ak->Δ Out
def turns:Nat:=1000000
structure Sg where
 fn:Γ (Str×Nat×(Γ D->Δ D))
 int:Γ (Str×Int)
structure UI(G:Sg)(X:Cx)(j:Nat):Prop where
 fn:∀x n m,G.fn.lookup x=↑(n,m)->FI X.prog X.w X.K X.mg X.base j x n m
 int:∀x i,G.int.lookup x=↑i->∃t,X.mg x=↑(.int i t)
 bn:Bn X
def n8:γ->Γ Str
 |.Name x _=>[x]
 |.Tuple e _ _=>e.flatMap fun|.Name x _=>[x]|_=>[]
 |_=>[]
def lP(N:Γ Str)(scope:ζ)(xs:Γ Str):Γ Str:=xs++N.filter λx=>decide (scope.names.lookup x=↑.free)
structure Cn(G:Sg)(X:Cx)(N:List Str)(sc:Scope)(j k:Nat):Prop where
 b:Bk X N sc k
 g:UI G X j
 le:j<=k
section
variable {G:Sg}{X:Cx}{N:Γ Str}{sc:ζ}{k j:Nat}{pos p:Pos}{UO:Hp}{UP:Hq}
def Cn.c(C:Cn G X N sc j k):X.calm=true:=C.b.calm
def Cn.u3(C:Cn G X N sc j k):X.A.in1.in1.in1.units<cLine:=by
 have:=C.b.u66;show X.A.units+1+1+1<cLine;lia
def Cn.u1(C:Cn G X N sc j k):X.A.units+1<cLine:=by have:=C.b.room.un;lia
def Cn.bl(C:Cn G X N sc j k)(h:(Jl sc x&&eD.contains x)=true)(H:bootBuiltins x=↑v):iN X x v:=by
 rw[zF]at h;exact C.b.blt C.g.bn h.1 (List.contains_iff_mem.mp h.2) H
def Cn.gi(C:Cn G X N sc j k)(h:Jl sc x=true)(hi:G.int.lookup x=↑i)(d:(x==("__debug__":Str))=false):DE X (.Name x pos) (fC<|.int i):=let ⟨_,ht⟩:=C.g.int x i hi;Lw (C.b.gl h) ht d
def bp{env:PySem.Env}:∀{es:Γ γ},(es.all λe=>!isStar e)=true->(backTo pos<|starEach es env).any (·.1)=false
 |[],_=>rfl
 |e::es,h=>by
  rw[xS,zF,yQ]at h;rw[az h.1];show(false||(backTo pos<|starEach es env).any (·.1))=false;rw[bp h.2];rfl
def Cn.call(C:Cn G X N sc j k)(a:DA X (e::es) fs)(l:G.fn.lookup x=↑(n,m))(H:(Jl sc x&&!(x==("__debug__":Str)))=true)(hs:isStar e=false)(ht:(es.all λe=>!isStar e)=true):DE X (.Call (.Name x p) (e::es) [] pos) (ah n m fs):=by
 simp?[zF,yQ]at H;exact Lr (C.g.fn x n m l) (C.b.room.mono C.le) (C.b.gl H.1) a H.2 (az hs)<|bp ht
def vx(h:(es.all λe=>!isStar e)=true)(l:es.length<20):((backTo UU<|starEach es env).all (λx=>!x.1)&&(backToKw UU<|keywordEach [] env).all (λx=>x.1.isSome)&&decide (es.length+([]:Γ Keyword).length+(if([]:Γ Keyword).isEmpty then 0 else 1)<30))=true:=by
 have H:(backTo UU<|starEach es env).all (λx=>!x.1)=true:=by
  have:=bp (pos:=UU) (env:=env) h;rw[List.all_eq_not_any_not];simpa using this
 rw[H];simp[backToKw,keywordEach];lia
def Cn.blk(C:Cn G X N sc j k)(U:jl sc scope N (lP N scope<|n8 tg) t cs=true)(Y:∀fp s H,Cn G (aL X scope (lP N scope<|n8 tg) fp s H) (lP N scope<|n8 tg) scope j k->DG (aL X scope (lP N scope<|n8 tg) fp s H) tg tgt/\Jj (aL X scope (lP N scope<|n8 tg) fp s H) ifs tt/\DE (aL X scope (lP N scope<|n8 tg) fp s H) elt te) :
  g9 X scope (lP N scope<|n8 tg) (iE t cs)/\∀fp s H,DG (aL X scope (lP N scope<|n8 tg) fp s H) tg tgt/\Jj (aL X scope (lP N scope<|n8 tg) fp s H) ifs tt/\DE (aL X scope (lP N scope<|n8 tg) fp s H) elt te:=
 let ⟨S,B⟩:=C.b.comp U
 {S,λfp s H=>Y fp s H {B fp s H,{C.g.fn,C.g.int,C.g.bn},C.le}}
def sU(h:(e.ctorIdx==7)=false):∀x,foldedSetIterable e env x=pure x:=by
 cases e<;>first|(intro _;rfl)|exact nomatch (show true=false from h)
def Cn.comp(C:Cn G X N sc j k)(d:DI X tg iter fi)(Y:∀fp s H,Cn G (aL X scope (lP N scope<|n8 tg) fp s H) (lP N scope<|n8 tg) scope j k->DG (aL X scope (lP N scope<|n8 tg) fp s H) tg tgt/\Jj (aL X scope (lP N scope<|n8 tg) fp s H) ifs tt/\DE (aL X scope (lP N scope<|n8 tg) fp s H) elt te)
  (f:(iter.ctorIdx==7)=false)(U:jl sc scope N (lP N scope<|n8 tg) t cs=true):DF X (.ListComp elt [{tg,iter,ifs,0}] scope pos) (av t cs fi tgt tt te):=let ⟨S,h⟩:=C.blk U Y;LA C.c S d h<|sU f
def Cn.setC(C:Cn G X N sc j k)(d:DI X tg iter fi)(Y:∀fp s H,Cn G (aL X scope (lP N scope<|n8 tg) fp s H) (lP N scope<|n8 tg) scope j k->DG (aL X scope (lP N scope<|n8 tg) fp s H) tg tgt/\Jj (aL X scope (lP N scope<|n8 tg) fp s H) ifs tt/\DE (aL X scope (lP N scope<|n8 tg) fp s H) elt te)
  (f:(iter.ctorIdx==7)=false)(U:jl sc scope N (lP N scope<|n8 tg) t cs=true)(l:gW N sc i x=true)(hc:decide (sc.names.lookup x=↑.local)=true)(a:(px.line==pos.line&&!(scope.names.any λ(n,k)=>n==x&&(k==.local || k==.cell)))=true) :
  DS X UO UP (.Assign [.Name x px] (.ListComp elt [{tg,iter,ifs,0}] scope pos) p) (bb i fz<|av t cs fi tgt tt te):=
 let ⟨S,h⟩:=C.blk U Y;let ⟨z1,z2,_,_⟩:=C.b.loc l
 Jx i _ C.c S d h z1 z2 (C.b.aci hc) (C.b.swap hc a) (sU f)
def Cn.set(C:Cn G X N sc j k)(l:gW N sc i x=true)(H:DE X e f)(hs:swapsWith e (↑(.Name x px)) pos.line X.env=pure false):DS X UO UP (.Assign [.Name x px] e pos) (aO i fz f):=let ⟨z1,z2,z3,z4⟩:=C.b.loc l;Nj i _ z1 z2 z3 H hs z4
def Cn.acI(C:Cn G X N sc j k)(l:gW N sc i x=true)(H:DF X e f)(hs:swapsWith e (↑(.Name x px)) pos.line X.env=pure false):DS X UO UP (.Assign [.Name x px] e pos) (bb i fz f):=let ⟨z1,z2,z3,z4⟩:=C.b.loc l;LM i _ z1 z2 z3 H hs z4
def Cn.g1(C:Cn G X N sc j k)(l:gW N sc i x=true):DG X (.Name x pos) (fG i):=let ⟨z1,z2,z3,z4⟩:=C.b.loc l;K8 i z1 z2 z3 z4
def Cn.g2(C:Cn G X N sc j k){px py:Pos}(H:gW N sc i x=true)(m:gW N sc l y=true):DG X (.Tuple [.Name x px,.Name y py] n pos) (il i l):=let ⟨z1,z2,z3,z4⟩:=C.b.loc H;let ⟨_,w,W,a⟩:=C.b.loc m;Ot i l C.c z1 z2 z3 w W z4 a
def Cn.t1(C:Cn G X N sc j k)(l:gW N sc i x=true):HQ X UO UP (.Name x pos) (wY i):=let ⟨z1,z2,z3,z4⟩:=C.b.loc l;FV i z1 z2 z3 z4
def Cn.t2(C:Cn G X N sc j k){px py:Pos}(H:gW N sc i x=true)(m:gW N sc l y=true):HQ X UO UP (.Tuple [.Name x px,.Name y py] n pos) (j4 i l):=let ⟨z1,z2,z3,z4⟩:=C.b.loc H;let ⟨_,w,W,a⟩:=C.b.loc m;Lk i l C.c z1 z2 z3 w W z4 a
def Cn.acJ(C:Cn G X N sc j k){P p2 Q q2 r1 R r:Pos}(H:ip N sc i x=true)(q:ip N sc l y=true)(B:iN X "sorted" (.builtin "sorted"))(a:iN X "set" (.type "set")):DF X (.Call (.Name "sorted" p) [.BinOp (.Call (.Name "set" P) [.Name x Q] [] r1) .BitOr (.Call (.Name "set" p2) [.Name y q2] [] R) r] [] pos) (A3 i l):=
 let ⟨A,d,e,f⟩:=C.b.W4 H;let ⟨g,m,n,o⟩:=C.b.W4 q;Gf C.c C.u3 B a A d g m e f n o
def Cn.app(C:Cn G X N sc j k){px apos UU:Pos}(h:ip N sc i x=true)(H:DE X e f)(hs:isStar e=false)(l:(apos.endLine==UU.line)=true):DS X UO UP (.Expr (.Call (.Attribute (.Name x px) "append" apos) [e] [] UU) pos) (lN i fz f):=let ⟨a,A,c,d⟩:=C.b.W4 h;ET i _ a A H c d (by rw[az hs];rfl) l<|az hs
def Cn.ext(C:Cn G X N sc j k){px apos UU:Pos}(h:ip N sc i x=true)(H:DF X e f)(hs:isStar e=false)(l:(apos.endLine==UU.line)=true):DS X UO UP (.Expr (.Call (.Attribute (.Name x px) "extend" apos) [e] [] UU) pos) (Er i fz f):=let ⟨a,A,c,d⟩:=C.b.W4 h;EI i _ a A H c d (by rw[az hs];rfl) l<|az hs
def Cn.ins(C:Cn G X N sc j k){px apos UU:Pos}(h:ip N sc i x=true)(hk:DE X e fk)(H:DE X U f)(hs:isStar e=false)(ht:isStar U=false)(l:(apos.endLine==UU.line)=true):DS X UO UP (.Expr (.Call (.Attribute (.Name x px) "insert" apos) [e,U] [] UU) pos) (FU i fz fk f):=let ⟨a,A,c,d⟩:=C.b.W4 h;E1 i _ a A hk H c d (by rw[az hs,az ht];rfl) l (az hs)<|az ht
def Cn.sto(C:Cn G X N sc j k){px a:Pos}(h:ip N sc i x=true)(hk:DE X U fk)(E:DE X e f)
  (H:∀v,assign (.Subscript (.Name x px) U a) X.env v=(do let o <- holding [v]<|eval (.Name x px) X.env;let I <- holding [v,o]<|eval U X.env;standAt a;holding [v,o,I]<|setItem o I v;release [v,o,I] []))
  (hs:swapsWithSole [.Subscript (.Name x px) U a] e pos.line X.env=pure false):DS X UO UP (.Assign [.Subscript (.Name x px) U a] e pos) (BJ i fz fk f):=let ⟨A,c,d,g⟩:=C.b.W4 h;Jb i _ A c hk E d g H hs rfl rfl
def Cn.idx(C:Cn G X N sc j k){apos UU:Pos}(O:DE X o fo)(H:DE X e U)(hc:attributeBase o ("index":Str) X.env (eval o X.env)=eval o X.env)(hs:isStar e=false)(l:(apos.endLine==UU.line)=true):DE X (.Call (.Attribute o "index" apos) [e] [] UU) (f2 p9 fo U):=D9 hc (by rw[az hs];rfl) l (az hs) O H
def Cn.get(C:Cn G X N sc j k){apos UU:Pos}{a b:γ}(O:DE X o fo)(H:DE X a fa)(B:DE X b fb)(hc:attributeBase o ("get":Str) X.env (eval o X.env)=eval o X.env)(hs:isStar a=false)(ht:isStar b=false)(l:(apos.endLine==UU.line)=true):DE X (.Call (.Attribute o "get" apos) [a,b] [] UU) (FA fo fa fb):=LB C.u3 hc (by rw[az hs,az ht];rfl) l (az hs) (az ht) O H B
def Cn.Y7(C:Cn G X N sc j (j+3))(L:CT X q){cs:Γ Nat}{px y a p0:Pos}(Z:DE X l fl)
  (Y:∀A f c s H,Cn G (pW X A q scope (lP N scope [x]) f c s H) (lP N scope [x]) scope j j->DE (pW X A q scope (lP N scope [x]) f c s H) body te)(i:Jl sc "sorted"=true)(hs:isStar l=false)(U:jl sc scope N (lP N scope [x]) 1 cs=true)(o:yu scope (lP N scope [x]) x=true)
  (B:∀cl m(e:Θ)(u:Θ)(c:Ψ),bindArgs (W.kla_fn "<lambda>" q {[],[{x,none,px}],none,[],[],none,[]} body scope cl m (.ref c) e) {[u],[]}=pure [(x,u)]) :
  DF X (.Call (.Name "sorted" p0) [l] [{↑"key",.Lambda {[],[{x,none,px}],none,[],[],none,[]} body scope y,a}] pos) (oY cs fl te):=
 Bk.Y7 (p:=x) C.b (C.b.blt C.g.bn i (by decide +kernel) EY) L U o B rfl Z (λA f c s H d=>Y A f c s H {d,{C.g.fn,C.g.int,C.g.bn},yN j}) (az hs) (by rw[az hs];rfl) (bp<|by simp[hs])
end
section
variable {K:Φ}
def ua(P:ε)(w:δ)(K:Φ)(mg:Str->Δ Θ)(base:ι)(j:Nat)(l:Γ (Str×Nat×(Γ D->Δ D))):Prop:=∀x n m,l.lookup x=↑(n,m)->FI P w K mg base j x n m
def o4(mg:Str->Δ Θ)(l:Γ (Str×Int)):Prop:=∀x i,l.lookup x=↑i->∃t,mg x=↑(.int i t)
def R6:ua P w K mg base j []:=λ_ _ _ h=>by cases h
def QB(F:FI P w K mg base j x n m)(h:ua P w K mg base j l):ua P w K mg base j ((x,n,m)::l):=λy N M e=>by
 rw[yC]at e;cases q:y==x with
 |true=>rw[q]at e;cases e;rw[eq_of_beq q];exact F
 |false=>rw[q]at e;exact h y N M e
def SN:o4 mg []:=λ_ _ h=>by cases h
def Mf(F:∃t,mg x=↑(.int i t))(h:o4 mg l):o4 mg ((x,i)::l):=λy I e=>by
 rw[yC]at e;cases q:y==x with
 |true=>rw[q]at e;cases e;rw[eq_of_beq q];exact F
 |false=>rw[q]at e;exact h y I e
abbrev Tv(st:Ω)(N:Γ Str)(S:Sg)(g:GS):Prop:=∀(X:Cx)(_:Unit)(F:Hp)(H:Hq)(_:Unit)(j k:Nat),Cn S X N (ax st) j k->Unit->FB X F H (ba st) g
abbrev TN(st:Ω)(N:Γ Str)(S:Sg)(q:Str)(g:GS):Prop:=∀(X:Cx)(_:Unit)(F:Hp)(H:Hq)(_:Unit)(j:Nat)(_:Unit),Cn S X N (ax st) j (j+3)->CT X q->FB X F H (ba st) g
def Uy{st:Ω}(D:JS K mg x st ps)(S:bO N ps (ax st))(B:∀x∈eD,mg x=none)(c:ua P w K mg base j fs)(hi:o4 mg is)
  (t:Tv st N ⟨fs,is⟩ g):FI P w K mg base (j+1) x ps.length (bo g N.length):=by
 let(f,d,m,F,b):=D.ex;exact Tz F S b m λX p hw k W r C _ _ a H=>by subst p;subst hw;subst k;subst W;subst r;exact t X () a H () j j {C,{c,hi,B},yN j} ()
def T7{st:Ω}(D:Om K mg x st ps)(S:bO N ps (ax st))(B:∀x∈eD,mg x=none)(s:ua P w K mg base j fs)(hi:o4 mg is)
  (Q:x∈kh/\x++".<locals>."++"<lambda>"=q)(t:TN st N ⟨fs,is⟩ q g):FI P w K mg base (j+4) x ps.length (bo g N.length):=by
 let(f,z,c,p,M,F,o,hc,b):=D.ex;refine Tz (k:=j+3) F S o M λX n hw m W r C i l a H=>?_;subst n;subst hw;subst m;subst W;subst r;have L:CT X q:=by
  refine{c,p,by rw[i,hc],by rw[l];exact Q.2,b,λa T=>?_};let(O,od,kV,e,E,A,v,y,d,rfl,u,_):=F.ex;have:=T f O od _ d c p u Q.1 hc b;rw[<-Q.2];exact this
 exact t X () a H () j () {C,{s,hi,B},jT j 3} L
end
def UJ(a:sc.kind=.function:=by rfl)(b:sc.isCoroutine=false:=by rfl)(c:sc.isGenerator=false:=by rfl)(d:N.Nodup:=by decide +kernel)(e:N.take P.length=P:=by rfl)(f:∀x∈P,sc.names.lookup x=↑.local \/ sc.names.lookup x=↑.cell:=by decide +kernel)(g:∀y∈sc.names,y.2≠.free:=by decide +kernel):bO N P sc:={a,b,c,d,e,f,g}
end Rf
namespace Ex
open PySem L2 PySem.Spec PyProof.Rows
structure Us(P:Program)(w:World)(l:List Env)(H:Hp)(s:Shared)(cls:Value)(ea:Addr)(H':Hp)(s':Shared):Prop where
 os:s'.os=s.os
 bare:AllBare s'.gens
 un:Un (Et l) [] H H' s.heap s'.heap
 UX:pN P w H' s'.heap
 fly:∃B a0,Heap.FlyingW B l ea cls a0 s'.heap/\∀b,b∉Et l->(H' b≠none\/∃o,s.heap.get? b=↑o)->∃o,B.get? b=↑o
def TF(P:ε)(w:δ):JC:=λl H s E e S=>∃A c a,e=.ref A/\Us P w l H s c A a S/\E c none a
section
variable {X:Cx}{pins:Γ (Ψ×Obj)}{σ:L2.St}{H H':Hp}{s s':Ξ}{cls:Θ}{ea:Ψ}
end
abbrev TU:Γ Θ:=[.type "ValueError",.type "Exception",.type "BaseException",.type "object"]
open PySem L2 Dl PySem.Spec PyProof.Rows
def TY(K:Φ)(mg:Str->Δ Θ)(n:Nat)(x:Γ D->Δ Str):Sp:=λv H _ E=>∃F d c C,aA F H/\cm K F/\au K F d v/\d.length=n/\x d=↑c/\mg c=↑(.ref C)/\∀a U,bc F H U a->E (.ref C) none a
structure Rr(P:Program)(w:World)(K:W.Frag)(mg:Str->Option Value)(base:Heap)(k:Nat)(x:Str)(n:Nat)(xm:List D->Option Str):Prop where
 ex:∃ (f:Ψ) (fd:η) (ps:Γ Str),dZ P w K mg base (TF P w) k f fd ps (TY K mg n xm)/\mg x=↑(.ref f)/\W.keepIn K (.ref f)=true/\Binds K fd ps []
def Rr.mono{K:Φ}{m:Γ D->Δ Str}(F:Rr P w K mg base k x n m)(h:k<=j):Rr P w K mg base j x n m:=by
 let(f,e,p,a,b,c,d):=F.ex;exact{f,e,p,a.mono h,b,c,d}
def GV{K:Φ}(sm:aA HF H)(tb:cm K HF)(r:au K HF ds vs):fH K HF {H,λ_=>0} HF H (ds.map Slot.val++List.replicate (N.length-ds.length) .UQ) (L2.start N vs):=by
 refine{.refl sm,λi e h=>?_,λi s h=>?_,λi j s fs a h=>?_,?_,tb,λi S h=>absurd h vh,λi j S l h=>absurd h vh,λi k h=>absurd h Ie}
 .have I:i<ds.length:=by
   by_cases I:i<ds.length
   .exact I
   .rw[yU<|by simpa using I,yY]at h;split at h<;>cases h
  rw[yT<|by simpa using I,zO]at h;let(d,Z,h):=ag h;cases h;let(v,b,R):=r.getD Z;refine{v,?_,R};unfold L2.start;rw[yT<|by simpa [r.length]using I,zO,b];rfl
 .exfalso;by_cases I:i<ds.length
  .rw[yT<|by simpa using I,zO]at h;let(d,Z,h):=ag h;cases h
  .rw[yU<|by simpa using I,yY]at h;split at h<;>cases h
 .exfalso;by_cases I:i<ds.length
  .rw[yT<|by simpa using I,zO]at h;let(d,Z,h):=ag h;cases h
  .rw[yU<|by simpa using I,yY]at h;split at h<;>cases h
 .unfold L2.start;rw[zN,zN,zD,zD,xM,xM,r.length];exact yN _
section
variable {X:Cx}{pins:Γ (Ψ×Obj)}{σ:L2.St}{H H':Hp}{s s':Ξ}{cls:Θ}{ea:Ψ}
end
open PySem PySem.W PySem.Spec PySem.Calls PyProof.Rows
section
variable {K:Frag}{x D:Ψ}
end
section
variable {K:Φ}
end
open PySem L2 Dl PySem.Spec PyProof.Rows Rf
abbrev XT:=Γ<|Str×Nat×(Γ D->Δ Str)
def PU(P:ε)(w:δ)(K:Φ)(mg:Str->Δ Θ)(base:ι)(j:Nat)(l:XT):Prop:=∀x n m,l.lookup x=↑(n,m)->Rr P w K mg base j x n m
section
variable {G:Sg}{fx:XT}{X:Cx}{N:Γ Str}{sc:ζ}{j k:Nat}{pos p:Pos}
end
def QV(K:Φ)(mg:Str->Δ Θ)(cl:Γ Str):Prop:=∀c∈cl,∃C:Ψ,mg c=↑(.ref C)/\W.excIn K C TU "ValueError.__new__"=true
section
variable {K:Φ}
def Sn:PU P w K mg base j []:=λ_ _ _ h=>by cases h
end
section
variable {K:Φ}{cs:Γ (Str×Ψ)}
end
end Ex
namespace Hd
open PySem L2 Dl PySem.Spec PyProof.Rows
section
variable {K:Φ}
def Rb{st:Ω}(b:dJ st ps)(a:W.nsIn K mainGlobals x=↑(↑(.ref f)))(l:K.lookup f=↑(fo x st pm c))(d:W.codeIn K (.ref c) x=true)(k:W.keepIn K (.ref f)=true):iy K x st ps:=QA b a l d k
def Uc{st:Ω}(b:dJ st ps)(a:W.nsIn K mainGlobals x=↑(↑(.ref f)))(l:K.lookup f=↑(fo x st pm c))(d:W.codeIn K (.ref c) x=true)(k:W.keepIn K (.ref f)=true)(H:W.codeHdIn K c (Ko K c)=true):r8 K x st ps:=P6 b a l d k H
end
section
variable {α:Type}{R:Γ α->Prop}
def Kn(h:∀a,R [a])(u:Γ α)(e:u.length=1):R u:=by
 let(a,rfl):=List.length_eq_one_iff.mp e;exact h a
def LO(u:Γ α)(e:u.length=n+1):∃a r,u=a::r/\r.length=n:=by
 cases u with
 |nil=>cases e
 |cons a r=>exact{a,r,rfl,by simpa using e}
def Lh(h:∀a b,R [a,b])(u:Γ α)(e:u.length=2):R u:=by
 let(a,r,rfl,E):=LO u e;exact Kn (R:=λr=>R _) (h a) r E
def L4(h:∀a b c,R [a,b,c])(u:Γ α)(e:u.length=3):R u:=by
 let(a,r,rfl,E):=LO u e;exact Lh (R:=λr=>R _) (h a) r E
def Ol(h:∀a b c d,R [a,b,c,d])(u:Γ α)(e:u.length=4):R u:=by
 let(a,r,rfl,E):=LO u e;exact L4 (R:=λr=>R _) (h a) r E
def SH(h:∀a b c d f,R [a,b,c,d,f])(u:Γ α)(e:u.length=5):R u:=by
 let(a,r,rfl,E):=LO u e;exact Ol (R:=λr=>R _) (h a) r E
end
section
variable {K:Φ}
def f1(f c:Ψ)(p:Θ){st:Ω}(b:dJ st ps:=by exactλ_ _ _ _ _ _ _ _ u H=>Kn (R:=λu=>bindArgs _ {u,[]}=pure (List.zip _ u)) (λ_=>rfl) u H)(a:W.nsIn K mainGlobals x=↑(↑(.ref f)):=by kernel_rfl)(l:K.lookup f=↑(fo x st p c):=by kernel_rfl)(d:W.codeIn K (.ref c) x=true:=by kernel_rfl)(k:W.keepIn K (.ref f)=true:=by kernel_rfl):iy K x st ps:=Rb b a l d k
def f2(f c:Ψ)(p:Θ){st:Ω}(b:dJ st ps:=by exactλ_ _ _ _ _ _ _ _ u H=>Lh (R:=λu=>bindArgs _ {u,[]}=pure (List.zip _ u)) (λ_ _=>rfl) u H)(a:W.nsIn K mainGlobals x=↑(↑(.ref f)):=by kernel_rfl)(l:K.lookup f=↑(fo x st p c):=by kernel_rfl)(d:W.codeIn K (.ref c) x=true:=by kernel_rfl)(k:W.keepIn K (.ref f)=true:=by kernel_rfl):iy K x st ps:=Rb b a l d k
def f3(f c:Ψ)(p:Θ){st:Ω}(b:dJ st ps:=by exactλ_ _ _ _ _ _ _ _ u H=>L4 (R:=λu=>bindArgs _ {u,[]}=pure (List.zip _ u)) (λ_ _ _=>rfl) u H)(a:W.nsIn K mainGlobals x=↑(↑(.ref f)):=by kernel_rfl)(l:K.lookup f=↑(fo x st p c):=by kernel_rfl)(d:W.codeIn K (.ref c) x=true:=by kernel_rfl)(k:W.keepIn K (.ref f)=true:=by kernel_rfl):iy K x st ps:=Rb b a l d k
def l3(f c:Ψ)(p:Θ){st:Ω}(b:dJ st ps:=by exactλ_ _ _ _ _ _ _ _ u L=>L4 (R:=λu=>bindArgs _ {u,[]}=pure (List.zip _ u)) (λ_ _ _=>rfl) u L)(a:W.nsIn K mainGlobals x=↑(↑(.ref f)):=by kernel_rfl)(l:K.lookup f=↑(fo x st p c):=by kernel_rfl)(d:W.codeIn K (.ref c) x=true:=by kernel_rfl)(k:W.keepIn K (.ref f)=true:=by kernel_rfl)(H:W.codeHdIn K c (Ko K c)=true:=by kernel_rfl):r8 K x st ps:=Uc b a l d k H
def f4(f c:Ψ)(p:Θ){st:Ω}(b:dJ st ps:=by exactλ_ _ _ _ _ _ _ _ u H=>Ol (R:=λu=>bindArgs _ {u,[]}=pure (List.zip _ u)) (λ_ _ _ _=>rfl) u H)(a:W.nsIn K mainGlobals x=↑(↑(.ref f)):=by kernel_rfl)(l:K.lookup f=↑(fo x st p c):=by kernel_rfl)(d:W.codeIn K (.ref c) x=true:=by kernel_rfl)(k:W.keepIn K (.ref f)=true:=by kernel_rfl):iy K x st ps:=Rb b a l d k
def f5(f c:Ψ)(p:Θ){st:Ω}(b:dJ st ps:=by exactλ_ _ _ _ _ _ _ _ u H=>SH (R:=λu=>bindArgs _ {u,[]}=pure (List.zip _ u)) (λ_ _ _ _ _=>rfl) u H)(a:W.nsIn K mainGlobals x=↑(↑(.ref f)):=by kernel_rfl)(l:K.lookup f=↑(fo x st p c):=by kernel_rfl)(d:W.codeIn K (.ref c) x=true:=by kernel_rfl)(k:W.keepIn K (.ref f)=true:=by kernel_rfl):iy K x st ps:=Rb b a l d k
end
end Hd
namespace Rg
open PySem L2 Dl Rf Ex PySem.Spec PyProof.Rows
abbrev FT:=Γ<|Str×Nat×(Γ D->Δ D)
def sr(st:Ω):Γ Str:=((ax st).names.filter λy=>y.2==.local || y.2==.cell).map (·.1)
structure Ok(P:Program)(w:World)(K:W.Frag)(mg:Str->Option Value)(base:Heap)(is:List (Str×Int))(cl:List Str)(j:Nat)(l:FT)(fx:XT):Prop where
 of:ua P w K mg base j l
 ox:PU P w K mg base j fx
 oi:o4 mg is
 ob:∀x∈eD,mg x=none
 oc:QV K mg cl
 os:∃h:ι,K.In h/\h.Ns mainGlobals mg
section
variable {K:Φ}{st:Ω}{l:FT}
def up(h:Ok P w K mg base is cl j l fx)(e:j<=k):Ok P w K mg base is cl k l fx:={λx n m z=>(h.of x n m z).mono e,λx n m z=>(h.ox x n m z).mono e,h.oi,h.ob,h.oc,h.os}
def Qw(h:Ok P w K mg base is cl j l fx)(F:FI P w K mg base j x n m):Ok P w K mg base is cl j ((x,n,m)::l) fx:={QB F h.of,h.ox,h.oi,h.ob,h.oc,h.os}
def Tt(h:Ok P w K mg base is cl j l fx)(D:iy K x st ps):JS K mg x st ps:=let ⟨_,a,b⟩:=h.os;D.mg a b
def Uz(h:Ok P w K mg base is cl j l fx)(D:r8 K x st ps):Om K mg x st ps:=let ⟨_,a,b⟩:=h.os;D.mg a b
def fst(a:sc.kind=.function:=by kernel_rfl)(b:sc.isCoroutine=false:=by kernel_rfl)(c:sc.isGenerator=false:=by kernel_rfl)(d:N.Nodup:=by decide +kernel)(e:N.take P.length=P:=by kernel_rfl)(f:∀x∈P,sc.names.lookup x=↑.local \/ sc.names.lookup x=↑.cell:=by decide +kernel)(g:∀y∈sc.names,y.2≠.free:=by decide +kernel):bO N P sc:={a,b,c,d,e,f,g}
abbrev tM(st:Ω)(n:Nat):Γ Str:=(sr st).take n
def on(st:Ω)(D:iy K x st (tM st n))(h:Ok P w K mg base is cl j l fx)(t:Tv st (sr st) ⟨l,is⟩ g:=by ac_rfl)(F:bO (sr st) (tM st n) (ax st):=by exact fst)(e:(tM st n).length=n:=by kernel_rfl)(E:(sr st).length=k:=by kernel_rfl):Ok P w K mg base is cl (j+1) ((x,n,bo g k)::l) fx:=by
 have:=Qw (up h<|Nat.le_succ j)<|Uy (Tt h D) F h.ob h.of h.oi t;rw[e,E]at this;exact this
def ol(st:Ω)(N:Γ Str)(q:Str)(D:r8 K x st (N.take n))(h:Ok P w K mg base is cl j l fx)(t:TN st N ⟨l,is⟩ q g:=by ac_rfl)(F:bO N (N.take n) (ax st):=by exact fst)(H:x∈kh/\x++".<locals>."++"<lambda>"=q:=by decide +kernel)(e:(N.take n).length=n:=by kernel_rfl)(E:N.length=k:=by kernel_rfl):Ok P w K mg base is cl (j+4) ((x,n,bo g k)::l) fx:=by
 have:=Qw (up h<|jT j 4)<|T7 (Uz h D) F h.ob h.of h.oi H t;rw[e,E]at this;exact this
end
end Rg
namespace Ob
open PySem L2 PySem.Spec PyProof.Rows Dl
section
variable {os os':Γ Oj}{st:Ω}{rest:Γ Ω}
end
def F8(g:OG)(n:Nat)(args:Γ D):Δ D:=(g (args.map Slot.val++List.replicate (n-args.length) .UQ) []).map fun|.rt d _=>d|.nx _ _=>.none
def P9{K:Φ}{st:Ω}(F:CM K x qual st f fd)(S:bO N ps (ax st))
  (body:∀X:Cx,X.prog=P->X.w=w->X.K=K->X.mg=mg->X.base=base->Bk X N (ax st) k->X.env.code=fd.code->X.env.qual=qual++".<locals>."->∀UO UP pa,Jf X UO UP pa (ba st) g):dZ P w K mg base vi (k+1) f fd ps (Pq K ps.length<|F8 g N.length):=by
 let(oc,od,kV,C,pm,an,t,ct,Xq,rfl,lk,p):=F.ex;refine Cf lk p S (λvs H Q E z=>by let(m,J,d,h1,_,L,M,_):=z;rw[L.length,M]) λA O s H vs Q E Y z=>?_;let(m,J,d,sm,tb,rr,hl,D,q):=z;refine{_,(body (z7 vi P w K mg base N qual (ax _) f t A O s H E).ZM rfl rfl rfl rfl rfl {rfl,S.nd,λy kd Z=>.inl Z,rfl,λ_ _=>rfl,Y,rfl,S.kind} rfl rfl m H []).ZM,?_};unfold F8 at D;let(o,T,D):=ag D;have G:∀{U i:Hp}{n:Γ Oj},fS K m H [] U i [] n []->bc m H U i:=λ{U i n} ⟨B,ad,Bs,l⟩=>⟨λb u z=>l.S.gr.hh b u<|l.h0 b u z,l.S.gr.ff,l.S.gr.fh,λb u z=>by
  rcases l.S.gr.nw b u z with y|y
  .exact .inl y
  .refine .inr ?_;cases c:H b with
   |none=>rfl
   |some w=>have:=l.h0 b w c;rw[show B b=none from y]at this;cases this⟩
 refine{m,_,_,o,{H,λ_=>0,λ_ _=>none,{Ex.GV sm tb rr,.refl _,λk o e=>by simp at e,λk hk=>by simp at hk,λk hk=>by simp at hk,λj k R=>by simp at R,yN _,λk a e=>by simp at e}},T,?_};cases o with
 |rt d' n=>cases D;exactλv i U I r=>q v i U (G I) r
 |nx ρ' n=>cases D;exactλσ' i U I _=>q .UQ i U (G I.ends) (by simp[Rep])
abbrev Ez:=ak->Γ Oj->Δ (Γ Slot×Γ Oj)
def RL(K:Φ)(UO UP:Hp)(pa:Γ Ψ)(i:Nat)(f:Ez):TA:=λc H Q=>∃F b s l o a,fS K UO UP pa F H b s c/\c[i]?=↑(↑(.ref a))/\f b s=↑(l,o)/\∀v d U,fS K UO UP pa U d b o c->aA F U->gQ K U a l v->Q v d
def Kz(X:Cx)(UO UP:Hp)(pa:Γ Ψ)(i:Nat)(es:Γ γ)(f:Ez):Prop:=PA X es<|RL X.K UO UP pa i f
structure Pf(P:Program)(w:World)(K:W.Frag)(mg:Str->Option Value)(base:Heap)(k:Nat)(C:Addr)(x:Str)(n:Nat)(mm:List Slot->Fs->Option (D×Fs)):Prop where
 ex:∃ (f:Ψ) (fd:η) (ps:Γ Str),dZ P w K mg base vi k f fd ps (Lj K C n mm)/\mg x=↑(.ref f)/\W.keepIn K (.ref f)=true/\Binds K fd ps []
def Pf.mono{K:Φ}{mm:Γ Slot->Fs->Δ _}(F:Pf P w K mg base k C m n mm)(h:k<=j):Pf P w K mg base j C m n mm:=by
 let(f,d,p,a,b,c):=F.ex;exact{f,d,p,a.mono h,b,c}
section
variable {os os':Γ Oj}{st:Ω}{rest:Γ Ω}
def Ap:Ez:=λ_ o=>↑([],o)
def RQ(f:OF)(g:Ez):Ez:=λa o=>(f a o).bind λx=>(g a x.2).map λy=>(.val x.1::y.1,y.2)
def tw(g:Ez):Ez:=λa o=>(g a o).map λy=>(.obj 0::y.1,y.2)
def Kt:Kz X UO UP pa i [] Ap:=iW cQ λc H Q z=>by
 let(F,b,s,l,o,a,S,A,f,q):=z;cases f;exact q [] H F S (.refl _) .nil
def JD(E:OE X UO UP pa e fa)(hs:Kz X UO UP pa i es g)(v:starEach (e::es) X.env=(false,eval e X.env)::starEach es X.env:=by rfl):Kz X UO UP pa i (e::es) (RQ fa g):=
 iW (br E hs v) λu H Q z=>by
  let(F,b,o,L,O,a,S,A,f,q):=z;let((x,o1),k,f):=bs f;let((m,o2),y,z):=ag f;cases z;exact{F,b,o,x,o1,S,k,λp n T d l r1=>{T,b,o1,m,_,a,d,A,y,λt c U j s r=>q _ c U j (l.trans s)<|.val (r1.mono s) r}}
def Km(n:X.N[i]?=↑x)(c:rA X.env.scope x)(hs:Kz X UO UP pa i es g)(d:(x=="__debug__")=false:=by decide)(B:(x=="__classdict__")=false:=by decide)
  (v:starEach (.Name x px::es) X.env=(false,eval (.Name x px) X.env)::starEach es X.env:=by rfl):Kz X UO UP pa i (.Name x px::es) (tw g):=
 iW (br (dv n c d B) hs v) λp H Q z=>by
  let(F,k,o,l,O,a,S,A,f,q):=z;let((j,o2),y,z):=ag f;cases z;exact{_,A,F,k,o,j,_,a,S,A,y,λm b U s e r=>q _ b U s e<|.obj r}
def gX(i:Nat)(C:Ψ)(n:Nat)(mm:Γ Slot->Fs->Δ (D×Fs))(fs:Ez):OF:=λa o=>(obj i C a o).bind λ_=>(fs a o).bind λy=>(obj i C a y.2).bind λz=>if y.1.length=n then(mm y.1 z.2).map λw=>(w.1,y.2.set z.1 {C,w.2})else none
def F2{mm:Γ Slot->Fs->Δ (D×Fs)}{fs:Ez}(F:Pf X.prog X.w X.K X.mg X.base k C x n mm)(hr:cE k X.A)(hg:Gl X x)(ha:Kz X UO UP pa i (e::es) fs)(O:(x==("__debug__":Str))=false:=by decide)
  (he:starEach (e::es) X.env=(false,eval e X.env)::starEach es X.env:=by rfl)(P:(backTo pos<|starEach es X.env).any (·.1)=false:=by rfl):OE X UO UP pa (.Call (.Name x p) (e::es) [] pos) (gX i C n mm fs):=by
 let(f,fd,ps,ok,hm,hk,hb):=F.ex;refine aE (vb (E:=E0) ok hr hg hm hk hb .nil nL ha O he P) λσ H Q z=>?_;let(M,ρ,os,d,os',S,a,q):=z;let((c,st0),Z,a):=bs a;let((L,o1),h1,a):=bs a;let((k,st),h2,a):=bs a;split at a
 .rename_i hl;let((R,Y),h4,a):=ag a;cases a;let(j,e2):=obj_some Z;let(y,s):=obj_some h2;rw[j]at y;cases y;have S0:=S;let(HB,l,Bs,o):=S;refine{M,ρ,os,L,o1,l c,S0,o.S.ob i c j,h1,λvs H1 T N s1 r1=>?_};let(J,m,B,W):=N;have g:c<o1.length:=(List.getElem?_eq_some_iff.mp s).1;have G:m c=l c:=by
   have z1:=W.S.ob i c j;have z2:=o.S.ob i c j;rw[z2]at z1;injection z1 with z1
   injection z1 with z1
   injection z1 with z1
   exact z1.symm
  rw[qF];refine{T,B c,l c,L,st,R,Y,W.S.gr.fh,W.S.tb,λb u z=>W.S.gr.hh b u<|W.sb c g b u z,λb u z=>W.nf g z,G▸W.at_ c _ s,r1,hl,h4,λv I U B' t z r=>?_};exact q v I U {_,_,_,W.turn s t<|G▸z} (s1.trans t.gr.ff) r
 .cases a
end
open PySem L2 PySem.Spec PyProof.Rows Dl Ex
abbrev XO:=ak->Γ Oj->Δ Str
section
variable {xg xa xb:XO}{K:Φ}
def fS.tb{os:Γ Oj}(h:fS K UO UP pa HF H ρ os σ):cm K HF:=let ⟨_,_,_,o⟩:=h;o.S.tb
def SL(K:Φ)(mg:Str->Δ Θ)(C:Ψ)(n:Nat)(x:Γ Slot->Fs->Δ Str):Sp:=λv H _ E=>∃F B a s st c D,aA F H/\cm K F/\aA B H/\(∀b o,B b=↑o->F b=none)/\EN K F B C a st/\gQ K F a s v/\s.length=n/\x s st=↑c/\mg c=↑(.ref D) /\
 ∀d U,bc F H U d->E (.ref D) none d
structure LG(P:Program)(w:World)(K:W.Frag)(mg:Str->Option Value)(base:Heap)(k:Nat)(C:Addr)(m:Str)(n:Nat)(xm:List Slot->Fs->Option Str):Prop where
 ex:∃ (f:Ψ) (fd:η) (ps:Γ Str),dZ P w K mg base (TF P w) k f fd ps (SL K mg C n xm)/\AW K C m f/\Binds K fd ps []
def LG.mono{x:Γ Slot->Fs->Δ Str}(F:LG P w K mg base k C m n x)(h:k<=j):LG P w K mg base j C m n x:=by
 let(f,d,p,a,b,c):=F.ex;exact{f,d,p,a.mono h,b,c}
end
def RP(t:Dl.Env->Δ θ)(fa fb:OF):OF:=λa o=>(t<|aS a).bind λb=>if b=true then fa a o else fb a o
def MZ(hc:DT X c t)(A:OE X UO UP pa a fa)(B:OE X UO UP pa b fb):OE X UO UP pa (.IfExp c a b pos) (RP t fa fb):=aE (zw hc A B) λi H Q z=>by
 let(F,e,s,d,o,S,f,q):=z;let(b,h,f):=bs f;refine{H,aS e,b,.refl _,S.all,h,λg U G=>?_};cases b with
 |true=>exact so {F,e,s,d,o,S.step G.hh,f,q}
 |false=>exact rM {F,e,s,d,o,S.step G.hh,f,q}
section
variable {X:Cx}{UO UP HF H US H':Hp}{pa:Γ Ψ}{ρ ρ':ak}{os os':Γ Oj}{σ σ':L2.St}{st:Ω}{rest:Γ Ω}{e a b c:γ}{es:Γ γ}{pos p px apos UU VH:Pos}
def Ig(i:Nat)(C:Ψ)(f:Str)(fb:Dl.Env->Δ D):RF:=λa o=>(obj i C a o).bind λy=>match y.2.lookup f with
 |some (.lst s)=>(fb<|bh a).bind λd=>aH (.list s) d
 |_=>none
def Oz(D:DE X b fb)(hs:lG b)(A:X.N[i]?=↑x)(J:rA X.env.scope x)(cl:tK X.K C)(M:eI X.K C f)
  (a:attributeBase (.Name x px) f X.env (eval (.Name x px) X.env)=eval (.Name x px) X.env)(I:(x==("__debug__":Str))=false)(B:(x==("__classdict__":Str))=false) :
  OR X UO UP pa (.Subscript (.Attribute (.Name x px) f VH) b pos) (Ig i C f fb):=
 aE (CZ BQ (wc (dv A J I B) a) D hs) λW H Q z=>by
  let(m,T,O,d,S,F,q):=z;let((k,st),w,F):=bs F;let(E,e):=obj_some w;split at F
  .rename_i s p;let(y,Y,g):=bs F;cases y<;>try cases g
   rename_i n;have g:tW s n=↑d:=g;have S0:=S;let(HB,ad,Z,o):=S;have L:k<O.length:=(List.getElem?_eq_some_iff.mp e).1;show JA X.K (IG i) f W H _;refine qp o E e p cl M λdx fs as b P f1 f2 f3 f4 g1 t u=>?_;refine{m,bh T,.int n,S0.fh,S0.Vt,Y,λv l U G r=>?_};let(j,c,R):=sR u g;simp?[Rep]at r;exact .inl {b,P,n,j,rfl,r,ik.of<|G.hh _ _<|o.S.gr.hh _ _<|o.sb k L _ _ t,c,q j l U G<|R.mono G.ff}
  .cases F
def yg(i:Nat)(C:Ψ)(f:Str):OF:=λa o=>(obj i C a o).bind λy=>match y.2.lookup f with
 |some (.lst s)=>(s[s.length-1]?).map λd=>(d,o.set y.1 {C,p5 f (.lst s.dropLast) y.2})
 |_=>none
def Lu(I:X.N[i]?=↑x)(M:rA X.env.scope x)(cl:tK X.K C)(O:eI X.K C f)
  (J:attributeBase (.Name x px) f X.env (eval (.Name x px) X.env)=eval (.Name x px) X.env)(L:(x==("__debug__":Str))=false)(v:(x==("__classdict__":Str))=false)
  (m:attributeBase (.Attribute (.Name x px) f VH) "pop" X.env (eval (.Attribute (.Name x px) f VH) X.env)=eval (.Attribute (.Name x px) f VH) X.env)
  (U:(apos.endLine==UU.line)=true) :
  OE X UO UP pa (.Call (.Attribute (.Attribute (.Name x px) f VH) "pop" apos) [] [] UU) (yg i C f):=
 aE (Nm qM PySem.F.slot_list_pop PySem.F.type_list_pop NB (wc (dv I M L v) J) m U) λσ H Q z=>by
  let(j,ρ,P,d,R,S,g,q):=z;let((k,st),r,g):=bs g;let(n,E):=obj_some r;split at g
  .rename_i ds a;let(d',w,e):=ag g;cases e;let(Z,ad,W,o):=S;have l:k<P.length:=(List.getElem?_eq_some_iff.mp E).1;unfold QQ;refine qp o n E a cl O λD fs A b s f1 f2 f3 f4 p G c=>?_;have B:H b=↑(.lst s):=o.S.gr.hh _ _<|o.sb k l _ _ G;let(y,Y,T):=Fg c w;refine{.inl {rfl,s,ik.of B},b,s,y,rfl,rfl,B,Y,?_};have t:=we (u:=.lst s.dropLast) (λb u z=>o.S.gr.hh b u<|o.sb k l b u z) (λb u z=>o.nf l z) o.S.gr.fh G;refine q y _ j {_,_,_,o.turn E t {D,fs,A,?_,?_,?_,f4}} (.refl _) T
   .rw[ai λz=>by rw[z,G]at f1;cases f1];exact f1
   .rw[ai λz=>by rw[z,G]at f2;cases f2];exact f2
   .exact y1 (uH c) f3 f4 a p
  .cases g
end
section
variable {X:Cx}{UO UP HF H US H':Hp}{pa:Γ Ψ}{σ σ':L2.St}{rest:Γ Ω}{e a b c:γ}{es:Γ γ}{pos p px apos UU VH:Pos}
def uG(g:D->D->Δ D)(fa fb:RF):RF:=λa o=>(fa a o).bind λx=>(fb a o).bind λy=>g x y
def Mi(R:eu X.K r g):∀σ H Q,OP X.K UO UP pa (uG g fa fb) σ H Q->M9 r (OP X.K UO UP pa fa) (OP X.K UO UP pa fb) σ H Q:=λσ H Q z=>by
 let(F,b,o,d,S,f,q):=z;let(x,k,f):=bs f;let(y,Y,j):=bs f;exact{F,b,o,x,S,k,λn s T G r1=>{T,b,o,y,S.grow G,Y,λp e U a l=>R U e x y n p d Q (S.grow<|G.trans a).fh (r1.mono a.ff) l j λv c u i m=>q v c u ((G.trans a).trans i) m}}
def QP(o:iM X (binaryOp op) r)(R:eu X.K r g)(H:OR X UO UP pa a fa)(B:OR X UO UP pa b fb):OR X UO UP pa (.BinOp a op b pos) (uG g fa fb):=aE (Ca o H B)<|Mi R
def RV(K:Φ)(C:Ψ)(mr:Fs->Δ D):Sp:=λs H Q _=>∃F B a st d,s=[V.ref a]/\aA F H/\cm K F/\aA B H/\(∀b o,B b=↑o->F b=none)/\EN K F B C a st/\mr st=↑d/\∀v c U,bc F H U c->Rep K U d v->Q v c
structure Eb(P:Program)(w:World)(K:W.Frag)(mg:Str->Option Value)(base:Heap)(k:Nat)(C:Addr)(m:Str)(mr:Fs->Option D):Prop where
 ex:∃ (f:Ψ) (fd:η) (ps:Γ Str),dZ P w K mg base vi k f fd ps (RV K C mr)/\AW K C m f/\Binds K fd ps []
def Eb.mono{K:Φ}{mr:Fs->Δ D}(F:Eb P w K mg base k C m mr)(h:k<=j):Eb P w K mg base j C m mr:=by
 let(f,d,p,a,b,c):=F.ex;exact{f,d,p,a.mono h,b,c}
def bg(i:Nat)(C:Ψ)(m:Str)(mr:Fs->Δ D):RF:=λa o=>(obj i C a o).bind λy=>if(y.2.lookup m).isNone=true then mr y.2 else none
def JK{mr:Fs->Δ D}{pl:Sem θ}(F:Eb X.prog X.w X.K X.mg X.base k C m mr)(R:cE k X.A)(t:X.N[i]?=↑x)(I:rA X.env.scope x)(cl:tK X.K C)(G:(x==("__debug__":Str))=false)(j:(x==("__classdict__":Str))=false)
  (ht:eval (.Call (.Attribute (.Name x px) m apos) [] [] pos) X.env=(do
   let v <- eval (.Name x px) X.env
   standAt apos.atName
   let (f,first) <- holding [v]<|getMethod v m pl
   callWith pos f first (backTo pos<|starEach [] X.env) (backToKw pos<|keywordEach [] X.env))) :
  OR X UO UP pa (.Call (.Attribute (.Name x px) m apos) [] [] pos) (bg i C m mr):=by
 let(f,W,Y,O,M,y):=F.ex;refine aE (rE (E:=E0) (dv t I G j) cl M O R y .nil nL ht) λσ H Q z=>?_;let(g,Z,P,d,S,a,q):=z;let((k,st),r,a):=bs a;let(l,a):=Rf.QE a;let(p,e):=obj_some r;have S0:=S;let(T,c,B,o):=S;let(n,J,U,f1,f2,f3,f4):=(o.at_ k _ e).ex;have L:k<P.length:=(List.getElem?_eq_some_iff.mp e).1;have s:aA (B k) H:=λb u z=>o.S.gr.hh b u<|o.sb k L b u z;exact{_,o.S.ob i k p,c k,n,J,rfl,s _ _ f1,oS f3 (by cases z:st.lookup m with|none=>rfl|some _=>rw[z]at l;cases l),g,B k,c k,st,d,rfl,S0.fh,S0.tb,s,λb u z=>o.nf L z,o.at_ k _ e,a,q}
def Iw(f:RF)(C:Ψ)(n:Nat):Fs->Δ D:=λst=>f (Slot.obj 0::List.replicate (n-1) .UQ) [⟨C,st⟩]
def Qz{K:Φ}{st:Ω}(F:CM K x qual st f fd)(S:bO N ps (ax st))(p:ps.length=1)
  (body:∀X:Cx,X.prog=P->X.w=w->X.K=K->X.mg=mg->X.base=base->Bk X N (ax st) k->∀UO UP pa,xv X (ba st) λE σ H=>OP X.K UO UP pa fr σ H E.rt):dZ P w K mg base vi (k+1) f fd ps (RV K C<|Iw fr C N.length):=by
 let(G,od,kV,c,M,m,u,T,j,rfl,l,v):=F.ex;refine Cf l v S (λi H Q E z=>by let(b,B,a,st,d,e,_):=z;rw[e,p];rfl) λA o s H i Q E r z=>?_;let(b,B,a,st,d,rfl,sm,t,g,n,O,D,q):=z;refine{_,(body (z7 vi P w K mg base N qual (ax _) f u A o s H E).ZM rfl rfl rfl rfl rfl {rfl,S.nd,λy kd Y=>.inl Y,rfl,λ_ _=>rfl,r,rfl,S.kind} b (cut H B) [a]).ZM,?_};exact{b,_,_,d,DK sm t g n O<|.obj .nil,D,q}
def GC(h:OR X UO UP pa e f):xv X [.Return (↑e) pos] (λE σ H=>OP X.K UO UP pa f σ H E.rt):=uY<|Bf h
end
section
variable {X:Cx}{UO UP:Hp}{pa:Γ Ψ}{b:γ}{pos px:Pos}
end
end Ob
namespace Og
open PySem L2 Dl Rf Ob PySem.Spec PyProof.Rows
variable {pos':Pos}
abbrev MF:=Γ Dl.Slot->Fs->Δ (D×Fs)
abbrev XF:=Γ Dl.Slot->Fs->Δ Str
structure Cg where
 cn:Str
 C:Ψ
 fl:Γ Str
 ms:Γ (Str×Nat×MF)
 ini:Δ (Nat×MF)
 rs:Γ (Str×(Fs->Δ D))
 fs:Γ (Str×Nat×MF)
 xs:Γ (Str×Nat×XF)
 on:Γ Str
 ol:Γ Str
structure RB(P:Program)(w:World)(K:W.Frag)(mg:Str->Option Value)(base:Heap)(j:Nat)(c:Cg):Prop where
 cl:tK K c.C
 na:∀f,c.fl.contains f=true->eI K c.C f
 ms:∀m n mm,c.ms.lookup m=↑(n,mm)->MM P w K mg base j c.C m n mm
 ini:∀n mi,c.ini=↑(n,mi)->∃f fd ps,Mk K c.C f/\dZ P w K mg base vi j f fd ps (Lj K c.C n mi)/\Binds K fd ps []/\mg c.cn=↑(.ref c.C)
 rs:∀m mr,c.rs.lookup m=↑mr->Eb P w K mg base j c.C m mr
 fs:∀x n mm,c.fs.lookup x=↑(n,mm)->Pf P w K mg base j c.C x n mm
 xs:∀m n xm,c.xs.lookup m=↑(n,xm)->LG P w K mg base j c.C m n xm
abbrev tI(c:Cg)(X:Cx)(j:Nat):Prop:=RB X.prog X.w X.K X.mg X.base j c
abbrev Tp:OG:=λ_ _=>none
section
variable {c:Cg}{G:Sg}{X:Cx}{N:Γ Str}{sc:ζ}{k j:Nat}{pos p px ap fp:Pos}{UO UP:Hp}{pa:Γ Ψ}
def Ii(hs:(args.all λe=>!isStar e)=true)(l:args.length<20)(U:(apos.endLine==pos.line)=true):∃pl:Sem θ,eval (.Call (.Attribute (.Name x px) m apos) args [] pos) env=(do
   let o <- eval (.Name x px) env
   standAt apos.atName
   let (f,first) <- holding [o]<|getMethod o m pl
   callWith pos f first (backTo pos<|starEach args env) (backToKw pos<|keywordEach [] env)):=by
 have Z:methodCallForm (args.length+([]:Γ Keyword).length) (backTo pos<|starEach args env) (backToKw pos<|keywordEach [] env)=true:=vx hs l;have W:methodCallPos true (.Name x px) env apos pos=pure pos:=by unfold methodCallPos;simp[U]
 refine{(do return(<- importBound (.Name x px) env).getD true),?_};rw[arm_eval_Call];unfold methodCall;rw[Z,W];rfl
structure Yo(c:Cg)(X:Cx)(j k:Nat):Prop where
 ck:tI c X j
 lt:j<k
def QT{st:Ω}:OS X UO UP pa st Tp:=λp s b H E I z=>by let(F,a,O,o,S,g,q):=z;cases g
def QF{fs:n6}(C:Cn G X N sc j k)(a:OA X UO UP pa (e::es) fs)(l:G.fn.lookup x=↑(n,m))(H:(Jl sc x&&!(x==("__debug__":Str)))=true)(hs:isStar e=false)(ht:(es.all λe=>!isStar e)=true):OE X UO UP pa (.Call (.Name x p) (e::es) [] pos) (fT n m fs):=by
 simp?[zF,yQ]at H;exact Lp (C.g.fn x n m l) (C.b.room.mono C.le) (C.b.gl H.1) a H.2 (az hs)<|bp ht
def M0{fs:Ez}(C:Cn G X N sc j k)(K:tI c X j)(a:Kz X UO UP pa i (e::es) fs)(l:c.fs.lookup x=↑(n,m))(g:(Jl sc x&&!(x==("__debug__":Str)))=true)(hs:isStar e=false)(ht:(es.all λe=>!isStar e)=true):OE X UO UP pa (.Call (.Name x p) (e::es) [] pos) (gX i c.C n m fs):=by
 simp?[zF,yQ]at g;exact F2 (K.fs x n m l) (C.b.room.mono C.le) (C.b.gl g.1) a g.2 (az hs)<|bp ht
def SI{g:Ez}(C:Cn G X N sc j k)(hs:Kz X UO UP pa i es g)(h:ip N sc i x=true):Kz X UO UP pa i (.Name x px::es) (tw g):=let ⟨a,b,d,e⟩:=C.b.W4 h;Km a b hs d e<|az rfl
def Qj{fs:n6}(C:Cn G X N sc j k)(K:tI c X j)(a:OA X UO UP pa (e::es) fs)(l:c.ms.lookup m=↑(n,mm))(h:ip N sc i x=true)(U:(ap.endLine==pos.line)=true)(hs:isStar e=false)(ht:(es.all λe=>!isStar e)=true)(z:decide ((e::es).length<20)=true):OE X UO UP pa (.Call (.Attribute (.Name x px) m ap) (e::es) [] pos) (bK i c.C m n mm fs):=by
 let(v,d,f,g):=C.b.W4 h;let(p,hw):=Ii (x:=x) (m:=m) (px:=px) (env:=X.env) (args:=e::es) (by simp[hs,ht]) (yR z) U;exact Ll (K.ms m n mm l) (C.b.room.mono C.le) v d K.cl a f g (az hs) (bp ht) (pl:=p) hw
def Nz(C:Cn G X N sc j k)(K:tI c X j)(l:c.ms.lookup m=↑(n,mm))(h:ip N sc i x=true)(U:(ap.endLine==pos.line)=true):OE X UO UP pa (.Call (.Attribute (.Name x px) m ap) [] [] pos) (bK i c.C m n mm bI):=by
 let(v,a,d,e):=C.b.W4 h;let(p,hw):=Ii (x:=x) (m:=m) (px:=px) (env:=X.env) (args:=[]) rfl (by simp) U;exact Gv (K.ms m n mm l) (C.b.room.mono C.le) v a K.cl d e (pl:=p) hw
def MG(C:Cn G X N sc j k)(K:tI c X j)(l:c.rs.lookup m=↑mr)(h:ip N sc i x=true)(U:(ap.endLine==pos.line)=true):OR X UO UP pa (.Call (.Attribute (.Name x px) m ap) [] [] pos) (bg i c.C m mr):=by
 let(v,a,d,e):=C.b.W4 h;let(p,hw):=Ii (x:=x) (m:=m) (px:=px) (env:=X.env) (args:=[]) rfl (by simp) U;exact JK (K.rs m mr l) (C.b.room.mono C.le) v a K.cl d e (pl:=p) hw
def SS(C:Cn G X N sc j k)(K:tI c X j)(hc:c.fl.contains f=true)(h:ip N sc i x=true)(B:iN X "len" (.builtin "len")):OR X UO UP pa (.Call (.Name "len" p) [.Attribute (.Name x px) f fp] [] pos) (uw i c.C f):=let ⟨v,a,d,e⟩:=C.b.W4 h;KO B v a K.cl (K.na _ hc) rfl d e
def TQ(C:Cn G X N sc j k)(K:tI c X j)(H:DE X b fb)(a:ML b=false)(hc:c.fl.contains f=true)(h:ip N sc i x=true):OR X UO UP pa (.Subscript (.Attribute (.Name x px) f fp) b pos) (Ig i c.C f fb):=let ⟨v,d,e,g⟩:=C.b.W4 h;Oz H (jj a) v d K.cl (K.na _ hc) rfl e g
def Th(C:Cn G X N sc j k)(K:tI c X j)(hc:c.fl.contains f=true)(h:ip N sc i x=true)(l:(ap.endLine==pos.line)=true):OE X UO UP pa (.Call (.Attribute (.Attribute (.Name x px) f fp) "pop" ap) [] [] pos) (yg i c.C f):=let ⟨v,a,d,e⟩:=C.b.W4 h;Lu v a K.cl (K.na _ hc) rfl d e rfl l
def RR(C:Cn G X N sc j k)(H:OE X UO UP pa e f)(l:gW N sc i x=true)(hs:swapsWith e (↑(.Name x pos')) pos.line X.env=pure false):OS X UO UP pa (.Assign [.Name x pos'] e pos) (hJ i f):=let ⟨z1,z2,z3,z4⟩:=C.b.loc l;O7 i z1 z2 z3 H hs z4
def RW(C:Cn G X N sc j k)(K:tI c X j)(H:DF X e fl)(hc:c.fl.contains f=true)(h:ip N sc i x=true)(hs:swapsWith e (↑(.Attribute (.Name x px) f fp)) pos.line X.env=pure false):OS X UO UP pa (.Assign [.Attribute (.Name x px) f fp] e pos) (CP i c.C f fl):=let ⟨v,a,d,g⟩:=C.b.W4 h;JH H v a K.cl (K.na _ hc) hs d g
def SD(C:Cn G X N sc j k)(K:tI c X j){cp:Pos}(H:OR X UO UP pa e U)(hc:c.fl.contains f=true)(h:ip N sc i x=true)(hs:isStar e=false)(l:(ap.endLine==cp.line)=true):OS X UO UP pa (.Expr (.Call (.Attribute (.Attribute (.Name x px) f fp) "append" ap) [e] [] cp) pos) (zd i c.C f U):=let ⟨v,a,d,g⟩:=C.b.W4 h;Jy H v a K.cl (K.na _ hc) rfl d g rfl (vx (by simp[hs])<|by simp) l (az hs) rfl
def Ri(C:Cn G X N sc j k)(Y:Yo c X j k){fs:n6}(a:OA X UO UP pa (e::es) fs)(hi:c.ini=↑(n,U))(g:(Jl sc c.cn&&!(c.cn==("__debug__":Str)))=true)(l:gW N sc i x=true)(hs:isStar e=false)(ht:(es.all λe=>!isStar e)=true):OS X UO UP pa (.Assign [.Name x pos'] (.Call (.Name c.cn p) (e::es) [] ap) pos) (Ab i c.C n U fs):=by
 simp?[zF,yQ]at g;let(f,d,s,M,F,B,m):=Y.ck.ini n U hi;let(z1,z2,z3,z4):=C.b.loc l;exact LK M F (C.b.room.mono Y.lt) (C.b.gl g.1) m B a z1 z2 z3 g.2 (az hs) (bp ht) rfl z4
def UF(C:Cn G X N sc j k)(H:OE X UO UP pa a fa)(B:OE X UO UP pa b fb):OT X UO UP pa (.Compare a [.Eq] [b] pos) (oB<|mN bS fa fb):=A9 (wk C.b.u64) ph H B<|eF _
def one(C:Cn G X N sc j k)(H:OE X UO UP pa a fa)(B:OE X UO UP pa b fb):OT X UO UP pa (.Compare a [.NotEq] [b] pos) (oB<|mN dX fa fb):=A9 (IX C.b.u64) ph H B<|eF _
def PY(H:OR X UO UP pa a fa)(B:OR X UO UP pa b fb):OR X UO UP pa (.BinOp a .Sub b pos) (uG Dl.ib fa fb):=QP FX uP H B
end
abbrev PM(st:Ω)(N:Γ Str)(S:Sg)(c:Cg)(b:Γ Ω)(g:OG):Prop:=∀(X:Cx)(_:Unit)(F H:Hp)(p:Γ Ψ)(j k:Nat),Cn S X N (ax st) j k->Yo c X j k->Jf X F H p b g
abbrev TX(st:Ω)(N:Γ Str)(S:Sg)(c:Cg)(e:γ)(g:RF):Prop:=∀(X:Cx)(_:Unit)(F H:Hp)(p:Γ Ψ)(j k:Nat),Cn S X N (ax st) j k->Yo c X j k->OR X F H p e g
end Og
namespace VY
open PySem L2 Dl Rf Ob Og Ex Rg PySem.Spec PyProof.Rows
structure pX(K:W.Frag)(C:Addr)(m:Str)(st:Stmt)(ps:List Str):Prop where
 ex:∃ (f:Ψ) (fd:η) (qual:Str),CM K m qual st f fd/\AW K C m f/\Binds K fd ps []
def Dg{K:Φ}{st:Ω}{kV:Θ}(b:dJ st ps)(a:W.findIn K (.ref C) m=↑(↑(.ref f)))(n:W.isFn K (.ref f)=true)(l:K.lookup f=↑{oc,od,.func<|W.fnOf m qual (eh st) (ba st) (ax st) .none kV d p A u t,Xq})
  (c:W.codeIn K u qual=true)(k:W.keepIn K (.ref f)=true):pX K C m st ps:={f,_,qual,oZ l c k,⟨a,n,k⟩,(oZ l c k).binds λkV d p A u t s=>b _ _ kV d p A u t s}
section
variable {K:Φ}{st:Ω}{c:Cg}
def LN(h:RB P w K mg base i c)(e:i<=j):RB P w K mg base j c:={h.cl,h.na,λm n mm z=>(h.ms m n mm z).mono e,λn M z=>let ⟨f,F,p,a,b,d⟩:=h.ini n M z;{f,F,p,a,b.mono e,d},λm r z=>(h.rs m r z).mono e,λx n mm z=>(h.fs x n mm z).mono e,λm n X z=>(h.xs m n X z).mono e}
structure FC(P:Program)(w:World)(K:W.Frag)(mg:Str->Option Value)(base:Heap)(is:List (Str×Int))(cl:List Str)(j:Nat)(l:FT)(fx:XT)(c:Cg):Prop where
 ok:Ok P w K mg base is cl j l fx
 ck:RB P w K mg base j c
def yo(h:FC X.prog X.w X.K X.mg X.base is cl j l fx c)(e:j<k)(C:Bk X N sc k):Cn ⟨l,is⟩ X N sc j k/\Yo c X j k:={{C,{h.ok.of,h.ok.oi,h.ok.ob},jR e},h.ck,e}
def Bc{α:Type}{a:α}{l:Γ _}{R:Str->α->Prop}(h:R x a)(H:∀y b,l.lookup y=↑b->R y b):∀y b,((x,a)::l).lookup y=↑b->R y b:=λy b z=>by
 grind
def NP(u:CM K m qual st f fd)(h:FC P w K mg base is cl j l fx c)(t:PM st (sr st) ⟨l,is⟩ c (ba st) g)(F:bO (sr st) (tM st n) (ax st))(e:(tM st n).length=n)(E:(sr st).length=k):dZ P w K mg base vi (j+2) f fd (tM st n) (Lj K c.C n<|jn g c.C k):=by
 have:dZ P w K mg base vi (j+2) f fd (tM st n) (Lj K c.C (tM st n).length<|jn g c.C (sr st).length):=Qo (k:=j+1) u F λX p hw d W r C _ i H A=>by
  subst p;subst hw;subst d;subst W;subst r;exact let ⟨a,b⟩:=yo h (kM j) C;t X () _ _ A j _ a b
 rw[e,E]at this;exact this
def om(st:Ω)(D:pX K c.C m st (tM st n))(h:FC P w K mg base is cl j l fx c)(t:PM st (sr st) ⟨l,is⟩ c (ba st) g:=by ac_rfl)(F:bO (sr st) (tM st n) (ax st):=by exact fst)(e:(tM st n).length=n:=by kernel_rfl)(E:(sr st).length=k:=by kernel_rfl) :
  FC P w K mg base is cl (j+2) l fx {c with ms:=(m,n,jn g c.C k)::c.ms}:=by
 let(f,i,q,u,M,B):=D.ex;have d:=LN h.ck<|jT j 2;exact{up h.ok<|jT j 2,{d with ms:=λo N mm=>Bc (R:=λm a=>MM P w K mg base (j+2) c.C m a.1 a.2) {f,i,_,NP u h t F e E,M,B} (λy b=>d.ms y b.1 b.2) o (N,mm)}}
def oq(st:Ω)(D:pX K c.C m st (tM st 1))(h:FC P w K mg base is cl j l fx c)(o:ba st=[.Return (↑ex) U]:=by rfl)(t:TX st (sr st) ⟨l,is⟩ c ex fr:=by ac_rfl)(F:bO (sr st) (tM st 1) (ax st):=by exact fst)(e:(tM st 1).length=1:=by kernel_rfl)(E:(sr st).length=k:=by kernel_rfl) :
  FC P w K mg base is cl (j+2) l fx {c with rs:=(m,Iw fr c.C k)::c.rs}:=by
 let(f,g,q,u,M,B):=D.ex;have d:=LN h.ck<|jT j 2;have n:dZ P w K mg base vi (j+2) f g (tM st 1) (RV K c.C<|Iw fr c.C (sr st).length):=Qz (k:=j+1) u F e λX p hw i W r C x H A=>by
  subst p;subst hw;subst i;subst W;subst r;rw[o];exact let ⟨a,b⟩:=yo h (kM j) C;GC<|t X () _ _ A j _ a b
 rw[E]at n;exact{up h.ok<|jT j 2,{d with rs:=λs v=>Bc (R:=λm a=>Eb P w K mg base (j+2) c.C m a) {f,g,_,n,M,B} d.rs s v}}
def oi(f':Ψ)(st:Ω)(D:pX K c.C "__init__" st (tM st n))(H:Mk K c.C f')(hc:mg c.cn=↑(.ref c.C))(h:FC P w K mg base is cl j l fx c)(t:PM st (sr st) ⟨l,is⟩ c (ba st) g:=by ac_rfl)(F:bO (sr st) (tM st n) (ax st):=by exact fst)(e:(tM st n).length=n:=by kernel_rfl)(E:(sr st).length=k:=by kernel_rfl) :
  FC P w K mg base is cl (j+2) l fx {c with ini:=↑(n,jn g c.C k)}:=by
 let(f,d,q,u,M,B):=D.ex;have a:=LN h.ck<|jT j 2;have z:=M.at_;rw[H.init]at z;cases z;have b:=NP u h t F e E;refine{up h.ok<|jT j 2,a.cl,a.na,a.ms,λN m z=>?_,a.rs,a.fs,a.xs};have z:↑(n,jn g c.C k)=↑(N,m):=z;cases z;exact{_,d,_,H,b,B,hc}
end
section
variable {K:Φ}{C:Ψ}{m:Str}{ps:Γ Str}
def m1(q:Str)(f c:Ψ)(p:Θ){st:Ω}(b:dJ st ps:=by exactλ_ _ _ _ _ _ _ _ u H=>Hd.Kn (R:=λu=>bindArgs _ {u,[]}=pure (List.zip _ u)) (λ_=>rfl) u H)(a:W.findIn K (.ref C) m=↑(↑(.ref f)):=by kernel_rfl)(n:W.isFn K (.ref f)=true:=by kernel_rfl)(l:K.lookup f=↑(Hd.QN m q st p c):=by kernel_rfl)(d:W.codeIn K (.ref c) q=true:=by kernel_rfl)(k:W.keepIn K (.ref f)=true:=by kernel_rfl):pX K C m st ps:=Dg b a n l d k
def m2(q:Str)(f c:Ψ)(p:Θ){st:Ω}(b:dJ st ps:=by exactλ_ _ _ _ _ _ _ _ u H=>Hd.Lh (R:=λu=>bindArgs _ {u,[]}=pure (List.zip _ u)) (λ_ _=>rfl) u H)(a:W.findIn K (.ref C) m=↑(↑(.ref f)):=by kernel_rfl)(n:W.isFn K (.ref f)=true:=by kernel_rfl)(l:K.lookup f=↑(Hd.QN m q st p c):=by kernel_rfl)(d:W.codeIn K (.ref c) q=true:=by kernel_rfl)(k:W.keepIn K (.ref f)=true:=by kernel_rfl):pX K C m st ps:=Dg b a n l d k
def m3(q:Str)(f c:Ψ)(p:Θ){st:Ω}(b:dJ st ps:=by exactλ_ _ _ _ _ _ _ _ u H=>Hd.L4 (R:=λu=>bindArgs _ {u,[]}=pure (List.zip _ u)) (λ_ _ _=>rfl) u H)(a:W.findIn K (.ref C) m=↑(↑(.ref f)):=by kernel_rfl)(n:W.isFn K (.ref f)=true:=by kernel_rfl)(l:K.lookup f=↑(Hd.QN m q st p c):=by kernel_rfl)(d:W.codeIn K (.ref c) q=true:=by kernel_rfl)(k:W.keepIn K (.ref f)=true:=by kernel_rfl):pX K C m st ps:=Dg b a n l d k
def m4(q:Str)(f c:Ψ)(p:Θ){st:Ω}(b:dJ st ps:=by exactλ_ _ _ _ _ _ _ _ u H=>Hd.Ol (R:=λu=>bindArgs _ {u,[]}=pure (List.zip _ u)) (λ_ _ _ _=>rfl) u H)(a:W.findIn K (.ref C) m=↑(↑(.ref f)):=by kernel_rfl)(n:W.isFn K (.ref f)=true:=by kernel_rfl)(l:K.lookup f=↑(Hd.QN m q st p c):=by kernel_rfl)(d:W.codeIn K (.ref c) q=true:=by kernel_rfl)(k:W.keepIn K (.ref f)=true:=by kernel_rfl):pX K C m st ps:=Dg b a n l d k
end
section
variable {K:Φ}{st:Ω}{c:Cg}
def Qv{fl:Γ Str}(n:(fl.all λf=>match W.findIn K (.ref C) f with|some none=>true|_=>false)=true)(H:fl.contains f=true):eI K C f:=by
 have:=List.all_eq_true.mp n f<|List.contains_iff_mem.mp H;show W.findIn K (.ref C) f=↑none;split at this
 .assumption
 .cases this
def Ub{on ol:Γ Str}(c:tK K C)(a:(fl.all λf=>match W.findIn K (.ref C) f with|some none=>true|_=>false)=true)(h:Ok P w K mg base is cl j l fx):FC P w K mg base is cl j l fx {cn,C,fl,[],none,[],[],[],on,ol}:=
 {h,c,λf H=>Qv a H,λm n mm z=>(nomatch z),λn i z=>(nomatch z),λm r z=>(nomatch z),λx n mm z=>(nomatch z),λx n mm z=>(nomatch z)}
end
end VY
namespace Pg
open PySem L2 Dl PySem.Spec PyProof.Rows
def rV:ak->Δ Out:=(aG (lJ (ma (cY<|fB<|N4 "int"<|ab 0)<|fB<|N4 "bool"<|ab 0) (aV<|fC<|.bool false) lY)<|aV<|mJ FH FH (ab 1) (ab 0)<|ab 2)
def bM:Γ D->Δ D:=bo rV 3
def pV:ak->Δ Out:=(aV<|ah 3 bM<|aa (ab 0)<|aa (fC<|.int 0)<|aa (f2 Dl.ib (ab 1)<|fC<|.int 1) af)
def cS:Γ D->Δ D:=bo pV 2
def uh:ak->Δ Out:=(aV<|mh (N4 "tuple"<|ab 0)<|mJ FH FH (ab 1) (b8 bP<|aa (ab 0) af)<|ab 2)
def bQ:Γ D->Δ D:=bo uh 3
def pI:ak->Δ Out:=(aG (lJ (cY<|fB<|N4 "tuple"<|ab 0) (aV<|fC<|.bool false) lY)<|aG (lJ (cY<|fB<|b8 oP<|aa (dS<|av 1 [1] (bu<|ab 0) (fG 0) (λ_=>↑true)<|ah 2 cS<|aa (ab 0)<|aa (ab 1) af) af) (aV<|fC<|.bool false) lY)<|aV<|f2 bS (f1 nQ<|ab 0)<|b8 bP<|aa (ab 0) af)
def gU:Γ D->Δ D:=bo pI 2
def zt:ak->Δ Out:=(aV<|mh (ah 3 bQ<|aa (ab 0)<|aa (fC<|.int 2)<|aa (fC<|.int 2) af)<|mh (ah 3 bM<|aa (f2 aH (ab 0)<|fC<|.int 0)<|aa (fC<|.int 0)<|aa (fC<|.int 9) af)<|ah 2 gU<|aa (f2 aH (ab 0)<|fC<|.int 1)<|aa (ab 1) af)
def gq:Γ D->Δ D:=bo zt 2
def Ad:ak->Δ Out:=(aG (lJ (cY<|fB<|ah 3 bQ<|aa (ab 0)<|aa (fC<|.int 3)<|aa (fC<|.int 3) af) (aV<|fC<|.bool false) lY)<|aV<|mh (ah 2 cS<|aa (f2 aH (ab 0)<|fC<|.int 0)<|aa (ab 1) af)<|mh (ah 2 cS<|aa (f2 aH (ab 0)<|fC<|.int 1)<|aa (ab 2) af)<|ah 3 bM<|aa (f2 aH (ab 0)<|fC<|.int 2)<|aa (fC<|.int 1)<|aa (fC<|.int 9) af)
def k7:Γ D->Δ D:=bo Ad 3
def pQ:ak->Δ Out:=(aG (lJ (ma (cY<|fB<|ah 3 bQ<|aa (ab 0)<|aa (fC<|.int 1)<|aa (fC<|.int 4) af)<|cY<|fB<|ah 3 bQ<|aa (ab 1)<|aa (fC<|.int 1)<|aa (fC<|.int 4) af) (aV<|fC<|.bool false) lY)<|aG (lJ (cY<|fB<|b8 oP<|aa (dS<|av 1 [1] (bu<|ab 0) (fG 0) (λ_=>↑true)<|ah 2 gq<|aa (ab 0)<|aa (b8 bP<|aa (ab 1) af) af) af) (aV<|fC<|.bool false) lY)<|aG (lJ (cY<|fB<|b8 oP<|aa (dS<|av 1 [0] (bu<|ab 1) (fG 0) (λ_=>↑true)<|ah 2 gq<|aa (ab 0)<|aa (b8 bP<|aa (ab 1) af) af) af) (aV<|fC<|.bool false) lY)<|aV<|mh (N4 "tuple"<|ab 2)<|b8 oP<|aa (dS<|av 1 [0,1] (bu<|ab 2) (fG 0) (λ_=>↑true)<|ah 3 k7<|aa (ab 0)<|aa (b8 bP<|aa (ab 1) af)<|aa (b8 bP<|aa (ab 2) af) af) af)
def gV:Γ D->Δ D:=bo pQ 3
def l6:ak->Δ Out:=(aG (bb 1 []<|j6 af)<|aG (gK [0] (cD<|aa (ab 0) af) (j4 2 3)<|Er 1 [2,3]<|av 1 [2] (bu<|f2 aH (ab 3)<|fC<|.int 1) (fG 0) (λ_=>↑true)<|bq<|aa (ab 1)<|aa (ab 0) af)<|aV<|ab 1)
def bJ:Γ D->Δ D:=bo l6 4
def jo:ak->Δ Out:=(aG (lJ (ma (cY<|fB<|ah 3 bQ<|aa (ab 0)<|aa (fC<|.int 3)<|aa (fC<|.int 3) af)<|cY<|fB<|ah 3 gV<|aa (f2 aH (ab 0)<|fC<|.int 0)<|aa (f2 aH (ab 0)<|fC<|.int 1)<|aa (f2 aH (ab 0)<|fC<|.int 2) af) (aV<|fC<|.bool false) lY)<|aG (bb 1 [0]<|av 1 [] (bu<|f2 aH (ab 0)<|fC<|.int 2) (fG 0) (λ_=>↑true)<|bq<|aa (f2 aH (ab 0)<|fC<|.int 0)<|aa (f2 aH (ab 0)<|fC<|.int 1) af)<|aG (bb 2 [0]<|si dY<|aa (ah 1 bJ<|aa (f2 aH (ab 0)<|fC<|.int 0) af) af)<|aG (bb 3 [0]<|si dY<|aa (dS<|av 2 [] (bu<|ah 1 bJ<|aa (f2 aH (ab 0)<|fC<|.int 1) af) (il 0 1) (λ_=>↑true)<|bq<|aa (ab 1)<|aa (ab 0) af) af)<|aV<|mh (f2 bS (ab 1)<|ab 2)<|f2 bS (ab 1)<|ab 3)
def dH:Γ D->Δ D:=bo jo 4
abbrev zq0:=(aa (ab 0) af)
abbrev zq1:=(cY<|fB<|ah 1 dH zq0)
def eZ:ak->Δ Out:=(lJ zq1 Rm lY)
def cH:Γ D->Δ D:=bo eZ 1
abbrev zq2:=(aa (ab 2) af)
abbrev zq3:=(aa (ab 0)<|aa (ab 1) zq2)
abbrev zq4:=(cY<|fB<|ah 3 bM zq3)
def eV:ak->Δ Out:=(lJ zq4 Rm lY)
def dA:Γ D->Δ D:=bo eV 3
def eJ:ak->Δ Out:=(mT<|ah 3 dA<|aa (ab 0)<|aa (fC<|.int 0)<|aa (f2 Dl.ib (ab 1)<|fC<|.int 1) af)
def cg:Γ D->Δ D:=bo eJ 2
def fU:ak->Δ Out:=(mT<|ah 2 cg<|aa (ab 0)<|aa (fC<|.int 2) af)
def jc:Γ D->Δ D:=bo fU 1
def my:ak->Δ Out:=(aV<|f2 aQ (f2 aQ (nN gP (ab 0) nG<|CN<|ab 1)<|bq zq2)<|nN gP (ab 0) (CN<|f2 aQ (ab 1)<|fC<|.int 1) nG)
def cX:Γ D->Δ D:=bo my 3
abbrev Ej:Γ Str:=["world","side","place","ways","likes","own"]
def oh:ak->Δ Out:=(aG (aO 3 [0]<|f2 aH (ab 0)<|fC<|.int 2)<|aG (aO 4 [0,1,2]<|f2 aH (f2 aH (f2 aH (ab 0)<|ab 1)<|ab 2)<|fC<|.int 1)<|aG (bb 5 [1,2,3]<|av 2 [1,2] (cD<|aa (ab 3) af) (il 0 1) (fB<|f2 bS (f2 aH (ab 1)<|ab 2)<|ab 3)<|ab 0)<|aV<|dS<|oY [1,3,4] (ab 5)<|f2 p9 (ab 3)<|f2 aH (f2 aH (ab 2)<|ab 0)<|f2 Dl.ib (fC<|.int 1)<|ab 1)
def iK:Γ D->Δ D:=bo oh 6
def k9:ak->Δ Out:=(aG (bb 4 [0]<|av 1 [] (bu<|f2 aH (ab 0)<|fC<|.int 2) (fG 0) (λ_=>↑true)<|fC<|.int 0)<|aG (aO 5 [0,1,2]<|f2 aH (f2 aH (f2 aH (ab 0)<|ab 1)<|ab 2)<|fC<|.int 0)<|aG (gK [0,1,2] (bu<|ah 3 iK<|aa (ab 0)<|aa (ab 1)<|aa (ab 2) af) (wY 6)<|aG (BJ 4 [0,3,5,6] (ab 6)<|b8 BL<|aa (f2 aH (ab 3)<|ab 6)<|aa (f2 aH (f2 aH (f2 aH (ab 0)<|fC<|.int 2)<|ab 6)<|fC<|.int 2)<|aa (ab 5) af)<|aO 5 [4,5,6]<|f2 Dl.ib (ab 5)<|f2 aH (ab 4)<|ab 6)<|aV<|b8 cq<|aa (ab 4) af)
def fy:Γ D->Δ D:=bo k9 7
def fM:ak->Δ Out:=(aG (bb 3 [0]<|av 1 [] (bu<|f2 aH (ab 0)<|fC<|.int 2) (fG 0) (λ_=>↑true)<|fC<|.int 0)<|aG (gK [0,1] (cO<|aa (b8 bP<|aa (f2 aH (ab 0)<|ab 1) af) af) (wY 4)<|aG (aO 5 [0,1,2,4]<|ah 4 fy<|aa (ab 0)<|aa (ab 1)<|aa (ab 4)<|aa (ab 2) af)<|bb 3 [3,5]<|av 2 [] (iH<|aa (ab 3)<|aa (ab 5) af) (il 0 1) (λ_=>↑true)<|f2 aQ (ab 0)<|ab 1)<|aV<|b8 cq<|aa (ab 3) af)
def bz:Γ D->Δ D:=bo fM 6
abbrev Xs:=(f2 aH (ab 0)<|fC<|.int 2)
def zv:ak->Δ Out:=(aV<|b8 cq<|aa (dS<|av 1 [] (bu Xs) (fG 0) (λ_=>↑true) Xs) af)
def rW:Γ D->Δ D:=bo zv 1
def ui:ak->Δ Out:=(aV<|ah 3 cX zq3)
def eS:Γ D->Δ D:=bo ui 3
def oI:ak->Δ Out:=(aG (aO 2 [0,1]<|ah 3 bz<|aa (ab 0)<|aa (fC<|.int 0)<|aa (ab 1) af)<|aG (aO 3 [0,2]<|ah 3 bz<|aa (ab 0)<|aa (fC<|.int 1)<|aa (ab 2) af)<|aG (gK [3] (cD<|aa (ab 3) af) (j4 4 5)<|lJ (fB<|f2 JZ (ab 5)<|f2 aH (ab 2)<|ab 4) (aV<|bq<|aa (ab 4)<|aa (ab 5) af) lY)<|aV<|fC .none)
def iA:Γ D->Δ D:=bo oI 6
abbrev zq6:=(j6 af)
abbrev zq7:=(ah 1 rW zq0)
abbrev zq8:=(aa (ab 0) zq2)
abbrev zq9:=(ah 2 iA zq8)
abbrev acL:=(aO 3 [0,2] zq9)
abbrev acM:=(fB<|f2 ye (ab 3)<|fC .none)
def v5:ak->Δ Out:=(aG (bb 1 [] zq6)<|aG (aO 2 [0] zq7)<|aG acL<|aG (NX acM (aG (lN 1 [3]<|ab 3)<|aG (aO 2 [2,3]<|ah 3 eS<|aa (ab 2)<|aa (f2 aH (ab 3)<|fC<|.int 0)<|aa (f2 aH (ab 3)<|fC<|.int 1) af) acL) Rf.turns)<|aV<|ab 1)
def uV:Γ D->Δ D:=bo v5 4
abbrev YE:=(bu<|ab 1)
abbrev ae6:=(aa (ab 4) af)
abbrev acN:=(aa (ab 3) ae6)
abbrev abh:=(ah 3 eS<|aa (ab 2) acN)
def sy:ak->Δ Out:=(aG (aO 2 [0] zq7)<|aG (gK [1] YE (j4 3 4)<|aO 2 [2,3,4] abh)<|aV<|ab 2)
def rg:Γ D->Δ D:=bo sy 5
abbrev ae7:=(ah 1 cH zq0)
abbrev Zu:=(mT ae7)
def gY:ak->Δ Out:=(aG Zu<|aV<|ah 3 bz<|aa (ab 0)<|aa (fC<|.int 0)<|aa (ah 2 rg<|aa (ab 0)<|aa (ah 1 uV zq0) af) af)
def aU:Γ D->Δ D:=bo gY 1
def pJ:ak->Δ Out:=(aG (lJ (fB<|f2 bS (ab 0)<|dS<|j6 af) (aV<|f2 hV (fC<|.int 7)<|ab 1) lY)<|aV<|f2 aQ (f2 aH (ab 0)<|f2 nM (ab 1)<|b8 bP<|aa (ab 0) af)<|f2 hV (fC<|.int 6553)<|f2 p6 (ab 1)<|b8 bP<|aa (ab 0) af)
def gL:Γ D->Δ D:=bo pJ 2
def mX:ak->Δ Out:=(aG (aO 3 [0,1]<|f2 nM (f2 aQ (f2 hV (f2 nM (ah 2 gL<|aa (ab 0)<|aa (ab 1) af)<|fC<|.int 2147483563)<|fC<|.int 69069)<|f2 hV (fC<|.int 104723)<|f2 aQ (ab 1)<|fC<|.int 1)<|fC<|.int 2147483563)<|aG (aO 3 [3]<|f2 nM (f2 aQ (f2 hV (ab 3)<|ab 3)<|f2 p6 (ab 3)<|fC<|.int 3)<|fC<|.int 2147483399)<|aV<|f2 nM (f2 p6 (f2 nM (f2 aQ (f2 hV (ab 3)<|ab 3)<|f2 p6 (ab 3)<|fC<|.int 7)<|fC<|.int 2147483647)<|fC<|.int 11)<|ab 2)
def aj:Γ D->Δ D:=bo mX 4
def l5:ak->Δ Out:=(aG (bb 3 []<|j6 af)<|aG (gK [2] (cD<|aa (ab 2) af) (j4 4 5)<|aG (bb 6 []<|j6 af)<|aG (gK [5] (cD<|aa (ab 5) af) (j4 7 8)<|FU 6 [8] (ah 3 aj<|aa (ab 0)<|aa (f2 aQ (f2 aQ (ab 1)<|f2 hV (fC<|.int 4)<|ab 4)<|ab 7)<|aa (f2 aQ (b8 bP<|aa (ab 6) af)<|fC<|.int 1) af)<|ab 8)<|lN 3 [6]<|b8 cq<|aa (ab 6) af)<|aV<|ab 3)
def bU:Γ D->Δ D:=bo l5 9
def fW:ak->Δ Out:=(aG (lJ (sJ (fB<|f2 FE (ab 2)<|fC<|.int 3)<|fB<|f2 bS (ah 3 aj<|aa (ab 0)<|aa (f2 aQ (ab 1)<|fC<|.int 64)<|aa (fC<|.int 4) af)<|fC<|.int 0) (aG (aO 3 [0,1]<|f2 aQ (fC<|.int 1)<|ah 3 aj<|aa (ab 0)<|aa (f2 aQ (ab 1)<|fC<|.int 65)<|aa (fC<|.int 2) af)<|aG (aO 4 [3]<|bq<|aa (bq<|aa (ab 3)<|aa (bq<|aa (fC<|.int 1)<|aa (fC<|.int 0) af) af)<|aa (bq<|aa (ab 3)<|aa (bq<|aa (fC<|.int 0)<|aa (fC<|.int 1) af) af) af)<|aV<|bq<|aa (bq<|aa (bq<|aa (ab 3)<|aa (bq<|aa (fC<|.int 0)<|aa (fC<|.int 1) af) af)<|aa (bq<|aa (ab 3)<|aa (bq<|aa (fC<|.int 1)<|aa (fC<|.int 0) af) af) af)<|aa (ab 4)<|aa (bq<|aa (bq<|aa (fC<|.int 0)<|aa (fC<|.int 0)<|aa (fC<|.int 2) af)<|aa (bq<|aa (fC<|.int 0)<|aa (fC<|.int 1)<|aa (fC<|.int 2) af)<|aa (bq<|aa (fC<|.int 1)<|aa (fC<|.int 0)<|aa (fC<|.int 2) af)<|aa (bq<|aa (fC<|.int 1)<|aa (fC<|.int 1)<|aa (fC<|.int 2) af) af) af) lY)<|aG (aO 5 [0,1]<|f2 aQ (fC<|.int 1)<|ah 3 aj<|aa (ab 0)<|aa (ab 1)<|aa (fC<|.int 3) af)<|aG (aO 6 [0,1]<|f2 aQ (fC<|.int 1)<|ah 3 aj<|aa (ab 0)<|aa (f2 aQ (ab 1)<|fC<|.int 1)<|aa (fC<|.int 3) af)<|aG (bb 7 []<|j6 af)<|aG (gK [5,6] (cO<|aa (f2 hV (ab 5)<|ab 6) af) (wY 8)<|lJ (sJ (fB<|f2 JZ (b8 bP<|aa (ab 7) af)<|ab 2)<|fB<|f2 FE (ah 3 aj<|aa (ab 0)<|aa (f2 aQ (f2 aQ (ab 1)<|fC<|.int 2)<|ab 8)<|aa (fC<|.int 4) af)<|fC<|.int 0) (lN 7 [0,1,6,8]<|bq<|aa (f2 p6 (ab 8)<|ab 6)<|aa (f2 nM (ab 8)<|ab 6)<|aa (f2 aQ (fC<|.int 1)<|ah 3 aj<|aa (ab 0)<|aa (f2 aQ (f2 aQ (ab 1)<|fC<|.int 12)<|ab 8)<|aa (fC<|.int 2) af) af) lY)<|aG (aO 9 [0,1,5,7]<|ah 3 bU<|aa (ab 0)<|aa (f2 aQ (ab 1)<|fC<|.int 24)<|aa (dS<|av 1 [7] (cO<|aa (ab 5) af) (fG 0) (λ_=>↑true)<|dS<|av 1 [0] (bu<|ab 1) (fG 0) (fB<|f2 bS (f2 aH (ab 0)<|fC<|.int 0)<|ab 1)<|f2 aH (ab 0)<|fC<|.int 1) af)<|aG (aO 10 [0,1,6,7]<|ah 3 bU<|aa (ab 0)<|aa (f2 aQ (ab 1)<|fC<|.int 40)<|aa (dS<|av 1 [7] (cO<|aa (ab 6) af) (fG 0) (λ_=>↑true)<|dS<|av 1 [0] (bu<|ab 1) (fG 0) (fB<|f2 bS (f2 aH (ab 0)<|fC<|.int 1)<|ab 1)<|f2 aH (ab 0)<|fC<|.int 0) af)<|aG (aO 11 [0,1,8,9]<|b8 cq<|aa (dS<|av 2 [0,1] (cD<|aa (ab 9) af) (il 0 1) (λ_=>↑true)<|bq<|aa (ah 3 aj<|aa (ab 2)<|aa (f2 aQ (f2 aQ (ab 3)<|fC<|.int 56)<|ab 0)<|aa (fC<|.int 4) af)<|aa (ab 1) af) af)<|aG (aO 4 [0,1,8,10]<|b8 cq<|aa (dS<|av 2 [0,1] (cD<|aa (ab 10) af) (il 0 1) (λ_=>↑true)<|bq<|aa (ah 3 aj<|aa (ab 2)<|aa (f2 aQ (f2 aQ (ab 3)<|fC<|.int 60)<|ab 0)<|aa (fC<|.int 4) af)<|aa (ab 1) af) af)<|aV<|bq<|aa (ab 11)<|aa (ab 4)<|aa (b8 cq<|aa (ab 7) af) af)
def dh:Γ D->Δ D:=bo fW 12
abbrev VS:=(aa (ab 1) af)
def Fb:ak->Δ Out:=(aV<|b8 JR<|aa (dS<|av 2 [2,3] (iH<|aa Xs VS) (il 0 1) (fB<|f2 bS (f2 aH (ab 0)<|ab 2)<|ab 3)<|ab 1) af)
def gf:Γ D->Δ D:=bo Fb 4
def qc:ak->Δ Out:=(aV<|b8 oP<|aa (dS<|av 2 [0,1,2] (cD<|aa (f2 aH (ab 0)<|ab 2) af) (il 0 1) (λ_=>↑true)<|f2 FH (ah 4 gf<|aa (ab 2)<|aa (ab 3)<|aa (ab 4) zq0)<|f2 aH (ab 1)<|fC<|.int 0) af)
def dF:Γ D->Δ D:=bo qc 3
def o9:ak->Δ Out:=(aG (aO 2 [0]<|f2 aH (ab 0)<|fC<|.int 2)<|aG (lJ (cY<|fB<|ah 3 bQ<|aa (ab 1)<|aa (b8 bP<|aa (ab 2) af)<|aa (b8 bP<|aa (ab 2) af) af) (aV<|fC<|.bool false) lY)<|aG (lJ (cY<|fB<|b8 oP<|aa (dS<|av 2 [] (iH<|aa (ab 2)<|aa (ab 1) af) (il 0 1) (λ_=>↑true)<|ah 3 bM<|aa (ab 1)<|aa (fC<|.int 0)<|aa (f2 aH (ab 0)<|fC<|.int 2) af) af) (aV<|fC<|.bool false) lY)<|aV<|mh (ah 3 dF<|aa (ab 0)<|aa (ab 1)<|aa (fC<|.int 0) af)<|ah 3 dF<|aa (ab 0)<|aa (ab 1)<|aa (fC<|.int 1) af)
def lj:Γ D->Δ D:=bo o9 3
abbrev aae:=(aa (ab 0) VS)
def fY:ak->Δ Out:=(aG Zu<|lJ (cY<|fB<|ah 2 lj aae) Rm lY)
def iY:Γ D->Δ D:=bo fY 2
def iQ:ak->Δ Out:=(aG (aO 4 [0,2,3]<|f2 aH (f2 aH (f2 aH (ab 0)<|fC<|.int 2)<|ab 3)<|ab 2)<|aG (lJ (fB<|f2 JZ (ah 4 gf<|aa (ab 0)<|aa (ab 1)<|aa (ab 2)<|aa (ab 4) af)<|f2 aH (f2 aH (f2 aH (ab 0)<|ab 2)<|ab 4)<|fC<|.int 0) (aV<|fC<|.bool true) lY)<|aG (aO 5 [0,2,4]<|ah 3 iK<|aa (ab 0)<|aa (ab 2)<|aa (ab 4) af)<|aG (aO 6 [3,5]<|nN gP (ab 5) (CN<|f2 aQ (f2 p9 (ab 5)<|ab 3)<|fC<|.int 1) nG)<|aV<|b8 Rf.IW<|aa (dS<|av 1 [1] (bu<|ab 6) (fG 0) (λ_=>↑true)<|f2 FE (f2 aH (ab 1)<|ab 0)<|fC<|.int 0) af)
def f9:Γ D->Δ D:=bo iQ 7
abbrev ae8:=(f2 aH (f2 aH Xs<|ab 2)<|fC<|.int 2)
abbrev ae9:=(f2 bS (f2 aH (ab 1)<|ab 2) ae8)
abbrev acO:=(fB ae9)
abbrev afa:=(aa (ab 1)<|aa (fC<|.int 0) zq2)
abbrev afb:=(aa (ab 0) afa)
abbrev afc:=(ah 4 f9 afb)
abbrev afd:=(fB afc)
abbrev acP:=(cY afd)
abbrev afe:=(aa (ab 1)<|aa (fC<|.int 1) zq2)
abbrev aff:=(aa (ab 0) afe)
abbrev afg:=(ah 4 f9 aff)
abbrev afh:=(fB afg)
abbrev acQ:=(cY afh)
def mK:ak->Δ Out:=(aG (lJ acO (aV<|fC<|.str "full") lY)<|aG (lJ acP (aV<|fC<|.str "giver") lY)<|aG (lJ acQ (aV<|fC<|.str "taker") lY)<|aV<|fC .none)
def iT:Γ D->Δ D:=bo mK 3
def qf:ak->Δ Out:=(aG (gK [1] (cO<|aa (b8 bP VS) af) (wY 2)<|lJ (fB<|f2 Ae (ah 3 iT zq3)<|fC .none) (aV<|ab 2) lY)<|aV<|fC .none)
def fK:Γ D->Δ D:=bo qf 3
def mL:ak->Δ Out:=(aV<|f2 Ae (ah 2 fK aae)<|fC .none)
def mE:Γ D->Δ D:=bo mL 2
def xl:ak->Δ Out:=(aG (mT<|ah 2 iY aae)<|aV<|ah 2 mE aae)
def mZ:Γ D->Δ D:=bo xl 2
abbrev aaf:=(f2 aH (ab 0)<|ab 1)
def eW:ak->Δ Out:=(aG (mT<|ah 1 jc VS)<|mT<|ah 2 cg<|aa (ab 2)<|aa (b8 bP<|aa aaf af) af)
def ig:Γ D->Δ D:=bo eW 3
abbrev abi:=(bq acN)
def gC:ak->Δ Out:=(aV<|ah 3 cX<|aa (ab 0)<|aa (ab 1)<|aa (ah 3 cX<|aa aaf<|aa (ab 2)<|aa abi af) af)
def gm:Γ D->Δ D:=bo gC 5
abbrev abj:=(aa (fC<|.int 9) af)
def hX:ak->Δ Out:=(aG Zu<|aG (mT<|ah 3 ig zq3)<|aG (mT<|ah 3 dA<|aa (ab 3)<|aa (fC<|.int 0) abj)<|aV<|ah 5 gm<|aa (ab 0)<|aa (ab 1)<|aa (ab 2)<|aa (ab 3)<|aa (f2 aH (f2 aH aaf<|ab 2)<|fC<|.int 1) af)
def dB:Γ D->Δ D:=bo hX 4
def jr:ak->Δ Out:=(aV<|ah 5 gm<|aa (ab 0)<|aa (ab 1)<|aa (ab 2)<|aa (f2 aH (f2 aH aaf<|ab 2)<|fC<|.int 0)<|aa (ab 3) af)
def iO:Γ D->Δ D:=bo jr 4
def ky:ak->Δ Out:=(aV<|ah 3 cX<|aa (ab 0)<|aa (fC<|.int 2)<|aa (b8 cq VS) af)
def ft:Γ D->Δ D:=bo ky 2
abbrev afi:=(aa (b8 bP<|aa Xs af) af)
abbrev afj:=(aa (ab 1) afi)
abbrev afk:=(ah 2 cg afj)
abbrev acR:=(mT afk)
def jm:ak->Δ Out:=(aG Zu<|aG acR<|aG (mT<|ah 3 dA<|aa (ab 2)<|aa (fC<|.int 1) abj)<|aG (aO 3 [0,1]<|f2 aH Xs<|ab 1)<|aV<|ah 2 ft<|aa (ab 0)<|aa (ah 3 cX<|aa Xs<|aa (ab 1)<|aa (bq<|aa (f2 aH (ab 3)<|fC<|.int 0)<|aa (f2 aH (ab 3)<|fC<|.int 1) zq2) af) af)
def fZ:Γ D->Δ D:=bo jm 4
abbrev acS:=(f2 dX (ab 0)<|ab 1)
abbrev afl:=(av 1 [2] (bu Xs) (fG 0) (fB acS)<|ab 0)
abbrev afm:=(dS afl)
abbrev afn:=(aa afm af)
abbrev acT:=(aa (ab 0) afn)
abbrev afo:=(f2 aH (ab 0)<|ab 4)
abbrev acU:=(f2 aH (ab 2)<|ab 4)
abbrev acV:=(f2 aH afo acU)
abbrev afp:=(f2 aH acV<|fC<|.int 1)
abbrev afq:=(aO 5 [0,2,4] afp)
abbrev afr:=(bu<|ab 5)
abbrev afs:=(f2 Dl.ib (fC<|.int 1)<|ab 2)
abbrev aft:=(f2 aH (ab 1) afs)
abbrev afu:=(f2 dX (ab 0) aft)
abbrev acW:=(fB afu)
abbrev afv:=(av 1 [2,4] afr (fG 0) acW<|ab 0)
abbrev afw:=(dS afv)
abbrev acX:=(aa afw af)
abbrev afx:=(b8 cq acX)
abbrev afy:=(aa afx af)
abbrev afz:=(aa acU afy)
abbrev afA:=(aa (ab 4) afz)
abbrev afB:=(aa (ab 3) afA)
abbrev acY:=(ah 4 iO afB)
abbrev afC:=(aO 3 [2,3,4,5] acY)
abbrev acZ:=(aG afq afC)
def g8:ak->Δ Out:=(aG Zu<|aG acR<|aG (aO 2 [0,1]<|f2 aH Xs<|ab 1)<|aG (aO 3 [0,2]<|ah 2 ft acT)<|aG (gK [] (bu<|bq<|aa (fC<|.int 0)<|aa (fC<|.int 1) af) (wY 4) acZ)<|aV<|ab 3)
def eU:Γ D->Δ D:=bo g8 6
end Pg
namespace Zp
open PySem PyProof.Rows
abbrev afD(h:ι)(z TI TO:Ψ)(f:Θ)(c:θ):Prop:=
 h.get? z=some {cls:=.type "zip",dict:=none,data:=.fields #[f,.bool c,.bool false,.ref TI,.ref TO],slots:=#[]}
structure ZG(U6 Vi:Bool)(h₀ h:Heap)(z TI TO i j l m:Addr)(xs ys:Array Value)(f:Value)(c:Bool)(p q:Nat)(a b:Value):Prop where
 zo:afD h z TI TO f c
 ti:IsPair h TI (.ref i) (.ref j)
 to:IsPair h TO a b
 wi:Vz U6 h i l p
 wj:Vz Vi h j m q
 sl:VE U6 h l xs
 sm:VE Vi h m ys
 kp:∀c o,c≠z->c≠TO->c≠i->c≠j->h₀.get? c=↑o->h.get? c=↑o
 sz:h.objs.size=h₀.objs.size
section
variable {z TI TO i j l m:Ψ}
end
section
variable {z TI TO i j l m:Ψ}
end
end Zp
namespace Dl
open PySem L2 PySem.Spec PyProof.Rows Zp
end Dl
namespace Pg
open PySem L2 Dl PySem.Spec PyProof.Rows
open PySem L2 Dl PySem.Spec PyProof.Rows Ex
open PySem L2 Dl PySem.Spec PyProof.Rows Ob Og Ex
abbrev Zv:=(f2 aH (ab 0)<|fC<|.int 0)
abbrev Zw:=(f2 aH (ab 0)<|fC<|.int 1)
def j3:ak->Δ Out:=(aV<|f1 lU<|dS<|av 2 [] (iH<|aa Xs<|aa (ah 1 aU zq0) af) (il 0 1) (λ_=>↑true)<|bq<|aa (bq<|aa Zv<|aa Zw af) VS)
def dC:Γ D->Δ D:=bo j3 1
abbrev afE:=(aa (f2 aH (ab 5)<|fC<|.int 1)<|aa (ab 6) af)
abbrev afF:=(aa (f2 aH (ab 5)<|fC<|.int 0) afE)
abbrev afG:=(bq afF)
abbrev ac0:=(lN 4 [5,6] afG)
def eO:ak->Δ Out:=(aG (aO 2 [0]<|ah 1 dC zq0)<|aG (aO 3 [1]<|ah 1 dC VS)<|aG (bb 4 [] zq6)<|aG (gK [2,3] (bu<|dS<|A3 2 3) (wY 5)<|aG (aO 6 [3,5]<|FA (ab 3) (ab 5)<|fC<|.int 0)<|lJ (fB<|f2 dX (ab 6)<|FA (ab 2) (ab 5)<|fC<|.int 0) ac0 lY)<|aV<|ab 4)
def aN:Γ D->Δ D:=bo eO 7
def jt(C:Ψ):Og.MF:=jn (dR (lV<|mT<|ah 1 cH VS)<|CP 0 C "stages"<|j6 VS) C 2
def aq(C:Ψ):Fs->Δ D:=Iw (Ig 0 C "stages"<|f1 Jt<|fC<|.int 1) C 1
def aM(C:Ψ):Og.MF:=jn (cW (List.range 1)<|gD<|fT 1 aU<|aJ (oR<|bg 0 C "world"<|aq C) bI) C 1
def bw(C:Ψ):Og.MF:=jn (dR (hJ 2<|oR<|bg 0 C "world"<|aq C)<|dR (zd 0 C "stages"<|rD<|ab 1)<|cW (List.range 3)<|gD<|oD<|ah 2 aN<|aa (ab 2) VS) C 3
def bN(C:Ψ):Og.MF:=jn (cW (List.range 4)<|gD<|bK 0 C "change_to" 2 (bw C)<|aJ (fT 4 dB<|aJ (oR<|bg 0 C "world"<|aq C)<|aJ (oD<|ab 1)<|aJ (oD<|ab 2)<|aJ (oD<|ab 3) bI) bI) C 4
def cK(C:Ψ):Og.MF:=jn (cW (List.range 3)<|gD<|bK 0 C "change_to" 2 (bw C)<|aJ (fT 3 fZ<|aJ (oR<|bg 0 C "world"<|aq C)<|aJ (oD<|ab 1)<|aJ (oD<|ab 2) bI) bI) C 3
def eY(C:Ψ):Og.MF:=jn (cW (List.range 2)<|gD<|bK 0 C "change_to" 2 (bw C)<|aJ (fT 2 eU<|aJ (oR<|bg 0 C "world"<|aq C)<|aJ (oD<|ab 1) bI) bI) C 2
def cy(C:Ψ):Fs->Δ D:=Iw (uG Dl.ib (uw 0 C "stages")<|rD<|fC<|.int 1) C 1
def fV(C:Ψ):Og.MF:=jn (dR (xw (oB<|mN bS (oR<|bg 0 C "many"<|cy C)<|oD<|fC<|.int 0) Tp Jk)<|dR (hJ 1<|yg 0 C "stages")<|cW (List.range 2)<|gD<|fT 2 aN<|aJ (oD<|ab 1)<|aJ (oR<|bg 0 C "world"<|aq C) bI) C 2
end Pg
namespace Dd
open PySem
variable {Q:Δ Θ->Ξ->Prop}
section
variable {prog:ε}{w:δ}{A:ξ}{E:Θ->Ξ->Prop}{s:Ξ}{od:Obj}{es:Array DictEntry}{it d:Ψ}{i ep:Nat}
def Zx{e:DictEntry}(t:s.heap.IsKeyIter it d i es.size ep)(o:s.heap.get? d=↑od)(D:od.data=.dict es ep)(c:es[i]?=↑e)
  (q:∀h',h'.IsKeyIter it d (i+1) es.size ep->Heap.SameBut it s.heap h'->Q (↑e.key) {s with heap:=h'}):wpAny (model prog w) A (pyNext<|.ref it) Q E s:=by
 let(oi,a,b,H):=id t;have T:=t.typeIs;have v:Builtin.Dict_items.ownsTuple "dict_keyiterator"=false:=by decide
 unfold pyNext;refine zW<|kO<|qC T F.slot_dict_keyiterator_next<|qU F.slot_dict_keyiterator_next T F.entry_dict_keyiterator_next ?_<|F.args_dict_keyiterator_next_1 _;refine zW<|zX<|zW<|zW<|zW<|wpAny_typeNameOfWhole_keyiter T<|zX ?_;refine zW<|wpAny_fieldsOf a H ?_;simp?[v,yP,qN];show wpAny _ _ (if(Value.ref d==Value.none)=true then _ else _) _ _ s;rw[yO (show ¬(Value.ref d==Value.none)=true from nofun)];refine zW<|zX<|zW<|wpAny_dictEntries o D ?_;rw[yO<|by simp];refine zW<|zX<|zW<|wpAny_dictEpoch o D ?_;rw[yO<|by simp];refine zX ?_;simp?[show ¬((i:Int)<0)by lia,qN,yH,c];refine zW<|zW<|wpAny_typeNameOfWhole_keyiter T<|zX ?_;refine zW<|wpAny_isOneOf_keyiter T ?_;show wpAny _ _ (setField (.ref it) 1 (rawInt<|(i:Int)+1) >>= _) _ _ s;refine zW<|wpAny_setField a H (by simp) ?_;have n:(s.heap.update it (Obj.mapFields (·.setIfInBounds 1 (rawInt<|(i:Int)+1)))).IsKeyIter it d (i+1) es.size ep:=
  {_,Heap.get?_update_self _ a<|Obj.isFreed_of_fields<|Obj.data_mapFields H _,(Obj.cls_mapFields ..).trans b,by rw[Obj.data_mapFields H];simp[rawInt]}
 refine zW<|xX<|zW<|wpAny_isOneOf_keyiter (s:={s with heap:=_}) n.typeIs ?_;show wpAny _ _ (pure e.key) _ _ _;exact zX<|zX {_,rfl,zX<|q _ n<|Heap.SameBut.update ..}
def aag(f:A.handled=none)(t:s.heap.IsKeyIter it d i es.size ep)(o:s.heap.get? d=↑od)(D:od.data=.dict es ep)(e:es[i]?=none)
  (q:∀h',Heap.ExtBut it s.heap h'->Q none {s with heap:=h'}):wpAny (model prog w) A (pyNext<|.ref it) Q E s:=by
 let(oi,H,g,c):=id t;have T:=t.typeIs;have v:Builtin.Dict_items.ownsTuple "dict_keyiterator"=false:=by decide
 unfold pyNext;refine zW<|kO<|qC T F.slot_dict_keyiterator_next<|qU F.slot_dict_keyiterator_next T F.entry_dict_keyiterator_next ?_<|F.args_dict_keyiterator_next_1 _;refine zW<|zX<|zW<|zW<|zW<|wpAny_typeNameOfWhole_keyiter T<|zX ?_;refine zW<|wpAny_fieldsOf H c ?_;simp?[v,yP,qN];show wpAny _ _ (if(Value.ref d==Value.none)=true then _ else _) _ _ s;rw[yO (show ¬(Value.ref d==Value.none)=true from nofun)];refine zW<|zX<|zW<|wpAny_dictEntries o D ?_;rw[yO<|by simp];refine zW<|zX<|zW<|wpAny_dictEpoch o D ?_;rw[yO<|by simp];refine zX ?_;simp?[show ¬((i:Int)<0)by lia,qN,yH,e];refine zW<|zW<|wpAny_typeNameOfWhole_keyiter T<|zX ?_;show wpAny _ _ (setField (.ref it) 0 .none >>= _) _ _ s;refine zW<|wpAny_setField H c (by simp) ?_;show wpAny _ _ (newExc (.type "StopIteration") [] >>= _) _ _ _;simp?[newExc,newTuple,raiseNew];refine zW<|zW<|qL ?_ (by size_fits);refine zW (m:=firstArgMember _ _)<|wpAny_of_eq (a:=Value.none) rfl (qL ?_<|by size_fits);refine zW<|wpAny_handled ?_;rw[show A.in1.handled=none from f];refine zW<|zX<|wpAny_throw ?_;refine zW<|wpAny_isInstance (b:=true) (T:="StopIteration") {_,zY _ rfl,rfl} isSubtype_stop ?_;exact zX<|q _<|((Heap.SameBut.update ..).extBut.push _).push _
def Zy{Q:Θ->Ξ->Prop}(hs:(d==sysModules)=false)(o:s.heap.get? d=↑od)(x:od.ExactDict)(H:od.data=.dict es ep)
  (q:Q (.ref s.heap.objs.size) {s with heap:=s.heap.push {cls:=.type "dict_keyiterator",data:=.fields #[.ref d,.int 0 0,.int es.size 0,.int ep 0]}}):wpAny (model prog w) A (pyIter<|.ref d) Q E s:=by
 have T:s.TypeIs (.ref d) "dict":={_,o,x.1}
 refine wpAny_pyIter_slot T F.slot_dict_iter<|qU F.slot_dict_iter T F.entry_dict_iter ?_<|F.args_dict_iter_1 _;unfold Builtin.«dict.__iter__» Builtin.Dict.dictSlotNone;refine zW<|zW<|wpAny_notOrdered_dict T ?_;refine zX ?_;show wpAny _ _ (Builtin.Dict.showsAll d >>= _) _ _ s;unfold Builtin.Dict.showsAll;rw[yO (by rw[hs];exact xA)];refine zW<|zX<|zW<|wpAny_dictEntries o H<|zW<|wpAny_dictEpoch o H ?_;exact zW<|qL<|zX {_,rfl,"dict_keyiterator",_,{_,zY _ rfl,rfl},F.slot_dict_keyiterator_next.lookup,by simpa [rawInt]using q}
end
end Dd
namespace Dl
open PySem L2 PySem.Spec PyProof.Rows
def TL(a:Ψ)(ep n:Nat):It:={λi H=>∃s x,H a=↑(.dT ep s)/\s.length=n/\s[i]?=↑x,λi H v b=>b=H/\∀s,H a=↑(.dT ep s)->∃x,s[i]?=↑x/\v=.ref x.2.1,λi H=>∃s,H a=↑(.dT ep s)/\s.length=n/\n<=i}
def Ee{K:Φ}(a it:Ψ)(ep n:Nat):Turn P w K tg (TL a ep n) [it] it (λi h=>h.IsKeyIter it a i n ep) where
 mem:=by simp
 obj:=λi h st b B=>by
  cases List.mem_singleton.mp B;let(o,e,c,d):=st;exact{o,e,λv z=>by rw[d]at z;cases z}
 keep:=λi h f st k=>st.at λo e=>k it (by simp) o e
 item:=by
  intro X r hw O hc i p s A H E I F st t;let(y,x,q,N,u):=t;let(l,f1,f2,f3,f4,f5):=F it (by simp);let(Z,Q,o,S,G,L,m,g,M):=(show cC X.prog X.w H s.heap a (.dT ep y)from I.UX a _ q)
  have j:S.size=n:=by rw[size_of_entries g,N]
  have R:S[i]?=↑(entryOfKey (Ma X) x):=by rw[entry_at g,u];rfl
  subst r hw;rw[<-j]at st;refine Dd.Zx st G m R λf D T=>?_;rw[j]at D;have C:Inv X p A H {s with heap:=f}:=I.turned (t':=s.toks) (λb o B e=>(T.2 b B).trans e) l f1 f3 f4 f5;let(o,e,c,d):=id D;exact{_,rfl,Cq (s:={s with heap:=f}) e c d (by decide) {.ref x.2.1,H,C,rfl,{rfl,λU Y=>by rw[q]at Y;cases Y;exact{x,u,rfl}},D,λb B=>(F b B).1}}
 done:=by
  intro X r hw O hc i p s A H E I F st t;let(y,q,N,u):=t;let(l,f1,f2,f3,f4,f5):=F it (by simp);let(Z,Q,o,S,G,L,m,g,M):=(show cC X.prog X.w H s.heap a (.dT ep y)from I.UX a _ q)
  have j:S.size=n:=by rw[size_of_entries g,N]
  subst r hw;rw[<-j]at st;exact Dd.aag (I.ok.hd hc) st G m (by simp;lia) λf J=>{rfl,I.turned (t':=s.toks) (λb o B e=>J b o B e) l f1 f3 f4 f5}
 self:=λ_ _ _ _ _ st h=>wpAny_pyIter_keyiter st h
def AE{K:Φ}:∀ns:Γ Int,au K HF (ns.map PyData.int) (ns.map V.int)
 |[]=>.nil
 |n::ns=>.cons (by simp[Rep])<|AE ns
def Cw{K:Φ}:∀{l:Γ (D×D)}{xs:Γ (Γ j5×Ψ×Θ)}{i:Nat}{d:D},eA K HF l xs->(l.map (·.1))[i]?=↑d->∃x,xs[i]?=↑x/\Rep K HF d (.ref x.2.1)
 |[],_,_,_,_,e=>by simp at e
 |p::l,xs,i,d,h,e=>by
  let(s,n,t,b,r,rfl,rfl,H,a):=h;cases i with
  |zero =>
   cases e;refine{_,rfl,?_};simp?[Rep];exact{b,_,rfl,H,AE s}
  |succ i =>
   let(x,X,R):=Cw (l:=l) (i:=i) (d:=d) a e;exact{x,X,R}
def gu{K:Φ}:∀{l:Γ (D×D)}{xs:Γ (Γ j5×Ψ×Θ)},eA K HF l xs->xs.length=l.length
 |[],_,h=>by cases(show _=[]from h);rfl
 |p::l,_,⟨s,n,t,b,r,c,H,d,a⟩=>by rw[H,zL,zL,gu a]
def Fz{K:Φ}{l:Γ (D×D)}{xs:Γ (Γ j5×Ψ×Θ)}(h:HF a=↑(.dT ep xs))(r:eA K HF l xs):mV K (TL a ep l.length) HF (l.map (·.1)) where
 go:=λi d f U e s S=>by
  let(x,X,R):=Cw r e;have q:=S _ _<|s _ _ h;refine{{xs,x,q,gu r,X},λv w ⟨E,Y⟩=>{U,by rw[E];exact .refl S,?_}};let(y,H,rfl):=Y _ q;rw[X]at H;cases H;exact R.mono s
 stop:=λf U s S=>{xs,S _ _<|s _ _ h,gu r,by rw[zD];exact yN _}
def Mb(f:Env->Δ D):Env->Δ (Γ D):=λa=>(f a).bind fun|.dict l=>↑(l.map (·.1))|_=>none
section
variable {X:Cx}
def LC(h:DE X e f):DI X tg e (Mb f):=by
 intro p s M H R I ⟨j,L,N,sm,O,F,q⟩;let(d,D,F):=bs F;cases d<;>try cases F
 rename_i l;refine b9 (h p s M H (λk c=>∃U,bc j H U c/\Rep X.K U (.dict l) k) I {j,L,.dict l,sm,O,D,λk c U g r1=>{U,g,r1}}) λv S z=>?_;let(x,c,i,G,U,g,r1):=z;simp?[Rep]at r1;let(a,E,J,rfl,A,t):=r1;cases G;let(Z,D,o,y,m,n,r,u,P):=(show cC X.prog X.w c S.heap a (.dT E J)from i.UX a _<|g.fh _ _ A)
 have C:y.size=l.length:=by rw[size_of_entries u,gu t]
 refine Dd.Zy D m n r {S.heap.objs.size,[S.heap.objs.size],_,_,c,rfl,i.kept (t':=S.toks) λb o e=>zV _ e,Ee a _ E l.length,{_,zY _ rfl,rfl,by rw[C];rfl},λb B=>?_,q _ c U g<|Fz A t};cases List.mem_singleton.mp B;exact i.VV (yN _) i.fresh
def FG(ns:Γ Int):Γ (D×D)->Δ Int
 |[]=>none
 |p::l=>if bj p.1=↑ns then(match p.2 with|.int v=>↑v|_=>none)else FG ns l
def v9{K:Φ}{ns:Γ Int}:∀{l:Γ (D×D)}{xs:Γ (Γ j5×Ψ×Θ)}{v:Int},eA K HF l xs->FG ns l=↑v->∃p u,atKey xs (ns.map Sum.inl)=↑p/\p.2=.int v u
 |[],_,_,_,e=>by cases e
 |p::l,_,v,⟨k,f,t,b,r,H,a,d,c⟩,e=>by
  subst H a;unfold FG at e;rw[bC]at e;unfold atKey;rw[List.find?_cons];by_cases z:k=ns
  .subst z;rw[yM rfl]at e;cases e;exact{(b,.int v t),t,by simp,rfl}
  .rw[yO λy=>z<|xE y]at e;rw[yA (λy:(k.map Sum.inl:Γ j5)=ns.map Sum.inl=>z<|m6 y)];exact v9 c e
def Mh(K:Φ):R2:=λx y H Q=>∃ (F:Hp) (a:Ψ) (e:Nat) (X:Γ (Γ j5×Ψ×Θ)) (l:Γ (D×D)) (b:Ψ) (s:Γ Int) (n:Int),x=.ref a/\y=.ref b/\aA F H/\F a=↑(.dT e X)/\eA K F l X/\fP K F b (s.map V.int)/\FG s l=↑n/\Q (.int n) H
def F1{pins:Γ (Ψ×Obj)}{σ:L2.St}{H HF:Hp}{s:Ξ}{l:Γ (D×D)}{xs:Γ (Γ j5×Ψ×Θ)}(I:Inv X pins σ H s)(sm:aA HF H)(A:HF a=↑(.dT ep xs))(d:eA X.K HF l xs):(a==sysModules)=false/\s.heap.DictOfH (Ma X) a xs:=
 let ⟨_,i,o,e,g,G,b,c,f⟩:=(show cC X.prog X.w H s.heap a (.dT ep xs)from I.UX a _<|sm _ _ A);{i,o,e,ep,g,G,b,c,iq I sm d,f}
def Ly(U:X.A.units+1<cLine):Je X (Mh X.K):=by
 intro E S P s k H x y v u Q I r R h g;let(F,a,i,j,l,b,N,n,rfl,rfl,sm,c,D,B,L,q):=h;cases r;cases R;let(_,d):=F1 I sm c D;let(p,t,f,e):=v9 D L;exact tail_any d.typeIs slot_dict_getitem.lookup (wpAny_getItem_heap (tupleKind_room_in1 U) (nO I<|ay sm B) d f (by rw[e];exact{.int n,H,I.tok _,{_,rfl},q})) g
def Ib:D->D->Δ D
 |.dict l,k=>(bj k).bind λn=>(FG n l).map PyData.int
 |_,_=>none
def Gc{K:Φ}:eu K (Mh K) Ib:=by
 intro F H x y v c d Q sm r1 r g q;cases x<;>try cases g
 let(s,hk,g):=bs g;let(n,N,rfl):=ag g;rw[dg hk]at r;simp?[Rep]at r1 r;let(a,e,X,rfl,A,t):=r1;let(b,S,rfl,B,R):=r;have:=dQ R;subst this;exact{F,a,e,X,_,b,s,n,rfl,rfl,sm,A,t,B,N,q _ H F (.refl sm)<|by simp[Rep]}
def Nr(u:X.A.units+1<cLine)(H:DE X a fa)(B:DE X b fb)(hs:lG b):DE X (.Subscript a b pos) (f2 Ib fa fb):=aE (CZ (Ly u) H B hs)<|HH Gc
end
end Dl
namespace Dd
open PySem
section
variable {prog:ε}{w:δ}{K:Type}[DecidableEq K]{knd:HeapKind prog w K}{A:ξ}{E:Θ->Ξ->Prop}{s:Ξ}{a b:Ψ}{xs ys:Γ (K×Ψ×Θ)}
def XZ{T:String}{Q:θ->Ξ->Prop}(U:knd.room A)(G:(a==sysModules)=false)(I:(b==sysModules)=false)(D:s.heap.DictOfH knd a xs)(C:s.heap.DictOfH knd b ys)(M:xs.length=ys.length)
  (S:∀x∈xs,∃ (n:Int) (t u:Tok) (c:Ψ),x.2.2=.int n t/\(x.1,c,.int n u)∈ys)(h:Q true s):wpAny (model prog w) A (Builtin.Dict.samePairs T a b) Q E s:=by
 let(oa,F,ep,d,X,e,m,v,Z):=D;let(ob,fs,eq,B,b2,f,g,z,o):=C;have L:=size_of_entries m;have O:=size_of_entries g;unfold Builtin.Dict.samePairs Builtin.Dict.showsAll;rw[yO (by rw[G];exact xA),yO (by rw[I];exact xA)];refine zW<|zX<|zW<|zX<|zW<|wpAny_dictEntries d e ?_;dsimp only;refine zW<|wpAny_dictEntries B f ?_;rw[yO (by rw[L,O,M];simp)];refine zW<|wpAny_dictEpoch d e<|zW ?_;rw[Std.Legacy.Range.forIn_eq_forIn_range'];simp?[Std.Legacy.Range.size,Nat.sub_zero,Nat.add_sub_cancel,Nat.div_one];refine wpAny_forIn_list _ (λr q l=>l=s/\q=(none,())/\∀i∈r,i<xs.length) _ ?_ ?_ _ _ {rfl,rfl,λi H=>by simpa [L]using H}
 .rintro i r q l ⟨rfl,rfl,R⟩;have H:=R i zE;let(n,t,u,c,N,y):=S xs[i]<|qA H;have K:F[i]?=↑(entryOfKey knd xs[i]):=by rw[entry_at m,zK H];rfl
  refine zW<|wpAny_dictEntries d e ?_;rw[K];show wpAny _ _ (holding [.ref xs[i].2.1,xs[i].2.2] _ >>= _) _ _ _;refine zW<|xX<|zW<|wpAny_dictFind_heap U (v _<|qA H) B f g z o (λW=>?_) λj p J=>?_
  .let(j,J):=List.getElem?_of_mem y;exact absurd J<|W j _
  .have P:p=(c,.int n u):=by
    let(j',Y):=List.getElem?_of_mem y;have:=idxH_unique o J Y;subst this;rw[J]at Y;cases Y;rfl
   refine zW<|wpAny_dictEntries B f ?_;rw[entry_at g,J,P];show wpAny _ _ (holding [.int n u]<|eqBool xs[i].2.2<|.int n u) _ _ _;rw[N];refine xX<|wpAny_eqBool_int ?_;rw[beq_self_eq_true];show wpAny _ _ (if(!true)=true then _ else _) _ _ _;rw[yO<|by decide];refine zW<|wpAny_dictEpoch d e ?_;rw[yO<|by simp];exact zX {rfl,rfl,λk hk=>R k<|zC _ hk}
 .rintro q l ⟨rfl,rfl,_⟩;exact zX h
def Zz{Q:Θ->Ξ->Prop}(U:knd.room A.in1)(hc:A.units<cLine)(e:(a==sysModules)=false)(B:(b==sysModules)=false)(d:s.heap.DictOfH knd a xs)(D:s.heap.DictOfH knd b ys)(l:xs.length=ys.length)
  (H:∀x∈xs,∃ (n:Int) (t u:Tok) (c:Ψ),x.2.2=.int n t/\(x.1,c,.int n u)∈ys)(h:Q (.bool false) s):wpAny (model prog w) A (compareOp .NotEq (.ref a)<|.ref b) Q E s:=by
 refine wpAny_richCompare_same_room (op:=.NotEq) d.typeIs D.typeIs PySem.F.slot_dict_ne (qU PySem.F.slot_dict_ne d.typeIs PySem.F.entry_dict_ne ?_<|PySem.F.args_dict_ne_2 _ _) hc;show wpAny _ _ (Builtin.Dict.dictSlotArgs "__ne__" {[.ref a,.ref b],[]} >>= _) _ _ s;unfold Builtin.Dict.dictSlotArgs;refine zW<|zW<|wpAny_notOrdered_dict d.typeIs ?_;show wpAny _ _ (pure (Value.ref a,Value.ref b)) _ _ s;refine zX<|zW<|wpAny_isInstance (T:="dict") D.typeIs PySem.F.sub_dict_dict ?_;simp?[xY,yP,qN];refine zW<|zX<|zW<|zX<|zW<|XZ U e B d D l H ?_;exact zX {_,rfl,nofun,by simpa using h}
end
end Dd
namespace Dl
open PySem L2 PySem.Spec PyProof.Rows
section
variable {X:Cx}
def alike(l m:Γ (D×D)):θ:=l.length==m.length&&l.all λp=>match bj p.1,p.2 with|some s,.int n=>FG s m==some n|_,_=>false
def ux{K:Φ}{m:Γ (D×D)}{ys:Γ (Γ j5×Ψ×Θ)}(d:eA K HF m ys):∀{l:Γ (D×D)}{xs:Γ (Γ j5×Ψ×Θ)},eA K HF l xs->(l.all λp=>match bj p.1,p.2 with|some ns,.int n=>FG ns m==some n|_,_=>false)=true ->
  ∀x∈xs,∃ (n:Int) (t u:Tok) (c:Ψ),x.2.2=.int n t/\(x.1,c,.int n u)∈ys
 |[],_,h,_,x,H=>by cases(show _=[]from h);cases H
 |p::l,_,⟨ns,n,t,b,r,f,g,j,i⟩,a,x,H=>by
  subst f g;rw[xS,zF]at a;rcases List.mem_cons.mp H with rfl|H
  .have h:=a.1;rw[bC]at h;let(q,u,e,E):=v9 d<|beq_iff_eq.mp h;unfold atKey at e;let(y,Y,rfl):=ag e;have hk:y.1=ns.map Sum.inl:=by simpa using vR Y
   exact{n,t,u,y.2.1,rfl,by rw[<-hk,<-E];exact jW Y}
  .exact ux d i a.2 x H
def QY(K:Φ):R2:=λx y H Q=>∃ (F:Hp) (a b:Ψ) (e E:Nat) (s Y:Γ (Γ j5×Ψ×Θ)) (l m:Γ (D×D)),x=.ref a/\y=.ref b/\aA F H/\F a=↑(.dT e s)/\F b=↑(.dT E Y)/\eA K F l s/\eA K F m Y/\alike l m=true/\Q (.bl false) H
def OX(U:X.A.units+1<cLine):iM X (compareOp .NotEq) (QY X.K):=by
 intro p s i H x y v u Q I r R h;let(F,a,b,E,g,S,Y,l,m,rfl,rfl,sm,e,f,d,D,L,q):=h;cases r;cases R;let(z,c):=F1 I sm e d;let(Z,B):=F1 I sm f D;unfold alike at L;rw[zF,vI]at L;exact Dd.Zz (tupleKind_room_in1 U) (Nat.lt_of_succ_lt U) z Z c B (by rw[gu d,gu D,L.1]) (ux D d L.2) {.bl _,H,I.tok _,rfl,q}
def Ax:D->D->Δ D
 |.dict l,.dict m=>if alike l m=true then↑(.bool false)else none
 |_,_=>none
def J3{K:Φ}:eu K (QY K) Ax:=by
 intro F H x y v c d Q sm r1 r g q;cases x<;>try cases g
 cases y<;>try cases g
 rename_i l m;by_cases h:alike l m=true
 .rw[show Ax (.dict l) (.dict m)=↑(.bool false)from yM h]at g;cases g;simp?[Rep]at r1 r;let(a,e,s,rfl,A,D):=r1;let(b,E,S,rfl,B,Y):=r;exact{F,a,b,e,E,s,S,l,m,rfl,rfl,sm,A,B,D,Y,h,q _ H F (.refl sm)<|by simp[Rep]}
 .rw[show Ax (.dict l) (.dict m)=none from yO h]at g;cases g
end
end Dl
namespace Dd
open PySem
variable {o:Obj}{ep:Nat}
section
variable {prog:ε}{w:δ}{K:Type}[DecidableEq K]{knd:HeapKind prog w K}{A:ξ}{E:Θ->Ξ->Prop}{s:Ξ}{a:Ψ}{xs:Γ (K×Ψ×Θ)}
def WT{id:String}{es:Array DictEntry}{Q:Array DictEntry->Ξ->Prop}(O:s.heap.get? a=↑o)(d:o.data=.dict es ep)(hk:∀e∈es.toList,∃b,e.key=.ref b/\s.TypeIs (.ref b) "tuple")(f:∀e∈es.toList,(es.filter (·.hash==e.hash)).size<=1)(q:Q es s) :
  wpAny (model prog w) A (Builtin.Dict.entriesForEmpty id a) Q E s:=by
 unfold Builtin.Dict.entriesForEmpty;refine zW<|wpAny_dictEntries O d<|zW ?_;rw[<-Array.forIn_toList];refine wpAny_forIn_list _ (λt r S=>S=s/\∀e∈t,e∈es.toList) _ ?_ ?_ _ _ {rfl,λe H=>H}
 .rintro e t r S ⟨rfl,c⟩;have H:=c e zE;let(b,B,ht):=hk e H;have g:∀{R:θ->Ξ->Prop},R false S->wpAny (model prog w) A (Builtin.Dict.quietEq e.key) R E S:=λ{R}h=>by
   rw[B];unfold Builtin.Dict.quietEq;exact zW<|wpAny_specialOf ht F.slot_tuple_eq.lookup<|zX h
  refine zW<|g ?_;rw[yM<|by decide,yO<|Nat.not_lt.mpr<|f e H];exact zX {rfl,λe H=>c e<|zC _ H}
 .rintro r S ⟨rfl,_⟩;exact zX q
def YF{es:Array DictEntry}{Q:Θ->Ξ->Prop}(g:s.heap.get? a=↑o)(x:o.ExactDict)(d:o.data=.dict es ep)(hs:(a==sysModules)=false)(hk:∀e∈es.toList,∃b,e.key=.ref b/\s.TypeIs (.ref b) "tuple")(l:∀e∈es.toList,(es.filter (·.hash==e.hash)).size<=1)(Z:es.size<=sizeLine)
  (h:∀(h':ι)(I:Nat),(∀b o,s.heap.get? b=↑o->h'.get? b=↑o)->(∃O,h'.get? s.heap.objs.size=↑O/\O.ExactDict/\O.data=.dict es I)->Q (.ref s.heap.objs.size) {s with heap:=h'}):wpAny (model prog w) A (call (.type "dict") [.ref a]) Q E s:=by
 refine callType_codes (Q₁:=λobj U=>obj=.ref s.heap.objs.size/\U={s with heap:=s.heap.push ob}) F.kt_called_dict (F.kt_typeCall_dict_1 _) F.entry_dict_init (kt_code_dict_new _ {rfl,rfl}) ?_;rintro obj U ⟨rfl,rfl⟩;have X:(s.heap.push ob).get? s.heap.objs.size=↑ob:=zY _ rfl;have t:Shared.TypeIs {s with heap:=s.heap.push ob} (.ref s.heap.objs.size) "dict":={_,X,rfl}
 have W:(s.heap.push ob).get? a=↑o:=zV _ g;have H:Shared.TypeIs {s with heap:=s.heap.push ob} (.ref a) "dict":={_,W,x.1}
 refine{t,F.args_dict_init_2 _ _,?_};unfold Builtin.«dict.__init__» Builtin.Dict.selfAndRest;refine zW<|zW<|wpAny_notOrdered_dict t ?_;show wpAny _ _ (pure (s.heap.objs.size,[Value.ref a])) _ _ _;refine zX ?_;show wpAny _ _ (Builtin.Dict.updateFrom "dict.__init__" s.heap.objs.size (.ref a) [] .none) _ _ _;unfold Builtin.Dict.updateFrom Builtin.Dict.merge Builtin.Dict.readDirectly;refine zW<|wJ H ?_;rw[yO<|by decide];refine zW<|zW<|zW<|wpAny_isInstance (T:="dict") H F.sub_dict_dict ?_;simp?[xY,yP,qN];refine zW<|wpAny_specialOf H F.slot_dict_iter.lookup<|zX ?_;rw[yM<|by decide];show wpAny _ _ (Builtin.Dict.mergeDict "dict.__init__" s.heap.objs.size a) _ _ _;have L:a<s.heap.objs.size:=zZ g;unfold Builtin.Dict.mergeDict Builtin.Dict.showsAll;rw[yO<|by simpa using jH L,yO (by rw[hs];exact xA)];refine zW<|zX<|zW<|wpAny_dictEntries W d ?_;dsimp only;by_cases n:es=#[]
 .subst n;rw[yO<|by simp];refine zW<|wpAny_dictEpoch W d<|zW<|wpAny_dictEntries W d<|zW ?_;rw[Std.Legacy.Range.forIn_eq_forIn_range'];refine zX<|zX ?_;exact zX {rfl,h _ 0 (λb o e=>zV _ e) {_,X,{rfl,rfl,rfl},rfl}}
 .have c:0<es.size:=Nat.pos_of_ne_zero λz=>n<|Array.eq_empty_of_size_eq_zero z;have f:(decide (es.size<=8)&&es.all λe=>(keyPart e.key).isSome)=false:=by
   rw[Bool.and_eq_false_iff];refine .inr<|Bool.not_eq_true _▸λz=>?_;have:=Array.all_eq_true.mp z 0 c;let(b,B,_):=hk es[0]<|Array.getElem_mem_toList c;rw[B]at this;cases this
  rw[f,yM<|by decide];refine zW<|wpAny_dictEntries X rfl ?_;rw[yM (show(#[]:Array DictEntry).isEmpty=true from rfl)];refine zW<|WT (s:={s with heap:=s.heap.push ob}) W d (λe k=>?_) l ?_
  .let(b,B,o2,i,j):=hk e k;exact{b,B,o2,zV _ i,j}
  rw[yM<|by simpa using n];refine zW<|wpAny_updateDictKeysTo X rfl (zX ?_) (Nat.le_succ_of_le Z);refine zX {rfl,h _ _ (λb o e=>?_) {_,Heap.get?_update_self _ X rfl,{rfl,rfl,rfl},rfl}};rw[xN _ _<|jH<|zZ e];exact zV _ e
end
end Dd
namespace Dl
open PySem L2 PySem.Spec PyProof.Rows
section
variable {X:Cx}
def QR(K:Φ):V->V->V->Hp->(Hp->Prop)->Prop:=λo i v H Q=>∃ (F:Hp) (a:Ψ) (e:Nat) (x:Γ (Γ j5×Ψ×Θ)) (l:Γ (D×D)) (b:Ψ) (s:Γ Int) (n:Int),o=.ref a/\i=.ref b/\v=.int n/\H a=↑(.dT e x)/\aA F H/\eA K F l x/\fP K F b (s.map V.int)/\x.length<sizeLine/\∀I u,(x.map (·.1)).Nodup->Q (upd H a<|.dT I<|storedH x (s.map Sum.inl) b<|.int n u)
def Bz{xs:Γ (Γ j5×Ψ×Θ)}{k:Γ j5}{b:Ψ}{u:Θ}(h:xs.length<sizeLine):(storedH xs k b u).length<=sizeLine:=by
 unfold storedH;split
 .rw[zD];lia
 .rw[zN,zL,xK];lia
def Ff(U:X.A.units+1<cLine):Oc X (QR X.K):=by
 intro P s σ H o i v ov iv u Q I Z Y rv h;let(HF,a,p,S,l,b,T,n,rfl,rfl,rfl,f,sm,D,M,O,q):=h;cases Z;cases Y;let(t,rfl):=rv;let(z,N,o,m,G,r,y,B,g):=(show cC X.prog X.w H s.heap a (.dT p S)from I.UX a _ f)
 refine wpAny_setItem_heap (hsz:=z) (tupleKind_room_in1 U) (nO I<|ay sm M) {o,m,p,G,r,y,B,iq I sm D,g} λh' d R=>?_;let(k,E,W,j,C,F,J,_,L):=d;exact{_,I.write (o:=.dT W<|storedH S (T.map Sum.inl) b<|.int n t) (x:=a) (e:=a) (by rw[f];exact True.intro) (.inl rfl) (λc w' hc z=>(R.2 c hc).trans z) ⟨k,j⟩ ⟨Bz O,N,k,E,j,C,F,J,L⟩,q W t g}
def putD(ns:Γ Int)(n:Int):Γ (D×D)->Γ (D×D)
 |[]=>[(fN ns,.int n)]
 |p::l=>if bj p.1=↑ns then(p.1,.int n)::l else p::putD ns n l
def xx{K:Φ}{ns:Γ Int}{n:Int}{t:Tok}(B:fP K HF b (ns.map V.int)):∀{l:Γ (D×D)}{xs:Γ (Γ j5×Ψ×Θ)},eA K HF l xs->(xs.map (·.1)).Nodup->eA K HF (putD ns n l) (storedH xs (ns.map Sum.inl) b<|.int n t)
 |[],_,h,_=>by
  cases(show _=[]from h);exact{ns,n,t,b,[],rfl,rfl,B,rfl}
 |p::l,_,⟨k,v,T,c,r,f,g,H,a⟩,d=>by
  subst f g;rw[zI,kR]at d;have i:=xx (t:=t) (n:=n) B a d.2;unfold putD;rw[bC];by_cases z:k=ns
  .subst z;rw[yM rfl];have:storedH ((k.map Sum.inl,c,.int v T)::r) (k.map Sum.inl) b (.int n t)=(k.map Sum.inl,c,.int n t)::r:=by
    rw[storedH_old (p:=(c,.int v T))<|by simp[atKey],zI,map_putAt_of_not_mem r _ _ d.1];simp[putAt]
   rw[this];exact{k,n,t,c,r,rfl,rfl,H,a}
  .rw[yO λy=>z<|xE y];have e:¬(k.map Sum.inl:Γ j5)=ns.map Sum.inl:=λy=>z<|m6 y;have:storedH ((k.map Sum.inl,c,.int v T)::r) (ns.map Sum.inl) b (.int n t)=(k.map Sum.inl,c,.int v T)::storedH r (ns.map Sum.inl) b (.int n t):=by
    unfold storedH;have:atKey ((k.map Sum.inl,c,Value.int v T)::r) (ns.map Sum.inl)=atKey r (ns.map Sum.inl):=by
     unfold atKey;rw[List.find?_cons,yA e]
    rw[this];split
    .rw[zI];congr 1;unfold putAt;rw[yO e]
    .rfl
   rw[this];exact{k,v,T,c,_,rfl,rfl,H,i}
end
def qy:Slot->θ|.tab _=>false|_=>true
section
variable {K:Φ}{xs:Γ (Γ j5×Ψ×Θ)}{l m:Γ (D×D)}
def fH.newD(S:fH K UO UP HF H ρ σ)(p:H a=↑(.dT ep xs))(q:HF a=none)(r:UP a=none)(T:eA K HF l xs)(x:ρ.all qy=true):fH K UO UP HF H (ρ.set i<|.tab l) (σ.set i<|↑(.ref a)):=by
 have o:∀{j:Nat}{t:Slot},(ρ.set i<|.tab l)[j]?=↑t->qy t=true->i≠j/\ρ[j]?=↑t:=λ{j t}h N=>by
  rw[xI]at h;by_cases U:i=j
  .rw[yM U]at h;split at h<;>cases h;cases N
  .rw[yO U]at h;exact{U,h}
 have n:∀{j:Nat}{m:Γ (D×D)},(ρ.set i<|.tab l)[j]?=↑(.tab m)->i=j/\m=l/\i<ρ.length:=λ{j m}h=>by
  rw[xI]at h;by_cases U:i=j
  .rw[yM U]at h;split at h
   .rename_i L;cases h;exact{U,rfl,U▸L}
   .cases h
  .rw[yO U]at h;have:=List.all_eq_true.mp x _<|qB h;cases this
 refine{S.gr,λj e h=>?_,λj s h=>?_,λj k y Y b E c d f=>?_,by rw[yD,yD];exact S.len,S.tb,λj u h=>?_,λj k u m g G=>(n g).1.symm.trans (n G).1,λj k h=>by rw[xI,yO (o h rfl).1];exact S.ob j k (o h rfl).2}
 .let(U,h):=o h rfl;rw[xI,yO U];exact S.val j e h
 .let(U,h):=o h rfl;rw[xI,yO U];exact S.own j s h
 .let(v,E):=o E rfl;let(w,c):=o c rfl;rw[xI,yO v]at d;rw[xI,yO w]at f;exact S.inj j k y Y b E c d f
 .let(rfl,rfl,L):=n h;rw[xI,yM rfl,yM<|zP L S.len];exact{a,ep,xs,rfl,p,q,r,True.intro,T}
def fH.putD(S:fH K UO UP HF H ρ σ)(h:ρ[i]?=↑(.tab l))(A:σ[i]?=↑(↑(.ref a)))(T:eA K HF m xs):fH K UO UP HF (upd H a<|.dT ep xs) (ρ.set i<|.tab m) σ:=by
 let(w,W,y,E,p,c,f,_):=S.tab i l h;rw[A]at E;cases E;have L:i<ρ.length:=(List.getElem?_eq_some_iff.mp h).1;have R:bc UO UP HF (upd H a<|.dT ep xs):={λb o e=>by rw[ai<|aF e f];exact S.gr.hh b o e,S.gr.ff,λb o e=>by rw[ai<|aF e c];exact S.gr.fh b o e,S.gr.nw}
 have d:∀{j:Nat}{t:Slot},(ρ.set i<|.tab m)[j]?=↑t->qy t=true->ρ[j]?=↑t:=λ{j t}h N=>by
  rw[xI]at h;by_cases U:i=j
  .rw[yM U,yM L]at h;cases h;cases N
  .rw[yO U]at h;exact h
 have n:∀{j:Nat}{s:Γ (D×D)},(ρ.set i<|.tab m)[j]?=↑(.tab s)->i=j/\s=m:=λ{j s}g=>by
  rw[xI]at g;by_cases U:i=j
  .rw[yM U,yM L]at g;cases g;exact{U,rfl}
  .rw[yO U]at g;exact absurd (S.one i j l s h g) U
 refine{R,λj e g=>S.val j e<|d g rfl,λj q g=>?_,λj k u y b f1 f2=>S.inj j k u y b (d f1 rfl)<|d f2 rfl,by rw[yD];exact S.len,S.tb,λj s g=>?_,λj k s Q G r=>(n G).1.symm.trans (n r).1,λj k h=>S.ob j k<|d h rfl}
 .let(b,v,f1,f2,f3,f5,f4):=S.own j q<|d g rfl;refine{b,v,f1,?_,f3,f5,f4};rw[ai λz=>by rw[z,p]at f2;cases f2];exact f2
 .let(rfl,rfl):=n g;exact{a,ep,xs,A,ar,c,f,True.intro,T}
def fH.afI(S:fH K UO UP HF H ρ σ)(h:ρ[i]?=↑(.tab l)):∃T,aA HF T/\fH K UO UP T H (ρ.set i<|.val<|.dict l) σ:=by
 let(a,p,x,f,E,n,q,_,c):=S.tab i l h;have L:i<ρ.length:=(List.getElem?_eq_some_iff.mp h).1;have s:aA HF (upd HF a<|.dT p x):=λb o e=>by rw[ai<|aF e n];exact e
 have u:aA (upd HF a<|.dT p x) H:=λb o e=>by
  by_cases z:b=a
  .subst z;rw[ar]at e;cases e;exact E
  .rw[ai z]at e;exact S.gr.fh b o e
 have O:∀{j:Nat}{t:Slot},(ρ.set i<|.val<|.dict l)[j]?=↑t->(∀d,t≠.val d)->i≠j/\ρ[j]?=↑t:=λ{j t}g N=>by
  rw[xI]at g;by_cases U:i=j
  .rw[yM U,yM L]at g;cases g;exact absurd rfl (N _)
  .rw[yO U]at g;exact{U,g}
 refine{_,s,{S.gr.hh,S.gr.ff.trans s,u,λb o e=>?_},λj d g=>?_,λj D g=>?_,λj k w Y b f1 f2=>S.inj j k w Y b (O f1 nofun).2 (O f2 nofun).2,by rw[yD];exact S.len,S.tb.mono s,λj m g=>absurd (S.one i j l m h (O g nofun).2) (O g nofun).1,λj k m Q G r=>S.one j k m Q (O G nofun).2 (O r nofun).2,λj k g=>S.ob j k (O g nofun).2}
 .by_cases z:b=a
  .subst z;exact .inr q
  .rw[ai z]at e;exact S.gr.nw b o e
 .rw[xI]at g;by_cases U:i=j
  .rw[yM U,yM L]at g;cases g;refine{_,U▸f,?_};simp?[Rep];exact{a,p,x,rfl,ar,c.mono s}
  .rw[yO U]at g;let(v,f1,f2):=S.val j d g;exact{v,f1,f2.mono s}
 .let(b,y,f1,f2,f3,f5,f4):=S.own j D (O g nofun).2;refine{b,y,f1,f2,?_,f5,f4.mono s};rw[ai λz=>by rw[z,E]at f2;cases f2];exact f3
end
section
variable {X:Cx}
def Ov(i:Nat)(g:ak->Δ Out):ak->Δ Out:=λa=>match a[i]? with
 |some (.tab l)=>g (a.set i<|.val<|.dict l)
 |_=>none
def NK{st:Ω}(h:DS X UO UP st g):DS X UO UP st (Ov i g):=bH h λE m H z=>by
 let(F,k,o,S,G,q):=z
 unfold Ov at G;split at G
 .rename_i l L;let(T,f,e):=S.afI L;refine{T,_,o,e,G,?_};cases o with
  |nx j=>exactλa b U c s=>q a b U c (f.trans s)
  |rt d=>exact q
 .cases G
def D4(i:Nat)(fk f:Env->Δ D):ak->Δ Out:=λa=>(f<|aS a).bind λd=>(fk<|bh a).bind λkd=>match d,bj kd,a[i]? with
 |.int n,↑s,↑(.tab l)=>if l.length<1000 then↑(.nx<|a.set i<|.tab<|putD s n l)else none
 |_,_,_=>none
def J7(M:X.A.units+1<cLine)(i:Nat)(D:X.N[i]?=↑x)(Q:rA X.env.scope x)(hk:DE X e fk)(h:DE X e2 f)(K:(x==("__debug__":Str))=false)(y:(x==("__classdict__":Str))=false)
  (J:∀v,assign (.Subscript (.Name x px) e U) X.env v=(do
   let O <- holding [v]<|eval (.Name x px) X.env
   let m <- holding [v,O]<|eval e X.env
   standAt U
   holding [v,O,m] (setItem O m v)
   release [v,O,m] []))
  (hs:swapsWithSole [.Subscript (.Name x px) e U] e2 pos.line X.env=pure false)(hw:swappedStores [.Subscript (.Name x px) e U] e2 X.env=pure none)
  (k:(assignEach [.Subscript (.Name x px) e U] X.env).map (·.2)=[assign (.Subscript (.Name x px) e U) X.env]):DS X UO UP (.Assign [.Subscript (.Name x px) e U] e2 pos) (D4 i fk f):=
 bH (Hg h (FK (dv D Q K y) hk (Ff M) J) hs hw k) λE Y H z=>by
  let(F,j,o,S,g,q):=z;let(d,k,g):=bs g;let(kd,C,g):=bs g;obtain⟨n,rfl⟩:∃n,d=.int n:=by
   cases d<;>first|exact{_,rfl}|cases g
  cases hk:bj kd with
  |none=>rw[hk]at g;cases g
  |some w =>
  cases I:j[i]? with
  |none=>rw[hk,I]at g;cases g
  |some L =>
  rw[hk,I]at g;obtain⟨l,rfl⟩:∃l,L=.tab l:=by
   cases L<;>first|exact{_,rfl}|cases g
  have g:(if l.length<1000 then↑(Out.nx<|j.set i<|.tab<|putD w n l)else none)=↑o:=g;split at g
  .rename_i hl;cases g;refine{H,aS j,.int n,.refl _,S.all,k,λv Z UT G r=>?_};simp?[Rep]at r;subst r;have s:=S.step G.hh;let(a,P,W,f1,f2,f3,f5,_,f4):=s.tab i l I;refine{.ref a,f1,F,bh j,kd,s.gr.fh,s.Vt,C,λkv H2 t c rk=>?_};rw[dg hk]at rk;simp?[Rep]at rk;let(b,vs,rfl,B,T):=rk;have:=dQ T;subst this;have p:=s.grow c;refine{t,a,P,W,l,b,w,n,rfl,rfl,rfl,c.hh _ _ f2,p.gr.fh,f4.mono c.ff,B,?_,λWI u R=>q Y _ t (p.putD I f1<|xx B (f4.mono c.ff) R) c.ff};rw[gu f4,qT];lia
  .cases g
end
section
variable {X:Cx}
def HC{es:Γ DictEntry}(n:(es.map (·.hash)).Nodup):∀e∈es,(es.filter (·.hash==e.hash)).length<=1:=by
 induction es with
 |nil=>intro e h;cases h
 |cons a r i =>
  rw[zI,kR]at n;intro e H;rw[jV];by_cases z:(a.hash==e.hash)=true
  .rw[yM z,zL];have:r.filter (·.hash==e.hash)=[]:=List.filter_eq_nil_iff.mpr λb B y=>n.1 (by
    rw[vI]at z y;rw[z,<-y];exact List.mem_map_of_mem B)
   rw[this];exact yN _
  .rw[yO z];rcases List.mem_cons.mp H with rfl|H
   .exact absurd (beq_self_eq_true _) z
   .exact i n.2 e H
def pD(l:Γ (D×D)):θ:=(lQ l).any λr=>decide (r.map eB).Nodup
def F3(B:iN X "dict" (.type "dict"))(h:DE X e f)(E:starEach [e] X.env=(false,eval e X.env)::starEach [] X.env) :
  PE X (.Call (.Name "dict" p) [e] [] pos) (λσ H Q=>∃HF ρ l,aA HF H/\cw X.K HF ρ σ/\f ρ=↑(.dict l)/\pD l=true/\l.length<1000/\∀a ep xs b U,bc HF H U b->b a=none->eA X.K U l xs->Q (.ref a) (upd b a<|.dT ep xs)):=by
 intro P s σ H Q I z;let(HF,ρ,l,sm,O,hf,hk,hz,q):=z;refine qX<|gE I B.gl B.mg B.bt<|qQ (b9 (vq h Bx E pos P s σ H _ I {HF,ρ,[.dict l],sm,O,by simp[aa,af,hf],λF b U g r1=>({U,g,r1}:∃U,bc HF H U b/\au X.K U [.dict l] F)}) λus S z=>?_) E rfl;let(F,b,i,R,U,g,r1):=z;let(v,vr,rfl,A,L):=r1.cons_inv;rw[L.nil_inv]at R;let(u,rfl,rx):=vals1 R;simp?[Rep]at A;let(a,ep,xs,rfl,Y,t):=A;cases rx;let(c,Z,o,C,j,M,N,G,T):=(show cC X.prog X.w b S.heap a (.dT ep xs)from i.UX a _<|g.fh _ _ Y)
 obtain⟨r,hr,hn⟩:∃r,lQ l=↑r/\decide (r.map eB).Nodup=true:=by
  unfold pD at hk;cases e:lQ l with
  |none=>rw[e]at hk;cases hk
  |some r=>rw[e]at hk;exact{r,rfl,hk}
 have nd:=yR hn;let(m,m1,m2,m3):=rY t hr;have k:C.toList.map (·.hash)=r.map eB:=by
  rw[G,zM,<-m1,zM];have:=jB (List.map λy:Γ j5×Ψ=>(tupleKind<|dE X.prog X.w).hash y.1) m2;rw[zM,zM]at this;refine Eq.trans rfl (this.trans ?_);exact yI λp _=>yi p.1
 refine Dd.YF j M N Z (λe E=>?_) (λe E=>?_) ?_ λD W kp ⟨o',n1,n2,n3⟩=>?_
 .rw[G]at E;let(x,hx,rfl):=List.mem_map.mp E;let(o2,UR,n,t1,t2,_):=iq i g.fh t x hx;exact{x.2.1,rfl,o2,t1,t2}
 .have:=HC (by rw[k];exact nd) e E;rw[<-wC,Array.toList_filter];exact this
 .rw[size_of_entries G];exact c
 .have d:sysModules<S.heap.objs.size:=wM (by decide) (show mainGlobals<S.heap.objs.size from(i.mod.glob.keeps i.bk).lt);have J:=i.laid (a:=S.heap.objs.size) (o:=.dT W xs) (h':=D) (t':=S.toks) kp (yN _) {c,beq_eq_false_iff_ne.mpr<|jL<|yS d,o',C,n1,n2,n3,G,T};exact{.ref _,_,J,rfl,q _ W xs b U g (i.UX.fresh<|yN _) t}
def KS(i:Nat)(f:Env->Δ D):ak->Δ Out:=λa=>(f<|bh a).bind fun|.dict l=>if(pD l&&decide (l.length<1000)&&a.all qy)=true then↑(.nx<|a.set i<|.tab l)else none|_=>none
def G6(i:Nat)(B:iN X "dict" (.type "dict"))(h:DE X e f)(r:starEach [e] X.env=(false,eval e X.env)::starEach [] X.env)(m:X.N.Nodup)(hi:X.N[i]?=↑x)(v:L2.Loc X.env.scope x)(hs:swapsWith (.Call (.Name "dict" p) [e] [] cp) (↑(.Name x px)) pos.line X.env=pure false)(u:X.fn x=true\/X.env.scope.names.lookup x=↑.local) :
  DS X UO UP (.Assign [.Name x px] (.Call (.Name "dict" p) [e] [] cp) pos) (KS i f):=bH (sO m hi v (F3 B h r) hs u) λE C H z=>by
 let(F,c,o,S,g,q):=z;let(d,k,g):=bs g;cases d<;>try cases g
 rename_i l;have g:(if(pD l&&decide (l.length<1000)&&c.all qy)=true then↑(Out.nx<|c.set i<|.tab l)else none)=↑o:=g;split at g
 .rename_i hc;simp?[zF,zJ]at hc;cases g;refine{F,bh c,l,S.gr.fh,S.Vt,k,hc.1.1,hc.1.2,λa P y j U G A t=>?_};have s:=S.grow G;have w:aA j (upd j a<|.dT P y):=λb o e=>by rw[ai<|aF e A];exact e
  have n:U a=none:=by
   cases e:U a with
   |none=>rfl
   |some o=>rw[G.fh _ _ e]at A;cases A
  have Z:UP a=none:=by
   cases e:UP.h a with
   |none=>rfl
   |some o=>rw[s.gr.hh _ _ e]at A;cases A
  exact q _ _ U ((s.step w).newD ar n Z t hc.2) G.ff
 .cases g
end
end Dl
namespace Ob
open PySem L2 PySem.Spec PyProof.Rows Dl
variable {py pz:Pos}
abbrev Po:=ak->Γ Oj->Δ (Γ D×Γ Oj)
def T3(K:Φ)(UO UP:Hp)(pa:Γ Ψ)(f:Po):TI:=λc H R=>∃F a s d o,fS K UO UP pa F H a s c/\f a s=↑(d,o)/\∀J b U,fS K UO UP pa U b a o c->aA F U->mV K J U d->R J b
def OI(X:Cx)(UO UP:Hp)(pa:Γ Ψ)(tg iter:γ)(f:Po):Prop:=PI X tg iter<|T3 X.K UO UP pa f
section
variable {X:Cx}{UO UP:Hp}{pa:Γ Ψ}{pos p tp:Pos}{tg iter elt a b e:γ}{ifs:Γ γ}{scope:ζ}{N:Γ Str}
def Iz(fs:n6):Po:=λa o=>(fs a o).bind λx=>(Ba x.1).map (·,x.2)
def Oq{l L:γ}{E:Γ γ}{k:Nat}{fs:n6}(B:iN X "zip" (.type "zip"))(hs:starEach [l,L] X.env=(false,eval l X.env)::starEach [L] X.env)(i:(backTo pos<|starEach [L] X.env).any (·.1)=false)(h:OA X UO UP pa [l,L] fs) :
  OI X UO UP pa (.Tuple E k tp) (.Call (.Name "zip" p) [l,L] [] pos) (Iz fs):=
 r6 (Dv B h hs i) λσ H R z=>by
  let(F,M,O,n,w,S,f,q):=z;let((x,o1),u,f):=bs f;let(N,Z,e):=ag f;cases e;refine{F,M,O,x,o1,S,u,λW g U d J r1=>?_};have Z:Ba x=↑n:=Z;unfold Ba at Z;split at Z
  .let(xs,o,Z):=bs Z;let(ys,t,rfl):=ag Z;let(v,P,rfl,a,b):=r1.cons_inv;let(T,G,rfl,j,m):=b.cons_inv;rw[m.nil_inv];let(c,D,K,rfl,Q,I):=sF o a;let(C,A,y,rfl,Y,r):=sF t j;exact{D,A,rfl,c,C,K,y,Q.mono d.fh,Y.mono d.fh,q _ g U d J<|yx Q (λ_ _ s h=>h.mono s) Y (λ_ _ s h=>h.mono s) I r}
  .cases Z
variable {t:Nat}{cs:Γ Nat}{fi:Po}{tgt:Dl.Env->D->Δ Dl.Env}{tt:Dl.Env->Δ θ}{te:Dl.Env->Δ D}
def yz(t:Nat)(cs:Γ Nat)(fi:Po)(tgt:Dl.Env->D->Δ Dl.Env)(tt:Dl.Env->Δ θ)(te:Dl.Env->Δ D):OF:=λa o=>(fi a o).bind λx=>((df tgt tt te (eK t cs<|bh a) x.1).bind small).map (PyData.list ·,x.2)
def JW(hc:X.calm=true)(S:g9 X scope N (iE t cs))(hi:OI X UO UP pa tg iter fi)
  (y:∀fp s H,DG (aL X scope N fp s H) tg tgt/\Jj (aL X scope N fp s H) ifs tt/\DE (aL X scope N fp s H) elt te)
  (hs:∀x,foldedSetIterable iter X.env x=pure x):OE X UO UP pa (.ListComp elt [{tg,iter,ifs,0}] scope pos) (yz t cs fi tgt tt te):=
 aE (C9 (g:=Pr X.K tgt) (tt:=JM X.K tt) (te:=tD X.K te) hc S hi y hs) λB H Q z=>by
  let(F,p,O,d,m,S,f,q):=z;let((D,o1),l,f):=bs f;let(T,o,e):=ag f;cases e;let(A,o,Z):=bs o;let(rfl,Z):=cU Z;refine{F,p,O,D,o1,S,l,λJ u w b n it=>D1 b.Vt o Z (.refl b.fh) it λa v i U G k Y j r=>?_};have c:=G.freeze k j Y;refine q _ i _ (b.grow c) (n.trans c.ff) ?_;simp?[Rep];exact{a,v,rfl,.inl<|.inl ar,r.mono<|cT Y}
end
section
variable {X:Cx}{UO UP:Hp}{pa:Γ Ψ}{pos p tp px:Pos}{tg iter elt a b e:γ}{es:Γ γ}
def Rc{fa fb:RF}(H:OR X UO UP pa a fa)(B:OR X UO UP pa b fb)(hs:lG b):OR X UO UP pa (.Subscript a b pos) (uG aH fa fb):=aE (CZ BQ H B hs)<|Mi IZ
def rB(g:Γ D->Δ D)(fs:Jq):RF:=λa o=>(fs a o).bind g
def Sw{fs:Jq}(hs:El X.K r g):∀σ H Q,OP X.K UO UP pa (rB g fs) σ H Q->QU r (Qr X.K UO UP pa fs) σ H Q:=λσ H Q z=>by
 let(F,i,o,d,S,f,q):=z;let(s,x,f):=bs f;exact{F,i,o,s,S,x,λe b T G r1=>hs T b s e d Q G.fh r1 f λv a U c R=>q v a U (G.trans c) R}
def OM{fs:Jq}(B:iN X "len" (.builtin "len"))(a:Rz X UO UP pa [e] fs)(H:starEach [e] X.env=(false,eval e X.env)::starEach [] X.env):OR X UO UP pa (.Call (.Name "len" p) [e] [] pos) (rB bP fs):=
 aE (iL i6 B.gl B.mg B.bt a (by decide) (by decide) H rfl) (Sw D6)
def Ck(f:OF):OF:=λa o=>(f a o).bind λx=>(lU x.1).map (·,x.2)
def Kr{f:OF}(hc:X.calm=true)(u:X.A.in1.in1.in1.units<cLine)(B:iN X "dict" (.type "dict"))(h:OE X UO UP pa e f)(c:starEach [e] X.env=(false,eval e X.env)::starEach [] X.env) :
  OE X UO UP pa (.Call (.Name "dict" p) [e] [] pos) (Ck f):=aE (Dh hc u B h c) λm H Q z=>by
 let(b,k,o,d,O,S,F,q):=z;let((x,o1),i,F):=bs F;let(y,Y,E):=ag F;cases E;cases x<;>try cases Y
 exact{b,k,o,_,o1,S,i,λv l T s j r1=>{T,_,d,s.fh,r1,Y,λw a U g r=>q w a U (s.grow g) (j.trans g.ff) r}}
def IQ(i:Nat)(f:OF):OG:=λa o=>(f a o).bind λx=>match a[i]? with
 |some (.own d)=>if d.length<sizeLine then↑(.nx (a.set i<|.own<|d++[x.1]) x.2)else none
 |_=>none
def OL{f:OF}{apos UU:Pos}(i:Nat)(y:X.N[i]?=↑x)(G:rA X.env.scope x)(h:OE X UO UP pa e f)(C:(x==("__debug__":Str))=false)(p:(x==("__classdict__":Str))=false)
  (t:((backTo UU<|starEach [e] X.env).all (λx=>!x.1)&&(backToKw UU<|keywordEach [] X.env).all (λx=>x.1.isSome)&&decide ([e].length+([]:Γ Keyword).length+(if([]:Γ Keyword).isEmpty then 0 else 1)<30))=true)
  (Z:(apos.endLine==UU.line)=true)(hs:starEach [e] X.env=(false,eval e X.env)::starEach [] X.env) :
  OS X UO UP pa (.Expr (.Call (.Attribute (.Name x px) "append" apos) [e] [] UU) pos) (IQ i f):=
 bH (lH<|pS qM PySem.F.slot_list_append PySem.F.type_list_append lF (dv y G C p) (br h cQ hs) rfl t Z hs rfl) λE Q H z=>by
  let(m,P,J,o,S,g,q):=z;let((d,o1),w,g):=bs g;split at g
  .rename_i s I;split at g
   .rename_i L;cases g;let(l,D,j,O):=S;let(a,M,c,u,W,e5,e4):=O.S.own i s I;refine{.ref a,c,.inl {rfl,M,ik.of u},m,P,J,d,o1,{l,D,j,O},w,λv R U n K r=>?_};let(b,A,B,k):=n;let(T,Y,f1,f2,f3,f5,f4):=k.S.own i s I;rw[c]at f1;cases f1;exact{a,Y,v,rfl,rfl,f2,by rw[f4.length];exact L,q Q _ U {b,A,B,k.pure (k.S.mut I c f2<|f4.append<|au.cons r au.nil)<|.refl _} K}
   .cases g
  .cases g
def HR(i j k:Nat):ak->D->Δ ak:=λa d=>match d with
 |.tuple [x,y,z]=>↑(((a.set i<|.val x).set j<|.val y).set k<|.val z)
 |_=>none
def EH{UP:Hq}(i j k:Nat){px py pz:Pos}{m:Nat}(hc:X.calm=true)(n:X.N.Nodup)(hi:X.N[i]?=↑x)(t:L2.Loc X.env.scope x)(J:X.N[j]?=↑y)(Y:L2.Loc X.env.scope y)(hk:X.N[k]?=↑z)(Z:L2.Loc X.env.scope z)
  (l:X.fn x=true\/X.env.scope.names.lookup x=↑.local)(o:X.fn y=true\/X.env.scope.names.lookup y=↑.local)(p:X.fn z=true\/X.env.scope.names.lookup z=↑.local) :
  HQ X UO UP (.Tuple [.Name x px,.Name y py,.Name z pz] m pos) (HR i j k):=
 oN (wq hc<|cZ (dq n hi t l)<|cZ (dq n J Y o)<|cZ (dq n hk Z p) qu) λv L H Q z=>by
  let(F,K,d,D,S,r,f,q):=z;unfold HR at f;split at f
  .cases f;simp?[Rep]at r;let(a,I,rfl,s,R):=r;let(u,r1,rfl,A,B):=R.cons_inv;let(w,E,rfl,b,e):=B.cons_inv;let(C,G,rfl,c,g):=e.cons_inv;rw[g.nil_inv]at s;exact{a,_,rfl,ay S.gr.fh s,rfl,u,_,rfl,w,_,rfl,C,_,rfl,rfl,q _<|((S.VD A).VD b).VD c}
  .cases f
def IE(i j k l:Nat):ak->D->Δ ak:=λa d=>match d with
 |.tuple [x,y,z,w]=>↑((((a.set i<|.val x).set j<|.val y).set k<|.val z).set l<|.val w)
 |_=>none
def Ga{UP:Hq}(i j k l:Nat){px py pz P:Pos}{m:Nat}(hc:X.calm=true)(n:X.N.Nodup)(hi:X.N[i]?=↑x)(D:L2.Loc X.env.scope x)(J:X.N[j]?=↑y)(Y:L2.Loc X.env.scope y)(hk:X.N[k]?=↑z)(Z:L2.Loc X.env.scope z)(L:X.N[l]?=↑w)(hw:L2.Loc X.env.scope w)
  (t:X.fn x=true\/X.env.scope.names.lookup x=↑.local)(u:X.fn y=true\/X.env.scope.names.lookup y=↑.local)(C:X.fn z=true\/X.env.scope.names.lookup z=↑.local)(h4:X.fn w=true\/X.env.scope.names.lookup w=↑.local) :
  HQ X UO UP (.Tuple [.Name x px,.Name y py,.Name z pz,.Name w P] m pos) (IE i j k l):=
 oN (wq hc<|cZ (dq n hi D t)<|cZ (dq n J Y u)<|cZ (dq n hk Z C)<|cZ (dq n L hw h4) qu) λv σ H Q z=>by
  let(M,ρ,d,K,S,r,f,q):=z;unfold IE at f;split at f
  .cases f;simp?[Rep]at r;let(a,W,rfl,s,R):=r;let(E,r1,rfl,A,B):=R.cons_inv;let(F,O,rfl,b,g):=B.cons_inv;let(G,T,rfl,c,o):=g.cons_inv;let(I,U,rfl,e,p):=o.cons_inv;rw[p.nil_inv]at s;exact{a,_,rfl,ay S.gr.fh s,rfl,E,_,rfl,F,_,rfl,G,_,rfl,I,_,rfl,rfl,q _<|(((S.VD A).VD b).VD c).VD e}
  .cases f
end
def EF(n:Nat)(i:Γ Slot->Fs->Δ (D×Fs))(m:Str)(mm:Γ Slot->Fs->Δ (D×Fs))(fs:n6):OF:=λa o=>(fs a o).bind λy=>if y.1.length+1=n then(i (.obj 0::y.1.map Slot.val) []).bind λw=>match w.1 with
 |.none=>if(w.2.lookup m).isNone=true then(mm [.obj 0] w.2).map λu=>(u.1,y.2)else none
 |_=>none else none
section
variable {X:Cx}{UO UP:Hp}{pa:Γ Ψ}{pos p ap cp:Pos}
def O0{fs:n6}{pl:Sem θ}(M:Mk X.K C f)(F:dZ X.prog X.w X.K X.mg X.base vi k f fd ps (Lj X.K C n mi))(hr:cE (k+1) X.A)(hg:Gl X cn)(hm:X.mg cn=↑(.ref C))(hb:Binds X.K fd ps [])(ha:OA X UO UP pa (e::es) fs)(V3:(cn==("__debug__":Str))=false)
  (he:starEach (e::es) X.env=(false,eval e X.env)::starEach es X.env)(Vw:(backTo cp<|starEach es X.env).any (·.1)=false)(cl:tK X.K C)(Fm:MM X.prog X.w X.K X.mg X.base j C m 1 mm)(hj:cE j X.A)
  (ht:eval (.Call (.Attribute (.Call (.Name cn p) (e::es) [] cp) m ap) [] [] pos) X.env=(do
   let ov <- eval (.Call (.Name cn p) (e::es) [] cp) X.env
   standAt ap.atName
   let (f,first) <- holding [ov]<|getMethod ov m pl
   callWith pos f first (backTo pos<|starEach [] X.env) (backToKw pos<|keywordEach [] X.env))) :
  OE X UO UP pa (.Call (.Attribute (.Call (.Name cn p) (e::es) [] cp) m ap) [] [] pos) (EF n mi m mm fs):=by
 let(fm,fdm,pm,ok,R,O):=Fm.ex;refine aE (rE (E:=E0) (Da (E:=E0) M F hr hg hm hb .nil nL ha V3 he Vw) cl R ok hj O .nil nL ht) λσ H Q z=>?_;let(HF,ρ,os,d,os',S,a,q):=z;let((J,o1),h1,a):=bs a;split at a
 .rename_i W;let((d1,Y),h2,a):=bs a;split at a
  .rename_i P;have P:d1=.none:=P;subst P;split at a
   .rename_i hl;let((d2,WK),h3,e2):=ag a;cases e2;refine{HF,ρ,os,J,o1,S,h1,λvs c U I s1 r1 x D nx N i=>?_};rw[qF];have l:=I.fh;have tb:cm X.K U:=I.Vt.tb;let B:Hp:=upd (upd (λ_=>none) D<|.own x) x<|.ins C D [];let s:Hp:=upd (upd c D<|.own x) x<|.ins C D [];have bx:B x=↑(.ins C D []):=ar;have bd:B D=↑(.own x):=by show upd _ x _ D=_;rw[ai i,ar]
    have o:∀b u,c b=↑u->b≠x/\b≠D:=λb u z=>{aF z nx,aF z N}
    have hB:∀b u,c b=↑u->cut s B b=↑u:=λb u z=>by
     let(z1,z2):=o b u z;refine ie ?_ ?_
     .show upd _ x _ b=_;rw[ai z1,ai z2];exact z
     .show upd _ x _ b=_;rw[ai z1,ai z2]
    have W:∀b u,B b=↑u->U b=none/\s b=↑u:=λb u z=>by
     have z:upd (upd (λ_=>none) D<|.own x) x (.ins C D []) b=↑u:=z;by_cases y:b=x
     .rw[y]at z ⊢;rw[ar]at z;cases z;exact{l.free nx,ar}
     .rw[ai y]at z;by_cases y':b=D
      .rw[y']at z ⊢;rw[ar]at z;cases z;refine{l.free N,?_};show upd _ x _ D=_;rw[ai i,ar]
      .rw[ai y']at z;cases z
    have sm:aA U s:=λb u z=>by
     let(z1,z2):=o b u<|l b u z;show upd _ x _ b=_;rw[ai z1,ai z2];exact l b u z
    refine{U,B,x,Slot.obj 0::J.map Slot.val,[],.none,Y,sm,tb,λb u z=>(W b u z).2,λb u z=>(W b u z).1,{D,[],[],bx,bd,.nil,.nil},.obj<|iF r1,by simpa using ‹_›,h2,λv H' US B' t z r=>?_};simp?[Rep]at r;refine{r,?_};let(L,ls,as,f1,f2,f3,f4):=z.ex;refine{x,L,ls,rfl,t.sb _ _ f1,oS f3<|Option.isNone_iff_eq_none.mp hl,?_};refine{US,B',x,[Slot.obj 0],Y,_,WK,t.gr.fh,tb.mono t.gr.ff,t.sb,λb u w=>(t.nw b u w).1,z,.obj<|iF (ds:=[]) au.nil,rfl,h3,λv' Z g B'' t2 _ r'=>?_};have T:=t.trans t2;have G:bc U c g Z:=⟨λb u w=>T.gr.hh b u<|hB b u w,T.gr.ff,T.gr.fh,λb u w=>(T.gr.nw b u w).imp id λy=>by
     cases e:c b with
     |none=>rfl
     |some u=>rw[hB b u e]at y;cases y⟩
    exact q v' Z g (I.grow G) (s1.trans G.ff) r'
   .cases a
  .cases a
 .cases a
end
end Ob
namespace Pg
open PySem L2 Dl PySem.Spec PyProof.Rows Ob Og Ex
def mI:ak->Δ Out:=(aG (KS 2<|ab 0)<|aG (gK [1] YE (HR 3 4 5)<|D4 2 abi<|ab 5)<|Ov 2<|aV<|f1 lU<|dS<|av 1 [2] (Mb<|ab 2) (fG 0) (fB<|f2 FE (f2 Ib (ab 1)<|ab 0)<|fC<|.int 0)<|bq<|aa (ab 0)<|aa (f2 Ib (ab 1)<|ab 0) af) 
def gz:Γ D->Δ D:=bo mI 6
abbrev aah:=(nN gP (ab 0) nG<|CN<|fC<|.int 2)
def aZ(C:Ψ):Og.MF:=jn (cW (List.range 1)<|gD<|Ck<|yz 2 [] (Iz<|aJ (oR<|uG aH (bg 0 C "world"<|aq C)<|rD<|fC<|.int 2)<|aJ (bK 0 C "plan" 1 (aM C) bI) bI) (il 0 1) (fB<|f2 FE (ab 1)<|fC<|.int 0)<|bq<|aa aah VS) C 1
abbrev ac2:=(f2 bS (ab 7)<|fC<|.int 0)
abbrev abk:=(fB ac2)
abbrev ac3:=(f2 bS (ab 9)<|fC<|.int 0)
abbrev abl:=(fB ac3)
abbrev ac4:=(ma abk abl)
abbrev aai:=(f2 aQ (ab 5)<|fC<|.int 2)
abbrev ac5:=(f2 aQ (ab 5)<|fC<|.int 3)
abbrev afK:=(aa ac5<|aa (fC<|.int 10) af)
abbrev afL:=(aa (ab 0) afK)
abbrev ac6:=(ah 3 aj afL)
abbrev ac7:=(f2 bS (ab 7)<|fC<|.int 1)
abbrev ac8:=(fB ac7)
abbrev afM:=(aa aai<|aa (ab 9) af)
abbrev ac9:=(aa (ab 0) afM)
abbrev aaj:=(ah 3 aj ac9)
abbrev afN:=(aa ac5 abj)
abbrev afO:=(aa (ab 0) afN)
abbrev afP:=(ah 3 aj afO)
abbrev ada:=(f2 aQ (fC<|.int 1) afP)
abbrev abm:=(aa (ab 11) af)
abbrev afQ:=(aa (f2 aH (ab 6)<|fC<|.int 2) abm)
abbrev adb:=(ah 2 gz afQ)
abbrev abn:=(f2 aH (ab 1)<|fC<|.int 2)
abbrev ade:=(si dY abm)
abbrev afR:=(f2 dX (ab 11)<|dS ade)
abbrev adf:=(fB afR)
def gT(C:Ψ):OG:=(dR (lV<|aO 5 [4]<|f2 aQ (fC<|.int 80)<|f2 hV (fC<|.int 8)<|ab 4)<|dR (hJ 6<|oTup<|aJ (oR<|bg 1 C "world"<|aq C)<|aJ (bK 1 C "plan" 1 (aM C) bI)<|aJ (gX 1 C 1 (aZ C)<|tw Ap) bI)<|dR (lV<|aO 7 [0,5]<|ah 3 aj<|aa (ab 0)<|aa (ab 5)<|aa (fC<|.int 3) af)<|dR (lV<|aO 8 [0,5]<|ah 3 aj<|aa (ab 0)<|aa (f2 aQ (ab 5)<|fC<|.int 1)<|aa (fC<|.int 2) af)<|dR (hJ 9<|oR<|rB bP<|nA (uG aH (bg 1 C "world"<|aq C)<|rD<|fC<|.int 2) vf)<|dR (xw (oT ac4) (dR (hJ 10<|fT 3 aj<|aJ (oD<|ab 0)<|aJ (oD aai)<|aJ (oR<|rB bP<|nA (uG aH (bg 1 C "world"<|aq C)<|rD<|ab 8) vf) bI)<|hJ 11<|bK 1 C "set_amount" 4 (bN C)<|aJ (oD<|ab 8)<|aJ (oD<|ab 10)<|aJ (oD ac6) bI)<|xw (oT ac8) (hJ 11<|bK 1 C "set_limit" 3 (cK C)<|aJ (oD aaj)<|aJ (oD ada) bI)<|hJ 11<|bK 1 C "close" 2 (eY C)<|aJ (oD aaj) bI)<|dR (xw (rX (As<|oB<|fT 2 mZ<|aJ (oR<|bg 1 C "world"<|aq C)<|aJ (bK 1 C "plan" 1 (aM C) bI) bI)<|oB<|mN Ax (oD adb)<|gX 1 C 1 (aZ C)<|tw Ap) (cW (List.range 17)<|gD<|oD<|fC<|.bool false) Jk)<|dR (xw (oT<|ma (fB<|f2 dX (dS<|av 1 [6] (bu<|ab 11) (fG 0) (fB<|f2 bS (FA abn aah<|fC<|.int 0) Xs)<|ab 0)<|dS zq6) adf) (cW (List.range 17)<|gD<|oD<|fC<|.bool false) Jk)<|dR (xw (rX (oB<|mN dX (EF 2 (jt C) "plan" (aM C)<|aJ (oR<|bg 1 C "world"<|aq C) bI)<|bK 1 C "plan" 1 (aM C) bI)<|oB<|mN dX (bK 1 C "plan" 1 (aM C) bI)<|fT 1 aU<|aJ (oR<|bg 1 C "world"<|aq C) bI) (cW (List.range 17)<|gD<|oD<|fC<|.bool false) Jk)<|IQ 3<|mN aQ (oD<|ab 6)<|oTup<|aJ (gX 1 C 1 (aZ C)<|tw Ap) bI)
def gR(C:Ψ):OG:=(dR (hJ 11<|bK 1 C "undo" 1 (fV C) bI)<|xw (rX (oB<|mN dX (oR<|bg 1 C "world"<|aq C)<|oD<|ab 13)<|rX (oB<|mN dX (bK 1 C "plan" 1 (aM C) bI)<|oD<|ab 14)<|oB<|mN Ax (oD<|ah 2 gz<|aa (ab 16) abm)<|oD<|ab 15) (cW (List.range 17)<|gD<|oD<|fC<|.bool false) Jk)
def lu(C:Ψ):OG:=(dR (Ab 1 C 2 (jt C)<|aJ (oD<|ah 3 dh<|aa (ab 0)<|aa (fC<|.int 0)<|aa (fC<|.int 6) af) bI)<|dR (hJ 2<|oR<|bg 1 C "world"<|aq C)<|dR (lV<|bb 3 [] zq6)<|dR (Hv [0] (cO<|aa (f2 aQ (fC<|.int 1)<|ah 3 aj<|aa (ab 0)<|aa (fC<|.int 70)<|aa (fC<|.int 6) af) af) (wY 4)<|gT C)<|dR (hJ 12<|oR<|uG aH (uG aH (uG aH (bg 1 C "world"<|aq C)<|rD<|fC<|.int 0)<|rD<|fC<|.int 0)<|rD<|fC<|.int 0)<|dR (xw (rX (oB<|mN dX (bK 1 C "set_amount" 4 (bN C)<|aJ (oD<|fC<|.int 0)<|aJ (oD<|fC<|.int 0)<|aJ (oD<|ab 12) bI)<|oD<|dS zq6)<|rX (oB<|mN dX (bK 1 C "undo" 1 (fV C) bI)<|oD<|dS zq6)<|oB<|mN dX (oR<|bg 1 C "many"<|cy C)<|oD<|b8 bP<|aa (ab 3) af) (cW (List.range 17)<|gD<|oD<|fC<|.bool false) Jk)<|dR (Hv [3] (bu<|f1 Ms<|ab 3) (IE 13 14 15 16)<|gR C)<|cW (List.range 17)<|gD<|Lb (mN bS (oR<|bg 1 C "world"<|aq C)<|oD<|ab 2)<|mN bS (oR<|bg 1 C "many"<|cy C)<|oD<|fC<|.int 0)
def tZ(C:Ψ):Γ D->Δ D:=F8 (lu C) 17
end Pg
namespace Og
open PySem L2 Dl Rf Ob PySem.Spec PyProof.Rows
variable {py pz:Pos}
section
variable {c:Cg}{G:Sg}{X:Cx}{N:Γ Str}{sc:ζ}{k j:Nat}{pos p px ap fp cp:Pos}{UO UP:Hp}{Vf:Hq}{pa:Γ Ψ}
def Ur(C:Cn G X N sc j k)(h:DE X e f)(B:iN X "dict" (.type "dict"))(hs:isStar e=false)(l:gW N sc i x=true)(hw:swapsWith (.Call (.Name "dict" p) [e] [] cp) (↑(.Name x px)) pos.line X.env=pure false):DS X UO Vf (.Assign [.Name x px] (.Call (.Name "dict" p) [e] [] cp) pos) (KS i f):=let ⟨z1,z2,z3,z4⟩:=C.b.loc l;G6 i B h (az hs) z1 z2 z3 hw z4
def RZ(C:Cn G X N sc j k){a:Pos}(h:ip N sc i x=true)(hk:DE X U fk)(E:DE X e f)
  (H:∀v,assign (.Subscript (.Name x px) U a) X.env v=(do let o <- holding [v]<|eval (.Name x px) X.env;let I <- holding [v,o]<|eval U X.env;standAt a;holding [v,o,I]<|setItem o I v;release [v,o,I] []))
  (hs:swapsWithSole [.Subscript (.Name x px) U a] e pos.line X.env=pure false):DS X UO Vf (.Assign [.Subscript (.Name x px) U a] e pos) (D4 i fk f):=let ⟨A,c,d,g⟩:=C.b.W4 h;J7 C.u1 i A c hk E d g H hs rfl rfl
def t3(C:Cn G X N sc j k){px py pz:Pos}(H:gW N sc i x=true)(M:gW N sc l y=true)(a:gW N sc m z=true):HQ X UO Vf (.Tuple [.Name x px,.Name y py,.Name z pz] n pos) (HR i l m):=let ⟨z1,z2,z3,z4⟩:=C.b.loc H;let ⟨_,w,W,f⟩:=C.b.loc M;let ⟨_,v,d,e⟩:=C.b.loc a;EH i l m C.c z1 z2 z3 w W v d z4 f e
def t4(C:Cn G X N sc j k){px py pz p:Pos}(H:gW N sc i x=true)(M:gW N sc l y=true)(a:gW N sc m z=true)(O:gW N sc o w=true):HQ X UO Vf (.Tuple [.Name x px,.Name y py,.Name z pz,.Name w p] n pos) (IE i l m o):=let ⟨z1,z2,z3,z4⟩:=C.b.loc H;let ⟨_,W,g,q⟩:=C.b.loc M;let ⟨_,v,e,f⟩:=C.b.loc a;let ⟨_,u,U,d⟩:=C.b.loc O;Ga i l m o C.c z1 z2 z3 W g v e u U z4 q f d
def Pz(C:Cn G X N sc j k){iter elt:γ}{ifs:Γ γ}{scope:ζ}{cs:Γ Nat}(d:OI X UO UP pa tg iter fi)(Y:∀fp s H,Cn G (aL X scope (lP N scope<|n8 tg) fp s H) (lP N scope<|n8 tg) scope j k->DG (aL X scope (lP N scope<|n8 tg) fp s H) tg tgt/\Jj (aL X scope (lP N scope<|n8 tg) fp s H) ifs tt/\DE (aL X scope (lP N scope<|n8 tg) fp s H) elt te)
  (f:(iter.ctorIdx==7)=false)(U:jl sc scope N (lP N scope<|n8 tg) t cs=true):OE X UO UP pa (.ListComp elt [{tg,iter,ifs,0}] scope pos) (yz t cs fi tgt tt te):=let ⟨S,h⟩:=C.blk U Y;JW C.c S d h<|sU f
def SZ(B:iN X "zip" (.type "zip")){l L:γ}{s:Γ γ}{tp:Pos}{k:Nat}{fs:n6}(h:OA X UO UP pa [l,L] fs)(hs:isStar l=false)(ht:([L].all λe=>!isStar e)=true):OI X UO UP pa (.Tuple s k tp) (.Call (.Name "zip" p) [l,L] [] pos) (Iz fs):=Oq B (az hs) (bp ht) h
def QK(C:Cn G X N sc j k){f:OF}(h:ip N sc i x=true)(H:OE X UO UP pa e f)(hs:isStar e=false)(l:(ap.endLine==cp.line)=true):OS X UO UP pa (.Expr (.Call (.Attribute (.Name x px) "append" ap) [e] [] cp) pos) (IQ i f):=let ⟨a,A,c,d⟩:=C.b.W4 h;OL i a A H c d (vx (by simp[hs])<|by simp) l<|az hs
def S8(C:Cn G X N sc j k)(H:OE X UO UP pa a fa)(B:OE X UO UP pa b fb):OT X UO UP pa (.Compare a [.NotEq] [b] pos) (oB<|mN Ax fa fb):=A9 (OX C.u1) J3 H B<|eF _
def RM(C:Cn G X N sc j k)(H:OE X UO UP pa a fa)(B:OE X UO UP pa b fb):OE X UO UP pa (.Compare a [.Eq] [b] pos) (mN bS fa fb):=NG (wk C.b.u64) ph H B<|eF _
def RH(H:OE X UO UP pa a fa)(B:OE X UO UP pa b fb):OE X UO UP pa (.BinOp a .Add b pos) (mN aQ fa fb):=Qs (Hx.or<|uj.or sX) (rf uP<|rf DQ uf) H B
def anyB(C:Cn G X N sc j k){fs:Dl.Env->Δ (Γ D)}(B:iN X "any" (.builtin "any"))(hs:isStar e=false)(a:DA X [e] fs):DE X (.Call (.Name "any" p) [e] [] pos) (b8 IW fs):=OQ C.c B (az hs) a
def R5{env:PySem.Env}{cn:Str}{e:γ}{es:Γ γ}(U:(ap.endLine==pos.line)=true):∃pl:Sem θ,eval (.Call (.Attribute (.Call (.Name cn p) (e::es) [] cp) m ap) [] [] pos) env=(do
   let o <- eval (.Call (.Name cn p) (e::es) [] cp) env
   standAt ap.atName
   let (f,first) <- holding [o]<|getMethod o m pl
   callWith pos f first (backTo pos<|starEach [] env) (backToKw pos<|keywordEach [] env)):=by
 have Z:methodCallForm (([]:Γ γ).length+([]:Γ Keyword).length) (backTo pos<|starEach [] env) (backToKw pos<|keywordEach [] env)=true:=vx rfl (by simp);have W:methodCallPos true (.Call (.Name cn p) (e::es) [] cp) env ap pos=pure pos:=by unfold methodCallPos;simp[U]
 refine{(do return(<- importBound (.Call (.Name cn p) (e::es) [] cp) env).getD true),?_};rw[arm_eval_Call];unfold methodCall;rw[Z,W];rfl
def Ta(C:Cn G X N sc j k)(Y:Yo c X j k){fs:n6}(a:OA X UO UP pa (e::es) fs)(hi:c.ini=↑(n,U))(H:c.ms.lookup m=↑(1,mm))(g:(Jl sc c.cn&&!(c.cn==("__debug__":Str)))=true)(hs:isStar e=false)(ht:(es.all λe=>!isStar e)=true)(Z:(ap.endLine==pos.line)=true):OE X UO UP pa (.Call (.Attribute (.Call (.Name c.cn p) (e::es) [] cp) m ap) [] [] pos) (EF n U m mm fs):=by
 simp?[zF,yQ]at g;let(f,D,s,M,F,B,d):=Y.ck.ini n U hi;let(l,hw):=R5 (m:=m) (p:=p) (cp:=cp) (cn:=c.cn) (e:=e) (es:=es) (env:=X.env) Z;exact O0 M F (C.b.room.mono Y.lt) (C.b.gl g.1) d B a g.2 (az hs) (bp ht) Y.ck.cl (Y.ck.ms m 1 mm H) (C.b.room.mono C.le) (pl:=l) hw
end
end Og
namespace VY
open PySem L2 Dl Rf Ob Og Ex Rg PySem.Spec PyProof.Rows
section
variable {P:ε}{w:δ}{K:Φ}{mg:Str->Δ Θ}{base:ι}{is:Γ (Str×Int)}{cl:Γ Str}{j k:Nat}{l:FT}{fx:XT}{c:Cg}{x:Str}{n:Nat}{g:OG}
def od(st:Ω)(D:iy K x st (tM st n))(h:FC P w K mg base is cl j l fx c)(t:PM st (sr st) ⟨l,is⟩ c (ba st) g:=by ac_rfl)(F:bO (sr st) (tM st n) (ax st):=by exact fst)(e:(tM st n).length=n:=by kernel_rfl)(E:(sr st).length=k:=by kernel_rfl) :
  FC P w K mg base is cl (j+2) l fx {c with fs:=(x,n,jn g c.C k)::c.fs}:=by
 let(f,i,H,u,B):=(Tt h.ok D).ex;have d:=LN h.ck<|jT j 2;exact{up h.ok<|jT j 2,{d with fs:=λM N mm=>Bc (R:=λm a=>Pf P w K mg base (j+2) c.C m a.1 a.2) {f,i,_,NP u h t F e E,H,u.kp,B} (λy b=>d.fs y b.1 b.2) M (N,mm)}}
end
end VY
namespace Dl
open PySem L2 PySem.Spec PyProof.Rows
def yj:D->Prop|.none=>True|.bool _=>True|.int _=>True|.str x=>PyData.canLay0 (.str x)=true|_=>False
def iV(b:Nat):Nat->D->Prop
 |0,d=>yj d
 |k+1,d=>yj d\/(∃s,(d=.list s\/d=.tuple s)/\s.length<=b/\∀x∈s,iV b k x)
def iV.leaf(h:yj d):iV b k d:=by
 cases k with
 |zero=>exact h
 |succ k=>exact .inl h
def iV.tup(H:xs.length<=b)(h:∀x∈xs,iV b k x):iV b (k+1) (.tuple xs):=.inr {xs,.inr rfl,H,h}
def iV.lst(H:xs.length<=b)(h:∀x∈xs,iV b k x):iV b (k+1) (.list xs):=.inr {xs,.inl rfl,H,h}
def iV.VB(h:iV b k (.tuple xs)):∃j,k=j+1/\xs.length<=b/\∀x∈xs,iV b j x:=by
 cases k with
 |zero=>cases h
 |succ k =>
  rcases h with h|⟨y,h|h,H,a⟩
  .cases h
  .cases h
  .cases h;exact{k,rfl,H,a}
def iV.mono(H:b<=U):∀{k K:Nat}{d:D},k<=K->iV b k d->iV U K d
 |0,K,d,_,h=>.leaf h
 |k+1,0,d,hk,h=>by lia
 |k+1,K+1,d,hk,h=>by
  rcases h with h|⟨s,h,a,c⟩
  .exact .inl h
  .exact .inr {s,h,yE a H,λx X=>(c x X).mono H<|by lia}
def DD{b:Nat}:∀{xs:Γ D},(∀x∈xs,PyData.canLay0 x=true/\x.depth<=k)->PyData.canLayAll0 xs=true/\PyData.depthAll xs<=k
 |[],_=>{by rfl,by simp[PyData.depthAll]}
 |x::xs,h=>by
  let(a,c):=DD (b:=b) λy H=>h y<|zC _ H;let(A,C):=h x zE;exact{by simp[PyData.canLayAll0,a,A],by simp[PyData.depthAll];lia}
def iV.lay:∀{k:Nat}{d:D},iV b k d->PyData.canLay0 d=true/\d.depth<=k:=by
 have l:∀{k:Nat}{d:D},yj d->PyData.canLay0 d=true/\d.depth<=k:=λ{k d}h=>by
  cases d<;>simp[yj]at h<;>first|exact{h,by simp[PyData.depth]}|exact{by rfl,by simp[PyData.depth]}
 intro k
 induction k with
 |zero=>exact l
 |succ k i =>
  intro d h;rcases h with h|⟨x,h,e,H⟩
  .exact l h
  .let(a,c):=DD (b:=b) λy Y=>i<|H y Y;rcases h with rfl|rfl
   .exact{by simp[PyData.canLay0,a],by simp[PyData.depth];lia}
   .exact{by simp[PyData.canLay0,a],by simp[PyData.depth];lia}
def iV.shaped(h:iV b k d)(hk:k<=64):SeqAt.shaped d=true:=by
 let(a,c):=h.lay;simp[SeqAt.shaped,a];lia
def iV.noDict(h:iV b k d):∀v,d≠.dict v:=by
 rintro v rfl;have:=h.lay.1;simp[PyData.canLay0]at this
def pR:D->θ|.dict _=>false|_=>true
def iV.nd(h:iV b k d):pR d=true:=by
 cases d<;>first|rfl|exact absurd rfl (h.noDict _)
def TC:D->θ|.int _=>true|.bool _=>true|_=>false
def Tn:D->θ|.bool _=>true|_=>false
def O4:D->θ|.tuple _=>true|_=>false
def kI(h:pR d=true):vc (jg d) "int"=↑(TC d):=by cases d<;>first|cases h;done|exact LI _ (by simp[jg])
def kB(h:pR d=true):vc (jg d) "bool"=↑(Tn d):=by cases d<;>first|cases h;done|exact IV _ (by simp[jg])
def kT(h:pR d=true):vc (jg d) "tuple"=↑(O4 d):=by cases d<;>first|cases h;done|exact kit_tuple _ (by simp[jg])
def whole(a b:Int):D->θ|.int i=>decide (a<=i)&&decide (i<=b)|_=>false
def uE:∀{ds:Γ D},(∀d∈ds,∃ρ',tgt ρ d=↑ρ'/\te ρ'=↑(h d))->df tgt (λ_=>↑true) te ρ ds=↑(ds.map h)
 |[],_=>rfl
 |d::ds,H=>by
  let(ρ',a,b):=H d zE;have i:=uE (ds:=ds) λy Y=>H y<|zC _ Y;unfold df;rw[a];simp[b,i]
def mS:∀{ds:Γ D},(∀d∈ds,∃ρ',tgt ρ d=↑ρ'/\tt ρ'=↑(p d)/\(p d=true->te ρ'=↑(h d)))->df tgt tt te ρ ds=↑((ds.filter p).map h)
 |[],_=>rfl
 |d::ds,a=>by
  let(ρ',b,c,e):=a d zE;have i:=mS (ds:=ds) λy Y=>a y<|zC _ Y;unfold df;rw[b];simp?[zA,c];cases H:p d with
  |true=>rw[yM rfl,e H];simp[i,jV,H]
  |false=>simp[i,jV,H]
def pE:∀ds:Γ D,boolsOf (ds.map λd=>.bool<|p d)=↑(ds.map p)
 |[]=>rfl
 |d::ds=>by simp[boolsOf,pE ds]
def ny(ds:Γ D):oP [.list<|ds.map λd=>.bool<|p d]=↑(.bool<|ds.all p):=by
 simp?[oP,oneOf,zA,pE,zB,List.all_map];rfl
def bF(h:ds.length<=4000):small ds=↑ds:=yM<|yE h<|by decide
def m9{ds:Γ D}{i:Nat}(h:i<ds.length):tW ds i=↑(ds.getD i .none):=by
 have:=wx<|List.getElem?_eq_some_iff.mpr {h,rfl};rw[this];simp[List.getD,h]
def C8{ds:Γ D}(h:0<ds.length):tW ds 0=↑(ds.getD 0 .none):=m9 h
def zl{ds:Γ D}(h:1<ds.length):tW ds 1=↑(ds.getD 1 .none):=m9 h
def L9{ds:Γ D}(h:2<ds.length):tW ds 2=↑(ds.getD 2 .none):=m9 h
end Dl
namespace Wm
open PySem L2 Dl PySem.Spec PyProof.Rows Pg
variable {cs:Γ Nat}{mo:Int}{i7 i5:Nat}{mr:Fs->Δ D}{E:Dl.Env}
def Af(H:fa ρ=↑(.int a))(B:fb ρ=↑(.int i))(hc:fc ρ=↑(.int b)):mJ FH FH fa fb fc ρ=↑(.bool<|decide (a<=i)&&decide (i<=b)):=by
 simp[mJ,H,B,hc,zA,FH,xy,xH];by_cases h:a<=i<;>simp[h]
def mR(i j:Int):Dl.ib (.int i) (.int j)=↑(.int<|i-j):=rfl
def dz(i j:Int):Dl.aQ (.int i) (.int j)=↑(.int<|i+j):=rfl
def va(d:D):Slot.all (.val d)=↑d:=rfl
def xt(ds:Γ D):Slot.all (.own ds)=↑(.list ds):=rfl
def DB:Slot.all .UQ=none:=rfl
def Cj(d:D):Slot.Vt (.val d)=↑d:=rfl
def CL(ds:Γ D):Slot.Vt (.own ds)=none:=rfl
def DM:Slot.Vt .UQ=none:=rfl
local macro_rules|`(tactic| simp! [$ts,*])=>`(tactic| simp only[bo,aG,lJ,aV,lY,ma,sJ,cY,fB,gB,N4,ab,fC,mh,UA,SJ,Qy,f1,f2,mR,dz,aa,af,ah,b8,si,bP,fJ,oneOf,gO,aS,va,xt,DB,Cj,CL,DM,bu,dS,cq,bq,j6,aH,  zI,yV,xF,xO,zL,xK,List.replicate,xQ,yZ,qG,kL,zA,Option.bind_none,zB,Option.map_none,Nat.reduceAdd,Nat.reduceSub,jC,Nat.sub_self,xH,reduceIte,$ts,*])
def gF(h:pR d=true)(a b:Int):bM [d,.int a,.int b]=↑(.bool<|whole a b d):=by
 simp! [bM,rV,kI h,kB h];cases d<;>simp[TC,Tn,whole];rw[Af rfl rfl rfl]
def kf(h:pR d=true)(n:Int):cS [d,.int n]=↑(.bool<|whole 0 (n-1) d):=by
 simp! [cS,pV,gF h]
def long(a b:Int):D->θ|.tuple d=>decide (a<=(d.length:Int))&&decide ((d.length:Int)<=b)|_=>false
def eM(h:pR d=true)(a b:Int):bQ [d,.int a,.int b]=↑(.bool<|long a b d):=by
 simp! [bQ,uh,kT h];cases d<;>simp[O4,long];rw[Af rfl rfl rfl]
def lO:D->Int|.int i=>i|_=>0
def gg(h:whole a b d=true):d=.int (lO d)/\a<=lO d/\lO d<=b:=by
 cases d<;>simp[whole]at h;exact{rfl,h}
def mv:∀{l:Γ D},l.all (whole a b)=true->l=(l.map lO).map PyData.int
 |[],_=>rfl
 |d::l,h=>by
  rw[xS,zF]at h;rw[zI,zI,<-(gg h.1).1,<-mv h.2]
def lh(n:Int):D->θ|.tuple l=>l.all (whole 0<|n-1)&&decide ((l.map lO).Nodup)|_=>false
def cF(i j:Int):bS (.int i) (.int j)=↑(.bool<|decide (i=j)):=by
 rfl
def sQ(i j:Int):dX (.int i) (.int j)=↑(.bool<|!decide (i=j)):=by
 rfl
def Fy(h:ls.all (whole a b)=true)(l:ls.length<=1000):f2 bS (f1 nQ λ_=>↑(.tuple ls)) (b8 bP<|aa (λ_=>↑(.tuple ls)) af) []=↑(.bool<|decide ((ls.map lO).Nodup)):=by
 have e:nQ (.tuple ls)=↑(.int<|many<|ls.map lO):=by
  simp[nQ,bj]
  conv=>lhs;rw[(mv h)]
  rw[bX,zA,yM];rw[zD];exact qY (Nat.add_le_add_right l 1)<|by decide
 simp! [e,cF];have:=B7<|ls.map lO;simp[<-this,Int.ofNat_inj,yL,PyData.bool.injEq]
def Pw(r:Dl.Env)(d:D):fG 0 (none::r) d=↑(↑d::r):=by rfl
def cf(W:fi ρ=↑ds)(l:ds.length<=4000)(a:∀d∈ds,te (↑d::cs.map λj=>(ρ[j]?).getD none)=↑(h d)):av 1 cs fi (fG 0) (λ_=>↑true) te ρ=↑(ds.map h):=by
 simp[av,W,zA,eK,List.replicate,xF,xO];rw[uE λd H=>{_,Pw _ d,a d H},zA,bF (by rw[zD];lia)]
def mQ(W:fi ρ=↑ds)(l:ds.length<=4000)
  (P:∀d∈ds,tt (↑d::cs.map λj=>(ρ[j]?).getD none)=↑(p d))(a:∀d∈ds,p d=true->te (↑d::cs.map λj=>(ρ[j]?).getD none)=↑(h d)):av 1 cs fi (fG 0) tt te ρ=↑((ds.filter p).map h):=by
 simp[av,W,zA,eK,List.replicate,xF,xO];rw[mS λd H=>{_,Pw _ d,P d H,a d H},zA,bF (by rw[zD];exact yE (xP _ _) l)]
def Au(h:iV b k d)(H:b<=1000)(n:Int):gU [d,.int n]=↑(.bool<|lh n d):=by
 simp! [gU,pI,kT h.nd];cases d<;>try rfl
 rename_i l;let(j,rfl,L,f):=h.VB;simp! [O4,xY,yP,(cf (cs:=[1]) (fi:=bu<|ab 0) (te:=(ah 2 cS<|aa (ab 0)<|aa (ab 1) af)) (h:=λx=>.bool<|whole 0 (n-1) x) (ρ:=[↑(.tuple l),↑(.int n)]) rfl (by lia) λx X=>by simp! [kf (f x X).nd]),ny];cases e:l.all _ with
 |false=>simp[lh,e]
 |true =>
  have:=Fy e<|yE L H;simp[f2,f1,b8,aa,af,zA,zB]at this;simp! [lh,e,xY,yP,jJ];simp[bP,fJ,oneOf,zA,gO,zB]at this
  grind
def placeOk(n:Int):D->θ|.tuple d=>decide (d.length=2)&&(whole 0 9 (d.getD 0 .none)&&lh n (d.getD 1 .none))|_=>false
def kb(g t:Int):D->θ|.tuple d=>decide (d.length=3)&&(whole 0 (g-1) (d.getD 0 .none)&&(whole 0 (t-1) (d.getD 1 .none)&&whole 1 9 (d.getD 2 .none)))|_=>false
def uU(n:Nat)(ds:Γ D):long (n) n (.tuple ds)=decide (ds.length=n):=by
 simp[long]
 grind
def getD_mem{ds:Γ D}{i:Nat}(h:i<ds.length):ds.getD i .none∈ds:=by simp[List.getD,h]
def yy{b:Nat}(h:iV b k d)(H:b<=1000)(n:Int):gq [d,.int n]=↑(.bool<|placeOk n d):=by
 simp! [gq,zt,eM h.nd];cases d<;>try rfl
 rename_i s;let(j,rfl,l,f):=h.VB;rw[show long 2 2 _=decide _ from uU 2 s];by_cases e:s.length=2
 .simp! [e,jO,C8 (show 0<s.length by lia),zl (show 1<s.length by lia),gF (f _<|getD_mem (i:=0)<|by lia).nd,Au (f _<|getD_mem (i:=1)<|by lia) H,placeOk];cases whole 0 9 _<;>simp
 .simp[e,placeOk]
def Ge{b:Nat}(h:iV b k d)(H:b<=1000)(g t:Int):k7 [d,.int g,.int t]=↑(.bool<|kb g t d):=by
 simp! [k7,Ad,eM h.nd];cases d<;>try rfl
 rename_i s;let(j,rfl,l,f):=h.VB;rw[show long 3 3 _=decide _ from uU 3 s];by_cases e:s.length=3
 .simp! [e,jO,xY,yP,C8 (show 0<s.length by lia),zl (show 1<s.length by lia),L9 (show 2<s.length by lia),gF (f _<|getD_mem (i:=2)<|by lia).nd,kf (f _<|getD_mem (i:=0)<|by lia).nd,kf (f _<|getD_mem (i:=1)<|by lia).nd,kb];cases whole 0 _ _<;>cases whole 0 _ _<;>simp
 .simp[e,kb]
def cM:D->Γ D|.tuple d=>d|_=>[]
def oH(d:D):θ:=long 1 4 d
def js(g t w:D):θ:=oH g&&(oH t&&((cM g).all (placeOk (cM t).length)&&((cM t).all (placeOk (cM g).length)&&(O4 w&&(cM w).all (kb (cM g).length (cM t).length)))))
def kq(h:long a b d=true):d=.tuple (cM d):=by cases d<;>first|rfl|cases h
def pP(G:iV b k g)(ht:iV b k t)(hw:iV b k w)(B:b<=1000):gV [g,t,w]=↑(.bool<|js g t w):=by
 simp! [gV,pQ,eM G.nd,eM ht.nd,kT hw.nd];unfold js oH;cases e:long 1 4 g with
 |false=>rfl
 |true =>
  cases E:long 1 4 t with
  |false=>rfl
  |true =>
   obtain⟨s,rfl⟩:∃s,g=.tuple s:={_,kq e}
   obtain⟨T,rfl⟩:∃T,t=.tuple T:={_,kq E}
   let(j,rfl,l,f):=G.VB;let(o,J,L,F):=ht.VB;simp! [xY,yP,(cf (cs:=[1]) (fi:=bu<|ab 0) (te:=(ah 2 gq<|aa (ab 0)<|aa (b8 bP<|aa (ab 1) af) af)) (h:=λx=>.bool<|placeOk T.length x) (ρ:=[↑(.tuple s),↑(.tuple T),↑w]) rfl (by lia) λx H=>by simp! [yy (f x H) B]),ny,cM,jJ];cases m:s.all _ with
   |false=>rfl
   |true =>
    simp! [xY,yP,(cf (cs:=[0]) (fi:=bu<|ab 1) (te:=(ah 2 gq<|aa (ab 0)<|aa (b8 bP<|aa (ab 1) af) af)) (h:=λx=>.bool<|placeOk s.length x) (ρ:=[↑(.tuple s),↑(.tuple T),↑w]) rfl (by lia) λx H=>by simp! [yy (F x H) B]),ny,jJ];cases n:T.all _ with
    |false=>rfl
    |true =>
     cases c:O4 w with
     |false=>simp! [xY,yP,kT hw.nd,c,vX,Bool.and_false]
     |true =>
     obtain⟨W,rfl⟩:∃W,w=.tuple W:=by cases w<;>first|exact{_,rfl}|cases c
     let(p,d,i,a):=hw.VB;simp! [xY,yP,(cf (cs:=[0,1]) (fi:=bu<|ab 2) (te:=(ah 3 k7<|aa (ab 0)<|aa (b8 bP<|aa (ab 1) af)<|aa (b8 bP<|aa (ab 2) af) af)) (h:=λx=>.bool<|kb s.length T.length x) (ρ:=[↑(.tuple s),↑(.tuple T),↑(.tuple W)]) rfl (by lia) λx H=>by simp! [Ge (a x H) B]),ny,jJ,kT hw.nd,O4]
def sT:∀(a b:Γ Int),PyData.eqvAll (a.map PyData.int) (b.map PyData.int)=decide (a=b)
 |[],[]=>by rfl
 |[],_::_=>by rfl
 |_::_,[]=>by rfl
 |i::a,j::b=>by
  rw[zI,zI,PyData.eqvAll,sT a b];by_cases h:i=j
  .subst h;simp[PyData.eqv]
  .simp[PyData.eqv,h]
def sZ:∀(a b:Γ _),PyData.eqvAll (a.map ae) (b.map ae)=decide (a=b)
 |[],[]=>by rfl
 |[],_::_=>by rfl
 |_::_,[]=>by rfl
 |x::a,y::b=>by
  rw[zI,zI,PyData.eqvAll,sZ a b,ae,ae,PyData.eqv,sT];simp
def ni(i:Int):iV b k (.int i):=.leaf trivial
def Cz(h:r.length<=b):iV b (k+1) (ae r):=.tup (by rw[zD];lia) λx H=>by
 let(i,_,rfl):=List.mem_map.mp H;exact ni i
def Io{b k:Nat}{a:Γ _}(h:a.length<=b)(H:∀r∈a,r.length<=b):iV b (k+2) (.list<|a.map ae):=.lst (by rw[zD];lia) λx c=>by
 let(r,X,rfl):=List.mem_map.mp c;exact Cz<|H r X
def EG(a:Γ (Γ Int)):∃b,a.length<=b/\∀r∈a,r.length<=b:=by
 induction a with
 |nil=>simp
 |cons x a i =>
  let(b,H,c):=i;refine{b+1+x.length,by grind,λr R=>?_}
  grind
def pF(a:Γ _):SeqAt.shaped (.list<|a.map ae)=true:=by
 let(b,H,c):=EG a;exact(Io (k:=0) H c).shaped (by decide)
def EX(a b:Γ _):bS (.list<|a.map ae) (.list<|b.map ae)=↑(.bool<|decide (a=b)):=by
 simp[bS,Pi,pF,jN,xH,PyData.eqv,sZ,zB]
def kr(d:D):Γ Int:=(cM<|(cM d).getD 1 .none).map lO
def ji(h:placeOk n d=true):∃a ds,d=.tuple ds/\ds.length=2/\ds.getD 0 .none=.int a/\0<=a/\a<=9/\ds.getD 1 .none=.tuple ((kr d).map PyData.int)/\(kr d).Nodup/\∀j∈kr d,0<=j/\j<=n-1:=by
 cases d<;>simp?[placeOk]at h<;>try cases h
 rename_i ds;simp?[zF,zJ]at h;let(b,c,H):=h;have e:kr (.tuple ds)=(cM<|ds.getD 1 _).map lO:=rfl;rw[e];generalize L:ds.getD 1 _=l at H;cases l<;>simp?[lh]at H<;>try cases H
 rename_i s;simp?[zF,zJ]at H;let(w,W,f):=gg c;refine{_,ds,rfl,b,w,W,f,?_,H.2,λj J=>?_}
 .rw[show cM _=s from rfl,<-mv H.1];lia
 .let(x,X,rfl):=List.mem_map.mp J;exact(gg<|List.all_eq_true.mp H.1 x X).2
def nX(k:Nat):Γ D->Γ (Γ Int)|[]=>[]|p::s=>(kr p).map (λj=>[((k:Nat):Int),j])++nX (k+1) s
def rZ:∀(n:Nat){l:Γ Int},l.Nodup->(∀j∈l,0<=j/\j<=(n:Int)-1)->l.length<=n:=by
 intro n l N h;have s:l.map Int.toNat ⊆ List.range n:=λx H=>by
  let(j,J,rfl):=List.mem_map.mp H;have:=h j J;exact List.mem_range.mpr<|by lia
 have X:(l.map Int.toNat).Nodup:=by
  refine List.pairwise_map.mpr<|N.imp_of_mem λ{x y}H Y U e=>U ?_;have:=h x H;have:=h y Y;lia
 have:=List.Nodup.length_le_of_subset X s;simpa using this
def vn{n:Nat}:∀{ps:Γ D}{k:Nat},(∀p∈ps,placeOk n p=true)->(nX k ps).length<=ps.length*n
 |[],k,_=>xV _
 |p::ps,k,h=>by
  let(_,_,_,_,_,_,_,_,H,r):=ji<|h p zE;have a:=rZ n H r;have b:=vn (k:=k+1) λq Q=>h q<|zC _ Q;rw[nX,zN,zD,zL,Nat.succ_mul];lia
def pB:ak->Δ Out:=Er 1 [2,3]<|av 1 [2] (bu<|f2 aH (ab 3)<|fC<|.int 1) (fG 0) (λ_=>↑true)<|bq<|aa (ab 1)<|aa (ab 0) af
def NV{n:Nat}{p:D}{acc:Γ D}(P:placeOk n p=true)(N:n<=100)(A:acc.length<=1000):pB [.val x,.own acc,.val<|.int (k:Nat),.val p]=↑(.nx [.val x,.own<|acc++((kr p).map λj=>ae [k,j]),.val<|.int k,.val p]):=by
 let(a,d,rfl,L,_,_,_,H,X,r):=ji P;have B:=rZ n X r;generalize kr _=l at *;have c:=cf (cs:=[2]) (fi:=bu<|f2 aH (ab 3)<|fC<|.int 1) (te:=bq<|aa (ab 1)<|aa (ab 0) af) (h:=λy=>.tuple [.int k,y]) (ρ:=[↑x,none,↑_,↑(.tuple d)]) (ds:=l.map .int)
  (by simp! [zl (show 1<d.length by lia),H]) (by grind) λy Y=>by
   rfl
 have b:hand [2,3] 0 [.val x,.own acc,.val<|.int k,.val<|.tuple d]=[.val x,.own acc,.val _,.val _]:=rfl;simp?[pB,Er,b,bh,zI,yV,Slot.Vt,c,zA,qd,yZ,xQ];rw[yM]
 .simp?[zB,yX,yW,zM];rfl
 .simp ;exact yE (show acc.length+l.length<=1100 by lia) (by decide)
def uL{n:Nat}(H:n<=100):∀{ps:Γ D}{k:Nat}{acc:Γ D}{s2 s3:Slot},(∀p∈ps,placeOk n p=true)->acc.length+ps.length*n<=1000 ->
  ∃t t3,eN (j4 2 3) pB (bZ k ps) [.val x,.own acc,s2,s3]=↑(.nx [.val x,.own<|acc++(nX k ps).map ae,t,t3])
 |[],k,acc,s2,s3,_,_=>{s2,s3,by simp[bZ,eN,nX]}
 |p::ps,k,acc,s2,s3,h,l=>by
  have P:=h p zE;let(_,_,_,_,_,_,_,_,X,r):=ji P;have b:=rZ n X r;rw[zL,Nat.succ_mul]at l;let(t,t3,e):=uL H (x:=x) (ps:=ps) (k:=k+1) (acc:=acc++((kr p).map λj=>ae [((k:Nat):Int),j])) (s2:=.val<|.int (k:Nat)) (s3:=.val p) (λq Q=>h q<|zC _ Q) (by rw[zN,zD];lia);refine{t,t3,?_};have s:j4 2 3 [.val x,.own acc,s2,s3] (.tuple [.int (k:Nat),p])=↑[.val x,.own acc,.val<|.int (k:Nat),.val p]:=rfl;simp?[bZ,eN,s,zA,NV P H (show acc.length<=1000 by lia)];rw[e];simp[nX,zM,Function.comp_def]
def Cm{n:Nat}{ps:Γ D}(h:∀p∈ps,placeOk n p=true)(N:n<=100)(l:ps.length*n<=1000):bJ [.tuple ps]=↑(.list<|(nX 0 ps).map ae):=by
 let(t,t3,e):=uL N (acc:=[]) h (by simpa using l);have s:bb 1 [] (j6 af) [.val<|.tuple ps,.UQ,.UQ,.UQ]=↑(.nx [.val _,.own [],.UQ,.UQ]):=rfl;have H:hand [0] 0 [.val<|.tuple ps,.own [],.UQ,.UQ]=[.val _,.own [],.UQ,.UQ]:=rfl;have f:cD (aa (ab 0) af) (bh [.val<|.tuple ps,.own [],.UQ,.UQ])=↑_:=rfl;simp! [bJ,l6,s,gK,H,f];rw[show Er 1 _ _=pB from rfl,e];rfl
def gx(d:D):Γ Int:=[lO<|(cM d).getD 0 .none,lO<|(cM d).getD 1 .none]
def Bu(h:kb g t d=true):∃ds c,d=.tuple ds/\ds.length=3/\ds.getD 0 .none=.int (lO<|ds.getD 0 .none)/\ds.getD 1 .none=.int (lO<|ds.getD 1 .none)/\ds.getD 2 .none=.int c/\1<=c/\c<=9 /\
  0<=lO (ds.getD 0 .none)/\lO (ds.getD 0 .none)<=g-1/\0<=lO (ds.getD 1 .none)/\lO (ds.getD 1 .none)<=t-1:=by
 cases d<;>simp?[kb]at h<;>try cases h
 rename_i ds;simp?[zF,zJ]at h;let(H,e,f,i):=h;have a:=gg e;have b:=gg f;have c:=gg i;exact{ds,_,rfl,H,a.1,b.1,c.1,c.2.1,c.2.2,a.2.1,a.2.2,b.2.1,b.2.2}
def AY(g t w:D):θ:=decide ((cM w).map gx=mz (nX 0<|cM g))&&decide ((cM w).map gx=mz ((nX 0<|cM t).map List.reverse))
def RC(d:D):θ:=long 3 3 d&&(js ((cM d).getD 0 .none) ((cM d).getD 1 .none) ((cM d).getD 2 .none)&&AY ((cM d).getD 0 .none) ((cM d).getD 1 .none) ((cM d).getD 2 .none))
def lK:∀{ps:Γ D}{k:Nat},∀r∈nX k ps,∃i j,r=[i,j]
 |[],k,r,h=>by cases h
 |p::ps,k,r,h=>by
  rcases List.mem_append.mp h with h|h
  .let(j,_,rfl):=List.mem_map.mp h;exact{_,_,rfl}
  .exact lK r h
def nC(h:∀r∈a,∃i j,r=[i,j])(l:a.length<64):dY [.list<|a.map ae]=↑((mz a).map ae):=by
 have:∀n∈a,n≠[]:=λn H=>by let(i,j,rfl):=h n H;exact List.cons_ne_nil _ _
 simp?[dY,oneOf,zA,l8 this,yM l]
def ud:∀{a:Γ (Γ Int)},(∀r∈a,∃i j,r=[i,j])->df (il 0 1) (λ_=>↑true) (bq<|aa (ab 1) zq0) [none,none] (a.map ae)=↑((a.map List.reverse).map ae)
 |[],_=>rfl
 |r::a,h=>by
  let(i,j,rfl):=h r zE;have e:il 0 1 [none,none] (ae [i,j])=↑_:=rfl;rw[zI,df,e,zA,zA,yM rfl,(ud λq H=>h q<|zC _ H)];rfl
def Fj{a:Γ (Γ Int)}(W:fi ρ=↑(a.map ae))(l:a.length<=4000)(h:∀r∈a,∃i j,r=[i,j]):av 2 [] fi (il 0 1) (λ_=>↑true) (bq<|aa (ab 1) zq0) ρ=↑((a.map List.reverse).map ae):=by
 simp?[av,W,zA,eK,List.replicate,xF,xO,yV];rw[ud h,zA,bF (by rw[zD,zD];lia)]
def Aw(h:js g t w=true):∃s ts W,g=.tuple s/\t=.tuple ts/\w=.tuple W/\1<=s.length/\s.length<=4/\1<=ts.length/\ts.length<=4/\(∀p∈s,placeOk ts.length p=true)/\(∀p∈ts,placeOk s.length p=true)/\∀x∈W,kb s.length ts.length x=true:=by
 simp?[js,oH,zF]at h;let(H,a,b,c,d,f):=h;cases w<;>try cases d
 rename_i W;have e:=kq H;have E:=kq a;generalize cM g=s at *;generalize cM t=ts at *;subst e E;simp[long,zF,zJ]at H a;exact{s,ts,W,rfl,rfl,rfl,by lia,by lia,by lia,by lia,List.all_eq_true.mp b,List.all_eq_true.mp c,List.all_eq_true.mp f}
def Br{b:Nat}(h:iV b k d)(B:b<=1000):dH [d]=↑(.bool<|RC d):=by
 unfold RC;cases e:long 3 3 d with
 |false=>simp! [dH,jo,eM h.nd,e,Bool.not_false,vX]
 |true =>
  obtain⟨s,rfl⟩:∃s,d=.tuple s:={_,kq e}
  let(j,rfl,O,F):=h.VB;rw[show long 3 3 (.tuple s)=decide (s.length=3)from uU 3 s,zJ]at e;have o:=F _<|getD_mem (i:=0) (by lia);have f1:=F _<|getD_mem (i:=1) (by lia);have f:=F _<|getD_mem (i:=2) (by lia);have I:=C8 (show 0<s.length by lia);have m:=zl (show 1<s.length by lia);have n:=L9 (show 2<s.length by lia);have L:bQ [.tuple s,.int 3,.int 3]=↑(.bool true):=by rw[eM rfl,show long 3 3 (.tuple s)=decide (s.length=3)from uU 3 s,yB e]
  rw[show cM (.tuple s)=s from rfl,jJ];generalize N:s.getD 0 .none=g at *;generalize ht:s.getD 1 .none=t at *;generalize hw:s.getD 2 .none=w at *;cases E:js g t w with
  |false=>simp! [dH,jo,L,I,m,n,pP o f1 f B,E,Bool.not_false,xY,vX]
  |true =>
   let(G,T,W,rfl,rfl,rfl,M,p,Z,t4,u,A,C):=Aw E;have l:=f.VB;let(P,_,D,_):=l;have U:=vn (k:=0) u;have q2:=vn (k:=0) A;have m1:G.length*T.length<=16:=vV p t4;have m2:T.length*G.length<=16:=vV t4 p;have J:=nC (a:=(nX 0 T).map List.reverse) (λr R=>by
    let(q,Q,rfl):=List.mem_map.mp R;let(i,j,rfl):=lK q Q;simp)<|by grind
   have c1:av 1 [] (bu<|f2 aH (ab 0)<|fC<|.int 2) (fG 0) (λ_=>↑true) (bq<|aa (f2 aH (ab 0)<|fC<|.int 0)<|aa (f2 aH (ab 0)<|fC<|.int 1) af) [↑(.tuple s),none,none,none]=↑((W.map gx).map ae):=by
    rw[cf (ds:=W) (h:=λx=>ae<|gx x) (by simp! [n]) (by lia) λx X=>?_,zM]
    .rfl
    .let(v,c,rfl,v3,v0,v1,_):=Bu<|C x X;simp! [C8 (show 0<v.length by lia),zl (show 1<v.length by lia),bF (show[v.getD 0 PyData.none,v.getD 1 .none].length<=4000 by simp),ae,gx,cM]
     grind
   have c2:∀x y z,av 2 [] (bu<|ah 1 bJ<|aa (f2 aH (ab 0)<|fC<|.int 1) af) (il 0 1) (λ_=>↑true) (bq<|aa (ab 1)<|aa (ab 0) af) [↑(.tuple s),x,y,z]=↑(((nX 0 T).map List.reverse).map ae):=λx y z =>
    Fj (by simp! [m,(Cm A (by lia)<|by lia)]) (by lia) lK
   have S:bb 1 [0] (av 1 [] (bu<|f2 aH (ab 0)<|fC<|.int 2) (fG 0) (λ_=>↑true)<|bq<|aa (f2 aH (ab 0)<|fC<|.int 0)<|aa (f2 aH (ab 0)<|fC<|.int 1) af) [Slot.val<|.tuple s,.UQ,.UQ,.UQ]=↑(.nx [.val<|.tuple s,.own<|(W.map gx).map ae,.UQ,.UQ]):=by
    have H:hand [0] 0 [Slot.val<|.tuple s,.UQ,.UQ,.UQ]=[Slot.val<|.tuple s,.UQ,.UQ,.UQ]:=rfl;simp?[bb,H,bh,zI,yV,Slot.Vt,c1,zB,yX,yW]
   have K:bb 2 [0] (si dY<|aa (ah 1 bJ<|aa (f2 aH (ab 0)<|fC<|.int 0) af) af) [Slot.val<|.tuple s,.own<|(W.map gx).map ae,.UQ,.UQ]=↑(.nx [.val<|.tuple s,.own<|(W.map gx).map ae,.own<|(mz<|nX 0 G).map ae,.UQ]):=by
    have H:hand [0] 0 [Slot.val<|.tuple s,.own<|(W.map gx).map ae,.UQ,.UQ]=[Slot.val<|.tuple s,.own<|(W.map gx).map ae,.UQ,.UQ]:=rfl;simp?[bb,H,bh,zI,yV,Slot.Vt];simp! [I,(Cm u (by lia)<|by lia),(nC (a:=nX 0 G) lK<|by lia),yX,yW]
   have Y:bb 3 [0] (si dY<|aa (dS<|av 2 [] (bu<|ah 1 bJ<|aa (f2 aH (ab 0)<|fC<|.int 1) af) (il 0 1) (λ_=>↑true)<|bq<|aa (ab 1)<|aa (ab 0) af) af) [.val<|.tuple s,.own<|(W.map gx).map ae,.own<|(mz<|nX 0 G).map ae,.UQ]
      =↑(.nx [.val<|.tuple s,.own<|(W.map gx).map ae,.own<|(mz<|nX 0 G).map ae,.own<|(mz<|(nX 0 T).map List.reverse).map ae]):=by
    have H:hand [0] 0 [.val<|.tuple s,.own<|(W.map gx).map ae,.own<|(mz<|nX 0 G).map ae,.UQ]=[.val _,.own _,.own _,.UQ]:=rfl;simp?[bb,H,bh,zI,yV,Slot.Vt];simp! [c2,J,yX,yW]
   simp! [dH,jo,L,I,m,n,pP o f1 f B,E,xY,yP,S,K,Y,EX,AY,cM,jJ];by_cases Q:.map gx W=mz (nX 0 G)<;>simp[Q]
def B6(xs:Γ D):PyData.eqvAll xs []=xs.isEmpty:=by cases xs<;>simp[PyData.eqvAll]
def BV:SeqAt.shaped (.list [])=true:=by rfl
def HJ(h:∀x∈xs,iV b k x)(hk:k<=60):bS (.list xs) (.list [])=↑(.bool xs.isEmpty):=by
 simp[bS,Pi,((iV.lst (Nat.le_max_right _ _) λx H=>(h x H).mono (Nat.le_max_left _ _)<|yN _).shaped<|by lia),BV,jN,xH,PyData.eqv,B6,zB]
def E4:small []=↑[]:=rfl
def FM(xs:Γ α)(k:Nat):cut xs none (↑k)=xs.take k:=by
 simp?[cut,HT.zi,HT.C3,List.drop_zero,Nat.sub_zero];simp
def Aq(xs:Γ α)(k:Nat):cut xs (↑k) none=xs.drop k:=by
 simp[cut,HT.zi,HT.C3];rw[kJ<|by simp];simp
def lL(b:θ):gB (.bool b)=↑b:=rfl
def Iy(a b:D):small [a,b]=↑[a,b]:=rfl
def HG:∀ρ k,hand [] k ρ=ρ
 |[],k=>rfl
 |s::r,k=>by simp[hand,HG r]
def qx:∀{ps:Γ D}{k:Nat}{i j:Int},[i,j]∈nX k ps↔∃m p,ps[m]?=↑p/\i=((k+m:Nat):Int)/\j∈kr p
 |[],k,i,j=>by simp[nX]
 |p::ps,k,i,j=>by
  rw[nX,List.mem_append,qx (ps:=ps)];constructor
  .rintro (h|⟨m,q,H,a,b⟩)
   .let(y,Y,e):=List.mem_map.mp h;injection e with c E
    injection E with E _
    exact{0,p,rfl,by simpa using c.symm,E▸Y}
   .exact{m+1,q,by simpa using H,by rw[a];congr 1;lia,b}
  .rintro⟨m,q,H,a,b⟩;cases m with
   |zero =>
    simp at H;subst H;exact .inl (List.mem_map.mpr {j,b,by rw[a];rfl})
   |succ m=>exact .inr {m,q,by simpa using H,by rw[a];congr 1;lia,b}
def tY:∀{ps:Γ D}{k:Nat},(∀p∈ps,(kr p).Nodup)->(nX k ps).Nodup
 |[],k,_=>List.nodup_nil
 |p::ps,k,h=>by
  rw[nX,wR];refine{List.pairwise_map.mpr<|(h p zE).imp λU e=>U ?_,tY λq Q=>h q<|zC _ Q,?_};rotate_left
  .injection e with _ E
   injection E
  .rintro a H b B rfl;let(y,Y,rfl):=List.mem_map.mp H;let(m,q,c,d,f):=qx.mp B;lia
def Qq(h:Dl.lexLt a b=true):lexLe a b=true:=by
 unfold lexLe;cases e:Dl.lexLt b a with
 |false=>rfl
 |true=>have:=dP h e;rw[dI]at this;grind
def fA(h:wg i j):Dl.hV (.int i) (.int j)=↑(.int<|i*j):=by
 simp[Dl.hV,xy,yM h,Option.some_or]
def iB(h:0<j):Dl.nM (.int i) (.int j)=↑(.int<|i%j):=yM h
def kg(h:0<j/\j<1073741824):Dl.p6 (.int i) (.int j)=↑(.int<|i/j):=yM h
def ju(i j:Int):Dl.FE (.int i) (.int j)=↑(.bool<|decide (j<i)):=rfl
def nR(i j:Int):Dl.JZ (.int i) (.int j)=↑(.bool<|decide (i<j)):=rfl
def oG(h:-(2^64)<i/\i<2^64):wg i j:=.inl h
def NL(h:-(2^64)<j/\j<2^64):wg i j:=.inr h
def Ar(i:Int):Dl.nP (.int i)=true:=rfl
def Az(i:Γ D):Dl.nP (.tuple i)=false:=rfl
def gJ(ns:Γ Int):D:=.list<|ns.map PyData.int
def OB(k:Int)(l:ns.length<=63):∃c,gL [gJ ns,.int k]=↑(.int c):=by
 have q:bS (.list<|ns.map .int) (.list [])=↑(.bool ns.isEmpty):=by
  have:=HJ (b:=0) (k:=0) (xs:=ns.map .int) (λx H=>by let(i,_,rfl):=List.mem_map.mp H;exact ni i) (by decide);simp_all
 by_cases n:ns=[]
 .subst n;refine{7*k,?_};rfl
 .have W:(0:Int)<ns.length:=by have:=List.length_pos_iff.mpr n;lia
  have e:ns.isEmpty=false:=by grind
  let(j,J):=vG<|vS k (show(ns.length:Int)≠0 by lia);have v:=kX k W;have H:tW (ns.map PyData.int) (k%ns.length)=↑(.int<|ns.getD j 0):=by
   rw[J];have:j<(ns.map PyData.int).length:=by grind
   rw[m9 this,zG,zO,zG,zK<|by lia];rfl
  refine{ns.getD j 0+6553*(k/ns.length),?_};simp! [gL,pJ,gJ,E4,q,e,yP,zD,iB W,H,kg {W,by lia},fA<|oG (i:=6553)<|by decide]
def JN(k many:Int)(l:ns.length<=63)(m:0<many):∃r,aj [gJ ns,.int k,.int many]=↑(.int r)/\0<=r/\r<many:=by
 let(c,hc):=OB k l;have m1:∀i ,Dl.nM (.int i) (.int 2147483563)=↑_:=λi=>iB (by lia);have b:∀x ,Dl.hV (.int<|x%2147483563) (.int<|x%2147483563)=↑_:=λx=>fA (oG (by
  lia))
 have B:∀x ,Dl.hV (.int<|x%2147483399) (.int<|x%2147483399)=↑_:=λx=>fA (oG (by
  lia))
 suffices h:∃x,aj _=↑_ by
  let(x,H):=h;exact{_,H,vS x<|by lia,kX x m}
 .refine{(((((c%2147483563*69069+104723*(k+1))%2147483563)*((c%2147483563*69069+104723*(k+1))%2147483563)+((c%2147483563*69069+104723*(k+1))%2147483563)/3)%2147483399)*((((c%2147483563*69069+104723*(k+1))%2147483563)*((c%2147483563*69069+104723*(k+1))%2147483563)+((c%2147483563*69069+104723*(k+1))%2147483563)/3)%2147483399)+((((c%2147483563*69069+104723*(k+1))%2147483563)*((c%2147483563*69069+104723*(k+1))%2147483563)+((c%2147483563*69069+104723*(k+1))%2147483563)/3)%2147483399)/7)%2147483647/11,?_};simp! [aj,mX,hc,m1,(λi=>fA (NL<|by lia):∀i ,Dl.hV (.int i) (.int 69069)=↑_),(λi=>fA (oG<|by decide):∀i ,Dl.hV (.int 104723) (.int i)=↑_),Dl.aO,Ar,yX,yW,b,(λi=>kg (by lia):∀i ,Dl.p6 (.int i) (.int 3)=↑_),(λi=>iB (by lia):∀i ,Dl.nM (.int i) (.int 2147483399)=↑_),B,(λi=>kg (by lia):∀i ,Dl.p6 (.int i) (.int 7)=↑_),(λi=>iB (by lia):∀i ,Dl.nM (.int i) (.int 2147483647)=↑_),(λi=>kg (by lia):∀i ,Dl.p6 (.int i) (.int 11)=↑_),iB m]
def dr(ns:Γ Int)(k many:Int):Int:=lO<|(aj [gJ ns,.int k,.int many]).getD .none
def cJ(k many:Int)(l:ns.length<=63)(m:0<many):aj [gJ ns,.int k,.int many]=↑(.int<|dr ns k many)/\0<=dr ns k many/\dr ns k many<many:=by
 let(r,H,a):=JN k many l m;have:dr ns k many=r:=by simp[dr,H,qG,lO]
 rw[this];exact⟨H,a⟩
def nS(k many:Int)(l:ns.length<=63)(m:0<many):aj [gJ ns,.int k,.int many]=↑(.int<|dr ns k many):=(cJ k many l m).1
def QZ(k many:Int)(l:ns.length<=63)(m:0<many):0<=dr ns k many:=(cJ k many l m).2.1
def Q7(k many:Int)(l:ns.length<=63)(m:0<many):dr ns k many<many:=(cJ k many l m).2.2
def d6(r:Γ Int):D:=.list<|r.map PyData.int
def insI(ds:Γ Int)(k:Int)(d:Int):Γ Int:=let j:=if k<0 then(k+(ds.length:Int)).toNat else min k.toNat ds.length;ds.take j++d::ds.drop j
def EA(ds:Γ Int)(k d:Int):DP (ds.map PyData.int) k (.int d)=(insI ds k d).map PyData.int:=by
 simp[DP,insI,zD,qZ,zI,List.map_take,List.map_drop]
def insI_perm(ds:Γ Int)(k d:Int):(insI ds k d).Perm (d::ds):=by
 apply List.perm_middle.trans;simp
def oB:ak->Δ Out:=(FU 6 [8] (ah 3 aj<|aa (ab 0)<|aa (f2 aQ (f2 aQ (ab 1)<|f2 hV (fC<|.int 4)<|ab 4)<|ab 7)<|aa (f2 aQ (b8 bP<|aa (ab 6) af)<|fC<|.int 1) af)<|ab 8)
def NC{s3:Slot}(l:ns.length<=63)(o:order.length<=1000) :
  oB [.val<|gJ ns,.val<|.int a,s2,s3,.val<|.int k,s5,.own<|order.map PyData.int,.val<|.int j,.val<|.int x] =
   some (.nx [.val<|gJ ns,.val<|.int a,s2,s3,.val<|.int k,s5,.own<|(insI order (dr ns (a+4*k+j)<|order.length+1) x).map PyData.int,.val<|.int j,.val<|.int x]):=by
 have d:=cJ (a+4*k+j) (order.length+1) l (by lia);have r:FF (dr ns (a+4*k+j)<|order.length+1)=true:=by
  simp[FF,zF,zJ];lia
 have z:(order.map PyData.int).length<sizeLine:=by rw[zD];exact qY o<|by decide
 simp! [oB,FU,lX,Ar,qd,zD,(fA (oG<|by decide):Dl.hV (.int 4) _=↑_),d.1];rw[zD]at z;simp[r,z,jN,xH,zB,EA,yX,yW]
def F4{s3:Slot}(l:ns.length<=63):∀{row order:Γ Int}{j:Nat}{s7 s8:Slot},order.length+row.length<=1000 ->
  ∃ (o:Γ Int) (t T:Slot),eN (j4 7 8) oB (bZ j<|row.map PyData.int) [.val<|gJ ns,.val<|.int a,s2,s3,.val<|.int k,s5,.own<|order.map PyData.int,s7,s8] =
   some (.nx [.val<|gJ ns,.val<|.int a,s2,s3,.val<|.int k,s5,.own<|o.map PyData.int,t,T])/\o.Perm (row++order)
 |[],order,j,s7,s8,_=>{order,s7,s8,by rfl,by rfl}
 |x::row,order,j,s7,s8,h=>by
  rw[zL]at h;have H:=insI_perm order (dr ns (a+4*k+j)<|order.length+1) x;have n:=H.length_eq;rw[zL]at n;let(o,t,T,e,p):=F4 (s2:=s2) (s3:=s3) (s5:=s5) (a:=a) (k:=k) l (row:=row) (order:=insI order (dr ns (a+4*k+j)<|order.length+1) x) (j:=j+1) (s7:=.val<|.int j) (s8:=.val<|.int x) (by lia);refine{o,t,T,?_,p.trans ?_}
  .have s:j4 7 8 [.val<|gJ ns,.val<|.int a,s2,s3,.val<|.int k,s5,.own<|order.map .int,s7,s8] (.tuple [.int j,.int x])=↑_:=rfl;simp[zI,bZ,eN,s,zA,NC l (show order.length<=1000 by lia),e]
  .refine (H.append_left row).trans ?_;rw[xF];exact List.perm_middle
def sV:Γ (Γ Int)->Γ (Γ Int)->Prop|[],[]=>True|a::l,b::m=>a.Perm b/\sV l m|_,_=>False
def rB:ak->Δ Out:=(aG (bb 6 []<|j6 af)<|aG (gK [5] (cD<|aa (ab 5) af) (j4 7 8) oB)<|lN 3 [6]<|b8 cq<|aa (ab 6) af)
def Oy(l:ns.length<=63)(r:row.length<=1000)(f:found.length<=1000) :
  ∃ (o:Γ Int) (t T:Slot),rB [.val<|gJ ns,.val<|.int a,.val rows,.own found,.val<|.int k,.val<|d6 row,s6,s7,s8]=↑(.nx [.val<|gJ ns,.val<|.int a,.val rows,.own<|found++[ae o],.val<|.int k,.val<|d6 row,.val<|d6 o,t,T])/\o.Perm row:=by
 let(o,t,T,e,p):=F4 l (row:=row) (order:=[]) (by grind);rw[qF]at p;refine{o,t,T,?_,p};have H:bb 6 [] (j6 af) [.val<|gJ ns,.val<|.int a,.val rows,.own found,.val<|.int k,.val<|d6 row,s6,s7,s8]=↑(.nx [.val<|gJ ns,.val<|.int a,.val rows,.own found,.val<|.int k,.val<|d6 row,.own [],s7,s8]):=by
  rfl
 have b:gK [5] (cD<|aa (ab 5) af) _ oB [.val _,.val<|.int a,.val rows,.own found,.val<|.int k,.val<|d6 row,.own [],s7,s8]=↑(.nx [.val _,.val _,.val rows,.own found,.val _,.val _,.own _,t,T]):=e;have c:lN 3 [6] (b8 cq<|aa (ab 6) af) [.val<|gJ ns,.val<|.int a,.val rows,.own found,.val<|.int k,.val<|d6 row,.own<|o.map .int,t,T]=↑(.nx [.val<|gJ ns,.val<|.int a,.val rows,.own<|found++[ae o],.val<|.int k,.val<|d6 row,.val<|d6 o,t,T]):=by
  have d:hand [6] 0 [.val<|gJ ns,.val<|.int a,.val rows,.own found,.val<|.int k,.val<|d6 row,.own<|o.map .int,t,T]=[.val _,.val _,.val rows,.own found,.val _,.val _,.val _,t,T]:=rfl;simp[lN,lX,d,bh,zI,yV];simp! [Az,yP,qd,(qY f (by decide):found.length<sizeLine),yX,yW,d6,ae]
 simp[rB,aG,H,b,c,zA]
def Gg{rws:D}(l:ns.length<=63):∀{rows:Γ (Γ Int)}{found:Γ D}{k:Nat}{s4 s5 s6 s7 s8:Slot},(∀r∈rows,r.length<=1000)->found.length+rows.length<=1000 ->
  ∃ (os:Γ (Γ Int)) (t4 t T b c:Slot),eN (j4 4 5) rB (bZ k<|rows.map d6) [.val<|gJ ns,.val<|.int a,.val rws,.own found,s4,s5,s6,s7,s8]=↑(.nx [.val<|gJ ns,.val<|.int a,.val rws,.own<|found++os.map ae,t4,t,T,b,c])/\sV os rows
 |[],found,k,s4,s5,s6,s7,s8,_,_=>{[],s4,s5,s6,s7,s8,by simp[bZ,eN],trivial}
 |r::rows,found,k,s4,s5,s6,s7,s8,h,f=>by
  rw[zL]at f;let(o,u,U,E,P):=Oy (rows:=rws) (a:=a) (k:=k) (s6:=s6) (s7:=s7) (s8:=s8) l (h r zE) (show found.length<=1000 by lia);let(os,t4,t,T,b,c,e,p):=Gg l (rws:=rws) (a:=a) (found:=found++[ae o]) (k:=k+1) (s4:=.val<|.int k) (s5:=.val<|d6 r) (s6:=.val<|d6 o) (s7:=u) (s8:=U) (λR X=>h R<|zC _ X) (by rw[zN,xD];lia);refine{o::os,t4,t,T,b,c,?_,P,p};have s:j4 4 5 [.val<|gJ ns,.val<|.int a,.val rws,.own found,s4,s5,s6,s7,s8] (.tuple [.int k,d6 r])=↑_:=rfl;simp[zI,bZ,eN,s,zA,E];rw[e,List.append_assoc];rfl
def Ao(l:ns.length<=63)(R:∀r∈rows,r.length<=1000)(n:rows.length<=1000):∃os ,bU [gJ ns,.int a,.list<|rows.map d6]=↑(.list<|os.map ae)/\sV os rows:=by
 let(os,t4,t,T,d,f,e,p):=Gg l (found:=[]) R (by grind);refine{os,?_,p};rw[xO]at e;have b:bb 3 [] (j6 af) [.val<|gJ ns,.val<|.int a,.val<|.list<|rows.map d6,.UQ,.UQ,.UQ,.UQ,.UQ,.UQ]=↑(.nx [.val<|gJ ns,.val<|.int a,.val<|.list<|rows.map d6,.own [],.UQ,.UQ,.UQ,.UQ,.UQ]):=by
  rfl
 have H:gK [2] (cD<|aa (ab 2) af) (j4 4 5) rB [.val<|gJ ns,.val<|.int a,.val<|.list<|rows.map d6,.own [],.UQ,.UQ,.UQ,.UQ,.UQ]=↑(.nx [.val<|gJ ns,.val<|.int a,.val<|.list<|rows.map d6,.own<|os.map ae,t4,t,T,d,f]):=by
  have c:hand [2] 0 [.val<|gJ ns,.val<|.int a,.val<|.list<|rows.map d6,.own [],.UQ,.UQ,.UQ,.UQ,.UQ]=[.val _,.val _,.val _,.own [],.UQ,.UQ,.UQ,.UQ,.UQ]:=rfl;have q:cD (aa (ab 2) af) (bh [.val<|gJ ns,.val<|.int a,.val<|.list<|rows.map d6,.own [],.UQ,.UQ,.UQ,.UQ,.UQ])=↑(bZ 0<|rows.map d6):=by
   rfl
  simp[gK,c,q,zA];omega
 unfold rB oB at H;simp! [bU,l5,b,H]
abbrev Pl:=Int×Γ Int
abbrev Wy:=Int×Int×Int
def aY(p:Pl):D:=.tuple [.int p.1,ae p.2]
def aD(w:Wy):D:=.tuple [.int w.1,.int w.2.1,.int w.2.2]
def aw(G T:Γ Pl)(W:Γ Wy):D:=.tuple [.tuple<|G.map aY,.tuple<|T.map aY,.tuple<|W.map aD]
def CY(W:Γ Wy)(i:Int):Γ Int:=(W.filter λw=>decide (w.1=i)).map λw=>w.2.1
def ofT(W:Γ Wy)(j:Int):Γ Int:=(W.filter λw=>decide (w.2.1=j)).map λw=>w.1
abbrev Cp(W:Γ Wy):Prop:=W.Pairwise λa b=>a.1<b.1\/(a.1=b.1/\a.2.1<b.2.1)
structure Wd(G T:List Pl)(W:List Wy):Prop where
 g1:1<=G.length
 g4:G.length<=4
 t1:1<=T.length
 t4:T.length<=4
 ga:∀p∈G,0<=p.1/\p.1<=9
 ta:∀p∈T,0<=p.1/\p.1<=9
 gl:∀(i:Nat)(p:Pl),G[i]?=↑p->p.2.Perm (CY W i)
 tl:∀(j:Nat)(p:Pl),T[j]?=↑p->p.2.Perm (ofT W j)
 wr:∀w∈W,(0<=w.1/\w.1<G.length)/\(0<=w.2.1/\w.2.1<T.length)/\1<=w.2.2/\w.2.2<=9
 wp:Cp W
 wl:W.length<=16
def vp:j∈CY W i↔[i,j]∈W.map λw=>[w.1,w.2.1]:=by
 simp?[CY,zQ,List.mem_filter,zJ,kU,and_true];simp
def wb:i∈ofT W j↔[i,j]∈W.map λw=>[w.1,w.2.1]:=by
 simp?[ofT,zQ,List.mem_filter,zJ,kU,and_true];simp
def n9(h:Cp W)(i:Int):(CY W i).Nodup:=by
 rw[CY,List.Nodup,jD,List.pairwise_filter];refine h.imp λX a b=>?_
 grind
def o8(h:Cp W)(i:Int):(ofT W i).Nodup:=by
 rw[ofT,List.Nodup,jD,List.pairwise_filter];refine h.imp λX a b=>?_
 grind
def gc(p:Pl):kr (aY p)=p.2:=by
 show((p.2.map .int).map lO)=p.2;rw[zM];apply List.map_id
def pG(a:0<=p.1/\p.1<=9)(N:p.2.Nodup)(r:∀j∈p.2,0<=j/\j<n):placeOk n (aY p)=true:=by
 have e:(p.2.map _).map lO=p.2:=gc p;have E:(p.2.map .int).all (whole 0<|n-1)=true:=by
  rw[xG];intro x X;let(j,H,rfl):=List.mem_map.mp X;have:=r j H;simp[whole,zF,zJ];lia
 simp?[placeOk,aY,ae,zL,xK,vZ,wA,lh,whole,e,E,a.1,a.2,N,jO,Bool.and_self]
def Es(h:(0<=w.1/\w.1<g)/\(0<=w.2.1/\w.2.1<t)/\1<=w.2.2/\w.2.2<=9):kb g t (aD w)=true:=by
 let((a,b),(c,d),e,f):=h;simp?[kb,aD,zL,xK,vZ,wA,whole,a,(show w.1<=g-1 by lia),c,(show w.2.1<=t-1 by lia),e,f,jO,Bool.and_self]
def Tb(h:a<c\/(a=c/\b<d)):Dl.lexLt [a,b] [c,d]=true:=by
 show HT.lexLt _ _=true;rw[HT.cR];by_cases e:a=c
 .rw[yM e,HT.cR,yO<|by lia]
  grind
 grind
def Wd.aaB(h:Wd G T W)(P:p∈G):∃i ,i<G.length/\p.2.Perm (CY W i):=by
 let(i,H,e):=qP P;exact{i,H,h.gl i p<|by rw[zK H,e]}
def Wd.aaC(h:Wd G T W)(P:p∈T):∃i ,i<T.length/\p.2.Perm (ofT W i):=by
 let(i,H,e):=qP P;exact{i,H,h.tl i p<|by rw[zK H,e]}
def Wd.gok(h:Wd G T W):(G.map aY).all (placeOk T.length)=true:=by
 rw[xG];intro x X;let(p,H,rfl):=List.mem_map.mp X;let(i,I,q):=h.aaB H;refine pG (h.ga p H) (q.nodup_iff.mpr<|n9 h.wp _) λj J=>?_;let(w,hw,e):=List.mem_map.mp<|vp.mp<|q.mem_iff.mp J;injection e with a E
 injection E with E _
 have:=(h.wr w hw).2.1;rw[E]at this;lia
def Wd.tok(h:Wd G T W):(T.map aY).all (placeOk G.length)=true:=by
 rw[xG];intro x X;let(p,H,rfl):=List.mem_map.mp X;let(i,I,q):=h.aaC H;refine pG (h.ta p H) (q.nodup_iff.mpr<|o8 h.wp _) λj J=>?_;let(w,hw,e):=List.mem_map.mp<|wb.mp<|q.mem_iff.mp J;injection e with E a
 have:=(h.wr w hw).1;rw[E]at this;lia
def rH{W:Γ Wy}{p:Wy->θ}(h:W.length<=16):(W.filter p).length<=16:=yE (xP _ _) h
def Cu(h:p.2.length<=16):iV 16 2 (aY p):=.tup (by simp) λx H=>by
 rcases List.mem_cons.mp H with rfl|H
 .apply ni
 .rw[yK]at H;subst H;exact Cz h
def KF(w:Wy):iV 16 1 (aD w):=.tup (by simp) λx H=>by
 simp  at H;rcases H with rfl|rfl|rfl<;>apply ni
def Wd.fit(h:Wd G T W):iV 16 4 (aw G T W):=by
 refine .tup (by simp?[zL,xK];lia) λx H=>?_;simp?[zR,yG,xU]at H;have a:=h.g4;have b:=h.t4;have c:=h.wl;rcases H with rfl|rfl|rfl
 .refine .tup (by rw[zD];lia) λx H=>?_;let(p,P,rfl):=List.mem_map.mp H;let(i,I,q):=h.aaB P;exact Cu (by rw[q.length_eq,CY,zD];exact rH h.wl)
 .refine .tup (by rw[zD];lia) λx H=>?_;let(p,P,rfl):=List.mem_map.mp H;let(i,I,q):=h.aaC P;exact Cu (by rw[q.length_eq,ofT,zD];exact rH h.wl)
 .refine .tup (by rw[zD];lia) λx H=>?_;let(p,P,rfl):=List.mem_map.mp H;exact(KF p).mono (yN _) (by decide)
def Ep(a:0<=c)(b:c<=9):Wd [(c,[0,1]),(c,[1,0])] [(c,[1,0]),(c,[0,1])] [(0,0,2),(0,1,2),(1,0,2),(1,1,2)] where
 g1:=by simp
 g4:=by simp
 t1:=by simp
 t4:=by simp
 ga:=by intro p H;simp  at H;rcases H with rfl|rfl<;>exact⟨a,b⟩
 ta:=by intro p H;simp  at H;rcases H with rfl|rfl<;>exact⟨a,b⟩
 gl:=by
  intro i p H
  match i,H with
  |0,H=>injection H with H;subst H;rfl
  |1,H=>injection H with H;subst H;exact(show List.Perm [1,0] _ by decide)
 tl:=by
  intro i p H
  match i,H with
  |0,H=>injection H with H;subst H;exact(show List.Perm [1,0] _ by decide)
  |1,H=>injection H with H;subst H;rfl
 wr:=by simp
 wp:=by decide
 wl:=by simp
def ku(f:Nat->Int):Nat->Γ (Γ Int)->Γ Pl|_,[]=>[]|k,r::rs=>(f k,r)::ku f (k+1) rs
def iD(f:Nat->Int):∀rs k,(ku f k rs).length=rs.length
 |[],k=>rfl
 |r::rs,k=>by rw[ku,zL,zL,iD f rs]
def ir(f:Nat->Int):∀{rs:Γ (Γ Int)}{k i:Nat}{p:Pl},(ku f k rs)[i]?=↑p->∃r,rs[i]?=↑r/\p=(f<|k+i,r)
 |[],k,i,p,h=>by simp[ku]at h
 |r::rs,k,0,p,h=>by simp[ku]at h;exact{r,rfl,h.symm}
 |r::rs,k,i+1,p,h=>by
  simp?[ku,yZ]at h;let(y,H,a):=ir f h;exact{y,by simpa using H,by rw[a];congr 2;lia}
def eP:∀{a b:Γ _},sV a b->a.length=b.length
 |[],[],_=>rfl
 |x::a,y::b,h=>by rw[zL,zL,eP h.2]
 |[],_::_,h=>h.elim
 |_::_,[],h=>h.elim
def oA:∀{a b:Γ (Γ Int)}{i:Nat}{r:Γ Int},sV a b->a[i]?=↑r->∃s,b[i]?=↑s/\r.Perm s
 |[],[],i,r,_,h=>by simp at h
 |x::a,y::b,0,r,h,e=>by
  simp?[xQ,yL]at e;subst e;exact{y,rfl,h.1}
 |x::a,y::b,i+1,r,h,e=>by
  simp?[yZ]at e;let(s,H,c):=oA h.2 e;exact{s,by simpa using H,c}
 |[],_::_,i,r,h,_=>h.elim
 |_::_,[],i,r,h,_=>h.elim
def lR(W:Γ Wy)(m:Nat):Γ (Γ Int):=(List.range m).map λi=>CY W ((i:Nat):Int)
def jw(W:Γ Wy)(m:Nat):Γ (Γ Int):=(List.range m).map λi=>ofT W ((i:Nat):Int)
def Kc(m1:1<=m)(m4:m<=4)(S:1<=s)(s4:s<=4)(F:∀k,0<=f k/\f k<=9)(G:∀k,0<=g k/\g k<=9)
  (M:sV Vk (lR W m))(y:sV U (jw W s))(wr:∀w∈W,(0<=w.1/\w.1<m)/\(0<=w.2.1/\w.2.1<s)/\1<=w.2.2/\w.2.2<=9)(d:Cp W)(wl:W.length<=16):Wd (ku f 0 Vk) (ku g 0 U) W:=by
 have l:(ku f 0 Vk).length=m:=by rw[iD,eP M,lR,zD,zS]
 have L:(ku g 0 U).length=s:=by rw[iD,eP y,jw,zD,zS]
 have A:∀{h:Nat->Int}{rs:Γ (Γ Int)},(∀k,0<=h k/\h k<=9)->∀p∈ku h 0 rs,0<=p.1/\p.1<=9:=λ{h rs}c p P=>by
  let(i,I):=List.mem_iff_getElem?.mp P;let(r,_,rfl):=ir h I;exact c _
 refine{by lia,by lia,by lia,by lia,A F,A G,λi p P=>?_,λi p P=>?_,by rw[l,L];exact wr,d,wl}
 .let(r,a,rfl):=ir f P;let(t,H,b):=oA M a;rw[lR,zO]at H;let(k,hk,rfl):=Option.map_eq_some_iff.mp H;have:k=i:=by
   rw[zU]at hk;let(h,e):=hk;rw[List.getElem_range]at e;exact e.symm
  subst this;exact b
 .let(r,a,rfl):=ir g P;let(t,H,b):=oA y a;rw[jw,zO]at H;let(k,hk,rfl):=Option.map_eq_some_iff.mp H;have:k=i:=by
   rw[zU]at hk;let(h,e):=hk;rw[List.getElem_range]at e;exact e.symm
  subst this;exact b
def cG{i:Nat}{fz:Γ Nat}{f:Dl.Env->Δ D}{ρ ρ':ak}{d:D}(H:f (aS ρ)=↑d)(hs:Dl.nP d=false)(a:hand fz 0 ρ=ρ')(v:bh ρ'=aS ρ)(r:lT d=false\/ρ'=ρ:=by first|exact .inr rfl|exact .inl rfl):Dl.aO i fz f ρ=↑(.nx<|ρ'.set i<|.val d):=by
 rcases r with r|r
 .simp[Dl.aO,H,zA,hs,yP,qN,a,v,zB,r]
 .subst r;simp[Dl.aO,H,zA,hs,yP,qN,a,v,zB,ite_self]
def dN{i:Nat}{fz:Γ Nat}{f:Dl.Env->Δ D}{ρ:ak}{d:D}(H:f (aS ρ)=↑d)(hs:Dl.nP d=true):Dl.aO i fz f ρ=↑(.nx<|ρ.set i<|.val d):=by
 simp[Dl.aO,H,zA,hs,xH]
def Tw(w:Wy):aH (aD w) (.int 0)=↑(.int w.1):=rfl
def To(w:Wy):aH (aD w) (.int 1)=↑(.int w.2.1):=rfl
def HN(a b c:D):small [a,b,c]=↑[a,b,c]:=rfl
def QX{a b s:Int}(hs:s=1\/s=2\/s=3)(h:a<b):a/s<b/s\/(a/s=b/s/\a%s<b%s):=by grind
def Pc{k m s:Int}(hs:s=1\/s=2\/s=3)(M:m=1\/m=2\/m=3)(H:0<=k)(h:k<m*s):(0<=k/s/\k/s<m)/\0<=k%s/\k%s<s:=by
 grind
def lB:ak->Δ Out:=(lJ (sJ (fB<|f2 JZ (b8 bP<|aa (ab 7) af)<|ab 2)<|fB<|f2 FE (ah 3 aj<|aa (ab 0)<|aa (f2 aQ (f2 aQ (ab 1)<|fC<|.int 2)<|ab 8)<|aa (fC<|.int 4) af)<|fC<|.int 0) (lN 7 [0,1,6,8]<|bq<|aa (f2 p6 (ab 8)<|ab 6)<|aa (f2 nM (ab 8)<|ab 6)<|aa (f2 aQ (fC<|.int 1)<|ah 3 aj<|aa (ab 0)<|aa (f2 aQ (f2 aQ (ab 1)<|fC<|.int 12)<|ab 8)<|aa (fC<|.int 2) af) af) lY)
abbrev st(ns:Γ Int)(a mo m s:Int)(x4 x7 x8 x9 x10 x11:Slot):ak:=[.val<|gJ ns,.val<|.int a,.val<|.int mo,.UQ,x4,.val<|.int m,.val<|.int s,x7,x8,x9,x10,x11]
def MC(ns:Γ Int)(a mo s k:Int)(W:Γ Wy):Γ Wy:=if(W.length:Int)<mo/\0<dr ns (a+2+k) 4 then W++[(k/s,k%s,1+dr ns (a+12+k) 2)]else W
def M5{ns:Γ Int}{a mo m s k:Int}{W:Γ Wy}(l:ns.length<=63)(hs:s=1\/s=2\/s=3)(hw:W.length<=9) :
  lB (st ns a mo m s .UQ (.own<|W.map aD) (.val<|.int k) .UQ .UQ .UQ)=↑(.nx<|st ns a mo m s .UQ (.own<|(MC ns a mo s k W).map aD) (.val<|.int k) .UQ .UQ .UQ):=by
 have H:0<s:=by lia
 have e:=nS (a+2+k) 4 l (by decide);have b:hand [0,1,6,8] 0 (st ns a mo m s .UQ (.own<|W.map aD) (.val<|.int k) .UQ .UQ .UQ)=st ns a mo m s .UQ (.own<|W.map aD) (.val _) .UQ .UQ .UQ:=rfl;have A:lN 7 [0,1,6,8] (bq<|aa (f2 p6 (ab 8)<|ab 6)<|aa (f2 nM (ab 8)<|ab 6)<|aa (f2 aQ (fC<|.int 1)<|ah 3 aj<|aa (ab 0)<|aa (f2 aQ (f2 aQ (ab 1)<|fC<|.int 12)<|ab 8)<|aa (fC<|.int 2) af) af) (st ns a mo m s .UQ (.own<|W.map aD) (.val<|.int k) .UQ .UQ .UQ)=↑(.nx<|st ns a mo m s .UQ (.own<|(W++[(k/s,k%s,1+dr ns (a+12+k) 2)]).map aD) (.val<|.int k) .UQ .UQ .UQ):=by
  simp[lN,lX,b,bh,zI,yV];simp! [Az,yP,qd,(kg {H,by lia}),(iB H),(nS _ 2 l<|by decide),HN,zD,(qY hw (by decide):W.length<sizeLine),yX,yW,qZ];rfl
 by_cases c1:W.length<mo
 .by_cases c2:0<dr ns (a+2+k) 4
  .rw[show MC ns a mo s k W=W++[(k/s,k%s,1+dr ns _ 2)]from yM {c1,c2},<-A];simp! [lB,nR,ju,zD,c1,c2,jO,lL,e]
  .rw[show MC ns a mo s k W=W from yO λh=>c2 h.2];simp! [lB,nR,ju,zD,c1,c2,jO,wK,lL,e,yP]
 .rw[show MC ns a mo s k W=W from yO λh=>c1 h.1];simp! [lB,nR,ju,zD,c1,wK,lL,yP]
structure E5(mo s k:Int)(W:List Wy):Prop where
 mem:∀w∈W,∃j:Int,0<=j/\j<k/\w.1=j/s/\w.2.1=j%s/\1<=w.2.2/\w.2.2<=2
 ris:Cp W
 len:(W.length:Int)<=k
 lem:(W.length:Int)<=mo
def E5.next{ns:Γ Int}{a mo s k:Int}{W:Γ Wy}(l:ns.length<=63)(hs:s=1\/s=2\/s=3)(hk:0<=k)(h:E5 mo s k W):E5 mo s (k+1) (MC ns a mo s k W):=by
 have o:∀w∈W,∃j ,0<=j/\j<k+1/\w.1=j/s/\w.2.1=j%s/\1<=w.2.2/\w.2.2<=2:=λw hw=>by
  let(j,a,b,c):=h.mem w hw;exact{j,a,by lia,c}
 by_cases c:W.length<mo/\0<dr ns (a+2+k) 4
 .rw[show MC ns a mo s k W=W++[(k/s,k%s,1+dr ns _ 2)]from yM c];have g:=QZ (a+12+k) 2 l (by lia);have G:=Q7 (a+12+k) 2 l (by lia);refine{λw hw=>?_,?_,?_,?_}
  .rcases List.mem_append.mp hw with hw|hw
   .simp_all
   .rw[yK]at hw;subst hw;exact{k,hk,by lia,rfl,rfl,by grind,by grind}
  .refine List.pairwise_append.mpr {h.ris,List.pairwise_singleton _ _,λa A b H=>?_};rw[yK]at H;subst H;let(j,_,b,c1,c2,_):=h.mem a A;rw[c1,c2];exact QX hs b
  .have:=h.len;rw[zN,xD];lia
  .rw[zN,xD];lia
 .rw[show MC ns a mo s k W=W from yO c];exact{o,h.ris,by have:=h.len;lia,h.lem}
def Gm{ns:Γ Int}{a mo m s:Int}(l:ns.length<=63)(hs:s=1\/s=2\/s=3):∀(n k:Nat){W:Γ Wy}{x8:Slot},k+n<=9->E5 mo s k W ->
  ∃W' t,eN (wY 8) lB ((List.range' k n).map λi=>PyData.int (i:Nat)) (st ns a mo m s .UQ (.own<|W.map aD) x8 .UQ .UQ .UQ)=↑(.nx<|st ns a mo m s .UQ (.own<|W'.map aD) t .UQ .UQ .UQ)/\(n=0/\t=x8\/∃d,t=.val d)/\E5 mo s (k+n:Nat) W'
 |0,k,W,x8,hk,h=>{W,x8,rfl,.inl {rfl,rfl},h}
 |n+1,k,W,x8,hk,h=>by
  have H:E5 mo s (k+1:Nat) (MC ns a mo s k W):=by
   have:=h.next (a:=a) l hs<|by lia
   grind
  let(W',t,e,q,b):=Gm l hs n _ (x8:=.val _) (by lia) H;refine{W',t,?_,.inr<|q.elim (λz=>{_,z.2}) id,by grind};have g:∀d,wY 8 (st ns a mo m s .UQ (.own<|W.map aD) x8 .UQ .UQ .UQ) d=↑(st ns a mo m s _ _ _ _ _ _):=λd=>rfl;rw[vE,zI,eN,g,zA,M5 l hs (by have:=h.len;lia)];exact e
def T9(W:Γ Wy)(i:Int)(hw:W.length<=20):av 1 [0] YE (fG 0) (fB<|f2 bS Zv<|ab 1) Zw [↑(.int i),↑(.list<|W.map aD)]=↑((CY W i).map PyData.int):=by
 rw[mQ (p:=λd=>decide (lO ((cM d).getD 0 .none)=i)) (h:=λd=>(cM d).getD 1 .none) rfl (by grind) (λd H=>?_) λd H _=>?_]
 .rw[kF,zM,CY,zM];rfl
 .let(w,_,rfl):=List.mem_map.mp H;rfl
 .let(w,_,rfl):=List.mem_map.mp H;rfl
def UC(W:Γ Wy)(i:Int)(hw:W.length<=20):av 1 [0] YE (fG 0) (fB<|f2 bS Zw<|ab 1) Zv [↑(.int i),↑(.list<|W.map aD)]=↑((ofT W i).map PyData.int):=by
 rw[mQ (p:=λd=>decide (lO ((cM d).getD 1 .none)=i)) (h:=λd=>(cM d).getD 0 .none) rfl (by grind) (λd H=>?_) λd H _=>?_]
 .rw[kF,zM,ofT,zM];rfl
 .let(w,_,rfl):=List.mem_map.mp H;rfl
 .let(w,_,rfl):=List.mem_map.mp H;rfl
def Dy{m:Nat}(H:m<=1000):FF m=true:=by
 unfold FF
 grind
def yl{j:Int}(h:FF j=true):md [.int j]=↑((List.range j.toNat).map λi=>PyData.int (i:Nat)):=by
 rw[md,yM h]
def wV{fi:Dl.Env->Δ D}{ρ:Dl.Env}(m:Nat)(H:m<=1000)(h:fi ρ=↑(.int m)):cO (aa fi af) ρ=↑((List.range m).map λi=>PyData.int (i:Nat)):=by
 have e:cO _ ρ=(aa fi af ρ).bind md:=rfl;rw[e,(show aa fi af ρ=↑[.int m]by simp[aa,af,h,zA,zB]),zA,yl<|Dy H,yH]
def KY{W:Γ Wy}{m:Nat}{ρ:Dl.Env}(hw:W.length<=20)(M:m<=1000)(H:ab i5 ρ=↑(.int (m:Nat)))(a:(ρ[i7]?).getD none=↑(.list<|W.map aD)) :
  av 1 [i7] (cO<|aa (ab i5) af) (fG 0) (λ_=>↑true) (dS<|av 1 [0] YE (fG 0) (fB<|f2 bS Zv<|ab 1) Zw) ρ=↑((lR W m).map d6):=by
 rw[cf (h:=λd=>d6<|CY W<|lO d) (wV m M H) (by rw[zD,zS];lia) λd D=>?_]
 .rw[lR,zM,zM];rfl
 .let(i,_,rfl):=List.mem_map.mp D;simp?[zI,yV,a,dS,T9 W _ hw,zB,d6,lO]
def Lg{W:Γ Wy}{m:Nat}{ρ:Dl.Env}(hw:W.length<=20)(M:m<=1000)(H:ab i5 ρ=↑(.int (m:Nat)))(a:(ρ[i7]?).getD none=↑(.list<|W.map aD)) :
  av 1 [i7] (cO<|aa (ab i5) af) (fG 0) (λ_=>↑true) (dS<|av 1 [0] YE (fG 0) (fB<|f2 bS Zw<|ab 1) Zv) ρ=↑((jw W m).map d6):=by
 rw[cf (h:=λd=>d6<|ofT W<|lO d) (wV m M H) (by rw[zD,zS];lia) λd D=>?_]
 .rw[jw,zM,zM];rfl
 .let(i,_,rfl):=List.mem_map.mp D;simp?[zI,yV,a,dS,UC W _ hw,zB,d6,lO]
def MA(c:Int):Dl.Env->Δ D:=(bq<|aa (ah 3 aj<|aa (ab 2)<|aa (f2 aQ (f2 aQ (ab 3)<|fC<|.int c)<|ab 0)<|aa (fC<|.int 4) af)<|aa (ab 1) af)
def PB{ns:Γ Int}{a:Int}(c:Int)(l:ns.length<=63):∀(v:Γ (Γ Int))k,df (il 0 1) (λ_=>↑true) (MA c) [none,none,↑(gJ ns),↑(.int a)] (bZ k<|v.map ae)=↑((ku (λk=>dr ns (a+c+k) 4) k v).map aY)
 |[],k=>rfl
 |r::v,k=>by
  have g:il 0 1 [none,none,↑(gJ ns),↑(.int a)] (.tuple [.int k,ae r])=↑_:=rfl;have e:MA c [↑(.int k),↑(ae r),↑(gJ ns),↑(.int a)]=↑(aY (dr ns (a+c+k) 4,r)):=by
   simp! [MA,nS _ 4 l<|by lia,Iy,aY]
  rw[zI,bZ,df,g];simp[zA,xH,e,(PB (a:=a) c l v<|k+1),zB,ku,zI]
def ze{ns:Γ Int}{a c:Int}{i:Nat}{ρ:Dl.Env}{v:Γ (Γ Int)}(l:ns.length<=63)(m:v.length<=1000)(d:ab i ρ=↑(.list<|v.map ae))(H:(ρ[0]?).getD none=↑(gJ ns))(b:(ρ[1]?).getD none=↑(.int a)) :
  b8 cq (aa (dS<|av 2 [0,1] (cD<|aa (ab i) af) (il 0 1) (λ_=>↑true)<|MA c) af) ρ=↑(.tuple<|(ku (λk=>dr ns (a+c+k) 4) 0 v).map aY):=by
 have I:cD (aa (ab i) af) ρ=↑(bZ 0<|v.map ae):=by
  simp[cD,aa,af,d,zA,zB,fJ,oneOf,gO]
 have hc:av 2 [0,1] (cD<|aa (ab i) af) (il 0 1) (λ_=>↑true) (MA c) ρ=↑((ku (λk=>dr ns (a+c+k) 4) 0 v).map aY):=by
  simp[av,I,zA,eK,zI,yV,H,b,List.replicate,xF,xO,PB c l];exact bF (by rw[zD,iD];lia)
 simp[b8,aa,af,dS,hc,zB,zA,cq,fJ,oneOf,gO]
def ao{g1 g2:ak->Δ Out}{ρ ρ':ak}(h:g1 ρ=↑(.nx ρ')):aG g1 g2 ρ=g2 ρ':=by
 simp[aG,h,zA]
def aP{g:ak->Δ Out}{n:Nat}{args:Γ D}{d:D}(h:g (args.map Slot.val++List.replicate (n-args.length) .UQ)=↑(.rt d)):bo g n args=↑d:=by
 simp[bo,h,zB]
def j1{g:D->D->Δ D}{fa fb:Dl.Env->Δ D}{ρ:Dl.Env}{a b:D}(H:fa ρ=↑a)(B:fb ρ=↑b):f2 g fa fb ρ=g a b:=by
 simp[f2,H,B,zA]
def MW{ns:Γ Int}{a mo:Int}{m s:Nat}(m1:m<=3)(S:s<=3):f2 hV (ab 5) (ab 6) (bh<|st ns a mo m s .UQ (.own []) .UQ .UQ .UQ .UQ)=↑(.int (m*s:Nat)):=by
 rw[j1 rfl rfl,(fA (oG<|by lia):Dl.hV (.int m) (.int s)=↑_),Int.natCast_mul]
def OY{ns:Γ Int}{a mo:Int}{m s:Nat}(m1:m<=3)(b:s<=3)(S:m*s<=9){W:Γ Wy}{t:Slot}(e: eN (wY 8) lB ((List.range' 0<|m*s).map λi=>PyData.int (i:Nat)) (st ns a mo m s .UQ (.own<|[].map aD) .UQ .UQ .UQ .UQ)=↑(.nx<|st ns a mo m s .UQ (.own<|W.map aD) t .UQ .UQ .UQ)):gK [5,6] (cO<|aa (f2 hV (ab 5)<|ab 6) af) (wY 8) lB (st ns a mo m s .UQ (.own []) .UQ .UQ .UQ .UQ)=↑(.nx<|st ns a mo m s .UQ (.own<|W.map aD) t .UQ .UQ .UQ):=by
 have H:hand [5,6] 0 (st ns a mo m s _ _ _ _ _ _)=st ns a mo m s .UQ (.own []) .UQ .UQ .UQ .UQ:=rfl;have r:=wV (ρ:=bh<|st ns a mo m s _ _ _ _ _ _) _ (by lia)<|MW m1 b;rw[List.range_eq_range']at r;rw[yV]at e;simp[gK,H,r,zA];lia
structure Sk(mo:Int)(G T:List Pl)(W:List Wy):Prop where
 g3:G.length<=3
 t3:T.length<=3
 w2:∀w∈W,w.2.2<=2
 ga:∀p∈G,p.1<=3
 ta:∀p∈T,p.1<=3
 wm:(W.length:Int)<=mo
def w8{ns:Γ Int}{a mo:Int}(l:ns.length<=63)(o:3<mo)(c:dr ns (a+64) 4=0):∃G T W,dh [gJ ns,.int a,.int mo]=↑(aw G T W)/\Wd G T W/\Sk mo G T W:=by
 have e:=cJ (a+65) 2 l (by lia);refine{_,_,_,?_,Ep (c:=1+dr ns (a+65) 2) (by lia)<|by lia,by simp,by simp,by decide,λp H=>?_,λp H=>?_,by grind};rotate_left
 .simp  at H;rcases H with rfl|rfl<;>(simp only;lia)
 .simp  at H;rcases H with rfl|rfl<;>(simp only;lia)
 have s:Dl.aO 3 [0,1] (f2 aQ (fC<|.int 1)<|ah 3 aj<|aa (ab 0)<|aa (f2 aQ (ab 1)<|fC<|.int 65)<|aa (fC<|.int 2) af) [.val<|gJ ns,.val<|.int a,.val<|.int mo,.UQ,.UQ,.UQ,.UQ,.UQ,.UQ,.UQ,.UQ,.UQ]=↑(.nx [.val _,.val _,.val _,.val<|.int<|1+dr ns (a+65) 2,.UQ,.UQ,.UQ,.UQ,.UQ,.UQ,.UQ,.UQ]):=
  dN (by simp! [e.1]) rfl
 generalize 1+dr ns _ 2=x at *;simp! [dh,fW,ju,(nS (a+64) 4 l<|by lia),c,cF,jO,lL,yB o,s,(cG (by rfl) rfl rfl rfl),Iy,HN,λ_ _ _ _=>rfl];rfl
def xf{ns:Γ Int}{a mo:Int}(l:ns.length<=63)(u:0<=mo)(c:¬(3<mo/\dr ns (a+64) 4=0)):∃G T W,dh [gJ ns,.int a,.int mo]=↑(aw G T W)/\Wd G T W/\Sk mo G T W:=by
 have E:=nS (ns:=ns) (a+64) 4 l (by lia);have N:=cJ (ns:=ns) a 3 l (by lia);have O:=cJ (ns:=ns) (a+1) 3 l (by lia);let(m,X):=vG (show 0<=1+dr ns a 3 by lia);let(s,Z):=vG (show 0<=1+dr ns (a+1) 3 by lia);have m1:1<=m/\m<=3:=by lia
 have S:1<=s/\s<=3:=by lia
 have Y:(s:Int)=1\/(s:Int)=2\/(s:Int)=3:=by lia
 have C:(m:Int)=1\/(m:Int)=2\/(m:Int)=3:=by lia
 have t5:Dl.aO 5 [0,1] (f2 aQ (fC<|.int 1)<|ah 3 aj<|aa (ab 0)<|aa (ab 1)<|aa (fC<|.int 3) af) [.val<|gJ ns,.val<|.int a,.val<|.int mo,.UQ,.UQ,.UQ,.UQ,.UQ,.UQ,.UQ,.UQ,.UQ]=↑(.nx [.val<|gJ ns,.val<|.int a,.val<|.int mo,.UQ,.UQ,.val<|.int (m:Nat),.UQ,.UQ,.UQ,.UQ,.UQ,.UQ]):=
  dN (d:=.int (m:Nat)) (by simp! [N.1,X]) rfl
 have t6:Dl.aO 6 [0,1] (f2 aQ (fC<|.int 1)<|ah 3 aj<|aa (ab 0)<|aa (f2 aQ (ab 1)<|fC<|.int 1)<|aa (fC<|.int 3) af) [.val<|gJ ns,.val<|.int a,.val<|.int mo,.UQ,.UQ,.val<|.int (m:Nat),.UQ,.UQ,.UQ,.UQ,.UQ,.UQ]=↑(.nx<|st ns a mo m s .UQ .UQ .UQ .UQ .UQ .UQ):=
  dN (d:=.int (s:Nat)) (by simp! [O.1,Z]) rfl
 have t7:bb 7 [] (j6 af) (st ns a mo m s .UQ .UQ .UQ .UQ .UQ .UQ)=↑(.nx<|st ns a mo m s .UQ (.own []) .UQ .UQ .UQ .UQ):=by
  rfl
 have x:m*s<=9:=vV m1.2 S.2;have K:1<=m*s:=vV m1.1 S.1;let(W,t8,e,Q,I):=Gm (ns:=ns) (a:=a) (m:=m) (s:=s) l Y (m*s) 0 (W:=[]) (x8:=.UQ) (by lia) (mo:=mo) {λw hw=>(by grind),List.Pairwise.nil,by simp,u};rw[jC]at I;obtain⟨D,rfl⟩:∃d,t8=.val d:=Q.elim (λz=>by lia) id;have J:W.length<=9:=by have:=I.len;lia
 have F:=OY m1.2 S.2 x e;unfold lB at F;have H:W.length<=20:=by lia
 have wr:∀w∈W,(0<=w.1/\w.1<m)/\(0<=w.2.1/\w.2.1<s)/\1<=w.2.2/\w.2.2<=9:=λw hw=>by
  let(j,j0,jk,L,b,c1,c2):=I.mem w hw;have:=Pc Y C j0 (by rw[<-Int.natCast_mul];exact jk);rw[L,b];exact{this.1,this.2,c1,by lia}
 have A:∀r∈lR W m,r.length<=1000:=λr R=>by
  let(i,_,rfl):=List.mem_map.mp R;rw[CY,zD]
  grind
 have U:∀r∈jw W s,r.length<=1000:=λr R=>by
  let(i,_,rfl):=List.mem_map.mp R;rw[ofT,zD]
  grind
 let(v,om,M):=Ao (ns:=ns) (a:=a+24) (rows:=lR W m) l A (by rw[lR,zD,zS];lia);let(t,oy,y):=Ao (ns:=ns) (a:=a+40) (rows:=jw W s) l U (by rw[jw,zD,zS];lia);have lm:v.length<=1000:=by rw[eP M,lR,zD,zS];lia
 have ly:t.length<=1000:=by rw[eP y,jw,zD,zS];lia
 have t9:Dl.aO 9 [0,1,5,7] (ah 3 bU<|aa (ab 0)<|aa (f2 aQ (ab 1)<|fC<|.int 24)<|aa (dS<|av 1 [7] (cO<|aa (ab 5) af) (fG 0) (λ_=>↑true)<|dS<|av 1 [0] (bu<|ab 1) (fG 0) (fB<|f2 bS (f2 aH (ab 0)<|fC<|.int 0)<|ab 1)<|f2 aH (ab 0)<|fC<|.int 1) af) (st ns a mo m s .UQ (.own<|W.map aD) (.val D) .UQ .UQ .UQ)=↑(.nx<|st ns a mo m s .UQ (.val<|.list<|W.map aD) (.val D) (.val<|.list<|v.map ae) .UQ .UQ):=by
  refine(cG ?_ rfl rfl ?_).trans rfl
  .simp?[ah,aa,af,dS,(KY (ρ:=aS<|st ns a mo m s _ (.own _) _ _ _ _) (i5:=5) (i7:=7) H (by lia) rfl rfl),zB,zA];simp! [om]
  rfl
 have B:Dl.aO 10 [0,1,6,7] (ah 3 bU<|aa (ab 0)<|aa (f2 aQ (ab 1)<|fC<|.int 40)<|aa (dS<|av 1 [7] (cO<|aa (ab 6) af) (fG 0) (λ_=>↑true)<|dS<|av 1 [0] (bu<|ab 1) (fG 0) (fB<|f2 bS (f2 aH (ab 0)<|fC<|.int 1)<|ab 1)<|f2 aH (ab 0)<|fC<|.int 0) af) (st ns a mo m s .UQ (.val<|.list<|W.map aD) (.val D) (.val<|.list<|v.map ae) .UQ .UQ)=↑(.nx<|st ns a mo m s .UQ (.val<|.list<|W.map aD) (.val D) (.val<|.list<|v.map ae) (.val<|.list<|t.map ae) .UQ):=by
  refine(cG (ρ':=st ns a mo m s .UQ (.val<|.list<|W.map aD) (.val D) (.val<|.list<|v.map ae) .UQ .UQ) (d:=.list<|t.map ae) ?_ rfl ?_ ?_).trans rfl
  .simp?[ah,aa,af,dS,(Lg (ρ:=aS<|st ns a mo m s _ (.val _) _ _ _ _) (i5:=6) (i7:=7) H (by lia) rfl rfl),zB,zA];simp! [oy]
  .rfl
  .simp?[st,bh,aS,zI,yV];rfl
 have n:Dl.aO 11 [0,1,8,9] (b8 cq<|aa (dS<|av 2 [0,1] (cD<|aa (ab 9) af) (il 0 1) (λ_=>↑true)<|MA 56) af) (st ns a mo m s .UQ (.val<|.list<|W.map aD) (.val D) (.val<|.list<|v.map ae) (.val<|.list<|t.map ae) .UQ)=↑(.nx<|st ns a mo m s .UQ (.val<|.list<|W.map aD) (.val D) (.val<|.list<|v.map ae) (.val<|.list<|t.map ae)<|.val<|.tuple<|(ku (λk=>dr ns (a+56+k) 4) 0 v).map aY):=by
  refine(cG (ze l lm rfl rfl rfl) rfl rfl ?_).trans rfl;rfl
 have t4:∀G ,Dl.aO 4 [0,1,8,10] (b8 cq<|aa (dS<|av 2 _ (cD<|aa (ab 10) af) _ _<|MA 60) af) (st ns a mo m s .UQ (.val<|.list<|W.map aD) (.val D) (.val<|.list<|v.map ae) (.val _)<|.val G)=↑_:=λG=>by
  refine(cG (ze l ly rfl rfl rfl) rfl rfl ?_).trans rfl;rfl
 refine{_,_,W,?_,Kc (f:=λk=>dr ns (a+56+k) 4) (g:=λk=>dr ns (a+60+k) 4) m1.1 (by lia) S.1 (by lia) (λk=>?_) (λk=>?_) M y wr I.ris<|by lia,by rw[iD,eP M,lR,zD,zS];lia,by rw[iD,eP y,jw,zD,zS];lia,λw hw=>(by let(j,_,_,_,_,_,z):=I.mem w hw;lia),λp P=>?_,λp P=>?_,I.lem}
 .unfold MA at n t4;have tA:∀g,lJ (sJ (fB<|f2 FE (ab 2)<|fC<|.int 3)<|fB<|f2 bS (ah 3 aj<|aa (ab 0)<|aa (f2 aQ (ab 1)<|fC<|.int 64)<|aa (fC<|.int 4) af)<|fC<|.int 0) g lY [.val<|gJ ns,.val<|.int a,.val<|.int mo,.UQ,.UQ,.UQ,.UQ,.UQ,.UQ,.UQ,.UQ,.UQ]=↑(.nx [.val<|gJ ns,.val<|.int a,.val<|.int mo,.UQ,.UQ,.UQ,.UQ,.UQ,.UQ,.UQ,.UQ,.UQ]):=λg=>by
   by_cases c1:3<mo
   .have c2:¬dr ns _ 4=0:=λz=>c {c1,z};simp! [ju,E,c1,c2,cF,wK,jO,lL,yP]
   .simp! [ju,c1,wK,lL,yP]
  apply aP;show fW [.val _,.val _,.val _,.UQ,.UQ,.UQ,.UQ,.UQ,.UQ,.UQ,.UQ,.UQ]=_;rw[fW,ao<|tA _,ao t5,ao t6,ao t7,ao F,ao t9,ao B,ao n,ao<|t4 _];rfl
 .have q:=cJ (a+56+k) 4 l (by decide);exact{q.2.1,by lia}
 .have q:=cJ (a+60+k) 4 l (by decide);exact{q.2.1,by lia}
 .let(i,o):=List.getElem?_of_mem P;let(r,_,rfl):=ir _ o;have q:=cJ (a+56+(0+i:Nat)) 4 l (by decide);lia
 .let(i,o):=List.getElem?_of_mem P;let(r,_,rfl):=ir _ o;have q:=cJ (a+60+(0+i:Nat)) 4 l (by decide);lia
def z6{ns:Γ Int}{a mo:Int}(l:ns.length<=63)(H:0<=mo):∃G T W,dh [gJ ns,.int a,.int mo]=↑(aw G T W)/\Wd G T W/\Sk mo G T W:=by
 by_cases c:3<mo/\dr ns (a+64) 4=0
 .exact w8 l c.1 c.2
 .exact xf l H c
def Mz(h:Cp W):(W.map λw=>[w.1,w.2.1]).Pairwise λa b=>Dl.lexLt a b=true:=List.pairwise_map.mpr<|h.imp Tb
def HZ(h:Cp W):(W.map λw=>[w.1,w.2.1]).Nodup:=(Mz h).imp λ{a b}X e=>by
 rw[e,dI]at X
 grind
def Ia(h:Cp W)(n:m.Nodup)(H:∀r,r∈W.map (λw=>[w.1,w.2.1])↔r∈m):W.map (λw=>[w.1,w.2.1])=mz m:=
 vz ((List.perm_ext_iff_of_nodup (HZ h) n).mpr H) ((Mz h).imp Qq)
def Wd.wok(h:Wd G T W):RC (aw G T W)=true:=by
 have k:(W.map aD).map gx=W.map λw=>[w.1,w.2.1]:=by rw[zM];rfl
 have g:∀i j:Int,[i,j]∈W.map (λw=>[w.1,w.2.1])↔[i,j]∈nX 0 (G.map aY):=λi j=>by
  rw[qx];constructor
  .intro M;let(w,hw,e):=List.mem_map.mp M;simp?[kU,and_true]at e;have R:=(h.wr w hw).1;obtain⟨p,H⟩:∃p,G[i.toNat]?=↑p:={G[i.toNat]'(by lia),zK<|by lia}
   refine{i.toNat,aY p,by rw[zO,H];rfl,by lia,?_};rw[gc,(h.gl _ p H).mem_iff,vp,show((i.toNat:Nat):Int)=i by lia];exact M
  .rintro⟨m,p,H,rfl,J⟩;rw[zO]at H;let(c,P,rfl):=Option.map_eq_some_iff.mp H;rw[gc,(h.gl m c P).mem_iff,vp]at J
   rwa [jC]
 have t:∀i j:Int,[i,j]∈W.map (λw=>[w.1,w.2.1])↔[j,i]∈nX 0 (T.map aY):=λi j=>by
  rw[qx];constructor
  .intro M;let(w,hw,e):=List.mem_map.mp M;simp?[kU,and_true]at e;have R:=(h.wr w hw).2.1;obtain⟨p,H⟩:∃p,T[j.toNat]?=↑p:={T[j.toNat]'(by lia),zK<|by lia}
   refine{j.toNat,aY p,by rw[zO,H];rfl,by lia,?_};rw[gc,(h.tl _ p H).mem_iff,wb,show((j.toNat:Nat):Int)=j by lia];exact M
  .rintro⟨m,p,H,rfl,J⟩;rw[zO]at H;let(c,P,rfl):=Option.map_eq_some_iff.mp H;rw[gc,(h.tl m c P).mem_iff,wb]at J
   rwa [jC]
 have two:∀{r:Γ Int},r∈W.map (λw=>[w.1,w.2.1])->∃i j,r=[i,j]:=λR=>by
  let(w,_,rfl):=List.mem_map.mp R;exact{_,_,rfl}
 have n:∀(L:Γ Pl),(∀p∈L,p.2.Nodup)->(nX 0<|L.map aY).Nodup:=λL l=>tY λp H=>by
  let(c,P,rfl):=List.mem_map.mp H;rw[gc];exact l c P
 have E:W.map (λw=>[w.1,w.2.1])=mz (nX 0<|G.map aY):=Ia h.wp (n G λp H=>by
   let(i,I,e):=qP H;exact(h.gl i p<|by rw[zK I,e]).nodup_iff.mpr<|n9 h.wp i) λr=>⟨λR=>by
   let(i,j,rfl):=two R;exact(g i j).mp R,λR=>by
   let(i,j,rfl):=lK r R;exact(g i j).mpr R⟩
 have d:W.map (λw=>[w.1,w.2.1])=mz ((nX 0<|T.map aY).map List.reverse):=Ia h.wp (by
   exact List.pairwise_map.mpr (List.Pairwise.imp (λ{a b}U e=>U<|List.reverse_inj.mp e) (n T λp H=>by
    let(i,I,e):=qP H;exact(h.tl i p<|by rw[zK I,e]).nodup_iff.mpr<|o8 h.wp i))) λr=>⟨λR=>by
   let(i,j,rfl):=two R;exact List.mem_map.mpr {[j,i],(t i j).mp R,rfl},λR=>by
   let(u,X,rfl):=List.mem_map.mp R;let(i,j,rfl):=lK u X;exact(t j i).mpr X⟩
 have hw:(W.map aD).all (kb G.length T.length)=true:=by
  rw[xG];intro x q;let(w,hw,rfl):=List.mem_map.mp q;exact Es<|h.wr w hw
 have s:∀{L:Γ Pl},1<=L.length->L.length<=4->oH (.tuple<|L.map aY)=true:=λ{L}a b=>by
  simp?[oH,long,zD,zF,zJ];lia
 have f:long 3 3 (aw G T W)=true:=rfl;have o:=h.gok;have ht:=h.tok;unfold RC AY;rw[f,jJ];simp?[aw,cM,vZ,wA,k,<-E,<-d,jO,Bool.and_true,js,s h.g1 h.g4,s h.t1 h.t4,zD,o,ht,hw,O4]
def sI(b:θ):Int:=if b then 1 else 0
def aX(b:θ)(w:Wy):Int:=if b then w.2.1 else w.1
def bB(b:θ)(w:Wy):Int:=aX (!b) w
def aR(b:θ)(G T:Γ Pl):Γ Pl:=if b then T else G
def dD(b:θ)(G T:Γ Pl)(W:Γ Wy):aH (aw G T W) (.int<|sI b)=↑(.tuple<|(aR b G T).map aY):=by cases b<;>rfl
def dU(G T:Γ Pl)(W:Γ Wy):aH (aw G T W) (.int 2)=↑(.tuple<|W.map aD):=rfl
def nK(b:θ)(w:Wy):aH (aD w) (.int<|sI b)=↑(.int<|aX b w):=by cases b<;>rfl
def L5(b:θ)(w:Wy):aH (aD w) (.int<|1-sI b)=↑(.int<|bB b w):=by cases b<;>rfl
def LL(w:Wy):aH (aD w) (.int 2)=↑(.int w.2.2):=rfl
def JO(p:Pl):aH (aY p) (.int 0)=↑(.int p.1):=rfl
def KN(p:Pl):aH (aY p) (.int 1)=↑(ae p.2):=rfl
def sj(h:ds[i]?=↑d):aH (.tuple ds) (.int (i:Nat))=↑d:=by
 exact wx h
def Nv(h:ds[i]?=↑d):aH (.list ds) (.int (i:Nat))=↑d:=by
 exact wx h
def jd{l:Γ α}(h:l[i]?=↑x):aH (.tuple<|l.map f) (.int (i:Nat))=↑(f x):=sj (by rw[zO,h];rfl)
def Jp{l:Γ α}(h:l[i]?=↑x):aH (.list<|l.map f) (.int (i:Nat))=↑(f x):=Nv (by rw[zO,h];rfl)
def Rl(b:θ)(W:Γ Wy)(p:Int):Γ Int:=(W.filter λw=>decide (aX b w=p)).map<|bB b
def Wd.lik{G T:Γ Pl}{W:Γ Wy}(h:Wd G T W){b:θ}{i:Nat}{p:Pl}(e:(aR b G T)[i]?=↑p):p.2.Perm (Rl b W i):=by
 cases b
 .exact h.gl i p e
 .exact h.tl i p e
def Wd.nod(h:Wd G T W)(b:θ)(i:Int):(Rl b W i).Nodup:=by
 cases b
 .exact n9 h.wp i
 .exact o8 h.wp i
def sC{tt:Dl.Env->Δ θ}{te:Dl.Env->Δ D}{r:Γ (Δ D)}{p:Nat->D->θ}{h:Nat->D->D}:∀{ds:Γ D}{k:Nat},
  (∀i d,ds[i]?=↑d->tt (↑(.int ((k+i:Nat):Int))::↑d::r)=↑(p (k+i) d)/\(p (k+i) d=true->te (↑(.int ((k+i:Nat):Int))::↑d::r)=↑(h (k+i) d))) ->
  df (il 0 1) tt te (none::none::r) (bZ k ds)=↑(((ds.zipIdx k).filter λq=>p q.2 q.1).map λq=>h q.2 q.1)
 |[],k,_=>rfl
 |d::ds,k,c=>by
  let(a,b):=c 0 d rfl;have I:=sC (ds:=ds) (k:=k+1) λi x X=>by
   have:=c (i+1) x (by simpa using X);rw[show k+1+i=k+(i+1)by lia];exact this
  have g:il 0 1 (none::none::r) (.tuple [.int ((k:Nat):Int),d])=↑(↑(.int ((k:Nat):Int))::↑d::r):=by
   simp?[il,isFree,xQ,yZ,qG,wG,jN,xH,yW,yX]
  rw[bZ,df,g,List.zipIdx_cons];simp?[Nat.add_zero]at a b;simp?[zA,a];cases H:p k d with
  |true=>simp[b H,I,H]
  |false=>simp[I,H]
def Fe{fi:Dl.Env->Δ _}{tt:Dl.Env->Δ θ}{te:Dl.Env->Δ D}{ρ:Dl.Env}{ds:Γ D}{p:Nat->D->θ}{h:Nat->D->D}(W:fi ρ=↑(bZ 0 ds))(l:ds.length<=1000)
  (H:∀i d,ds[i]?=↑d->tt (↑(.int (i:Nat))::↑d::cs.map λj=>(ρ[j]?).getD none)=↑(p i d)/\(p i d=true->te (↑(.int i)::↑d::cs.map λj=>(ρ[j]?).getD none)=↑(h i d))) :
  av 2 cs fi (il 0 1) tt te ρ=↑((ds.zipIdx.filter λq=>p q.2 q.1).map λq=>h q.2 q.1):=by
 have:=sC (k:=0) (by simpa using H);simp[av,W,zA,eK,List.replicate,xF,xO,this];apply bF;rw[zD];apply yE<|xP _ _;rw[List.length_zipIdx];lia
def l4(f:α->Int):∀{l m:Γ α},l.Perm m->(l.Pairwise λa b=>f a<=f b)->(m.Pairwise λa b=>f a<f b)->l=m
 |l,[],p,_,_=>p.eq_nil
 |[],x::m,p,_,_=>absurd p.symm.eq_nil (by simp)
 |y::l,x::m,p,H,c=>by
  rw[List.pairwise_cons]at H c;have e:y=x:=by
   have X:x∈y::l:=p.mem_iff.mpr zE;rcases List.mem_cons.mp X with z|X
   .exact z.symm
   .have Y:y∈x::m:=p.mem_iff.mp zE;rcases List.mem_cons.mp Y with z|Y
    .exact z
    .have:=H.1 x X;have:=c.1 y Y;lia
  subst e;rw[l4 f ((List.perm_cons y).mp p) H.2 c.2]
def BM(z:Nat->Int)(l:Γ α)(d:α)(f:α->Int)(h:∀i,i<l.length->z i=f (l.getD i d)):(AC z l d).Pairwise λa b=>f a<=f b:=by
 unfold AC;split
 .rename_i L
  match l,L with
  |[],_=>simp
  |[a],_=>simp
 .let(p,s):=SP.jh (n:=l.length) (by lia);rw[jD]at s ⊢;refine s.imp_of_mem λ{i j}H J U=>?_;rw[<-h i (by have:=p.mem_iff.mp H;simpa using this),<-h j (by have:=p.mem_iff.mp J;simpa using this)];exact U
def aK(W:Γ Wy)(i:Nat):Wy:=W.getD i (0,0,0)
def ja(hk:k<W.length):W[k]=aK W k:=by simp[aK,hk]
def je(hk:k<W.length):W[k]?=↑(aK W k):=by rw[zK hk,ja hk]
def own(b:θ)(W:Γ Wy)(p:Int):Γ Nat:=(List.range W.length).filter λi=>decide (aX b (aK W i)=p)
def xu(b:θ)(W:Γ Wy)(p o:Int):Nat:=W.findIdx λw=>decide (aX b w=p)&&decide (bB b w=o)
def fg(b:θ)(W:Γ Wy)(p:Int)(L:Γ Int):Γ Nat:=L.map<|xu b W p
def di:i∈own b W p↔i<W.length/\aX b (aK W i)=p:=by simp[own]
def map_range(d:α)(f:α->β)(l:Γ α):(List.range l.length).map (λi=>f<|l.getD i d)=l.map f:=by
 apply jG
 .simp
 .intro i a H;have:=by simpa using H
  simp[this]
def wz(d:α)(q:α->θ):∀(l:Γ α),((List.range l.length).filter λi=>q<|l.getD i d).map (λi=>l.getD i d)=l.filter q:=by
 intro l;have e:l=(List.range l.length).map λi=>l.getD i d:=by
  have:=map_range d (λx=>x) l;simp_all
 conv=>rhs;rw[e]
 rw[kF];rfl
def qk(b:θ)(W:Γ Wy)(p:Int):(own b W p).map (λi=>bB b<|aK W i)=Rl b W p:=by
 unfold own Rl aK;rw[<-wz _ _ W,zM];rfl
def Co(h:Cp W)(hi:i<W.length)(H:j<W.length)(a:(aK W i).1=(aK W j).1)(b:(aK W i).2.1=(aK W j).2.1):i=j:=by
 have e:∀k,k<W.length->W[k]?=↑(aK W k):=λk hk=>by simp[aK,hk]
 rcases Nat.lt_trichotomy i j with z|z|z
 .have:=List.pairwise_iff_getElem.mp h i j hi H z
  grind
 .lia
 .have:=List.pairwise_iff_getElem.mp h j i H hi z
  grind
def Ay(h:Cp W)(hi:i<W.length)(J:j<W.length)(H:aX b (aK W i)=aX b (aK W j))(a:bB b (aK W i)=bB b (aK W j)):i=j:=by
 cases b
 .exact Co h hi J H a
 .exact Co h hi J a H
def uM(h:Cp W)(hi:i∈own b W p):xu b W p (bB b<|aK W i)=i:=by
 let(l,e):=di.mp hi;have hw:W[i]=aK W i:=by simp[aK,l]
 unfold xu;have c:W.findIdx (λw=>decide (aX b w=p)&&decide (bB b w=bB b (aK W i)))<W.length:=by
  apply kK;exact{W[i],qA _,by rw[hw];simp[e]}
 have q:=List.findIdx_getElem (w:=c);rw[zF,zJ,zJ,ja c]at q;exact Ay h c l (by rw[q.1,e]) q.2
def fv{G T:Γ Pl}{W:Γ Wy}(h:Wd G T W){b:θ}{i:Nat}(e:(aR b G T)[i]?=↑p):(fg b W i p.2).Perm (own b W i):=by
 have H:=(h.lik e).map<|xu b W i;rw[<-qk b W i,zM]at H;have E:(own b W i).map (xu b W i ∘ λj=>bB b<|aK W j)=own b W i:=by
  conv=>rhs;rw[<-List.map_id<|own b W i]
  exact yI λj=>uM h.wp
 rwa[E]at H
def vg{G T:Γ Pl}{W:Γ Wy}(h:Wd G T W){b:θ}{i:Nat}{p:Pl}(e:(aR b G T)[i]?=↑p){o:Int}(O:o∈p.2):xu b W i o<W.length/\aX b (aK W<|xu b W i o)=i/\bB b (aK W<|xu b W i o)=o:=by
 have m:=(h.lik e).mem_iff.mp O;rw[<-qk b W i]at m;let(j,H,rfl):=List.mem_map.mp m;rw[uM h.wp H];let(a,c):=di.mp H;exact{a,c,rfl}
def kD(b:θ)(W:Γ Wy)(L:Γ Int)(d:D):Int:=(L.findIdx λo=>decide (o=bB b (aK W (lO d).toNat)):Nat)
def o6:∀{L:Γ Int}{x:Int},x∈L->zc x L=↑(L.findIdx λo=>decide (o=x))
 |[],x,h=>by grind
 |o::L,x,h=>by
  unfold zc;by_cases e:o=x
  .simp[e,vB]
  .rw[o6<|(List.mem_cons.mp h).resolve_left λz=>e z.symm];simp[vB,e]
def Jd{G T:Γ Pl}{W:Γ Wy}(h:Wd G T W){b:θ}{i:Nat}{p:Pl}(e:(aR b G T)[i]?=↑p)(z:Nat->Int)(Z:∀j,j<(own b W i).length->z j=kD b W p.2 (((own b W i).map λn=>PyData.int (n:Nat)).getD j .none)) :
  AC z ((own b W i).map λn=>PyData.int (n:Nat)) .none=(fg b W i p.2).map λn=>PyData.int (n:Nat):=by
 apply l4 _ ((j9 _ _ _).trans<|(fv h e).symm.map _)<|BM z _ _ _ λj H=>Z j (by simpa using H);rw[fg,zM,jD];have y:∀k(hk:k<p.2.length),kD b W _ (.int<|xu b W i p.2[k])=k:=λk hk=>by
  let(_,_,E):=vg h e<|qA hk;simp[kD,lO,yH,E]
  congr 1
  rw[List.findIdx_eq<|by omega];refine{by simp,λj H=>?_};have:=List.pairwise_iff_getElem.mp ((h.lik e).nodup_iff.mpr<|h.nod b i) j k (by lia) hk H;simpa using this
 refine List.pairwise_iff_getElem.mpr λj k H hk w=>?_;show kD b W _ (.int _)<kD b W _ (.int _);rw[y j H,y k hk];lia
abbrev nD(n:Nat):D:=.int ((n:Nat):Int)
def ue:∀{ds:Γ D},(∀d∈ds,te (ρ.set 0<|↑d)=↑(h d))->pZ te ρ ds=↑(ds.map h)
 |[],_=>rfl
 |d::ds,H=>by
  rw[pZ,H d zE,zA,ue λx X=>H x<|zC _ X];rfl
def u6(b:θ)(W:Γ Wy)(p:Int):(own b W p).length<=W.length:=by
 apply yE<|xP _ _;simp
def BN(b:θ)(W:Γ Wy)(p:Int):(((W.map aD).zipIdx.filter λq=>decide (aX b (aK W q.2)=p)).map λq=>nD q.2)=(own b W p).map nD:=by
 have e:(W.map aD).zipIdx=(List.range W.length).map λi=>(aD<|aK W i,i):=by
  apply jG
  .simp
  .intro i a H;have:=by simpa using H
   simp[ja this]
 rw[e,kF,zM];rfl
def um(h:Wd G T W)(e:(aR b G T)[i]?=↑p):iK [aw G T W,.int<|sI b,nD i]=↑(.list<|(fg b W i p.2).map nD):=by
 have hw:=h.wl;have E:aH (.tuple<|(aR b G T).map aY) (nD i)=↑(aY p):=jd e;have L:=u6 b W i;have t3:Dl.aO 3 [0] (f2 aH (ab 0)<|fC<|.int 2) [.val<|aw G T W,.val<|.int<|sI b,.val<|nD i,.UQ,.UQ,.UQ]=↑(.nx [.val<|aw G T W,.val<|.int<|sI b,.val<|nD i,.val<|.tuple<|W.map aD,.UQ,.UQ]):=
  cG (d:=.tuple<|W.map aD) rfl rfl rfl rfl
 have t4:Dl.aO 4 [0,1,2] (f2 aH (f2 aH (f2 aH (ab 0)<|ab 1)<|ab 2)<|fC<|.int 1) [.val<|aw G T W,.val<|.int<|sI b,.val<|nD i,.val<|.tuple<|W.map aD,.UQ,.UQ]=↑(.nx [.val<|aw G T W,.val<|.int<|sI b,.val<|nD i,.val<|.tuple<|W.map aD,.val<|ae p.2,.UQ]):=by
  refine cG (d:=ae p.2) ?_ rfl rfl rfl;rw[j1 (a:=aY p) (b:=.int 1) ?_ rfl,KN];rw[j1 (a:=.tuple<|(aR b G T).map aY) (b:=nD i) ?_ rfl,E];rw[j1 (a:=aw G T W) (b:=.int<|sI b) rfl rfl,dD]
 have c5:av 2 [1,2] (cD<|aa (ab 3) af) (il 0 1) (fB<|f2 bS (f2 aH (ab 1)<|ab 2)<|ab 3) (ab 0) [↑(aw G T W),↑(.int<|sI b),↑(nD i),↑(.tuple<|W.map aD),↑(ae p.2),none]=↑((own b W i).map nD):=by
  rw[Fe (ds:=W.map aD) (p:=λj _=>decide (aX b (aK W j)=i)) (h:=λj _=>nD j) rfl (by rw[zD];lia) λj d D=>?_,BN];rw[zO]at D;let(w,H,rfl):=Dl.ag D;have J:j<W.length:=(List.getElem?_eq_some_iff.mp H).1;rw[je J]at H;cases H;refine{?_,λ_=>rfl};show fB (f2 bS (f2 aH (ab 1)<|ab 2)<|ab 3) [↑(nD j),↑(aD<|aK W j),↑(.int<|sI b),↑(nD i)]=_;simp?[fB];rw[j1 (a:=.int<|aX b<|aK W j) (b:=nD i) (by rw[j1 (a:=aD<|aK W j) (b:=.int<|sI b) rfl rfl,nK]) rfl,cF];rfl
 have t:bb 5 [1,2,3] (av 2 [1,2] (cD<|aa (ab 3) af) (il 0 1) (fB<|f2 bS (f2 aH (ab 1)<|ab 2)<|ab 3)<|ab 0) [.val<|aw G T W,.val<|.int<|sI b,.val<|nD i,.val<|.tuple<|W.map aD,.val<|ae p.2,.UQ]=↑(.nx [.val<|aw G T W,.val<|.int<|sI b,.val<|nD i,.val<|.tuple<|W.map aD,.val<|ae p.2,.own<|(own b W i).map nD]):=by
  have f:hand [1,2,3] 0 [Slot.val<|aw G T W,.val<|.int<|sI b,.val<|nD i,.val<|.tuple<|W.map aD,.val<|ae p.2,.UQ]=[Slot.val<|aw G T W,.val<|.int<|sI b,.val<|nD i,.val<|.tuple<|W.map aD,.val<|ae p.2,.UQ]:=rfl;simp?[bb,f,bh,zI,yV,Slot.Vt,c5,zB,yX,yW]
 have hk:pZ (f2 p9 (ab 3)<|f2 aH (f2 aH (ab 2)<|ab 0)<|f2 Dl.ib (fC<|.int 1)<|ab 1) [none,↑(.int<|sI b),↑(.tuple<|W.map aD),↑(ae p.2)] ((own b W i).map nD)=↑(((own b W i).map nD).map λd=>.int<|kD b W p.2 d):=by
  refine ue λd D=>?_;let(j,J,rfl):=List.mem_map.mp D;let(l,g):=di.mp J;show f2 p9 (ab 3) (f2 aH (f2 aH (ab 2)<|ab 0)<|f2 Dl.ib (fC<|.int 1)<|ab 1) [↑(nD j),↑(.int<|sI b),↑(.tuple<|W.map aD),↑(ae p.2)]=_;have c:aH (.tuple<|W.map aD) (nD j)=↑(aD<|aK W j):=jd<|je l;rw[j1 (a:=ae p.2) (b:=.int<|bB b<|aK W j) rfl ?_]
  .have m:bB b (aK W j)∈p.2:=(h.lik e).mem_iff.mpr (by rw[<-qk];exact List.mem_map.mpr {j,J,rfl});simp?[p9,ae,bX,zA,o6 m,zB,kD,lO,yH]
   all_goals first|rfl|(congr 3;funext o;congr)
  .rw[j1 (a:=aD<|aK W j) (b:=.int<|1-sI b) ?_ ?_,L5]
   .rw[j1 (a:=.tuple<|W.map aD) (b:=nD j) rfl rfl,c]
   .rw[j1 (a:=.int 1) (b:=.int<|sI b) rfl rfl,mR]
 have I:intsOf (((own b W i).map nD).map λd=>PyData.int<|kD b W p.2 d)=↑(((own b W i).map nD).map<|kD b W p.2):=by
  rw[show(((own b W i).map nD).map λd=>PyData.int<|kD b W p.2 d)=(((own b W i).map nD).map<|kD b W p.2).map PyData.int by simp?[zM];rfl,bX]
 have k:aV (dS<|oY [1,3,4] (ab 5)<|f2 p9 (ab 3)<|f2 aH (f2 aH (ab 2)<|ab 0)<|f2 Dl.ib (fC<|.int 1)<|ab 1) [.val<|aw G T W,.val<|.int<|sI b,.val<|nD i,.val<|.tuple<|W.map aD,.val<|ae p.2,.own<|(own b W i).map nD]=↑(.rt<|.list<|(fg b W i p.2).map nD):=by
  have s:oY [1,3,4] (ab 5) (f2 p9 (ab 3)<|f2 aH (f2 aH (ab 2)<|ab 0)<|f2 Dl.ib (fC<|.int 1)<|ab 1) [↑(aw G T W),↑(.int<|sI b),↑(nD i),↑(.tuple<|W.map aD),↑(ae p.2),↑(.list<|(own b W i).map nD)]=↑((fg b W i p.2).map nD):=by
   unfold oY;show(pZ _ [none,↑(.int<|sI b),↑(.tuple<|W.map aD),↑(ae p.2)]<|(own b W i).map nD).bind _=_;rw[hk,zA,I,zA,yM (by rw[zD];lia),Jd h e _ λj J=>?_];simp[J]
  simp?[aV,aS,zI,yV,va,xt,dS,s,zB]
 refine aP ?_;show oh [.val<|aw G T W,.val<|.int<|sI b,.val<|nD i,.UQ,.UQ,.UQ]=_;unfold oh;rw[ao t3,ao t4,ao t,k]
local macro_rules|`(tactic| dsimp! [$ts,*])=>`(tactic| simp only[ab,fC,f1,f2,aa,af,ah,b8,si,bu,gO,dS,fB,gB,cY,sJ,ma,cD,aS,bh,va,xt,DB,Cj,CL,DM,zI,yV,xQ,yZ,zA,zB,qG,zL,xK,Nat.reduceAdd,jC,reduceIte,yX,yW,$ts,*])
def nq(R:S->ak->Prop)(f:α->D)(st:S->α->S):∀{l:Γ α}{s:S}{ρ:ak},
  (∀s ρ x,x∈l->R s ρ->∃ρ1 L,tgt ρ (f x)=↑ρ1/\gb ρ1=↑(.nx L)/\R (st s x) L)->R s ρ->∃ρ',eN tgt gb (l.map f) ρ=↑(.nx ρ')/\R (l.foldl st s) ρ'
 |[],s,ρ,_,h=>{ρ,rfl,h}
 |d::g,s,ρ,H,h=>by
  let(ρ1,L,e,E,b):=H s ρ d zE h;let(ρ',a,c):=nq R f st (λs ρ x X=>H s ρ x<|zC _ X) b;refine{ρ',?_,c};rw[zI,eN,e,zA,E];exact a
def me(R:ak->Prop)(f:α->D)(q:α->θ)(o:α->D):∀{l:Γ α}{ρ:ak},
  (∀ρ x,x∈l->R ρ->∃ρ1,tgt ρ (f x)=↑ρ1/\(q x=true->gb ρ1=↑(.rt<|o x))/\(q x=false->∃L,gb ρ1=↑(.nx L)/\R L))->R ρ ->
  (∀x,l.find? q=↑x->eN tgt gb (l.map f) ρ=↑(.rt<|o x))/\(l.find? q=none->∃ρ',eN tgt gb (l.map f) ρ=↑(.nx ρ')/\R ρ')
 |[],ρ,_,h=>{λx X=>(by cases X),λ_=>{ρ,rfl,h}}
 |x::l,ρ,a,h=>by
  let(ρ1,e,E,b):=a ρ x zE h;rw[zI,eN,e,zA];cases H:q x with
  |true =>
   rw[List.find?_cons_of_pos<|by simpa using H,E H];exact{λy Y=>(by cases Y;rfl),λn=>(by cases n)}
  |false =>
   let(L,c,d):=b H;rw[List.find?_cons_of_neg<|by simp[H],c];exact me R f q o (λρ x X=>a ρ x<|zC _ X) d
def eX(h:eN tgt gb ds ρ1=o)(hi:fi (bh ρ1)=↑ds)(H:hand fz 0 ρ=ρ1):gK fz fi tgt gb ρ=o:=by
 simp[gK,H,hi,zA,h]
def v7(a:hand fz 0 ρ=ρ')(H:f (bh ρ')=↑ds):bb i fz f ρ=↑(.nx<|ρ'.set i<|.own ds):=by
 simp[bb,a,H,zB]
def lC(H:f (bh ρ)=↑ds)(a:hand fz 0 ρ=ρ):bb i fz f ρ=↑(.nx<|ρ.set i<|.own ds):=v7 a H
def sd(H:hand fz 0 ρ=ρ')(A:f (aS ρ)=↑d)(F:f (bh ρ')=↑d)(hs:Dl.nP d=false)(r:lT d=false\/ρ'=ρ:=by first|exact .inr rfl|exact .inl rfl):Dl.aO i fz f ρ=↑(.nx<|ρ'.set i<|.val d):=by
 rcases r with r|r
 .simp[Dl.aO,A,zA,hs,yP,qN,H,F,zB,r]
 .subst r;simp[Dl.aO,A,zA,hs,yP,qN,H,F,zB,ite_self]
def call_of(h:m ds=↑d)(f:fs ρ=↑ds)(H:ds.length=n):ah n m fs ρ=↑d:=by
 unfold ah;rw[f,zA,yM H,h]
def cons_of(h:f ρ=↑d)(hs:fs ρ=↑ds):aa f fs ρ=↑(d::ds):=by
 unfold aa;rw[h,hs];rfl
def aW(H:f (aS ρ)=↑d):aV f ρ=↑(.rt d):=by
 simp[aV,H,zB]
def dw(H:f (aS ρ)=↑d):mT f ρ=↑(.nx ρ):=by
 simp[mT,H,zB]
def fO(h:t (aS ρ)=↑false):lJ t g lY ρ=↑(.nx ρ):=by
 simp[lJ,h,lY]
def gS(h:t (aS ρ)=↑true):lJ t g g2 ρ=g ρ:=by
 simp[lJ,h]
def mD(h:g1 ρ=↑(.rt d)):aG g1 g2 ρ=↑(.rt d):=by
 simp[aG,h,zA]
def ER(H:f (aS ρ)=↑d)(hs:Dl.nP d=true)(hk:fk (aS ρ)=↑(nD k))(o:ρ[i]?=↑(.own ds))(l:k<ds.length):BJ i fz fk f ρ=↑(.nx<|ρ.set i<|.own<|ds.set k d):=by
 have x:FD ds.length ((k:Nat):Int)=↑k:=by
  unfold FD;rw[yM<|Int.natCast_nonneg k,yM<|by lia];simp
 simp?[BJ,lX,H,zA,hs,xH,hk,qd,o,x,zB]
def lp(c:S->θ)(st:S->S):Nat->S->S
 |0,s=>s
 |n+1,s=>if c s=true then lp c st n (st s)else s
def y2(R:S->ak->Prop)(c:S->θ)(st:S->S)(a:S->Nat)
  (ht:∀s ρ,R s ρ->t (aS ρ)=↑(c s))(b:∀s ρ,R s ρ->c s=true->∃ρ',gb ρ=↑(.nx ρ')/\R (st s) ρ'/\a (st s)<a s) :
  ∀(n:Nat)(s:S)(ρ:ak),a s<n->R s ρ->∃ρ',NX t gb n ρ=↑(.nx ρ')/\R (lp c st n s) ρ'/\c (lp c st n s)=false
 |0,s,ρ,h,_=>absurd h (by lia)
 |n+1,s,ρ,h,r=>by
  rw[NX,ht s ρ r,zA,lp];cases hc:c s with
  |false=>exact{ρ,by simp,by simpa [hc]using r,by simpa [hc]using hc}
  |true =>
   let(ρ',e,d,m):=b s ρ r hc;let(L,E,f,c2):=y2 R c st a ht b n (st s) ρ' (by lia) d;refine{L,?_,by simpa [hc]using f,by simpa [hc]using c2};simp?[xH,e,zA];exact E
def uZ{off:Γ Int}(h:i<off.length):aH (ae off) (nD i)=↑(.int<|off.getD i 0):=jd (by simp[h])
def NS{off:Γ Int}(h:i<off.length):aH (.list<|off.map PyData.int) (nD i)=↑(.int<|off.getD i 0):=Jp (f:=PyData.int) (l:=off) (by simp[h])
def mq(h:i<W.length):aH (.tuple<|W.map aD) (nD i)=↑(aD<|aK W i):=jd<|je h
def RT(a b c:Int):BL [.int a,.int b,.int c]=↑(.int<|min (min a b) c):=rfl
def wa(l:Γ Int)(k:Nat)(v:Int):(l.map PyData.int).set k (.int v)=(l.set k v).map PyData.int:=by simp
def LZ(l:Γ Int):cq [.list<|l.map PyData.int]=↑(ae l):=rfl
def D2(l:Γ D):bP [.tuple l]=↑(nD l.length):=rfl
def Li(l:Γ Int):bP [ae l]=↑(nD l.length):=by
 show some _=_;simp
def EO(h:n<=1000):md [nD n]=↑((List.range n).map nD):=by
 rw[yl<|Dy h,yH]
def By(h:fs ρ=↑[nD n])(H:n<=1000):cO fs ρ=↑((List.range n).map nD):=by
 rw[cO,h,zA,EO H]
def sub_int(i j:Int):Dl.ib (.int i) (.int j)=↑(.int<|i-j):=mR i j
def zeros(W:fi ρ=↑ds)(l:ds.length<=1000):av 1 [] fi (fG 0) (λ_=>↑true) (fC<|.int 0) ρ=↑((List.replicate ds.length (0:Int)).map PyData.int):=by
 rw[cf (h:=λ_=>.int 0) W (by lia) λd H=>rfl];simp[List.map_const']
def uC:∀(a b:Γ Int),df (il 0 1) (λ_=>↑true) (f2 aQ (ab 0)<|ab 1) (none::none::r) (mw (a.map PyData.int)<|b.map PyData.int)=↑((List.zipWith (·+·) a b).map PyData.int)
 |[],b=>by cases b<;>rfl
 |x::a,[]=>rfl
 |x::a,y::b=>by
  have i:=uC (r:=r) a b;have g:il 0 1 (none::none::r) (.tuple [.int x,.int y])=↑(↑(.int x)::↑(.int y)::r):=by
   simp?[il,isFree,xQ,yZ,qG,wG,jN,xH,yW,yX]
  rw[zI,zI,mw,df,g,zA];dsimp! [dz,i,List.zipWith_cons_cons]
def Gh(W:fi ρ=↑(mw (a.map PyData.int)<|b.map PyData.int))(l:a.length<=1000) :
  av 2 [] fi (il 0 1) (λ_=>↑true) (f2 aQ (ab 0)<|ab 1) ρ=↑((List.zipWith (·+·) a b).map PyData.int):=by
 have:=uC (r:=[]) a b;simp?[av,W,zA,eK,List.replicate,yV,qF,this];refine bF ?_;rw[zD,List.length_zipWith];lia
def cV(W:Γ Wy)(off:Γ Int)(left:Int)(i:Nat):Int:=min (min (off.getD i 0) (aK W i).2.2) left
def mO(W:Γ Wy)(off:Γ Int)(s:Int×Γ Int)(i:Nat):Int×Γ Int:=(s.1-cV W off s.1 i,s.2.set i<|cV W off s.1 i)
def tq(W:Γ Wy)(off:Γ Int)(amt:Int)(is:Γ Nat):Γ Int:=(is.foldl (mO W off) (amt,List.replicate W.length 0)).2
def Dp(W:Γ Wy)(off:Γ Int):∀(is:Γ Nat)(s:Int×Γ Int),(is.foldl (mO W off) s).2.length=s.2.length
 |[],s=>rfl
 |i::is,s=>by rw[yJ,Dp W off is];simp[mO]
def wo(W:Γ Wy)(off:Γ Int)(amt:Int)(is:Γ Nat):(tq W off amt is).length=W.length:=by rw[tq,Dp];simp
def PQ{W:Γ Wy}(e:(aR b G T)[i]?=↑p):aH (.tuple<|(aR b G T).map aY) (nD i)=↑(aY p):=jd e
def Ou{off:Γ Int}(hi:i<W.length)(o:off.length=W.length)(hs:s.2.length=W.length) :
  (aG (BJ 4 [0,3,5,6] (ab 6)<|b8 BL<|aa (f2 aH (ab 3)<|ab 6)<|aa (f2 aH (f2 aH (f2 aH (ab 0)<|fC<|.int 2)<|ab 6)<|fC<|.int 2)<|aa (ab 5) af)<|Dl.aO 5 [4,5,6]<|f2 Dl.ib (ab 5)<|f2 aH (ab 4)<|ab 6) [.val<|aw G T W,.val d1,.val U,.val<|ae off,.own<|s.2.map PyData.int,.val<|.int s.1,.val<|nD i]=↑(.nx [.val<|aw G T W,.val d1,.val U,.val<|ae off,.own<|(mO W off s i).2.map PyData.int,.val<|.int (mO W off s i).1,.val<|nD i]):=by
 have v:(b8 BL<|aa (f2 aH (ab 3)<|ab 6)<|aa (f2 aH (f2 aH (f2 aH (ab 0)<|fC<|.int 2)<|ab 6)<|fC<|.int 2)<|aa (ab 5) af) (aS [.val<|aw G T W,.val d1,.val U,.val<|ae off,.own<|s.2.map PyData.int,.val<|.int s.1,.val<|nD i])=↑(.int<|cV W off s.1 i):=by
  dsimp! [uZ (show i<off.length by lia),dU,mq hi,LL,RT,cV]
 have t:=ER (i:=4) (fz:=[0,3,5,6]) (fk:=ab 6) (k:=i) (ds:=s.2.map PyData.int) v rfl rfl rfl (by rw[zD];lia);rw[wa]at t;rw[ao t];have l:i<(s.2.set i<|cV W off s.1 i).length:=by rw[yD];lia
 have g:(s.2.set i<|cV W off s.1 i).getD i 0=cV W off s.1 i:=by
  have:i<s.2.length:=by lia
  simp[this]
 have H:(f2 Dl.ib (ab 5)<|f2 aH (ab 4)<|ab 6) (aS<|[.val<|aw G T W,.val d1,.val U,.val<|ae off,.own<|s.2.map PyData.int,.val<|.int s.1,.val<|nD i].set 4<|.own<|(s.2.set i<|cV W off s.1 i).map PyData.int)=↑(.int (mO W off s i).1):=by
  dsimp! [NS l,sub_int,g,mO]
 rw[dN H rfl];rfl
def pC{off:Γ Int}(h:Wd G T W)(o:off.length=W.length)(e:(aR b G T)[i]?=↑p) :
  fy [aw G T W,.int<|sI b,nD i,ae off]=↑(ae<|tq W off p.1<|fg b W i p.2):=by
 have hw:W.length<=16:=h.wl;have t4:bb 4 [0] (av 1 [] (bu<|f2 aH (ab 0)<|fC<|.int 2) (fG 0) (λ_=>↑true)<|fC<|.int 0) [.val<|aw G T W,.val<|.int<|sI b,.val<|nD i,.val<|ae off,.UQ,.UQ,.UQ]=↑(.nx [.val<|aw G T W,.val<|.int<|sI b,.val<|nD i,.val<|ae off,.own<|(List.replicate W.length (0:Int)).map PyData.int,.UQ,.UQ]):=by
  have z:=zeros (fi:=bu<|f2 aH (ab 0)<|fC<|.int 2) (ρ:=bh [.val<|aw G T W,.val<|.int<|sI b,.val<|nD i,.val<|ae off,.UQ,.UQ,.UQ]) (ds:=W.map aD) rfl (by rw[zD];lia);rw[zD]at z;exact v7 rfl z
 have t:Dl.aO 5 [0,1,2] (f2 aH (f2 aH (f2 aH (ab 0)<|ab 1)<|ab 2)<|fC<|.int 0) [.val<|aw G T W,.val<|.int<|sI b,.val<|nD i,.val<|ae off,.own<|(List.replicate W.length (0:Int)).map PyData.int,.UQ,.UQ]=↑(.nx [.val<|aw G T W,.val<|.int<|sI b,.val<|nD i,.val<|ae off,.own<|(List.replicate W.length (0:Int)).map PyData.int,.val<|.int p.1,.UQ]):=
  dN (d:=.int p.1) (by dsimp! [dD,PQ (W:=W) e,JO]) rfl
 let(c,E,Y,x,rfl):=nq (tgt:=wY 6) (gb:=(aG (BJ 4 [0,3,5,6] (ab 6)<|b8 BL<|aa (f2 aH (ab 3)<|ab 6)<|aa (f2 aH (f2 aH (f2 aH (ab 0)<|fC<|.int 2)<|ab 6)<|fC<|.int 2)<|aa (ab 5) af)<|Dl.aO 5 [4,5,6]<|f2 Dl.ib (ab 5)<|f2 aH (ab 4)<|ab 6)) (R:=λs a=>s.2.length=W.length/\∃x,a=[.val<|aw G T W,.val<|.int<|sI b,.val<|nD i,.val<|ae off,.own<|s.2.map PyData.int,.val<|.int s.1,x]) nD (mO W off)
  (l:=fg b W i p.2) (s:=(p.1,List.replicate W.length (0:Int))) (ρ:=[.val<|aw G T W,.val<|.int<|sI b,.val<|nD i,.val<|ae off,.own<|(List.replicate W.length (0:Int)).map PyData.int,.val<|.int p.1,.UQ])
  (λs a j J z=>by
   let(S,x,X):=z;subst X;let(H,_):=di.mp<|(fv h e).mem_iff.mp J;refine{_,_,rfl,Ou H o S,?_,.val<|nD j,rfl};simp[mO,S]) {by simp,_,rfl}
 refine aP ?_;show k9 [.val<|aw G T W,.val<|.int<|sI b,.val<|nD i,.val<|ae off,.UQ,.UQ,.UQ]=_;unfold k9;rw[ao t4,ao t,ao<|eX E (by dsimp! [um h e]) rfl];exact aW rfl
def bA(b:θ)(G T:Γ Pl)(i:Nat):Pl:=(aR b G T).getD i (0,[])
def zu(b:θ)(G T:Γ Pl)(W:Γ Wy)(off s:Γ Int)(i:Nat):Γ Int:=List.zipWith (·+·) s<|tq W off (bA b G T i).1<|fg b W i (bA b G T i).2
def cA(b:θ)(G T:Γ Pl)(W:Γ Wy)(off:Γ Int):Γ Int:=(List.range (aR b G T).length).foldl (zu b G T W off)<|List.replicate W.length 0
def dW(h:i<(aR b G T).length):(aR b G T)[i]?=↑(bA b G T i):=by simp[bA,h]
def qh{off:Γ Int}(h:s.length=W.length):(zu b G T W off s i).length=W.length:=by
 unfold zu;rw[List.length_zipWith,wo,h,Nat.min_self]
def lM(R:S->Prop):∀{l:Γ α}{s:S},(∀s x,x∈l->R s->R (f s x))->R s->R (l.foldl f s)
 |[],s,_,h=>h
 |x::l,s,H,h=>by
  rw[yJ];exact lM (l:=l) R (λs y Y=>H s y<|zC _ Y)<|H s x zE h
def nZ(b:θ)(G T:Γ Pl)(W:Γ Wy)(off:Γ Int):(cA b G T W off).length=W.length:=
 lM (λs:Γ Int=>s.length=W.length) (λs i _ h=>qh h) (by simp)
def Wd.pl(h:Wd G T W)(b:θ):(aR b G T).length<=4:=by
 cases b
 .exact h.g4
 .exact h.t4
def Uk:ak->Δ Out:=(aG (Dl.aO 5 [0,1,2,4]<|ah 4 fy<|aa (ab 0)<|aa (ab 1)<|aa (ab 4)<|aa (ab 2) af)<|bb 3 [3,5]<|av 2 [] (iH<|aa (ab 3)<|aa (ab 5) af) (il 0 1) (λ_=>↑true)<|f2 aQ (ab 0)<|ab 1)
def fI{off:Γ Int}(h:Wd G T W)(o:off.length=W.length)(b:θ) :
  bz [aw G T W,.int<|sI b,ae off]=↑(ae<|cA b G T W off):=by
 have hw:W.length<=16:=h.wl;have p:=h.pl b;have t3:bb 3 [0] (av 1 [] (bu<|f2 aH (ab 0)<|fC<|.int 2) (fG 0) (λ_=>↑true)<|fC<|.int 0) [.val<|aw G T W,.val<|.int<|sI b,.val<|ae off,.UQ,.UQ,.UQ]=↑(.nx [.val<|aw G T W,.val<|.int<|sI b,.val<|ae off,.own<|(List.replicate W.length (0:Int)).map PyData.int,.UQ,.UQ]):=by
  have z:=zeros (fi:=bu<|f2 aH (ab 0)<|fC<|.int 2) (ρ:=bh [.val<|aw G T W,.val<|.int<|sI b,.val<|ae off,.UQ,.UQ,.UQ]) (ds:=W.map aD) rfl (by rw[zD];lia);rw[zD]at z;exact lC z rfl
 let(c,f,Y,x,y,rfl):=nq (tgt:=wY 4) (gb:=Uk) (R:=λs e=>s.length=W.length/\∃x y,e=[.val<|aw G T W,.val<|.int<|sI b,.val<|ae off,.own<|s.map PyData.int,x,y]) nD (zu b G T W off)
  (l:=List.range (aR b G T).length) (s:=List.replicate W.length (0:Int)) (ρ:=[.val<|aw G T W,.val<|.int<|sI b,.val<|ae off,.own<|(List.replicate W.length (0:Int)).map PyData.int,.UQ,.UQ])
  (λs e i H z=>by
   let(S,x,y,X):=z;subst X;have E:=dW<|List.mem_range.mp H;have t:Dl.aO 5 [0,1,2,4] (ah 4 fy<|aa (ab 0)<|aa (ab 1)<|aa (ab 4)<|aa (ab 2) af) [.val<|aw G T W,.val<|.int<|sI b,.val<|ae off,.own<|s.map PyData.int,.val<|nD i,y]=↑(.nx [.val<|aw G T W,.val<|.int<|sI b,.val<|ae off,.own<|s.map PyData.int,.val<|nD i,.val<|ae<|tq W off (bA b G T i).1<|fg b W i (bA b G T i).2]):=by
    refine sd (ρ':=[.val<|aw G T W,.val<|.int<|sI b,.val<|ae off,.own<|s.map PyData.int,.val<|nD i,y]) rfl (d:=ae<|tq W off (bA b G T i).1<|fg b W i (bA b G T i).2) ?_ ?_ rfl
    .dsimp! [pC h o E]
    .dsimp! [pC h o E]
   have g:bb 3 [3,5] (av 2 [] (iH<|aa (ab 3)<|aa (ab 5) af) (il 0 1) (λ_=>↑true)<|f2 aQ (ab 0)<|ab 1) [.val<|aw G T W,.val<|.int<|sI b,.val<|ae off,.own<|s.map PyData.int,.val<|nD i,.val<|ae<|tq W off (bA b G T i).1<|fg b W i (bA b G T i).2]=↑(.nx [.val<|aw G T W,.val<|.int<|sI b,.val<|ae off,.own<|(zu b G T W off s i).map PyData.int,.val<|nD i,.val<|ae<|tq W off (bA b G T i).1<|fg b W i (bA b G T i).2]):=by
    refine v7 (ρ':=[.val<|aw G T W,.val<|.int<|sI b,.val<|ae off,.val<|.list<|s.map PyData.int,.val<|nD i,.val<|ae<|tq W off (bA b G T i).1<|fg b W i (bA b G T i).2]) rfl (ds:=(zu b G T W off s i).map PyData.int) ?_;exact Gh (a:=s) (b:=tq W off (bA b G T i).1<|fg b W i (bA b G T i).2) rfl (by lia)
   exact{_,_,rfl,(ao t).trans g,qh S,_,_,rfl}) {by simp,_,_,rfl}
 refine aP ?_;show fM [.val<|aw G T W,.val<|.int<|sI b,.val<|ae off,.UQ,.UQ,.UQ]=_;unfold fM;rw[ao t3];refine(ao<|eX f (By (by dsimp! [dD,D2,zD])<|by lia) rfl).trans ?_;exact aW rfl
def mW(h:(xs++ys).length<=4000):Dl.aQ (.tuple xs) (.tuple ys)=↑(.tuple<|xs++ys):=by
 simp?[Dl.aQ,xy,LD,bF h,zB,Option.none_or,Option.some_or]
def Q8(h:f ρ=↑d):bq (aa f af) ρ=↑(.tuple [d]):=by
 simp[bq,aa,af,h,zA,zB];rfl
def KA(h:f ρ=↑d)(H:g ρ=↑e):bq (aa f<|aa g af) ρ=↑(.tuple [d,e]):=by
 simp?[bq,aa,af,h,H,zA,zB];rw[bF<|by simp,zB]
def aB(h:g a b=↑c)(H:fa ρ=↑a)(B:fb ρ=↑b):f2 g fa fb ρ=↑c:=by rw[j1 H B,h]
def Bo(h:f ρ=↑(.tuple ds))(H:g ρ=↑(nD k)):nN gP f nG (CN g) ρ=↑(.tuple<|ds.take k):=by
 simp[nN,h,nG,CN,H,zA,gI,zB,gP,FM]
def Ik(h:f ρ=↑(.tuple ds))(H:g ρ=↑(nD k)):nN gP f (CN g) nG ρ=↑(.tuple<|ds.drop k):=by
 simp[nN,h,nG,CN,H,zA,gI,zB,gP,Aq]
def O8(d:D)(ds:Γ D):aH (.tuple (d::ds)) (.int 0)=↑d:=sj (i:=0) rfl
def RJ(c d:D)(ds:Γ D):aH (.tuple (c::d::ds)) (.int 1)=↑d:=sj (i:=1) rfl
def Ce(c:Γ Int)(i:Nat)(v:Int)(h:i<c.length):((c.map PyData.int).take i++[PyData.int v])++(c.map PyData.int).drop (i+1)=(c.set i v).map PyData.int:=by
 rw[List.set_eq_take_append_cons_drop,yM h];simp
def T8(i:Nat):Dl.aQ (nD i) (.int 1)=↑(nD<|i+1):=by
 rfl
def Bb(h:i<c.length)(l:c.length<=1000):cX [ae c,nD i,.int v]=↑(ae<|c.set i v):=by
 apply aP;apply aW;refine aB ?_ (aB (mW ?_) (Bo rfl rfl)<|Q8 rfl)<|Ik rfl (aB (T8 i) rfl rfl)
 .rw[mW,Ce c i v h]
  .rfl
  .rw[Ce c i v h];simp;lia
 grind
def tU(h:i<c.length)(l:c.length<=1000):eS [ae c,nD i,.int v]=↑(ae<|c.set i v):=by
 refine aP ?_;show ui [.val<|ae c,.val<|nD i,.val<|.int v]=_;exact aW<|call_of (Bb h l) rfl rfl
def eE(W:Γ Wy):Γ Int:=W.map λw=>w.2.2
def IL(h:Wd G T W)(F:f ρ=↑(aw G T W)):(b8 cq<|aa (dS<|av 1 [] (bu<|f2 aH f<|fC<|.int 2) (fG 0) (λ_=>↑true) Xs) af) ρ=↑(ae<|eE W):=by
 have hw:=h.wl;have s:(bu<|f2 aH f<|fC<|.int 2) ρ=↑(W.map aD):=by
  unfold bu;rw[aB (dU G T W) F rfl];rfl
 have e:av 1 [] (bu<|f2 aH f<|fC<|.int 2) (fG 0) (λ_=>↑true) Xs ρ=↑((eE W).map PyData.int):=by
  rw[cf (h:=λd=>.int<|lO<|(cM d).getD 2 .none) s (by rw[zD];lia) λd H=>?_]
  .rw[eE,zM,zM];rfl
  .let(w,a,rfl):=List.mem_map.mp H;rfl
 simp?[b8,aa,af,dS,e,zB,zA,LZ]
def m5(h:Wd G T W):rW [aw G T W]=↑(ae<|eE W):=by
 refine aP ?_;show zv [.val<|aw G T W]=_;exact aW<|IL h rfl
def nV(W:Γ Wy):(eE W).length=W.length:=by simp[eE]
def kj(G T:Γ Pl)(W:Γ Wy)(c:Γ Int):Γ Int:=cA true G T W<|cA false G T W c
def qR(G T:Γ Pl)(W:Γ Wy)(c:Γ Int)(k:Nat):θ:=decide ((kj G T W c).getD k 0<(cA false G T W c).getD k 0)
def tJ(G T:Γ Pl)(W:Γ Wy)(c:Γ Int):Δ (Nat×Int):=((List.range W.length).find?<|qR G T W c).map λk=>(k,(kj G T W c).getD k 0)
def BW:Δ (Nat×Int)->D
 |none=>.none
 |some p=>.tuple [nD p.1,.int p.2]
def enum_zip:∀ds k,bZ k ds=(ds.zipIdx k).map λq=>.tuple [nD q.2,q.1]
 |[],k=>rfl
 |d::ds,k=>by rw[bZ,enum_zip ds _,List.zipIdx_cons];rfl
def EJ(l:Γ Int):bZ 0 (l.map PyData.int)=(List.range l.length).map λk=>.tuple [nD k,.int<|l.getD k 0]:=by
 rw[enum_zip];apply jG
 .simp
 .intro i a H;have:i<l.length:=by simpa using H
  simp[this]
def M3(G T:Γ Pl)(W:Γ Wy)(c:Γ Int):(kj G T W c).length=W.length:=nZ _ _ _ _ _
def RK:ak->Δ Out:=(lJ (fB<|f2 JZ (ab 5)<|f2 aH (ab 2)<|ab 4) (aV<|bq<|aa (ab 4)<|aa (ab 5) af) lY)
def lq(h:Wd G T W)(o:c.length=W.length):iA [aw G T W,ae c]=↑(BW<|tJ G T W c):=by
 have hw:W.length<=16:=h.wl;have t:Dl.aO 2 [0,1] (ah 3 bz<|aa (ab 0)<|aa (fC<|.int 0)<|aa (ab 1) af) [.val<|aw G T W,.val<|ae c,.UQ,.UQ,.UQ,.UQ]=↑(.nx [.val<|aw G T W,.val<|ae c,.val<|ae<|cA false G T W c,.UQ,.UQ,.UQ]):=
  cG (call_of (fI h o false) rfl rfl) rfl rfl rfl
 have t3:Dl.aO 3 [0,2] (ah 3 bz<|aa (ab 0)<|aa (fC<|.int 1)<|aa (ab 2) af) [.val<|aw G T W,.val<|ae c,.val<|ae<|cA false G T W c,.UQ,.UQ,.UQ]=↑(.nx [.val<|aw G T W,.val<|ae c,.val<|ae<|cA false G T W c,.val<|ae<|kj G T W c,.UQ,.UQ]):=
  cG (call_of (fI h (nZ _ _ _ _ _) true) rfl rfl) rfl rfl rfl
 have H:=me (tgt:=j4 4 5) (gb:=RK) (R:=λa=>∃x y,a=[.val<|aw G T W,.val<|ae c,.val<|ae<|cA false G T W c,.val<|ae<|kj G T W c,x,y]) (λk=>.tuple [nD k,.int<|(kj G T W c).getD k 0]) (qR G T W c) (λk=>.tuple [nD k,.int<|(kj G T W c).getD k 0])
  (l:=List.range W.length) (ρ:=[.val<|aw G T W,.val<|ae c,.val<|ae<|cA false G T W c,.val<|ae<|kj G T W c,.UQ,.UQ])
  (λa k hk z=>by
   let(x,y,X):=z;subst X;have P:k<(cA false G T W c).length:=by rw[nZ];exact List.mem_range.mp hk
   have hc:(fB<|f2 JZ (ab 5)<|f2 aH (ab 2)<|ab 4) (aS [.val<|aw G T W,.val<|ae c,.val<|ae<|cA false G T W c,.val<|ae<|kj G T W c,.val<|nD k,.val<|.int<|(kj G T W c).getD k 0])=↑(qR G T W c k):=by
    dsimp! [uZ P,nR,qR]
   refine{[.val<|aw G T W,.val<|ae c,.val<|ae<|cA false G T W c,.val<|ae<|kj G T W c,.val<|nD k,.val<|.int<|(kj G T W c).getD k 0],rfl,λq=>?_,λq=>?_}
   .rw[q]at hc;unfold RK;rw[gS hc];exact aW<|KA rfl rfl
   .rw[q]at hc;unfold RK;rw[fO hc];exact{_,rfl,_,_,rfl}) {_,_,rfl}
 have i:(cD<|aa (ab 3) af) (bh [.val<|aw G T W,.val<|ae c,.val<|ae<|cA false G T W c,.val<|ae<|kj G T W c,.UQ,.UQ])=↑((List.range W.length).map λk=>.tuple [nD k,.int<|(kj G T W c).getD k 0]):=by
  have:=EJ<|kj G T W c;rw[M3]at this;rw[<-this];rfl
 refine aP ?_;show oI [.val<|aw G T W,.val<|ae c,.UQ,.UQ,.UQ,.UQ]=_;unfold oI;rw[ao t,ao t3];unfold tJ;cases q:(List.range W.length).find? (qR G T W c)with
 |some k =>
  exact mD (eX (H.1 k q) i rfl)
 |none =>
  let(b,e,x,y,rfl):=H.2 q;exact(ao<|eX e i rfl).trans<|aW rfl
def cP(l:Γ Int)(k:Nat)(v:Int)(i:Nat):(l.set k v).getD i 0=if k=i/\i<l.length then v else l.getD i 0:=by
 by_cases h:k=i
 .subst h;by_cases H:k<l.length
  .simp[H]
  .simp[H]
 .simp[h]
def zq{a b:Γ Int}{i:Nat}(H:i<a.length)(B:i<b.length):(List.zipWith (·+·) a b).getD i 0=a.getD i 0+b.getD i 0:=by
 rw[zG,zG,zG,List.getElem?_zipWith,zK H,zK B];rfl
def Off(off:Γ Int):Prop:=∀i,0<=off.getD i 0
def R7(W:Γ Wy):Prop:=∀i,0<=(aK W i).2.2
def Wd.lim{G T:Γ Pl}{W:Γ Wy}(h:Wd G T W):R7 W:=λi=>by
 by_cases H:i<W.length
 .have:=h.wr (aK W i) (by rw[<-ja H];exact qA H);lia
 .simp?[aK,zG];rw[jK<|by lia];simp
def Wd.amt{G T:Γ Pl}{W:Γ Wy}(h:Wd G T W)(b:θ)(i:Nat):0<=(bA b G T i).1:=by
 unfold bA;rw[zG];cases e:(aR b G T)[i]? with
 |none=>simp
 |some p =>
  have m:=qB e;cases b
  .exact (h.ga p m).1
  .exact (h.ta p m).1
def OH{W:Γ Wy}{off:Γ Int}(o:Off off)(L:R7 W){amt:Int}(a:0<=amt)(is:Γ Nat)(i:Nat):0<=(tq W off amt is).getD i 0/\(tq W off amt is).getD i 0<=off.getD i 0:=by
 have:=lM (l:=is) (f:=mO W off) (s:=(amt,List.replicate W.length 0)) (λs=>0<=s.1/\∀i,0<=s.2.getD i 0/\s.2.getD i 0<=off.getD i 0) (λs k _ z=>by
  let(c,H):=z;have O:=o k;have K:=L k;have v:0<=cV W off s.1 k:=by unfold cV;lia
  have b:cV W off s.1 k<=off.getD k 0:=by unfold cV;lia
  have d:cV W off s.1 k<=s.1:=by unfold cV;lia
  refine{by simp?[mO];lia,λi=>?_};simp?[mO,cP];split
  .rename_i z;rw[<-z.1];exact⟨v,b⟩
  .exact H i) ⟨a,λi=>by
   have:=o i;have z:(List.replicate W.length (0:Int)).getD i 0=0:=by
    simp?[zG,yY];split<;>rfl
   simp?[z];lia⟩
 exact this.2 i
def Ds{W:Γ Wy}{off:Γ Int}{amt:Int}{is:Γ Nat}{i:Nat}(hi:i∉is):(tq W off amt is).getD i 0=0:=by
 refine lM (l:=is) (f:=mO W off) (s:=(amt,List.replicate W.length 0)) (λs=>s.2.getD i 0=0) (λs k hk h=>?_) ?_
 .simp?[mO,cP];have H:¬(k=i/\i<s.2.length):=λz=>hi<|z.1▸hk;rw[yO H,h]
 .simp?[zG,yY];split<;>rfl
def uX{G T:Γ Pl}{W:Γ Wy}(h:Wd G T W){off:Γ Int}(o:Off off)(b:θ):∀(n:Nat),n<=(aR b G T).length ->
  ((List.range n).foldl (zu b G T W off)<|List.replicate W.length 0).length=W.length/\∀i,i<W.length->(0<=((List.range n).foldl (zu b G T W off)<|List.replicate W.length 0).getD i 0/\((List.range n).foldl (zu b G T W off)<|List.replicate W.length 0).getD i 0<=off.getD i 0)/\((n:Nat)<=aX b (aK W i)->((List.range n).foldl (zu b G T W off)<|List.replicate W.length 0).getD i 0=0)
 |0,_=>by
  refine{by simp,λi H=>?_};have:=o i;have z:((List.range 0).foldl (zu b G T W off)<|List.replicate W.length 0).getD i 0=0:=by simp[zG,H]
  rw[z];exact{by lia,λ_=>rfl}
 |n+1,N=>by
  let(a,c):=uX h o b n (by lia);rw[vP,vA,yJ,List.foldl_nil];generalize (List.range n).foldl (zu b G T W off) (List.replicate W.length 0)=s at a c;refine{qh a,λi H=>?_};let(f,d):=c i H;have e:=dW (b:=b) (G:=G) (T:=T) (i:=n) (by lia);have hc:=OH o h.lim (h.amt b n) (fg b W n (bA b G T n).2) i;have Z:(zu b G T W off s n).getD i 0=s.getD i 0+(tq W off (bA b G T n).1<|fg b W n (bA b G T n).2).getD i 0:=zq (by lia) (by rw[wo];exact H);rw[Z];by_cases E:aX b (aK W i)=n
  .rw[d<|by lia];exact{by lia,λz=>by lia}
  .have I:i∉fg b W n (bA b G T n).2:=λz=>E (di.mp<|(fv h e).mem_iff.mp z).2;rw[Ds I];exact{by lia,λz=>by rw[d<|by lia];rfl}
def sG{l:Γ Int}{i:Nat}(h:l.length<=i):l.getD i 0=0:=by simp[zG,h]
def iP{G T:Γ Pl}{W:Γ Wy}(h:Wd G T W){off:Γ Int}(o:Off off)(b:θ):Off (cA b G T W off):=λi=>by
 by_cases H:i<W.length
 .exact ((uX h o b _<|yN _).2 i H).1.1
 .rw[sG (by rw[nZ];lia)];exact xZ 0
def AZ{G T:Γ Pl}{W:Γ Wy}(h:Wd G T W){off:Γ Int}(o:Off off)(b:θ){i:Nat}(hi:i<W.length):(cA b G T W off).getD i 0<=off.getD i 0:=
 ((uX h o b _<|yN _).2 i hi).1.2
def Cd{G T:Γ Pl}{W:Γ Wy}(h:Wd G T W){c:Γ Int}(o:Off c){p:Nat×Int}(e:tJ G T W c=↑p):p.1<W.length/\0<=p.2/\p.2<c.getD p.1 0:=by
 unfold tJ at e;let(k,hk,rfl):=Dl.ag e;have m:=jW hk;have q:=vR hk;have i:=List.mem_range.mp m;rw[qR,zJ]at q;have a:=AZ h o false i;have b:=iP h (iP h o false) true k;exact{i,b,by simp only;lia}
def WE(c:Γ Int):Nat:=(c.map Int.toNat).sum
def C4:∀{c:Γ Int}{k:Nat}{v:Int},0<=v->v<c.getD k 0->WE (c.set k v)<WE c
 |[],k,v,a,H=>by simp at H;lia
 |x::c,0,v,a,H=>by
  simp at H;simp?[WE,yW,zI,kA];lia
 |x::c,k+1,v,a,H=>by
  have:=C4 (c:=c) (k:=k) a (by simpa using H);simp?[WE,yX,zI,kA]at this ⊢;lia
def B9:∀{W:Γ Wy},(∀w∈W,w.2.2<=9)->WE (eE W)<=9*W.length
 |[],_=>by simp[WE,eE]
 |w::W,h=>by
  have:=B9 (W:=W) λx H=>h x<|zC _ H;have:=h w zE;simp?[WE,eE,zI,kA,zL]at *;lia
def LH{G T:Γ Pl}{W:Γ Wy}(h:Wd G T W):Off (eE W):=λi=>by
 have:=h.lim i;by_cases H:i<W.length
 .simpa [eE,aK,zG,H]using this
 .rw[sG (by rw[nV];lia)];exact xZ 0
def CG{c:Γ Int}(h:Off c){k:Nat}{v:Int}(H:0<=v):Off (c.set k v):=λi=>by
 rw[cP];split
 .exact H
 .exact h i
def Bt(a:Γ Int):SeqAt.shaped (ae a)=true:=
 (iV.tup (b:=a.length) (k:=0) (by simp) λx H=>by let(i,_,rfl):=List.mem_map.mp H;apply ni).shaped (by decide)
def Ai(a b:Γ Int):PyData.eqv (ae a) (ae b)=decide (a=b):=by
 rw[ae,ae,PyData.eqv,sT]
def du(h:f ρ=↑(.bool b)):fB f ρ=↑b:=by
 simp[fB,h,zA,gB]
def gM(h:t ρ=↑b):cY t ρ=↑(!b):=by
 simp[cY,h,zB]
def zf(a b:Γ Int):dX (ae a) (ae b)=↑(.bool<|!decide (a=b)):=by
 simp[dX,Pd,Bt,jN,xH,Ai,zB]
def pj(a:Γ Int):dX (ae a) (ae a)=↑(.bool false):=by rw[zf];simp
def o7(a b:Γ (Γ Int)):dX (.list<|a.map ae) (.list<|b.map ae)=↑(.bool<|!decide (a=b)):=by
 simp?[dX,Pd,pF,jN,xH,PyData.eqv,sZ,zB]
def Lz(x:Δ (Nat×Int)):ye (BW x) .none=↑(.bool x.isSome):=by cases x<;>rfl
def bE(A:f (aS ρ)=↑d)(F:f (bh ρ)=↑d)(H:hand fz 0 ρ=ρ):Dl.aO i fz f ρ=↑(.nx<|ρ.set i<|.val d):=by
 cases s:Dl.nP d with
 |true=>exact dN A s
 |false=>exact sd H A F s<|.inr rfl
def G7(A:f (aS ρ)=↑d)(F:f (bh ρ)=↑d)(H:hand fz 0 ρ=ρ)(o:ρ[i]?=↑(.own ds))(l:ds.length<4000):lN i fz f ρ=↑(.nx<|ρ.set i<|.own<|ds++[d]):=by
 have z:ds.length<sizeLine:=zP l (by decide);have I:lX fz f ρ=↑(d,ρ):=by
  unfold lX;rw[A,zA,H,F];cases Dl.nP d<;>rfl
 simp?[lN,I,zA,qd,o,z,xH,zB]
def bY(h:Wd G T W):cH [aw G T W]=↑.none:=by
 have hw:dH [aw G T W]=↑(.bool true):=by rw[Br h.fit<|by decide,h.wok]
 have hc:zq1 (aS [.val<|aw G T W])=↑false:=gM<|du<|call_of hw rfl rfl;have:eZ [.val<|aw G T W]=↑(.nx [.val<|aw G T W]):=by
  unfold eZ;rw[fO hc]
 show(eZ [.val<|aw G T W]).map _=_;rw[this];rfl
def gZ(H:a<=i)(c:i<=b):dA [.int i,.int a,.int b]=↑.none:=by
 have hw:bM [.int i,.int a,.int b]=↑(.bool true):=by rw[gF rfl];simp[whole,H,c]
 have hc:zq4 (aS [.val<|.int i,.val<|.int a,.val<|.int b])=↑false:=gM<|du<|call_of hw rfl rfl;have:eV [.val<|.int i,.val<|.int a,.val<|.int b]=↑(.nx [.val<|.int i,.val<|.int a,.val<|.int b]):=by
  unfold eV;rw[fO hc]
 show(eV [.val<|.int i,.val<|.int a,.val<|.int b]).map _=_;rw[this];rfl
def gw(H:0<=i)(a:i<=n-1):cg [.int i,.int n]=↑.none:=by
 have:eJ [.val<|.int i,.val<|.int n]=↑(.nx [.val<|.int i,.val<|.int n]):=by
  unfold eJ;exact dw<|call_of (gZ H a) (cons_of rfl (cons_of rfl (cons_of (aB (sub_int n 1) rfl rfl) rfl))) rfl
 show(eJ [.val<|.int i,.val<|.int n]).map _=_;rw[this];rfl
def vt(b:θ):jc [.int<|sI b]=↑.none:=by
 have:fU [.val<|.int<|sI b]=↑(.nx [.val<|.int<|sI b]):=by
  unfold fU;exact dw<|call_of (gw (n:=2) (i:=sI b) (by cases b<;>decide) (by cases b<;>decide)) rfl rfl
 show(fU [.val<|.int<|sI b]).map _=_;rw[this];rfl
abbrev Sp:=Γ (Nat×Int)×Γ Int
def Of(G T:Γ Pl)(W:Γ Wy)(s:Sp):θ:=(tJ G T W s.2).isSome
def spS(G T:Γ Pl)(W:Γ Wy)(s:Sp):Sp:=match tJ G T W s.2 with|some p=>(s.1++[p],s.2.set p.1 p.2)|none=>s
def low(c:Γ Int)(p:Nat×Int):Γ Int:=c.set p.1 p.2
structure C5(W:List Wy)(s:Sp):Prop where
 len:s.2.length=W.length
 off:Off s.2
 eq:s.2=s.1.foldl low (eE W)
 bd:s.1.length+WE s.2<=WE (eE W)
 mem:∀p∈s.1,p.1<W.length
def C5.start(h:Wd G T W):C5 W ([],eE W):={nV W,LH h,rfl,by simp,λp H=>by cases H}
def xk(e:tJ G T W s.2=↑p):spS G T W s=(s.1++[p],s.2.set p.1 p.2):=by
 unfold spS;rw[e]
def C5.step(h:Wd G T W)(i:C5 W s)(e:tJ G T W s.2=↑p):C5 W (spS G T W s)/\WE (spS G T W s).2<WE s.2:=by
 let(a,H,b):=Cd h i.off e;have m:=C4 H b;rw[xk e];refine{{by simp[i.len],CG i.off H,?_,?_,λq Q=>?_},m}
 .rw[vA,<-i.eq];rfl
 .have:=i.bd;simp?[zN,xD];lia
 .rcases List.mem_append.mp Q with z|z
  .exact i.mem q z
  .rw[yK]at z;rw[z];exact a
def Wd.WE(h:Wd G T W):WE (eE W)<=144:=by
 have:=B9 (W:=W) λw hw=>(h.wr w hw).2.2.2;have:=h.wl;lia
def fN(r:Γ (Nat×Int)):Γ D:=(r.map λp=>[((p.1:Nat):Int),p.2]).map ae
def Lf(r:Γ (Nat×Int))(p:Nat×Int):fN (r++[p])=fN r++[BW<|↑p]:=by simp[fN];rfl
def K3(r:Γ (Nat×Int)):(fN r).length=r.length:=by simp[fN]
def fin(G T:Γ Pl)(W:Γ Wy):Sp:=lp (Of G T W) (spS G T W) Rf.turns ([],eE W)
def RN:ak->Δ Out:=(aG (lN 1 [3]<|ab 3)<|aG (Dl.aO 2 [2,3]<|ah 3 eS<|aa (ab 2)<|aa (f2 aH (ab 3)<|fC<|.int 0)<|aa (f2 aH (ab 3)<|fC<|.int 1) af)<|Dl.aO 3 [0,2]<|ah 2 iA<|aa (ab 0)<|aa (ab 2) af)
def Mw(G T:Γ Pl)(W:Γ Wy)(s:Sp):ak:=[.val<|aw G T W,.own<|fN s.1,.val<|ae s.2,.val<|BW<|tJ G T W s.2]
def Kp(h:Wd G T W)(i:C5 W s)(e:tJ G T W s.2=↑p):RN (Mw G T W s)=↑(.nx<|Mw G T W<|spS G T W s):=by
 let(f,j,k):=Cd h i.off e;let(I,m):=i.step h e;have B:=h.WE;have D:=i.bd;have hw:=h.wl;have t:lN 1 [3] (ab 3) (Mw G T W s)=↑(.nx [.val<|aw G T W,.own<|fN s.1++[BW<|↑p],.val<|ae s.2,.val<|BW<|↑p]):=by
  unfold Mw;rw[e];exact G7 rfl rfl rfl rfl (by rw[K3];lia)
 have A:∀d:Dl.Env,ab 2 d=↑(ae s.2)->ab 3 d=↑(BW<|↑p)->(ah 3 eS<|aa (ab 2)<|aa (f2 aH (ab 3)<|fC<|.int 0)<|aa (f2 aH (ab 3)<|fC<|.int 1) af) d=↑(ae<|s.2.set p.1 p.2):=λd a b =>
  call_of (tU (c:=s.2) (i:=p.1) (v:=p.2) (by rw[i.len];exact f) (by rw[i.len];lia)) (cons_of a<|cons_of (aB (O8 _ _) b rfl)<|cons_of (aB (RJ _ _ _) b rfl) rfl) rfl
 have g:Dl.aO 2 [2,3] (ah 3 eS<|aa (ab 2)<|aa (f2 aH (ab 3)<|fC<|.int 0)<|aa (f2 aH (ab 3)<|fC<|.int 1) af) [.val<|aw G T W,.own<|fN s.1++[BW<|↑p],.val<|ae s.2,.val<|BW<|↑p]=↑(.nx [.val<|aw G T W,.own<|fN s.1++[BW<|↑p],.val<|ae<|s.2.set p.1 p.2,.val<|BW<|↑p]):=
  bE (A _ rfl rfl) (A _ rfl rfl) rfl
 have H:(s.2.set p.1 p.2).length=W.length:=by rw[yD,i.len]
 have t3:Dl.aO 3 [0,2] (ah 2 iA<|aa (ab 0)<|aa (ab 2) af) [.val<|aw G T W,.own<|fN s.1++[BW<|↑p],.val<|ae<|s.2.set p.1 p.2,.val<|BW<|↑p]=↑(.nx [.val<|aw G T W,.own<|fN s.1++[BW<|↑p],.val<|ae<|s.2.set p.1 p.2,.val<|BW<|tJ G T W<|s.2.set p.1 p.2]):=
  bE (call_of (lq h H) rfl rfl) (call_of (lq h H) rfl rfl) rfl
 unfold RN;rw[ao t,ao g,t3,xk e];unfold Mw;rw[Lf]
def sM(h:Of G T W s=true):∃p,tJ G T W s.2=↑p:=Option.isSome_iff_exists.mp h
def JY(h:Wd G T W):uV [aw G T W]=↑(.list<|fN (fin G T W).1)/\C5 W (fin G T W):=by
 have b:=h.WE;have c:bb 1 [] zq6 [.val<|aw G T W,.UQ,.UQ,.UQ]=↑(.nx [.val<|aw G T W,.own [],.UQ,.UQ]):=lC (f:=j6 af) (ds:=[]) (show small []=↑[]from bF<|by simp) rfl;have d:Dl.aO 2 [0] zq7 [.val<|aw G T W,.own [],.UQ,.UQ]=↑(.nx [.val<|aw G T W,.own [],.val<|ae<|eE W,.UQ]):=
  bE (call_of (m5 h) rfl rfl) (call_of (m5 h) rfl rfl) rfl
 have t3:Dl.aO 3 [0,2] zq9 [.val<|aw G T W,.own [],.val<|ae<|eE W,.UQ]=↑(.nx<|Mw G T W ([],eE W)):=
  bE (call_of (lq h<|nV W) rfl rfl) (call_of (lq h<|nV W) rfl rfl) rfl
 let(g,w,(rfl,v),_):=y2 (t:=acM) (gb:=RN) (R:=λs a=>a=Mw G T W s/\C5 W s) (Of G T W) (spS G T W) (λs=>WE s.2)
  (λs a z=>by
   let(X,i):=z;subst X;exact du<|aB (Lz _) rfl rfl)
  (λs a z hc=>by
   let(X,i):=z
   subst X;let(p,e):=sM hc;exact{_,Kp h i e,{rfl,(i.step h e).1},(i.step h e).2})
  Rf.turns ([],eE W) (Mw G T W ([],eE W)) (qY b<|by decide) {rfl,C5.start h}
 refine{?_,v};refine aP ?_;show v5 [.val<|aw G T W,.UQ,.UQ,.UQ]=_;unfold v5;rw[ao c,ao d,ao t3];refine(ao w).trans ?_;exact aW rfl
def K4(c:Γ Int)(p:Nat×Int):(low c p).length=c.length:=by simp[low]
def Gu(h:Wd G T W)(b:∀p∈r,p.1<W.length):rg [aw G T W,.list<|fN r]=↑(ae<|r.foldl low<|eE W):=by
 have hw:=h.wl;have d:Dl.aO 2 [0] zq7 [.val<|aw G T W,.val<|.list<|fN r,.UQ,.UQ,.UQ]=↑(.nx [.val<|aw G T W,.val<|.list<|fN r,.val<|ae<|eE W,.UQ,.UQ]):=
  bE (call_of (m5 h) rfl rfl) (call_of (m5 h) rfl rfl) rfl
 let(f,E,Y,x,y,rfl):=nq (tgt:=j4 3 4) (gb:=Dl.aO 2 [2,3,4] abh) (R:=λ(c:Γ Int)a=>c.length=W.length/\∃x y,a=[.val<|aw G T W,.val<|.list<|fN r,.val<|ae c,x,y]) (λp:Nat×Int=>ae [((p.1:Nat):Int),p.2]) low
  (l:=r) (s:=eE W) (ρ:=[.val<|aw G T W,.val<|.list<|fN r,.val<|ae<|eE W,.UQ,.UQ])
  (λc a p H z=>by
   let(hc,x,y,X):=z;subst X;have e:=tU (c:=c) (i:=p.1) (v:=p.2) (by rw[hc];exact b p H) (by lia);have t:Dl.aO 2 [2,3,4] abh [.val<|aw G T W,.val<|.list<|fN r,.val<|ae c,.val<|nD p.1,.val<|.int p.2]=↑(.nx [.val<|aw G T W,.val<|.list<|fN r,.val<|ae<|low c p,.val<|nD p.1,.val<|.int p.2]):=
    bE (call_of e rfl rfl) (call_of e rfl rfl) rfl
   exact{_,_,rfl,t,by rw[K4,hc],_,_,rfl}) {nV W,_,_,rfl}
 refine aP ?_;show sy [.val<|aw G T W,.val<|.list<|fN r,.UQ,.UQ,.UQ]=_;unfold sy;rw[ao d];refine(ao<|eX E ?_ rfl).trans<|aW rfl;show some (fN r)=_;rw[fN,zM];rfl
def tx(h:Wd G T W):aU [aw G T W]=↑(ae<|cA false G T W (fin G T W).2):=by
 let(E,i):=JY h;have e:=Gu h i.mem;rw[<-i.eq]at e;refine aP ?_;show gY [.val<|aw G T W]=_;unfold gY;refine(ao<|dw<|call_of (bY h) rfl rfl).trans ?_;exact aW<|call_of (fI h i.len false) (cons_of rfl (cons_of rfl (cons_of (call_of e (cons_of rfl (cons_of (call_of E rfl rfl) rfl)) rfl) rfl))) rfl
def Jh(w:Wy):Wy:=(w.2.1,w.1,w.2.2)
structure Ord(W:List Wy)(π:List Nat):Prop where
 perm:π.Perm (List.range W.length)
 up:π.Pairwise λi j=>(aK W i).2.1<(aK W j).2.1\/((aK W i).2.1=(aK W j).2.1/\(aK W i).1<(aK W j).1)
def AK(b:θ)(W:Γ Wy)(P:Γ Int)(p:Int):Int:=((own b W p).map λi=>P.getD i 0).sum
def Iv{l m:Γ Int}(p:l.Perm m):l.sum=m.sum:=by
 induction p with
 |nil=>rfl
 |cons x _ i=>simp[i]
 |swap x y l=>simp?[kA];lia
 |trans _ _ H a=>exact H.trans a
def AB(L:Γ Int)(x:Int):Nat:=L.findIdx λo=>decide (o=x)
def HY(b:θ)(G T:Γ Pl)(W:Γ Wy)(P:Γ Int)(k:Nat):θ:=
 decide (AK b W P (aX b<|aK W k)<(bA b G T (aX b<|aK W k).toNat).1) ||
 ((bA b G T (aX b<|aK W k).toNat).2.drop<|AB (bA b G T (aX b<|aK W k).toNat).2 (bB b<|aK W k)+1).any λo=>decide (0<P.getD (xu b W (aX b<|aK W k) o) 0)
def vy(G T:Γ Pl)(W:Γ Wy)(P:Γ Int)(k:Nat):Nat:=
 if P.getD k 0=(aK W k).2.2 then 0 else if HY false G T W P k=false then 1 else if HY true G T W P k=false then 2 else 3
def M6(G T:Γ Pl)(W:Γ Wy)(P:Γ Int):Γ Nat:=(List.range W.length).filter λk=>decide (vy G T W P k=3)
def Wd.Vl(h:Wd G T W)(b:θ)(hk:k<W.length):0<=aX b (aK W k)/\(aX b<|aK W k).toNat<(aR b G T).length/\(aX b<|aK W k).toNat=aX b (aK W k):=by
 have:=h.wr (aK W k) (by rw[<-ja hk];simp);cases b
 .simp[aX,aR,yP,qN];lia
 .simp[aX,aR,xH];lia
structure Pn(G T:List Pl)(W:List Wy)(P:List Int):Prop where
 len:P.length=W.length
 bd:∀k,k<W.length->0<=P.getD k 0/\P.getD k 0<=(aK W k).2.2
 am:∀(b:θ)(i:Nat),i<(aR b G T).length->AK b W P i<=(bA b G T i).1
section
variable {off:Γ Int}
def CW(h:Wd G T W)(b:θ):∀(n:Nat),n<=(aR b G T).length ->
  ((List.range n).foldl (zu b G T W off)<|List.replicate W.length 0).length=W.length/\∀k,k<W.length ->
   ((List.range n).foldl (zu b G T W off)<|List.replicate W.length 0).getD k 0=if aX b (aK W k)<n then(tq W off (bA b G T (aX b<|aK W k).toNat).1<|fg b W (aX b<|aK W k).toNat (bA b G T (aX b<|aK W k).toNat).2).getD k 0 else 0
 |0,_=>by
  refine{by simp,λk hk=>?_};let(H,_,_):=h.Vl b hk;rw[yO<|by lia];simp[zG,hk]
 |n+1,d=>by
  let(H,a):=CW h b n (by lia);rw[vP,vA,yJ,List.foldl_nil];generalize (List.range n).foldl (zu b G T W off) (List.replicate W.length 0)=s at H a;refine{qh H,λk hk=>?_};have Z:(zu b G T W off s n).getD k 0=s.getD k 0+(tq W off (bA b G T n).1<|fg b W n (bA b G T n).2).getD k 0:=zq (by lia) (by rw[wo];exact hk);rw[Z,a k hk];let(g,_,_):=h.Vl b hk;have e:=dW (b:=b) (G:=G) (T:=T) (i:=n) (by lia);by_cases E:aX b (aK W k)=n
  .have N:(aX b<|aK W k).toNat=n:=by lia
   rw[yO<|by lia,yM<|by lia,N];lia
  .have I:k∉fg b W n (bA b G T n).2:=λz=>E (di.mp<|(fv h e).mem_iff.mp z).2;rw[Ds I];by_cases c:aX b (aK W k)<n
   .rw[yM c,yM<|by lia];lia
   .rw[yO c,yO<|by lia];rfl
def Gd(h:Wd G T W)(b:θ)(hk:k<W.length):(cA b G T W off).getD k 0=(tq W off (bA b G T (aX b<|aK W k).toNat).1<|fg b W (aX b<|aK W k).toNat (bA b G T (aX b<|aK W k).toNat).2).getD k 0:=by
 have:=(CW (off:=off) h b _<|yN _).2 k hk;let(_,H,a):=h.Vl b hk;rw[yM<|by lia]at this;exact this
def CK{amt:Int}:∀(is:Γ Nat)(s:Int×Γ Int),is.Nodup->(∀i∈is,i<s.2.length/\s.2.getD i 0=0) ->
  ((is.foldl (mO W off) s).2.length=s.2.length)/\(is.map λi=>(is.foldl (mO W off) s).2.getD i 0).sum=s.1-(is.foldl (mO W off) s).1/\∀j,j∉is->(is.foldl (mO W off) s).2.getD j 0=s.2.getD j 0
 |[],s,_,_=>{rfl,by simp,λ_ _=>rfl}
 |i::is,s,n,Z=>by
  rw[kR]at n;let(I,c):=Z i zE;have S:∀j∈is,j<(mO W off s i).2.length/\(mO W off s i).2.getD j 0=0:=λj H=>by
   let(a,b):=Z j<|zC _ H;refine{by simpa [mO]using a,?_};simp?[mO,cP];have U:¬(i=j/\j<s.2.length):=λz=>n.1<|z.1▸H;rw[yO U,b]
  let(r1,R,r):=CK (amt:=amt) is (mO W off s i) n.2 S;rw[yJ];refine{by rw[r1];simp[mO],?_,λj H=>?_}
  .rw[zI,kA,R,r i n.1];simp?[mO,cP];rw[yM {trivial,I}];lia
  .rw[r j λz=>H<|zC _ z];simp?[mO,cP];have U:¬(i=j/\j<s.2.length):=λz=>H<|z.1▸zE;rw[yO U]
def Aj(o:Off off)(l:R7 W):∀(is:Γ Nat)(s:Int×Γ Int),0<=s.1->0<=(is.foldl (mO W off) s).1
 |[],s,h=>h
 |i::is,s,h=>by
  rw[yJ];refine Aj o l is _ ?_;simp?[mO,cV];have:=o i;have:=l i;lia
def LU(h:Wd G T W)(o:Off off)(hi:i<(aR b G T).length) :
  ((own b W i).map λk=>(tq W off (bA b G T i).1<|fg b W i (bA b G T i).2).getD k 0).sum<=(bA b G T i).1:=by
 have e:=dW hi;have p:=fv h e;rw[<-Iv<|p.map λk=>(tq W off (bA b G T i).1<|fg b W i (bA b G T i).2).getD k 0];have n:(fg b W i (bA b G T i).2).Nodup:=p.nodup_iff.mpr<|List.nodup_range.filter _;let(_,r,_):=CK (W:=W) (off:=off) (amt:=0) (fg b W i (bA b G T i).2) ((bA b G T i).1,List.replicate W.length 0) n λk hk=>by
  have P:=(di.mp<|p.mem_iff.mp hk).1;refine{by simpa using P,by simp[zG,P]}
 have:=Aj o h.lim (fg b W i (bA b G T i).2) ((bA b G T i).1,List.replicate W.length 0)<|h.amt b i;unfold tq;rw[r];show(bA b G T i).1-_<=(bA b G T i).1;lia
def DC(h:Wd G T W)(o:Off off)(hi:i<(aR b G T).length):AK b W (cA b G T W off) i<=(bA b G T i).1:=by
 refine jS (Int.le_of_eq ?_)<|LU h o hi;unfold AK
 congr 1
 refine yI λk hk=>?_;let(P,e):=di.mp hk;have:=Gd (off:=off) h b P;rw[e,yH]at this;exact this
def Em(h:∀k,k<W.length->P.getD k 0=Q.getD k 0):AK b W P p=AK b W Q p:=by
 unfold AK
 congr 1
 exact yI λk hk=>h k (di.mp hk).1
def KL(h:Wd G T W)(o:Off c)(hc:∀k,k<W.length->c.getD k 0<=(aK W k).2.2)(e:tJ G T W c=none):Pn G T W (cA false G T W c) where
 len:=nZ _ _ _ _ _
 bd:=λk hk=>{iP h o false k,jS (AZ h o false hk)<|hc k hk}
 am:=λb i I=>by
  cases b
  .exact DC h o I
  .have H:∀k,k<W.length->(kj G T W c).getD k 0=(cA false G T W c).getD k 0:=λk hk=>by
    have f:=AZ h (iP h o false) true hk;have a:qR G T W c k=false:=by
     unfold tJ at e;rw[Option.map_eq_none_iff]at e;have:=List.find?_eq_none.mp e k (by simpa using hk);simpa using this
    unfold qR at a;have d:=of_decide_eq_false a;unfold kj at d ⊢;lia
   rw[<-Em H];exact DC h (iP h o false) I
end
def zs(n:Nat):Γ Int:=List.replicate n 0
section
variable {W:Γ Wy}{G T:Γ Pl}{d:Nat->Int}
end
section
variable {P off:Γ Int}
def IR:∀(xs:Γ Nat),(∀i∈xs,0<=off.getD i 0)->0<=(xs.map λi=>off.getD i 0).sum
 |[],_=>by simp
 |i::xs,h=>by
  have:=IR xs λj H=>h j<|zC _ H;have:=h i zE;rw[zI,kA];lia
def CV:∀(xs:Γ Nat),(∀i∈xs,0<=P.getD i 0)->(0<(xs.map λi=>P.getD i 0).sum↔(xs.any λi=>decide (0<P.getD i 0))=true)
 |[],_=>by simp
 |i::xs,h=>by
  have I:=CV xs λj H=>h j<|zC _ H;have a:=IR (off:=P) xs λj H=>h j<|zC _ H;have b:=h i zE;rw[zI,kA,List.any_cons,jA,zJ,<-I];lia
def Kv(h:Wd G T W){b:θ}(hk:k<W.length) :
  let i:=(aX b<|aK W k).toNat;let L:=(bA b G T i).2
  fg b W i L=(L.take<|AB L<|bB b<|aK W k).map (xu b W i)++k::(L.drop<|AB L (bB b<|aK W k)+1).map (xu b W i):=by
 intro i L;let(d,a,H):=h.Vl b hk;have m:bB b (aK W k)∈L:=by
  rw[(h.lik<|dW a).mem_iff,<-qk];exact List.mem_map.mpr {k,di.mpr {hk,H.symm},rfl}
 have c:AB L (bB b<|aK W k)<L.length:=by
  exact kK {_,m,by simp}
 have g:L[AB L _]=bB b (aK W k):=by
  have:=List.findIdx_getElem (w:=c);exact yR this
 unfold fg
 conv=>lhs;rw[<-List.take_append_drop _ L,kY c,g,qZ,zI,(uM h.wp<|di.mpr {hk,H.symm})]
end
def ub{tt:Dl.Env->Δ θ}{te:Dl.Env->Δ D}{r:Γ (Δ D)}{x y h:Nat->D}{p:Nat->θ}:∀(is:Γ Nat),
  (∀i∈is,tt (↑(x i)::↑(y i)::r)=↑(p i)/\(p i=true->te (↑(x i)::↑(y i)::r)=↑(h i))) ->
  df (il 0 1) tt te (none::none::r) (is.map λi=>.tuple [x i,y i])=↑((is.filter p).map h)
 |[],_=>rfl
 |i::is,a=>by
  let(b,c):=a i zE;have I:=ub is λj J=>a j<|zC _ J;have g:il 0 1 (none::none::r) (.tuple [x i,y i])=↑(↑(x i)::↑(y i)::r):=by
   simp?[il,isFree,xQ,yZ,qG,wG,jN,xH,yW,yX]
  rw[zI,df,g];simp?[zA,b];cases H:p i with
  |true=>simp[c H,I,H]
  |false=>simp[I,H]
def kn{fi:Dl.Env->Δ _}{tt:Dl.Env->Δ θ}{te:Dl.Env->Δ D}{ρ:Dl.Env}{n:Nat}{x y h:Nat->D}{p:Nat->θ}(W:fi ρ=↑((List.range n).map λi=>.tuple [x i,y i]))(l:n<=1000)
  (H:∀i,i<n->tt (↑(x i)::↑(y i)::cs.map λj=>(ρ[j]?).getD none)=↑(p i)/\(p i=true->te (↑(x i)::↑(y i)::cs.map λj=>(ρ[j]?).getD none)=↑(h i))) :
  av 2 cs fi (il 0 1) tt te ρ=↑(((List.range n).filter p).map h):=by
 have:=ub (List.range n) λi I=>H i (by simpa using I);simp[av,W,zA,eK,List.replicate,xF,xO,this];apply bF
 grind
def lI{W:Γ Wy}{P:Γ Int}(h:P.length=W.length):mw (W.map aD) (P.map PyData.int)=(List.range W.length).map λi=>.tuple [aD<|aK W i,.int<|P.getD i 0]:=by
 apply List.ext_getElem?;intro i;by_cases H:i<W.length
 .have z:i<(mw (W.map aD)<|P.map .int).length:=by rw[nU];simp[h];exact H
  rw[zK z];let(x,y,E,e,a):=rK<|zK z;rw[zO,je H]at E;rw[zO,zK<|by lia]at e;cases E;have e:=by simpa using e
  rw[a,<-e];have:i<P.length:=by lia
  simp[H,this,zG]
 .rw[jK (by rw[nU];grind),jK<|by grind]
def Sm(P:Γ Int):Prop:=∀k,-1000000<=P.getD k 0/\P.getD k 0<=1000000
def KC(hs:Sm P)(hw:W.length<=16)(b:θ)(p:Int):Ph ((own b W p).map λi=>P.getD i 0)=true:=by
 rw[Ph,zF,zJ,xG];refine{?_,λx H=>?_}
 .have:=u6 b W p
  grind
 .let(i,_,rfl):=List.mem_map.mp H;rw[zF,zJ,zJ];exact hs i
def uF(h:Wd G T W)(H:P.length=W.length)(hs:Sm P)(b:θ)(p:Int):gf [aw G T W,ae P,.int<|sI b,.int p]=↑(.int<|AK b W P p):=by
 have hw:=h.wl;apply aP;have z:iH (aa (f2 aH (ab 0)<|fC<|.int 2)<|aa (ab 1) af) [↑(aw G T W),↑(ae P),↑(.int<|sI b),↑(.int p)]=↑((List.range W.length).map λi=>.tuple [aD<|aK W i,.int<|P.getD i 0]):=by
  rw[<-lI H];rfl
 have c:av 2 [2,3] (iH<|aa (f2 aH (ab 0)<|fC<|.int 2)<|aa (ab 1) af) (il 0 1) (fB<|f2 bS (f2 aH (ab 0)<|ab 2)<|ab 3) (ab 1) [↑(aw G T W),↑(ae P),↑(.int<|sI b),↑(.int p)]=↑((own b W p).map λi=>.int<|P.getD i 0):=by
  rw[kn z (by lia) λi I=>{?_,λ_=>rfl}]
  .rfl
  .exact du<|by rw[j1 (aB (nK b _) rfl rfl) rfl,cF]
 apply aW;show b8 JR _ [↑_,↑_,↑_,↑_]=_;rw[(show((own b W p).map λi=>PyData.int<|P.getD i 0)=((own b W p).map λi=>P.getD i 0).map .int by simp)]at c;simp?[b8,aa,af,dS,c,zB,zA];simp?[JR,fJ,oneOf,gO,zA,bX,KC hs hw b p,xH];rfl
def BD(L:Γ Pl):bZ 0 (L.map aY)=(List.range L.length).map λi=>.tuple [nD i,aY<|L.getD i (0,[])]:=by
 rw[enum_zip];apply jG<;>simp_all
def uq(is:Γ Nat):oP [.list<|is.map λi=>.bool<|p i]=↑(.bool<|is.all p):=by
 have:∀is:Γ Nat,boolsOf (is.map λi=>PyData.bool<|p i)=↑(is.map p):=λis=>by
  induction is with
  |nil=>rfl
  |cons i is I=>simp[boolsOf,I]
 simp?[oP,oneOf,zA,this,zB,List.all_map];rfl
def Dj(h:Wd G T W)(p:P.length=W.length)(hs:Sm P)(b:θ):dF [aw G T W,ae P,.int<|sI b]=↑(.bool<|(List.range (aR b G T).length).all λi=>decide (AK b W P i<=(bA b G T i).1)):=by
 have l:=h.pl b;apply aP;have e:cD (aa (f2 aH (ab 0)<|ab 2) af) [↑(aw G T W),↑(ae P),↑(.int<|sI b)]=↑((List.range (aR b G T).length).map λi=>.tuple [nD i,aY<|bA b G T i]):=by
  have:=BD<|aR b G T;unfold bA;rw[<-this];cases b<;>rfl
 apply aW;show b8 oP _ [↑_,↑_,↑_]=_;simp[b8,aa,af,dS,(kn (cs:=[0,1,2]) (tt:=λ_=>↑true) (te:=f2 FH (ah 4 gf<|aa (ab 2)<|aa (ab 3)<|aa (ab 4)<|aa (ab 0) af)<|f2 aH (ab 1)<|fC<|.int 0) e (by lia) λi H=>{rfl,λ_=>aB rfl (call_of (uF h p hs b i) rfl rfl) rfl}),zB,zA];rw[show(List.range _).filter _=List.range (aR b G T).length by simp,uq]
def IP(a:fa ρ=↑(.bool true))(b:fb ρ=↑d):mh fa fb ρ=↑d:=by
 simp[mh,a,zA,b]
def K6(a:fa ρ=↑(.bool false)):mh fa fb ρ=↑(.bool false):=by
 simp[mh,a,zA]
def Ke(H:fa ρ=↑(.bool a))(B:fb ρ=↑(.bool b)):mh fa fb ρ=↑(.bool<|a&&b):=by
 cases a
 .exact K6 H
 .exact IP H B
def sH(h:f ρ=↑d):b8 g (aa f af) ρ=g [d]:=by
 simp[b8,aa,af,h,zB,zA]
def A6{l:Γ α}(h:f ρ=↑(.tuple<|l.map k)):b8 bP (aa f af) ρ=↑(nD l.length):=by
 rw[sH h,D2,zD]
def Ro(W:Γ Wy)(P:Γ Int):θ:=(List.range W.length).all λk=>decide (0<=P.getD k 0)&&decide (P.getD k 0<=(aK W k).2.2)
def RU(b:θ)(G T:Γ Pl)(W:Γ Wy)(P:Γ Int):θ:=(List.range (aR b G T).length).all λi=>decide (AK b W P i<=(bA b G T i).1)
def QD(G T:Γ Pl)(W:Γ Wy)(P:Γ Int):θ:=Ro W P&&(RU false G T W P&&RU true G T W P)
def JU(a:P.length=W.length):QD G T W P=true↔Pn G T W P:=by
 simp?[QD,Ro,RU,zF,xG,zT,zJ];constructor
 .rintro⟨H,c,d⟩;exact{a,H,λb=>by cases b<;>assumption}
 .intro p;exact{p.bd,p.am false,p.am true}
def NT(P:Γ Int):pR (ae P)=true:=rfl
def Fx(h:Wd G T W)(p:P.length=W.length)(hs:Sm P):lj [aw G T W,ae P]=↑(.bool<|QD G T W P):=by
 have hw:=h.wl;apply aP;show o9 [.val _,.val _,.UQ]=_;unfold o9;have t:Dl.aO 2 [0] (f2 aH (ab 0)<|fC<|.int 2) [.val<|aw G T W,.val<|ae P,.UQ]=↑(.nx [.val _,.val _,.val _]):=cG rfl rfl rfl rfl;rw[ao t];have e:bQ [ae P,nD W.length,nD W.length]=↑(.bool true):=by
  rw[show nD W.length=.int _ from rfl,eM<|NT P];simp[long,ae,p]
 have l:∀a ,ab 2 a=↑(.tuple<|W.map aD)->b8 bP _ a=↑_:=λa=>A6;have c1:(cY<|fB<|ah 3 bQ<|aa (ab 1)<|aa _<|aa _ af) (aS [.val<|aw G T W,.val _,.val _])=↑false:=
  gM (du<|call_of e (cons_of rfl (cons_of (l _ rfl)<|cons_of (l _ rfl) rfl)) rfl)
 rw[ao<|fO c1];have z:iH (aa (ab 2)<|aa (ab 1) af) [↑(aw G T W),↑(ae P),↑(.tuple<|W.map aD)]=↑((List.range W.length).map λi=>.tuple [aD<|aK W i,.int<|P.getD i 0]):=by
  rw[<-lI p];rfl
 have c2:=kn (cs:=[]) (tt:=λ_=>↑true) (te:=ah 3 bM<|aa (ab 1)<|aa (fC _)<|aa (f2 aH (ab 0)<|fC<|.int 2) af) z (by lia)
  λi H=>{rfl,λ_=>call_of (gF rfl 0 _) rfl rfl}
 have r:(fB<|b8 oP<|aa (dS<|av 2 [] (iH<|aa (ab 2)<|aa (ab 1) af) (il 0 1) (λ_=>↑true)<|ah 3 bM<|aa (ab 1)<|aa (fC<|.int 0)<|aa (f2 aH (ab 0)<|fC<|.int 2) af) af) [↑(aw G T W),↑(ae P),↑(.tuple<|W.map aD)]=↑(Ro W P):=by
  apply du;simp[b8,aa,af,dS,c2,zB,zA];rw[show(List.range W.length).filter _=List.range W.length by simp,uq];rfl
 cases b:Ro W P with
 |false =>
  rw[b]at r;refine mD<|(gS<|gM r).trans ?_;rw[QD,b];rfl
 |true =>
  rw[b]at r;rw[ao<|fO<|gM r,QD,b,jJ];exact aW<|Ke (call_of (Dj h p hs false) rfl rfl)<|call_of (Dj h p hs true) rfl rfl
def B4(hk:k<W.length):aK W k∈W:=ja hk▸qA hk
def Pn.smP(h:Wd G T W)(p:Pn G T W P):Sm P:=λk=>by
 by_cases hk:k<W.length
 .have:=p.bd k hk;have:=(h.wr _<|B4 hk).2.2.2;lia
 .rw[zG,jK (by rw[p.len];lia)];simp
def tG(h:Wd G T W)(p:Pn G T W P):lj [aw G T W,ae P]=↑(.bool true):=by
 rw[Fx h p.len<|p.smP h,(JU p.len).mpr p]
def uN(h:Wd G T W)(p:Pn G T W P):iY [aw G T W,ae P]=↑.none:=by
 have:fY [.val<|aw G T W,.val<|ae P]=↑(.nx [.val<|aw G T W,.val<|ae P]):=by
  unfold fY;refine(ao<|dw<|call_of (bY h) rfl rfl).trans ?_;exact fO<|gM<|du<|call_of (tG h p) rfl rfl
 show(fY [.val<|aw G T W,.val<|ae P]).map _=_;rw[this];rfl
def tup_is(h:fs ρ=↑ds)(l:ds.length<=1000):bq fs ρ=↑(.tuple ds):=by
 simp[bq,h,zA,bF (show ds.length<=4000 by lia),zB]
def Fh{fi:Dl.Env->Δ (Γ D)}{te:Dl.Env->Δ D}{ρ:Dl.Env}{is:Γ Nat}{f:Nat->D}(W:fi ρ=↑(is.map nD))(l:is.length<=1000)(a:∀i∈is,te (↑(nD i)::cs.map λj=>(ρ[j]?).getD none)=↑(f i)):av 1 cs fi (fG 0) (λ_=>↑true) te ρ=↑(is.map f):=by
 rw[cf (h:=λd=>f (lO d).toNat) W (by grind) λd H=>?_]
 .rw[zM];rfl
 .let(i,I,rfl):=List.mem_map.mp H;rw[a i I];rfl
def Ka(h:f ρ=↑(.list ds))(H:g ρ=↑(nD k)):nN gP f (CN g) nG ρ=↑(.list<|ds.drop k):=by
 have:=Aq ds k;simp[nN,h,CN,H,nG,gI,gP,zA,zB,this]
def EW(is:Γ Nat):Rf.IW [.list<|is.map λi=>.bool<|p i]=↑(.bool<|is.any p):=by
 have:∀is:Γ Nat,boolsOf (is.map λi=>PyData.bool<|p i)=↑(is.map p):=λis=>by
  induction is with
  |nil=>rfl
  |cons i is I=>simp[boolsOf,I]
 simp?[Rf.IW,oneOf,zA,this,zB,wN];rfl
def mU(f:α->β)(p:β->θ)(q:α->θ):∀(l:Γ α),(∀x∈l,p (f x)=q x)->(l.map f).findIdx p=l.findIdx q
 |[],_=>rfl
 |x::l,h=>by
  rw[zI,vB,vB,h x zE,mU f p q l λy H=>h y<|zC _ H]
def Oo(h:Wd G T W){b:θ}{i:Nat}(e:(aR b G T)[i]?=↑p){k:Nat}(hk:k<W.length)(c:aX b (aK W k)=i):p9 (.list<|(fg b W i p.2).map nD) (nD k)=↑(nD<|AB p.2<|bB b<|aK W k):=by
 have K:k∈own b W i:=di.mpr {hk,c};have m:k∈fg b W i p.2:=(fv h e).mem_iff.mpr K;have E:(fg b W i p.2).map nD=((fg b W i p.2).map λj=>((j:Nat):Int)).map PyData.int:=by rw[zM];rfl
 have m1:((k:Nat):Int)∈(fg b W i p.2).map λj=>((j:Nat):Int):=List.mem_map.mpr {k,m,rfl};rw[E];show(intsOf _).bind _=_;rw[bX,zA,o6 m1,zB];have a:((fg b W i p.2).map λj=>((j:Nat):Int)).findIdx (λo=>decide (o=((k:Nat):Int)))=AB p.2 (bB b<|aK W k):=by
  unfold fg AB;rw[zM];refine mU _ _ _ _ λx X=>?_;let(l,d,H):=vg h e X;show decide (((xu b W i x:Nat):Int)=(k:Int))=decide (x=bB b (aK W k));rw[decide_eq_decide];constructor
  .intro z;have z:xu b W i x=k:=by lia
   rw[<-z,H]
  .intro z;rw[z,uM h.wp K]
 rw[a]
def nY(h:Wd G T W)(f:P.length=W.length)(hs:Sm P)(b:θ){k:Nat}(hk:k<W.length):f9 [aw G T W,ae P,.int<|sI b,nD k]=↑(.bool<|HY b G T W P k):=by
 have hw:=h.wl;let(z1,z2,z3):=h.Vl b hk;have H:(aR b G T)[(aX b<|aK W k).toNat]?=↑(bA b G T (aX b<|aK W k).toNat):=by
  rw[zK z2];simp[bA,z2]
 have L:∀x∈(bA b G T (aX b<|aK W k).toNat).2,_:=λx Y=>vg h H Y;have B:(bA b G T (aX b<|aK W k).toNat).2.length<=16:=by
  have:=(fv h H).length_eq;have q:=u6 b W ((aX b<|aK W k).toNat:Int);unfold fg at this;rw[zD]at this;lia
 have E:=Oo h H hk z3.symm;have w:=um h H;generalize v:bA b G T (aX b<|aK W k).toNat=p at *;generalize J:(aX b<|aK W k).toNat=j at *;have Z:PyData.int (aX b<|aK W k)=nD j:=by rw[<-z3]
 refine aP ?_;show iQ [.val<|aw G T W,.val<|ae P,.val<|.int<|sI b,.val<|nD k,.UQ,.UQ,.UQ]=_;unfold iQ;have t4:Dl.aO 4 [0,2,3] (f2 aH (f2 aH (f2 aH (ab 0)<|fC<|.int 2)<|ab 3)<|ab 2) [.val<|aw G T W,.val<|ae P,.val<|.int<|sI b,.val<|nD k,.UQ,.UQ,.UQ]=↑(.nx [.val<|aw G T W,.val<|ae P,.val<|.int<|sI b,.val<|nD k,.val<|nD j,.UQ,.UQ]):=by
  rw[<-Z];exact dN (d:=.int<|aX b<|aK W k) (aB (nK b _) (aB (mq hk) rfl rfl) rfl) rfl
 rw[ao t4];have g:aH (.tuple<|(aR b G T).map aY) (nD j)=↑(aY p):=jd H;have t:(fB<|f2 JZ (ah 4 gf<|aa (ab 0)<|aa (ab 1)<|aa (ab 2)<|aa (ab 4) af)<|f2 aH (f2 aH (f2 aH (ab 0)<|ab 2)<|ab 4)<|fC<|.int 0) (aS [.val<|aw G T W,.val<|ae P,.val<|.int<|sI b,.val<|nD k,.val<|nD j,.UQ,.UQ])=↑(decide (AK b W P j<p.1)):=by
  refine du<|aB (nR _ _) (call_of (uF h f hs b j) rfl rfl) ?_;refine aB (a:=aY p) (b:=.int 0) rfl (aB g (aB (dD b G T W) rfl rfl) rfl) rfl
 have m:HY b G T W P k=(decide (AK b W P j<p.1)||(p.2.drop<|AB p.2 (bB b<|aK W k)+1).any λo=>decide (0<P.getD (xu b W j o) 0)):=by
  unfold HY;rw[J,v,z3]
 rw[m];cases hc:decide (AK b W P j<p.1)with
 |true =>
  rw[hc]at t;exact mD ((gS t).trans<|aW rfl)
 |false =>
  rw[hc]at t;rw[ao<|fO t,Bool.false_or];have l:Dl.aO 5 [0,2,4] (ah 3 iK<|aa (ab 0)<|aa (ab 2)<|aa (ab 4) af) [.val<|aw G T W,.val<|ae P,.val<|.int<|sI b,.val<|nD k,.val<|nD j,.UQ,.UQ]=↑(.nx [.val<|aw G T W,.val<|ae P,.val<|.int<|sI b,.val<|nD k,.val<|nD j,.val<|.list<|(fg b W j p.2).map nD,.UQ]):=
   bE (call_of w rfl rfl) (call_of w rfl rfl) rfl
  rw[ao l];have u:∀e:Dl.Env,ab 5 e=↑(.list<|(fg b W j p.2).map nD)->ab 3 e=↑(nD k)->(nN gP (ab 5) (CN<|f2 aQ (f2 p9 (ab 5)<|ab 3)<|fC<|.int 1) nG) e=↑(.list<|((fg b W j p.2).map nD).drop<|AB p.2 (bB b<|aK W k)+1):=λe a c =>
   Ka a (aB (dz _ _) (aB E a c) rfl)
  have n:Dl.aO 6 [3,5] (nN gP (ab 5) (CN<|f2 aQ (f2 p9 (ab 5)<|ab 3)<|fC<|.int 1) nG) [.val<|aw G T W,.val<|ae P,.val<|.int<|sI b,.val<|nD k,.val<|nD j,.val<|.list<|(fg b W j p.2).map nD,.UQ]=↑(.nx [.val<|aw G T W,.val<|ae P,.val<|.int<|sI b,.val<|nD k,.val<|nD j,.val<|.list<|(fg b W j p.2).map nD,.val<|.list<|((fg b W j p.2).drop<|AB p.2 (bB b<|aK W k)+1).map nD]):=by
   rw[List.map_drop];exact bE (u _ rfl rfl) (u _ rfl rfl) rfl
  rw[ao n];have c:av 1 [1] (bu<|ab 6) (fG 0) (λ_=>↑true) (f2 FE (f2 aH (ab 1)<|ab 0)<|fC<|.int 0) [↑(aw G T W),↑(ae P),↑(.int<|sI b),↑(nD k),↑(nD j),↑(.list<|(fg b W j p.2).map nD),↑(.list<|((fg b W j p.2).drop<|AB p.2 (bB b<|aK W k)+1).map nD)]=↑(((fg b W j p.2).drop<|AB p.2 (bB b<|aK W k)+1).map λi=>.bool<|decide (0<P.getD i 0)):=by
   refine Fh rfl ?_ λi I=>?_
   .rw[qH,fg,zD];lia
   .have z:=List.mem_of_mem_drop I;unfold fg at z;let(x,Y,rfl):=List.mem_map.mp z;exact aB (ju _ _) (aB (uZ (by rw[f];exact(L x Y).1)) rfl rfl) rfl
  refine aW ?_;show b8 Rf.IW (aa (dS<|av 1 [1] (bu<|ab 6) (fG 0) (λ_=>↑true)<|f2 FE (f2 aH (ab 1)<|ab 0)<|fC<|.int 0) af) [↑(aw G T W),↑(ae P),↑(.int<|sI b),↑(nD k),↑(nD j),↑(.list<|(fg b W j p.2).map nD),↑(.list<|((fg b W j p.2).drop<|AB p.2 (bB b<|aK W k)+1).map nD)]=_;simp?[b8,aa,af,dS,c,zB,zA,EW];unfold fg;rw[<-List.map_drop,wN];rfl
def Px:Nat->D|0=>.str "full" | 1=>.str "giver" | 2=>.str "taker" | _=>.none
def AS(h:Wd G T W)(p:P.length=W.length)(hs:Sm P)(hk:k<W.length):iT [aw G T W,ae P,nD k]=↑(Px<|vy G T W P k):=by
 apply aP;show mK [.val _,.val _,.val _]=_;unfold mK vy;have c1:acO (aS [.val<|aw G T W,.val _,.val _])=↑_:=
  du (aB (cF _ _) (aB (uZ (by rw[p];lia)) rfl rfl)<|aB rfl (aB (mq hk) rfl rfl) rfl)
 have c2:acP (aS [.val _,.val _,.val _])=↑_:=gM<|du<|call_of (nY h p hs false hk) rfl rfl;have c3:acQ (aS [.val _,.val _,.val _])=↑_:=gM<|du<|call_of (nY h p hs true hk) rfl rfl;by_cases e:P.getD k 0=(aK W k).2.2
 .rw[yB e]at c1;rw[yM e];exact mD<|(gS c1).trans<|aW rfl
 .rw[yA e]at c1;rw[yO e,ao<|fO c1];cases E:HY false G T W P k with
  |false =>
   rw[E]at c2;exact mD ((gS c2).trans<|aW rfl)
  |true =>
   rw[E]at c2;rw[yO<|by simp,ao<|fO c2];cases a:HY true G T W P k with
   |false =>
    rw[a]at c3;exact mD ((gS c3).trans<|aW rfl)
   |true =>
    rw[a]at c3;rw[yO<|by simp,ao<|fO c3];rfl
def Os(G T:Γ Pl)(W:Γ Wy)(P:Γ Int)(k:Nat):vy G T W P k<=3:=by
 unfold vy
 grind
def Jo(n:Nat)(h:n<=3):Ae (Px n) .none=↑(.bool<|decide (n=3)):=by
 match n,h with
 |0,_=>rfl
 |1,_=>rfl
 |2,_=>rfl
 |3,_=>rfl
def HD{W:Γ Wy}{P:Γ Int}(p:P.length=W.length)(H:f ρ=↑(ae P)):(aa (b8 bP<|aa f af) af) ρ=↑[nD W.length]:=by
 have:=Li P;rw[p]at this;refine cons_of ?_ rfl;rw[sH H,this]
def p7(h:Wd G T W)(p:P.length=W.length)(hs:Sm P):fK [aw G T W,ae P]=↑(match(List.range W.length).find? λk=>decide (vy G T W P k=3)with|some k=>nD k|none=>.none):=by
 have hw:=h.wl;apply aP;let(f1,f):=me (tgt:=wY 2) (gb:=lJ _ (aV<|ab 2) lY) (λa=>∃x,a=[.val<|aw G T W,.val<|ae P,x]) nD (λk=>decide _) nD
  (l:=List.range W.length)
  (λa k hk X=>by
   let(x,rfl):=X;have c:(fB<|f2 Ae (ah 3 iT zq3)<|fC _) (aS [.val _,.val _,.val _])=↑_:=
    du (aB (Jo _<|Os G T W P k) (call_of (AS h p hs<|by simpa using hk) rfl rfl) rfl)
   refine{_,rfl,λq=>?_,λq=>?_}
   .rw[q]at c;exact(gS c).trans<|aW rfl
   .rw[q]at c;exact{_,fO c,_,rfl}) {_,rfl}
 have r:cO (aa (b8 bP VS) af) [↑(aw G T W),↑_,none]=↑_:=By (HD p rfl) (by lia);cases e:(List.range W.length).find? _ with
 |some k=>exact mD (eX (f1 k e) r rfl)
 |none =>
  let(b,E,x,rfl):=f e;exact(ao<|eX E r rfl).trans<|aW rfl
def A7(h:Wd G T W)(p:P.length=W.length)(hs:Sm P):mE [aw G T W,ae P]=↑(.bool<|decide (M6 G T W P=[])):=by
 refine aP ?_;show mL [.val<|aw G T W,.val<|ae P]=_;unfold mL;refine aW<|aB ?_ (call_of (p7 h p hs) rfl rfl) rfl;cases e:(List.range W.length).find? λk=>decide (vy G T W P k=3)with
 |some k =>
  have:M6 G T W P≠[]:=λz=>by
   have m:=jW e;have q:=vR e;have:k∈M6 G T W P:=List.mem_filter.mpr {m,q};rw[z]at this;cases this
  rw[yA this];rfl
 |none =>
  have:M6 G T W P=[]:=by
   rw[List.find?_eq_none]at e;exact List.filter_eq_nil_iff.mpr e
  rw[yB this];rfl
def Ky(h:Wd G T W)(p:Pn G T W P):mZ [aw G T W,ae P]=↑(.bool<|decide (M6 G T W P=[])):=by
 refine aP ?_;show xl [.val<|aw G T W,.val<|ae P]=_;unfold xl;refine(ao<|dw<|call_of (uN h p) rfl rfl).trans ?_;exact aW<|call_of (A7 h p.len<|p.smP h) rfl rfl
def vo(h:a.length+b.length<=1000):Dl.aQ (ae a) (ae b)=↑(ae<|a++b):=by
 unfold ae;rw[mW<|by grind,qZ]
def wW(c:S->θ)(st:S->S)(a:S->Nat)(I:S->Prop)(b:∀s,I s->c s=true->I (st s)/\a (st s)<a s):∀(n:Nat)(s:S),a s<n->I s->c (lp c st n s)=false/\I (lp c st n s)
 |0,s,h,_=>absurd h (by lia)
 |n+1,s,h,i=>by
  rw[lp];cases hc:c s with
  |false=>exact{by simpa [hc]using hc,by simpa using i}
  |true =>
   let(d,m):=b s i hc;have:=wW c st a I b n (st s) (by lia) d;simpa using this
def GM(hk:k<W.length):(eE W).getD k 0=(aK W k).2.2:=by
 unfold eE;rw[zG,zO,je hk];rfl
def CF(h:Wd G T W):tJ G T W (fin G T W).2=none/\C5 W (fin G T W)/\∀k,k<W.length->(fin G T W).2.getD k 0<=(aK W k).2.2:=by
 have B:=h.WE;let(H,i,d):=wW (Of G T W) (spS G T W) (λs=>WE s.2) (λs=>C5 W s/\∀k,k<W.length->s.2.getD k 0<=(aK W k).2.2)
  (λs z hc=>by
   let(i,l):=z
   let(p,e):=sM hc;let(a,b,c):=Cd h i.off e;let(I,m):=i.step h e;refine{{I,λk hk=>?_},m};rw[xk e];show(s.2.set p.1 p.2).getD k 0<=_;by_cases z:k=p.1
   .subst z;have:=l p.1 a;have L:p.1<s.2.length:=by rw[i.len];exact a
    rw[show(s.2.set p.1 p.2).getD p.1 0=p.2 by simp[L]];lia
   .rw[show(s.2.set p.1 p.2).getD k 0=s.2.getD k 0 by simp[kP<|jL z]];exact l k hk) Rf.turns ([],eE W) (qY B<|by decide) {C5.start h,λk hk=>by rw[GM hk];lia}
 refine{?_,i,d};have:Of G T W (fin G T W)=false:=H;unfold Of at this;exact Option.isNone_iff_eq_none.mp (by simpa using this)
def mP(G T:Γ Pl)(W:Γ Wy):Γ Int:=cA false G T W (fin G T W).2
def v8(h:Wd G T W):Pn G T W (mP G T W):=by
 let(H,i,a):=CF h;exact KL h i.off a H
def iR(h:Wd G T W):aU [aw G T W]=↑(ae<|mP G T W):=tx h
def pL:∀{l:Γ D},(∀d∈l,PyData.eqv d d=true)->PyData.eqvAll l l=true
 |[],_=>by rfl
 |d::l,h=>by
  rw[PyData.eqvAll,h d zE,pL λx H=>h x<|zC _ H];rfl
def mY(h:∀d∈l,PyData.eqv d d=true):PyData.eqv (.tuple l) (.tuple l)=true:=by
 rw[PyData.eqv,pL h]
def BS(a:Γ Int):PyData.eqv (ae a) (ae a)=true:=by rw[Ai];simp
def M8(a:Int):PyData.eqv (.int a) (.int a)=true:=by
 have:=BS [a];rw[ae,PyData.eqv,zI,yV,PyData.eqvAll]at this;simp?[zF]at this;exact this.1
def Dk(p:Pl):PyData.eqv (aY p) (aY p)=true:=mY λd H=>by
 rcases List.mem_cons.mp H with rfl|H
 .exact M8 _
 .rw[yK]at H;subst H;exact BS _
def Kd(w:Wy):PyData.eqv (aD w) (aD w)=true:=BS [w.1,w.2.1,w.2.2]
def Gx(G T:Γ Pl)(W:Γ Wy):PyData.eqv (aw G T W) (aw G T W)=true:=mY λd H=>by
 rcases List.mem_cons.mp H with rfl|H
 .exact mY λd H=>by let(p,_,rfl):=List.mem_map.mp H;exact Dk p
 rcases List.mem_cons.mp H with rfl|H
 .exact mY λd H=>by let(p,_,rfl):=List.mem_map.mp H;exact Dk p
 .rw[yK]at H;subst H;exact mY λd H=>by let(p,_,rfl):=List.mem_map.mp H;exact Kd p
def Lm(h:Wd G T W):dX (aw G T W) (aw G T W)=↑(.bool false):=by
 have s:SeqAt.shaped (aw G T W)=true:=h.fit.shaped (by decide);simp?[dX,Pd,s,jN,xH,Gx,zB,xY]
def sm(l:Γ Nat)(f:Nat->Int):Int:=(l.map f).sum
def cL(q:Nat)(l:Γ Nat)(f:Nat->Int):sm (q::l) f=f q+sm l f:=by rfl
def OD(l r:Γ Nat)(f:Nat->Int):sm (l++r) f=sm l f+sm r f:=by simp[sm]
def vj(q:Nat)(f:Nat->Int):sm [q] f=f q:=by simp[sm]
def ix:∀{l:Γ Nat}{f g:Nat->Int},(∀q∈l,f q=g q)->sm l f=sm l g
 |[],_,_,_=>rfl
 |q::l,f,g,h=>by rw[cL,cL,h q zE,ix λx H=>h x<|zC _ H]
def GL:∀{l:Γ Nat}{f g:Nat->Int},(∀q∈l,f q<=g q)->sm l f<=sm l g
 |[],_,_,_=>xZ _
 |q::l,f,g,h=>by
  have a:=h q zE;have b:=GL λx H=>h x<|zC _ H;rw[cL,cL];lia
def L8(h:∀q∈l,0<=f q):0<=sm l f:=by
 have:sm l (λ_=>0)=0:=by induction l with
  |nil=>rfl
  |cons q l i=>rw[cL,i λx H=>h x<|zC _ H];rfl
 rw[<-this];exact GL h
def LV(p:l.Perm r)(f:Nat->Int):sm l f=sm r f:=by
 induction p with
 |nil=>rfl
 |cons x _ i=>rw[cL,cL,i]
 |swap x y l=>rw[cL,cL,cL,cL];lia
 |trans _ _ H a=>rw[H,a]
def ch(m:Nat->Int):Int->Γ Nat->Nat->Int
 |_,[],_=>0
 |a,q::r,k=>if k=q then min (m q) a else ch m (a-min (m q) a) r k
def cz(m:Nat->Int)(a:Int)(q:Nat)(r:Γ Nat):ch m a (q::r) q=min (m q) a:=by simp[ch]
def cB(h:k≠q):ch m a (q::r) k=ch m (a-min (m q) a) r k:=by simp[ch,h]
def MJ:∀{a:Int}{l:Γ Nat},(∀q∈l,0<=m q)->0<=a->∀k,0<=ch m a l k/\ch m a l k<=a/\(k∈l->ch m a l k<=m k)
 |a,[],_,H,k=>{xZ _,H,λh=>by cases h}
 |a,q::r,M,H,k=>by
  have d:=M q zE;by_cases e:k=q
  .subst e;rw[cz];exact{by lia,by lia,λ_=>by lia}
  .rw[cB e];let(b,f,c):=MJ (m:=m) (a:=a-min (m q) a) (l:=r) (λx X=>M x<|zC _ X) (by lia) k;refine{b,by lia,λhk=>?_};rcases List.mem_cons.mp hk with z|z
   .exact absurd z e
   .exact c z
def D0:∀{a A:Int}{l:Γ Nat}{k:Nat},a<=A->ch m a l k<=ch m A l k
 |_,_,[],_,_=>xZ _
 |a,A,q::r,k,h=>by
  by_cases e:k=q
  .subst e;rw[cz,cz];lia
  .rw[cB e,cB e];exact D0 (by lia)
def r9:∀{a:Int}{l:Γ Nat},(∀q∈l,m q=m' q)->∀k,ch m a l k=ch m' a l k
 |_,[],_,_=>rfl
 |a,q::r,h,k=>by
  have H:=h q zE;by_cases e:k=q
  .subst e;rw[cz,cz,H]
  .rw[cB e,cB e,H];exact r9 (λx X=>h x<|zC _ X) k
def up:Γ Nat->Nat->Γ Nat
 |[],_=>[]
 |q::r,k=>if k=q then[q]else q::up r k
def qq(q:Nat)(r:Γ Nat):up (q::r) q=[q]:=by simp[up]
def qr(h:k≠q):up (q::r) k=q::up r k:=by simp[up,h]
def ke:∀{l:Γ Nat}{k q:Nat},q∈up l k->q∈l
 |[],_,_,h=>by cases h
 |x::l,k,q,h=>by
  by_cases e:k=x
  .subst e;rw[qq,yK]at h;exact h▸zE
  .rw[qr e]at h;rcases List.mem_cons.mp h with z|z
   .exact z▸zE
   .exact zC _<|ke z
def G9:∀{xs ys:Γ Nat}{k:Nat},k∉xs->up (xs++k::ys) k=xs++[k]
 |[],ys,k,_=>qq _ _
 |x::xs,ys,k,h=>by
  rw[zR,not_or]at h;rw[xF,qr h.1,G9 h.2];rfl
def Cb:∀{a:Int}{l:Γ Nat}{k:Nat},l.Nodup->k∈l->ch m a l k<m k->sm (up l k) (ch m a l)=a
 |a,q::r,k,n,hk,h=>by
  rw[kR]at n;by_cases e:k=q
  .subst e;rw[cz]at h;rw[qq,vj,cz];lia
  .rw[cB e]at h;have P:k∈r:=by
    rcases List.mem_cons.mp hk with z|z
    .exact absurd z e
    .exact z
   have i:=Cb n.2 P h;rw[qr e,cL,cz,ix (g:=ch m (a-min (m q) a) r) λx H=>cB λz=>n.1<|z▸ke H,i];lia
def Mr:∀{a:Int}{l:Γ Nat}{k:Nat},l.Nodup->(∀x∈l,0<=m x)->0<=a->k∈l->sm (up l k) (ch m a l)=min a (sm (up l k) m)
 |a,q::r,k,n,M,A,hk=>by
  rw[kR]at n;have b:=M q zE;have R:∀y∈r,0<=m y:=λy H=>M y<|zC _ H;by_cases e:k=q
  .subst e;rw[qq,vj,vj,cz];lia
  .have P:k∈r:=by
    rcases List.mem_cons.mp hk with z|z
    .exact absurd z e
    .exact z
   have i:=Mr (m:=m) (a:=a-min (m q) a) n.2 R (by lia) P;have s:=L8 (l:=up r k) λy H=>R y<|ke H;rw[qr e,cL,cL,cz,ix (g:=ch m (a-min (m q) a) r) λx X=>cB λz=>n.1<|z▸ke X,i];lia
def HS:∀{a:Int}{l:Γ Nat},l.Nodup->(∀x∈l,x≠p->m' x=m x)->m' p<=ch m a l p->(∀k∈l,k≠p->ch m a l k<=ch m' a l k)/\(p∈l->ch m' a l p=m' p)
 |_,[],_,_,_=>{λ_ h=>absurd h yG,λh=>absurd h yG}
 |a,q::r,n,h,P=>by
  rw[kR]at n;by_cases e:q=p
  .subst e;rw[cz]at P;have s:∀x∈r,m' x=m x:=λx H=>h x (zC _ H) λz=>n.1<|z▸H;refine{λk hk U=>?_,λ_=>?_}
   .rw[cB U,cB U,r9 (m:=m') (m':=m) s];exact D0<|by lia
   .rw[cz];lia
  .have Q:=h q zE e;rw[cB<|jL e]at P;let(i,I):=HS (m:=m) (m':=m') (p:=p) (a:=a-min (m q) a) n.2 (λx H=>h x<|zC _ H) P;refine{λk hk U=>?_,λhk=>?_}
   .by_cases E:k=q
    .subst E;rw[cz,cz,Q];exact xZ _
    .rw[cB E,cB E,Q];rcases List.mem_cons.mp hk with z|z
     .exact absurd z E
     .exact i k z U
   .rw[cB<|jL e,Q];rcases List.mem_cons.mp hk with z|z
    .exact absurd z.symm e
    .exact I z
def cN(b:θ)(W:Γ Wy)(k:Nat):Nat:=(aX b<|aK W k).toNat
def lst(b:θ)(G T:Γ Pl)(W:Γ Wy)(i:Nat):Γ Nat:=fg b W i (bA b G T i).2
def amt(b:θ)(G T:Γ Pl)(i:Nat):Int:=(bA b G T i).1
def mm(W:Γ Wy)(off:Γ Int)(q:Nat):Int:=min (off.getD q 0) (aK W q).2.2
def vl(P:Γ Int)(q:Nat):Int:=P.getD q 0
section
variable {G T:Γ Pl}{W:Γ Wy}{P X c off:Γ Int}{b:θ}{i k q:Nat}
def jq(h:Wd G T W)(b:θ)(hk:k<W.length):cN b W k<(aR b G T).length:=(h.Vl b hk).2.1
def nH(h:Wd G T W)(hi:i<(aR b G T).length):(lst b G T W i).Perm (own b W i):=fv h<|dW hi
def iG(h:Wd G T W)(hi:i<(aR b G T).length):(lst b G T W i).Nodup:=(nH h hi).nodup_iff.mpr<|List.nodup_range.filter _
def nT(h:Wd G T W)(hi:i<(aR b G T).length):q∈lst b G T W i↔q<W.length/\cN b W q=i:=by
 rw[(nH h hi).mem_iff,di];constructor
 .rintro⟨H,a⟩;exact{H,by rw[cN,a];rfl}
 .rintro⟨H,a⟩;have:=(h.Vl b H).2.2;unfold cN at a;rw[a]at this;exact{H,this.symm}
def iu(h:Wd G T W)(b:θ)(hk:k<W.length):k∈lst b G T W (cN b W k):=(nT h<|jq h b hk).mpr {hk,rfl}
def Mm(h:Wd G T W)(o:Off off)(q:Nat):0<=mm W off q:=by
 have H:=o q;have a:=h.lim q;unfold mm;lia
def Hc:∀(is:Γ Nat)(a:Int)(l:Γ Int),is.Nodup->(∀i∈is,i<l.length)->∀k,(is.foldl (mO W off) (a,l)).2.getD k 0=if k∈is then ch (mm W off) a is k else l.getD k 0
 |[],a,l,_,_,k=>by simp
 |q::is,a,l,n,H,k=>by
  rw[kR]at n;have b:=Hc is (a-cV W off a q) (l.set q<|cV W off a q) n.2 (λi I=>by rw[yD];exact H i<|zC _ I) k;rw[yJ];show(is.foldl (mO W off) (a-cV W off a q,l.set q<|cV W off a q)).2.getD k 0=_;rw[b];have Q:=H q zE;by_cases e:k=q
  .subst e;rw[yO n.1,yM zE,cz,cP,yM {rfl,Q}];rfl
  .rw[cB e];by_cases hk:k∈is
   .rw[yM hk,yM<|zC _ hk];rfl
   .rw[yO hk,yO (by rw[zR,not_or];exact{e,hk}),cP,yO λz=>e z.1.symm]
def ou(h:Wd G T W)(b:θ)(off:Γ Int)(hk:k<W.length):(cA b G T W off).getD k 0=ch (mm W off) (amt b G T<|cN b W k) (lst b G T W<|cN b W k) k:=by
 have i:=jq h b hk;rw[Gd h b hk];show(tq W off (amt b G T<|cN b W k)<|lst b G T W<|cN b W k).getD k 0=_;unfold tq;rw[Hc _ _ _ (iG h i) (λj H=>by rw[xM];exact((nT h i).mp H).1),yM<|iu h b hk]
def Gw(h:Wd G T W)(b:θ)(i:Nat):0<=amt b G T i:=h.amt b i
def GI(h:Wd G T W)(hi:i<(aR b G T).length):AK b W P i=sm (lst b G T W i) (vl P):=by
 rw[LV<|nH h hi];rfl
def Fl(b:θ)(G T:Γ Pl)(W:Γ Wy)(P:Γ Int)(k:Nat):Prop:=sm (up (lst b G T W<|cN b W k) k) (vl P)=amt b G T (cN b W k)
def Rs(G T:Γ Pl)(W:Γ Wy)(P:Γ Int):Prop:=∀k,k<W.length->P.getD k 0=(aK W k).2.2\/Fl false G T W P k\/Fl true G T W P k
def Pn.nn(p:Pn G T W P)(q:Nat):0<=vl P q:=by
 by_cases H:q<W.length
 .exact (p.bd q H).1
 .rw[vl,sG (by rw[p.len];lia)];lia
def Pn.adi(h:Wd G T W)(p:Pn G T W P)(hi:i<(aR b G T).length):sm (lst b G T W i) (vl P)<=amt b G T i:=by
 rw[<-GI h hi];exact p.am b i hi
def Cv(h:Wd G T W)(p:Pn G T W P)(b:θ)(hk:k<W.length):HY b G T W P k=false↔Fl b G T W P k:=by
 let(z1,z2,z3):=h.Vl b hk;have hc:lst b G T W (cN b W k)=((bA b G T<|cN b W k).2.take<|AB (bA b G T<|cN b W k).2<|bB b<|aK W k).map (xu b W<|cN b W k)++k::((bA b G T<|cN b W k).2.drop<|AB (bA b G T<|cN b W k).2 (bB b<|aK W k)+1).map (xu b W<|cN b W k):=Kv h hk;have n:=iG (b:=b) h z2;change (lst b G T W<|cN b W k).Nodup at n;have E:=p.adi h z2;change sm (lst b G T W<|cN b W k) _<=amt b G T (cN b W k)at E;have H:=GI (P:=P) h z2;have Y:HY b G T W P k=(decide (AK b W P (cN b W k)<amt b G T (cN b W k))||(((bA b G T<|cN b W k).2.drop<|AB (bA b G T<|cN b W k).2 (bB b<|aK W k)+1).map<|xu b W<|cN b W k).any λq=>decide (0<vl P q)):=by
  rw[wN,cN,amt,z3];rfl
 change AK b W P (cN b W k)=sm (lst b G T W<|cN b W k) _ at H;rw[Fl,Y,H];revert hc;generalize ((bA b G T _).2.take _).map _=x;generalize ((bA b G T _).2.drop _).map _=y;intro hc;have X:k∉x:=λz=>by
  grind
 rw[hc,G9 X];have e:sm (x++k::y) (vl P)=sm (x++[k]) (vl P)+sm y (vl P):=by
  rw[<-OD];simp
 have N:=L8 (l:=y) λq _=>p.nn q;have S:=CV y λq _=>p.nn q;change (0<sm y (vl P)↔(y.any λq=>decide (0<vl P q))=true)at S
 grind
def Hf(h:Wd G T W)(p:Pn G T W P):M6 G T W P=[]↔Rs G T W P:=by
 unfold M6;rw[List.filter_eq_nil_iff];constructor
 .intro H k hk;have:=H k (by simpa using hk);rw[zJ]at this;unfold vy at this;by_cases E:P.getD k 0=(aK W k).2.2
  .exact .inl E
  .rw[yO E]at this;by_cases a:HY false G T W P k=false
   .exact .inr<|.inl<|(Cv h p false hk).mp a
   .rw[yO a]at this;by_cases b:HY true G T W P k=false
    .exact .inr<|.inr<|(Cv h p true hk).mp b
    .rw[yO b]at this;exact absurd rfl this
 .intro H k hk;rw[zJ];unfold vy;rcases H k (by simpa using hk)with e|e|e
  .rw[yM e];lia
  .rw[yM<|(Cv h p false<|by simpa using hk).mpr e];split<;>lia
  .rw[yM<|(Cv h p true<|by simpa using hk).mpr e];split
   .lia
   .split<;>lia
def DH(e:tJ G T W c=↑(k,U)):k<W.length/\U=(kj G T W c).getD k 0/\(kj G T W c).getD k 0<(cA false G T W c).getD k 0:=by
 unfold tJ at e;let(j,H,E):=Dl.ag e;cases E;have m:=jW H;have q:=vR H;rw[qR,zJ]at q;exact{List.mem_range.mp m,rfl,q}
def L7(e:tJ G T W c=none)(hk:k<W.length):(cA false G T W c).getD k 0<=(kj G T W c).getD k 0:=by
 unfold tJ at e;rw[Option.map_eq_none_iff]at e;have:=List.find?_eq_none.mp e k (by simpa using hk);rw[qR,zJ]at this;lia
end
section
variable {P X c off:Γ Int}
def HL(h:Wd G T W)(hk:k<W.length)(H:q∈lst b G T W (cN b W k)):q<W.length/\cN b W q=cN b W k:=(nT h<|jq h b hk).mp H
def BA(h:Wd G T W)(hi:i<(aR b G T).length)(Q:q∈lst b G T W i):vl (cA b G T W off) q=ch (mm W off) (amt b G T i) (lst b G T W i) q:=by
 let(H,a):=(nT h hi).mp Q;have:=ou h b off H;rw[a]at this;exact this
def N8(h:Wd G T W)(o:Off off)(b:θ)(hk:k<W.length):sm (up (lst b G T W<|cN b W k) k) (vl<|cA b G T W off)=min (amt b G T<|cN b W k) (sm (up (lst b G T W<|cN b W k) k)<|mm W off):=by
 have i:=jq h b hk;rw[ix λq H=>BA h i<|ke H];exact Mr (iG h i) (λq _=>Mm h o q) (Gw h b _)<|iu h b hk
def zj(h:Wd G T W)(b:θ)(hk:k<W.length)(e:(cA b G T W off).getD k 0<mm W off k):Fl b G T W (cA b G T W off) k:=by
 have i:=jq h b hk;rw[ou h b off hk]at e;unfold Fl;rw[ix λq H=>BA h i<|ke H];exact Cb (iG h i) (iu h b hk) e
def A5(h:Wd G T W)(o:Off off)(b:θ)(hk:k<W.length):0<=(cA b G T W off).getD k 0/\(cA b G T W off).getD k 0<=mm W off k:=by
 have i:=jq h b hk;rw[ou h b off hk];have:=MJ (m:=mm W off) (a:=amt b G T<|cN b W k) (l:=lst b G T W<|cN b W k) (λq _=>Mm h o q) (Gw h b _) k;exact{this.1,this.2.2<|iu h b hk}
end
section
variable {P X c off:Γ Int}
def tR(h:Wd G T W)(o:Off c)(hk:k<W.length):0<=(kj G T W c).getD k 0/\(kj G T W c).getD k 0<=(cA false G T W c).getD k 0/\(cA false G T W c).getD k 0<=c.getD k 0/\(cA false G T W c).getD k 0<=(aK W k).2.2/\mm W (cA false G T W c) k=(cA false G T W c).getD k 0:=by
 have a:=A5 h o false hk;have H:=A5 h (iP h o false) true hk;change 0<=(kj G T W c).getD k 0/\(kj G T W c).getD k 0<=_ at H;unfold mm at a H ⊢;lia
def Jn(G T:Γ Pl)(W:Γ Wy)(c:Γ Int):Prop:=∀k,k<W.length->c.getD k 0<(aK W k).2.2->Fl true G T W (kj G T W c) k
def Nw(h:Wd G T W)(o:Off c)(f:c.length=W.length)(e:tJ G T W c=↑(k,v))(H:q<W.length):(kj G T W c).getD q 0<=(cA false G T W<|c.set k v).getD q 0:=by
 let(hk,rfl,C):=DH e;let(B,b,n,r,s):=tR h o hk;let(D,d,t,u,E):=tR h o H;have i:=jq h false H;have M:∀x,x≠k->mm W (c.set k<|(kj G T W c).getD k 0) x=mm W c x:=λx X=>by
  unfold mm;rw[cP,yO λz=>X z.1.symm]
 have K:mm W (c.set k<|(kj G T W c).getD k 0) k=(kj G T W c).getD k 0:=by
  unfold mm;rw[cP,yM {rfl,by rw[f];exact hk}];lia
 rw[ou h false _ H];by_cases z:cN false W q=cN false W k
 .have L:k∈lst false G T W (cN false W q):=by rw[z];exact iu h false hk
  have A:vl (cA false G T W c) k=ch (mm W c) (amt false G T<|cN false W q) (lst false G T W<|cN false W q) k:=BA h i L;unfold vl at A;let(g,j):=HS (m:=mm W c) (m':=mm W<|c.set k<|(kj G T W c).getD k 0) (p:=k) (a:=amt false G T<|cN false W q) (l:=lst false G T W<|cN false W q) (iG h i) (λx _ X=>M x X) (by rw[K,<-A];exact b);by_cases y:q=k
  .subst y;rw[j L,K];exact xZ _
  .have:=g q (iu h false H) y;rw[<-ou h false c H]at this;lia
 .rw[r9 (m:=mm W<|c.set k<|(kj G T W c).getD k 0) (m':=mm W c) λx X=>M x λw=>by
   subst w;exact z ((nT h i).mp X).2.symm]
  rw[<-ou h false c H];exact d
def Jn.step(h:Wd G T W)(o:Off c)(l:c.length=W.length)(j:Jn G T W c)(e:tJ G T W c=↑(k,v)):Jn G T W (c.set k v):=λq H Y=>by
 have f:Fl true G T W (kj G T W c) q:=by
  let(hk,rfl,C):=DH e;by_cases z:q=k
  .subst z;exact zj h true H (by rw[(tR h o H).2.2.2.2];exact C)
  .rw[cP,yO λw=>z w.1.symm]at Y;exact j q H Y
 have u:=N8 h (iP h (CG o (Cd h o e).2.1:Off (c.set k v)) false) true H;change sm _ (vl<|kj G T W _)=_ at u;unfold Fl at f ⊢;have s:sm (up (lst true G T W _) q) (vl<|kj G T W c)<=sm _ (mm W<|cA false G T W<|c.set k v):=GL λx X=>by
  have y:=(HL h H<|ke X).1;have a:=Nw h o l e y;have b:=tR h o y;unfold vl mm;lia
 lia
def QO(h:Wd G T W):Jn G T W (fin G T W).2:=by
 have b:=h.WE;let(_,_,H):=wW (Of G T W) (spS G T W) (λs=>WE s.2) (λs=>C5 W s/\Jn G T W s.2)
  (λs z hc=>by
   let(i,j):=z
   let((k,v),e):=sM hc;let(I,m):=i.step h e;refine{{I,?_},m};rw[xk e];exact j.step h i.off i.len e) Rf.turns ([],eE W) (qY b<|by decide) {C5.start h,λk hk l=>by rw[GM hk]at l;lia}
 exact H
def Ng(h:Wd G T W):Rs G T W (mP G T W):=λk hk=>by
 let(a,i,Y):=CF h;have j:=QO h;have Q:∀q,q<W.length->(mP G T W).getD q 0=(kj G T W (fin G T W).2).getD q 0:=λq H=>by
  have m:=L7 a H;have n:=(tR h i.off H).2.1;unfold mP;lia
 let(d,D,c,g,l):=tR h i.off hk;by_cases e:(mP G T W).getD k 0=(aK W k).2.2
 .exact .inl e
 .by_cases E:(mP G T W).getD k 0<mm W (fin G T W).2 k
  .exact .inr<|.inl<|zj h false hk E
  .have b:=(A5 h i.off false hk).2;have:(fin G T W).2.getD k 0<(aK W k).2.2:=by
    unfold mP at e E;unfold mm at E b;lia
   have f:=j k hk this;refine .inr<|.inr ?_;unfold Fl at f ⊢;rw[<-f];exact ix λq H=>Q q (HL h hk<|ke H).1
end
section
variable {P X c off:Γ Int}
end
def mM(h:f ρ=↑ds):dS f ρ=↑(.list ds):=by
 simp?[dS,h,zB]
def u5(h:f ρ=↑(.tuple ds)):bu f ρ=↑ds:=by
 simp[bu,h,zA,gO]
def qj(h:f ρ=↑(.list ds)):bu f ρ=↑ds:=by
 simp[bu,h,zA,gO]
def NW(h:fs ρ=↑ds)(l:ds.length<=1000):j6 fs ρ=↑ds:=by
 simp[j6,h,zA,bF (show ds.length<=4000 by lia)]
def yw(h:Wd G T W)(p:Pn G T W P)(r:Rs G T W P):mZ [aw G T W,ae P]=↑(.bool true):=by
 rw[Ky h p,yB<|(Hf h p).mpr r]
structure Wk(G T G' T':List Pl):Prop where
 len:∀b,(aR b G' T').length=(aR b G T).length
 lik:∀b i,(bA b G' T' i).2=(bA b G T i).2
 gv:∀i,amt false G' T' i<=amt false G T i
 tk:∀i,amt true G T i<=amt true G' T' i
def sA(L:Γ Pl)(i:Nat)(a:Int):Γ Pl:=L.set i (a,(L.getD i (0,[])).2)
def pf(L:Γ Pl)(i:Nat)(a:Int):(sA L i a).length=L.length:=by simp[sA]
def AV{L:Γ Pl}{i:Nat}{a:Int}{k:Nat}{p:Pl}(h:(sA L i a)[k]?=↑p):∃P,L[k]?=↑P/\p.2=P.2/\(p.1=a\/p.1=P.1):=by
 unfold sA at h;by_cases e:i=k
 .subst e;have l:i<L.length:=by
   have:=(List.getElem?_eq_some_iff.mp h).1;simpa using this
  rw[vM l]at h;cases h;exact{L[i],zK l,by simp[l],.inl rfl}
 .rw[kP e]at h;exact{p,h,rfl,.inr rfl}
section
variable {P X off:Γ Int}
def HE{L:Γ Pl}{p:Pl}(A:0<=a/\a<=9)(l:∀p∈L,0<=p.1/\p.1<=9)(P:p∈sA L i a):0<=p.1/\p.1<=9:=by
 let(k,hk,e):=qP P;let(c,H,_,b):=AV (p:=p) (k:=k) (by rw[zK hk,e]);rcases b with z|z
 .rw[z];exact A
 .rw[z];exact l c<|qB H
def Wd.gA(h:Wd G T W)(A:0<=a/\a<=9):Wd (sA G i a) T W where
 g1:=by rw[pf];exact h.g1
 g4:=by rw[pf];exact h.g4
 t1:=h.t1
 t4:=h.t4
 ga:=λp H=>HE A h.ga H
 ta:=h.ta
 gl:=λk p H=>by
  let(P,b,c,_):=AV H;rw[c];exact h.gl k P b
 tl:=h.tl
 wr:=λw hw=>by rw[pf];exact h.wr w hw
 wp:=h.wp
 wl:=h.wl
def Wd.tA(h:Wd G T W)(A:0<=a/\a<=9):Wd G (sA T i a) W where
 g1:=h.g1
 g4:=h.g4
 t1:=by rw[pf];exact h.t1
 t4:=by rw[pf];exact h.t4
 ga:=h.ga
 ta:=λp H=>HE A h.ta H
 gl:=h.gl
 tl:=λk p H=>by
  let(P,b,c,_):=AV H;rw[c];exact h.tl k P b
 wr:=λw hw=>by rw[pf];exact h.wr w hw
 wp:=h.wp
 wl:=h.wl
def dM(h:i<ds.length)(l:ds.length<=1000):cX [.tuple ds,nD i,d]=↑(.tuple<|ds.set i d):=by
 have e:(ds.take i++[d])++ds.drop (i+1)=ds.set i d:=by
  rw[List.set_eq_take_append_cons_drop,yM h];simp
 refine aP ?_;show my [.val<|.tuple ds,.val<|nD i,.val d]=_;unfold my;refine aW<|aB (a:=.tuple<|ds.take i++[d]) (b:=.tuple<|ds.drop<|i+1) ?_ (aB (a:=.tuple<|ds.take i) (b:=.tuple [d]) (mW ?_) (Bo rfl rfl)<|Q8 rfl)<|Ik rfl (aB (dz _ _) rfl rfl)
 .rw[mW,e];rw[e,yD];lia
 .simp;lia
def S9(b:θ)(G T:Γ Pl)(W:Γ Wy)(i:Nat)(a:Int):D:=match b with|false=>aw (sA G i a) T W|true=>aw G (sA T i a) W
def A4(h:Wd G T W)(hi:i<(aR b G T).length):gm [aw G T W,.int<|sI b,nD i,.int a,ae (bA b G T i).2]=↑(S9 b G T W i a):=by
 have l:=h.pl b;have e:=dM (ds:=(aR b G T).map aY) (d:=aY (a,(bA b G T i).2)) (i:=i) (by rw[zD];exact hi) (by rw[zD];lia);rw[<-List.map_set]at e;have E:=dM (ds:=[.tuple<|G.map aY,.tuple<|T.map aY,.tuple<|W.map aD]) (d:=.tuple<|((aR b G T).set i (a,(bA b G T i).2)).map aY) (i:=(sI b).toNat) (show(sI b).toNat<3 by cases b<;>decide) (show 3<=1000 by decide);refine aP ?_;show gC [.val<|aw G T W,.val<|.int<|sI b,.val<|nD i,.val<|.int a,.val<|ae (bA b G T i).2]=_;unfold gC;refine aW<|call_of (ds:=[aw G T W,.int<|sI b,.tuple<|((aR b G T).set i (a,(bA b G T i).2)).map aY]) ?_ (cons_of rfl (cons_of rfl (cons_of (call_of e (cons_of (aB (dD b G T W) rfl rfl)<|cons_of rfl (cons_of (tup_is (ds:=[.int a,ae (bA b G T i).2]) rfl (by simp)) rfl)) rfl) rfl))) rfl;rw[show PyData.int (sI b)=nD (sI b).toNat by cases b<;>rfl];refine Eq.trans E ?_;cases b<;>rfl
def rN(h:Wd G T W)(b:θ)(hi:i<(aR b G T).length):ig [aw G T W,.int<|sI b,nD i]=↑.none:=by
 have:eW [.val<|aw G T W,.val<|.int<|sI b,.val<|nD i]=↑(.nx [.val<|aw G T W,.val<|.int<|sI b,.val<|nD i]):=by
  unfold eW;refine(ao<|dw<|call_of (vt b) rfl rfl).trans ?_;exact dw<|call_of (gw (n:=((aR b G T).length:Nat)) (i:=(i:Nat)) (by lia)<|by lia) (cons_of rfl (cons_of (A6 (l:=aR b G T) (k:=aY)<|aB (dD b G T W) rfl rfl) rfl)) rfl
 show(eW [.val<|aw G T W,.val<|.int<|sI b,.val<|nD i]).map _=_;rw[this];rfl
def lW(h:Wd G T W)(hi:i<(aR b G T).length)(H:0<=a/\a<=9):dB [aw G T W,.int<|sI b,nD i,.int a]=↑(S9 b G T W i a):=by
 refine aP ?_;show hX [.val<|aw G T W,.val<|.int<|sI b,.val<|nD i,.val<|.int a]=_;unfold hX;refine(ao<|dw<|call_of (bY h) rfl rfl).trans ?_;refine(ao<|dw<|call_of (rN h b hi) rfl rfl).trans ?_;refine(ao<|dw<|call_of (gZ H.1 H.2) rfl rfl).trans ?_;exact aW<|call_of (A4 h hi) (cons_of rfl (cons_of rfl (cons_of rfl (cons_of rfl (cons_of (aB (a:=aY<|bA b G T i) (b:=.int 1) rfl (aB (jd<|dW hi) (aB (dD b G T W) rfl rfl) rfl) rfl) rfl))))) rfl
end
def ext(l:Int)(r:Γ Int):Γ (Γ Int):=(List.range (l+1).toNat).map λm=>r++[((m:Nat):Int)]
def se:∀(l:Γ α),(∀x∈l,tt (↑(g x)::r)=↑(q x)/\(q x=true->te (↑(g x)::r)=↑(f x)))->df (fG 0) tt te (none::r) (l.map g)=↑((l.filter q).map f)
 |[],_=>rfl
 |x::l,h=>by
  have i:=se (tt:=tt) (te:=te) (r:=r) (g:=g) (f:=f) (q:=q) l λy Y=>h y<|zC _ Y;let(H,a):=h x zE;have G:fG 0 (none::r) (g x)=↑(↑(g x)::r):=rfl;rw[zI,df,G,zA,H,zA,jV];cases e:q x with
  |true =>
   rw[yM rfl,yM rfl,a e,zA,i];rfl
  |false =>
   rw[yO<|by simp,yO<|by simp,i]
def Ed{α:Type}{fi:Dl.Env->Δ (Γ D)}{tt:Dl.Env->Δ θ}{te:Dl.Env->Δ D}{ρ:Dl.Env}{l:Γ α}{g f:α->D}{q:α->θ}(W:fi ρ=↑(l.map g))(L:l.length<=3000)(H:∀x∈l,tt (↑(g x)::cs.map λj=>(ρ[j]?).getD none)=↑(q x)/\(q x=true->te (↑(g x)::cs.map λj=>(ρ[j]?).getD none)=↑(f x))):av 1 cs fi (fG 0) tt te ρ=↑((l.filter q).map f):=by
 have:=se l H;simp?[av,W,zA,eK,List.replicate,xF,xO,this];refine bF ?_;rw[zD];refine yE (xP _ _) ?_;lia
def lD{α:Type}{fi:Dl.Env->Δ (Γ D)}{tt:Dl.Env->Δ θ}{te:Dl.Env->Δ D}{ρ:Dl.Env}{l:Γ α}{g f:α->D}{q:α->θ}(W:fi ρ=↑(l.map g))(L:l.length<=1000)(H:∀x∈l,tt (↑(g x)::cs.map λj=>(ρ[j]?).getD none)=↑(q x)/\(q x=true->te (↑(g x)::cs.map λj=>(ρ[j]?).getD none)=↑(f x))):av 1 cs fi (fG 0) tt te ρ=↑((l.filter q).map f):=Ed W (by lia) H
def sh(k q:Nat):Nat:=if q<k then q else q+1
def nk(k:Nat):Nat->θ:=λq=>!decide (q=k)
def fL(L:Γ Pl)(i:Nat)(x:Int):Γ Pl:=L.set i ((L.getD i (0,[])).1,(L.getD i (0,[])).2.filter λy=>!decide (y=x))
def NQ(L:Γ Pl)(i:Nat)(x:Int):(fL L i x).length=L.length:=by simp[fL]
def Rj(L:Γ Pl)(i:Nat)(x:Int)(hi:i<L.length)(k:Nat):(fL L i x).getD k (0,[])=if k=i then((L.getD i (0,[])).1,(L.getD i (0,[])).2.filter λy=>!decide (y=x))else L.getD k (0,[]):=by
 unfold fL;by_cases e:k=i
 .subst e;simp[hi]
 .rw[yO e];simp[kP<|jL e]
section
variable {G T:Γ Pl}{W:Γ Wy}{P X:Γ Int}{b:θ}{i k q:Nat}
def eG(G:Γ Pl)(W:Γ Wy)(k:Nat):Γ Pl:=fL G (aK W k).1.toNat (aK W k).2.1
def eT(T:Γ Pl)(W:Γ Wy)(k:Nat):Γ Pl:=fL T (aK W k).2.1.toNat (aK W k).1
def Fp(h:Cp W):W.Nodup:=h.imp λ{a b}X e=>by subst e;lia
def nJ[DecidableEq α]:∀{l:Γ α}{k:Nat}{x:α},l.Nodup->l[k]?=↑x->l.eraseIdx k=l.filter λy=>!decide (y=x)
 |[],k,x,_,e=>by simp at e
 |a::l,0,x,n,e=>by
  cases e;rw[jV,yO<|by simp,List.eraseIdx_zero,List.tail_cons];exact(List.filter_eq_self.mpr λy H=>by
   have:y≠a:=λz=>(List.nodup_cons.mp n).1<|z▸H;simp[this]).symm
 |a::l,k+1,x,n,e=>by
  have E:l[k]?=↑x:=by simpa using e
  have:a≠x:=λz=>(List.nodup_cons.mp n).1<|z▸qB E;rw[jV,yM<|by simp[this],List.eraseIdx_cons_succ,nJ (List.nodup_cons.mp n).2 E]
def yt(h:Cp W)(hk:k<W.length):W.eraseIdx k=W.filter λx=>!decide (x=aK W k):=nJ (Fp h)<|je hk
def DV(L:Γ Pl)(n:Nat)(x:Int)(H:n<L.length)(i:Nat):(fL L n x).getD i (0,[])=((L.getD i (0,[])).1,(L.getD i (0,[])).2.filter λo=>!(decide (i=n)&&decide (o=x))):=by
 rw[Rj L n x H];by_cases e:i=n
 .rw[yM e];subst e;simp?[jO,jJ]
 .rw[yO e,yA e];simp?[vX,Bool.not_false];rw[List.filter_eq_self.mpr λ_ _=>rfl]
def PZ(h:Wd G T W)(hk:k<W.length)(b:θ)(i:Nat):bA b (eG G W k) (eT T W k) i=((bA b G T i).1,(bA b G T i).2.filter λo=>!(decide (i=cN b W k)&&decide (o=bB b (aK W k)))):=by
 have p:=jq h b hk;cases b
 .exact DV G _ _ p i
 .exact DV T _ _ p i
def uT(b:θ):(aR b (eG G W k)<|eT T W k).length=(aR b G T).length:=by cases b<;>simp[aR,eG,eT,NQ]
def Su(h:Cp W)(hk:k<W.length)(b:θ)(i:Int):((W.eraseIdx k).filter λw=>decide (aX b w=i)).map (bB b)=(((W.filter λw=>decide (aX b w=i)).map<|bB b).filter λo=>!(decide (i=aX b (aK W k))&&decide (o=bB b (aK W k)))):=by
 rw[yt h hk,kF,List.filter_filter,List.filter_filter];refine jB _<|List.filter_congr λx X=>?_;let(j,H,rfl):=List.mem_iff_getElem.mp X;rw[ja H];by_cases e:aX b (aK W j)=i
 .by_cases z:j=k
  .subst z;simp[e]
  .have U:¬(aX b (aK W j)=aX b (aK W k)/\bB b (aK W j)=bB b (aK W k)):=λy=>z<|Ay h H hk y.1 y.2;have hw:aK W j≠aK W k:=λy=>U {by rw[y],by rw[y]};simp?[hw,wK,Bool.not_false,e,jO,Bool.and_true,jJ,Function.comp];rw[e]at U;by_cases y:i=aX b (aK W k)
   .have:bB b (aK W j)≠bB b (aK W k):=λu=>U {y,u};simp[this]
   .simp[y]
 .simp[e]
def Wd.less(h:Wd G T W)(hk:k<W.length):Wd (eG G W k) (eT T W k) (W.eraseIdx k):=by
 have g:∀(b:θ)(i:Nat)(p:Pl),(aR b (eG G W k)<|eT T W k)[i]?=↑p->p.2.Perm (((W.eraseIdx k).filter λw=>decide (aX b w=i)).map<|bB b)/\0<=p.1/\p.1<=9:=λb i p e=>by
  have I:i<(aR b G T).length:=by
   have:=(List.getElem?_eq_some_iff.mp e).1;rw[uT]at this;exact this
  have z:i<(aR b (eG G W k)<|eT T W k).length:=by rw[uT];exact I
  have E:=dW z;rw[E]at e;cases e;rw[PZ h hk,Su h.wp hk];have q:decide (i=cN b W k)=decide (((i:Nat):Int)=aX b (aK W k)):=by
   have:=(h.Vl b hk).2.2;have a:=(h.Vl b hk).1;unfold cN;by_cases y:i=(aX b<|aK W k).toNat
   .rw[yB y,yB<|by lia]
   .rw[yA y,yA<|by lia]
  rw[q];refine{?_,?_}
  .refine List.Perm.filter _ ?_;cases b
   .exact h.gl i _<|dW (b:=false) I
   .exact h.tl i _<|dW (b:=true) I
  .cases b
   .show 0<=(bA false G T i).1/\(bA false G T i).1<=9;exact h.ga _<|qB<|dW (b:=false) (G:=G) (T:=T) I
   .show 0<=(bA true G T i).1/\(bA true G T i).1<=9;exact h.ta _<|qB<|dW (b:=true) (G:=G) (T:=T) I
 have H:=uT (G:=G) (T:=T) (W:=W) (k:=k) false;have Z:=uT (G:=G) (T:=T) (W:=W) (k:=k) true;have H:(eG G W k).length=G.length:=H;have Z:(eT T W k).length=T.length:=Z;have X:(W.eraseIdx k).Sublist W:=List.eraseIdx_sublist ..;refine{by rw[H];exact h.g1,by rw[H];exact h.g4,by rw[Z];exact h.t1,by rw[Z];exact h.t4,λp P=>?_,λp P=>?_,λi p e=>(g false i p e).1,λi p e=>(g true i p e).1,λw hw=>?_,h.wp.sublist X,yE X.length_le h.wl}
 .let(i,I,rfl):=List.mem_iff_getElem.mp P;exact(g false i _<|zK I).2
 .let(i,I,rfl):=List.mem_iff_getElem.mp P;exact(g true i _<|zK I).2
 .rw[H,Z];exact h.wr w<|X.mem hw
def sL(W:Γ Wy)(k:Nat)(x:Int):Γ Wy:=W.set k ((aK W k).1,(aK W k).2.1,x)
def IA(W:Γ Wy)(k:Nat)(x:Int):(sL W k x).length=W.length:=by simp[sL]
def QL(x:Int)(hk:k<W.length)(q:Nat):aK (sL W k x) q=if q=k then((aK W k).1,(aK W k).2.1,x)else aK W q:=by
 unfold sL;by_cases e:q=k
 .subst e;simp[aK,hk]
 .rw[yO e];simp[aK,kP<|jL e]
def MV(x:Int)(hk:k<W.length)(f:Wy->α)(F:∀w y,f (w.1,w.2.1,y)=f w):(sL W k x).map f=W.map f:=by
 unfold sL;rw[List.map_set,F];refine jG (by simp) λj a H=>?_;have J:j<W.length:=by simpa using H
 rw[List.getElem_set];split
 .rename_i e;subst e;simp[ja hk]
 .rfl
def BC(b:θ)(i:Int):∀{W V:Γ Wy},W.map (λw=>(w.1,w.2.1))=V.map (λw=>(w.1,w.2.1))->(W.filter λw=>decide (aX b w=i)).map (bB b)=(V.filter λw=>decide (aX b w=i)).map (bB b)
 |[],[],_=>rfl
 |[],_::_,e=>by cases e
 |_::_,[],e=>by cases e
 |w::W,v::V,e=>by
  simp?[zI,kU,Prod.mk.injEq]at e;have E:aX b w=aX b v:=by cases b<;>simp[aX,e.1]
  have a:bB b w=bB b v:=by cases b<;>simp[bB,aX,e.1]
  have I:=BC b i (W:=W) (V:=V) e.2;rw[jV,jV,E];split
  .rw[zI,zI,I,a]
  .exact I
def Wd.afX(h:Wd G T W)(hk:k<W.length)(X:1<=x/\x<=9):Wd G T (sL W k x):=by
 have m:=MV (W:=W) x hk (λw=>(w.1,w.2.1)) λ_ _=>rfl;refine{h.g1,h.g4,h.t1,h.t4,h.ga,h.ta,λi p e=>?_,λi p e=>?_,λw hw=>?_,?_,by rw[IA];exact h.wl}
 .have:=h.gl i p e;rw[show CY (sL W k x) i=CY W i from BC false i m];exact this
 .have:=h.tl i p e;rw[show ofT (sL W k x) i=ofT W i from BC true i m];exact this
 .let(j,H,rfl):=List.mem_iff_getElem.mp hw;rw[ja H,QL x hk];have P:=h.wr _<|B4 hk;split
  .exact{P.1,P.2.1,X}
  .rename_i e;rw[IA]at H;exact h.wr _<|B4 H
 .have d:=h.wp;have c:(W.map λw=>(w.1,w.2.1)).Pairwise λa b=>a.1<b.1\/(a.1=b.1/\a.2<b.2):=List.pairwise_map.mpr d;rw[<-m]at c;exact List.pairwise_map.mp c
end
section
open Ex
structure UN(m:List D->Option D)(x:List D->Option Str)(ds:List D):Prop where
 n:m ds=↑.none
 x:x ds=none
section
variable {m:Γ D->Δ D}{x:Γ D->Δ Str}{ds:Γ D}{c:Str}{n:Nat}{fs:Dl.Env->Δ (Γ D)}{ρ:ak}
end
section
variable {G T:Γ Pl}{W:Γ Wy}{P X:Γ Int}{b:θ}{i:Nat}
end
end
section
variable {G T:Γ Pl}{W:Γ Wy}{P X:Γ Int}{b k n:Nat}{d:D}{c:Str}
def Md{g:D->Δ D}{f:Dl.Env->Δ D}{ρ:Dl.Env}(h:f ρ=↑d):f1 g f ρ=g d:=by unfold f1;rw[h];rfl
end
section
variable {G T:Γ Pl}{W:Γ Wy}{P X:Γ Int}{b:θ}{i j k:Nat}{w d:D}{c:Str}
def CC:∀{a b c d:Γ Int},a.length=b.length->lexLt a b=true->lexLt (a++c) (b++d)=true
 |[],[],_,_,_,h=>by rw[dI]at h;cases h
 |[],_::_,_,_,e,_=>by cases e
 |_::_,[],_,_,e,_=>by cases e
 |x::a,y::b,c,d,e,h=>by
  have h:HT.lexLt (x::a) (y::b)=true:=h;show HT.lexLt _ _=_;rw[HT.cR]at h;rw[xF,xF,HT.cR];split at h
  .rename_i z;rw[yM z];exact CC (by simpa using e) h
  .rename_i z;rw[yO z];exact h
end
section
variable {G T:Γ Pl}{W:Γ Wy}{P X c:Γ Int}
def Gz{f:Dl.Env->Δ D}{ρ:Dl.Env}{α:Type}{g:α->D}{r:Γ α}(h:f ρ=↑(.list<|r.map g)):b8 bP (aa f af) ρ=↑(nD r.length):=by
 rw[sH h];show some _=_;simp
end
abbrev Fw:=Γ<|Γ Int×Int
def gp(k:Γ Int)(A:Fw):Int:=AD k 0<|A.map λp=>(Dl.fN p.1,.int p.2)
def i8(k:Γ Int)(p:Γ Int×Int)(A:Fw):gp k (p::A)=if p.1=k then p.2 else gp k A:=by
 unfold gp;rw[zI,AD,bC];simp?[yL]
def kc:∀{A:Fw},(A.map (·.1)).Nodup->(k,v)∈A->gp k A=v
 |p::A,n,h=>by
  rw[i8];rw[zI,kR]at n;rcases List.mem_cons.mp h with e|h
  .rw[<-e,yM rfl]
  .rw[yO,kc n.2 h];intro e;exact n.1<|List.mem_map.mpr {_,h,e.symm}
def Do:∀{A:Fw},k∉A.map (·.1)->gp k A=0
 |[],_=>rfl
 |p::A,h=>by
  rw[zI,zR,not_or]at h;rw[i8,yO λe=>h.1 e.symm,Do h.2]
structure eC(A:Fw):Prop where
 nd:(A.map (·.1)).Nodup
 ln:∀p∈A,p.1.length=2
 po:∀p∈A,0<=p.2
def gone(A B:Fw):Γ (Γ Int):=((mz (j7 (A.map (·.1)) (B.map (·.1)))).filter λk=>!decide (gp k B=gp k A)).map λk=>k++[gp k B]
def UH(A:Fw):Γ (Γ Int):=(A.filter λp=>decide (0<p.2)).map λp=>p.1++[p.2]
def unlike(X Y:Γ (Γ Int)):Γ (Γ Int):=Y.filter (λr=>!X.contains r)++(X.filter λr=>!(Y.map λr=>r.take 2).contains (r.take 2)).map λr=>r.take 2++[0]
def eC.pos(h:eC A):0<=gp k A:=by
 by_cases c:k∈A.map (·.1)
 .let(p,H,rfl):=List.mem_map.mp c;rw[kc (v:=p.2) h.nd H];exact h.po p H
 .rw[Do c];exact xZ 0
def eC.key(h:eC A)(e:gp k A≠0):k∈A.map (·.1):=Classical.byContradiction λc=>e<|Do c
def eC.ln2(h:eC A)(e:k∈A.map (·.1)):k.length=2:=by
 let(p,H,rfl):=List.mem_map.mp e;exact h.ln p H
def Q9{a b:Γ Int}{x y:Int}(h:a++[x]=b++[y]):a=b/\x=y:=by
 let(H,c):=List.append_inj' h rfl;exact{H,by cases c;rfl}
def yn:r∈gone A B↔∃k,(k∈A.map (·.1)\/k∈B.map (·.1))/\gp k B≠gp k A/\r=k++[gp k B]:=by
 unfold gone;rw[zQ];constructor
 .rintro⟨k,hk,rfl⟩;rw[List.mem_filter,(et _).mem_iff,dG,yQ,xC]at hk;exact{k,hk.1,hk.2,rfl}
 .rintro⟨k,H,a,rfl⟩;exact{k,by rw[List.mem_filter,(et _).mem_iff,dG,yQ,xC];exact⟨H,a⟩,rfl}
def Kq(H:eC A)(e:eC B):(gone A B).Pairwise λa b=>lexLe a b=true:=by
 unfold gone;rw[jD];have n:(mz (j7 (A.map (·.1)) (B.map (·.1)))).Nodup:=(et _).nodup_iff.mpr<|BG H.nd e.nd;have l:∀k∈mz (j7 (A.map (·.1)) (B.map (·.1))),k.length=2:=λk hk=>by
  rw[(et _).mem_iff,dG]at hk;exact hk.elim H.ln2 e.ln2
 refine((List.Pairwise.and (A1 _) n).imp_of_mem (S:=λa b=>lexLe (a++[gp a B]) (b++[gp b B])=true) λ{a b}f g z=>?_).filter _;have t:lexLt a b=true:=by
  cases c:lexLt a b with
  |true=>rfl
  |false=>exact absurd (su z.1 (by unfold lexLe;rw[c];rfl)) z.2
 have L:=CC (c:=[gp a B]) (d:=[gp b B]) (by rw[l a f,l b g]) t;unfold lexLe;cases c:lexLt (b++[gp b B]) (a++[gp a B])with
 |false=>rfl
 |true=>have:=dP L c;rw[dI]at this;cases this
def dm(A:Fw):Γ (D×D):=A.map λp=>(Dl.fN p.1,.int p.2)
def pu(k:Γ Int)(v:Int):Fw->Fw
 |[]=>[(k,v)]
 |p::A=>if p.1=k then(p.1,v)::A else p::pu k v A
def wZ(p:Γ Int×Int)(A:Fw):dm (p::A)=(Dl.fN p.1,.int p.2)::dm A:=rfl
def Dt:∀A:Fw,putD k v (dm A)=dm (pu k v A)
 |[]=>rfl
 |p::A=>by
  rw[wZ,putD,bC,pu];simp?[yL];split
  .rfl
  .rw[wZ,Dt A]
def ME:∀A:Fw,gp j (pu k v A)=if k=j then v else gp j A
 |[]=>by rw[pu,i8]
 |p::A=>by
  rw[pu];split
  .rename_i e;rw[i8,i8,e];by_cases c:k=j
   .rw[yM c,yM c]
   .rw[yO c,yO c,yO c]
  .rename_i e;rw[i8,i8,ME A];by_cases c:p.1=j
   .rw[yM c,yM c,yO λh=>e<|c.trans h.symm]
   .rw[yO c,yO c]
def CI:∀A:Fw,q∈pu k v A->q∈A\/q=(k,v)
 |[],h=>.inr (List.mem_singleton.mp h)
 |p::A,h=>by
  rw[pu]at h;split at h
  .rename_i e;rcases List.mem_cons.mp h with E|h
   .exact .inr<|by rw[E,e]
   .exact .inl<|zC _ h
  .rcases List.mem_cons.mp h with rfl|h
   .exact .inl zE
   .rcases CI A h with h|h
    .exact .inl<|zC _ h
    .exact .inr h
def MH:∀{A:Fw},(A.map (·.1)).Nodup->((pu k v A).map (·.1)).Nodup
 |[],_=>by rw[pu];simp
 |p::A,h=>by
  rw[zI,kR]at h;rw[pu];split
  .rw[zI,kR];exact h
  .rename_i e;rw[zI,kR];refine{λhc=>?_,MH h.2};let(q,H,E):=List.mem_map.mp hc;rcases CI A H with H|rfl
   .exact h.1<|List.mem_map.mpr {q,H,E}
   .exact e E.symm
def QM(h:eC A)(hk:k.length=2)(a:0<=v):eC (pu k v A) where
 nd:=MH h.nd
 ln:=λp H=>(CI A H).elim (h.ln p) λe=>by rw[e];exact hk
 po:=λp H=>(CI A H).elim (h.po p) λe=>by rw[e];exact a
def vm(A:Fw):Fw:=A.filter λp=>decide (0<p.2)
def gn(h:eC A):eC (vm A) where
 nd:=h.nd.sublist<|List.filter_sublist.map _
 ln:=λp H=>h.ln p (List.mem_filter.mp H).1
 po:=λp H=>h.po p (List.mem_filter.mp H).1
def xo(h:eC A):k∈(vm A).map (·.1)↔0<gp k A:=by
 constructor
 .intro hk;let(p,H,rfl):=List.mem_map.mp hk;let(a,b):=List.mem_filter.mp H;rw[kc (v:=p.2) h.nd a];exact yR b
 .intro hk;let(p,H,rfl):=List.mem_map.mp<|h.key (k:=k) (by lia);rw[kc (v:=p.2) h.nd H]at hk;exact List.mem_map.mpr {p,List.mem_filter.mpr {H,yB hk},rfl}
def wu(h:eC A):gp k (vm A)=gp k A:=by
 by_cases c:0<gp k A
 .let(p,H,rfl):=List.mem_map.mp<|(xo h).mpr c;rw[kc (v:=p.2) (gn h).nd H,kc (v:=p.2) h.nd (List.mem_filter.mp H).1]
 .rw[Do λhk=>c<|(xo h).mp hk];have:=h.pos (k:=k);lia
def led(A:Fw)(rows:Γ (Γ Int)):Fw:=rows.foldl (λA r=>pu (r.take 2) (r.getD 2 0) A) A
def Ag(A:Fw)(r:Γ Int)(rows:Γ (Γ Int)):led A (r::rows)=led (pu (r.take 2) (r.getD 2 0) A) rows:=rfl
def F7{k:Γ Int}(h:k.length=2)(v:Int):(k++[v]).take 2=k/\(k++[v]).getD 2 0=v:=by
 match k,h with
 |[a,b],_=>exact{rfl,rfl}
def D3{B:Fw}(H:eC B):∀(s:Γ (Γ Int)){A:Fw},eC A->(∀k∈s,k.length=2)->eC (led A<|s.map λk=>k++[gp k B])/\∀j,gp j (led A<|s.map λk=>k++[gp k B])=if j∈s then gp j B else gp j A
 |[],A,h,_=>{h,λj=>by simp[led]}
 |k::s,A,h,l=>by
  let(E,a):=F7 (l k zE)<|gp k B;rw[zI,Ag,E,a];let(o,g):=D3 H s (QM h (l k zE)<|H.pos (k:=k)) λj J=>l j<|zC _ J;refine{o,λj=>?_};rw[g j,ME];by_cases c:j∈s
  .rw[yM c,yM<|zC _ c]
  .rw[yO c];by_cases d:k=j
   .rw[yM d,yM (by rw[d];exact zE),d]
   .rw[yO d,yO λm=>(List.mem_cons.mp m).elim (λe=>d e.symm) c]
def FY(H:eC A)(b:eC B):eC (led (vm A)<|gone A B)/\∀j,gp j (led (vm A)<|gone A B)=gp j B:=by
 have z:∀k,k∈(mz (j7 (A.map (·.1)) (B.map (·.1)))).filter (λk=>!decide (gp k B=gp k A))↔(k∈A.map (·.1)\/k∈B.map (·.1))/\gp k B≠gp k A:=λk=>by
  have m:k++[gp k B]∈gone A B↔k∈(mz (j7 (A.map (·.1)) (B.map (·.1)))).filter λk=>!decide (gp k B=gp k A):=by
   unfold gone;rw[zQ];exact{λz=>by let(a,l,e):=z;exact(Q9 e).1▸l,λh=>{k,h,rfl}}
  rw[<-m,yn];exact{λz=>by let(a,f,i,e):=z;exact(Q9 e).1▸⟨f,i⟩,λh=>{k,h.1,h.2,rfl}}
 let(o,g):=D3 (A:=vm A) b _ (gn H) λk hk=>((z k).mp hk).1.elim (λh=>H.ln2 h) λh=>b.ln2 h;refine{o,λj=>(g j).trans ?_};by_cases c:gp j B=gp j A
 .rw[yO λh=>((z j).mp h).2 c,wu H,c]
 .rw[yM];refine(z j).mpr {?_,c};by_cases d:gp j A=0
  .exact .inr<|b.key (k:=j)<|by lia
  .exact .inl<|H.key d
def AO:∀{A:Fw},(A.map (·.1)).Nodup->(k,v)∈A->FG k (dm A)=↑v
 |p::A,n,h=>by
  rw[zI,kR]at n;rw[wZ,FG,bC];simp?[yL];rcases List.mem_cons.mp h with e|h
  .rw[<-e,yM rfl]
  .rw[yO λe=>n.1<|List.mem_map.mpr {_,h,e.symm},AO n.2 h]
def Ey(a:eC A)(H:eC B)(e:∀k,gp k A=gp k B):alike (dm<|vm A) (dm<|vm B)=true:=by
 have p:((vm A).map (·.1)).Perm ((vm B).map (·.1)):=(List.perm_ext_iff_of_nodup (gn a).nd (gn H).nd).mpr λk=>by rw[xo a,xo H,e]
 have l:=p.length_eq;simp?[zD]at l;unfold alike;rw[zF];refine{by simp[dm,l],List.all_eq_true.mpr λq Q=>?_};let(x,X,rfl):=List.mem_map.mp Q;have g:=kc (v:=x.2) (gn a).nd X;let(y,Y,E):=List.mem_map.mp<|p.mem_iff.mp<|List.mem_map.mpr {x,X,rfl};have G:=kc (v:=y.2) (gn H).nd Y;rw[wu a,e]at g;rw[wu H,E,g]at G;show(match bj (Dl.fN x.1),(PyData.int x.2:D)with|some s,.int n=>FG s (dm<|vm B)==some n|_,_=>false)=true;rw[bC];show(FG x.1 (dm<|vm B)==some x.2)=true;rw[AO (v:=x.2) (gn H).nd (by rw[<-E,G];exact Y)];exact beq_self_eq_true _
section
variable {W V:Γ Wy}
def Ru(b:θ)(G T:Γ Pl)(W:Γ Wy)(i:Nat)(p:Pl):D:=match b with|false=>aw (G.set i p) T W|true=>aw G (T.set i p) W
def zx(l:(aR b G T).length<=1000)(hi:i<(aR b G T).length):gm [aw G T W,.int<|sI b,nD i,.int a,ae L]=↑(Ru b G T W i (a,L)):=by
 have e:=dM (ds:=(aR b G T).map aY) (d:=aY (a,L)) (i:=i) (by rw[zD];exact hi) (by rw[zD];lia);rw[<-List.map_set]at e;have E:=dM (ds:=[.tuple<|G.map aY,.tuple<|T.map aY,.tuple<|W.map aD]) (d:=.tuple<|((aR b G T).set i (a,L)).map aY) (i:=(sI b).toNat) (show(sI b).toNat<3 by cases b<;>decide) (show 3<=1000 by decide);refine aP ?_;show gC [.val<|aw G T W,.val<|.int<|sI b,.val<|nD i,.val<|.int a,.val<|ae L]=_;unfold gC;refine aW<|call_of (ds:=[aw G T W,.int<|sI b,.tuple<|((aR b G T).set i (a,L)).map aY]) ?_ (cons_of rfl (cons_of rfl (cons_of (call_of e (cons_of (aB (dD b G T W) rfl rfl)<|cons_of rfl (cons_of (tup_is (ds:=[.int a,ae L]) rfl (by simp)) rfl)) rfl) rfl))) rfl;rw[show PyData.int (sI b)=nD (sI b).toNat by cases b<;>rfl];refine Eq.trans E ?_;cases b<;>rfl
def uO(l:(aR b G T).length<=1000)(hi:i<(aR b G T).length):iO [aw G T W,.int<|sI b,nD i,ae L]=↑(Ru b G T W i ((bA b G T i).1,L)):=by
 refine aP ?_;show jr [.val<|aw G T W,.val<|.int<|sI b,.val<|nD i,.val<|ae L]=_;unfold jr;exact aW<|call_of (zx l hi) (cons_of rfl (cons_of rfl (cons_of rfl (cons_of (aB (a:=aY<|bA b G T i) (b:=.int 0) rfl (aB (jd<|dW hi) (aB (dD b G T W) rfl rfl) rfl) rfl)<|cons_of rfl rfl)))) rfl
def pH(H:cq [d]=↑(.tuple<|V.map aD)):ft [aw G T W,d]=↑(aw G T V):=by
 refine aP ?_;show ky [.val<|aw G T W,.val d]=_;unfold ky;refine aW<|call_of (ds:=[aw G T W,nD 2,.tuple<|V.map aD]) ?_ (cons_of rfl (cons_of rfl (cons_of ((sH rfl).trans H) rfl))) rfl;exact dM (ds:=[.tuple<|G.map aY,.tuple<|T.map aY,.tuple<|W.map aD]) (d:=.tuple<|V.map aD) (i:=2) (show 2<3 by decide) (show 3<=1000 by decide)
def pM(h:Wd G T W)(hk:k<W.length)(H:fw ρ=↑(aw G T W))(a:fk ρ=↑(nD k)):ah 2 cg (aa fk<|aa (b8 bP<|aa (f2 aH fw<|fC<|.int 2) af) af) ρ=↑.none:=
 call_of (gw (n:=(W.length:Nat)) (i:=(k:Nat)) (by lia)<|by lia) (cons_of a<|cons_of (A6 (l:=W) (k:=aD)<|aB (dU G T W) H rfl) rfl) rfl
def u9(h:Wd G T W)(hk:k<W.length)(H:1<=x/\x<=9):fZ [aw G T W,nD k,.int x]=↑(aw G T<|sL W k x):=by
 have hw:=h.wl;have e:=dM (ds:=W.map aD) (d:=aD ((aK W k).1,(aK W k).2.1,x)) (i:=k) (by rw[zD];exact hk) (by rw[zD];lia);rw[<-List.map_set]at e;refine aP ?_;show jm [.val<|aw G T W,.val<|nD k,.val<|.int x,.UQ]=_;unfold jm;refine(ao<|dw<|call_of (bY h) rfl rfl).trans ?_;refine(ao<|dw<|pM h hk rfl rfl).trans ?_;refine(ao<|dw<|call_of (gZ H.1 H.2) rfl rfl).trans ?_;refine(ao<|bE (aB (mq hk) (aB (dU G T W) rfl rfl) rfl) (aB (mq hk) (aB (dU G T W) rfl rfl) rfl) rfl).trans ?_;exact aW<|call_of (pH (V:=sL W k x) (d:=.tuple<|(sL W k x).map aD) rfl) (cons_of rfl (cons_of (call_of e (cons_of (aB (dU G T W) rfl rfl)<|cons_of rfl (cons_of (tup_is (ds:=[.int (aK W k).1,.int (aK W k).2.1,.int x]) rfl (by simp)) rfl)) rfl) rfl)) rfl
def Gb(v w:Wy):dX (aD v) (aD w)=↑(.bool<|!decide (v=w)):=by
 have e:=zf [v.1,v.2.1,v.2.2] [w.1,w.2.1,w.2.2];have:decide ([v.1,v.2.1,v.2.2]=[w.1,w.2.1,w.2.2])=decide (v=w):=by
  let(a,b,c):=v;let(d,e,f):=w;simp
 rwa[this]at e
def m8(H:tgt ρ d=↑ρ1)(a:gb ρ1=↑(.nx U)):eN tgt gb (d::ds) ρ=eN tgt gb ds U:=by rw[eN,H,zA,a];rfl
def SG:ak->Δ Out:=acZ
def Dw(h:Wd G T W)(hk:k<W.length){V:Γ Wy}(H:(aR b G' T').length=(aR b G T).length)(A:(bA b G' T'<|cN b W k).1=(bA b G T<|cN b W k).1) :
  SG [.val<|aw G T W,.val d1,.val<|aD<|aK W k,.val<|aw G' T' V,.val<|.int<|sI b,x5]=↑(.nx [.val<|aw G T W,.val d1,.val<|aD<|aK W k,.val<|Ru b G' T' V (cN b W k) ((bA b G T<|cN b W k).1,(bA b G T<|cN b W k).2.filter λo=>!decide (o=bB b (aK W k))),.val<|.int<|sI b,.val<|ae (bA b G T<|cN b W k).2]):=by
 have p:=jq h b hk;have z:=h.pl b;let(Z,z1,z2):=h.Vl b hk;have r:∀d:Dl.Env,ab 2 d=↑(aD<|aK W k)->ab 4 d=↑(.int<|sI b)->f2 aH (ab 2) (ab 4) d=↑(nD<|cN b W k):=λd E e=>aB ((nK b _).trans (by rw[<-z2];rfl)) E e;have O:∀d:Dl.Env,ab 0 d=↑(aw G T W)->ab 2 d=↑(aD<|aK W k)->ab 4 d=↑(.int<|sI b)->f2 aH acV (fC<|.int 1) d=↑(ae (bA b G T<|cN b W k).2):=λd t E e=>aB (a:=aY<|bA b G T<|cN b W k) (b:=.int 1) rfl (aB (jd<|dW p) (aB (dD b G T W) t e)<|r d E e) rfl;have N:(bA b G T<|cN b W k).2.length<=1000:=by
  have:=(nH h p).length_eq;have v:(own b W<|cN b W k).length<=W.length:=by
   refine yE (xP _ _) ?_;rw[zS];exact yN _
  have y:(lst b G T W<|cN b W k).length=(bA b G T<|cN b W k).2.length:=by simp[lst,fg]
  have:=h.wl;lia
 have C:∀d:Dl.Env,ab 2 d=↑(aD<|aK W k)->ab 4 d=↑(.int<|sI b)->ab 5 d=↑(ae (bA b G T<|cN b W k).2)->b8 cq acX d=↑(ae<|(bA b G T<|cN b W k).2.filter λo=>!decide (o=bB b (aK W k))):=λd E e n=>by
  have j:(d[2]?).getD none=↑(aD<|aK W k):=E;have m:(d[4]?).getD none=↑(.int<|sI b):=e;have c:=lD (ρ:=d) (fi:=bu<|ab 5) (cs:=[2,4]) (tt:=acW) (te:=ab 0) (g:=PyData.int) (f:=PyData.int) (q:=λo=>!decide (o=bB b (aK W k))) (l:=(bA b G T<|cN b W k).2) (u5 n) N λx _=>by
   rw[zI,zI,yV,j,m];exact{du<|aB (sQ _ _) rfl (aB (nK (!b) _) rfl (aB (by rw[mR];cases b<;>rfl) rfl rfl)),λ_=>rfl}
  rw[sH<|mM c];rfl
 unfold SG;refine(ao<|bE (O _ rfl rfl rfl) (O _ rfl rfl rfl) rfl).trans ?_;have w:=uO (b:=b) (G:=G') (T:=T') (W:=V) (i:=cN b W k) (L:=(bA b G T<|cN b W k).2.filter λo=>!decide (o=bB b (aK W k))) (by rw[H];lia) (by rw[H];exact p);rw[A]at w;have s:∀d:Dl.Env,ab 3 d=↑(aw G' T' V)->ab 2 d=↑(aD<|aK W k)->ab 4 d=↑(.int<|sI b)->ab 5 d=↑(ae (bA b G T<|cN b W k).2)->acY d=↑(Ru b G' T' V (cN b W k) ((bA b G T<|cN b W k).1,(bA b G T<|cN b W k).2.filter λo=>!decide (o=bB b (aK W k)))):=λd u E e n=>call_of w (cons_of u<|cons_of e<|cons_of (r d E e)<|cons_of (C d E e n) rfl) rfl;exact bE (s _ rfl rfl rfl rfl) (s _ rfl rfl rfl rfl) rfl
def tE(h:Wd G T W)(hk:k<W.length):eU [aw G T W,nD k]=↑(aw (eG G W k) (eT T W k)<|W.eraseIdx k):=by
 have hw:=h.wl;have e:∀a:Dl.Env,ab 0 a=↑(aw G T W)->ab 2 a=↑(aD<|aK W k)->ah 2 ft acT a=↑(aw G T<|W.eraseIdx k):=λa d i=>by
  have E:(a[2]?).getD none=↑(aD<|aK W k):=i;have c:=lD (ρ:=a) (fi:=bu Xs) (cs:=[2]) (tt:=fB acS) (te:=ab 0) (g:=aD) (f:=aD) (q:=λx=>!decide (x=aK W k)) (l:=W) (u5<|aB (dU G T W) d rfl) (by lia) λx _=>by
   rw[zI,yV,E];exact{du<|aB (Gb _ _) rfl rfl,λ_=>rfl}
  rw[yt h.wp hk];exact call_of (pH rfl) (cons_of d<|cons_of (mM c) rfl) rfl
 have r0:=Dw (b:=false) h hk (G':=G) (T':=T) (V:=W.eraseIdx k) (d1:=nD k) (x5:=.UQ) rfl rfl;have r1:=Dw (b:=true) h hk (G':=eG G W k) (T':=T) (V:=W.eraseIdx k) (d1:=nD k) (x5:=.val<|ae (bA false G T<|cN false W k).2) rfl rfl;refine aP ?_;show g8 [.val<|aw G T W,.val<|nD k,.UQ,.UQ,.UQ,.UQ]=_;unfold g8;refine(ao<|dw<|call_of (bY h) rfl rfl).trans ?_;refine(ao<|dw<|pM h hk rfl rfl).trans ?_;refine(ao<|bE (aB (mq hk) (aB (dU G T W) rfl rfl) rfl) (aB (mq hk) (aB (dU G T W) rfl rfl) rfl) rfl).trans ?_;refine(ao<|bE (e _ rfl rfl) (e _ rfl rfl) rfl).trans ?_;have F:eN (wY 4) SG [.int<|sI false,.int<|sI true] [.val<|aw G T W,.val<|nD k,.val<|aD<|aK W k,.val<|aw G T<|W.eraseIdx k,.UQ,.UQ]=↑(.nx [.val<|aw G T W,.val<|nD k,.val<|aD<|aK W k,.val<|aw (eG G W k) (eT T W k)<|W.eraseIdx k,.val<|.int<|sI true,.val<|ae (bA true G T<|cN true W k).2]):=by
  rw[m8 (ρ1:=[.val<|aw G T W,.val<|nD k,.val<|aD<|aK W k,.val<|aw G T<|W.eraseIdx k,.val<|.int<|sI false,.UQ]) rfl r0,m8 (ρ1:=[.val<|aw G T W,.val<|nD k,.val<|aD<|aK W k,.val<|aw (eG G W k) T<|W.eraseIdx k,.val<|.int<|sI true,.val<|ae (bA false G T<|cN false W k).2]) rfl r1];rfl
 refine(ao<|eX (ds:=[.int<|sI false,.int<|sI true]) F (u5<|tup_is (ds:=[.int<|sI false,.int<|sI true]) rfl (by simp)) rfl).trans ?_;exact aW rfl
end
section
variable {W V:Γ Wy}
end
def ym:∀l:Fw,Hi (l.map λp=>.tuple [Dl.fN p.1,.int p.2])=↑l
 |[]=>rfl
 |p::l=>by
  show(Al<|.tuple [Dl.fN p.1,.int p.2]).bind _=_;have e:Al (.tuple [Dl.fN p.1,.int p.2])=↑p:=by
   show(bj<|Dl.fN p.1).map (·,p.2)=_;rw[bC];rfl
  rw[e,zA,ym l];rfl
def sS{l:Fw}(n:(l.map (·.1)).Nodup)(H:l.length<1000):lU (.list<|l.map λp=>.tuple [Dl.fN p.1,.int p.2])=↑(iZ l):=by
 show(Hi _).bind _=_;rw[ym,zA,yM ⟨n,H⟩]
def fw(W:Γ Wy)(P:Γ Int):Fw:=(List.range W.length).map λi=>([(aK W i).1,(aK W i).2.1],P.getD i 0)
def iS:(fw W P).length=W.length:=by simp[fw]
def Cs(W:Γ Wy)(P:Γ Int):(fw W P).map (·.1)=W.map λw=>[w.1,w.2.1]:=by
 unfold fw;rw[zM];apply List.ext_getElem?;intro i;by_cases H:i<W.length
 .rw[zO,List.getElem?_range H,zO,je H];rfl
 .rw[jK<|by simpa using H,jK<|by simpa using H]
def Q0(h:Wd G T W)(p:Pn G T W P):eC (fw W P) where
 nd:=by
  rw[Cs];unfold List.Nodup;rw[jD];exact h.wp.imp λ{a b}X e=>by
   simp?[kU,and_true]at e;lia
 ln:=λq H=>by
  let(i,_,rfl):=List.mem_map.mp H;rfl
 po:=λq H=>by
  let(i,I,rfl):=List.mem_map.mp H;exact(p.bd i<|List.mem_range.mp I).1
abbrev fb(G T:Γ Pl)(W:Γ Wy):Fw:=fw W<|mP G T W
def fR(h:Wd G T W):eC (fb G T W):=Q0 h<|v8 h
def SW(h:Wd G T W):iH (aa (f2 aH (ab 0)<|fC<|.int 2)<|aa (ah 1 aU<|aa (ab 0) af) af) [↑(aw G T W)]=↑((List.range W.length).map λi=>.tuple [aD<|aK W i,.int<|(mP G T W).getD i 0]):=by
 rw[<-lI (v8 h).len];have e:ah 1 aU (aa (ab 0) af) [↑(aw G T W)]=↑(ae<|mP G T W):=call_of (iR h) rfl rfl;have c:aa (f2 aH (ab 0)<|fC<|.int 2) (aa (ah 1 aU<|aa (ab 0) af) af) [↑(aw G T W)]=↑[.tuple<|W.map aD,ae<|mP G T W]:=cons_of rfl (cons_of e rfl);unfold iH;rw[c];rfl
def qg(h:Wd G T W):dC [aw G T W]=↑(iZ<|fb G T W):=by
 have hw:=h.wl;refine aP ?_;show j3 [.val<|aw G T W]=_;refine aW ?_;show f1 lU _ [↑(aw G T W)]=_;rw[Md<|mM<|kn (p:=λ_=>true) (h:=λi=>.tuple [Dl.fN [(aK W i).1,(aK W i).2.1],.int<|(mP G T W).getD i 0]) (SW h) (by lia) λi H=>{rfl,λ_=>rfl},<-sS (fR h).nd (by rw[iS];lia)];unfold fb fw;rw[zM,List.filter_eq_self.mpr λ_ _=>rfl];rfl
def C7:Γ (Γ Int):=(List.range 4).flatMap λa=>(List.range 4).map λb=>[Int.ofNat a,Int.ofNat b]
def ya:(C7.map eB).Nodup:=by decide +kernel
def Jr{a b:Int}(H:0<=a/\a<4)(c:0<=b/\b<4):[a,b]∈C7:=by
 unfold C7;rw[List.mem_flatMap];refine{a.toNat,List.mem_range.mpr<|by lia,List.mem_map.mpr {b.toNat,List.mem_range.mpr<|by lia,?_}};rw[Int.ofNat_eq_natCast,Int.ofNat_eq_natCast,Int.toNat_of_nonneg H.1,Int.toNat_of_nonneg c.1]
def BR(h:Wd G T W){k:Γ Int}(hk:k∈(fw W P).map (·.1)):k∈C7:=by
 rw[Cs]at hk;let(w,hw,rfl):=List.mem_map.mp hk;have:=h.wr w hw;have:=h.g4;have:=h.t4;exact Jr (by lia) (by lia)
def lz:∀A:Fw,lQ (A.map λp=>(Dl.fN p.1,.int p.2))=↑(A.map (·.1))
 |[]=>rfl
 |p::A=>by
  show(bj<|Dl.fN p.1).bind _=_;rw[bC,zA,lz A];rfl
def Gy(H:eC A)(c:eC B)(p:∀k∈A.map (·.1),k∈C7)(pB:∀k∈B.map (·.1),k∈C7)(L:A.length<=16)(lB:B.length<=16):Bw (iZ A) (iZ B)=↑((mz (j7 (A.map (·.1)) (B.map (·.1)))).map ae):=by
 have m:∀k∈j7 (A.map (·.1)) (B.map (·.1)),k∈C7:=λk hk=>(dG.mp hk).elim (p k)<|pB k;have N:((j7 (A.map (·.1)) (B.map (·.1))).map eB).Nodup:=by
  unfold List.Nodup;rw[jD];have I:∀x∈C7,∀y∈C7,eB x=eB y->x=y:=λx X y Y e=>by
   let(i,g,rfl):=qP X;let(j,J,rfl):=qP Y;have:=(List.getElem_inj (xs:=C7.map eB) (i:=i) (j:=j) (h₀:=by rw[zD];exact g) (h₁:=by rw[zD];exact J) ya).mp (by rw[List.getElem_map,List.getElem_map];exact e);subst this;rfl
  exact(BG H.nd c.nd).imp_of_mem λ{a b}d f n e=>n<|I a (m a d) b (m b f) e
 have l:(j7 (A.map (·.1)) (B.map (·.1))).length<64:=by
  unfold j7;rw[zN,zD];have:=xP (λk=>!(A.map (·.1)).contains k) (B.map (·.1));rw[zD]at this;lia
 have n:∀k∈j7 (A.map (·.1)) (B.map (·.1)),k≠[]:=λk hk e=>by
  have:=(dG.mp hk).elim H.ln2 c.ln2;rw[e]at this;cases this
 show(lQ _).bind _=_;rw[lz,zA,lz,zA,yM {H.nd,c.nd,N,l,n}]
def Ju(A:Fw)(k:Γ Int):My (iZ A) (ae k) (.int 0)=↑(.int<|gp k A):=by
 show(bj<|Dl.fN k).map _=_;rw[bC];rfl
def Sy:ak->Δ Out:=(aG (Dl.aO 6 [3,5]<|FA (ab 3) (ab 5)<|fC<|.int 0)<|lJ (fB<|f2 dX (ab 6)<|FA (ab 2) (ab 5)<|fC<|.int 0) ac0 lY)
def xh{fo fk f:Dl.Env->Δ D}{ρ:Dl.Env}(o:fo ρ=↑(iZ A))(hk:fk ρ=↑(ae k))(n:f ρ=↑(.int 0)):FA fo fk f ρ=↑(.int<|gp k A):=by
 unfold FA;rw[o,zA,hk,zA,n,zA,Ju]
def JX{acc:Γ (Γ Int)}(hk:k.length=2)(H:acc.length<1000):Sy [.val w,.val v,.val<|iZ A,.val<|iZ B,.own<|acc.map ae,.val<|ae k,x6]=↑(.nx [.val w,.val v,.val<|iZ A,.val<|iZ B,.own<|(acc++if gp k B=gp k A then[]else[k++[gp k B]]).map ae,.val<|ae k,.val<|.int<|gp k B]):=by
 obtain⟨a,b,rfl⟩:∃a b,k=[a,b]:=by
  match k,hk with
  |[a,b],_=>exact{a,b,rfl}
 unfold Sy;refine(ao<|bE (d:=.int<|gp [a,b] B) (xh rfl rfl rfl) (xh rfl rfl rfl) rfl).trans ?_;have t:fB (f2 dX (ab 6)<|FA (ab 2) (ab 5)<|fC<|.int 0) (aS [.val w,.val v,.val<|iZ A,.val<|iZ B,.own<|acc.map ae,.val<|ae [a,b],.val<|.int<|gp [a,b] B])=↑(!decide (gp [a,b] B=gp [a,b] A)):=
  du (aB (sQ _ _) rfl (xh rfl rfl rfl))
 by_cases c:gp [a,b] B=gp [a,b] A
 .rw[yM c,qF];exact fO<|t.trans<|by simp[c]
 .rw[yO c,qZ];exact(gS<|t.trans<|by simp[c]).trans<|G7 (d:=ae<|[a,b]++[gp [a,b] B]) rfl rfl rfl rfl (by rw[zD];lia)
def CO:∀(l acc:Γ (Γ Int))(x5 x6:Slot),(∀k∈l,k.length=2)->acc.length+l.length<=900->∃y Y,eN (wY 5) Sy (l.map ae) [.val w,.val v,.val<|iZ A,.val<|iZ B,.own<|acc.map ae,x5,x6]=↑(.nx [.val w,.val v,.val<|iZ A,.val<|iZ B,.own<|(acc++(l.filter λk=>!decide (gp k B=gp k A)).map λk=>k++[gp k B]).map ae,y,Y])
 |[],acc,x5,x6,_,_=>{x5,x6,by simp?[List.filter_nil,yV,qF];rfl}
 |k::l,acc,x5,x6,hk,H=>by
  rw[zL]at H;have e:=JX (w:=w) (v:=v) (A:=A) (B:=B) (x6:=x6) (acc:=acc) (hk k zE) (by lia);let(y,Y,h):=CO l (acc++if gp k B=gp k A then[]else[k++[gp k B]]) (.val<|ae k) (.val<|.int<|gp k B) (λq Q=>hk q<|zC _ Q) (by rw[zN];split<;>simp<;>lia);refine{y,Y,(m8 rfl e).trans<|h.trans ?_};by_cases c:gp k B=gp k A<;>simp[c]
def rR(h:Wd G T W)(h':Wd G' T' W'):aN [aw G T W,aw G' T' W']=↑(.list<|(gone (fb G T W)<|fb G' T' W').map ae):=by
 have hw:=h.wl;have H:=h'.wl;refine aP ?_;show eO [.val<|aw G T W,.val<|aw G' T' W',.UQ,.UQ,.UQ,.UQ,.UQ]=_;unfold eO;refine(ao<|bE (call_of (qg h) rfl rfl) (call_of (qg h) rfl rfl) rfl).trans ?_;refine(ao<|bE (call_of (qg h') rfl rfl) (call_of (qg h') rfl rfl) rfl).trans ?_;refine(ao<|lC (ds:=[]) rfl rfl).trans ?_;have s:=Gy (fR h) (fR h') (λk hk=>BR h hk) (λk hk=>BR h' hk) (by rw[iS];exact hw) (by rw[iS];exact H);have l:(mz (j7 ((fb G T W).map (·.1)) ((fb G' T' W').map (·.1)))).length<=32:=by
  rw[(et _).length_eq];unfold j7;rw[zN,zD];have:=xP (λk=>!((fb G T W).map (·.1)).contains k) ((fb G' T' W').map (·.1));rw[zD,iS]at this;rw[iS];lia
 let(y,Y,e):=CO (w:=aw G T W) (v:=aw G' T' W') (A:=fb G T W) (B:=fb G' T' W') _ [] .UQ .UQ (λk hk=>by
  rw[(et _).mem_iff,dG]at hk;exact hk.elim (fR h).ln2 (fR h').ln2) (by rw[xK];exact yE (Nat.le_of_eq<|jC _)<|yE l<|by decide)
 refine(ao<|eX e (qj<|mM (show A3 2 3 _=_ from s)) rfl).trans ?_;exact aW rfl
def Sv{f:Dl.Env->Δ D}{ρ:Dl.Env}{r:Γ Int}(h:f ρ=↑(ae r)):nN gP f nG (CN<|fC<|.int 2) ρ=↑(ae<|r.take 2):=by
 rw[Bo (ds:=r.map .int) (k:=2) h rfl];show some (PyData.tuple _)=↑(PyData.tuple _);rw[List.map_take]
open Ob Og
section
variable {ρ ρ':ak}{os os' os1 Ww:Γ Oj}{g g1 g2:OG}{f fa fb:OF}{fs:n6}{ta tb:Av}{d a b:D}{ds:Γ D}{C:Ψ}{i k n:Nat}{st st1 WK:Fs}{x m:Str}{r:RF}{rs:Jq}
def bf(h:g1 ρ os=↑(.nx ρ' os')):dR g1 g2 ρ os=g2 ρ' os':=by unfold dR;rw[h];rfl
def rh{g:ak->Δ Out}(h:g ρ=↑(.nx ρ')):lV g ρ os=↑(.nx ρ' os):=by unfold lV;rw[h];rfl
def eH(h:f ρ os=↑(d,os')):hJ i f ρ os=↑(.nx (ρ.set i<|.val d) os'):=by unfold hJ;rw[h];rfl
def gN(h:f (hand fz 0 ρ) os=↑(d,os')):cW fz (gD f) ρ os=↑(.rt d os'):=by unfold cW gD;rw[h];rfl
def CA(h:ta ρ os=↑(true,os')):xw ta g1 g2 ρ os=g1 ρ os':=by unfold xw;rw[h];rfl
def jf(h:ta ρ os=↑(false,os')):xw ta g1 g2 ρ os=g2 ρ os':=by unfold xw;rw[h];rfl
def bL{f:Dl.Env->Δ D}(h:f (bh ρ)=↑d):oD f ρ os=↑(d,os):=by unfold oD;rw[h]
def eL{g:D->D->Δ D}(G:g a b=↑d)(H:fa ρ os=↑(a,os1))(c:fb ρ os1=↑(b,Ww)):mN g fa fb ρ os=↑(d,Ww):=by
 unfold mN;rw[H,zA];show((fb ρ os1).bind λy=>(g a y.1).map (·,y.2))=_;rw[c,zA];show(g a b).map _=_;rw[G];rfl
def N1(H:fa ρ os=↑(.bool true,os1))(a:fb ρ os1=↑(d,Ww)):Lb fa fb ρ os=↑(d,Ww):=by unfold Lb;rw[H];exact a
def aC(H:f ρ os=↑(d,os1))(a:U ρ os1=↑(ds,Ww)):aJ f U ρ os=↑(d::ds,Ww):=by
 rw[aJ,H,zA,a];rfl
def bG:bI ρ os=↑([],os):=rfl
def fF{m:Γ D->Δ D}(H:m ds=↑d)(h:fs ρ os=↑(ds,os'))(N:ds.length=n):fT n m fs ρ os=↑(d,os'):=by
 unfold fT;rw[h,zA];show(if ds.length=n then(m ds).map (·,os')else none)=_;rw[yM N,H];rfl
def bW(H:ρ[i]?=↑(.obj k))(a:os[k]?=↑⟨C,st⟩):obj i C ρ os=↑(k,st):=by
 unfold obj;rw[H];show(match os[k]? with|some o=>if o.C=C then↑(k,o.st)else none|none=>none)=_;rw[a];exact yM rfl
def zy(H:r ρ os=↑d)(a:rs ρ os=↑ds):nA r rs ρ os=↑(d::ds):=by unfold nA;rw[H,a];rfl
def C1(h:r ρ os=↑d):oR r ρ os=↑(d,os):=by unfold oR;rw[h];rfl
def iz{mm:Γ Slot->Fs->Δ _}(h:obj i C ρ os=↑(k,st))(N:(st.lookup m).isNone=true)(a:fs ρ os=↑(ds,os1))(H:obj i C ρ os1=↑(k,st1))(l:ds.length+1=n)(M:mm (.obj 0::ds.map Slot.val) st1=↑(d,WK)):bK i C m n mm fs ρ os=↑(d,os1.set k {C,WK}):=by
 rw[bK,h,zA,yM N,a,zA,H,zA,yM l,M];rfl
def jb(h:g (ρ++List.replicate (n-ρ.length) .UQ) [⟨C,st⟩]=↑(.rt d [{C,st1}])):jn g C n ρ st=↑(d,st1):=by
 unfold jn;rw[h];exact yM rfl
def KZ(h:g (ρ++List.replicate (n-ρ.length) .UQ) [⟨C,st⟩]=↑(.nx ρ' [{C,st1}])):jn g C n ρ st=↑(.none,st1):=by
 unfold jn;rw[h];exact yM rfl
def K7(h:g (ds.map Slot.val++List.replicate (n-ds.length) .UQ) []=↑(.rt d os)):F8 g n ds=↑d:=by
 unfold F8;rw[h];rfl
def D5(H:fi (bh<|hand fz 0 ρ)=↑ds)(a:jy tgt g ds (hand fz 0 ρ) os=↑o):Hv fz fi tgt g ρ os=↑o:=by
 rw[Hv,H,zA];lia
end
section
variable {ρ ρ':ak}{os os' os1 Ww:Γ Oj}{g g1 g2:OG}{f fa fb:OF}{fs:n6}{ta tb:Av}{d a b:D}{ds:Γ D}{C:Ψ}{i j k n:Nat}{st st1 WK:Fs}{x y m:Str}
def pb{mm:Γ Slot->Fs->Δ _}{fs:Ez}(H:obj i C ρ os=↑(k,st))(h:fs ρ os=↑(sl,os1))(a:obj i C ρ os1=↑(k,st1))(l:sl.length=n)(m:mm sl st1=↑(d,WK)):gX i C n mm fs ρ os=↑(d,os1.set k {C,WK}):=by
 rw[gX,H,zA,h,zA,a,zA,yM l,m];rfl
def w6{s:Γ Slot}{g:Ez}(H:g ρ os=↑(s,Ww)):tw g ρ os=↑(.obj 0::s,Ww):=by unfold tw;rw[H];rfl
def xi:Ap ρ os=↑([],os):=rfl
def ask{mm:Γ Slot->Fs->Δ _}(h:obj i C ρ os=↑(k,st1))(H:mm [.obj 0] st1=↑(d,WK))(n:(st1.lookup m).isNone=true:=by rfl):bK i C m 1 mm bI ρ os=↑(d,os.set k {C,WK}):=iz h n bG h rfl H
def mH(H:tgt ρ d=↑ρ1)(a:gb ρ1 os=↑(.nx U Ww)):jy tgt gb (d::ds) ρ os=jy tgt gb ds U Ww:=by
 rw[jy,H,zA,a];rfl
def R8:20000<sizeLine:=by decide
def rJ(H:tgt ρ1 d=↑VL)(a:gb VL os1=↑(.nx W3 U)):∀{l:Γ D}{ρ:ak}{os:Γ Oj},jy tgt gb l ρ os=↑(.nx ρ1 os1)->jy tgt gb (l++[d]) ρ os=↑(.nx W3 U)
 |[],ρ,os,h=>by cases h;exact(mH H a).trans rfl
 |e::l,ρ,os,h=>by
  let(f,E,h):=bs h;let(o,c,h):=bs h;cases o with
  |nx A b=>exact(mH E c).trans (rJ H a h)
  |rt d os=>grind
def uo(f:Nat->D)(R:Nat->ak->Γ Oj->Prop):∀n{ρ:ak}{os:Γ Oj},(∀j ρ os,j<n->R j ρ os->∃ρ1 L Ww,tgt ρ (f j)=↑ρ1/\gb ρ1 os=↑(.nx L Ww)/\R (j+1) L Ww)->R 0 ρ os->∃ρ' os',jy tgt gb ((List.range n).map f) ρ os=↑(.nx ρ' os')/\R n ρ' os'
 |0,ρ,os,_,h=>{ρ,os,rfl,h}
 |n+1,ρ,os,H,h=>by
  let(ρ1,o,e,r1):=uo f R n (λj ρ os J=>H j ρ os<|by lia) h;let(L,W,O,E,a,r):=H n ρ1 o (by lia) r1;refine{W,O,?_,r};rw[vP,qZ];exact rJ E a e
end
open  Ex
variable {as:Γ D}{w v g d:D}{C:Ψ}{ρ:ak}{os:Γ Oj}{st:Fs}{i k:Nat}{m:Str}
abbrev cx(as:Γ D)(w:D):Fs:=[("stages",.lst<|as++[w])]
def KJ(as:Γ D)(w:D):aH (.list<|as++[w]) (.int<|-1)=↑w:=by
 show tW (as++[w]) (-1)=↑w;have e:FD (as++[w]).length (-1)=↑as.length:=by
  unfold FD;rw[yO<|by decide,zN,xD,yM<|by lia]
  congr 1
  lia
 unfold tW;rw[e,zA,yU<|yN _,Nat.sub_self];rfl
def Jm(h:obj i C ρ os=↑(k,cx as w)):Ig i C "stages" (f1 Jt<|fC<|.int 1) ρ os=↑w:=by
 unfold Ig;rw[h,zA];show(f1 Jt (fC<|.int 1)<|bh ρ).bind (λd=>aH (.list<|as++[w]) d)=_;exact KJ as w
def bT:aq C (cx as w)=↑w:=Jm<|bW (k:=0) rfl rfl
def AU:cy C (cx as w)=↑(.int as.length):=by
 show uG Dl.ib (uw 0 C "stages") (rD<|fC<|.int 1) [.obj 0] [{C,cx as w}]=_;have e:uw 0 C "stages" [.obj 0] [{C,cx as w}]=↑(.int (as++[w]).length):=by
  unfold uw;rw[bW (k:=0) (st:=cx as w) rfl rfl];rfl
 unfold uG;rw[e,zA];show Dl.ib (.int ((as++[w]).length:Nat)) (.int 1)=_;show some (PyData.int _)=↑(PyData.int _);rw[zN,xD]
 congr 2
 lia
def bD(h:obj i C ρ os=↑(k,st))(n:(st.lookup m).isNone=true)(H:mr st=↑d):oR (bg i C m mr) ρ os=↑(d,os):=by
 have e:bg i C m mr ρ os=↑d:=by
  unfold bg;rw[h,zA];exact(yM n).trans H
 show(bg i C m mr ρ os).map _=_;rw[e];rfl
def qt(h:obj i C ρ os=↑(k,st))(n:(st.lookup m).isNone=true)(H:mr st=↑d):bg i C m mr ρ os=↑d:=by
 unfold bg;rw[h,zA];exact(yM n).trans H
def mn(e:aU [w]=↑d):aM C [.obj 0] (cx as w)=↑(d,cx as w):=by
 refine jb ?_;show cW (List.range 1) (gD _) [.obj 0] [{C,cx as w}]=_;exact gN<|fF e (aC (bD (bW (k:=0) rfl rfl) rfl bT) bG) rfl
def He(e:aN [w,v]=↑g)(l:as.length<100):bw C [.obj 0,.val v] (cx as w)=↑(g,cx (as++[w]) v):=by
 refine jb ?_;show dR (hJ 2 _) _ [.obj 0,.val v,.UQ] [{C,cx as w}]=_;refine(bf<|eH<|bD (bW (k:=0) rfl rfl) rfl bT).trans ?_;have a:zd 0 C "stages" (rD<|ab 1) [.obj 0,.val v,.val w] [{C,cx as w}]=↑(.nx [.obj 0,.val v,.val w] [{C,cx (as++[w]) v}]):=by
  unfold zd;rw[bW (k:=0) (st:=cx as w) rfl rfl,zA];show(↑v).bind (λd=>if(as++[w]).length<sizeLine then _ else none)=_;rw[zA,yM (by have:=oO;rw[zN,xD];unfold sizeLine;lia)];rfl
 refine(bf a).trans ?_;exact gN<|bL<|call_of e rfl rfl
def NI{f:OF}(X:ρ[0]?=↑(.obj 0))(H:f ρ [{C,cx as w}]=↑(v,[{C,cx as w}]))(e:aN [w,v]=↑g)(l:as.length<100):bK 0 C "change_to" 2 (bw C) (aJ f bI) ρ [{C,cx as w}]=↑(g,[{C,cx (as++[w]) v}]):=
 iz (k:=0) (st:=cx as w) (st1:=cx as w) (bW X rfl) rfl (aC H bG) (bW X rfl) rfl (He e l)
def zg{s p a:D}(e:dB [w,s,p,a]=↑v)(E:aN [w,v]=↑g)(l:as.length<100):bN C [.obj 0,.val s,.val p,.val a] (cx as w)=↑(g,cx (as++[w]) v):=by
 refine jb ?_;show cW (List.range 4) (gD _) [.obj 0,.val s,.val p,.val a] [{C,cx as w}]=_;exact gN<|NI rfl (fF e (aC (bD (bW (k:=0) rfl rfl) rfl bT)<|aC (bL rfl)<|aC (bL rfl)<|aC (bL rfl) bG) rfl) E l
def KH{p a:D}(e:fZ [w,p,a]=↑v)(E:aN [w,v]=↑g)(l:as.length<100):cK C [.obj 0,.val p,.val a] (cx as w)=↑(g,cx (as++[w]) v):=by
 refine jb ?_;show cW (List.range 3) (gD _) [.obj 0,.val p,.val a] [{C,cx as w}]=_;exact gN<|NI rfl (fF e (aC (bD (bW (k:=0) rfl rfl) rfl bT)<|aC (bL rfl)<|aC (bL rfl) bG) rfl) E l
def JL{p:D}(e:eU [w,p]=↑v)(E:aN [w,v]=↑g)(l:as.length<100):eY C [.obj 0,.val p] (cx as w)=↑(g,cx (as++[w]) v):=by
 refine jb ?_;show cW (List.range 2) (gD _) [.obj 0,.val p] [{C,cx as w}]=_;exact gN<|NI rfl (fF e (aC (bD (bW (k:=0) rfl rfl) rfl bT)<|aC (bL rfl) bG) rfl) E l
def N3{n:Nat}(hk:as.length=n):Ob.oB (mN bS (oR<|bg 0 C "many"<|cy C)<|oD<|fC<|.int 0) [.obj 0,.UQ] [{C,cx as w}]=↑(decide ((n:Int)=0),[{C,cx as w}]):=by
 subst hk;have e:=eL (fa:=oR<|bg 0 C "many"<|cy C) (fb:=oD<|fC<|.int 0) (ρ:=[.obj 0,.UQ]) (os:=[{C,cx as w}]) (cF ((as.length:Nat):Int) 0) (bD (bW (k:=0) rfl rfl) rfl AU)<|bL rfl;unfold Ob.oB;rw[e];rfl
def GO(e:aN [v,w]=↑g):fV C [.obj 0] (cx (as++[w]) v)=↑(g,cx as w):=by
 refine jb ?_;show dR _ _ [.obj 0,.UQ] [{C,cx (as++[w]) v}]=_;have z:=(N3 (C:=C) (w:=v) (n:=as.length+1) (as:=as++[w])<|by rw[zN,xD]).trans (by rw[yA<|by lia]);refine(bf<|(jf z).trans rfl).trans ?_;have p:yg 0 C "stages" [.obj 0,.UQ] [{C,cx (as++[w]) v}]=↑(v,[{C,cx as w}]):=by
  unfold yg;rw[bW (k:=0) (st:=cx (as++[w]) v) rfl rfl,zA];show((as++[w]++[v])[(as++[w]++[v]).length-1]?).map (λd=>(d,([{C,[("stages",.lst (as++[w]++[v]).dropLast)]}]:Γ Oj)))=_;rw[zN (as:=as++[w]),xD,Nat.add_sub_cancel,yU<|yN _,Nat.sub_self,List.dropLast_concat];rfl
 refine(bf<|eH p).trans ?_;exact gN<|fF e (aC (bL rfl)<|aC (bD (bW (k:=0) rfl rfl) rfl bT) bG) rfl
section
variable {G T:Γ Pl}{W:Γ Wy}{b:θ}{i j k:Nat}{w s l d e:D}{c:Str}
abbrev wl:Dl.Env->Δ (Γ D):=aa (ab 1)<|aa (b8 bP<|aa (f2 aH (ab 0)<|fC<|.int 2) af) af
end
section
variable {as:Γ D}{w v g d s p a r x y z:D}{C:Ψ}{ρ:ak}{os:Γ Oj}{c:Str}{k:Int}
end
section
variable {ns:Γ Int}{as:Γ D}{w P t due d:D}{C:Ψ}{ρ:ak}{os os':Γ Oj}{x3 x4 x5 x6 x7 x8 x9 x10 x11 x12:Slot}
def oF{ta tb:Av}(h:ta ρ os=↑(false,os')):rX ta tb ρ os=tb ρ os':=by unfold rX;rw[h];rfl
def l7{f:OF}{b:θ}(h:f ρ os=↑(.bool b,os')):Ob.oB f ρ os=↑(b,os'):=by unfold Ob.oB;rw[h];rfl
def uA{f:Dl.Env->Δ θ}{b:θ}(h:f (aS ρ)=↑b):oT f ρ os=↑(b,os):=by unfold oT;rw[h];rfl
def MN{f:Dl.Env->Δ D}(H:f (bh ρ)=none)(h:f (aS ρ)=↑d)(hs:Dl.nP d=true):oD f ρ os=↑(d,os):=by
 unfold oD;rw[H];show(f<|aS ρ).bind _=_;rw[h];exact yM hs
def LF{f:Dl.Env->Δ D}{e:Dl.Env}{ds:Γ D}(h:f e=↑(.list ds)):b8 bP (aa f af) e=↑(.int (ds.length:Nat)):=by
 have:=Gz (r:=ds) (g:=id) (f:=f) (ρ:=e) (by rw[List.map_id];exact h);exact this
end
section
variable {ns:Γ Int}{as bs:Γ D}{w w' v P t due d g:D}{C:Ψ}{ρ:ak}{os os':Γ Oj}{k4 k x3 x4 x5 x6 x7 x8 x9 x10 x11 x12:Slot}{way side place abp:Int}{G T G' T':Γ Pl}{W W':Γ Wy}
abbrev yf(G T:Γ Pl)(W:Γ Wy)(G' T':Γ Pl)(W':Γ Wy):D:=.list<|(gone (fb G T W)<|fb G' T' W').map ae
end
def F6(H:eC A)(p:∀k∈A.map (·.1),k∈C7):pD (dm A)=true:=by
 unfold pD dm;rw[lz];show decide _=true;refine yB ?_;unfold List.Nodup;rw[jD];have I:∀x∈C7,∀y∈C7,eB x=eB y->x=y:=λx X y Y e=>by
  let(i,d,rfl):=qP X;let(j,J,rfl):=qP Y;have:=(List.getElem_inj (xs:=C7.map eB) (i:=i) (j:=j) (h₀:=by rw[zD];exact d) (h₁:=by rw[zD];exact J) ya).mp (by rw[List.getElem_map,List.getElem_map];exact e);subst this;rfl
 exact H.nd.imp_of_mem λ{a b}c B n e=>n<|I a (p a c) b (p b B) e
def BF{k:Γ Int}{v:Int}:∀A:Fw,(pu k v A).length<=A.length+1
 |[]=>by rw[pu];simp
 |p::A=>by
  rw[pu];split
  .simp
  .have:=BF (k:=k) (v:=v) A;simp?[zL];lia
def D7:∀(rows:Γ (Γ Int))(A:Fw),(led A rows).length<=A.length+rows.length
 |[],A=>yN _
 |r::rows,A=>by
  rw[Ag,zL];have:=D7 rows<|pu (r.take 2) (r.getD 2 0) A;have:=BF (k:=r.take 2) (v:=r.getD 2 0) A;lia
abbrev Ql:ak->Δ Out:=D4 2 abi<|ab 5
def G8{A:Fw}(p q v:Int)(h:A.length<1000):Ql [a,b,.tab<|dm A,.val<|.int p,.val<|.int q,.val<|.int v]=↑(.nx [a,b,.tab<|dm<|pu [p,q] v A,.val<|.int p,.val<|.int q,.val<|.int v]):=by
 show((ab 5<|aS _).bind λd=>_)=_;rw[show ab 5 (aS [a,b,.tab<|dm A,.val<|.int p,.val<|.int q,.val<|.int v])=↑(.int v)from rfl,zA,abi,acN,ae6,KA (d:=.int p) (e:=.int q) rfl rfl,zA];show(if(dm A).length<1000 then↑(Out.nx [a,b,.tab<|putD [p,q] v<|dm A,_,_,_])else none)=_;rw[yM (by unfold dm;rw[zD];exact h),Dt]
def AF:∀(rows:Γ (Γ Int))(A:Fw)(x3 x4 x5:Slot),(∀r∈rows,r.length=3)->A.length+rows.length<=900->∃y Y c,eN (HR 3 4 5) Ql (rows.map ae) [a,b,.tab<|dm A,x3,x4,x5]=↑(.nx [a,b,.tab<|dm<|led A rows,y,Y,c])
 |[],A,x3,x4,x5,_,_=>{x3,x4,x5,rfl}
 |r::rows,A,x3,x4,x5,H,l=>by
  rw[zL]at l;have d:=H r zE
  match r,d with
  |[p,q,v],_ =>
   have:=BF (k:=[p,q]) (v:=v) A;let(y,Y,c,h):=AF rows (pu [p,q] v A) (.val<|.int p) (.val<|.int q) (.val<|.int v) (λs S=>H s<|zC _ S) (by lia);exact{y,Y,c,(m8 rfl (G8 p q v<|by lia)).trans h}
def Qt{A:Fw}{rows:Γ (Γ Int)}(j:eC A)(k:pD (dm A)=true)(L:eC (led A rows))(R:∀r∈rows,r.length=3)(H:A.length+rows.length<=900):gz [.dict<|dm A,.list<|rows.map ae]=↑(.dict<|dm<|vm<|led A rows):=by
 refine aP ?_;show mI [.val<|.dict<|dm A,.val<|.list<|rows.map ae,.UQ,.UQ,.UQ,.UQ]=_;unfold mI;have m:=D7 rows A;have c:KS 2 (ab 0) [.val<|.dict<|dm A,.val<|.list<|rows.map ae,.UQ,.UQ,.UQ,.UQ]=↑(.nx [.val<|.dict<|dm A,.val<|.list<|rows.map ae,.tab<|dm A,.UQ,.UQ,.UQ]):=by
  show(if(pD (dm A)&&decide ((dm A).length<1000)&&true)=true then _ else none)=_;rw[yM (by rw[k];simp?[jJ,Bool.and_true];exact yB (by unfold dm;rw[zD];lia))];rfl
 refine(ao c).trans ?_;let(y,Y,d,e):=AF (a:=.val<|.dict<|dm A) (b:=.val<|.list<|rows.map ae) rows A .UQ .UQ .UQ R H;refine(ao<|eX e (qj rfl) rfl).trans ?_;show aV _ [.val<|.dict<|dm A,.val<|.list<|rows.map ae,.val<|.dict<|dm<|led A rows,y,Y,d]=_;refine aW ?_;rw[Md (mM (lD (l:=led A rows) (g:=λp=>Dl.fN p.1) (f:=λp=>.tuple [Dl.fN p.1,.int p.2]) (q:=λp=>decide (0<p.2)) (by
   show some ((dm<|led A rows).map (·.1))=_;unfold dm;rw[zM];rfl) (by lia) λx X=>?_))]
 .exact (sS (l:=vm<|led A rows) (gn L).nd<|qY (xP _ _)<|by lia)
 .have i:f2 Ib (ab 1) (ab 0) [↑(Dl.fN x.1),↑(.dict<|dm<|led A rows)]=↑(.int x.2):=by
   refine aB (a:=.dict<|dm<|led A rows) (b:=Dl.fN x.1) ?_ rfl rfl;show(bj<|Dl.fN x.1).bind (λn=>(FG n<|dm<|led A rows).map PyData.int)=_;rw[bC,zA,AO (v:=x.2) L.nd X];rfl
  exact{du<|aB rfl i rfl,λ_=>KA rfl i}
abbrev tm(G T:Γ Pl)(W:Γ Wy):D:=iZ<|vm<|fb G T W
def sE(h:Wd G T W)(h':Wd G' T' W'):(gone (fb G T W)<|fb G' T' W').length<=32:=by
 have hw:=h.wl;have w:=h'.wl;unfold gone;rw[zD];refine yE (xP _ _) ?_;rw[(et _).length_eq];unfold j7;rw[zN,zD];have:=xP (λk=>!((fb G T W).map (·.1)).contains k) ((fb G' T' W').map (·.1));rw[zD,iS]at this;rw[iS];lia
def sk(h:Wd G T W)(h':Wd G' T' W')(R:r∈gone (fb G T W) (fb G' T' W')):∃a b,r=[a,b,gp [a,b]<|fb G' T' W']/\gp [a,b] (fb G' T' W')≠gp [a,b] (fb G T W):=by
 let(k,H,c,rfl):=yn.mp R;have l:=H.elim (fR h).ln2 (fR h').ln2
 match k,l with
 |[a,b],_=>exact{a,b,rfl,c}
def DL(h:Wd G T W)(h':Wd G' T' W'):∃L,gz [tm G T W,yf G T W G' T' W']=↑(.dict<|dm L)/\Ax (.dict<|dm L) (tm G' T' W')=↑(.bool false):=by
 let(o,g):=FY (fR h)<|fR h';have hw:=h.wl;have lp:=xP (λp:Γ Int×Int=>decide (0<p.2))<|fb G T W;rw[iS]at lp;have l:=sE h h';refine{_,Qt (gn<|fR h) (F6 (gn<|fR h) λk hk=>?_) o (λr R=>?_) ?_,?_}
 .let(p,H,e):=List.mem_map.mp hk;exact BR h<|List.mem_map.mpr {p,(List.mem_filter.mp H).1,e}
 .let(a,b,e,_):=sk h h' R;rw[e];rfl
 .unfold vm;lia
 .show (if alike _ (dm<|vm<|fb G' T' W')=true then _ else none)=_;rw[yM<|Ey o (fR h') g]
def Hm(h:Wd G T W)(h':Wd G' T' W')(H:ab 11 E=↑(yf G T W G' T' W'))(d:(E[6]?).getD none=↑(.tuple [w,p,tm G T W])):dS (av 1 [6] (bu<|ab 11) (fG 0) (fB<|f2 bS (FA abn aah<|fC<|.int 0) Xs)<|ab 0) E=↑(.list []):=by
 have L:=sE h h';rw[mM<|lD (l:=gone (fb G T W)<|fb G' T' W') (g:=ae) (f:=ae) (q:=λ_=>false) (qj H) (by lia) λr R=>?_]
 .rw[List.filter_eq_nil_iff.mpr λ_ _=>by simp];rfl
 .let(a,b,e,n):=sk h h' R;rw[e];refine{du<|aB (cF (gp [a,b]<|fb G T W) (gp [a,b]<|fb G' T' W') |>.trans (by rw[yA λe=>n e.symm])) ?_ rfl,λc=>by cases c};rw[<-wu<|fR h];refine xh ?_ (Sv (r:=[a,b,gp [a,b]<|fb G' T' W']) rfl) rfl;show f2 aH (ab 1) (fC<|.int 2) [_,(E[6]?).getD none]=_;rw[d];rfl
def LX(h:Wd G T W)(h':Wd G' T' W')(H:ab 11 E=↑(yf G T W G' T' W')):dS ade E=↑(yf G T W G' T' W'):=by
 have n:∀r∈gone (fb G T W) (fb G' T' W'),r≠[]:=λr R e=>by
  let(a,b,c,_):=sk h h' R;rw[e]at c;cases c
 have l:=sE h h';refine mM (f:=si dY _) ?_;show(aa (ab 11) af E).bind dY=_;rw[cons_of H (show af E=↑[]from rfl),zA];simp?[dY,oneOf,zA,l8 n,yM (show(gone (fb G T W)<|fb G' T' W').length<64 by lia)];rw[<-vz (.refl _)<|Kq (fR h)<|fR h']
def oJ{ρ:ak}{os:Γ Oj}{g:D->D->Δ D}{fa fb:RF}(G:g a b=↑d)(H:fa ρ os=↑a)(c:fb ρ os=↑b):uG g fa fb ρ os=↑d:=by
 unfold uG;rw[H,c];exact G
def F5{ρ:ak}{os os1:Γ Oj}{ds o:Γ D}{t:Nat}{fi:Po}{tgt:Dl.Env->D->Δ Dl.Env}{tt:Dl.Env->Δ θ}{te:Dl.Env->Δ D}(h:fi ρ os=↑(ds,os1))(c:av t cs (λ_=>↑ds) tgt tt te (bh ρ)=↑o):yz t cs fi tgt tt te ρ os=↑(.list o,os1):=by
 unfold av at c;rw[zA]at c;unfold yz;rw[h,zA,c];rfl
def rT{C:Ψ}{as:Γ D}(h:Wd G T W):aZ C [.obj 0] (cx as<|aw G T W)=↑(tm G T W,cx as<|aw G T W):=by
 have hw:=h.wl;have ob:obj 0 C [.obj 0] [{C,cx as<|aw G T W}]=↑(0,cx as<|aw G T W):=bW (k:=0) rfl rfl;refine jb ?_;refine gN ?_;show Ck _ [.obj 0] [{C,cx as<|aw G T W}]=_;have z:Ba [.tuple<|W.map aD,ae<|mP G T W]=↑((List.range W.length).map λi=>.tuple [aD<|aK W i,.int<|(mP G T W).getD i 0]):=by
  rw[<-lI (v8 h).len];rfl
 have e:(Iz<|aJ (oR<|uG aH (bg 0 C "world"<|aq C)<|rD<|fC<|.int 2)<|aJ (bK 0 C "plan" 1 (aM C) bI) bI) [.obj 0] [{C,cx as<|aw G T W}]=↑((List.range W.length).map λi=>.tuple [aD<|aK W i,.int<|(mP G T W).getD i 0],[{C,cx as<|aw G T W}]):=by
  unfold Iz;rw[aC (C1<|oJ (dU G T W) (qt ob rfl bT) rfl)<|aC (ask ob<|mn<|iR h) bG,zA];show(Ba [.tuple<|W.map aD,ae<|mP G T W]).map _=_;rw[z];rfl
 unfold Ck;rw[F5 e<|kn (p:=λi=>decide (0<(mP G T W).getD i 0)) (h:=λi=>.tuple [Dl.fN [(aK W i).1,(aK W i).2.1],.int<|(mP G T W).getD i 0]) rfl (by lia) λi H=>{rfl,λ_=>KA rfl rfl},zA];have d:lU (.list<|((List.range W.length).filter λi=>decide (0<(mP G T W).getD i 0)).map λi=>.tuple [Dl.fN [(aK W i).1,(aK W i).2.1],.int<|(mP G T W).getD i 0])=↑(tm G T W):=by
  rw[<-sS (l:=vm<|fb G T W) (gn<|fR h).nd<|qY (xP _ _) (by rw[iS];lia)];unfold vm fb fw;rw[kF,zM];rfl
 show(lU _).map _=_;rw[d];rfl
section
variable {ns:Γ Int}{as bs:Γ D}{w w' v P t due d g:D}{C:Ψ}{ρ:ak}{os os':Γ Oj}{x3 x4 x9 x12:Slot}{way side place abp:Int}{G T G' T':Γ Pl}{W W':Γ Wy}
end
section
variable {ns:Γ Int}{as:Γ D}{d:D}{C:Ψ}{ρ:ak}{os os':Γ Oj}{k:Nat}{x4 x5 x6 x7 x8 x9 x10 x11 x12:Slot}{G T:Γ Pl}{W:Γ Wy}
def two(s:Int)(h:0<=s/\s<2):∃b,s=sI b:=by
 rcases(show s=0\/s=1 by lia)with rfl|rfl
 .exact{false,rfl}
 .exact{true,rfl}
def SM{a b:Dl.Env->Δ θ}(H:a E=↑true):ma a b E=↑true:=by unfold ma;rw[H];rfl
def NU{a b:Dl.Env->Δ θ}{c:θ}(H:a E=↑false)(B:b E=↑c):ma a b E=↑c:=by unfold ma;rw[H];exact B
abbrev ref(j:Int):Dl.Env->Δ D:=bq<|aa (fC<|.str "refused")<|aa (fC<|.int j) af
end
section
variable {ns:Γ Int}{as:Γ D}{d:D}{C:Ψ}{ρ:ak}{os os':Γ Oj}{x4 x5 x6 x7 x8 x9 x10 x11 x12:Slot}{G T:Γ Pl}{W:Γ Wy}
def Te{i:Nat}{fz:Γ Nat}{f:Dl.Env->Δ D}(h:f (aS ρ)=↑d)(hs:Dl.nP d=true):lV (Dl.aO i fz f) ρ os=↑(.nx (ρ.set i<|.val d) os):=rh<|dN h hs
end
def Ug(C:Ψ):OG:=(xw (rX (As<|Ob.oB<|fT 2 mZ<|aJ (oR<|bg 1 C "world"<|aq C)<|aJ (bK 1 C "plan" 1 (aM C) bI) bI)<|Ob.oB<|mN Ax (oD adb)<|gX 1 C 1 (aZ C)<|tw Ap) (cW (List.range 17)<|gD<|oD<|fC<|.bool false) Jk)
def UL:OG:=(xw (oT<|ma (fB<|f2 dX (dS<|av 1 [6] (bu<|ab 11) (fG 0) (fB<|f2 bS (FA abn aah<|fC<|.int 0) Xs)<|ab 0)<|dS zq6) adf) (cW (List.range 17)<|gD<|oD<|fC<|.bool false) Jk)
def UE(C:Ψ):OG:=(xw (rX (Ob.oB<|mN dX (EF 2 (jt C) "plan" (aM C)<|aJ (oR<|bg 1 C "world"<|aq C) bI)<|bK 1 C "plan" 1 (aM C) bI)<|Ob.oB<|mN dX (bK 1 C "plan" 1 (aM C) bI)<|fT 1 aU<|aJ (oR<|bg 1 C "world"<|aq C) bI) (cW (List.range 17)<|gD<|oD<|fC<|.bool false) Jk)
def TB(C:Ψ):OG:=(IQ 3<|mN aQ (oD<|ab 6)<|oTup<|aJ (gX 1 C 1 (aZ C)<|tw Ap) bI)
def Hu{ta:Av}{ρ:ak}{os os1:Γ Oj}{c:θ}(h:ta ρ os=↑(c,os1)):As ta ρ os=↑(!c,os1):=by unfold As;rw[h];rfl
def DY{fs:n6}{ρ:ak}{os os1:Γ Oj}{ds:Γ D}(h:fs ρ os=↑(ds,os1))(l:ds.length<=1000):oTup fs ρ os=↑(.tuple ds,os1):=by
 unfold oTup;rw[h,zA,bF<|yE l<|by decide];rfl
def IU{C:Ψ}{w:D}(h:cH [w]=↑.none):jt C [.obj 0,.val w] []=↑(.none,cx [] w):=by
 refine KZ (ρ':=[.obj 0,.val w]) ?_;show dR _ _ [.obj 0,.val w] [{C,[]}]=_;refine(bf<|rh<|dw<|call_of h rfl rfl).trans ?_;unfold CP;rw[show j6 VS (bh [.obj 0,.val w])=↑[w]from NW (cons_of rfl rfl)<|by simp,zA,bW (k:=0) (st:=[]) rfl rfl];rfl
section
variable {ns:Γ Int}{rows bs:Γ D}{C:Ψ}{ρ:ak}{os os1:Γ Oj}{x2 x4 x5 x7 x8 x9 x10 x12 x13 x14 x15 x16:Slot}{G T G' T':Γ Pl}{W W':Γ Wy}{w d:D}
def Ku{fs:n6}(a:fs ρ os=↑([w],os1))(hw:cH [w]=↑.none)(b:aU [w]=↑d):EF 2 (jt C) "plan" (aM C) fs ρ os=↑(d,os1):=by
 unfold EF;rw[a,zA];show((jt C [.obj 0,.val w] []).bind λw=>_)=_;rw[IU hw,zA];show(if _ then(aM C [.obj 0]<|cx [] w).map _ else none)=_;rw[yM (show(List.lookup ("plan":Str)<|cx [] w).isNone=true from rfl),mn b];rfl
abbrev td(G T:Γ Pl)(W:Γ Wy):D:=.tuple [aw G T W,ae<|mP G T W,tm G T W]
abbrev Ja(ns:Γ Int)(rows:Γ D)(x2 x4 x5:Slot)(b:D)(x7 x8 x9 x10:Slot)(t:D)(x12 x13 x14 x15 x16:Slot):ak:=[.val<|gJ ns,.obj 0,x2,.own rows,x4,x5,.val b,x7,x8,x9,x10,.val t,x12,x13,x14,x15,x16]
def tH{b t:D}{st:Fs}:obj 1 C (Ja ns rows x2 x4 x5 b x7 x8 x9 x10 t x12 x13 x14 x15 x16) [⟨C,st⟩]=↑(0,st):=bW (k:=0) rfl rfl
def Le(h:Wd G T W)(h':Wd G' T' W'):Ug C (Ja ns rows x2 x4 x5 (td G T W) x7 x8 x9 x10 (yf G T W G' T' W') x12 x13 x14 x15 x16) [{C,cx bs<|aw G' T' W'}]=↑(.nx (Ja ns rows x2 x4 x5 (td G T W) x7 x8 x9 x10 (yf G T W G' T' W') x12 x13 x14 x15 x16) [{C,cx bs<|aw G' T' W'}]):=by
 let(L,e,E):=DL h h';refine(jf<|(oF<|Hu (c:=true)<|l7<|fF (yw h' (v8 h')<|Ng h') (aC (bD tH rfl bT)<|aC (ask tH<|mn<|iR h') bG) rfl).trans ?_).trans rfl;exact l7<|eL E (bL<|call_of e (cons_of (aB (a:=td G T W) (b:=.int 2) rfl rfl rfl)<|cons_of rfl rfl) rfl)<|pb tH (w6 xi) tH rfl (rT h')
def LS(h:Wd G T W)(h':Wd G' T' W'):UL (Ja ns rows x2 x4 x5 (td G T W) x7 x8 x9 x10 (yf G T W G' T' W') x12 x13 x14 x15 x16) [{C,cx bs<|aw G' T' W'}]=↑(.nx (Ja ns rows x2 x4 x5 (td G T W) x7 x8 x9 x10 (yf G T W G' T' W') x12 x13 x14 x15 x16) [{C,cx bs<|aw G' T' W'}]):=by
 refine(jf<|uA<|NU (du<|aB (a:=.list []) (b:=.list []) ((o7 [] []).trans rfl) (Hm h h' rfl rfl) rfl)<|du<|aB ((o7 (gone (fb G T W)<|fb G' T' W')<|gone (fb G T W)<|fb G' T' W').trans<|by simp) rfl (LX h h' rfl)).trans rfl
def JF(h':Wd G' T' W'):UE C (Ja ns rows x2 x4 x5 (td G T W) x7 x8 x9 x10 (yf G T W G' T' W') x12 x13 x14 x15 x16) [{C,cx bs<|aw G' T' W'}]=↑(.nx (Ja ns rows x2 x4 x5 (td G T W) x7 x8 x9 x10 (yf G T W G' T' W') x12 x13 x14 x15 x16) [{C,cx bs<|aw G' T' W'}]):=by
 refine(jf<|(oF<|l7<|eL (pj<|mP G' T' W') (Ku (aC (bD tH rfl bT) bG) (bY h')<|iR h')<|ask tH<|mn<|iR h').trans ?_).trans rfl;exact l7<|eL (pj<|mP G' T' W') (ask tH<|mn<|iR h')<|fF (iR h') (aC (bD tH rfl bT) bG) rfl
abbrev Q6(G T:Γ Pl)(W:Γ Wy)(l:D):D:=.tuple [aw G T W,ae<|mP G T W,tm G T W,l]
def Jw(h':Wd G' T' W')(l:rows.length<1000):TB C (Ja ns rows x2 x4 x5 (td G T W) x7 x8 x9 x10 (yf G T W G' T' W') x12 x13 x14 x15 x16) [{C,cx bs<|aw G' T' W'}]=↑(.nx (Ja ns (rows++[Q6 G T W<|tm G' T' W']) x2 x4 x5 (td G T W) x7 x8 x9 x10 (yf G T W G' T' W') x12 x13 x14 x15 x16) [{C,cx bs<|aw G' T' W'}]):=by
 have g:Dl.aQ (td G T W) (.tuple [tm G' T' W'])=↑(Q6 G T W<|tm G' T' W'):=by
  show Option.map _ (small [aw G T W,ae<|mP G T W,tm G T W,tm G' T' W'])=_;rw[bF<|by simp];rfl
 have e:mN Dl.aQ (oD<|ab 6) (oTup<|aJ (gX 1 C 1 (aZ C)<|tw Ap) bI) (Ja ns rows x2 x4 x5 (td G T W) x7 x8 x9 x10 (yf G T W G' T' W') x12 x13 x14 x15 x16) [{C,cx bs<|aw G' T' W'}]=↑(Q6 G T W<|tm G' T' W',[{C,cx bs<|aw G' T' W'}]):=eL g (bL rfl)<|DY (aC (pb tH (w6 xi) tH rfl (rT h')) bG) (by simp);unfold TB IQ;rw[e,zA];show(if rows.length<sizeLine then _ else none)=_;rw[yM (by have:=R8;lia)];rfl
end
def Sq(C:Ψ):OG:=(xw (oT ac4) (dR (hJ 10<|fT 3 aj<|aJ (oD<|ab 0)<|aJ (oD aai)<|aJ (oR<|Ob.rB bP<|nA (uG aH (bg 1 C "world"<|aq C)<|rD<|ab 8) vf) bI)<|hJ 11<|bK 1 C "set_amount" 4 (bN C)<|aJ (oD<|ab 8)<|aJ (oD<|ab 10)<|aJ (oD ac6) bI)<|xw (oT ac8) (hJ 11<|bK 1 C "set_limit" 3 (cK C)<|aJ (oD aaj)<|aJ (oD ada) bI)<|hJ 11<|bK 1 C "close" 2 (eY C)<|aJ (oD aaj) bI)
section
variable {ns:Γ Int}{rows as bs:Γ D}{C:Ψ}{ρ:ak}{os os1:Γ Oj}{x2 x4 x5 x6 x7 x8 x9 x10 x11 x12 x13 x14 x15 x16:Slot}{G T G' T':Γ Pl}{W W':Γ Wy}{w d:D}{H way:Int}{b:θ}
abbrev Fq(ns:Γ Int)(rows:Γ D)(x2 x4:Slot)(H:Int)(B:D)(way:Int)(b:θ)(n:Nat)(x10 x11 x12 x13 x14 x15 x16:Slot):ak:=[.val<|gJ ns,.obj 0,x2,.own rows,x4,.val<|.int H,.val B,.val<|.int way,.val<|.int<|sI b,.val<|nD n,x10,x11,x12,x13,x14,x15,x16]
def GP(h:Wd G T W)(b:θ):0<(aR b G T).length:=by
 have:=h.g1;have:=h.t1;cases b
 .exact h.g1
 .exact h.t1
def AX{B:D}{n:Nat}{st:Fs}:obj 1 C (Fq ns rows x2 x4 H B way b n x10 x11 x12 x13 x14 x15 x16) [⟨C,st⟩]=↑(0,st):=bW (k:=0) rfl rfl
def P4{n:Nat}{B:D}:Ob.rB bP (nA (uG aH (bg 1 C "world"<|aq C)<|rD<|ab 8) vf) (Fq ns rows x2 x4 H B way b n x10 x11 x12 x13 x14 x15 x16) [{C,cx as<|aw G T W}]=↑(nD (aR b G T).length):=by
 unfold Ob.rB;rw[zy (oJ (dD b G T W) (qt AX rfl bT) rfl) (show vf _ _=↑[]from rfl),zA];show some (PyData.int (((aR b G T).map aY).length:Nat))=_;rw[zD]
def N0{n:Nat}{B:D}(j m:Int)(l:ns.length<=63)(M:0<m){f:Dl.Env->Δ D}(F:f (bh<|Fq ns rows x2 x4 H B way b n x10 x11 x12 x13 x14 x15 x16)=↑(.int m)):ah 3 aj (aa (ab 0)<|aa (f2 aQ (ab 5)<|fC<|.int j)<|aa f af) (bh<|Fq ns rows x2 x4 H B way b n x10 x11 x12 x13 x14 x15 x16)=↑(.int<|dr ns (H+j) m):=
 call_of (nS _ m l M) (cons_of rfl (cons_of (aB (dz H j) rfl rfl)<|cons_of F rfl)) rfl
def Ij(l:ns.length<=63)(h:Wd G T W)(A:as.length<90)(hw:0<=way/\way<3):∃G' T' W' y,Wd G' T' W'/\Sq C (Fq ns rows x2 x4 H (td G T W) way b W.length x10 x11 x12 x13 x14 x15 x16) [{C,cx as<|aw G T W}]=↑(.nx (Ja ns rows x2 x4 (.val<|.int H) (td G T W) (.val<|.int way) (.val<|.int<|sI b) (.val<|nD W.length) y (yf G T W G' T' W') x12 x13 x14 x15 x16) [{C,cx (as++[aw G T W])<|aw G' T' W'}]):=by
 have t:fB ac2 (aS<|Fq ns rows x2 x4 H (td G T W) way b W.length x10 x11 x12 x13 x14 x15 x16)=↑(decide (way=0)):=du<|aB (cF way 0) rfl rfl;have k:fB ac3 (aS<|Fq ns rows x2 x4 H (td G T W) way b W.length x10 x11 x12 x13 x14 x15 x16)=↑(decide (((W.length:Nat):Int)=0)):=du<|aB (cF _ 0) rfl rfl;have t3:fB ac7 (aS<|Fq ns rows x2 x4 H (td G T W) way b W.length x10 x11 x12 x13 x14 x15 x16)=↑(decide (way=1)):=du<|aB (cF way 1) rfl rfl;by_cases c:way=0\/W.length=0
 .have Y:ma abk abl (aS<|Fq ns rows x2 x4 H (td G T W) way b W.length x10 x11 x12 x13 x14 x15 x16)=↑true:=by
   by_cases c1:way=0
   .exact SM<|t.trans<|by rw[yB c1]
   .exact NU (t.trans<|by rw[yA c1])<|k.trans<|by rw[yB (by have:=c.resolve_left c1;lia)]
  have pp:=GP h b;have j:=cJ (ns:=ns) (H+2) ((aR b G T).length:Nat) l (by lia);have D:=cJ (ns:=ns) (H+3) 10 l (by decide);obtain⟨i,g⟩:∃i:Nat,dr ns (H+2) ((aR b G T).length:Nat)=(i:Int):={(dr ns (H+2) ((aR b G T).length:Nat)).toNat,by lia}
  have I:i<(aR b G T).length:=by lia
  obtain⟨G',T',W',e,f⟩:∃G' T' W',S9 b G T W i (dr ns (H+3) 10)=aw G' T' W'/\Wd G' T' W':=by
   cases b
   .exact{_,_,_,rfl,h.gA {D.2.1,by lia}}
   .exact{_,_,_,rfl,h.tA {D.2.1,by lia}}
  have E:=(lW (a:=dr ns (H+3) 10) h I {D.2.1,by lia}).trans<|jB some e;refine{G',T',W',.val<|nD i,f,(CA<|uA Y).trans ?_};have s:hJ 10 (fT 3 aj<|aJ (oD<|ab 0)<|aJ (oD aai)<|aJ (oR<|Ob.rB bP<|nA (uG aH (bg 1 C "world"<|aq C)<|rD<|ab 8) vf) bI) (Fq ns rows x2 x4 H (td G T W) way b W.length x10 x11 x12 x13 x14 x15 x16) [{C,cx as<|aw G T W}]=↑(.nx (Fq ns rows x2 x4 H (td G T W) way b W.length (.val<|nD i) x11 x12 x13 x14 x15 x16) [{C,cx as<|aw G T W}]):=
   eH (fF (j.1.trans<|by rw[g]) (aC (bL rfl)<|aC (bL<|aB (dz H 2) rfl rfl)<|aC (C1 P4) bG) rfl)
  refine(bf s).trans ?_;exact eH<|iz AX rfl (aC (bL (d:=.int<|sI b) rfl)<|aC (bL (d:=nD i) rfl)<|aC (bL<|N0 3 10 l (by decide) rfl) bG) AX rfl (zg E (rR h f)<|by lia)
 .have c1:¬way=0:=λz=>c<|.inl z;have c2:0<W.length:=by lia
  have n:ma abk abl (aS<|Fq ns rows x2 x4 H (td G T W) way b W.length x10 x11 x12 x13 x14 x15 x16)=↑false:=NU (t.trans<|by rw[yA c1])<|k.trans (by rw[yA<|by lia]);have j:=cJ (ns:=ns) (H+2) (W.length:Nat) l (by lia);have D:=cJ (ns:=ns) (H+3) 9 l (by decide);obtain⟨i,g⟩:∃i:Nat,dr ns (H+2) (W.length:Nat)=(i:Int):={(dr ns (H+2) (W.length:Nat)).toNat,by lia}
  have I:i<W.length:=by lia
  have q2:∀x11,ah 3 aj ac9 (bh<|Fq ns rows x2 x4 H (td G T W) way b W.length x10 x11 x12 x13 x14 x15 x16)=↑(nD i):=λx11=>(N0 2 (W.length:Nat) l (by lia) rfl).trans (by rw[g]);by_cases c3:way=1
  .have f:=h.afX I (x:=1+dr ns (H+3) 9) {by lia,by lia};have E:=u9 (x:=1+dr ns (H+3) 9) h I {by lia,by lia};refine{_,_,_,x10,f,(jf<|uA n).trans<|(CA<|uA<|t3.trans<|by rw[yB c3]).trans ?_};exact eH<|iz AX rfl (aC (bL<|q2 x11)<|aC (bL<|aB (dz 1 _) rfl (N0 3 9 l (by decide) rfl)) bG) AX rfl (KH E (rR h f)<|by lia)
  .have f:=h.less I;have E:=tE h I;refine{_,_,_,x10,f,(jf<|uA n).trans<|(jf<|uA<|t3.trans<|by rw[yA c3]).trans ?_};exact eH<|iz AX rfl (aC (bL<|q2 x11) bG) AX rfl (JL E (rR h f)<|by lia)
end
inductive uQ(G0 T0:List Pl)(W0:List Wy):List D->List D->List Pl->List Pl->List Wy->Prop
 |nil:Wd G0 T0 W0->uQ G0 T0 W0 [] [] G0 T0 W0
 |snoc {rows as:Γ D}{G T G' T':Γ Pl}{W W':Γ Wy}:uQ G0 T0 W0 rows as G T W->Wd G' T' W'->uQ G0 T0 W0 (rows++[Q6 G T W<|tm G' T' W']) (as++[aw G T W]) G' T' W'
section
variable {ns:Γ Int}{rows as bs:Γ D}{C:Ψ}{x2 x3 x4 x5 x6 x7 x8 x9 x10 x11 x12 x13 x14 x15 x16:Slot}{G T G' T' G0 T0:Γ Pl}{W W' W0:Γ Wy}{w d:D}
abbrev Ji(ns:Γ Int)(x2 x3 x4 x5 x6 x7 x8 x9 x10 x11 x12 x13 x14 x15 x16:Slot):ak:=[.val<|gJ ns,.obj 0,x2,x3,x4,x5,x6,x7,x8,x9,x10,x11,x12,x13,x14,x15,x16]
def oW{st:Fs}:obj 1 C (Ji ns x2 x3 x4 x5 x6 x7 x8 x9 x10 x11 x12 x13 x14 x15 x16) [⟨C,st⟩]=↑(0,st):=bW (k:=0) rfl rfl
def MO:Ob.rB bP (nA (uG aH (bg 1 C "world"<|aq C)<|rD<|fC<|.int 2) vf) (Ji ns x2 x3 x4 x5 x6 x7 x8 x9 x10 x11 x12 x13 x14 x15 x16) [{C,cx as<|aw G T W}]=↑(nD W.length):=by
 unfold Ob.rB;rw[zy (oJ (dU G T W) (qt oW rfl bT) rfl) (show vf _ _=↑[]from rfl),zA];show some (PyData.int ((W.map aD).length:Nat))=_;rw[zD]
def N5(l:ns.length<=63)(h:Wd G T W)(A:as.length<90)(r:rows.length<1000)(k:Nat):∃G' T' W' g i j m n y Y,Wd G' T' W'/\gT C (Ji ns x2 (.own rows) (.val<|nD k) x5 x6 x7 x8 x9 x10 x11 x12 x13 x14 x15 x16) [{C,cx as<|aw G T W}]=↑(.nx (Ji ns x2 (.own<|rows++[Q6 G T W<|tm G' T' W']) (.val<|nD k) g i j m n y Y x12 x13 x14 x15 x16) [{C,cx (as++[aw G T W])<|aw G' T' W'}]):=by
 have D:=cJ (ns:=ns) (80+8*(k:Int)) 3 l (by decide);have c:=cJ (ns:=ns) (80+8*(k:Int)+1) 2 l (by decide);let(b,E):=two _ c.2;generalize f:dr ns (80+8*(k:Int)) 3=w at D;let(G',T',W',y,a,e):=Ij (C:=C) (ns:=ns) (rows:=rows) (as:=as) (x2:=x2) (x4:=.val<|nD k) (H:=80+8*(k:Int)) (way:=w) (b:=b) (x10:=x10) (x11:=x11) (x12:=x12) (x13:=x13) (x14:=x14) (x15:=x15) (x16:=x16) l h A D.2;refine{G',T',W',.val<|.int<|80+8*(k:Int),.val<|td G T W,.val<|.int w,.val<|.int<|sI b,.val<|nD W.length,y,.val<|yf G T W G' T' W',a,?_};unfold gT;refine(bf<|Te (d:=.int<|80+8*(k:Int)) (aB (dz _ _) rfl (aB (fA<|.inl {by decide,by decide}) rfl rfl)) rfl).trans ?_;refine(bf<|eH<|DY (ds:=[aw G T W,ae<|mP G T W,tm G T W]) (aC (bD oW rfl bT)<|aC (ask oW<|mn<|iR h)<|aC (pb oW (w6 xi) oW rfl (rT h)) bG)<|by simp).trans ?_;refine(bf<|Te (d:=.int w) (f▸call_of (nS _ 3 l<|by decide) (cons_of rfl (cons_of rfl (cons_of rfl rfl))) rfl) rfl).trans ?_;refine(bf<|Te (d:=.int<|sI b) (E▸call_of (nS _ 2 l<|by decide) (cons_of rfl (cons_of (aB (dz _ _) rfl rfl)<|cons_of rfl rfl)) rfl) rfl).trans ?_;refine(bf<|eH<|C1 MO).trans ?_;refine(bf e).trans ?_;refine(bf<|Le h a).trans ?_;refine(bf<|LS h a).trans ?_;refine(bf<|JF a).trans ?_;exact Jw a r
def uQ.wd:uQ G0 T0 W0 rows as G T W->Wd G T W
 |.nil h=>h
 |.snoc _ h=>h
def uQ.len(p:uQ G0 T0 W0 rows as G T W):rows.length=as.length:=by
 induction p with
 |nil h=>rfl
 |snoc p h i=>rw[zN,zN,i];rfl
def Nb(h:Wd G T W)(h':Wd G' T' W'):gR C (Ji ns x2 x3 x4 x5 x6 x7 x8 x9 x10 x11 x12 (.val<|aw G T W) (.val<|ae<|mP G T W) (.val<|tm G T W)<|.val<|tm G' T' W') [{C,cx (as++[aw G T W])<|aw G' T' W'}]=↑(.nx (Ji ns x2 x3 x4 x5 x6 x7 x8 x9 x10 (.val<|yf G' T' W' G T W) x12 (.val<|aw G T W) (.val<|ae<|mP G T W) (.val<|tm G T W)<|.val<|tm G' T' W') [{C,cx as<|aw G T W}]):=by
 let(L,e,E):=DL h' h;unfold gR;refine(bf<|eH<|ask oW<|GO<|rR h' h).trans ?_;refine(jf<|(oF<|l7<|eL (Lm h) (bD oW rfl bT)<|bL rfl).trans<|(oF<|l7<|eL (pj _) (ask oW<|mn<|iR h)<|bL rfl).trans ?_).trans rfl;exact l7<|eL E (bL<|call_of e (cons_of rfl (cons_of rfl rfl)) rfl)<|bL rfl
def Il(p:uQ G0 T0 W0 rows as G T W):∀x11 x13 x14 x15 x16:Slot,∃y Y a b c,jy (IE 13 14 15 16) (gR C) rows.reverse (Ji ns x2 x3 x4 x5 x6 x7 x8 x9 x10 x11 x12 x13 x14 x15 x16) [{C,cx as<|aw G T W}]=↑(.nx (Ji ns x2 x3 x4 x5 x6 x7 x8 x9 x10 y x12 Y a b c) [{C,cx []<|aw G0 T0 W0}]):=by
 induction p with
 |nil h=>exactλ_ _ _ _ _=>{_,_,_,_,_,rfl}
 |snoc p H i =>
  intro x11 x13 x14 x15 x16;rename_i P d Q q f g;let(y,Y,a,b,c,e):=i (.val<|yf Q q g P d f) (.val<|aw P d f) (.val<|ae<|mP P d f) (.val<|tm P d f)<|.val<|tm Q q g;refine{y,Y,a,b,c,?_};rw[List.reverse_append];exact(mH rfl (Nb p.wd H)).trans e
end
def Hy{ρ:ak}{os os1:Γ Oj}{ds:Γ D}{fs:n6}{i n:Nat}{C:Ψ}{m:Γ Slot->Fs->Δ (D×Fs)}{st:Fs}(a:fs ρ os=↑(ds,os1))(b:ρ.all (below os1.length)=true)(l:ds.length+1=n)(H:m (.obj 0::ds.map Slot.val) []=↑(.none,st)):Ab i C n m fs ρ os=↑(.nx (ρ.set i<|.obj os1.length)<|os1++[⟨C,st⟩]):=by
 unfold Ab;rw[a,zA,yM ⟨b,l⟩,H];rfl
def Ec(A:Fw):gone A A=[]:=by
 unfold gone;rw[List.filter_eq_nil_iff.mpr λ_ _=>by simp];rfl
def Qu(h:Wd G T W):bS (aw G T W) (aw G T W)=↑(.bool true):=by
 have s:SeqAt.shaped (aw G T W)=true:=h.fit.shaped (by decide);simp?[bS,Pi,s,jN,xH,Gx,zB]
namespace K71M
def main(C:Ψ)(ns:Γ Int)(z:ns.length<=63):tZ C [.list<|ns.map PyData.int]=↑(.bool true):=by
 let(G,T,W,M,h,f):=z6 (ns:=ns) (a:=0) (mo:=6) z (by decide);have dk:=cJ (ns:=ns) 70 6 z (by decide);obtain⟨N,R,S⟩:∃N:Nat,1+dr ns 70 6=((N:Nat):Int)/\N<=6:={(1+dr ns 70 6).toNat,by lia,by lia}
 let(ρ1,A,Z,r,s,u,t,w,v,c,g,l,m,o,x,X,p,U,rfl,rfl):=uo (tgt:=wY 4) (gb:=gT C) nD (λj B O=>∃r s u t w v c g l m o x X,uQ G T W r s u t w/\r.length<=j/\B=Ji ns (.val<|aw G T W) (.own r) v c g l m o x X .UQ .UQ .UQ .UQ .UQ/\O=[{C,cx s<|aw u t w}]) N (ρ:=Ji ns (.val<|aw G T W) (.own []) .UQ .UQ .UQ .UQ .UQ .UQ .UQ .UQ .UQ .UQ .UQ .UQ .UQ) (os:=[{C,cx []<|aw G T W}])
  (λj B O hj hR=>by
   let(r,s,u,t,w,v,c,g,l,m,o,x,X,p,U,rfl,rfl):=hR;have P:=p.len;let(F,I,J,y5,y6,y7,y8,y9,Y,y,Q,e):=N5 (C:=C) (ns:=ns) (rows:=r) (as:=s) (x2:=.val<|aw G T W) (x5:=c) (x6:=g) (x7:=l) (x8:=m) (x9:=o) (x10:=x) (x11:=X) (x12:=.UQ) (x13:=.UQ) (x14:=.UQ) (x15:=.UQ) (x16:=.UQ) z p.wd (by lia) (by lia) j;exact{_,_,_,rfl,e,_,_,F,I,J,_,y5,y6,y7,y8,y9,Y,y,.snoc p Q,by rw[zN,xD];lia,rfl,rfl})
  {[],[],G,T,W,_,_,_,_,_,_,_,_,.nil h,yN _,rfl,rfl}
 have H:=p.wd;have P:=p.len;obtain⟨q,L,rfl⟩:∃q L,u=q::L:=by
  have:=H.g1;cases u with
  |nil=>exact absurd this (by decide)
  |cons q L=>exact{q,L,rfl}
 have qa:=H.ga q zE;have K:dB [aw (q::L) t w,.int 0,.int 0,.int q.1]=↑(aw (q::L) t w):=lW (b:=false) (i:=0) (a:=q.1) H (by show 0<(q::L).length;simp) qa;have E:aN [aw (q::L) t w,aw (q::L) t w]=↑(.list []):=by
  have:=rR H H;rw[Ec]at this;exact this
 have D:dX (.list []) (.list [])=↑(.bool false):=(o7 [] []).trans rfl;apply K7 (os:=[{C,cx []<|aw G T W}]);show lu C [.val<|gJ ns,.UQ,.UQ,.UQ,.UQ,.UQ,.UQ,.UQ,.UQ,.UQ,.UQ,.UQ,.UQ,.UQ,.UQ,.UQ,.UQ] []=_;unfold lu;refine(bf<|Hy (ds:=[aw G T W]) (os1:=[]) (aC (bL<|call_of M (cons_of rfl (cons_of rfl (cons_of rfl rfl))) rfl) bG) rfl rfl (IU<|bY h)).trans ?_;refine(bf<|eH (d:=aw G T W) (os':=[{C,cx []<|aw G T W}])<|bD (k:=0) (st:=cx []<|aw G T W) (bW (k:=0) rfl rfl) rfl bT).trans ?_;refine(bf<|rh<|lC (ds:=[]) rfl rfl).trans ?_;refine(bf<|D5 (By (n:=N) (cons_of (d:=nD N) ((aB (dz 1<|dr ns 70 6) rfl (call_of (nS 70 6 z<|by decide) (cons_of rfl (cons_of rfl (cons_of rfl rfl))) rfl)).trans<|by rw[R]) rfl)<|by lia) Z).trans ?_;refine(bf<|eH (d:=.int q.1)<|C1<|oJ (a:=aY q) (b:=.int 0) (O8 _ _) (oJ (a:=.tuple<|(q::L).map aY) (b:=.int 0) (O8 (aY q)<|L.map aY) (oJ (dD false (q::L) t w) (qt oW rfl bT) rfl) rfl) rfl).trans ?_;refine(bf (os':=[{C,cx s<|aw (q::L) t w}])<|(jf (os':=[{C,cx s<|aw (q::L) t w}])<|(oF<|l7<|eL D (iz oW rfl (aC (bL rfl)<|aC (bL rfl)<|aC (bL rfl) bG) oW rfl (zg K E<|by lia))<|bL rfl).trans<|(oF<|l7<|eL D (ask oW<|GO E)<|bL rfl).trans ?_).trans rfl).trans ?_
 .refine l7<|eL (d:=.bool false) ((sQ (s.length:Nat) (r.length:Nat)).trans (by rw[P];simp)) (bD oW rfl AU)<|MN rfl ?_ rfl;exact LF rfl
 let(y,y13,y14,y15,y16,e):=Il (C:=C) (ns:=ns) (x2:=.val<|aw G T W) (x3:=.val<|.list r) (x4:=v) (x5:=c) (x6:=g) (x7:=l) (x8:=m) (x9:=o) (x10:=x) (x12:=.val<|.int q.1) p X .UQ .UQ .UQ .UQ;refine(bf<|D5 (ds:=r.reverse) (qj rfl) e).trans ?_;refine gN ?_;exact N1 (eL (Qu h) (bD (st:=cx []<|aw G T W) (k:=0) (bW (k:=0) rfl rfl) rfl bT)<|bL rfl)<|eL (cF 0 0) (bD (st:=cx []<|aw G T W) (k:=0) (bW (k:=0) rfl rfl) rfl AU)<|bL rfl
end K71M
end Wm
set_option hygiene false in
local macro_rules|`(tactic|ac_rfl)=>`(tactic|(intro X E HF H pa j k C Y;repeat' first|kernel_rfl|with_reducible (first|refine RD ?_ ?_ ?_|exact Bx|refine C.b.v _ ?_|exact Nd|refine PN ?_ ?_ (jj ?_)|refine C.call ?_ ?_ ?_ ?_ ?_|refine C.b.add ?_ ?_|refine C.b.sub ?_ ?_|refine C.b.mul ?_ ?_|refine C.b.mod ?_ ?_|refine C.b.div ?_ ?_|refine Nk ?_|exact Qn|exact MT|exact Ox|refine C.b.cut ?_ ?_ ?_|exact KD|refine JB ?_|refine C.b.eq ?_ ?_|refine C.b.aeq ?_ ?_ ?_ ?_|refine C.b.neg ?_|refine Oe ?_ ?_|refine MQ ?_|refine Re ?_ ?_ ?_|refine N2 (C.bl ?_ ?_) ?_ (az ?_)|refine GD (C.bl ?_ ?_) ?_ (az ?_)|refine Oa C.c (C.bl ?_ ?_) ?_ (az ?_)|refine NY C.c (C.bl ?_ ?_) (az ?_) (bp ?_) ?_|refine Np C.c (C.bl ?_ ?_) (az ?_) (bp ?_) ?_|refine Pv (C.bl ?_ ?_) (C.bl ?_ ?_) ?_ ?_ ?_ (az ?_)|refine JJ C.c C.u3 (C.bl ?_ ?_) ?_ (az ?_)|refine E9 C.c (C.bl ?_ ?_) (C.bl ?_ ?_) ?_ (az ?_)|refine C.idx ?_ ?_ ?_ ?_ ?_|refine C.get ?_ ?_ ?_ ?_ ?_ ?_ ?_|refine DF.de ?_|refine C.gi ?_ ?_ ?_|refine Nn ?_|refine MU ?_ ?_|refine Fk (C.bl ?_ ?_) ?_ (az ?_)|refine C.acJ ?_ ?_ (C.bl ?_ ?_) (C.bl ?_ ?_)|refine C.comp ?_ (λ_ _ _ C=>⟨?_,?_,?_⟩) ?_ ?_|refine C.Y7 Y ?_ (λ_ _ _ _ _ C=>?_) ?_ ?_ ?_ ?_ ?_|refine OZ ?_|refine GY (C.bl ?_ ?_) ?_ (az ?_)|refine Ld (C.bl ?_ ?_) ?_ (az ?_)|refine LW (C.bl ?_ ?_) (az ?_) (bp ?_) ?_|refine C.g1 ?_|refine C.g2 ?_ ?_|exact Lc|refine Lo ?_|refine C.b.teq ?_ ?_|refine C.b.tne ?_ ?_|refine C.b.tlt ?_ ?_|refine C.b.tgt ?_ ?_|refine C.b.tge ?_ ?_|refine C.b.ai4 ?_ ?_ ?_|refine C.b.aer ?_ ?_|refine C.b.acj ?_ ?_|refine Nf ?_|refine DW.dt (G1 ?_ ?_)|refine DW.dt (Mc ?_ ?_)|refine G1 ?_ ?_|refine Mc ?_ ?_|refine Jv ?_|refine M4 ?_|refine Pa ?_ ?_|refine Ir ?_|refine Mq ?_ ?_ ?_|refine C.set ?_ ?_ ?_|refine C.setC ?_ (λ_ _ _ C=>⟨?_,?_,?_⟩) ?_ ?_ ?_ (by decide +kernel) (by decide +kernel)|refine C.acI ?_ ?_ (C.swl (by decide +kernel))|refine C.acI ?_ ?_ ?_|refine NA _ C.b.pass C.c ?_ ?_ ?_ (sU ?_)|refine C.t1 ?_|refine C.t2 ?_ ?_|refine Ht _ C.b.pass ?_ ?_|refine C.app ?_ ?_ ?_ ?_|refine C.ext ?_ ?_ ?_ ?_|refine C.ins ?_ ?_ ?_ ?_ ?_ ?_|refine C.pop ?_ ?_|refine C.sto ?_ ?_ ?_ ?_ ?_|exact PL|refine Cr ?_ ?_|exact J2|refine CU ?_|refine An ?_ ?_|refine K9 ?_|refine OR.oe ?_|refine J8 ?_|refine QF C ?_ ?_ ?_ ?_ ?_|refine M0 C Y.ck ?_ ?_ ?_ ?_ ?_|refine SI C ?_ ?_|exact Kt|refine JD ?_ ?_ (az ?_)|refine Nz C Y.ck ?_ ?_ ?_|refine Qj C Y.ck ?_ ?_ ?_ ?_ ?_ ?_ ?_|refine MG C Y.ck ?_ ?_ ?_|refine SS C Y.ck ?_ ?_ (C.bl ?_ ?_)|refine TQ C Y.ck ?_ ?_ ?_ ?_|refine Th C Y.ck ?_ ?_ ?_|refine RR C ?_ ?_ ?_|refine RW C Y.ck ?_ ?_ ?_ ?_|refine SD C Y.ck ?_ ?_ ?_ ?_ ?_|refine Ri C Y ?_ ?_ ?_ ?_ ?_ ?_|refine UF C ?_ ?_|refine one C ?_ ?_|refine PY ?_ ?_|exact O2|refine LR ?_ ?_ (az ?_)|exact Js|refine HX ?_ ?_ (az ?_)|refine La ?_|refine OW.ot (Mn ?_ ?_)|refine Mn ?_ ?_|refine MX ?_|refine MZ ?_ ?_ ?_|refine J5 (λ_=>?_)|refine C0 _ (F9 ?_)|refine P7 ?_ ?_ ?_|refine MY _ C.b.pass C.c ?_ (λ_=>?_) ?_ (sU ?_)|exact QT|exact KR|refine Df ?_|refine zz ?_ ?_|refine Ur C ?_ (C.bl ?_ ?_) ?_ ?_ ?_|refine RZ C ?_ ?_ ?_ ?_ ?_|refine NK ?_|refine t3 C ?_ ?_ ?_|refine t4 C ?_ ?_ ?_ ?_|refine Pz C ?_ (λ_ _ _ C=>⟨?_,?_,?_⟩) ?_ ?_|refine SZ (C.bl ?_ ?_) ?_ ?_ ?_|refine QK C ?_ ?_ ?_ ?_|refine S8 C ?_ ?_|refine RM C ?_ ?_|refine RH ?_ ?_|refine Ta C Y ?_ ?_ ?_ ?_ ?_ ?_ ?_|refine Kr C.c C.u3 (C.bl ?_ ?_) ?_ (az ?_)|refine Rc ?_ ?_ (jj ?_)|refine OM (C.bl ?_ ?_) ?_ (az ?_)|refine Na ?_|refine NZ ?_ ?_|refine Od ?_|refine Nc ?_|refine O3 ?_ ?_|refine J9 ?_|refine Nr C.u1 ?_ ?_ (jj ?_)|refine LC ?_|refine C.b.is0 ?_ ?_|refine C.b.le ?_ ?_|refine C.b.lt ?_ ?_|refine C.b.gt ?_ ?_|refine C.b.ge ?_ ?_|refine C.b.ne ?_ ?_|refine C.b.tle ?_ ?_|refine anyB C (C.bl ?_ ?_) ?_ ?_|refine NJ C.c (C.bl ?_ ?_) (az ?_) ?_|(intros;with_unfolding_all rfl)|(with_unfolding_all decide))|refine An ?_ ?_|refine CU ?_|refine Ir ?_|refine Cr ?_ ?_|refine Mq ?_ ?_ ?_|refine zz ?_ ?_|refine Df ?_|refine C0 _ (F9 ?_)|refine MG C Y.ck ?_ ?_ ?_|refine TQ C Y.ck ?_ ?_ ?_ ?_|refine PY ?_ ?_))
namespace K71
open PySem L2 Dl PySem.Spec PyProof.Rows
open Pg Ob Og Ex Rg Rf
abbrev gi:Γ (Str×Int):=[("MOST_PLACES",4),("MOST",9)]
abbrev Ls:FT:=("_law_led",2,gz)::("_law_world",3,dh)::("_law_orders",3,bU)::("_law_drawn",3,aj)::("_law_cell",2,gL)::("gone_otherwise",2,aN)::("flows_between",1,dC)::("givers_best",1,aU)::("capped",2,rg)::("steps",1,uV)::("refused",2,iA)::("lowered",3,eS)::("limits",1,rW)::("chosen_by_all",3,bz)::("rests",2,mZ)::("is_still",2,mE)::("first_leaving",2,fK)::("why_kept",3,iT)::("wants_more",4,f9)::("chosen_by",4,fy)::("ways_of",3,iK)::("without_way",2,eU)::("with_limit",3,fZ)::("with_amount",4,dB)::("with_ways",2,ft)::("with_likes",4,iO)::("with_end",5,gm)::("replaced",3,cX)::("check_place",3,ig)::("check_side",1,jc)::("check_number",2,cg)::("check_whole",3,dA)::("check_plan",2,iY)::("check_world",1,cH)::("is_plan",2,lj)::("keeps_amounts",3,dF)::("through",4,gf)::("is_world",1,dH)::("liked_pairs",1,bJ)::("are_parts",3,gV)::("is_way",3,k7)::("is_end",2,gq)::("are_likes",2,gU)::("is_long",3,bQ)::("is_number",2,cS)::("is_whole",3,bM)::[]
abbrev c0:Cg:={"Desk",d9,["stages"],[],none,[],[],[],["_law_desk"],[]}
abbrev c1:Cg:={c0 with ini:=↑(2,jt d9)}
abbrev c2:Cg:={c1 with rs:=("world",aq d9)::c1.rs}
abbrev c3:Cg:={c2 with ms:=("plan",1,aM d9)::c2.ms}
abbrev c4:Cg:={c3 with ms:=("change_to",2,bw d9)::c3.ms}
abbrev c5:Cg:={c4 with ms:=("set_amount",4,bN d9)::c4.ms}
abbrev c6:Cg:={c5 with ms:=("set_limit",3,cK d9)::c5.ms}
abbrev c7:Cg:={c6 with ms:=("close",2,eY d9)::c6.ms}
abbrev c8:Cg:={c7 with rs:=("many",cy d9)::c7.rs}
abbrev c9:Cg:={c8 with ms:=("undo",1,fV d9)::c8.ms}
abbrev TJ:Cg:={c9 with fs:=("_law_goes",1,aZ d9)::c9.fs}
abbrev DR:Γ D->Δ D:=tZ d9
def PF:PM (top 62) (sr<|top 62) {Ls,gi} TJ (ba<|top 62) (lu d9):=by ac_rfl
structure N6(K:PySem.W.Frag)(mg:Str->Option Value):Prop where
 o:∀P w base,VY.FC P w K mg base gi [] 69 Ls [] TJ
 c:JS K mg "law" (top 62) ["_law_script"]
def O6{P:ε}{w:δ}{K:PySem.W.Frag}{mg:Str->Δ Θ}{fa:Ψ}(D:N6 K mg)(A:mg "law"=↑(.ref fa)):∃d:η,(∀(s:Ξ)(v:Θ),BindsTo s d {[v],[]} [("_law_script",v)])/\∀base:ι,K.In base->base.Ns mainGlobals mg->dZ P w K mg base vi 71 fa d ["_law_script"] (Pq K 1 DR):=by
 let(f,d,m,F,j):=D.c.ex;rw[A]at m;cases m;refine{d,λs v=>?_,λbase _ _=>P9 F (Rf.UJ (N:=sr<|top 62)) λX p hw k t r C _ _ i H g=>by subst p;subst hw;subst k;subst t;subst r;exact let ⟨a,b⟩:=VY.yo (D.o X.prog X.w X.base) (kM _) C;PF X () _ _ g _ _ a b};let(O,od,kV,e,M,n,u,T,q,rfl,l,B):=F.ex;exact .of_eq rfl
def walk{l:PySem.W.OpenLaw}{q:ε}{e:Γ Str}{XP:(Str->Δ Θ)->ι->Prop}{YP:δ->ι->Prop}{d:DefRec}{K:Params->PySem.W.Frag}{ts:Γ Ψ}(N:l.most=↑63)(H:d.params.defaults=[])(m:d.name="law")
  (Y:∀(w:δ)(h:ι),YP w h->(K w.params).In h/\∀P∈ts,h.get? P=↑(PySem.W.tabObj #[]))(ht:∀w:δ,nW (K w.params) ts=true)(I:∀(w:δ){h:ι}{mg:Str->Δ Θ},(K w.params).In h->h.Ns mainGlobals mg->N6 (K w.params) mg)(main:∀ns:Γ Int,ns.length<=63->DR [.list<|ns.map PyData.int]=↑(.bool true)) :
  PySem.W.WalkO q e XP YP l.row.toRowW d [] (λf vs=>PySem.call f vs):=
 HV (n:=63) (k:=71) (x:="_law_script") (CX:=λ_=>vi) (sp:=λw=>Pq (K w.params) 1 DR) N (by decide) H {rfl,by decide,by decide} Y ht (λw mg F h X G g=>O6 (I w X G) (by rw[<-m];exact g)) (λ_ _ a ns L T S=>Bp S T<|main ns L) λ_ _ _ _ _ z=>z
open PySem L2 Dl PySem.Spec PyProof.Rows Pg Hd PySem.W Rg Rf Ob Og
def main(ns:Γ Int)(h:ns.length<=63):DR [.list<|ns.map PyData.int]=↑(.bool true):=Wm.K71M.main d9 ns h
def ins(P:Params){h:ι}{mg:Str->Δ Θ}(X:(Kf P).In h)(G:h.Ns mainGlobals mg):N6 (Kf P) mg:=⟨λ_ _ _=>by
 have B:∀x∈eD,mg x=none:=λx H=>mg_none_of X G<|Dl.Nu (by kernel_rfl) x H;refine VY.od (c:=c9) (top 60) (f1 442 441 C2) ?_;refine VY.om (c:=c8) (cI 7) (VY.m1 "Desk.undo" 397 396 tj) ?_;refine VY.oq (c:=c7) (cI 8) (VY.m1 "Desk.many" 404 403 tj) ?_;refine VY.om (c:=c6) (cI 6) (VY.m2 "Desk.close" 390 389 tj) ?_;refine VY.om (c:=c5) (cI 5) (VY.m3 "Desk.set_limit" 383 382 tj) ?_;refine VY.om (c:=c4) (cI 4) (VY.m4 "Desk.set_amount" 376 375 tj) ?_;refine VY.om (c:=c3) (cI 3) (VY.m2 "Desk.change_to" 369 368 tj) ?_;refine VY.om (c:=c2) (cI 2) (VY.m1 "Desk.plan" 362 361 tj) ?_;refine VY.oq (c:=c1) (cI 1) (VY.m1 "Desk.world" 355 354 tj) ?_;refine VY.oi (c:=c0) 348 (cI 0) (VY.m2 "Desk.__init__" 348 347 tj) {by kernel_rfl,by kernel_rfl,by kernel_rfl,by kernel_rfl} (mg_of X G<|by kernel_rfl) ?_;refine VY.Ub {by kernel_rfl,by kernel_rfl,by kernel_rfl,by kernel_rfl} (by kernel_rfl) ?_;refine on (top 61) (f2 447 446 C2) ?_;refine on (top 59) (f3 437 436 C2) ?_;refine on (top 58) (f3 432 431 C2) ?_;refine on (top 57) (f3 425 424 C2) ?_;refine on (top 56) (f2 418 417 C2) ?_;refine on (top 53) (f2 334 333 tj) ?_;refine on (top 52) (f1 327 326 tj) ?_;refine on (top 50) (f1 322 321 Dq) ?_;refine on (top 49) (f2 315 314 Dq) ?_;refine on (top 48) (f1 308 307 Dq) ?_;refine on (top 47) (f2 301 300 Dq) ?_;refine on (top 46) (f3 294 293 Dq) ?_;refine on (top 45) (f1 287 286 Dq) ?_;refine on (top 44) (f3 282 281 Dq) ?_;refine on (top 42) (f2 277 276 De) ?_;refine on (top 41) (f2 270 269 De) ?_;refine on (top 40) (f2 263 262 De) ?_;refine on (top 39) (f3 256 255 De) ?_;refine on (top 38) (f4 249 248 De) ?_;refine on (top 37) (f4 244 243 De) ?_;refine ol (top 36) Ej "ways_of.<locals>.<lambda>" (l3 239 238 De) ?_;refine on (top 34) (f2 234 233 AM) ?_;refine on (top 33) (f3 229 228 AM) ?_;refine on (top 32) (f4 222 221 AM) ?_;refine on (top 31) (f2 215 214 AM) ?_;refine on (top 30) (f4 208 207 AM) ?_;refine on (top 29) (f5 201 200 AM) ?_;refine on (top 27) (f3 194 193 jx) ?_;refine on (top 26) (f3 187 186 jx) ?_;refine on (top 25) (f1 180 179 jx) ?_;refine on (top 24) (f2 173 172 jx) ?_;refine on (top 23) (f3 166 165 jx) ?_;refine on (top 22) (f2 159 158 jx) ?_;refine on (top 21) (f1 152 151 jx) ?_;refine on (top 20) (f2 145 144 jx) ?_;refine on (top 19) (f3 140 139 jx) ?_;refine on (top 18) (f4 135 134 jx) ?_;refine on (top 17) (f1 130 129 jx) ?_;refine on (top 16) (f1 125 124 jx) ?_;refine on (top 15) (f3 120 119 jx) ?_;refine on (top 14) (f3 115 114 jx) ?_;refine on (top 13) (f2 108 107 jx) ?_;refine on (top 12) (f2 101 100 jx) ?_;refine on (top 11) (f3 96 95 jx) ?_;refine on (top 10) (f2 89 88 jx) ?_;refine on (top 9) (f3 82 81 jx) ?_;exact{Rf.R6,Ex.Sn,(Rf.Mf {273,mg_of X G<|by kernel_rfl}<|Rf.Mf {275,mg_of X G<|by kernel_rfl} Rf.SN),B,λ_ h=>(by cases h),{_,X,G}},iy.mg (f1 452 451 C2) X G⟩
def Ut(w:δ):nW (Kf w.params) [236]=true:=by kernel_rfl
end K71
open PySem PySem.W PyProof.Rows
theorem PySem.Challenge.cw_stillflow_k71_whole_desks_holds : PySem.Challenge.rw_stillflow_k71_whole_desks.Holds := by
 refine holds_law K71.R4 λk1=>?_
 refine holds_open (XP:=XL K71.vw []) (YP:=K71.hk.says) K71.left K71.hk.of K71.hk.keeps (λs e=>xl_of s (Bool.and_eq_true_iff.mp e).1) XL.keeps (by rfl) (by rfl) (by rfl) (λs e=>recFacts_of (Bool.and_eq_true_iff.mp e).2) (by rfl) k1 (by decide +kernel) ⟨rfl,rfl,rfl,rfl,rfl,by decide +kernel⟩ ?hw ?hc
 case hw=>w_witness2
 case hc=>exact K71.walk (l:=PySem.Challenge.rw_stillflow_k71_whole_desks) (K:=K71.Kf) (ts:=[236]) rfl rfl rfl (λw h Y=>⟨Y.1,Y.2⟩) K71.Ut (λw=>K71.ins w.params) K71.main
