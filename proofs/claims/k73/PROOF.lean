import PyProof.Rows.All
import Wide.All
import OpenK.AllK
import Wide.FinOn
import PyProof.EqAt
import PyProof.EqKinds
import PyProof.TupleCall
import Lean
import PyProof.Draws
import PyProof.ListRange
import PySem.Challenge.RW_stillflow_k73_whole_floors
set_option Elab.async false
set_option linter.all false
set_option maxRecDepth 100000
set_option maxHeartbeats 4000000
set_option hygiene false in
local macro_rules
|`(tactic|sleep 1)=>`(tactic|let⟨HF,ρ,d,sm,eo,hf,q⟩:=z)
|`(tactic|sleep 2)=>`(tactic|rcases cf h with ⟨_,h⟩|⟨z,hz,h⟩)
|`(tactic|sleep 3)=>`(tactic|intro X hP hw hK hc i pins s σ H E I hf st hg)
|`(tactic|sleep 4)=>`(tactic|intro pins s σ H Q I h)
|`(tactic|sleep 5)=>`(tactic|intro HF H x y v1 v2 d Q sm r1 r2 hg q)
|`(tactic|sleep 6)=>`(tactic|have kl:k < os.length:=(List.getElem?_eq_some_iff.mp e2).1)
|`(tactic|sleep 7)=>`(tactic|have D:ZipApart z TI TO i1 i2 l1 l2:=⟨Z.a1,Z.a2,Z.a3,Z.a4,Z.a5,Z.a6,Z.a7,Z.a8,Z.a9,Z.a0,YI.ne I (hf z (by simp)),YI.ne I (hf TO (by simp)),YI.ne I (hf i1 (by simp)),YI.ne I (hf i2 (by simp)),X8.ne I (hf z (by simp)),X8.ne I (hf TO (by simp)),X8.ne I (hf i1 (by simp)),X8.ne I (hf i2 (by simp))⟩)
|`(tactic|sleep 8)=>`(tactic|let⟨x,hx,hf⟩:=bs hf)
|`(tactic|sleep 9)=>`(tactic|let⟨HF,ρ,os,d,Ws,S,hf,q⟩:=z)
|`(tactic|sleep 10)=>`(tactic|rcases cQ h with ⟨hx,h⟩|⟨_,h⟩)
|`(tactic|sleep 11)=>`(tactic|intro pins s σ H x y v u Q I rx ry h)
|`(tactic|sleep 12)=>`(tactic|let⟨HF,ρ,o,S,hg,q⟩:=z)
|`(tactic|sleep 13)=>`(tactic|let⟨x,hx,h⟩:=bs h)
|`(tactic|sleep 14)=>`(tactic|simpa using this)
|`(tactic|sleep 15)=>`(tactic|let⟨z,hz,h⟩:=bs h)
|`(tactic|sleep 16)=>`(tactic|let⟨y,hy,rfl⟩:=ae h)
|`(tactic|sleep 17)=>`(tactic|let⟨f0,f1,f2,f3,f4,f5⟩:=hf it (by simp))
|`(tactic|sleep 18)=>`(tactic|let⟨HF,ρ,os,o,S,hg,q⟩:=z)
|`(tactic|sleep 19)=>`(tactic|let⟨hc,h⟩:=aA h)
|`(tactic|sleep 20)=>`(tactic|intro pins s σ H xs us Q I r h)
|`(tactic|sleep 21)=>`(tactic|refine⟨HF,ρ,x,sm,eo,hx,λv1 H1 Wj g1 r1=>?_⟩)
|`(tactic|sleep 22)=>`(tactic|let⟨f,hf,rfl⟩:=ae h)
|`(tactic|sleep 23)=>`(tactic|refine⟨_,_,_,_,_,_,λi=>bs.getD i false,rfl,Walks.list hh s.heap.objs.size a WN (bs.map Value.bool).toArray,⟨⟨_,zX _ rfl,rfl,rfl⟩,pl.isList.push _⟩,λi v s' Q' E' hP hQ=>?_,λh' tk kp=>?_⟩)
|`(tactic|sleep 24)=>`(tactic|let⟨oc,od,kV,doc,pm,an,WR,ct,Ye,rfl,lk,WB⟩:=F.ex)
|`(tactic|sleep 25)=>`(tactic|exact⟨by decide +kernel,by decide +kernel,by decide,by decide⟩)
|`(tactic|sleep 26)=>`(tactic|have ho3:(((s.heap.update a (Obj.mapSeq λ_=>(#[]:Array Θ))).push (seqObj "tuple" vs.toArray 0)).push (seqObj "list" #[] 0)).get? a=some (seqObj "list" #[] e1):=zU _ (zU _ ho1))
|`(tactic|sleep 27)=>`(tactic|wp_walk using wpAny_loadPart' hl)
|`(tactic|sleep 28)=>`(tactic|intro pins s σ H x vs v us Q I rx rv h)
|`(tactic|sleep 29)=>`(tactic|have hl:(gL W π).length=W.length:=eQ o)
|`(tactic|sleep 30)=>`(tactic|let⟨x,H1,I1,r1,q1⟩:=z)
|`(tactic|sleep 31)=>`(tactic|have Ip:=I2.pinned (fp:=[f]) (λb hb=>by rw[List.mem_singleton.mp hb];exact Zl) (λb hb=>by rw[List.mem_singleton.mp hb];exact⟨_,hfo,λv z=>by cases z⟩))
|`(tactic|sleep 32)=>`(tactic|show wpAny _ A _ P E { s with heap:=((s.heap.update a (Obj.mapSeq λ_=>(#[]:Array Θ))).push (seqObj "tuple" vs.toArray 0)).push (seqObj "list" #[] 0) })
|`(tactic|sleep 33)=>`(tactic|rw[show d9 f v ((k,x)::r)=(if k=f then (k,v)::r else (k,x)::d9 f v r) from rfl])
|`(tactic|sleep 34)=>`(tactic|refine bV (uG (iter:=iter) (pos:=pos) (E:=X.xe) hc I2 T X2 f2 S.kind S.free S.dup (S.cap σ) (S.len σ) hY rd) λacc s3 h3=>bV h3 λZb s4 h4=>?_)
|`(tactic|sleep 35)=>`(tactic|by_cases hi:i < ds.length)
|`(tactic|sleep 36)=>`(tactic|intro pins s σ H D I h)
|`(tactic|sleep 37)=>`(tactic|cases bad i _ h (λd z=>by cases z) (λz=>by cases z))
|`(tactic|sleep 38)=>`(tactic|refine zV (qD (name:=Str.ofString "__next__") hj.typeIs jR (qX jR hj.typeIs F.entry_tuple_iterator_next ?_ (F.args_tuple_iterator_next_1 _))))
|`(tactic|sleep 39)=>`(tactic|by_cases Wo:i=j)
|`(tactic|sleep 40)=>`(tactic|refine (ai (gF (call_of (bD h p) rfl rfl))).trans ?_)
|`(tactic|sleep 41)=>`(tactic|intro HF H ds vs d Q sm r hg q)
|`(tactic|sleep 42)=>`(tactic|rw[yU (by simpa using hi),yY] at h)
|`(tactic|sleep 43)=>`(tactic|rw[yT (by simpa using hi),zO] at h)
|`(tactic|sleep 44)=>`(tactic|let⟨i,hi,h⟩:=bs h)
|`(tactic|sleep 45)=>`(tactic|let⟨v1,v2,v3,v4⟩:=js C hi)
|`(tactic|sleep 46)=>`(tactic|let⟨u,rfl,rx⟩:=vals1 r)
|`(tactic|sleep 47)=>`(tactic|obtain⟨e1,ho1⟩:∃e,(s.heap.update a (Obj.mapSeq λ_=>(#[]:Array Θ))).get? a=some (seqObj "list" #[] e):=⟨_,kF ho λ_=>#[]⟩)
|`(tactic|sleep 48)=>`(tactic|have he:ds[i]?=some ds[i]:=List.getElem?_eq_some_iff.mpr ⟨hi,rfl⟩)
|`(tactic|sleep 49)=>`(tactic|split at h<;>cases h)
|`(tactic|sleep 50)=>`(tactic|refine aN ?_)
|`(tactic|sleep 51)=>`(tactic|let⟨Wj,s1,S1⟩:=S.hand fz)
|`(tactic|sleep 52)=>`(tactic|refine zV (kR (qD (name:=Str.ofString "__next__") ty vV (qX vV ty F.entry_zip_next (ace hn D Z ?_ ?_) (F.args_zip_next_1 _)))))
|`(tactic|sleep 53)=>`(tactic|show wpAny (model X.prog X.w) A.in1.in1 (Builtin.«list.sort» ⟨[.ref h1.objs.size],[(Str.ofString "key",.ref f)]⟩) _ _ _)
|`(tactic|sleep 54)=>`(tactic|let⟨v2,r2,rfl,a2,b2⟩:=b1.cons_inv)
|`(tactic|sleep 55)=>`(tactic|let⟨p,hp,rfl⟩:=List.mem_map.mp hx)
|`(tactic|sleep 56)=>`(tactic|exact⟨_,rfl,h⟩)
|`(tactic|sleep 57)=>`(tactic|rcases List.mem_cons.mp hk with z|z)
|`(tactic|sleep 58)=>`(tactic|have Z:ZS Ww WM s.heap s.heap z TI TO i j l m xs ys .none p q a b:=⟨qz,qI,qO,p1,p2,r1,r2,λ_ _ _ _ _ _ e=>e,rfl⟩)
|`(tactic|sleep 59)=>`(tactic|have I1:Inv X pins σ H { s with heap:=h' }:=I.turned (t':=s.toks) (λb o hb e=>(sb.2 b hb).trans e) f0 f1 f3 f4 f5)
|`(tactic|sleep 60)=>`(tactic|let⟨x,hx,rfl⟩:=ae h)
abbrev Γ:=@List
abbrev Δ:=@Option
abbrev Θ:=PySem.Value
abbrev Ξ:=PySem.Shared
abbrev Φ:=PySem.W.Frag
abbrev Ψ:=PySem.Addr
abbrev Ω:=PySem.Stmt
abbrev γ:=PySem.Expr
abbrev δ:=PySem.World
abbrev ε:=PySem.Program
abbrev ζ:=PySem.Scope
abbrev η:=PySem.FuncData
abbrev θ:=Bool
abbrev ι:=PySem.Heap
abbrev ξ:=PySem.Around
abbrev zA:=@Option.bind_some
abbrev zB:=@Option.map_some
abbrev zC:=@List.mem_cons_of_mem
abbrev zD:=@List.length_map
abbrev zE:=@List.mem_cons_self
abbrev zF:=@Bool.and_eq_true
abbrev zG:=@List.getD_eq_getElem?_getD
abbrev zH:=@List.size_toArray
abbrev zI:=@List.map_cons
abbrev zJ:=@decide_eq_true_eq
abbrev zK:=@List.getElem?_eq_getElem
abbrev zL:=@List.length_cons
abbrev zM:=@List.map_map
abbrev zN:=@List.length_append
abbrev zO:=@List.getElem?_map
abbrev zP:=@Nat.lt_of_lt_of_le
abbrev zQ:=@List.mem_cons
abbrev zR:=@List.length_range
abbrev zS:=@List.mem_range
abbrev zT:=@List.getElem?_eq_some_iff
abbrev zU:=@PySem.Heap.get?_push_of_some
abbrev zV:=@PySem.wpAny_bind
abbrev zW:=@PySem.wpAny_pure
abbrev zX:=@PySem.Heap.get?_push_size
abbrev zY:=@PySem.Heap.lt_size
abbrev zZ:=@decide_eq_false
abbrev yA:=@decide_eq_true
abbrev yB:=@List.lookup_cons
abbrev yC:=@List.length_set
abbrev yD:=@Nat.le_trans
abbrev yE:=@List.mem_append_right
abbrev yF:=@List.not_mem_nil
abbrev yG:=@Int.toNat_natCast
abbrev yH:=@List.range_eq_range'
abbrev yI:=@List.map_congr_left
abbrev yJ:=@List.foldl_cons
abbrev yK:=@List.mem_singleton
abbrev yL:=@Option.some.injEq
abbrev yM:=@if_pos
abbrev yN:=@Nat.le_refl
abbrev yO:=@if_neg
abbrev yP:=@Bool.false_eq_true
abbrev yQ:=@Bool.not_eq_true'
abbrev yR:=@of_decide_eq_true
abbrev yS:=@Nat.ne_of_lt
abbrev yT:=@List.getElem?_append_left
abbrev yU:=@List.getElem?_append_right
abbrev yV:=@List.map_nil
abbrev yW:=@List.set_cons_zero
abbrev yX:=@List.set_cons_succ
abbrev yY:=@List.getElem?_replicate
abbrev yZ:=@List.getElem?_cons_succ
abbrev xA:=@Bool.false_ne_true
abbrev xB:=@PySem.wpAny_mono
abbrev xC:=@decide_eq_false_iff_not
abbrev xD:=@List.length_singleton
abbrev xE:=@Option.some.inj
abbrev xF:=@List.replicate_succ
abbrev xG:=@List.cons_append
abbrev xH:=@List.all_eq_true
abbrev xI:=@if_true
abbrev xJ:=@List.getElem?_set
abbrev xK:=@PySem.Heap.size_push
abbrev xM:=@List.length_nil
abbrev xN:=@List.length_replicate
abbrev xO:=@PySem.Heap.get?_update_other
abbrev xP:=@List.nil_append
abbrev xQ:=@List.length_filter_le
abbrev xR:=@List.getElem?_cons_zero
abbrev xS:=@PySem.wpAny_pyIter_tuple
abbrev xU:=@List.all_cons
abbrev xV:=@or_false
abbrev xW:=@Nat.zero_le
abbrev xX:=@PySem.wpAny_truthy_bool
abbrev xY:=@PySem.wpAny_holding
abbrev xZ:=@Bool.not_true
abbrev qA:=@Int.le_refl
abbrev qB:=@List.getElem_mem
abbrev qC:=@List.mem_of_getElem?
abbrev qD:=@PySem.wpAny_callSpecial?_slot
abbrev qE:=@Array.getD_eq_getD_getElem?
abbrev qF:=@Nat.lt_irrefl
abbrev qG:=@List.append_nil
abbrev qH:=@Option.getD_some
abbrev qJ:=@List.length_drop
abbrev qK:=@List.mem_append_left
abbrev qL:=@PySem.wpAny_pyIter_list
abbrev qM:=@PySem.wpAny_newObj_type
abbrev qN:=@List.flatten_cons
abbrev qP:=@PySem.F.plainAttrs_list
abbrev qQ:=@if_false
abbrev qS:=@List.getElem_of_mem
abbrev qT:=@PyProof.Rows.callWith_type1
abbrev qU:=@PySem.wpAny_field
abbrev qV:=@PySem.sizeLine_eq
abbrev qX:=@PySem.wpAny_call_entry
abbrev qY:=@PySem.call_meets
abbrev qZ:=@PySem.wpAny_Call_Name_kw
abbrev jA:=@Nat.lt_of_le_of_lt
abbrev jB:=@List.map_append
abbrev jC:=@Bool.or_eq_true
abbrev jD:=@congrArg
abbrev jE:=@Nat.zero_add
abbrev jF:=@List.pairwise_map
abbrev jG:=@PyProof.Rows.slot_tuple_getitem
abbrev jH:=@List.filterMap_cons
abbrev jI:=@List.ext_getElem
abbrev jJ:=@Nat.ne_of_gt
abbrev jK:=@PySem.wpAny_passesOwn
abbrev jL:=@Bool.true_and
abbrev jM:=@List.getElem?_eq_none
abbrev jN:=@Ne.symm
abbrev jO:=@Nat.lt_succ_of_lt
abbrev jP:=@and_self
abbrev jQ:=@decide_true
abbrev jR:=@PySem.F.slot_tuple_iterator_next
abbrev jS:=@PySem.codeAny_mono
abbrev jT:=@Nat.le_of_lt
abbrev jU:=@Int.le_trans
abbrev jV:=@Nat.le_add_right
abbrev jW:=@List.length_take
abbrev jX:=@List.filter_cons
abbrev jY:=@List.mem_of_find?_eq_some
abbrev jZ:=@Array.getElem?_eq_getElem
abbrev kA:=@PySem.mem_of_lookup
abbrev kC:=@PyProof.Rows.listUpdate_at
abbrev kE:=@List.sum_cons
abbrev kF:=@PyProof.Rows.get?_update_seq
abbrev kG:=@PySem.codeAny_builtin
abbrev kH:=@List.filter_map
abbrev kJ:=@PySem.wpAny_seqItems
abbrev kK:=@List.take_of_length_le
abbrev kL:=@List.find?_cons_of_neg
abbrev kM:=@List.findIdx_lt_length_of_exists
abbrev kN:=@Option.getD_none
abbrev kO:=@Nat.lt_succ_self
abbrev kP:=@PySem.wpAny_newList
abbrev kR:=@PySem.wpAny_attempt
abbrev kU:=@List.getElem?_set_ne
abbrev kW:=@List.nodup_cons
abbrev kX:=@List.cons.injEq
abbrev kY:=@PySem.wpAny_setField_rec
abbrev kZ:=@Int.emod_lt_of_pos
abbrev vA:=@List.drop_eq_getElem_cons
abbrev vB:=@List.foldl_append
abbrev vC:=@List.findIdx_cons
abbrev vD:=@PySem.wpAny_standAt
abbrev vE:=@List.any_cons
abbrev vF:=@PySem.F.args_tuple_add_2
abbrev vG:=@List.range'_succ
abbrev vH:=@PySem.F.entry_tuple_add
abbrev vI:=@List.pairwise_singleton
abbrev vJ:=@Int.eq_ofNat_of_zero_le
abbrev vK:=@PyProof.Rows.listItems_at
abbrev vL:=@PySem.F.slot_tuple_add
abbrev vM:=@List.range_succ_eq_map
abbrev vN:=@List.getElem?_set_self
abbrev vO:=@List.find?_cons_of_pos
abbrev vP:=@PySem.wpAny_execs_nil
abbrev vQ:=@Nat.not_lt_zero
abbrev vR:=@List.range_succ
abbrev vS:=@List.of_mem_zip
abbrev vT:=@List.find?_some
abbrev vU:=@Int.emod_nonneg
abbrev vV:=@PySem.F.slot_zip_next
abbrev vW:=@List.getElem?_toArray
abbrev vX:=@Nat.mul_le_mul
abbrev vY:=@PyProof.Rows.IntsAre.length
abbrev vZ:=@Bool.false_and
abbrev wA:=@List.getD_cons_zero
abbrev wC:=@List.getD_cons_succ
abbrev wD:=@Array.length_toList
abbrev wF:=@PySem.wpAny_rule
abbrev wG:=@of_decide_eq_false
abbrev wH:=@Option.isNone_none
abbrev wI:=@List.find?_eq_none
abbrev wJ:=@PySem.F.args_tuple_mul_2
abbrev wK:=@PySem.wpAny_typeOf
abbrev wL:=@decide_false
abbrev wM:=@PySem.concat_meets
abbrev wN:=@Nat.lt_trans
abbrev wQ:=@List.any_map
abbrev wR:=@PySem.wpAny_pyIter_enum
abbrev wU:=@List.take_add_one
abbrev wV:=@List.nodup_append
abbrev wW:=@Function.comp_def
abbrev wX:=@PySem.F.entry_tuple_mul
local macro_rules|`(tactic|simp?[$t,*] $[$l:location]?)=>`(tactic|simp only[$t,*] $[$l]?)
local macro_rules|`(tactic|let ⟨$a,*⟩:=$e)=>do
 let rec f(n:Nat)(t:Lean.Syntax):Lean.MacroM (Lean.TSyntax `rcasesPat):=match n with
 |0=>Lean.Macro.throwUnsupported
 |n+1=>match t with
  |`(⟨$b,*⟩)=>do
    let c<-b.getElems.mapM fun x=>do `(Lean.Parser.Tactic.rcasesPatLo|$(<-f n x):rcasesPat)
    `(rcasesPat|⟨$c,*⟩)
  |`($x:ident)=>`(rcasesPat|$x:ident)
  |_=>`(rcasesPat|_)
 `(tactic|obtain $(<-f 9 (<-`(⟨$a,*⟩))):rcasesPat:=$e)
local macro_rules|`(tactic|lia)=>`(tactic|omega)
local macro_rules|`(def $i:declId $s:optDeclSig $v:declVal)=>`(noncomputable def $i:declId $s:optDeclSig $v:declVal)
local macro_rules|`(abbrev $i:declId $s:optDeclSig $v:declVal)=>`(noncomputable abbrev $i:declId $s:optDeclSig $v:declVal)
namespace L2
open PySem
def dO(s:Ω):Arguments:=match s with
 | .FunctionDef _ a _ _ _ _ _ _ _ _=>a
 | _=>{ posonlyargs:=[],args:=[],vararg:=none,kwonlyargs:=[],kw_defaults:=[],kwarg:=none,defaults:=[] }
def aW(s:Ω):Γ Ω:=match s with
 | .FunctionDef _ _ b _ _ _ _ _ _ _=>b
 | _=>[]
def ao(s:Ω):ζ:=match s with
 | .FunctionDef _ _ _ _ _ _ sc _ _ _=>sc
 | _=>{ kind:=.function,names:=[],isGenerator:=false,isCoroutine:=false }
end L2
namespace Hd
open PySem L2 PySem.Spec PyProof.Rows
variable {N:Nat}
def en(P:Params)(x:String)(t:Nat)(v:Θ):DictEntry:=⟨PyData.keyHash P (Str.ofString x),.str (Str.ofString x) t,v⟩
def fo(x:Str)(st:Ω)(pm:Θ)(c:Ψ):Obj:=⟨.type "function",none,.func (W.fnOf x x (dO st) (aW st) (ao st) .none .none .none pm none (.ref c) .none),#[]⟩
def co(vs:Γ Θ):Obj:=⟨.type "code",none,.fields vs.toArray,#[]⟩
def Iq(n:Nat):Θ:=if n=0 then .none else .ref n
def TY(x:Str)(t l n a b c d e f u:Nat):Obj:=co [.str x t,.str x (t+1),.str "/claim/cut.py" (t+2),.int l 0,.int n 0,.int 0 0,.int 0 0,.int 3 0,Iq a,.bool true,.int 181 0,Iq b,Iq c,Iq d,Iq e,Iq f,.int u 0,.int l 0,.str "/claim/cut.py" (u+1)]
open PySem PySem.W L2
structure Acc where
 a:Nat
 t:Nat
 nm:Θ
 es:Γ DictEntry
 ts:Γ Θ
 os:Γ Obj
def MQ(q:NameKind)(sc:ζ):Γ Str:=sc.names.filterMap λ(x,k)=>if k=q then some x else none
def QI:Nat->Γ Str->Γ Θ
 | _,[]=>[]
 | t,x::l=>.str x t::QI (t+1) l
def KO(vs:Γ Θ):Obj:=⟨.type "tuple",none,.seq vs.toArray,#[]⟩
def RR:Obj:=⟨.none,none,.fields #[],#[]⟩
def RW(x:Str)(st:Ω):Obj:=⟨.none,none,.func { name:=x,qualname:=x,params:=dO st,body:=.stmts (aW st),scope:=ao st,globals:=0,closure:=[],defaults:=.none,kwdefaults:=.none },#[]⟩
def Wb(P:Params)(k:Nat)(st:Ω):Acc->Acc
 | ⟨a,t,nm,es,ts,os⟩=>match st with
  | .FunctionDef x args _ _ _ _ sc _ _ pos =>
   if k=0 then ⟨a+5,t+6,nm,⟨PyData.keyHash P x,.str x (t+5),.ref (a+4)⟩::es,.ref (a+3)::.int 0 0::.int pos.line 0::ts,
    fo x st nm (a+3)::TY x t pos.line args.args.length a (a+1) 0 0 0 (a+2) (t+3)::RW x st::RR::KO []::os⟩
   else
    let m:=(MQ .local sc).length;let n:=m+(MQ .cell sc).length
    ⟨a+7,t+6+n,nm,⟨PyData.keyHash P x,.str x (t+5+n),.ref (a+6)⟩::es,.ref (a+5)::.int 0 0::.int pos.line 0::ts,
    fo x st nm (a+5)::TY x t pos.line args.args.length a (a+1) 0 (a+2) (a+3) (a+4) (t+3+n)::RW x st::KO (QI (t+3+m) (MQ .cell sc))::KO (QI (t+3) (MQ .local sc))::RR::KO []::os⟩
  | .Assign [.Name x _] (.Constant c _ _) _ =>
   let v:=match c with|.int i=>Value.int i t|.str y=>.str y t|_=>.none
   if k=2 then ⟨a,t+2,v,es,ts,os⟩ else ⟨a,t+2,nm,⟨PyData.keyHash P x,.str x (t+1),v⟩::es,ts,os⟩
  | _=>⟨a,t,nm,es,ts,os⟩
def To(P:Params):Γ Nat->Γ Ω->Acc->Acc
 | k::ks,st::r,A=>To P ks r (Wb P k st A)
 | _,_,A=>A
def U1:ι->Acc->ι
 | ⟨⟨o0::o1::o2::⟨c3,d3,.dict ⟨e0::es⟩ n,s3⟩::r⟩,lf⟩,A=>⟨⟨o0::o1::o2::⟨c3,d3,.dict ⟨{ e0 with val:=A.nm }::(es++A.es.reverse)⟩ (n+A.es.length),s3⟩ ::
   (r.modify 8 (fun|⟨c,d,.fields ⟨vs⟩,s⟩=>⟨c,d,.fields ⟨vs++A.ts.reverse⟩,s⟩|o=>o)++A.os.reverse)⟩,lf⟩
 | h,_=>h
def dc(s:Ξ)(A:Acc):Ξ:={ s with heap:=U1 s.heap A,toks:=A.t }
section
variable (p:ε) (w:δ)
abbrev Bl:=behindTheImports p
abbrev Kb:PySem.Env:={ scope:=p.main.scope,locals:=3,globals:=3,cells:=[],code:=.ref 13,frame:=some 14 }
abbrev Be:Code:=.body (Bl p) (Kb p)
def Gg(i:Nat):Pos:=if i=0 then default else ((Bl p).getD (i - 1) (.Pass default)).pos
abbrev K7:Γ Frame:=[topFrame default]
def S0:Ξ:=(fencedOpening treeTable p w 6000).getD {}
def Sb:Ξ:=((topGo treeTable p w 11 (some (.ref 6)) 12 (S0 p w) (topStub p)).map (·.1)).getD {}
abbrev Re(n i j:Nat)(s:Ξ):=segRun treeTable p w 11 (some (.ref 6)) 1 n s (piecesOf (((Bl p).drop i).take (j - i)) (Kb p) (Be p) (Gg p i) K7)
end
def LV{p q:ε}{loose:Γ Str}{Xt:Ξ->θ}{α:Type}{Yf:Ξ->α}{Ya:δ->α}{g0:θ}{s1:δ->Ξ}{M:Nat}
  (ho:∀w,fencedOpening treeTable p w 6000=some (S0 p w)) (hs:∀w,((S0 p w).heap.isNs mainGlobals&&(S0 p w).gens.size == 0,(S0 p w).heap.objs.size,(S0 p w).heap.nsMap mainGlobals "__annotations__")=(true,11,some (.ref 6)))
  (hr:∀w,topRun treeTable p w 11 (some (.ref 6)) M (S0 p w) (topStub p)=some (s1 w)) (hM:M<=6000)
  (hl:∀w,(staticsOk (importedModules p.main.body) (S0 p w).heap (s1 w).heap&&namesBound p (s1 w).heap&&gensDone (s1 w)&&laidKept (S0 p w).heap (s1 w).heap)=true)
  (hk:∀w,openSeen q loose (importedModules p.main.body) Xt g0 (s1 w)=openGood q loose) (hy:∀w,Yf (s1 w)=Ya w):LeftO p q loose Xt Yf Ya 6000 g0:=λw=>by
 have r:=topRun_mono (6000 - M) _ _ _ _ (hr w);rw[show M+(6000 - M)=6000 by lia] at r;have e:=hs w;simp?[Prod.mk.injEq] at e;have t:openEnds treeTable p w 6000=some (s1 w):=by
  unfold openEnds;rw[ho w,zA];unfold topFrom;rw[e.1,e.2.1,e.2.2];dsimp only;rw[r,zA,hl w]
 rw[t,zB,hk w,hy w]
def P4{p:ε}{w:δ}{r:Ξ}(a:topGo treeTable p w 11 (some (.ref 6)) 12 (S0 p w) (topStub p)=some (Sb p w,⟨denote treeTable (.body (Bl p) (Kb p)),Be p,default,K7⟩))
  (b:segRun treeTable p w 11 (some (.ref 6)) 1 1 (Sb p w) (blockOf (Bl p) (Kb p) (Be p) default K7)=some (.next,Sb p w,Be p,Gg p 0))
  (k:topRun treeTable p w 11 (some (.ref 6)) N (Sb p w) (restOf (Bl p) (Kb p) (Be p) (Gg p 0) K7)=some r):topRun treeTable p w 11 (some (.ref 6)) (12+(1+N)) (S0 p w) (topStub p)=some r:=go_top a (piece_block b k)
def TU{p:ε}{w:δ}{n N i j:Nat}{s s' r:Ξ}(h:Re p w n i j s=some (.next,s',Be p,Gg p j))(Wo:i<=j)(k:topRun treeTable p w 11 (some (.ref 6)) N s' (restOf ((Bl p).drop j) (Kb p) (Be p) (Gg p j) K7)=some r) :
  topRun treeTable p w 11 (some (.ref 6)) (n+N) s (restOf ((Bl p).drop i) (Kb p) (Be p) (Gg p i) K7)=some r:=by
 have e:(Bl p).drop i=((Bl p).drop i).take (j - i)++(Bl p).drop j:=by
  have:=List.take_append_drop (j - i) ((Bl p).drop i);rw[List.drop_drop,show i+(j - i)=j by lia] at this;exact this.symm
 rw[e];exact piece_app h k
def Lm:Ω->Γ Ω
 | .ClassDef _ _ _ b ..=>b
 | _=>[]
def VD(x:Str)(C ns t u:Nat):Obj:=⟨.type "type",none,.cls { name:=x,bases:=[.type "object"],mro:=[.ref C,.type "object"],ns:=ns,qualname:=x,subclasses:=[] },#[none,none,some (.str x t),some (.str x u),some (.builtin "object.__new__"),some (.bool true)]⟩
def TV(x q:Str)(st:Ω)(pm:Θ)(c:Ψ):Obj:=⟨.type "function",none,.func (W.fnOf x q (dO st) (aW st) (ao st) .none .none .none pm none (.ref c) .none),#[]⟩
def VZ(x q:Str)(t l n a b d e f u:Nat):Obj:=co [.str x t,.str q (t+1),.str "/claim/cut.py" (t+2),.int l 0,.int n 0,.int 0 0,.int 0 0,.int 3 0,Iq a,.bool true,.int 181 0,Iq b,.none,Iq d,Iq e,Iq f,.int u 0,.int l 0,.str "/claim/cut.py" (u+1)]
def d5(x:Str)(st:Ω)(pm:Θ)(t l n a:Nat):Γ (Ψ×Obj):=[(a+3,TY x t l n a (a+1) 0 0 0 (a+2) (t+3)),(a+4,fo x st pm (a+3))]
def d7(x:Str)(st:Ω)(pm:Θ)(t l n a u:Nat):Γ (Ψ×Obj):=[(a+5,TY x t l n a (a+1) 0 (a+2) (a+3) (a+4) u),(a+6,fo x st pm (a+5))]
def m7(x q:Str)(st:Ω)(pm:Θ)(t l n a u:Nat):Γ (Ψ×Obj):=[(a+5,VZ x q t l n a (a+1) (a+2) (a+3) (a+4) u),(a+6,TV x q st pm (a+5))]
section
variable (p:ε) (w:δ)
def Sd(n i j:Nat)(s:Ξ):Ξ:=((Re p w n i j s).map (·.2.1)).getD {}
def SB(s:Ξ)(j:Nat)(A:Acc)(ks:Γ Nat)(m:Nat):Ξ:=dc s (To w.params (ks.take m) ((Bl p).drop j) A)
end
end Hd
namespace K73
open PySem L2 PySem.Spec PyProof.Rows Hd PySem.W
abbrev top(i:Nat):Ω:=PySem.Challenge.pw_stillflow_k73_whole_floors.main.body.getD i (.Pass ⟨0,0,0,0⟩)
def vw:ε:=W.view PySem.Challenge.pw_stillflow_k73_whole_floors [0,2,3,4,5,6,8,9,10,11,12,13,14,15,16,17,18,19,20,21,22,23,24,25,26,27,28,29,31,32,33,34,35,36,37,38,40,41,42,43,45,47,48,49,50,51,52,53,54,56,57,58,59,60,61,62,63]
abbrev dm:Ψ:=365
abbrev bz(i:Nat):Ω:=(Lm (top 45)).getD i (.Pass ⟨0,0,0,0⟩)
def vd:Θ:=(.str "stillflow.floors" 532)
def VM:Θ:=(.str "__main__" 164)
def iX:Θ:=(.str "stillflow.worlds" 278)
def Bh:Θ:=(.str "stillflow.flows" 430)
def Nw:Θ:=(.str "stillflow.walks" 490)
def Bf:Θ:=(.str "stillflow.finding" 645)
def Bj:Θ:=(.str "law_stillflow_k73_whole_floors" 716)
def Kf(P:Params):Φ:=[(3,⟨.type "dict",none,.dict #[en P "__name__" 165 (.str "law_stillflow_k73_whole_floors" 716),en P "__doc__" 166 .none,en P "__package__" 167 .none,en P "__loader__" 168 (.builtin "__main__.__loader__#opaque"),en P "__spec__" 169 .none,en P "__annotations__" 170 (.ref 6),en P "__builtins__" 171 (.ref 4),en P "__file__" 173 (.str "/claim/cut.py" 172),en P "__cached__" 174 .none,en P "_wall" 193 (.ref 21),en P "FlowError" 213 (.ref 31),en P "NoWorld" 229 (.ref 44),en P "NoPlan" 245 (.ref 56),en P "NoPlace" 261 (.ref 68),en P "Nothing" 277 (.ref 80),en P "MOST_PLACES" 281 (.int 4 280),en P "MOST" 283 (.int 9 282),en P "is_whole" 292 (.ref 89),en P "is_number" 300 (.ref 96),en P "is_long" 309 (.ref 103),en P "are_likes" 315 (.ref 108),en P "is_end" 323 (.ref 115),en P "is_way" 332 (.ref 122),en P "are_parts" 338 (.ref 127),en P "liked_pairs" 344 (.ref 132),en P "is_world" 350 (.ref 137),en P "through" 356 (.ref 142),en P "keeps_amounts" 362 (.ref 147),en P "is_plan" 368 (.ref 152),en P "check_world" 375 (.ref 159),en P "check_plan" 383 (.ref 166),en P "check_whole" 392 (.ref 173),en P "check_number" 400 (.ref 180),en P "replaced" 409 (.ref 187),en P "turned_order" 417 (.ref 194),en P "turned" 423 (.ref 199),en P "turned_plan" 429 (.ref 204),en P "ways_of" 437 (.ref 209),en P "chosen_by" 443 (.ref 214),en P "wants_more" 449 (.ref 219),en P "why_kept" 458 (.ref 226),en P "first_leaving" 467 (.ref 233),en P "is_still" 475 (.ref 240),en P "leaving" 481 (.ref 245),en P "rests" 489 (.ref 252),en P "least_liked_used" 497 (.ref 257),en P "pushed_on" 510 (.ref 264),en P "pushed" 519 (.ref 271),en P "walk" 531 (.ref 278),en P "Floor" 644 (.ref 365),en P "chosen_by_all" 652 (.ref 374),en P "limits" 658 (.ref 379),en P "lowered" 667 (.ref 386),en P "refused" 679 (.ref 393),en P "steps" 689 (.ref 400),en P "capped" 700 (.ref 407),en P "givers_best" 707 (.ref 414),en P "takers_best" 715 (.ref 421),en P "_law_cell" 725 (.ref 428),en P "_law_drawn" 735 (.ref 435),en P "_law_orders" 750 (.ref 442),en P "_law_world" 756 (.ref 447),en P "_law_used" 762 (.ref 452),en P "_law_fits" 773 (.ref 459),en P "_law_plan" 787 (.ref 466),en P "law" 803 (.ref 473)] 66,#[]⟩)] ++
 (d7 "_wall" (top 0) VM 187 1 1 15 191 ++
 (d7 "is_whole" (top 10) iX 284 18 3 83 290 ++
 (d7 "is_number" (top 11) iX 293 22 2 90 298 ++
 (d7 "is_long" (top 12) iX 301 24 3 97 307 ++
 (d5 "are_likes" (top 13) iX 310 26 2 104 ++
 (d7 "is_end" (top 14) iX 316 32 2 109 321 ++
 (d7 "is_way" (top 15) iX 324 34 3 116 330 ++
 (d5 "are_parts" (top 16) iX 333 38 3 123 ++
 (d5 "liked_pairs" (top 17) iX 339 46 1 128 ++
 (d5 "is_world" (top 18) iX 345 51 1 133 ++
 (d5 "through" (top 19) iX 351 58 4 138 ++
 (d5 "keeps_amounts" (top 20) iX 357 60 3 143 ++
 (d5 "is_plan" (top 21) iX 363 62 2 148 ++
 (d7 "check_world" (top 22) iX 369 69 1 153 373 ++
 (d7 "check_plan" (top 23) iX 376 72 2 160 381 ++
 (d7 "check_whole" (top 24) iX 384 76 3 167 390 ++
 (d7 "check_number" (top 25) iX 393 79 2 174 398 ++
 (d7 "replaced" (top 26) iX 401 81 3 181 407 ++
 (d7 "turned_order" (top 27) iX 410 83 1 188 415 ++
 (d5 "turned" (top 28) iX 418 86 1 195 ++
 (d5 "turned_plan" (top 29) iX 424 90 2 200 ++
 (d5 "ways_of" (top 31) Bh 432 94 3 205 ++
 (d5 "chosen_by" (top 32) Bh 438 99 4 210 ++
 (d5 "wants_more" (top 33) Bh 444 106 4 215 ++
 (d7 "why_kept" (top 34) Bh 450 113 3 220 456 ++
 (d7 "first_leaving" (top 35) Bh 459 121 2 227 465 ++
 (d7 "is_still" (top 36) Bh 468 126 2 234 473 ++
 (d5 "leaving" (top 37) Bh 476 128 2 241 ++
 (d7 "rests" (top 38) Bh 482 131 2 246 487 ++
 (d5 "least_liked_used" (top 40) Nw 492 135 4 253 ++
 (d7 "pushed_on" (top 41) Nw 498 137 3 258 508 ++
 (d7 "pushed" (top 42) Nw 511 145 3 265 517 ++
 (d7 "walk" (top 43) Nw 520 151 2 272 529 ++
 (m7 "__init__" "Floor.__init__" (bz 0) vd 546 167 3 286 552 ++
 (m7 "step_to" "Floor.step_to" (bz 1) vd 555 174 3 293 561 ++
 (m7 "push" "Floor.push" (bz 2) vd 564 179 2 300 569 ++
 (m7 "lay" "Floor.lay" (bz 3) vd 572 183 2 307 577 ++
 (m7 "settle" "Floor.settle" (bz 4) vd 580 188 1 314 585 ++
 (m7 "plan" "Floor.plan" (bz 5) vd 588 193 1 321 592 ++
 (m7 "move" "Floor.move" (bz 6) vd 595 196 3 328 602 ++
 (m7 "back" "Floor.back" (bz 7) vd 605 204 1 335 609 ++
 (m7 "forth" "Floor.forth" (bz 8) vd 612 207 1 342 616 ++
 (m7 "counts" "Floor.counts" (bz 9) vd 619 210 1 349 623 ++
 (m7 "twin" "Floor.twin" (bz 10) vd 626 213 1 356 630 ++
 ([(364,⟨.type "dict",none,.dict #[en P "__module__" 541 (.str "stillflow.floors" 532),en P "__firstlineno__" 545 (.int 165 544),en P "__init__" 554 (.ref 292),en P "step_to" 563 (.ref 299),en P "push" 571 (.ref 306),en P "lay" 579 (.ref 313),en P "settle" 587 (.ref 320),en P "plan" 594 (.ref 327),en P "move" 604 (.ref 334),en P "back" 611 (.ref 341),en P "forth" 618 (.ref 348),en P "counts" 625 (.ref 355),en P "twin" 632 (.ref 362),en P "__static_attributes__" 637 (.ref 363),en P "__dict__" 639 (.ref 366),en P "__weakref__" 641 (.ref 367),en P "__doc__" 642 .none] 4,#[]⟩)] ++
 ([(365,VD "Floor" 365 364 534 542)] ++
 (d5 "chosen_by_all" (top 47) Bf 647 216 3 370 ++
 (d5 "limits" (top 48) Bf 653 222 1 375 ++
 (d7 "lowered" (top 49) Bf 659 224 3 380 665 ++
 (d7 "refused" (top 50) Bf 668 226 2 387 677 ++
 (d7 "steps" (top 51) Bf 680 233 1 394 687 ++
 (d7 "capped" (top 52) Bf 690 242 2 401 698 ++
 (d7 "givers_best" (top 53) Bf 701 247 1 408 705 ++
 (d7 "takers_best" (top 54) Bf 708 250 1 415 713 ++
 (d7 "_law_cell" (top 56) Bj 718 254 2 422 723 ++
 (d7 "_law_drawn" (top 57) Bj 726 258 3 429 733 ++
 (d7 "_law_orders" (top 58) Bj 736 262 3 436 748 ++
 (d5 "_law_world" (top 59) Bj 751 270 3 443 ++
 (d5 "_law_used" (top 60) Bj 757 286 4 448 ++
 (d7 "_law_fits" (top 61) Bj 763 288 2 453 771 ++
 (d7 "_law_plan" (top 62) Bj 774 294 3 460 785 ++
 (d7 "law" (top 63) Bj 788 301 1 467 801))))))))))))))))))))))))))))))))))))))))))))))))))))))))))))))
def hk:W.Hook:=W.kmHook Kf [3,20,21,88,89,95,96,102,103,107,108,114,115,121,122,126,127,131,132,136,137,141,142,146,147,151,152,158,159,165,166,172,173,179,180,186,187,193,194,198,199,203,204,208,209,213,214,218,219,225,226,232,233,239,240,244,245,251,252,256,257,263,264,270,271,277,278,291,292,298,299,305,306,312,313,319,320,326,327,333,334,340,341,347,348,354,355,361,362,364,365,373,374,378,379,385,386,392,393,399,400,406,407,413,414,420,421,427,428,434,435,441,442,446,447,451,452,458,459,465,466,472,473] (λ_=>rfl) [189,206]
abbrev pp:=PySem.Challenge.pw_stillflow_k73_whole_floors
abbrev Va(w:δ):Ξ:=Sd pp w 1077 0 7 (Sb pp w)
abbrev A0:Acc:=⟨83,278,.str "stillflow.errors" 194,[],[],[]⟩
abbrev VR:Γ Nat:=[2,3,3,1,1,1,0,1,1,0,0,0,0,0,0,1,1,1,1,1,1,0,0,2,0,0,0,1,1,1,0,1,2,0,1,1,1]
abbrev Sa(w:δ)(m:Nat):Ξ:=SB pp w (Va w) 7 A0 VR m
abbrev Us(w:δ):Ξ:=Sd pp w 554 44 46 (Sa w 37)
abbrev A2:Acc:=⟨370,645,.str "stillflow.floors" 532,[],[],[]⟩
abbrev VU:Γ Nat:=[2,0,0,1,1,1,1,1,1,2,1,1,1,0,0,1,1,1]
abbrev TK(w:δ)(m:Nat):Ξ:=SB pp w (Us w) 46 A2 VU m
def o0(w:δ):fencedOpening treeTable pp w 6000=some (S0 pp w):=by kernel_rfl
def o1(w:δ):((S0 pp w).heap.isNs mainGlobals&&(S0 pp w).gens.size == 0,(S0 pp w).heap.objs.size,(S0 pp w).heap.nsMap mainGlobals "__annotations__")=(true,11,some (.ref 6)):=by kernel_rfl
def o2(w:δ):topGo treeTable pp w 11 (some (.ref 6)) 12 (S0 pp w) (topStub pp)=some (Sb pp w,⟨denote treeTable (.body (Bl pp) (Kb pp)),Be pp,default,K7⟩):=by kernel_rfl
def o3(w:δ):segRun treeTable pp w 11 (some (.ref 6)) 1 1 (Sb pp w) (blockOf (Bl pp) (Kb pp) (Be pp) default K7)=some (.next,Sb pp w,Be pp,Gg pp 0):=by kernel_rfl
def q0(w:δ):Re pp w 1077 0 7 (Sb pp w)=some (.next,Va w,Be pp,Gg pp 7):=by kernel_rfl
def p0(w:δ):Va w=Sa w 0:=by kernel_rfl
def r0(w:δ):Re pp w 966 7 44 (Sa w 0)=some (.next,Sa w 37,Be pp,Gg pp 44):=by kernel_rfl
def q2(w:δ):Re pp w 554 44 46 (Sa w 37)=some (.next,Us w,Be pp,Gg pp 46):=by kernel_rfl
def p2(w:δ):Us w=TK w 0:=by kernel_rfl
def r1(w:δ):Re pp w 518 46 64 (TK w 0)=some (.next,TK w 18,Be pp,Gg pp 64):=by kernel_rfl
abbrev fs(w:δ):Ξ:=TK w 18
def qe(w:δ):topRun treeTable pp w 11 (some (.ref 6)) 3 (fs w) (restOf ((Bl pp).drop 64) (Kb pp) (Be pp) (Gg pp 64) K7)=some (fs w):=by kernel_rfl
def rl(w:δ):topRun treeTable pp w 11 (some (.ref 6)) (12+(1+(1077+(966+(554+(518+3)))))) (S0 pp w) (topStub pp)=some (fs w):=P4 (o2 w) (o3 w) (TU (i:=0) (q0 w) (by decide) (by rw[p0 w];exact (TU (r0 w) (by decide) (TU (q2 w) (by decide) (by rw[p2 w];exact (TU (r1 w) (by decide) (qe w)))))))
abbrev sn(w:δ):=openSeen vw [] (importedModules pp.main.body) (λs=>xlAt vw [] s&&recOk [] s) true (fs w)
abbrev gd:=openGood vw []
def l0(w:δ):(staticsOk (importedModules pp.main.body) (S0 pp w).heap (fs w).heap&&namesBound pp (fs w).heap&&gensDone (fs w)&&laidKept (S0 pp w).heap (fs w).heap)=true:=by kernel_rfl
def VA(w:δ):(sn w).1=gd.1:=by kernel_rfl
def VJ(w:δ):(sn w).2.1=gd.2.1:=by kernel_rfl
def VS(w:δ):(sn w).2.2.1=gd.2.2.1:=by kernel_rfl
def VV(w:δ):(sn w).2.2.2.1=gd.2.2.2.1:=by kernel_rfl
def VC(w:δ):(sn w).2.2.2.2.1=gd.2.2.2.2.1:=by kernel_rfl
def VW(w:δ):(sn w).2.2.2.2.2.1=gd.2.2.2.2.2.1:=by kernel_rfl
def V8(w:δ):(sn w).2.2.2.2.2.2=gd.2.2.2.2.2.2:=by kernel_rfl
def VO(w:δ):hk.obs (fs w)=hk.val w:=by kernel_rfl
def left:LeftO pp vw [] (λs=>xlAt vw [] s&&recOk [] s) hk.obs hk.val 6000:=LV o0 o1 rl (by decide) l0 (λw=>Prod.ext (VA w) (Prod.ext (VJ w) (Prod.ext (VS w) (Prod.ext (VV w) (Prod.ext (VC w) (Prod.ext (VW w) (V8 w))))))) VO
def Ul:PySem.Challenge.rw_stillflow_k73_whole_floors.wellSaid=true:=by kernel_rfl
end K73
namespace L2
open PySem PySem.Spec PyProof.Rows
abbrev ph:=Sum Int Str
def Ec:ph->Θ->θ
 | .inl k,v=>Value.isInt k v
 | .inr x,v=>Value.isStrOf x v
def Vc(w:δ):ph->Int
 | .inl k=>hashInt k
 | .inr x=>hashStr w x
def bU:∀ {k:ph}{v:Θ},Ec k v=true->(∃i t,k=Sum.inl i/\v=Value.int i t)\/(∃x t,k=Sum.inr x/\v=Value.str x t)
 | .inl i,v,h=>by
  let⟨t,e⟩:=Value.isInt_shape (k:=i) (v:=v) h;exact .inl ⟨i,t,rfl,e⟩
 | .inr x,v,h=>by
  let⟨t,e⟩:=Value.isStrOf_shape (x:=x) (v:=v) h;exact .inr ⟨x,t,rfl,e⟩
def EZ(i:Int)(t:Tok):Ec (.inl i) (.int i t)=true:=by simp[Ec,Value.isInt]
def QJ(a b:Int):decide ((Sum.inl a:ph)=Sum.inl b)=(a == b):=by
 by_cases e:a=b
 ·subst e;simp
 ·have h:¬ (Sum.inl a:ph)=Sum.inl b:=λq=>e (Sum.inl.inj q);rw[zZ h];exact (beq_eq_false_iff_ne.mpr e).symm
def QN(a b:Str):decide ((Sum.inr a:ph)=Sum.inr b)=decide (a=b):=by
 by_cases e:a=b
 ·subst e;simp
 ·have h:¬ (Sum.inr a:ph)=Sum.inr b:=λq=>e (Sum.inr.inj q);rw[zZ h,zZ e]
def OJ(a:Int)(b:Str):decide ((Sum.inl a:ph)=Sum.inr b)=false:=zZ (λq=>nomatch q)
def OP(a:Str)(b:Int):decide ((Sum.inr a:ph)=Sum.inl b)=false:=zZ (λq=>nomatch q)
def nX(prog:ε)(w:δ):PySem.KeyKind prog w ph where
 is:=Ec
 hash:=Vc w
 inj:=λv a b ha hb=>by
  rcases bU ha with ⟨i,t,rfl,rfl⟩|⟨x,t,rfl,rfl⟩
  ·rcases bU hb with ⟨j,u,rfl,e⟩|⟨y,u,rfl,e⟩
   ·injection e with e1 _;rw[e1]
   ·exact nomatch e
  ·rcases bU hb with ⟨j,u,rfl,e⟩|⟨y,u,rfl,e⟩
   ·exact nomatch e
   ·injection e with e1 _;rw[e1]
 byValue:=λk v h=>by
  rcases bU h with ⟨i,t,rfl,rfl⟩|⟨x,t,rfl,rfl⟩<;>rfl
 pyHash:=λhv h=>by
  rcases bU hv with ⟨i,t,rfl,rfl⟩|⟨x,t,rfl,rfl⟩
  ·exact wpAny_pyHash_int h
  ·exact wpAny_pyHash_str h
 eqBool:=λhu hv h=>by
  rcases bU hu with ⟨i,t,rfl,rfl⟩|⟨x,t,rfl,rfl⟩
  ·rcases bU hv with ⟨j,u,rfl,rfl⟩|⟨y,u,rfl,rfl⟩
   ·rw[QJ] at h;exact wpAny_eqBool_int h
   ·rw[OJ] at h;exact SeqAt.EqAt.int_str i t y u _ _ _ _ h
  ·rcases bU hv with ⟨j,u,rfl,rfl⟩|⟨y,u,rfl,rfl⟩
   ·rw[OP] at h;exact SeqAt.EqAt.str_int x t j u _ _ _ _ h
   ·rw[QN] at h;exact wpAny_eqBool_str h
 «strs»:=λk x t v h=>by
  rcases bU h with ⟨i,u,rfl,e⟩|⟨y,u,rfl,e⟩
  ·exact nomatch e
  ·injection e with e1 _
   subst e1;cases v<;>rfl
def zm(prog:ε)(w:δ)(i:Int)(t:Tok):(nX prog w).is (.inl i) (.int i t)=true:=EZ i t
inductive V where
 | Wh|bl (b:θ)|int (i:Int)|str (x:Str)|byt (b:Array UInt8)|flt (b:UInt64)|ref (a:Ψ)|ty (n:String)
 deriving DecidableEq
def RelV:V->Θ->Prop
 | .Wh,u=>u=Value.none
 | .bl b,u=>u=Value.bool b
 | .int i,u=>∃t,u=Value.int i t
 | .str x,u=>∃t,u=Value.str x t
 | .byt b,u=>∃t,u=Value.bytes b t
 | .flt b,u=>∃t,u=Value.float b t
 | .ref a,u=>u=Value.ref a
 | .ty n,u=>u=Value.type n
abbrev aH:Γ V->Γ Θ->Prop:=Paired RelV
def aH.length(r:aH xs us):xs.length=us.length:=Paired.length r
def aH.get:∀ {xs:Γ V}{us:Γ Θ}{i:Nat}{x:V},aH xs us->xs[i]?=some x->∃u,us[i]?=some u/\RelV x u
 | _,_,_,_,.nil,e=>by simp at e
 | _,_,0,_,.cons r _,e=>by simp at e;subst e;exact⟨_,rfl,r⟩
 | _,_,i+1,x,.cons _ t,e=>by
  let⟨u,h1,h2⟩:=aH.get (i:=i) (x:=x) t (by simpa using e);exact⟨u,by simpa using h1,h2⟩
def aH.set(r:RelV x u):∀ {xs:Γ V}{us:Γ Θ}(i:Nat),aH xs us->aH (xs.set i x) (us.set i u)
 | _,_,_,.nil=>.nil
 | _,_,0,.cons _ t=>.cons r t
 | _,_,i+1,.cons q t=>.cons q (aH.set r i t)
def aH.append:∀ {xs ys:Γ V}{us ws:Γ Θ},aH xs us->aH ys ws->aH (xs++ys) (us++ws)
 | _,_,_,_,.nil,s=>s
 | _,_,_,_,.cons r t,s=>.cons r (aH.append t s)
def aH.take:∀ {xs:Γ V}{us:Γ Θ}(n:Nat),aH xs us->aH (xs.take n) (us.take n)
 | _,_,0,_=>.nil
 | _,_,_+1,.nil=>.nil
 | _,_,n+1,.cons r t=>.cons r (aH.take n t)
def aH.drop:∀ {xs:Γ V}{us:Γ Θ}(n:Nat),aH xs us->aH (xs.drop n) (us.drop n)
 | _,_,0,r=>r
 | _,_,_+1,.nil=>.nil
 | _,_,n+1,.cons _ t=>aH.drop n t
def uB:Δ V->Δ Θ->Prop
 | some v,some u=>RelV v u
 | none,none=>True
 | _,_=>False
def KV:Γ (κ×V)->Γ (κ×Θ)->Prop:=Paired λ(p:κ×V) (q:κ×Θ)=>p.1=q.1/\RelV p.2 q.2
def kV:ph->V
 | .inl i=>.int i
 | .inr x=>.str x
inductive HO where
  | lst (xs:Γ V)
  | tup (xs:Γ V)
  | dK (WH:Γ (ph×V))|dT (xs:Γ (Γ ph×Ψ×Θ))
  | set (S:Int->θ) (n:Nat)
  | ins (C dx:Ψ) (fs:Γ (Str×V))
  | own (x:Ψ)
  | xd (fs:Γ (Str×V))
  | met (f x:Ψ)
  | rng (lo hi:Int)
  | WZ (o:Obj) (u:HO)
  | tab (q:Str)
 | YL (q:Str)
  | ext (φ:ι->Prop)
abbrev Hp:=Ψ->Δ HO
def upd(H:Hp)(a:Ψ)(o:HO):Hp:=λb=>if b=a then some o else H b
def aw:upd H a o a=some o:=by unfold upd;rw[yM rfl]
def ak(h:b≠a):upd H a o b=H b:=by unfold upd;rw[yO h]
def aG{H:Hp}{a b:Ψ}{o:HO}(h:H a=some o)(h':H b=none):a≠b:=by
 intro e;subst e;rw[h] at h';cases h'
def rG(h:ι)(a:Ψ)(its:Array Θ):Prop:=IsTup h a its/\∃o,h.get? a=some o/\o.dict=none
def rG.new(h:ι)(its:Array Θ):rG (h.push { cls:=.type "tuple",data:=.seq its }) h.objs.size its:=⟨IsTup.new _ _,_,zX _ rfl,rfl⟩
section
variable (P:ε) (w:δ)
def ej(H:Hp)(h:ι)(a:Ψ):HO->Prop
 | .lst xs=>xs.length<=sizeLine/\∃ (its:Γ Θ) (n:Nat),aH xs its/\h.get? a=some { cls:=.type "list",data:=.seq its.toArray n }
 | .tup xs=>xs.length<=sizeLine/\∃its:Γ Θ,aH xs its/\rG h a its.toArray
 | .dK WH=>WH.length<=sizeLine/\(a == sysModules)=false/\∃vs,KV WH vs/\h.DictOf (nX P w) a vs
 | .dT xs=>xs.length<=sizeLine/\(a == sysModules)=false /\
   ∃o es ep,h.get? a=some o/\o.ExactDict/\o.data=.dict es ep/\es.toList=xs.map (entryOfKey (tupleKind (nX P w)))/\(xs.map (·.1)).Nodup
 | .set S n=>h.SetOf (intKind P w) a S n
 | .ins C dx fs=>H dx=some (.own a)/\fs.length<=1000/\dx≠a/\h.get? a=some (W.instObj C dx) /\
   ∃mA,h.Ns1 dx mA/\(∀f,uB (fs.lookup f) (mA f))/\PySem.Within mA (fs.map (·.1))
 | .own _=>∃o,h.get? a=some o
 | .xd fs=>∃mA,h.Ns1 a mA/\∀f,uB (fs.lookup f) (mA f)
 | .rng lo hi=>∃t u v,h.get? a=some { cls:=.type "range",data:=.fields #[.int lo t,.int hi u,.int 1 v] }
 | .WZ o u=>h.get? a=some o/\ej H h a u
 | .tab q=>∃ps:Array Θ,h.get? a=some { cls:=.none,data:=.fields ps }/\TriplesOk ps.toList/\∀pos v,codeAmong pos ps.toList=some v->∃c,v=.ref c/\H c=some (.YL q)
 | .YL q=>h.CodeRec (.ref a) q
 | .met f x=>h.get? a=some (W.methodObj (.ref f) (.ref x))
 | .ext φ=>φ h/\(∃o,h.get? a=some o)/\∀h1 h2:ι,φ h1->(∀o,h1.get? a=some o->h2.get? a=some o)->φ h2
def qj(H:Hp)(h:ι):Prop:=∀a o,H a=some o->ej P w H h a o
end
def ej.lt(x:ej P w H h a o):a < h.objs.size:=by
 cases o with
 | lst xs=>let⟨_,_,_,_,e⟩:=x;exact zY e
 | tup xs=>let⟨_,_,_,p⟩:=x;exact p.1.lt
 | dK WH=>let⟨_,_,_,_,o,_,_,e,_⟩:=x;exact zY e
 | dT WH=>let⟨_,_,o,_,_,e,_⟩:=x;exact zY e
 | set S n=>let⟨o,_,_,_,e,_⟩:=x;exact zY e
 | ins C dx fs=>let⟨_,_,_,e,_⟩:=x;exact zY e
 | own y=>let⟨_,e⟩:=x;exact zY e
 | xd fs=>let⟨_,⟨_,_,_,e,_⟩,_⟩:=x;exact zY e
 | rng lo hi=>let⟨_,_,_,e⟩:=x;exact zY e
 | WZ ob u=>let⟨e,_⟩:=x;exact zY e
 | tab q=>let⟨_,e,_⟩:=x;exact zY e
 | YL q=>let⟨_,_,_,_,e0,e,_⟩:=x;cases e0;exact zY e
 | met f y=>exact zY (show h.get? a=some _ from x)
 | ext φ=>let⟨_,⟨_,e⟩,_⟩:=x;exact zY e
def Paired.abw:∀ {abx:Γ α}{aby:Γ β},Paired F abx aby->(∀a b,F a b->G a b)->Paired G abx aby
 | _,_,.nil,_=>.nil
 | _,_,.cons r t,f=>.cons (f _ _ r) (Paired.abw t f)
def Vy:HO->Prop
 | .tup _=>True
 | .YL _=>True
 | _=>False
def ej.W0(x:ej P w H h a o)(k:∀b u,(b=a\/H b=some (.own a))->h.get? b=some u->h'.get? b=some u)
  (ho:∀b,H b=some (.own a)->H' b=some (.own a)) (ht:∀b u,H b=some u->Vy u->H' b=some u):ej P w H' h' a o:=by
 induction o with
 | lst xs=>let⟨z,its,n,r,e⟩:=x;exact⟨z,its,n,r,k _ _ (.inl rfl) e⟩
 | tup xs=>let⟨z,its,r,⟨ob,e,c⟩,o2,e2,d2⟩:=x;exact⟨z,its,r,⟨ob,k _ _ (.inl rfl) e,c⟩,o2,k _ _ (.inl rfl) e2,d2⟩
 | dK WH=>let⟨z,y,vs,r,ob,es,ep,e,c⟩:=x;exact⟨z,y,vs,r,ob,es,ep,k _ _ (.inl rfl) e,c⟩
 | dT WH =>
  let⟨z,y,ob,es,ep,e,c⟩:=x;exact⟨z,y,ob,es,ep,k _ _ (.inl rfl) e,c⟩
 | set S n=>let⟨ob,es,ep,t,e,c⟩:=x;exact⟨ob,es,ep,t,k _ _ (.inl rfl) e,c⟩
 | ins C dx fs =>
  let⟨d,z,ne,e,mA,⟨od,es,ep,e2,c⟩,r⟩:=x;exact⟨ho _ d,z,ne,k _ _ (.inl rfl) e,mA,⟨od,es,ep,k _ _ (.inr d) e2,c⟩,r⟩
 | own y=>let⟨ob,e⟩:=x;exact⟨ob,k _ _ (.inl rfl) e⟩
 | xd fs=>let⟨mA,⟨od,es,ep,e,c⟩,r⟩:=x;exact⟨mA,⟨od,es,ep,k _ _ (.inl rfl) e,c⟩,r⟩
 | rng lo hi=>let⟨t,u,v,e⟩:=x;exact⟨t,u,v,k _ _ (.inl rfl) e⟩
 | WZ ob u ih=>let⟨e,q⟩:=x;exact⟨k _ _ (.inl rfl) e,ih q⟩
 | tab q=>let⟨ps,e,t,c⟩:=x;exact⟨ps,k a _ (.inl rfl) e,t,λpos v z=>let ⟨c0,z1,z2⟩:=c pos v z;⟨c0,z1,ht _ _ z2 trivial⟩⟩
 | YL q=>let⟨c,oc,vs,t,e0,e,r⟩:=x;cases e0;exact⟨_,oc,vs,t,rfl,k _ _ (.inl rfl) e,r⟩
 | met f y =>
  have e:h.get? a=some (W.methodObj (.ref f) (.ref y)):=x;show h'.get? a=some (W.methodObj (.ref f) (.ref y));exact k a _ (.inl rfl) e
 | ext φ=>let⟨p,⟨o,e⟩,st⟩:=x;exact⟨st _ _ p λo q=>k _ _ (.inl rfl) q,⟨o,k _ _ (.inl rfl) e⟩,st⟩
def qj.lt(x:qj P w H h)(e:H a=some o):a < h.objs.size:=(x a o e).lt
def qj.fresh(x:qj P w H h)(e:h.objs.size<=a):H a=none:=by
 cases q:H a with
 | none=>rfl
 | some u=>exact absurd (zP (x.lt q) e) (qF _)
def qj.kept(x:qj P w H h)(k:∀b u,h.get? b=some u->h'.get? b=some u):qj P w H h':=λa o e =>
 (x a o e).W0 (λb u _ q=>k b u q) (λ_ q=>q) λ_ _ q _=>q
def qj.laid(x:qj P w H h)(k:∀b u,h.get? b=some u->h'.get? b=some u)(hp:h.objs.size<=a)(new:ej P w (upd H a o) h' a o):qj P w (upd H a o) h':=λb u e=>by
 have hn:=x.fresh hp;by_cases hb:b=a
 ·subst hb;rw[aw] at e;cases e;exact new
 ·rw[ak hb] at e;exact (x b u e).W0 (λc v _ q=>k c v q) (λc q=>by rw[ak (aG q hn)];exact q) λc xs q _=>by rw[ak (aG q hn)];exact q
def Rd(H:Hp)(a:Ψ)(u:HO):Prop:=H a=some u\/∃o,H a=some (.WZ o u)
def Rd.ok(r:Rd H a u)(x:qj P w H h):ej P w H h a u:=by
 rcases r with r|⟨o,r⟩
 ·exact x a u r
 ·let⟨_,q⟩:=x a _ r;exact q
def Sr:Δ HO->Prop
 | some (.lst _)=>True
 | some (.dK _)=>True
 | some (.dT _)=>True
 | some (.set _ _)=>True
 | some (.ins _ _ _)=>True
 | some (.ext _)=>True
 | _=>False
def qj.write(ok:qj P w H h)(mu:Sr (H x))(he:e=x\/H e=some (.own x))(k:∀b u,b≠e->h.get? b=some u->h'.get? b=some u)(heo:∃u,h'.get? e=some u)
  (new:ej P w (upd H x o') h' x o'):qj P w (upd H x o') h':=λb u q=>by
 have abz:∀c y,H c=some (.own y)->c≠x:=λc y r z=>by subst z;rw[r] at mu;exact mu
 have adI:∀c u,H c=some u->Vy u->c≠x:=λc u r hr z=>by subst z;rw[r] at mu;cases u<;>first|exact mu|exact hr
 by_cases hb:b=x
 ·subst hb;rw[aw] at q;cases q;exact new
 ·rw[ak hb] at q;by_cases hbe:b=e
  ·have q':H b=some (.own x):=by
    rcases he with z|z
    ·exact absurd (hbe.trans z) hb
    ·rw[hbe];exact z
   rw[q] at q';cases q';let⟨v,hv⟩:=heo;exact⟨v,by rw[hbe];exact hv⟩
  ·refine (ok b u q).W0 (λc v hc r=>k c v ?_ r) (λc r=>by rw[ak (abz c b r)];exact r) λc xs r hr=>by rw[ak (adI c xs r hr)];exact r
   rcases hc with rfl|hc
   ·exact hbe
   ·rintro rfl;rcases he with z|z
    ·exact abz c b hc z
    ·rw[hc] at z;cases z;exact hb rfl
def TQ:HO->Prop
 | .tab _=>True
 | .YL _=>True
 | _=>False
def TQ.ZD(h:TQ u):¬ Sr (some u):=by cases u<;>first|exactλz=>z|exact h.elim
structure Nu(H H':Hp)(h h':Heap):Prop where
 st:∀b u,H b=some u->TQ u->H' b=some u
 gr:∀b q ps,H b=some (.tab q)->h.get? b=some { cls:=.none,data:=.fields ps }->∃more:Array Θ,h'.get? b=some { cls:=.none,data:=.fields (ps++more) }
def Nu.kept(k:∀b u,(∃q,H b=some (.tab q))->h.get? b=some u->h'.get? b=some u)(st:∀b u,H b=some u->TQ u->H' b=some u):Nu H H' h h' :=
 ⟨st,λb q ps e z=>⟨#[],by rw[Array.append_empty];exact k b _ ⟨q,e⟩ z⟩⟩
def Nu.trans(a:Nu H H1 h h1)(b:Nu H1 H2 h1 h2):Nu H H2 h h2 :=
 ⟨λc u q t=>b.st c u (a.st c u q t) t,λc q ps e z=>by
  let⟨m1,z1⟩:=a.gr c q ps e z;let⟨m2,z2⟩:=b.gr c q _ (a.st c _ e trivial) z1;exact⟨m1++m2,by rw[z2,Array.append_assoc]⟩⟩
structure Un(fs ex:List Addr)(H H':Hp)(h h':Heap):Prop where
 keep:∀b o,h.get? b=some o->H b=none->b∉fs->b∉ex->h'.get? b=some o
 slot:∀b o,h.get? b=some o->H b=none->b∈fs->b∉ex->∃sl,h'.get? b=some { o with slots:=sl }
 free:∀b o,h.get? b=some o->H b=none->b∉ex->H' b=none
 there:∀b o,h.get? b=some o->b∉ex->∃o',h'.get? b=some o'
 XJ:∀b xs,H b=some (.tup xs)->H' b=some (.tup xs)
 Xu:∀b o u,H b=some (.WZ o u)->H' b=some (.WZ o u)
 Xm:Nu H H' h h'
def Un.any(u:Un fs ex H H1 h h1)(q:h.get? b=some ob)(n:H b=none)(hx:b∉ex):∃sl,h1.get? b=some { ob with slots:=sl }:=by
 by_cases hb:b∈fs
 ·exact u.slot b ob q n hb hx
 ·exact⟨ob.slots,u.keep b ob q n hb hx⟩
def Un.kept(k:∀b u,h.get? b=some u->h'.get? b=some u):Un fs ex H H h h' :=
 ⟨λb ob q _ _ _=>k b ob q,λb ob q _ _ _=>⟨ob.slots,k b ob q⟩,λ_ _ _ n _=>n,λb ob q _=>⟨ob,k b ob q⟩,λ_ _ q=>q,λ_ _ _ q=>q,.kept (λb u _ e=>k b u e) λ_ _ e _=>e⟩
def Un.refl:Un fs ex H H h h:=Un.kept λ_ _ q=>q
def Un.laid(k:∀b u,h.get? b=some u->h'.get? b=some u)(hp:h.objs.size<=a)(hn:H a=none):Un fs ex H (upd H a o) h h' where
 keep:=λb u q _ _ _=>k b u q
 slot:=λb u q _ _ _=>⟨u.slots,k b u q⟩
 free:=λb u q n _=>by rw[ak (yS (zP (zY q) hp))];exact n
 there:=λb u q _=>⟨u,k b u q⟩
 XJ:=λb xs q=>by rw[ak (aG q hn)];exact q
 Xu:=λb u xs q=>by rw[ak (aG q hn)];exact q
 Xm:=.kept (λb u _ e=>k b u e) λb u q _=>by rw[ak (aG q hn)];exact q
def Un.write(mu:Sr (H x))(he:e=x\/H e=some (.own x))(k:∀b u,b≠e->h.get? b=some u->h'.get? b=some u)(heo:∃u,h'.get? e=some u):Un fs ex H (upd H x o) h h':=by
 have hx:∀b,H b=none->b≠x:=λb n z=>by subst z;rw[n] at mu;exact mu
 have hb:∀b,H b=none->b≠e:=λb n z=>by
  subst z;rcases he with r|r
  ·exact hx b n r
  ·rw[n] at r;cases r
 have hm:∀b u,H b=some u->¬ Sr (some u)->b≠x:=λb u q nm z=>by subst z;rw[q] at mu;exact nm mu
 refine⟨λb u q n _ _=>k b u (hb b n) q,λb u q n _ _=>⟨u.slots,k b u (hb b n) q⟩,λb u q n _=>by rw[ak (hx b n)];exact n,λb u q _=>?_,
  λb xs q=>by rw[ak (hm b _ q λz=>z)];exact q,λb u xs q=>by rw[ak (hm b _ q λz=>z)];exact q,.kept (λb u z e=>k b u (λr=>by subst r;rcases he with r|r<;>first|(subst r;rcases z with ⟨q,z⟩;rw[z] at mu;exact mu)|(rcases z with ⟨q,z⟩;rw[z] at r;cases r)) e) λb u q nm=>by rw[ak (hm b _ q (nm.ZD))];exact q⟩
 by_cases hbe:b=e
 ·subst hbe;exact heo
 ·exact⟨u,k b u hbe q⟩
def TR(h:ι)(H:Hp):Γ Ψ:=(List.range h.objs.size).filter λa=>(H a).isSome
def ya(h:ι)(H:Hp):ι:=W.hideAll h (TR h H)
def ER(h:ι)(H:Hp):(ya h H).objs.size=h.objs.size:=W.hideAll_size _ _
def Iz(e:h.get? b=some o)(n:H b=none):(ya h H).get? b=some o :=
 W.hideAll_get _ e λhm=>by
  have q:(H b).isSome=true:=(List.mem_filter.mp hm).2;rw[n] at q;simp at q
def MZ(e:(ya h H).get? b=some o):h.get? b=some o/\H b=none:=by
 have e':h.get? b=some o:=W.of_hideAll (TR h H) e;refine⟨e',?_⟩;cases q:H b with
 | none=>rfl
 | some x =>
  have hm:b∈TR h H:=List.mem_filter.mpr ⟨List.mem_range.mpr (zY e'),by simp[q]⟩;have z:(ya h H).get? b=none:=W.hideAll_none (TR h H) hm;rw[z] at e;cases e
def TN(mg:Str->Δ Θ)(base:ι):Prop:=∃bm o,mg "__builtins__"=some (.ref bm)/\bm≠builtinsNs/\bm≠mainGlobals/\base.get? bm=some o/\o.cls=.type "module"/\o.dict=some builtinsNs/\o.data=.plain
structure Mod(K:W.Frag)(mg:Str->Option Value)(base:Heap):Prop where
 Z6:K.In base
 glob:base.Ns mainGlobals mg
 blt:∃mb,base.Ns builtinsNs mb/\∀x:Str,x≠"__name__"->mb x=bootBuiltins x
 nolimit:base.NoLimit
 bmd:TN mg base
structure Cx where
 prog:ε
 w:δ
 K:Φ
 mg:Str->Δ Θ
 base:ι
 A:ξ
 N:Γ Str
 WI:Ξ
 H₀:Hp
 env:Env
 outer:Γ Env
 stack:Γ Env
 ex:Γ Ψ
 fn:Str->θ
 calm:θ
 pn:Γ (Ψ×Obj)
 xe:Θ->Ξ->Prop
def Hf(l:Γ Env):Γ Ψ:=l.filterMap (·.frame)
abbrev Cx.fs(X:Cx):Γ Ψ:=Hf X.outer
def rP(sc:ζ)(x:Str):Prop:=sc.names.lookup x=some .local \/ sc.names.lookup x=some .cell\/sc.names.lookup x=some .free
def Loc(sc:ζ)(x:Str):Prop:=sc.names.lookup x=some .local \/ sc.names.lookup x=some .cell
def Look(env:Env)(h:ι)(m:Str->Δ Θ)(x:Str)(u:Θ):Prop :=
 (env.kindOf x=some .local /\ m x=some u)\/((env.kindOf x=some .cell\/env.kindOf x=some .free)/\∃c,env.cells.lookup x=some c/\h.IsCell c (some u))
structure Cx.Ok(X:Cx):Prop where
 mod:Mod X.K X.mg X.base
 kind:X.env.scope.kind=.function
 glob:X.env.globals=mainGlobals
 blt:X.env.builtins=builtinsNs
 above:X.WI.heap.objs.size<=X.env.locals
 inj:∀x y c,X.env.cells.lookup x=some c->X.env.cells.lookup y=some c->x=y
 has:∀x,(X.env.kindOf x=some .cell\/X.env.kindOf x=some .free)->∃c,X.env.cells.lookup x=some c
 cab:∀x c,X.fn x=true->X.env.cells.lookup x=some c->X.WI.heap.objs.size<=c
 hd:X.calm=true->X.A.handled=none
 frames:X.A.frames=some X.stack
 stk:X.stack=X.outer\/(X.stack=X.env::X.outer/\X.env.frame=some X.env.locals)
 exf:∀b∈X.ex,b≠X.env.locals/\∀x c,X.env.cells.lookup x=some c->c≠b
 bs:∀b o,X.base.get? b=some o->X.WI.heap.get? b=some o/\X.H₀ b=none
 ZE:X.base.objs.size<=X.WI.heap.objs.size
 YM:∀b o,X.base.get? b=some o->b∉X.ex
 Y2:∀b∈X.ex,b∉X.fs
 Xf:X.WI.heap.FunFrames X.base X.outer
 frf:∀b∈X.fs,X.H₀ b=none
structure Inv(X:Cx)(pins:List (Addr×Obj))(σ:List (Option V))(H:Hp)(s:Shared):Prop where
 ok:X.Ok
 os:s.os=X.WI.os
 bare:AllBare s.gens
 base:Un X.fs X.ex X.H₀ H X.WI.heap s.heap
 loc:∃m,s.heap.Ns X.env.locals m/\∀ (i:Nat) (x:Str) (v:V),X.N[i]?=some x->σ[i]?=some (some v)->rP X.env.scope x->∃u,RelV v u/\Look X.env s.heap m x u
 cell:∀x c,X.env.cells.lookup x=some c->∃v,s.heap.IsCell c v
 free:H X.env.locals=none
 WO:∀x c,X.env.cells.lookup x=some c->H c=none
 pin:∀p∈X.pn++pins,s.heap.get? p.1=some p.2/\H p.1=none/\p.1≠X.env.locals/\p.1∉X.fs/\∀v,p.2.data≠.cell v
 Wn:qj X.prog X.w H s.heap
 len:σ.length=X.N.length
def Cx.Ok.adJ{X:Cx}(ok:X.Ok)(e:X.base.get? b=some o):b∉X.fs:=λhb=>by
 have:=(ok.Xf.mem hb).1;rw[e] at this;cases this
def Inv.bs{X:Cx}{s:Ξ}(I:Inv X pins σ H s):∀b o,X.base.get? b=some o->s.heap.get? b=some o/\H b=none:=λb o e =>
 ⟨I.base.keep b o (I.ok.bs b o e).1 (I.ok.bs b o e).2 (I.ok.adJ e) (I.ok.YM b o e),I.base.free b o (I.ok.bs b o e).1 (I.ok.bs b o e).2 (I.ok.YM b o e)⟩
def Inv.bk(I:Inv X pins σ H s):∀b o,X.base.get? b=some o->s.heap.get? b=some o:=λb o e=>(I.bs b o e).1
def Inv.mod(I:Inv X pins σ H s):Mod X.K X.mg X.base:=I.ok.mod
def Inv.XC(I:Inv X pins σ H s):X.K.In s.heap:=I.ok.mod.Z6.keeps I.bk
def Inv.nolimit(I:Inv X pins σ H s):s.heap.NoLimit:=I.ok.mod.nolimit.keeps I.bk
def Inv.lt(I:Inv X pins σ H s):X.env.locals < s.heap.objs.size:=let ⟨_,hn,_⟩:=I.loc;hn.lt
def Inv.sz(I:Inv X pins σ H s):X.WI.heap.objs.size<=s.heap.objs.size:=yD I.ok.above (jT I.lt)
def Inv.adK(I:Inv X pins σ H s)(h:s.heap.objs.size<=a):a∉X.fs:=λhb=>by
 let⟨_,o,ho,_⟩:=I.ok.Xf.mem hb;exact absurd (zP (zY ho) (yD I.sz h)) (qF _)
def Inv.cne(I:Inv X pins σ H s):∀x c,X.env.cells.lookup x=some c->c≠X.env.locals:=λx c e z=>by
 let⟨v,o,ho,hd⟩:=I.cell x c e;let⟨m,⟨o',es,ep,XD,Yi,_⟩,_⟩:=I.loc;rw[z,XD] at ho;cases ho;rw[Yi] at hd;cases hd
def Inv.Xf(I:Inv X pins σ H s):s.heap.FunFrames X.base X.outer:=by
 have all:∀ (l:Γ Env),(∀b∈Hf l,b∈X.fs)->X.WI.heap.FunFrames X.base l->s.heap.FunFrames X.base l:=by
  intro l
  induction l with
  | nil=>intro _ _;trivial
  | cons env r ih =>
   intro hs hl;let⟨hk,⟨L,o,hf,hn,ho,hd⟩,hr⟩:=hl;have hL:L∈X.fs:=hs L (by unfold Hf;rw[jH,hf];exact zE);let⟨sl,e⟩:=I.base.slot L o ho (I.ok.frf L hL) hL λz=>I.ok.Y2 L z hL;exact⟨hk,⟨L,_,hf,hn,e,hd⟩,ih (λb hb=>hs b (by unfold Hf;rw[jH,hf];exact zC _ hb)) hr⟩
 exact all X.outer (λ_ hb=>hb) I.ok.Xf
def Inv.stack(I:Inv X pins σ H s):s.heap.FunFrames X.base X.stack:=by
 rcases I.ok.stk with e|⟨e,hf⟩
 ·rw[e];exact I.Xf
 ·rw[e];let⟨m,hn,_⟩:=I.loc;refine .cons (by rw[I.ok.kind];decide) hf hn ?_ I.Xf;exact Heap.get?_none_of_le (yD I.ok.ZE I.ok.above)
def Inv.Yj(I:Inv X pins σ H s):∀b∈Hf X.stack,b∈X.env.locals::X.fs:=λb hb=>by
 rcases I.ok.stk with e|⟨e,hf⟩
 ·rw[e] at hb;exact zC _ hb
 ·rw[e] at hb;unfold Hf at hb;rw[jH,hf] at hb;exact hb
def Inv.XM(I:Inv X pins σ H s):∀b∈Hf X.stack,H b=none:=λb hb=>by
 rcases List.mem_cons.mp (I.Yj b hb) with e|hb
 ·rw[e];exact I.free
 ·let⟨_,o,ho,_⟩:=I.ok.Xf.mem hb;exact I.base.free b o ho (I.ok.frf b hb) λz=>I.ok.Y2 b z hb
def Inv.step{g':Array GenState}{t':Nat}{d':Drawn}{ch:Γ Ψ}(I:Inv X pins σ H s)
  (XW:∀b∈ch,(b∈X.ex\/X.WI.heap.objs.size<=b)/\b≠X.env.locals/\(∀x c,X.env.cells.lookup x=some c->c≠b)/\∀p∈X.pn++pins,p.1≠b)
  (keep:∀b o,b≠X.env.locals->b∉X.fs->b∉ch->s.heap.get? b=some o->H b=none->h'.get? b=some o)
  (slot:∀b o,b≠X.env.locals->b∈X.fs->b∉ch->s.heap.get? b=some o->H b=none->∃sl,h'.get? b=some { o with slots:=sl }) (free:∀b o,b∉ch->s.heap.get? b=some o->H b=none->H' b=none)
  (there:∀b o,b∉ch->s.heap.get? b=some o->∃o',h'.get? b=some o')
  (XJ:∀b xs,H b=some (.tup xs)->H' b=some (.tup xs)) (Xu:∀b o u,H b=some (.WZ o u)->H' b=some (.WZ o u)) (Xm:Nu H H' s.heap h')
  (ns:∀m,s.heap.Ns X.env.locals m->h'.Ns X.env.locals m) (Wn:qj X.prog X.w H' h') (hg:AllBare g') :
  Inv X pins σ H' { s with heap:=h',gens:=g',drawn:=d',toks:=t' }:=by
 have neL:∀b o,X.WI.heap.get? b=some o->b≠X.env.locals:=λb o e=>yS (zP (zY e) I.ok.above);have neC:∀b o,X.WI.heap.get? b=some o->b∉X.ex->b∉ch:=λb o e hx hb=>by
  rcases (XW b hb).1 with z|z
  ·exact hx z
  ·exact absurd (zP (zY e) z) (qF _)
 have cellK:∀x c,X.env.cells.lookup x=some c->∀v,s.heap.IsCell c v->h'.IsCell c v:=λx c e v z=>by
  let⟨o,ho,hd⟩:=z;have YN:c∉ch:=λz=>(XW c z).2.2.1 x c e rfl;by_cases hc:c∈X.fs
  ·let⟨sl,q⟩:=slot c o (I.cne x c e) hc YN ho (I.WO x c e);exact⟨_,q,hd⟩
  ·exact⟨o,keep c o (I.cne x c e) hc YN ho (I.WO x c e),hd⟩
 refine⟨I.ok,I.os,hg,⟨λb o e n hb hx=>?_,λb o e n hb hx=>?_,λb o e n hx=>?_,λb o e hx=>?_,λb xs e=>XJ b xs (I.base.XJ b xs e),λb o xs e=>Xu b o xs (I.base.Xu b o xs e),I.base.Xm.trans Xm⟩,?_,λx c e=>?_,?_,λx c e=>?_,λp hp=>?_,Wn,I.len⟩
 ·exact keep b o (neL b o e) hb (neC b o e hx) (I.base.keep b o e n hb hx) (I.base.free b o e n hx)
 ·let⟨sl,e1⟩:=I.base.slot b o e n hb hx;let⟨sl',e2⟩:=slot b _ (neL b o e) hb (neC b o e hx) e1 (I.base.free b o e n hx);exact⟨sl',e2⟩
 ·let⟨o',e1⟩:=I.base.there b o e hx;exact free b o' (neC b o e hx) e1 (I.base.free b o e n hx)
 ·let⟨o',e1⟩:=I.base.there b o e hx;exact there b o' (neC b o e hx) e1
 ·let⟨m,hn,hl⟩:=I.loc;refine⟨m,ns m hn,λi x v e1 e2 e3=>?_⟩;let⟨u,r,l⟩:=hl i x v e1 e2 e3;refine⟨u,r,?_⟩;rcases l with l|⟨k,c,e,z⟩
  ·exact .inl l
  ·exact .inr ⟨k,c,e,cellK x c e _ z⟩
 ·let⟨v,z⟩:=I.cell x c e;exact⟨v,cellK x c e v z⟩
 ·let⟨m,⟨o,_,_,ho,_⟩,_⟩:=I.loc;exact free _ o (λz=>(XW _ z).2.1 rfl) ho I.free
 ·let⟨v,o,ho,hd⟩:=I.cell x c e;exact free c o (λz=>(XW c z).2.2.1 x c e rfl) ho (I.WO x c e)
 ·let⟨e,n,ne,nf,d⟩:=I.pin p hp;have YN:p.1∉ch:=λz=>(XW p.1 z).2.2.2 p hp rfl;exact⟨keep p.1 p.2 ne nf YN e n,free p.1 p.2 YN e n,ne,nf,d⟩
def Inv.un{t':Nat}(I:Inv X pins σ H s)(u:Un X.fs [] H H' s.heap h')(Wn:qj X.prog X.w H' h'):Inv X pins σ H' { s with heap:=h',toks:=t' }:=by
 let⟨m,⟨o,es,ep,ho,r⟩,_⟩:=id I.loc;let⟨sl,hL⟩:=u.any ho I.free (by simp);exact I.step (g':=s.gens) (d':=s.drawn) (ch:=[]) (λ_ z=>nomatch z) (λb o _ hb _ e n=>u.keep b o e n hb (by simp)) (λb o _ hb _ e n=>u.slot b o e n hb (by simp)) (λb o _ e n=>u.free b o e n (by simp)) (λb o _ e=>u.there b o e (by simp)) u.XJ u.Xu u.Xm (λm' hm=>by
  let⟨o',es',ep',XD,r'⟩:=hm;rw[ho] at XD;cases XD;exact⟨_,es',ep',hL,r'⟩) Wn I.bare
def Inv.call{t':Nat}{d':Drawn}{ch:Γ Ψ}(I:Inv X pins σ H s)(u:Un (Hf X.stack) ch H H' s.heap h')(Wn:qj X.prog X.w H' h')(hg:AllBare g')
  (XW:∀b∈ch,(b∈X.ex\/X.WI.heap.objs.size<=b)/\b≠X.env.locals/\(∀x c,X.env.cells.lookup x=some c->c≠b)/\∀p∈X.pn++pins,p.1≠b) :
  Inv X pins σ H' { s with heap:=h',gens:=g',drawn:=d',toks:=t' }:=by
 let⟨m,⟨o,es,ep,ho,r⟩,_⟩:=id I.loc;let⟨sl,hL⟩:=u.any ho I.free λz=>(XW _ z).2.1 rfl;exact I.step (ch:=ch) XW (λb o hL hb hc e n=>u.keep b o e n (λz=>(List.mem_cons.mp (I.Yj b z)).elim hL hb) hc) (λb o _ _ hc e n=>u.any e n hc) (λb o hc e n=>u.free b o e n hc) (λb o hc e=>u.there b o e hc) u.XJ u.Xu u.Xm (λm' hm=>by
  let⟨o',es',ep',XD,r'⟩:=hm;rw[ho] at XD;cases XD;exact⟨_,es',ep',hL,r'⟩) Wn hg
def Inv.turned{t':Nat}(I:Inv X pins σ H s)(k:∀b o,b≠it->s.heap.get? b=some o->h'.get? b=some o)(hn:H it=none)(hL:it≠X.env.locals)
  (h1:it∈X.ex\/X.WI.heap.objs.size<=it) (h2:∀x c,X.env.cells.lookup x=some c->c≠it) (h3:∀p∈X.pn++pins,p.1≠it):Inv X pins σ H { s with heap:=h',toks:=t' }:=by
 have nit:∀b u,H b=some u->b≠it:=λb u e z=>by rw[z,hn] at e;cases e
 refine I.step (g':=s.gens) (d':=s.drawn) (ch:=[it]) (λb hb=>?_) (λb o _ _ hc e _=>k b o (λz=>hc (by simp[z])) e) (λb o _ _ hc e _=>⟨o.slots,k b o (λz=>hc (by simp[z])) e⟩) (λ_ _ _ _ n=>n)
  (λb o hc e=>⟨o,k b o (λz=>hc (by simp[z])) e⟩) (λ_ _ e=>e) (λ_ _ _ e=>e) (.kept (λb u z e=>k b u (λr=>by subst r;rcases z with ⟨q,z⟩;rw[hn] at z;cases z) e) λ_ _ e _=>e) (λm hm=>?_) (λb u e=>?_) I.bare
 ·have e:b=it:=by simpa using hb
  subst e;exact⟨h1,hL,h2,h3⟩
 ·let⟨o,es,ep,ho,r⟩:=hm;exact⟨o,es,ep,k _ o (jN hL) ho,r⟩
 ·refine (I.Wn b u e).W0 (λc v hc q=>k c v ?_ q) (λ_ q=>q) λ_ _ q _=>q;rcases hc with z|z
  ·rw[z];exact nit b u e
  ·exact nit c _ z
def Inv.tok(I:Inv X pins σ H s)(t:Nat):Inv X pins σ H { s with toks:=t }:=I.un (h':=s.heap) (t':=t) Un.refl I.Wn
def Inv.kept{t':Nat}(I:Inv X pins σ H s)(k:∀b u,s.heap.get? b=some u->h'.get? b=some u):Inv X pins σ H { s with heap:=h',toks:=t' }:=I.un (Un.kept k) (I.Wn.kept k)
def Inv.laid{t':Nat}(I:Inv X pins σ H s)(k:∀b u,s.heap.get? b=some u->h'.get? b=some u)(hp:s.heap.objs.size<=a)(new:ej X.prog X.w (upd H a o) h' a o) :
  Inv X pins σ (upd H a o) { s with heap:=h',toks:=t' }:=I.un (Un.laid k hp (I.Wn.fresh hp)) (I.Wn.laid k hp new)
def Inv.write{t':Nat}(I:Inv X pins σ H s)(mu:Sr (H x))(he:e=x\/H e=some (.own x))(k:∀b u,b≠e->s.heap.get? b=some u->h'.get? b=some u)(heo:∃u,h'.get? e=some u)
  (new:ej X.prog X.w (upd H x o) h' x o):Inv X pins σ (upd H x o) { s with heap:=h',toks:=t' }:=I.un (Un.write mu he k heo) (I.Wn.write mu he k heo new)
def Inv.YA(I:Inv X pins σ H s)(h:∀p∈abB,s.heap.get? p.1=some p.2/\H p.1=none/\p.1≠X.env.locals/\p.1∉X.fs/\∀v,p.2.data≠.cell v):Inv X abB σ H s :=
 ⟨I.ok,I.os,I.bare,I.base,I.loc,I.cell,I.free,I.WO,λp hp=>(List.mem_append.mp hp).elim (λz=>I.pin p (qK _ z)) (h p),I.Wn,I.len⟩
def zx{N:Γ Str}(hN:N.Nodup){i j:Nat}(a:N[i]?=some x)(b:N[j]?=some x):i=j:=by
 let⟨h1,e1⟩:=List.getElem?_eq_some_iff.mp a;let⟨h2,e2⟩:=List.getElem?_eq_some_iff.mp b;exact (List.getElem_inj hN).mp (e1.trans e2.symm)
def vg{M:Model}{A:ξ}{E:Θ->Ξ->Prop}{i:Nat}{Q:Unit->Ξ->Prop}(I:Inv X pins σ H s)(hN:X.N.Nodup)(hi:X.N[i]?=some x)(hx:Loc X.env.scope x)(r:RelV v u)
  (h:∀s',Inv X pins (σ.set i (some v)) H s'->(∃a,Heap.SameBut a s.heap s'.heap/\(a=X.env.locals\/X.env.cells.lookup x=some a))->Q () s') (hf:X.fn x=true\/X.env.scope.names.lookup x=some .local:=by first|exact .inl rfl|exact .inr rfl|assumption):wpAny M A (storeName X.env x u) Q E s:=by
 let⟨m,hn,hl⟩:=id I.loc;have adM:(X.env.scope.kind == .class||(X.env.scope.kind == .module&&X.env.locals != X.env.globals))=false:=by rw[I.ok.kind];rfl
 have abC:i < σ.length:=by rw[I.len];exact (List.getElem?_eq_some_iff.mp hi).1
 have cne:=I.cne;have tracked:∀ {a:Ψ}{h':ι},(∃o,s.heap.get? a=some o/\H a=none)->Heap.SameBut a s.heap h'->qj X.prog X.w H h':=λ{a h'} ha hs b ob e=>by
  let⟨_,_,W6⟩:=ha;refine (I.Wn b ob e).W0 (λc w' hc q=>(hs.2 c ?_).trans q) (λ_ q=>q) λ_ _ q _=>q;rintro rfl;rcases hc with rfl|hc
  ·rw[W6] at e;cases e
  ·rw[W6] at hc;cases hc
 rcases hx with hk|hk
 ·refine wpAny_storeName_local hk hn (λh' hn' hs=>?_) adM;let⟨oL,_,_,hoL,_⟩:=id hn;refine h _ ⟨I.ok,I.os,I.bare,⟨λb o e n hb hx=>?_,λb o e n hb hx=>?_,I.base.free,λb o e hx=>?_,I.base.XJ,I.base.Xu,I.base.Xm.trans (.kept (λb u z e=>(hs.2 b (λr=>by rcases z with ⟨q,z⟩;rw[r,I.free] at z;cases z)).trans e) λ_ _ e _=>e)⟩,⟨_,hn',λj y v' e1 e2 e3=>?_⟩,λy c e=>?_,I.free,I.WO,λp hp=>?_,tracked ⟨oL,hoL,I.free⟩ hs,by simpa using I.len⟩ ⟨_,hs,.inl rfl⟩
  ·exact (hs.2 b (yS (zP (zY e) I.ok.above))).trans (I.base.keep b o e n hb hx)
  ·let⟨sl,e1⟩:=I.base.slot b o e n hb hx;exact⟨sl,(hs.2 b (yS (zP (zY e) I.ok.above))).trans e1⟩
  ·let⟨o',e1⟩:=I.base.there b o e hx;exact⟨o',(hs.2 b (yS (zP (zY e) I.ok.above))).trans e1⟩
  ·by_cases hj:j=i
   ·subst hj;rw[hi] at e1;cases e1;rw[vN abC] at e2;cases e2;exact⟨u,r,.inl ⟨hk,by simp⟩⟩
   ·rw[kU (jN hj)] at e2;let⟨u',r',q⟩:=hl j y v' e1 e2 e3;refine⟨u',r',?_⟩;rcases q with ⟨k,e⟩|⟨k,c,e,z⟩
    ·refine .inl ⟨k,?_⟩;have:y≠x:=λe=>hj (zx hN e1 (e ▸ hi));simp[this,e]
    ·exact .inr ⟨k,c,e,z.sameBut hs (cne y c e)⟩
  ·let⟨w',z⟩:=I.cell y c e;exact⟨w',z.sameBut hs (cne y c e)⟩
  ·let⟨e,n,ne,nf,d⟩:=I.pin p hp;exact⟨(hs.2 p.1 ne).trans e,n,ne,nf,d⟩
 ·have Y3:X.fn x=true:=by
   rcases hf with z|z
   ·exact z
   ·rw[z] at hk;cases hk
  let⟨c,hc⟩:=I.ok.has x (.inl hk);let⟨w',z⟩:=I.cell x c hc;refine wpAny_storeName_cell I.ok.kind hk hc z (λh' Xv hs=>?_);let⟨oc,hoc,adO⟩:=id z;refine h { s with heap:=h' } ⟨I.ok,I.os,I.bare,⟨λb o e n hb hx=>?_,λb o e n hb hx=>?_,I.base.free,λb o e hx=>?_,I.base.XJ,I.base.Xu,I.base.Xm.trans (.kept (λb u z e=>(hs.2 b (λr=>by rcases z with ⟨q,z⟩;rw[r,I.WO x c hc] at z;cases z)).trans e) λ_ _ e _=>e)⟩,⟨m,hn.sameBut hs (jN (cne x c hc)),λj y v' e1 e2 e3=>?_⟩,λy c' e=>?_,I.free,I.WO,λp hp=>?_,tracked ⟨oc,hoc,I.WO x c hc⟩ hs,by simpa using I.len⟩ ⟨c,hs,.inr hc⟩
  ·exact (hs.2 b (yS (zP (zY e) (I.ok.cab x c Y3 hc)))).trans (I.base.keep b o e n hb hx)
  ·let⟨sl,e1⟩:=I.base.slot b o e n hb hx;exact⟨sl,(hs.2 b (yS (zP (zY e) (I.ok.cab x c Y3 hc)))).trans e1⟩
  ·let⟨o',e1⟩:=I.base.there b o e hx;exact⟨o',(hs.2 b (yS (zP (zY e) (I.ok.cab x c Y3 hc)))).trans e1⟩
  ·by_cases hj:j=i
   ·subst hj;rw[hi] at e1;cases e1;rw[vN abC] at e2;cases e2;exact⟨u,r,.inr ⟨.inl hk,c,hc,Xv⟩⟩
   ·rw[kU (jN hj)] at e2;let⟨u',r',q⟩:=hl j y v' e1 e2 e3;refine⟨u',r',?_⟩;rcases q with q|⟨k,c',e,z'⟩
    ·exact .inl q
    ·refine .inr ⟨k,c',e,z'.sameBut hs ?_⟩;rintro rfl;exact hj (zx hN e1 (I.ok.inj _ _ _ e hc ▸ hi))
  ·by_cases hcc:c'=c
   ·subst hcc;exact⟨_,Xv⟩
   ·let⟨w2,z2⟩:=I.cell y c' e;exact⟨w2,z2.sameBut hs hcc⟩
  ·let⟨e,n,ne,nf,d⟩:=I.pin p hp;refine⟨(hs.2 p.1 ?_).trans e,n,ne,nf,d⟩;intro q;rw[q,hoc] at e;have q':oc=p.2:=xE e;exact d w' (by rw[<- q'];exact adO)
def AK{M:Model}{A:ξ}{E:Θ->Ξ->Prop}(I:Inv X pins σ H s)(hN:X.N.Nodup)(hi:X.N[i]?=some x)(hx:Loc X.env.scope x)(r:RelV v u)
  (h:∀s',Inv X pins (σ.set i (some v)) H s'->Q () s') (hf:X.fn x=true\/X.env.scope.names.lookup x=some .local:=by first|exact .inl rfl|exact .inr rfl|assumption):wpAny M A (storeName X.env x u) Q E s :=
 vg I hN hi hx r (λs' I' _=>h s' I') hf
def Inv.Z7{ch:Γ Ψ}(I:Inv X pins σ H s)(ho:s'.os=s.os)(u:Un (Hf X.stack) ch H H' s.heap s'.heap)(Wn:qj X.prog X.w H' s'.heap)(hg:AllBare s'.gens)
  (XW:∀b∈ch,(b∈X.ex\/X.WI.heap.objs.size<=b)/\b≠X.env.locals/\(∀x c,X.env.cells.lookup x=some c->c≠b)/\∀p∈X.pn++pins,p.1≠b):Inv X pins σ H' s':=by
 let⟨h',g',d',t',o'⟩:=s';have e:o'=s.os:=ho;subst e;exact I.call (g':=g') (t':=t') (d':=d') u Wn hg XW
abbrev XK:=Θ->Δ Ψ->Hp->Prop
abbrev St:=Γ (Δ V)
abbrev VK:=V->Hp->Prop
abbrev TE:=St->Hp->VK->Prop
abbrev TT:=St->Hp->(θ->Hp->Prop)->Prop
abbrev TA:=St->Hp->(Γ V->Hp->Prop)->Prop
structure Ends where
 nx:St->Hp->Prop
 rt:VK
 bk:St->Hp->Prop:=λ_ _=>False
 ct:St->Hp->Prop:=λ_ _=>False
abbrev TS:=Ends->St->Hp->Prop
def EP(X:Cx)(pins:Γ (Ψ×Obj))(σ:St)(Q:VK)(u:Θ)(s':Ξ):Prop:=∃v H',Inv X pins σ H' s'/\RelV v u/\Q v H'
def TP(X:Cx)(pins:Γ (Ψ×Obj))(σ:St)(Q:θ->Hp->Prop)(b:θ)(s':Ξ):Prop:=∃H',Inv X pins σ H' s'/\Q b H'
def AP(X:Cx)(pins:Γ (Ψ×Obj))(σ:St)(Q:Γ V->Hp->Prop)(us:Γ Θ)(s':Ξ):Prop:=∃vs H',Inv X pins σ H' s'/\aH vs us/\Q vs H'
def SP(X:Cx)(pins:Γ (Ψ×Obj))(D:Ends)(f:Flow)(s':Ξ):Prop :=
 match f with
 | .next=>∃σ' H',Inv X pins σ' H' s'/\D.nx σ' H'
 | .brk=>∃σ' H',Inv X pins σ' H' s'/\D.bk σ' H'
 | .cont=>∃σ' H',Inv X pins σ' H' s'/\D.ct σ' H'
 | .ret u=>∃v σ' H',Inv X pins σ' H' s'/\RelV v u/\D.rt v H'
def PE(X:Cx)(e:γ)(t:TE):Prop :=
 ∀ (pins:Γ (Ψ×Obj)) (s:Ξ) (σ:St) (H:Hp) (Q:VK),Inv X pins σ H s->t σ H Q->wpAny (model X.prog X.w) X.A (eval e X.env) (EP X pins σ Q) X.xe s
def PT(X:Cx)(e:γ)(t:TT):Prop :=
 ∀ (pins:Γ (Ψ×Obj)) (s:Ξ) (σ:St) (H:Hp) (Q:θ->Hp->Prop),Inv X pins σ H s->t σ H Q->wpAny (model X.prog X.w) X.A (isTrue e X.env (eval e X.env)) (TP X pins σ Q) X.xe s
def PW(X:Cx)(e:γ)(t:TT):Prop :=
 ∀ (whole:Sem Θ) (pins:Γ (Ψ×Obj)) (s:Ξ) (σ:St) (H:Hp) (Q:θ->Hp->Prop),Inv X pins σ H s->t σ H Q->wpAny (model X.prog X.w) X.A (isTrue e X.env whole) (TP X pins σ Q) X.xe s
def PW.pt(h:PW X e t):PT X e t:=h _
def PA(X:Cx)(es:Γ γ)(t:TA):Prop :=
 ∀ (pos:Pos) (pins:Γ (Ψ×Obj)) (s:Ξ) (σ:St) (H:Hp) (Q:Γ V->Hp->Prop),Inv X pins σ H s->t σ H Q->wpAny (model X.prog X.w) X.A (spliced (backTo pos (starEach es X.env))) (AP X pins σ Q) X.xe s
def PS(X:Cx)(st:Ω)(t:TS):Prop :=
 ∀ (pins:Γ (Ψ×Obj)) (s:Ξ) (σ:St) (H:Hp) (D:Ends),Inv X pins σ H s->t D σ H->wpAny (model X.prog X.w) X.A (exec st X.env) (SP X pins D) X.xe s
def zi(X:Cx)(st:Γ Ω)(t:TS):Prop :=
 ∀ (pins:Γ (Ψ×Obj)) (s:Ξ) (σ:St) (H:Hp) (D:Ends),Inv X pins σ H s->t D σ H->wpAny (model X.prog X.w) X.A (execs st X.env) (SP X pins D) X.xe s
def bV(h:wpAny M A t Q E s)(hQ:∀a s,Q a s->Q' a s):wpAny M A t Q' E s:=xB h hQ λ_ _ x=>x
section
def qm(i:Nat):TE:=λσ H Q=>∃v,σ[i]?=some (some v)/\Q v H
def tC(v:V):TE:=λ_ H Q=>Q v H
def bA(hN:X.N[i]?=some x)(hv:rP X.env.scope x)(hd:(x == ("__debug__":Str))=false:=by decide)(WB:(x == ("__classdict__":Str))=false:=by decide):PE X (.Name x pos) (qm i):=by
 sleep 4;let⟨v,e,h⟩:=h;let⟨m,hn,hl⟩:=I.loc;let⟨u,r,l⟩:=hl i x v hN e hv;have fin:EP X pins σ Q u s:=⟨v,H,I,r,h⟩
 rcases l with ⟨hk,hm⟩|⟨hk,c,hc,Z8⟩
 ·exact wpAny_Name (wpAny_loadName_local I.ok.kind hk hn hm fin) hd
 ·rcases hk with hk|hk
  ·exact wpAny_Name (wpAny_loadName_cell I.ok.kind hk hc Z8 fin) hd
  ·exact wpAny_Name (wpAny_loadName_free I.ok.kind hk hc Z8 fin WB) hd
def QO{i j pos}:PE X (.Constant (.int i) j pos) (tC (.int i)):=λ_ _ _ H _ I h=>wpAny_Constant_int ⟨.int i,H,I.tok _,⟨_,rfl⟩,h⟩
def SL{b j pos}:PE X (.Constant (.bool b) j pos) (tC (.bl b)):=λ_ _ _ H _ I h=>Constant_bool ⟨.bl b,H,I,rfl,h⟩
def P1{j pos}:PE X (.Constant .none j pos) (tC .Wh):=λ_ _ _ H _ I h=>Constant_none ⟨.Wh,H,I,rfl,h⟩
def Pu{x j pos}:PE X (.Constant (.str x) j pos) (tC (.str x)):=λ_ _ _ H _ I h=>Calls.Constant_str ⟨.str x,H,I.tok _,⟨_,rfl⟩,h⟩
def Gl(X:Cx)(x:Str):Prop:=X.env.kindOf x=some .globalImplicit
def zd{E:Θ->Ξ->Prop}{pos:Pos}(I:Inv X pins σ H s)(hg:Gl X x)(hm:X.mg x=some u)(h:Q u s)
  (hd:(x == ("__debug__":Str))=false:=by decide):wpAny (model X.prog X.w) X.A (eval (.Name x pos) X.env) Q E s :=
 Calls.Name_function_global I.ok.kind hg (Calls.loadGlobal_global (by rw[I.ok.glob];exact I.mod.glob.keeps I.bk) hm h) hd
def jt{E:Θ->Ξ->Prop}{pos:Pos}(I:Inv X pins σ H s)(hg:Gl X x)(hm:X.mg x=none)(hv:bootBuiltins x=some u)(h:Q u s)
  (hn:x≠"__name__":=by decide) (hd:(x == ("__debug__":Str))=false:=by decide):wpAny (model X.prog X.w) X.A (eval (.Name x pos) X.env) Q E s:=by
 let⟨mb,h1,h2⟩:=I.mod.blt;exact Calls.Name_function_global I.ok.kind hg (Calls.loadGlobal_builtin (by rw[I.ok.glob];exact I.mod.glob.keeps I.bk) hm (by rw[I.ok.blt];exact h1.keeps I.bk) ((h2 x hn).trans hv) h) hd
def LY(hg:Gl X x)(hm:X.mg x=some u)(r:RelV v u)(hd:(x == ("__debug__":Str))=false:=by decide):PE X (.Name x pos) (tC v) :=
 λ_ _ _ H _ I h=>zd I hg hm ⟨v,H,I,r,h⟩ hd
def Ly(hg:Gl X x)(hm:X.mg x=none)(hv:bootBuiltins x=some u)(r:RelV v u)(hn:x≠"__name__":=by decide)(hd:(x == ("__debug__":Str))=false:=by decide):PE X (.Name x pos) (tC v) :=
 λ_ _ _ H _ I h=>jt I hg hm hv ⟨v,H,I,r,h⟩ hn hd
def tB(t:TE):TT:=λσ H Q=>t σ H λx H1=>∃c,x=.bl c/\Q c H1
def Jw(h:PE X e t)(he:∀whole,isTrue e X.env whole=(do let v <- whole;standAt e.pos;holding [v] (truthy v)):=by intro _;rfl):PT X e (tB t):=by
 intro pins s σ H Q I hw;refine isTrue_plain (bV (h pins s σ H _ I hw) λv s1 z=>?_) (he _);sleep 30;let⟨d,rfl,q⟩:=q1;cases r1;exact xX ⟨H1,I1,q⟩
variable {rest:Γ γ}
def T5(t u:TT):TT:=λσ H Q=>t σ H λc H1=>if c=true then u σ H1 Q else Q false H1
def VE(t u:TT):TT:=λσ H Q=>t σ H λc H1=>if c=true then Q true H1 else u σ H1 Q
def U2(t:TT):TT:=λσ H Q=>t σ H λc H1=>Q (!c) H1
def LS(ha:PT X a tA):PW X (.BoolOp .And [a] pos) tA:=by
 intro wh pins s σ H Q I h;refine isTrue_and (bV (ha pins s σ H Q I h) λc s1 e=>?_);cases c with
 | true=>exact isTrue_and_nil e
 | false=>exact e
def Io(ha:PT X a tA):PW X (.BoolOp .Or [a] pos) tA:=by
 intro wh pins s σ H Q I h;refine isTrue_or (bV (ha pins s σ H Q I h) λc s1 e=>?_);cases c with
 | false=>exact isTrue_or_nil e
 | true=>exact e
def Pf(ha:PT X a tA)(hb:PW X (.BoolOp .And (b::rest) pos) tB'):PW X (.BoolOp .And (a::b::rest) pos) (T5 tA tB'):=by
 intro wh pins s σ H Q I h;refine isTrue_and (bV (ha pins s σ H _ I h) λc s1 z=>?_);let⟨H1,I1,q1⟩:=z;cases c with
 | true=>exact hb wh pins s1 σ H1 Q I1 q1
 | false=>exact⟨H1,I1,q1⟩
def Nz(ha:PT X a tA)(hb:PW X (.BoolOp .Or (b::rest) pos) tB'):PW X (.BoolOp .Or (a::b::rest) pos) (VE tA tB'):=by
 intro wh pins s σ H Q I h;refine isTrue_or (bV (ha pins s σ H _ I h) λc s1 z=>?_);let⟨H1,I1,q1⟩:=z;cases c with
 | true=>exact⟨H1,I1,q1⟩
 | false=>exact hb wh pins s1 σ H1 Q I1 q1
def Hc(ha:PT X a tA):PT X (.UnaryOp .Not a pos) (U2 tA):=by
 sleep 4;exact isTrue_not (ha pins s σ H (λc H1=>Q (!c) H1) I h)
def R0(ta tb:TE):TE:=λσ H Q=>ta σ H λx H1=>∃c,x=.bl c/\if c=true then tb σ H1 Q else Q (.bl false) H1
def US(ta tb:TE):TE:=λσ H Q=>ta σ H λx H1=>∃c,x=.bl c/\if c=true then Q (.bl true) H1 else tb σ H1 Q
def HG{op}(h:PE X a t):PE X (.BoolOp op [a] pos) t:=λpins s σ H Q I hw=>BoolOp_one (h pins s σ H Q I hw)
def Gr(ha:PE X a ta)(hb:PE X (.BoolOp .And (b::rest) pos) tb):PE X (.BoolOp .And (a::b::rest) pos) (R0 ta tb):=by
 sleep 4;refine BoolOp_and (bV (ha pins s σ H _ I h) λv s1 z=>?_);sleep 30;let⟨c,rfl,q1⟩:=q1;cases r1;refine xX ?_;cases c with
 | true=>exact hb pins s1 σ H1 Q I1 q1
 | false=>exact⟨.bl false,H1,I1,rfl,q1⟩
def NC(ha:PE X a ta)(hb:PE X (.BoolOp .Or (b::rest) pos) tb):PE X (.BoolOp .Or (a::b::rest) pos) (US ta tb):=by
 sleep 4;refine BoolOp_or (bV (ha pins s σ H _ I h) λv s1 z=>?_);sleep 30;let⟨c,rfl,q1⟩:=q1;cases r1;refine xX ?_;cases c with
 | false=>exact hb pins s1 σ H1 Q I1 q1
 | true=>exact⟨.bl true,H1,I1,rfl,q1⟩
def VX(t:TT)(ta tb:TE):TE:=λσ H Q=>t σ H λc H1=>if c=true then ta σ H1 Q else tb σ H1 Q
def Im(hc:PT X c tA)(ha:PE X a ta)(hb:PE X b tb):PE X (.IfExp c a b pos) (VX tA ta tb):=by
 sleep 4;refine wpAny_IfExp (bV (hc pins s σ H _ I h) λd s1 z=>?_);let⟨H1,I1,q1⟩:=z;cases d with
 | true=>exact ha pins s1 σ H1 Q I1 q1
 | false=>exact hb pins s1 σ H1 Q I1 q1
end
def gN(K:Φ)(H:Hp)(a:Ψ)(xs:Γ V):Prop :=
 Rd H a (.lst xs) \/
  ∃ (o:Obj) (its:Array Θ) (n:Nat),K.lookup a=some o/\o.cls=.type "list"/\o.dict=none/\o.data=.seq its n/\its.size<=sizeLine/\aH xs its.toList
def gQ(K:Φ)(H:Hp)(a:Ψ)(xs:Γ V):Prop :=
 Rd H a (.tup xs) \/
  ∃ (o:Obj) (its:Array Θ) (n:Nat),K.lookup a=some o/\o.cls=.type "tuple"/\o.dict=none/\o.data=.seq its n/\its.size<=sizeLine/\aH xs its.toList
def Vg:Θ->Δ V
 | .none=>some .Wh
 | .bool b=>some (.bl b)
 | .int i _=>some (.int i)
 | .str x _=>some (.str x)
 | .bytes b _=>some (.byt b)
 | .float b _=>some (.flt b)
 | .ref a=>some (.ref a)
 | .type n=>some (.ty n)
 | _=>none
def RelV.abs(r:RelV x u):Vg u=some x:=by
 cases x with
 | Wh=>cases r;rfl
 | bl _=>cases r;rfl
 | int _=>let⟨t,rfl⟩:=r;rfl
 | str _=>let⟨t,rfl⟩:=r;rfl
 | byt _=>let⟨t,rfl⟩:=r;rfl
 | flt _=>let⟨t,rfl⟩:=r;rfl
 | ref _=>cases r;rfl
 | ty _=>cases r;rfl
def RelV.inj(r:RelV x u)(q:RelV y u):x=y:=xE (r.abs.symm.trans q.abs)
def aH.inj(h:aH xs us):aH ys us->xs=ys:=by
 induction h generalizing ys with
 | nil=>intro h;cases h;rfl
 | cons r t ih=>intro h;cases h with|cons r' t'=>rw[r.inj r',ih t']
def gN.of{K:Φ}(h:H a=some (.lst xs)):gN K H a xs:=.inl (.inl h)
def Inv.list(I:Inv X pins σ H s)(h:gN X.K H a xs):∃its:Γ Θ,aH xs its/\PlainL s.heap a its.toArray/\xs.length<=sizeLine:=by
 rcases h with h|⟨o,its,n,hk,hc,hd,hs,hz,r⟩
 ·let⟨z,its,n,r,e⟩:=h.ok I.Wn;exact⟨its,r,⟨_,n,e,rfl,rfl,rfl⟩,z⟩
 ·refine⟨its.toList,r,⟨o,n,I.XC a o hk,hc,hd,by simpa using hs⟩,?_⟩;have e:=r.length;simp?[wD] at e;lia
def Inv.tuple(I:Inv X pins σ H s)(h:gQ X.K H a xs):∃its:Γ Θ,aH xs its/\IsTup s.heap a its.toArray/\xs.length<=sizeLine:=by
 rcases h with h|⟨o,its,n,hk,hc,_,hs,hz,r⟩
 ·let⟨z,its,r,p⟩:=h.ok I.Wn;exact⟨its,r,p.1,z⟩
 ·refine⟨its.toList,r,⟨o,I.XC a o hk,hc,n,by simpa using hs⟩,?_⟩;have e:=r.length;simp?[wD] at e;lia
def Inv.X0(I:Inv X pins σ H s)(h:gN X.K H a xs)(h':gN X.K H a ys):xs=ys:=by
 let⟨its,r,⟨o,n,e,_,_,d⟩,_⟩:=I.list h;let⟨its',r',⟨o',n',e',_,_,d'⟩,_⟩:=I.list h';rw[e] at e';cases e';rw[d] at d';injection d' with d1 _
 have:its=its':=by simpa using jD Array.toList d1
 subst this;exact r.inj r'
def Inv.XF(I:Inv X pins σ H s)(h:gQ X.K H a xs)(h':gQ X.K H a ys):xs=ys:=by
 let⟨its,r,⟨o,e,_,n,d⟩,_⟩:=I.tuple h;let⟨its',r',⟨o',e',_,n',d'⟩,_⟩:=I.tuple h';rw[e] at e';cases e';rw[d] at d';injection d' with d1 _
 have:its=its':=by simpa using jD Array.toList d1
 subst this;exact r.inj r'
abbrev Cx.Xw(X:Cx)(E:Θ->Ξ->Prop):Cx:={ X with xe:=E }
abbrev Cx.Zt(X:Cx):Cx:=X.Xw λ_ _=>False
def Cx.Ok.Xw{X:Cx}(ok:X.Ok)(E:Θ->Ξ->Prop):(X.Xw E).Ok :=
 ⟨ok.mod,ok.kind,ok.glob,ok.blt,ok.above,ok.inj,ok.has,ok.cab,ok.hd,ok.frames,ok.stk,ok.exf,ok.bs,ok.ZE,ok.YM,ok.Y2,ok.Xf,ok.frf⟩
def Cx.Ok.WT{X:Cx}{E:Θ->Ξ->Prop}(ok:(X.Xw E).Ok):X.Ok :=
 ⟨ok.mod,ok.kind,ok.glob,ok.blt,ok.above,ok.inj,ok.has,ok.cab,ok.hd,ok.frames,ok.stk,ok.exf,ok.bs,ok.ZE,ok.YM,ok.Y2,ok.Xf,ok.frf⟩
def Inv.Xw(I:Inv X pins σ H s)(E:Θ->Ξ->Prop):Inv (X.Xw E) pins σ H s:=⟨I.ok.Xw E,I.os,I.bare,I.base,I.loc,I.cell,I.free,I.WO,I.pin,I.Wn,I.len⟩
def Inv.WT(I:Inv (X.Xw E) pins σ H s):Inv X pins σ H s:=⟨I.ok.WT,I.os,I.bare,I.base,I.loc,I.cell,I.free,I.WO,I.pin,I.Wn,I.len⟩
def SP.WT{D:Ends}(h:SP (X.Xw E) pins D f s'):SP X pins D f s':=by
 cases f with
 | next=>let⟨σ',H',I,q⟩:=h;exact⟨σ',H',I.WT,q⟩
 | brk=>let⟨σ',H',I,q⟩:=h;exact⟨σ',H',I.WT,q⟩
 | cont=>let⟨σ',H',I,q⟩:=h;exact⟨σ',H',I.WT,q⟩
 | ret u=>let⟨v,σ',H',I,r,q⟩:=h;exact⟨v,σ',H',I.WT,r,q⟩
def zi.Zt{st:Γ Ω}(h:zi X.Zt st t):zi X st t:=λpins s σ H D I hw =>
 xB (h pins s σ H D (I.Xw _) hw) (λ_ _ q=>q.WT) λ_ _ z=>False.elim z
section
variable {st:Ω}{rest:Γ Ω}
def Ax:TS:=λD σ H=>D.nx σ H
def Hb(t u:TS):TS:=λD σ H=>t { D with nx:=u D } σ H
def wY:zi X [] Ax:=λ_ _ σ H _ I h=>vP ⟨σ,H,I,h⟩
def iy(h1:PS X st t)(h2:zi X rest u):zi X (st::rest) (Hb t u):=by
 sleep 36;refine wpAny_execs_cons (bV (h1 pins s σ H { D with nx:=u D } I h) λf s1 q=>?_);cases f with
 | next =>
  let⟨σ',H',I',q⟩:=q;exact h2 pins s1 σ' H' D I' q
 | ret v=>exact q
 | brk=>exact q
 | cont=>exact q
def wz(h1:PS X st t):zi X [st] t:=by
 sleep 36;refine wpAny_execs_cons (bV (h1 pins s σ H D I h) λf s1 q=>?_);cases f with
 | next=>exact vP q
 | ret v=>exact q
 | brk=>exact q
 | cont=>exact q
def KZ:PS X (.Pass pos) Ax:=λ_ _ σ H _ I h=>wpAny_Pass ⟨σ,H,I,h⟩
def Inv.quiet(I:Inv X pins σ H s):interactive X.env=false:=by simp[interactive,I.ok.kind]
def QB{x j pos pos'}:PS X (.Expr (.Constant (.str x) j pos) pos') Ax:=λ_ s σ H _ I h=>wpAny_Expr (Calls.Constant_str (show SP X _ _ .next { s with toks:=s.toks+1 } from ⟨σ,H,I.tok _,h⟩)) I.quiet
def D5(te:TE):TS:=λD σ H=>te σ H λ_ H1=>D.nx σ H1
def ji(he:PE X e te)(hs:swapsWith e none pos.line X.env=pure false:=by rfl):PS X (.Expr e pos) (D5 te):=by
 sleep 36;exact wpAny_Expr_any (bV (he pins s σ H _ I h) λv s1 z=>by let⟨x,H1,I1,r1,q1⟩:=z;exact ⟨σ,H1,I1,q1⟩) I.quiet hs
def Pz(te:TE):TS:=λD σ H=>te σ H D.rt
def BI(he:PE X e te):PS X (.Return (some e) pos) (Pz te):=by
 sleep 36;exact wpAny_Return_some (bV (he pins s σ H _ I h) λv s1 z=>by let⟨x,H1,I1,r1,q1⟩:=z;exact ⟨x,σ,H1,I1,r1,q1⟩)
def QR(c:TT)(t u:TS):TS:=λD σ H=>c σ H λb H1=>if b=true then t D σ H1 else u D σ H1
def EH(hc:PT X c tc)(ha:zi X a t)(hb:zi X b u):PS X (.If c a b pos) (QR tc t u):=by
 sleep 36;refine wpAny_If (bV (hc pins s σ H _ I h) λd s1 z=>?_);let⟨H1,I1,q1⟩:=z;cases d with
 | true=>exact ha pins s1 σ H1 D I1 q1
 | false=>exact hb pins s1 σ H1 D I1 q1
end
abbrev TG:=V->St->Hp->(St->Hp->Prop)->Prop
abbrev S6:=Γ V->St->Hp->(St->Hp->Prop)->Prop
def PG(X:Cx)(target:γ)(t:TG):Prop :=
 ∀ (pins:Γ (Ψ×Obj)) (s:Ξ) (σ:St) (H:Hp) (v:V) (u:Θ) (Q:St->Hp->Prop),Inv X pins σ H s->RelV v u->t v σ H Q ->
  wpAny (model X.prog X.w) X.A (assign target X.env u) (λ_ s'=>∃σ' H',Inv X pins σ' H' s'/\Q σ' H') X.xe s
def Tw(X:Cx)(ts:Γ γ)(t:S6):Prop :=
 ∀ (pins:Γ (Ψ×Obj)) (s:Ξ) (σ:St) (H:Hp) (vs:Γ V) (us:Γ Θ) (Q:St->Hp->Prop),Inv X pins σ H s->aH vs us->t vs σ H Q ->
  wpAny (model X.prog X.w) X.A (assignInOrder ((assignEach ts X.env).map (·.2)) us) (λ_ s'=>∃σ' H',Inv X pins σ' H' s'/\Q σ' H') X.xe s
abbrev S3:=V->V->V->Hp->(Hp->Prop)->Prop
def Qb(X:Cx)(t:S3):Prop :=
 ∀ (pins:Γ (Ψ×Obj)) (s:Ξ) (σ:St) (H:Hp) (o i v:V) (ov iv u:Θ) (Q:Hp->Prop),Inv X pins σ H s->RelV o ov->RelV i iv->RelV v u->t o i v H Q ->
  wpAny (model X.prog X.w) X.A (setItem ov iv u) (λ_ s'=>∃H',Inv X pins σ H' s'/\Q H') X.xe s
def rL(i:Nat):TG:=λv σ H Q=>Q (σ.set i (some v)) H
def fY(hN:X.N.Nodup)(hi:X.N[i]?=some x)(hx:Loc X.env.scope x)(hf:X.fn x=true\/X.env.scope.names.lookup x=some .local:=by first|exact .inl rfl|exact .inr rfl|assumption):PG X (.Name x pos) (rL i):=by
 intro pins s σ H v u Q I r h;exact wpAny_assign_Name (AK I hN hi hx r (λs' I'=>⟨_,H,I',h⟩) hf)
def Ut:S6:=λvs σ H Q=>vs=[]/\Q σ H
def SC(t:TG)(u:S6):S6:=λvs σ H Q=>∃v r,vs=v::r/\t v σ H λσ' H'=>u r σ' H' Q
def yq:Tw X [] Ut:=by
 intro pins s σ H vs us Q I r h;let⟨e,h⟩:=h;subst e;cases r;exact assignInOrder_nil ⟨σ,H,I,h⟩
def gJ(h1:PG X e t)(h2:Tw X es u)
  (hs:(assignEach (e::es) X.env).map (·.2)=assign e X.env::(assignEach es X.env).map (·.2):=by rfl):Tw X (e::es) (SC t u):=by
 intro pins s σ H vs us Q I r h;let⟨v,vr,e1,h⟩:=h;subst e1;cases r with
 | cons r rr =>
  rw[hs];refine assignInOrder_cons (bV (h1 pins s σ H _ _ _ I r h) λ_ s1 z=>?_);let⟨σ1,H1,I1,q1⟩:=z;exact h2 pins s1 σ1 H1 _ _ Q I1 rr q1
def UV(K:Φ)(n:Nat)(t:S6):TG:=λv σ H Q=>∃a xs,v=.ref a/\gQ K H a xs/\xs.length=n/\t xs σ H Q
def Cm{k:Nat}(hc:X.calm=true)(h:Tw X es t)
  (hn:(assignEach es X.env).length=n:=by rfl) (X1:(assignEach es X.env).findIdx? (·.1)=none:=by rfl):PG X (.Tuple es k pos) (UV X.K n t):=by
 intro pins s σ H v u Q I r hw;let⟨a,xs,e1,hq,hl,hw⟩:=hw;subst e1;cases r;let⟨its,rv,ht,hz⟩:=I.tuple hq;refine assign_Tuple_tuple (I.ok.hd hc) ht (by simp[hn,<- hl,rv.length]) X1 λh' hx=>?_;have I1:Inv X pins σ H { s with heap:=h' }:=I.kept (t':=s.toks) λb o e=>hx b o (yS (zY e)) e;exact h pins _ σ H xs _ Q I1 (by simpa using rv) hw
def fW(to ti:TE)(t:S3):TG:=λv σ H Q=>to σ H λo H1=>ti σ H1 λi H2=>t o i v H2 λH3=>Q σ H3
def Gh(ho:PE X o to)(hi:PE X i ti)(hs:Qb X t)
  (ha:∀v,assign (.Subscript o i pos) X.env v=(do
   let ov <- holding [v] (eval o X.env)
   let iv <- holding [v,ov] (eval i X.env)
   standAt pos
   holding [v,ov,iv] (setItem ov iv v)
   release [v,ov,iv] []):=by intro _;rfl):PG X (.Subscript o i pos) (fW to ti t):=by
 intro pins s σ H v u Q I r h;rw[ha];refine zV (xY (bV (ho pins s σ H _ I h) λov s1 z=>?_));sleep 30;refine zV (xY (bV (hi pins s1 σ H1 _ I1 q1) λiv s2 z=>?_));let⟨y,H2,I2,r2,q2⟩:=z;refine zV (vD (zV (xY (bV (hs pins s2 σ H2 x y v ov iv u _ I2 r1 r2 r q2) λ_ s3 z=>?_))));let⟨H3,I3,q3⟩:=z;exact wpAny_release ⟨σ,H3,I3,q3⟩
def BF(te:TE)(g:TG):TS:=λD σ H=>te σ H λx H1=>g x σ H1 D.nx
def Il(he:PE X e te)(hg:PG X tg g)(hs:swapsWithSole [tg] e pos.line X.env=pure false:=by rfl)(hw:swappedStores [tg] e X.env=pure none:=by rfl)
  (h1:(assignEach [tg] X.env).map (·.2)=[assign tg X.env]:=by rfl):PS X (.Assign [tg] e pos) (BF te g):=by
 sleep 36;refine wpAny_Assign_stores (bV (he pins s σ H _ I h) λv s1 z=>?_) hs hw;sleep 30;rw[h1];exact bV (hg pins s1 σ H1 x v _ I1 r1 q1) λ_ s2 q=>q
def pC(hN:X.N.Nodup)(hi:X.N[i]?=some x)(hx:Loc X.env.scope x)(he:PE X e te)(hs:swapsWith e (some (.Name x pos')) pos.line X.env=pure false:=by rfl)(hf:X.fn x=true\/X.env.scope.names.lookup x=some .local:=by first|exact .inl rfl|exact .inr rfl|assumption) :
  PS X (.Assign [.Name x pos'] e pos) (BF te (rL i)):=by
 sleep 36;refine wpAny_Assign_Name (bV (he pins s σ H _ I h) λv s1 z=>?_) hs;let⟨y,H1,I1,r1,q1⟩:=z;exact AK I1 hN hi hx r1 (λs2 I2=>⟨_,H1,I2,q1⟩) hf
def ON(c:TT)(tb:TS):TS:=λD σ H=>∃W:Nat->St->Hp->Prop,(∃m,W m σ H)/\∀m σ H,W m σ H ->
 c σ H λb H1=>if b=true then ∃N:St->Hp->Prop,(∀σ' H',N σ' H'->∃m',m' < m/\W m' σ' H')/\tb { D with nx:=N,ct:=N,bk:=D.nx } σ H1 else D.nx σ H1
def JI(hp:PassesOwn (model X.prog X.w) X.A X.env X.xe)(hc:PT X c tc)(hb:zi X body tb):PS X (.While c body [] pos) (ON tc tb):=by
 sleep 36;let⟨W,⟨m0,w0⟩,turn⟩:=h;refine wpAny_While (codeAny_whileLoop (λn s'=>∃σ' H',Inv X pins σ' H' s'/\W n σ' H') ?_ m0 ⟨σ,H,I,w0⟩);rintro n s1 ⟨σ1,H1,I1,w1⟩;refine jK hp (bV (hc pins s1 σ1 H1 _ I1 (turn n σ1 H1 w1)) λb s2 z=>?_);let⟨H2,I2,q2⟩:=z;cases b with
 | true =>
  let⟨N,hN,q2⟩:=q2;rw[yM rfl];refine jK hp (bV (hb pins s2 σ1 H2 _ I2 q2) λf s3 q3=>?_);cases f with
  | next =>
   let⟨Y4,H3,I3,n3⟩:=q3;let⟨m',hm,w3⟩:=hN Y4 H3 n3;exact⟨m',hm,Y4,H3,I3,w3⟩
  | cont =>
   let⟨Y4,H3,I3,n3⟩:=q3;let⟨m',hm,w3⟩:=hN Y4 H3 n3;exact⟨m',hm,Y4,H3,I3,w3⟩
  | brk=>exact q3
  | ret v=>exact q3
 | false =>
  rw[yO xA];exact vP ⟨σ1,H2,I2,q2⟩
structure It where
 go:Nat->Hp->Prop
 Zu:Nat->Hp->V->Hp->Prop
 stop:Nat->Hp->Prop
def cL(X:Cx)(pins:Γ (Ψ×Obj))(H:Hp)(b:Ψ):Prop :=
 H b=none/\b≠X.env.locals/\b∉X.fs/\(b∈X.ex\/X.WI.heap.objs.size<=b)/\(∀x c,X.env.cells.lookup x=some c->c≠b)/\∀p∈X.pn++pins,p.1≠b
def Inv.Xd(I:Inv X pins σ H s)(hb:s.heap.objs.size<=b)(hn:H' b=none):cL X pins H' b:=by
 refine⟨hn,jJ (zP I.lt hb),I.adK hb,.inr (yD I.sz hb),λx c e z=>?_,λp hp z=>?_⟩
 ·let⟨v,q⟩:=I.cell x c e;exact absurd (zP q.lt (by rw[z];exact hb)) (qF _)
 ·exact absurd (zP (zY (I.pin p hp).1) (by rw[z];exact hb)) (qF _)
structure Turn(P:Program)(w:World)(K:W.Frag)(tg:Expr)(J:It)(fp:List Addr)(it:Addr)(tn:Nat->Heap->Prop):Prop where
 mem:it∈fp
 obj:∀i h,tn i h->∀b∈fp,∃o,h.get? b=some o/\∀v,o.data≠.cell v
 keep:∀i h h',tn i h->(∀b∈fp,∀o,h.get? b=some o->h'.get? b=some o)->tn i h'
 item:∀ (X:Cx),X.prog=P->X.w=w->X.K=K->X.calm=true->∀ (i:Nat) (pins:Γ (Ψ×Obj)) (s:Ξ) (σ:St) (H:Hp) (E:Θ->Ξ->Prop),Inv X pins σ H s->(∀b∈fp,cL X pins H b)->tn i s.heap->J.go i H ->
  wpAny (model P w) X.A (pyNext (.ref it)) (λr s1=>∃u,r=some u /\
   wpAny (model P w) X.A (letOwnedTupleGo tg (.ref it) u) (λ_ s2=>∃x H',Inv X pins σ H' s2/\RelV x u/\J.Zu i H x H'/\tn (i+1) s2.heap/\∀b∈fp,H' b=none) E s1) E s
 done:∀ (X:Cx),X.prog=P->X.w=w->X.K=K->X.calm=true->∀ (i:Nat) (pins:Γ (Ψ×Obj)) (s:Ξ) (σ:St) (H:Hp) (E:Θ->Ξ->Prop),Inv X pins σ H s->(∀b∈fp,cL X pins H b)->tn i s.heap->J.stop i H ->
  wpAny (model P w) X.A (pyNext (.ref it)) (λr s1=>r=none/\Inv X pins σ H s1) E s
 self:∀ (A:ξ) (i:Nat) (s:Ξ) (Q:Θ->Ξ->Prop) (E:Θ->Ξ->Prop),tn i s.heap->Q (.ref it) s->wpAny (model P w) A (pyIter (.ref it)) Q E s
abbrev TI:=St->Hp->(It->Hp->Prop)->Prop
def Vk(X:Cx)(pins:Γ (Ψ×Obj))(σ:St)(tg:γ)(R:It->Hp->Prop)(itv:Θ)(s2:Ξ):Prop :=
 ∃ (it:Ψ) (fp:Γ Ψ) (tn:Nat->ι->Prop) (J:It) (H':Hp),itv=.ref it/\Inv X pins σ H' s2/\Turn X.prog X.w X.K tg J fp it tn/\tn 0 s2.heap/\(∀b∈fp,cL X pins H' b)/\R J H'
def PI(X:Cx)(tg iter:γ)(wi:TI):Prop :=
 ∀ (pins:Γ (Ψ×Obj)) (s:Ξ) (σ:St) (H:Hp) (R:It->Hp->Prop),Inv X pins σ H s->wi σ H R ->
  wpAny (model X.prog X.w) X.A (eval iter X.env) (λv s1=>wpAny (model X.prog X.w) X.A (pyIter v) (Vk X pins σ tg R) X.xe s1) X.xe s
def GE(ho:s.heap.get? it=some o)(hc:o.cls=.type n)(hd:o.data=.fields vs)
  (hn:["enumerate","zip","dict_itemiterator","dict_reverseitemiterator","odict_iterator","itertools.zip_longest","itertools.pairwise"].contains n=false) (hQ:Q () s):wpAny M A (letOwnedTupleGo tg (.ref it) u) Q E s:=by
 unfold letOwnedTupleGo;cases tg<;>first
  | exact zW hQ
  | (cases u<;>first
    | exact zW hQ
    | (refine zV (wpAny_load ho ?_)
       rw[hc,hd];show wpAny M A (if (["enumerate","zip","dict_itemiterator","dict_reverseitemiterator","odict_iterator","itertools.zip_longest","itertools.pairwise"].contains n&&vs[0]? == some (rawInt _))=true then _ else _) Q E s;rw[yO (by intro h;rw[hn,vZ] at h;cases h)];exact zW hQ))
def Ui(K:Φ)(a:Ψ):It :=
 ⟨λi H=>∃xs x,gN K H a xs/\xs[i]?=some x,λi H x H'=>H'=H/\∀xs,gN K H a xs->xs[i]?=some x,λi H=>∃xs,gN K H a xs/\xs.length<=i⟩
def UQ(K:Φ)(a:Ψ):It :=
 ⟨λi H=>∃xs x,gQ K H a xs/\xs[i]?=some x,λi H x H'=>H'=H/\∀xs,gQ K H a xs->xs[i]?=some x,λi H=>∃xs,gQ K H a xs/\xs.length<=i⟩
def TJ(lo:Int)(n:Nat):It:=⟨λi _=>i < n,λi H x H'=>H'=H/\x=.int (lo+i),λi _=>n<=i⟩
def Fw{K:Φ}(a it:Ψ):Turn P w K tg (Ui K a) [it] it (λi h=>h.IsListIter it a i) where
 mem:=by simp
 obj:=λi h st b hb=>by
  have e:b=it:=by simpa using hb
  subst e;let⟨o,e,c,d⟩:=st;exact⟨o,e,λv z=>by rw[d] at z;cases z⟩
 keep:=λi h h' st k=>st.at λo e=>k it (by simp) o e
 item:=by
  sleep 3;subst hP hw hK;let⟨xs,x,hq,hx⟩:=hg;let⟨its,rv,p,hz⟩:=I.list hq;let⟨u,hu,ru⟩:=rv.get hx;sleep 17;refine wpAny_pyNext_list_item st p.isList (x:=u) (by simpa using hu) λh' Wz sb=>?_;sleep 59;let⟨o,e,c,d⟩:=id Wz;exact⟨u,rfl,GE (s:={ s with heap:=h' }) e c d (by decide) ⟨x,H,I1,ru,⟨rfl,λys hy=>by rw[I.X0 hy hq];exact hx⟩,Wz,λb hb=>(hf b hb).1⟩⟩
 done:=by
  sleep 3;subst hP hw hK;let⟨xs,hq,hx⟩:=hg;let⟨its,rv,p,hz⟩:=I.list hq;sleep 17;have hl:=rv.length;exact wpAny_pyNext_list_end (I.ok.hd hc) st p.isList (by simp;lia) λh' eb=>⟨rfl,I.turned (t':=s.toks) (λb o hb e=>eb b o hb e) f0 f1 f3 f4 f5⟩
 self:=λ_ _ _ _ _ st h=>wpAny_pyIter_listiter st h
def Cr{K:Φ}(a it:Ψ):Turn P w K tg (UQ K a) [it] it (λi h=>h.IsTupleIter it a i) where
 mem:=by simp
 obj:=λi h st b hb=>by
  have e:b=it:=by simpa using hb
  subst e;let⟨o,e,c,d⟩:=st;exact⟨o,e,λv z=>by rw[d] at z;cases z⟩
 keep:=λi h h' st k=>st.at λo e=>k it (by simp) o e
 item:=by
  sleep 3;subst hP hw hK;let⟨xs,x,hq,hx⟩:=hg;let⟨its,rv,p,hz⟩:=I.tuple hq;let⟨u,hu,ru⟩:=rv.get hx;sleep 17;refine wpAny_pyNext_tuple_item st (show s.heap.IsTuple a its.toArray from p) (x:=u) (by simpa using hu) λh' Wz sb=>?_;sleep 59;let⟨o,e,c,d⟩:=id Wz;exact⟨u,rfl,GE (s:={ s with heap:=h' }) e c d (by decide) ⟨x,H,I1,ru,⟨rfl,λys hy=>by rw[I.XF hy hq];exact hx⟩,Wz,λb hb=>(hf b hb).1⟩⟩
 done:=by
  sleep 3;subst hP hw hK;let⟨xs,hq,hx⟩:=hg;let⟨its,rv,p,hz⟩:=I.tuple hq;sleep 17;have hl:=rv.length;exact wpAny_pyNext_tuple_end (I.ok.hd hc) st (show s.heap.IsTuple a its.toArray from p) (by simp;lia) λh' eb=>⟨rfl,I.turned (t':=s.toks) (λb o hb e=>eb b o hb e) f0 f1 f3 f4 f5⟩
 self:=λ_ _ _ _ _ st h=>wpAny_pyIter_tupleiter st h
def BQ{K:Φ}(it:Ψ)(lo:Int)(n:Nat):Turn P w K tg (TJ lo n) [it] it (λi h=>IsRangeIter h it (lo+(i:Nat) * 1) ((n:Int) - (i:Nat)) 1) where
 mem:=by simp
 obj:=λi h st b hb=>by
  have e:b=it:=by simpa using hb
  subst e;exact⟨_,st,λv z=>by
   have z':Data.fields _=Data.cell v:=z;cases z'⟩
 keep:=λi h h' st k=>k it (by simp) _ st
 item:=by
  sleep 3;subst hP hw hK;sleep 17;have W:=Walks.range (prog:=X.prog) (w:=X.w) (I.ok.hd hc) it lo 1 n;refine W.item i s _ _ hg st λv h' tk hv Wz kk=>?_;let⟨t,rfl⟩:=hv;have I1:Inv X pins σ H { s with heap:=h',toks:=tk }:=I.turned (λb o hb e=>kk b o (by simpa using hb) e) f0 f1 f3 f4 f5;refine⟨_,rfl,GE (s:={ s with heap:=h',toks:=tk }) (n:="range_iterator") Wz rfl rfl (by decide) ⟨.int (lo+i),H,I1,⟨t,?_⟩,⟨rfl,rfl⟩,Wz,λb hb=>(hf b hb).1⟩⟩;rw[Int.mul_one]
 done:=by
  sleep 3;subst hP hw hK;sleep 17;exact wpAny_pyNext_range_end (I.ok.hd hc) st (by have:n<=i:=hg;lia) λh' eb=>⟨rfl,I.turned (t':=s.toks) (λb o hb e=>eb b o hb e) f0 f1 f3 f4 f5⟩
 self:=λ_ _ _ _ _ st h=>wpAny_pyIter_rangeiter st h
def Gu{lo:Int}{t u v:Tok}{tk:Nat}(I:Inv X pins σ H s)(h1:-(2 ^ 62)<=lo)(h2:lo < 2 ^ 62)(h3:-(2 ^ 62)<=hi)(h4:hi < 2 ^ 62)
  (q:R (TJ lo (hi - lo).toNat) H):wpAny (model X.prog X.w) X.A (pyIter (.ref s.heap.objs.size)) (Vk X pins σ tg R) E { s with heap:=s.heap.push { cls:=.type "range",data:=.fields #[.int lo t,.int hi u,.int 1 v] },toks:=tk }:=by
 refine wpAny_pyIter_range (IsRange.new ..) (small_one h1 h2 h3 h4) ?_;have I1:Inv X pins σ H { s with heap:=s.heap.push { cls:=.type "range",data:=.fields #[.int lo t,.int hi u,.int 1 v] },toks:=tk }:=I.kept λb o e=>zU _ e;refine⟨(s.heap.push { cls:=.type "range",data:=.fields #[.int lo t,.int hi u,.int 1 v] }).objs.size,[(s.heap.push { cls:=.type "range",data:=.fields #[.int lo t,.int hi u,.int 1 v] }).objs.size],_,_,H,rfl,
  I1.kept (t':=tk) λb o e=>zU _ e,BQ _ lo (hi - lo).toNat,?_,λb hb=>?_,q⟩
 ·have e1:lo+((0:Nat):Int) * 1=lo:=by simp
  have e2:(((hi - lo).toNat:Nat):Int) - ((0:Nat):Int)=Builtin.Range.rangeSize lo hi 1:=by rw[rangeSize_one];split<;>lia
  show IsRangeIter _ _ (lo+((0:Nat):Int) * 1) ((((hi - lo).toNat:Nat):Int) - ((0:Nat):Int)) 1;rw[e1,e2];exact zX _ rfl
 ·have e:b=(s.heap.push { cls:=.type "range",data:=.fields #[.int lo t,.int hi u,.int 1 v] }).objs.size:=by simpa using hb
  subst e;exact I1.Xd (yN _) (I1.Wn.fresh (yN _))
def RD(ta:TA):TI:=λσ H R=>ta σ H λvs H1=>∃j:Int,vs=[.int j]/\-(2 ^ 62)<=j/\j < 2 ^ 62/\R (TJ 0 j.toNat) H1
def F3(hg:Gl X "range")(hm:X.mg "range"=none)(ha:PA X [a] ta)(hs:starEach [a] X.env=[(false,eval a X.env)]:=by rfl):PI X tg (.Call (.Name "range" p) [a] [] pos) (RD ta):=by
 intro pins s σ H R I h;refine Call_ (jt I hg hm boot_range (qT (bV (ha pos pins s σ H _ I h) λus s1 z=>?_) hs rfl));let⟨vs,H1,I1,r1,q1⟩:=z;let⟨j,e,q1,q2,q⟩:=q1;subst e;cases r1 with
 | cons r rr =>
  cases rr;let⟨t,rfl⟩:=r;exact call_range_1 (Gu I1 (by lia) (by lia) q1 q2 (by simpa using q))
def UY(wi:TI)(g:TG)(tb:TS):TS:=λD σ H=>wi σ H λJ H1=>∃W:Nat->Nat->St->Hp->Prop,(∃m,W 0 m σ H1)/\∀i m σ H,W i m σ H ->
 (J.stop i H/\D.nx σ H)\/(J.go i H/\∃N:St->Hp->Prop,(∀σ' H',N σ' H'->∃m',m' < m/\W (i+1) m' σ' H')/\∀x H',J.Zu i H x H'->g x σ H' λXX H2=>tb { D with nx:=N,ct:=N,bk:=D.nx } XX H2)
def pk(fp:Γ Ψ)(h:ι):Γ (Ψ×Obj):=fp.filterMap λb=>(h.get? b).map λo=>(b,o)
def dy(hb:b∈fp)(e:h.get? b=some o):(b,o)∈pk fp h:=List.mem_filterMap.mpr ⟨b,hb,by rw[e];rfl⟩
def Fn(hp:p∈pk fp h):p.1∈fp/\h.get? p.1=some p.2:=by
 let⟨b,hb,e⟩:=List.mem_filterMap.mp hp;cases q:h.get? b with
 | none=>rw[q] at e;cases e
 | some o =>
  rw[q] at e;have e':(b,o)=p:=xE e;subst e';exact⟨hb,q⟩
def Inv.pinned(I:Inv X pins σ H s)(hf:∀b∈fp,cL X pins H b)(ho:∀b∈fp,∃o,s.heap.get? b=some o/\∀v,o.data≠.cell v):Inv X (pins++pk fp s.heap) σ H s :=
 I.YA λp hp=>(List.mem_append.mp hp).elim (λz=>I.pin p (yE _ z)) λz=>by
  let⟨hb,e⟩:=Fn z;let⟨f0,f1,f2,_⟩:=hf p.1 hb;let⟨o,e',d⟩:=ho p.1 hb;rw[e] at e';cases e';exact⟨e,f0,f1,f2,d⟩
def Inv.WC(I:Inv X (pins++pl) σ H s):Inv X pins σ H s:=I.YA λp hp=>I.pin p (yE _ (qK _ hp))
def IH{pos:Pos}(hp:PassesOwn (model X.prog X.w) X.A X.env X.xe)(hc:X.calm=true)(hi:PI X tg iter wi)(hg:PG X tg g)(hb:zi X body tb)
  (hs:∀x,foldedSetIterable iter X.env x=pure x:=by intro _;rfl):PS X (.For tg iter body [] pos) (UY wi g tb):=by
 sleep 36;refine wpAny_For (bV (hi pins s σ H _ I h) λv s1 h1=>bV h1 λitv s2 h2=>?_) hs;let⟨it,fp,tn,J,H2,e,I2,T,X2,f2,W,⟨m0,w0⟩,turn⟩:=h2;subst e;have aaB:∀ {H':Hp},(∀b∈fp,H' b=none)->∀b∈fp,cL X pins H' b:=λhn b hb=>⟨hn b hb,(f2 b hb).2⟩
 refine codeAny_forLoop_any (λn s'=>∃i σ' H',Inv X pins σ' H' s'/\tn i s'.heap/\(∀b∈fp,H' b=none)/\W i n σ' H') ?_ m0 ⟨0,σ,H2,I2,X2,λb hb=>(f2 b hb).1,w0⟩;rintro n s3 ⟨i,Y4,H3,I3,ZF,fr3,w3⟩;rcases turn i n Y4 H3 w3 with ⟨stop,qn⟩|⟨go,N,hN,step⟩
 ·refine jK hp (bV (T.done X rfl rfl rfl hc i pins s3 Y4 H3 X.xe I3 (aaB fr3) ZF stop) λr s4 z=>?_);let⟨hr,I4⟩:=z;subst hr;exact vP ⟨Y4,H3,I4,qn⟩
 ·refine jK hp (bV (T.item X rfl rfl rfl hc i pins s3 Y4 H3 X.xe I3 (aaB fr3) ZF go) λr s4 z=>?_);let⟨u,hr,h4⟩:=z;subst hr;refine jK hp (bV h4 λ_ s5 z=>?_);let⟨x,H5,I5,r5,y5,st5,fr5⟩:=z;have I5':=I5.pinned (aaB fr5) (T.obj _ _ st5);refine jK hp (bV (hg _ s5 Y4 H5 x u _ I5' r5 (step x H5 y5)) λ_ s6 z=>?_);let⟨σ6,H6,I6,q6⟩:=z;refine jK hp (bV (hb _ s6 σ6 H6 _ I6 q6) λf s7 q7=>?_);have again:∀ {Y5:St}{H7:Hp},Inv X (pins++pk fp s5.heap) Y5 H7 s7->N Y5 H7->∃m,m < n/\∃i σ' H',Inv X pins σ' H' s7/\tn i s7.heap/\(∀b∈fp,H' b=none)/\W i m σ' H':=λ{Y5 H7} I7 n7=>by
   let⟨m',hm,w7⟩:=hN Y5 H7 n7;refine⟨m',hm,i+1,Y5,H7,I7.WC,T.keep _ _ _ st5 λb hb o e=>(I7.pin (b,o) (yE _ (yE _ (dy hb e)))).1,λb hb=>?_,w7⟩;let⟨o,e,d⟩:=T.obj _ _ st5 b hb;exact (I7.pin (b,o) (yE _ (yE _ (dy hb e)))).2.1
  cases f with
  | next=>let⟨Y5,H7,I7,n7⟩:=q7;exact again I7 n7
  | cont=>let⟨Y5,H7,I7,n7⟩:=q7;exact again I7 n7
  | brk=>let⟨Y5,H7,I7,q7⟩:=q7;exact⟨Y5,H7,I7.WC,q7⟩
  | ret v=>let⟨x7,Y5,H7,I7,r7,q7⟩:=q7;exact⟨x7,Y5,H7,I7.WC,r7,q7⟩
abbrev R2:=V->V->Hp->VK->Prop
def gO(X:Cx)(f:Θ->Θ->Sem Θ)(r:R2):Prop :=
 ∀ (pins:Γ (Ψ×Obj)) (s:Ξ) (σ:St) (H:Hp) (x y:V) (v u:Θ) (Q:VK),Inv X pins σ H s->RelV x v->RelV y u->r x y H Q ->
  wpAny (model X.prog X.w) X.A (f v u) (EP X pins σ Q) X.xe s
def Vd(X:Cx)(f:Θ->Sem Θ)(r:V->Hp->VK->Prop):Prop :=
 ∀ (pins:Γ (Ψ×Obj)) (s:Ξ) (σ:St) (H:Hp) (x:V) (v:Θ) (Q:VK),Inv X pins σ H s->RelV x v->r x H Q ->
  wpAny (model X.prog X.w) X.A (f v) (EP X pins σ Q) X.xe s
def gg(X:Cx)(f:Θ)(r:Γ V->Hp->VK->Prop):Prop :=
 ∀ (pins:Γ (Ψ×Obj)) (s:Ξ) (σ:St) (H:Hp) (xs:Γ V) (us:Γ Θ) (Q:VK),Inv X pins σ H s->aH xs us->r xs H Q ->
  wpAny (model X.prog X.w) X.A (call f us) (EP X pins σ Q) X.xe s
def Rc(r:R2)(ta tb:TE):TE:=λσ H Q=>ta σ H λx H1=>tb σ H1 λy H2=>r x y H2 Q
def V7(r:V->Hp->VK->Prop)(ta:TE):TE:=λσ H Q=>ta σ H λx H1=>r x H1 Q
def rI(C:Int->Int->Prop)(g:Int->Int->V):R2:=λx y H Q=>∃i j,x=.int i/\y=.int j/\C i j/\Q (g i j) H
def KA(g:Int->Int->V):R2:=λx y H Q=>∃i j,x=.int i/\y=.int j/\Q (g i j) H
def rU(g:Int->V):V->Hp->VK->Prop:=λx H Q=>∃i,x=.int i/\Q (g i) H
def QF(ha:PE X a ta)(hb:PE X b tb){pins:Γ (Ψ×Obj)}{σ:St}{R:V->V->Hp->Prop}(I:Inv X pins σ H s)
  (h:ta σ H λx H1=>tb σ H1 λy H2=>R x y H2) {Q:Θ->Ξ->Prop}{f:Θ->Θ->Sem Θ}
  (hf:∀v u s2 x y H2,Inv X pins σ H2 s2->RelV x v->RelV y u->R x y H2->wpAny (model X.prog X.w) X.A (f v u) Q X.xe s2) :
  wpAny (model X.prog X.w) X.A (eval a X.env) (λv Wl=>wpAny (model X.prog X.w) X.A (eval b X.env) (λu ZH=>wpAny (model X.prog X.w) X.A (f v u) Q X.xe ZH) X.xe Wl) X.xe s:=by
 refine bV (ha pins s σ H _ I h) λv s1 z=>?_;sleep 30;refine bV (hb pins s1 σ H1 _ I1 q1) λu s2 z=>?_;let⟨y,H2,I2,r2,q2⟩:=z;exact hf v u s2 x y H2 I2 r1 r2 q2
def Rq(ho:gO X (binaryOp op) r)(ha:PE X a ta)(hb:PE X b tb):PE X (.BinOp a op b pos) (Rc r ta tb):=by
 sleep 4;exact wpAny_BinOp (QF ha hb I h λv u s2 x y H2 I2 rx ry q=>ho pins s2 σ H2 x y v u Q I2 rx ry q)
def Ta(ho:Vd X (unaryOp op) r)(ha:PE X a ta):PE X (.UnaryOp op a pos) (V7 r ta):=by
 sleep 4;exact UnaryOp_ (bV (ha pins s σ H _ I h) λv s1 z=>by let⟨x,H1,I1,r1,q1⟩:=z;exact ho pins s1 σ H1 x v Q I1 r1 q1)
def UR{f:Θ->Θ->Sem Θ}{C:Int->Int->Prop}{g:Int->Int->Int}
  (rule:∀ (i j:Int) (t u:Tok) (s:Ξ) (Q:Θ->Ξ->Prop) (E:Θ->Ξ->Prop),C i j->Q (.int (g i j) s.toks) { s with toks:=s.toks+1 }->wpAny (model X.prog X.w) X.A (f (.int i t) (.int j u)) Q E s) :
  gO X f (rI C λi j=>.int (g i j)):=by
 sleep 11;let⟨i,j,rfl,rfl,hc,q⟩:=h;let⟨t,rfl⟩:=rx;let⟨t',rfl⟩:=ry;exact rule i j t t' s _ _ hc ⟨.int (g i j),H,I.tok _,⟨_,rfl⟩,q⟩
def SE{f:Θ->Θ->Sem Θ}{g:Int->Int->Int}
  (rule:∀ (i j:Int) (t u:Tok) (s:Ξ) (Q:Θ->Ξ->Prop) (E:Θ->Ξ->Prop),Q (.int (g i j) s.toks) { s with toks:=s.toks+1 }->wpAny (model X.prog X.w) X.A (f (.int i t) (.int j u)) Q E s) :
  gO X f (KA λi j=>.int (g i j)):=by
 sleep 11;let⟨i,j,rfl,rfl,q⟩:=h;let⟨t,rfl⟩:=rx;let⟨t',rfl⟩:=ry;exact rule i j t t' s _ _ ⟨.int (g i j),H,I.tok _,⟨_,rfl⟩,q⟩
def Q5{f:Θ->Θ->Sem Θ}{g:Int->Int->θ}
  (rule:∀ (i j:Int) (t u:Tok) (s:Ξ) (Q:Θ->Ξ->Prop) (E:Θ->Ξ->Prop),Q (.bool (g i j)) s->wpAny (model X.prog X.w) X.A (f (.int i t) (.int j u)) Q E s) :
  gO X f (KA λi j=>.bl (g i j)):=by
 sleep 11;let⟨i,j,rfl,rfl,q⟩:=h;let⟨t,rfl⟩:=rx;let⟨t',rfl⟩:=ry;exact rule i j t t' s _ _ ⟨.bl (g i j),H,I,rfl,q⟩
def K5(i j:Int):Prop:=0 < j/\j < 1073741824
def uw(i j:Int):Prop:=(-(2 ^ 64) < i/\i < 2 ^ 64)\/(-(2 ^ 64) < j/\j < 2 ^ 64)
def uw.ok(h:uw i j):IntMulOk i j:=by
 rcases h with ⟨h1,h2⟩|⟨h1,h2⟩
 ·exact .of_left (intBits_le_64 h1 h2)
 ·exact .of_right (intBits_le_64 h1 h2)
def Px:gO X (binaryOp .Add) (KA λi j=>.int (i+j)):=SE λ_ _ _ _ _ _ _ q=>add_int q
def N3:gO X (binaryOp .Sub) (KA λi j=>.int (i - j)):=SE λ_ _ _ _ _ _ _ q=>sub_int q
def NX:gO X (binaryOp .Mult) (rI uw λi j=>.int (i * j)):=UR λ_ _ _ _ _ _ _ hc q=>mul_int q hc.ok
def MJ:gO X (binaryOp .FloorDiv) (rI K5 λi j=>.int (i / j)):=UR λi j _ _ _ _ _ hc q=>by
 have h1:(0:Int) < j:=hc.1;have h2:j < 1073741824:=hc.2;exact floordiv_int (by lia) (by rw[Int.fdiv_eq_ediv_of_nonneg i (by lia)];exact q) (.inl (PyProof.noPylong_small (by lia)))
def On:gO X (binaryOp .Mod) (rI (λ_ j=>0 < j) λi j=>.int (i % j)):=UR λi j _ _ _ _ _ hc q=>by
 have h1:(0:Int) < j:=hc;exact mod_int' (by lia) (by rw[Int.fmod_eq_emod_of_nonneg i (by lia)];exact q)
def VB{f:Θ->Sem Θ}{g:Int->Int}
  (rule:∀ (i:Int) (t:Tok) (s:Ξ) (Q:Θ->Ξ->Prop) (E:Θ->Ξ->Prop),Q (.int (g i) s.toks) { s with toks:=s.toks+1 }->wpAny (model X.prog X.w) X.A (f (.int i t)) Q E s) :
  Vd X f (rU λi=>.int (g i)):=by
 intro pins s σ H x v Q I rx h;let⟨i,rfl,q⟩:=h;let⟨t,rfl⟩:=rx;exact rule i t s _ _ ⟨.int (g i),H,I.tok _,⟨_,rfl⟩,q⟩
def OX:Vd X (unaryOp .USub) (rU λi=>.int (-i)):=VB λ_ _ _ _ _ q=>neg_int q
def Hv(I:Inv X pins σ H s)(q:Q (.bl k) H)(e:k=k'):EP X pins σ Q (.bool k') s:=by
 subst e;exact⟨.bl k,H,I,rfl,q⟩
def JC:gO X (compareOp .Lt) (KA λi j=>.bl (decide (i < j))):=Q5 λ_ _ _ _ _ _ _ q=>lt_int q
def Gn:gO X (compareOp .LtE) (KA λi j=>.bl (decide (i<=j))):=Q5 λ_ _ _ _ _ _ _ q=>le_int q
def Nh:gO X (compareOp .Gt) (KA λi j=>.bl (decide (j < i))):=Q5 λ_ _ _ _ _ _ _ q=>gt_int q
def Gm:gO X (compareOp .Is) (λx y H Q=>y=.Wh/\Q (.bl (decide (x=.Wh))) H):=by
 sleep 11;let⟨rfl,q⟩:=h;cases ry;refine is_none_gen (Hv I q ?_);cases x<;>first
  | (cases rx;rfl)
  | (let⟨t,rfl⟩:=rx;rfl)
def Dz:gO X (compareOp .IsNot) (λx y H Q=>y=.Wh/\Q (.bl (!decide (x=.Wh))) H):=by
 sleep 11;let⟨rfl,q⟩:=h;cases ry;refine isnot_none_gen (Hv I q ?_);cases x<;>first
  | (cases rx;rfl)
  | (let⟨t,rfl⟩:=rx;rfl)
def gO.or(h:gO X f r)(h':gO X f r'):gO X f (λx y H Q=>r x y H Q\/r' x y H Q):=by
 intro pins s σ H x y v u Q I rx ry q;rcases q with q|q
 ·exact h pins s σ H x y v u Q I rx ry q
 ·exact h' pins s σ H x y v u Q I rx ry q
def dW(b:γ)(h:op≠.In:=by decide)(h2:op≠.NotIn:=by decide):behindInMarks op b=false:=by
 have e1:(op == CmpOp.In)=false:=by cases op<;>first|rfl|exact absurd rfl h
 have e2:(op == CmpOp.NotIn)=false:=by cases op<;>first|rfl|exact absurd rfl h2
 cases b<;>simp[behindInMarks,e1,e2]
def Ei(ho:gO X (compareOp op) r)(ha:PE X a ta)(hb:PE X b tb)(hm:behindInMarks op b=false):PE X (.Compare a [op] [b] pos) (Rc r ta tb):=by
 sleep 4;exact wpAny_Compare1 (QF ha hb I h λv u s2 x y H2 I2 rx ry q=>ho pins s2 σ H2 x y v u Q I2 rx ry q) hm
def Nn(t:TE):TT:=λσ H Q=>t σ H λx H'=>∃k,x=.bl k/\Q k H'
def xn(ho:gO X (compareOp op) r)(ha:PE X a ta)(hb:PE X b tb)(hm:behindInMarks op b=false):PT X (.Compare a [op] [b] pos) (Nn (Rc r ta tb)):=by
 intro pins s σ H Q I h;refine wpAny_isTrue_Compare1 (bV (ha pins s σ H _ I h) λv s1 ⟨x,H1,I1,r1,q1⟩=>bV (hb pins s1 σ H1 _ I1 q1) λu s2 ⟨y,H2,I2,r2,q2⟩ =>
  bV (ho pins s2 σ H2 x y v u _ I2 r1 r2 q2) λc s3 ⟨z,H3,I3,r3,k,e,q3⟩=>?_) hm
 subst e;cases r3;exact xX ⟨H3,I3,q3⟩
def BG(r r':R2)(ta tb tc:TE):TE:=λσ H Q=>ta σ H λx H1=>tb σ H1 λy H2=>r x y H2 λz H3=>∃k,z=.bl k /\
 (if k=true then tc σ H3 λw' H4=>r' y w' H4 Q else Q (.bl false) H3)
def IZ(ho:gO X (compareOp op) r)(XD:gO X (compareOp Y6) r')(ha:PE X a ta)(hb:PE X b tb)(hc:PE X c tc)
  (hm:lastMarks [op,Y6] [b,c]=false:=by with_unfolding_all rfl):PE X (.Compare a [op,Y6] [b,c] pos) (BG r r' ta tb tc):=by
 intro pins s σ H Q I h;refine Compare_chain (bV (ha pins s σ H _ I h) λv s1 ⟨x,H1,I1,r1,q1⟩=>chain_link (bV (hb pins s1 σ H1 _ I1 q1) λu s2 ⟨y,H2,I2,r2,q2⟩ =>
  bV (ho pins s2 σ H2 x y v u _ I2 r1 r2 q2) λd s3 ⟨z,H3,I3,r3,k,e,q3⟩=>?_)) hm
 subst e;cases r3;refine xX ?_;cases k with
 | false=>exact ite_ff ⟨.bl false,H3,I3,rfl,q3⟩
 | true=>exact ite_tt (chain_last (bV (hc pins s3 σ H3 _ I3 q3) λw' s4 z=>by let⟨z',H4,I4,r4,q4⟩:=z;exact XD pins s4 σ H4 y z' u w' Q I4 r2 r4 q4))
def Jf(ho:gO X (compareOp op) r)(XD:gO X (compareOp Y6) r')(ha:PE X a ta)(hb:PE X b tb)(hc:PE X c tc)
  (hm:lastMarks [op,Y6] [b,c]=false:=by with_unfolding_all rfl):PT X (.Compare a [op,Y6] [b,c] pos) (Nn (BG r r' ta tb tc)):=by
 intro pins s σ H Q I h;refine isTrue_chain (bV (ha pins s σ H _ I h) λv s1 ⟨x,H1,I1,r1,q1⟩=>test_link (bV (hb pins s1 σ H1 _ I1 q1) λu s2 ⟨y,H2,I2,r2,q2⟩ =>
  bV (ho pins s2 σ H2 x y v u _ I2 r1 r2 q2) λd s3 ⟨z,H3,I3,r3,k,e,q3⟩=>?_)) hm
 subst e;cases r3;refine xX ?_;cases k with
 | false =>
  let⟨k',e',q'⟩:=q3;cases e';exact ite_ff ⟨H3,I3,q'⟩
 | true =>
  refine ite_tt (test_last (bV (hc pins s3 σ H3 _ I3 q3) λw' s4 ⟨z',H4,I4,r4,q4⟩=>bV (XD pins s4 σ H4 y z' u w' _ I4 r2 r4 q4) λd' s5 z=>?_));let⟨z2,H5,I5,r5,k2,e2,q5⟩:=z;subst e2;cases r5;exact xX ⟨H5,I5,q5⟩
def sx:(sizeLine:Nat) < 2 ^ 63:=by rw[qV];decide
def vals1(r:aH [x] us):∃u,us=[u]/\RelV x u:=by
 cases r with
 | cons r1 r2=>cases r2;exact⟨_,rfl,r1⟩
def vals2(r:aH [x,y] us):∃u w',us=[u,w']/\RelV x u/\RelV y w':=by
 cases r with
 | cons r1 r2 =>
  cases r2 with
  | cons r3 r4=>cases r4;exact⟨_,_,rfl,r1,r3⟩
structure CF(h:Heap)(x dx C:Addr)(mA:Str->Option Value):Prop where
 obj:h.get? x=some (W.instObj C dx)
 ns:h.Ns1 dx mA
 ne:dx≠x
def FH{h:ι}(n:h.Ns1 dx mA):∃od,h.get? dx=some od/\∀name,W.lookIn name od=some (mA name):=by
 let⟨o,es,ep,ho,hd,hk,_,hm⟩:=n;refine⟨o,ho,λname=>?_⟩;have e:=hm name;unfold nsFind findBy at e;rw[<- Array.find?_toList] at e;unfold W.lookIn;rw[hd];dsimp only;split
 ·rename_i y q;rw[q] at e;exact jD some e
 ·rename_i q;rw[q] at e;have a:es.toList.any (·.refKey)=false:=by
   rw[List.any_eq_false];intro y hy;let⟨z,t,adQ⟩:=hk y (Array.mem_toList_iff.mp hy);simp[DictEntry.refKey,adQ]
  have a':¬ es.toList.any (·.refKey)=true:=by rw[a];exact xA
  rw[yO a'];exact jD some e
def CF.look(I:CF h x dx C mA):∃od,W.InstAt h x (W.instObj C dx) C (some od)/\∀name,W.lookIn name od=some (mA name) :=
 let ⟨od,ho,hl⟩:=FH I.ns
 ⟨od,⟨I.obj,rfl,rfl,ho⟩,hl⟩
section
variable {K:Φ}
def KR{expr:θ}(X:K.In s.heap)(I:CF s.heap x dx C mA)(hg:W.plainGet K C name=true)(hh:W.hasDictIn K C=true)
  (ha:W.findIn K (.ref C) name=some none) (hv:mA name=some v) (hv':W.handedIn v=true) (h:Q v { s with toks:=s.toks+1 }) :
  wpAny (model prog w) A (getAttr (.ref x) name expr) Q E s:=by
 let⟨od,J,hl⟩:=I.look;exact W.get_value X J (W.plainGet_of hg).1 (W.findObj_own hh ha rfl (by rw[hl,hv])) hv' h
def HJ(X:K.In s.heap)(I:CF s.heap x dx C mA)(hg:W.plainGet K C name=true)
  (hf:W.findIn K (.ref C) name=some (some (.ref f))) (ht:W.isFn K (.ref f)=true) (hv:mA name=none) (h:Q (.ref f,[.ref x]) s) :
  wpAny (model prog w) A (getMethod (.ref x) name pl) Q E s:=by
 let⟨od,J,hl⟩:=I.look;exact W.method_fn X J (W.plainGet_of hg).1 (W.plainGet_of hg).2 hf (beq_iff_eq.mp ht) (by show (W.lookIn name od).map (·.isSome)=some false;rw[hl,hv];rfl) h
def yj(X:K.In s.heap)(I:CF s.heap x dx C mA)
  (hs:W.findIn K (.ref C) "__setattr__"=some (some (.builtin "object.__setattr__"))) (hp:W.plainOver K C=true) (ht:W.takerIn K C name=some none) (hh:W.hasDictIn K C=true)
  (hw:PySem.Within mA ns) (hsz:ns.length<=sizeLine)
  (h:∀h',CF h' x dx C (λy=>if y=name then some v else mA y)->Heap.SameBut dx s.heap h'->Q () { s with heap:=h',toks:=s.toks+2 }) :
  wpAny (model prog w) A (setAttr (.ref x) name v) Q E s:=by
 let⟨od,J,hl⟩:=I.look;refine W.set_plain X J hs (W.osa_open (s:={ s with toks:=s.toks+1 }) (r:=none) X J hp ht λb=>?_);let⟨cd,hc,Yi⟩:=W.any_some hh;have hx:s.heap.get? x=some ⟨.ref C,some dx,.plain,#[]⟩:=I.obj;refine zV (zW (zV (zV (wpAny_loadPart hx (zV (W.Looks.here (s:={ s with toks:=s.toks+1 }) (W.looks_clsIn X hc) ?_))))));rw[Yi];refine zW (a:=some dx) (zV (zW (zV ?_)));refine wpAny_nsSet1 (s:={ s with toks:=s.toks+1 }) I.ns λh' hn2 ZI=>?_;let⟨oD,esD,epD,Y7,hdD,hcD⟩:=hn2.count (PySem.Within.cons name v hw);refine zV (wpAny_lookBehind Y7 (by rw[hdD];exact pastItsLine_dict (yD hcD (by rw[zL];lia))) ?_);exact zW (h _ ⟨(ZI.2 _ (jN I.ne)).trans I.obj,hn2,I.ne⟩ ZI)
def JK(X:K.In s.heap)(hm:W.makesIn K C=true)
  (hi:W.findIn K (.ref C) "__init__"=some (some (.ref f))) (hf:W.typeIn K (.ref f)=some (.type "function"))
  (h:codeAny (model prog w) (A.under (.builtin "type.__call__" ⟨.ref C::vs,kw⟩)) (.call (.ref f) ⟨.ref (s.heap.objs.size+1)::vs,kw⟩) (W.InitBack (s.heap.objs.size+1) R)
   { s with heap:=(s.heap.push W.emptyDict).push (W.instObj C s.heap.objs.size) }) :
  codeAny (model prog w) A (.call (.ref C) ⟨vs,kw⟩) R s:=by
 let⟨hh,g,d,t,os⟩:=s;exact W.make_core (W.makes_of X hm) (W.looks_findIn X hi) (λself=>W.bind_fn X self hf) (.inl rfl) h
end
def d9(f:Str)(v:V):Γ (Str×V)->Γ (Str×V)
 | []=>[(f,v)]
 | (g,x)::r=>if g=f then (g,v)::r else (g,x)::d9 f v r
def pK(f g:Str)(v:V):∀fs:Γ (Str×V),(d9 f v fs).lookup g=if g=f then some v else fs.lookup g
 | []=>by
  show List.lookup g [(f,v)]=_;by_cases h:g=f
  ·have hb:(g == f)=true:=beq_iff_eq.mpr h;simp?[List.lookup,hb,yM h]
  ·have hb:(g == f)=false:=beq_eq_false_iff_ne.mpr h;simp?[List.lookup,hb,yO h]
 | (k,x)::r=>by
  have ih:=pK f g v r;sleep 33;by_cases hk:k=f
  ·rw[yM hk];by_cases h:g=k
   ·have hb:(g == k)=true:=beq_iff_eq.mpr h;simp?[List.lookup,hb,yM (h.trans hk)]
   ·have hb:(g == k)=false:=beq_eq_false_iff_ne.mpr h;simp?[List.lookup,hb,yO (λe:g=f=>h (e.trans hk.symm))]
  ·rw[yO hk];by_cases h:g=k
   ·have hb:(g == k)=true:=beq_iff_eq.mpr h;simp?[List.lookup,hb,yO (λe:g=f=>hk (h.symm.trans e))]
   ·have hb:(g == k)=false:=beq_eq_false_iff_ne.mpr h;simp?[List.lookup,hb];exact ih
def oX(f:Str)(v:V):∀fs:Γ (Str×V),f∈(d9 f v fs).map (·.1)/\∀g,g∈fs.map (·.1)->g∈(d9 f v fs).map (·.1)
 | []=>⟨by simp[d9],λg h=>by simp at h⟩
 | (k,x)::r=>by
  let⟨i1,i2⟩:=oX f v r;sleep 33;by_cases hk:k=f
  ·rw[yM hk];subst hk;exact⟨by simp,λg h=>by simpa using h⟩
  ·rw[yO hk];refine⟨?_,λg h=>?_⟩
   ·rw[zI];exact zC _ i1
   ·rw[zI] at h ⊢;rcases List.mem_cons.mp h with e|e
    ·exact List.mem_cons.mpr (.inl e)
    ·exact zC _ (i2 g e)
def p4(f:Str)(v:V):∀fs:Γ (Str×V),(d9 f v fs).length<=fs.length+1
 | []=>by simp[d9]
 | (k,x)::r=>by
  have ih:=p4 f v r;sleep 33;by_cases hk:k=f
  ·rw[yM hk,zL,zL];lia
  ·rw[yO hk,zL,zL];lia
def uB.some_of(r:uB (some v) o):∃u,o=some u/\RelV v u:=by
 cases o with
 | none=>exact (show False from r).elim
 | some u=>exact⟨u,rfl,r⟩
def uB.none_of(r:uB none o):o=none:=by
 cases o with
 | none=>rfl
 | some u=>exact (show False from r).elim
def FZ(r:RelV v u):W.handedIn u=true:=by
 cases v with
 | Wh=>cases (show u=Value.none from r);rfl
 | bl b=>cases (show u=Value.bool b from r);rfl
 | int i=>let⟨t,e⟩:=(show ∃t,u=Value.int i t from r);cases e;rfl
 | str x=>let⟨t,e⟩:=(show ∃t,u=Value.str x t from r);cases e;rfl
 | byt b=>let⟨t,e⟩:=(show ∃t,u=Value.bytes b t from r);cases e;rfl
 | flt b=>let⟨t,e⟩:=(show ∃t,u=Value.float b t from r);cases e;rfl
 | ref a=>cases (show u=Value.ref a from r);rfl
 | ty n=>cases (show u=Value.type n from r);rfl
def yb(Wn:qj P w H h)(e:H a=some (.ins C dx fs)):∃mA,CF h a dx C mA/\(∀f,uB (fs.lookup f) (mA f))/\PySem.Within mA (fs.map (·.1))/\fs.length<=1000/\H dx=some (.own a):=by
 let⟨d,z,ne,ob,mA,n,r,q⟩:=(show ej P w H h a (.ins C dx fs) from Wn a _ e)
 exact⟨mA,⟨ob,n,ne⟩,r,q,z,d⟩
structure qw(K:W.Frag)(C:Addr):Prop where
 pg:W.plainGet K C Str.empty=true
 hd:W.hasDictIn K C=true
 po:W.plainOver K C=true
 sa:W.findIn K (.ref C) "__setattr__"=some (some (.builtin "object.__setattr__"))
def qw.get{K:Φ}(c:qw K C)(f:Str):W.plainGet K C f=true:=c.pg
def bN(K:Φ)(C:Ψ)(f:Str):Prop:=W.findIn K (.ref C) f=some none
def bN.abD{K:Φ}(n:bN K C f):W.takerIn K C f=some none:=by
 unfold W.takerIn;rw[show W.findIn K (.ref C) f=some none from n];rfl
structure wb(K:W.Frag)(C:Addr)(m:Str)(f:Addr):Prop where
 at_:W.findIn K (.ref C) m=some (some (.ref f))
 fn:W.isFn K (.ref f)=true
 kp:W.keepIn K (.ref f)=true
def Co(I:Inv X pins σ H s)(e:H a=some (.ins C dx fs))(c:qw X.K C)(n:bN X.K C f)(l:fs.lookup f=some v)
  (h:∀u s',Inv X pins σ H s'->RelV v u->Q u s'):wpAny (model X.prog X.w) A (getAttr (.ref a) f b) Q E s:=by
 let⟨mA,O,r,_,_,_⟩:=yb I.Wn e;let⟨u,hu,ru⟩:=uB.some_of (v:=v) (o:=mA f) (by rw[<- l];exact r f);exact KR I.XC O (c.get f) c.hd n hu (FZ ru) (h u _ (I.tok _) ru)
def rR(I:Inv X pins σ H s)(e:H a=some (.ins C dx fs))(c:qw X.K C)(k:wb X.K C m g)(l:fs.lookup m=none)
  (h:Q (.ref g,[.ref a]) s):wpAny (model X.prog X.w) A (getMethod (.ref a) m pl) Q E s:=by
 let⟨mA,O,r,_,_,_⟩:=yb I.Wn e;have hn:mA m=none:=uB.none_of (by rw[<- l];exact r m);exact HJ I.XC O (c.get m) k.at_ k.fn hn h
def Cf(I:Inv X pins σ H s)(e:H a=some (.ins C dx fs))(c:qw X.K C)(n:bN X.K C f)(hl:fs.length < 1000)(ry:RelV y u)
  (h:∀s',Inv X pins σ (upd H a (.ins C dx (d9 f y fs))) s'->Q () s'):wpAny (model X.prog X.w) A (setAttr (.ref a) f u) Q E s:=by
 let⟨mA,O,r,wi,_,ho⟩:=yb I.Wn e;have hz:(fs.map (·.1)).length<=sizeLine:=by rw[zD,qV];lia
 refine yj I.XC O c.sa c.po n.abD c.hd wi hz λh' O' sb=>h _ ?_;have hd:∃o,h'.get? dx=some o:=let ⟨o,_,_,e',_⟩:=O'.ns;⟨o,e'⟩;refine I.write (x:=a) (e:=dx) (by rw[e];exact True.intro) (.inr ho) (λb q hb z=>(sb.2 b hb).trans z) hd ?_;refine⟨by rw[ak O.ne];exact ho,?_,O.ne,O'.obj,_,O'.ns,λg=>?_,λg hg=>?_⟩
 ·have:=p4 f y fs;lia
 ·show uB ((d9 f y fs).lookup g) (if g=f then some u else mA g);rw[pK];by_cases q:g=f
  ·rw[yM q,yM q];exact ry
  ·rw[yO q,yO q];exact r g
 ·by_cases q:g=f
  ·rw[q];exact (oX f y fs).1
  ·refine (oX f y fs).2 g (wi g λz=>hg ?_);show (if g=f then some u else mA g)=none;rw[yO q];exact z
def Inv.made(I:Inv X pins σ H s):Inv X pins σ (upd (upd H s.heap.objs.size (.own (s.heap.objs.size+1))) (s.heap.objs.size+1) (.ins C s.heap.objs.size []))
  { s with heap:=(s.heap.push W.emptyDict).push (W.instObj C s.heap.objs.size) }:=by
 have e1:(s.heap.push W.emptyDict).get? s.heap.objs.size=some W.emptyDict:=zX s.heap rfl;have e2:((s.heap.push W.emptyDict).push (W.instObj C s.heap.objs.size)).get? (s.heap.objs.size+1)=some (W.instObj C s.heap.objs.size):=by
  have:=zX (s.heap.push W.emptyDict) (o:=W.instObj C s.heap.objs.size) rfl
  rwa [xK] at this
 have e3:(s.heap.push W.emptyDict).Ns s.heap.objs.size (λ_=>none):=⟨W.emptyDict,#[],_,e1,rfl,(λe he=>absurd he (by simp)),λ_=>rfl⟩
 have I1:=I.laid (a:=s.heap.objs.size) (o:=.own (s.heap.objs.size+1)) (h':=s.heap.push W.emptyDict) (t':=s.toks) (λb u q=>zU _ q) (yN _) ⟨_,e1⟩;refine I1.laid (a:=s.heap.objs.size+1) (o:=.ins C s.heap.objs.size []) (t':=s.toks) (λb u q=>zU _ q) (Nat.le_of_eq (xK _ _)) ?_;have ne:s.heap.objs.size≠s.heap.objs.size+1:=yS (kO _);refine⟨by rw[ak ne,aw],xW _,ne,e2,λ_=>none,(Heap.Ns1.of_empty e3).at λo q=>zU _ q,λ_=>True.intro,λy hy=>absurd rfl hy⟩
def My{env:Env}(hb:attributeBase e f env (eval e env)=eval e env)
  (h:wpAny (model prog w) A (eval e env) (λo Wl=>wpAny (model prog w) A (getAttr o f true) Q E Wl) E s):wpAny (model prog w) A (eval (.Attribute e f pos) env) Q E s :=
 Attribute_any_ h (by rw[arm_eval_Attribute,hb])
def Gy(K:Φ)(ta:TE)(f:Str):TE:=λσ H Q=>ta σ H λx H1=>∃a C dx fs v,x=.ref a/\H1 a=some (.ins C dx fs)/\qw K C/\bN K C f/\fs.lookup f=some v/\Q v H1
def Ou(K:Φ)(ta tv:TE)(f:Str):TS:=λD σ H=>tv σ H λy H1=>ta σ H1 λx H2=>∃a C dx fs,x=.ref a/\H2 a=some (.ins C dx fs)/\qw K C/\bN K C f/\fs.length < 1000 /\
 D.nx σ (upd H2 a (.ins C dx (d9 f y fs)))
def mS(he:PE X e ta)(hb:attributeBase e f X.env (eval e X.env)=eval e X.env):PE X (.Attribute e f pos) (Gy X.K ta f):=by
 sleep 4;refine My hb (bV (he pins s σ H _ I h) λu s1 z=>?_);let⟨x,H1,I1,rx,a,C,dx,fs,v,ex,ea,c,n,l,q⟩:=z;subst ex;obtain rfl:u=Value.ref a:=rx;exact Co I1 ea c n l λu' s2 I2 ru=>⟨v,H1,I2,ru,q⟩
def Bz(ha:PE X o ta)(hv:PE X value tv)(hs:swapsWith value (some (.Attribute o f pos')) pos.line X.env=pure false):PS X (.Assign [.Attribute o f pos'] value pos) (Ou X.K ta tv f):=by
 sleep 36;refine plainObj_wpAny_Assign_Attribute (bV (hv pins s σ H _ I h) λu s1 ⟨y,H1,I1,ry,q⟩=>bV (ha pins s1 σ H1 _ I1 q) λov s2 z=>?_) hs;let⟨x,H2,I2,rx,a,C,dx,fs,ex,ea,c,n,l,q2⟩:=z;subst ex;obtain rfl:ov=Value.ref a:=rx;exact Cf I2 ea c n l ry λs3 I3=>⟨σ,_,I3,q2⟩
structure cO(k:Nat)(A:Around):Prop where
 hd:A.handled=none
 dp:A.depth+3 * k+5 < recursionLimit
 un:A.units+16 * k+200 < cLine
def cO.mono(r:cO k A)(h:j<=k):cO j A:=⟨r.hd,by have:=r.dp;lia,by have:=r.un;lia⟩
def cO.deeper(r:cO (k+1) A)(env:Env):cO k (A.deeper env) :=
 ⟨r.hd,by have:=r.dp;show A.depth+1+3 * k+5 < _;lia,by have:=r.un;show A.units+3+16 * k+200 < _;lia⟩
def cO.in1(r:cO (k+1) A):cO k A.in1 :=
 ⟨r.hd,by have:=r.dp;show A.depth+3 * k+5 < _;lia,by have:=r.un;show A.units+1+16 * k+200 < _;lia⟩
def CJ{A:ξ}{us:Γ Θ}:(A.under (.builtin "type.__call__" ⟨.ref C::us,kw⟩)).depth=A.depth+1:=by
 first|rfl|simp[Around.under,Code.weight,Code.isCreation,Code.isGuard,Code.isCaller,Code.frames,Code.isFrame,guardIds]
def Cv{A:ξ}{us:Γ Θ}:(A.under (.builtin "type.__call__" ⟨.ref C::us,kw⟩)).units=A.units+1:=by
 first|rfl|simp[Around.under,Code.cUnits,Code.frames,Code.isFrame]
def cO.make(r:cO (k+1) A)(C:Ψ)(us:Γ Θ)(kw:Γ (Str×Θ)):cO k (A.under (.builtin "type.__call__" ⟨.ref C::us,kw⟩)) :=
 ⟨r.hd,by have:=r.dp;rw[CJ];lia,by have:=r.un;rw[Cv];lia⟩
def cO.depth(r:cO k A):A.depth < recursionLimit:=by have:=r.dp;lia
def cO.units(r:cO k A):A.units+64 < cLine:=by have:=r.un;lia
def Fh:TA:=λ_ H Q=>Q [] H
def sj(ta:TE)(tr:TA):TA:=λσ H Q=>ta σ H λx H1=>tr σ H1 λxs H2=>Q (x::xs) H2
def da:PA X [] Fh:=λ_ _ _ _ H Q I h=>Calls.spliced_nil ⟨[],H,I,.nil,h⟩
def bu(ha:PE X e te)(hr:PA X es t)(hs:starEach (e::es) X.env=(false,eval e X.env)::starEach es X.env:=by rfl):PA X (e::es) (sj te t):=by
 intro pos pins s σ H Q I h;rw[hs];show wpAny _ _ (spliced ((false,eval e X.env)::backTo pos (starEach es X.env))) _ _ s;refine Calls.spliced_cons (bV (ha pins s σ H _ I h) λu s1 z=>?_);sleep 30;exact bV (hr pos pins s1 σ H1 _ I1 q1) λus s2 z=>by let⟨xs,H2,I2,r2,q2⟩:=z;exact ⟨x::xs,H2,I2,.cons r1 r2,q2⟩
def PB(t:TA):TE:=λσ H Q=>t σ H λxs H1=>xs.length<=sizeLine/\∀p,H1 p=none->Q (.ref p) (upd H1 p (.tup xs))
def Ue(t:TA):TE:=λσ H Q=>t σ H λxs H1=>xs.length<=sizeLine/\∀p,H1 p=none->Q (.ref p) (upd H1 p (.lst xs))
def w6{x1}(h:PA X es t):PE X (.Tuple es x1 pos) (PB t):=by
 intro pins s σ H Q I hq;refine wpAny_Tuple_spliced (bV (h pos pins s σ H _ I hq) λus s1 ⟨xs,H1,I1,r,z,q⟩=>⟨by rw[<- r.length];exact z,?_⟩);have hf:H1 s1.heap.objs.size=none:=I1.Wn.fresh (yN _);refine⟨.ref s1.heap.objs.size,upd H1 s1.heap.objs.size (.tup xs),I1.laid (t':=s1.toks) (λb u e=>zU _ e) (yN _) ?_,rfl,q _ hf⟩;exact⟨z,us,r,⟨_,zX _ rfl,rfl,_,rfl⟩,_,zX _ rfl,rfl⟩
def QL(h:PA X es t):PE X (.List es pos) (Ue t):=by
 intro pins s σ H Q I hq;refine wpAny_List_spliced (bV (h pos pins s σ H _ I hq) λus s1 ⟨xs,H1,I1,r,z,q⟩=>⟨by rw[<- r.length];exact z,?_⟩);have hf:H1 s1.heap.objs.size=none:=I1.Wn.fresh (yN _);refine⟨.ref s1.heap.objs.size,upd H1 s1.heap.objs.size (.lst xs),I1.laid (t':=s1.toks) (λb u e=>zU _ e) (yN _) ?_,rfl,q _ hf⟩;exact⟨z,us,0,r,zX _ rfl⟩
abbrev Sp:=Γ V->Hp->VK->XK->Prop
abbrev M7:=Γ Env->Hp->Ξ->XK->Θ->Ξ->Prop
structure BN(P:Program)(w:World)(K:W.Frag)(mg:Str->Option Value)(base:Heap)(A:Around)(outer:List Env)(s:Shared)(H:Hp):Prop where
 frames:A.frames=some outer
 mod:Mod K mg base
 bs:∀b o,base.get? b=some o->s.heap.get? b=some o/\H b=none
 ZE:base.objs.size<=s.heap.objs.size
 Xf:s.heap.FunFrames base outer
 frf:∀b∈Hf outer,H b=none
 Wn:qj P w H s.heap
 bare:AllBare s.gens
def CE(outer:Γ Env)(P:ε)(w:δ)(H:Hp)(s:Ξ)(Q:VK)(u:Θ)(s':Ξ):Prop :=
 ∃v H',s'.os=s.os/\AllBare s'.gens/\Un (Hf outer) [] H H' s.heap s'.heap/\qj P w H' s'.heap/\RelV v u/\Q v H'
def CR(CX:M7)(outer:Γ Env)(P:ε)(w:δ)(H:Hp)(s:Ξ)(Q:VK)(E:XK)(r:Result)(s':Ξ):Prop :=
 match r with
 | .ok (.ret u)=>CE outer P w H s Q u s'
 | .ok _=>False
 | .error e=>CX outer H s E e s'
structure eZ(P:Program)(w:World)(K:W.Frag)(mg:Str->Option Value)(base:Heap)(CX:M7)(k:Nat)(f:Addr)(fd:FuncData)(ps:List Str)(sp:Sp):Prop where
 len:∀vs H Q E,sp vs H Q E->vs.length=ps.length
 run:∀ (A:ξ) (outer:Γ Env) (s:Ξ) (H:Hp) (args:Args) (us:Γ Θ) (vs:Γ V) (Q:VK) (E:XK),cO k A->BN P w K mg base A outer s H->BindsTo s fd args (ps.zip us)->aH vs us->sp vs H Q E ->
  codeAny (model P w) A (.call (.ref f) args) (CR CX outer P w H s Q E) s
def eZ.mono{K:Φ}(F:eZ P w K mg base CX j f fd ps sp)(h:j<=k) :
  eZ P w K mg base CX k f fd ps sp:=⟨F.len,λA outer s H args us vs Q E hr=>F.run A outer s H args us vs Q E (hr.mono h)⟩
def BN.make{K:Φ}(e:BN P w K mg base A outer s H)(C:Ψ)(us:Γ Θ)(kw:Γ (Str×Θ)) :
  BN P w K mg base (A.under (.builtin "type.__call__" ⟨.ref C::us,kw⟩)) outer s H:=⟨by first|exact e.frames|(simpa [Around.under,Code.envs,Code.isFrame,pushEnvs] using e.frames),e.mod,e.bs,e.ZE,e.Xf,e.frf,e.Wn,e.bare⟩
def Inv.abE(I:Inv X pins σ H s):BN X.prog X.w X.K X.mg X.base X.A X.stack s H :=
 ⟨I.ok.frames,I.ok.mod,I.bs,yD I.ok.ZE I.sz,I.stack,I.XM,I.Wn,I.bare⟩
def Inv.after(I:Inv X pins σ H s)(h:CE X.stack X.prog X.w H s Q u s'):EP X pins σ Q u s':=by
 let⟨v,H',os,bare,un,Wn,r,q⟩:=h;let⟨hh,g,d,t,Ws⟩:=s';obtain rfl:Ws=s.os:=os;exact⟨v,H',I.call (h':=hh) (g':=g) (d':=d) (t':=t) (ch:=[]) un Wn bare (λb z=>absurd z (by simp)),r,q⟩
def R5(sp:Sp)(XG:Γ V)(E:XK)(t:TA):TE:=λσ H Q=>t σ H λvs H1=>sp (vs++XG) H1 Q E
def HH(C:Ψ)(m:Str)(sp:Sp)(XG:Γ V)(E:XK)(ta:TE)(t:TA):TE:=λσ H Q=>ta σ H λx H1=>∃a dx fs,x=.ref a/\H1 a=some (.ins C dx fs)/\fs.lookup m=none /\
 t σ H1 λvs H2=>sp (x::(vs++XG)) H2 Q E
def S5(C:Ψ)(sp:Sp)(XG:Γ V)(E:XK)(t:TA):TE:=λσ H Q=>t σ H λvs H1=>∀x dx,H1 x=none->H1 dx=none->dx≠x ->
 sp (.ref x::(vs++XG)) (upd (upd H1 dx (.own x)) x (.ins C dx [])) (λv H2=>v=.Wh/\Q (.ref x) H2) E
def Binds(K:Φ)(fd:η)(ps:Γ Str)(ds:Γ Θ):Prop :=
 ∀ (s:Ξ) (us:Γ Θ),K.In s.heap->(us++ds).length=ps.length->BindsTo s fd ⟨us,[]⟩ (ps.zip (us++ds))
def Binds.all{K:Φ}(h:∀us:Γ Θ,us.length=ps.length->bindArgs fd ⟨us,[]⟩=pure (ps.zip us)):Binds K fd ps []:=λs us _ hl=>by
 rw[qG] at hl ⊢;exact .of_eq (h us hl)
def mR(CX:M7)(X:Cx)(E:XK):Prop:=∀ (pins:Γ (Ψ×Obj)) (σ:St) (H:Hp) (s:Ξ) (e:Θ) (s':Ξ),Inv X pins σ H s->CX X.stack H s E e s'->X.xe e s'
def CN(F:eZ X.prog X.w X.K X.mg X.base CX k f fd ps sp)(hr:cO k X.A)(hb:Binds X.K fd ps ds)(hd:aH XG ds)(hx:mR CX X E)
  (I:Inv X pins σ H s) (r:aH vs us) (h:sp (vs++XG) H Q E):wpAny (model X.prog X.w) X.A (call (.ref f) us) (EP X pins σ Q) X.xe s:=by
 have r2:aH (vs++XG) (us++ds):=r.append hd;have hl:(us++ds).length=ps.length:=by rw[<- r2.length];exact F.len _ _ _ _ h
 refine wpAny_call (jS (F.run X.A X.stack s H ⟨us,[]⟩ (us++ds) (vs++XG) Q E hr I.abE (hb s us I.XC hl) r2 h) λr s' hq=>?_);cases r with
 | error e=>exact hx pins σ H s e s' I hq
 | ok fl =>
  cases fl with
  | ret u=>exact I.after hq
  | next=>exact False.elim hq
  | brk=>exact False.elim hq
  | cont=>exact False.elim hq
def Do(F:eZ X.prog X.w X.K X.mg X.base CX k f fd ps sp)(hr:cO k X.A)(hg:Gl X x)(hm:X.mg x=some (.ref f))(hk:W.keepIn X.K (.ref f)=true)(hb:Binds X.K fd ps ds)(hd:aH XG ds)(hx:mR CX X E)
  (ha:PA X (e::es) t) (Xx:(x == ("__debug__":Str))=false:=by decide) (he:starEach (e::es) X.env=(false,eval e X.env)::starEach es X.env:=by rfl) (WU:(backTo pos (starEach es X.env)).any (·.1)=false:=by rfl) :
  PE X (.Call (.Name x p) (e::es) [] pos) (R5 sp XG E t):=by
 sleep 4;refine qZ (zd I hg hm ?_ Xx);refine W.callWith_K (h₀:=X.base) I.ok.mod.Z6 hk (bV (ha pos pins s σ H _ I h) λus s1 ⟨vs,H1,I1,r,q⟩=>⟨I1.XC,?_⟩) he WU;exact CN F hr hb hd hx I1 r q
def Dj{pl:Sem θ}(he:PE X o ta)(c:qw X.K C)(hm:wb X.K C m f)(F:eZ X.prog X.w X.K X.mg X.base CX k f fd ps sp)(hr:cO k X.A)(hb:Binds X.K fd ps ds)(hd:aH XG ds)(hx:mR CX X E)(ha:PA X (e::es) t)
  (X1:starEach (e::es) X.env=(false,eval e X.env)::starEach es X.env:=by rfl) (WU:(backTo pos (starEach es X.env)).any (·.1)=false:=by rfl)
  (ht:eval (.Call (.Attribute o m apos) (e::es) [] pos) X.env=(do
   let ov <- eval o X.env
   standAt apos.atName
   let (f,first) <- holding [ov] (getMethod ov m pl)
   callWith pos f first (backTo pos (starEach (e::es) X.env)) (backToKw pos (keywordEach [] X.env))):=by rfl) :
  PE X (.Call (.Attribute o m apos) (e::es) [] pos) (HH C m sp XG E ta t):=by
 sleep 4;refine W.methodCall_KW (pl:=pl) (bV (he pins s σ H _ I h) λu s1 z=>?_) ht;let⟨x,H1,I1,rx,a,dx,fs,ex,ea,l,q⟩:=z;subst ex;obtain rfl:u=Value.ref a:=rx;refine rR I1 ea c hm l ?_;refine W.callWith_K (first:=[.ref a]) (h₀:=X.base) I.ok.mod.Z6 hm.kp (bV (ha pos pins s1 σ H1 _ I1 q) λus s2 ⟨vs,H2,I2,r,q2⟩=>⟨I2.XC,?_⟩) X1 WU;exact CN (us:=.ref a::us) (vs:=.ref a::vs) F hr hb hd hx I2 (.cons rfl r) q2
def GT(he:PE X o ta)(c:qw X.K C)(hm:wb X.K C m f)(F:eZ X.prog X.w X.K X.mg X.base CX k f fd ps sp)(hr:cO k X.A)(hb:Binds X.K fd ps ds)(hd:aH XG ds)(hx:mR CX X E)
  (ht:eval (.Call (.Attribute o m apos) [] [] pos) X.env=(do
   let ov <- eval o X.env
   standAt apos.atName
   let (f,first) <- holding [ov] (getMethod ov m pl)
   callWith pos f first (backTo pos (starEach [] X.env)) (backToKw pos (keywordEach [] X.env))):=by rfl) :
  PE X (.Call (.Attribute o m apos) [] [] pos) (HH C m sp XG E ta Fh):=by
 sleep 4;refine W.methodCall_KW (pl:=pl) (bV (he pins s σ H _ I h) λu s1 z=>?_) ht;let⟨x,H1,I1,rx,a,dx,fs,ex,ea,l,q⟩:=z;subst ex;obtain rfl:u=Value.ref a:=rx;refine rR I1 ea c hm l ?_;exact W.callWith_K0 (first:=[.ref a]) I1.XC hm.kp (CN (us:=[.ref a]) (vs:=[.ref a]) F hr hb hd hx I1 (.cons rfl .nil) q)
structure Mk(K:W.Frag)(C f:Addr):Prop where
 makes:W.makesIn K C=true
 init:W.findIn K (.ref C) "__init__"=some (some (.ref f))
 fn:W.isFn K (.ref f)=true
 kp:W.keepIn K (.ref C)=true
def GB(M:Mk X.K C f)(F:eZ X.prog X.w X.K X.mg X.base CX k f fd ps sp)(hr:cO (k+1) X.A)(hb:Binds X.K fd ps ds)(hd:aH XG ds)
  (hx:mR CX X E) (I:Inv X pins σ H s) (r:aH vs us)
  (h:∀x dx,H x=none->H dx=none->dx≠x->sp (.ref x::(vs++XG)) (upd (upd H dx (.own x)) x (.ins C dx [])) (λv H2=>v=.Wh/\Q (.ref x) H2) E) :
  wpAny (model X.prog X.w) X.A (call (.ref C) us) (EP X pins σ Q) X.xe s:=by
 have hq:=h (s.heap.objs.size+1) s.heap.objs.size (I.Wn.fresh (Nat.le_succ _)) (I.Wn.fresh (yN _)) (yS (kO _));have I2:=Inv.made (C:=C) I;have r2:aH (V.ref (s.heap.objs.size+1)::(vs++XG)) (Value.ref (s.heap.objs.size+1)::(us++ds)):=.cons rfl (r.append hd);have hl:(Value.ref (s.heap.objs.size+1)::us++ds).length=ps.length:=by
  have e:=r2.length;rw[F.len _ _ _ _ hq] at e;exact e.symm
 refine wpAny_call (JK (f:=f) I.XC M.makes M.init (beq_iff_eq.mp M.fn) (jS (F.run _ X.stack _ _ ⟨Value.ref (s.heap.objs.size+1)::us,[]⟩ (Value.ref (s.heap.objs.size+1)::(us++ds)) _ _ E (hr.make C us [])
  (I2.abE.make C us []) (hb _ (Value.ref (s.heap.objs.size+1)::us) I2.XC hl) r2 hq) λr s' Z9=>?_))
 cases r with
 | error e=>exact hx pins σ _ _ e s' I2 Z9
 | ok fl =>
  cases fl with
  | ret u =>
   let⟨v,H',I3,rv,ev,q3⟩:=I2.after Z9;subst ev;exact⟨rv,⟨V.ref (s.heap.objs.size+1),H',I3,rfl,q3⟩⟩
  | next=>exact False.elim Z9
  | brk=>exact False.elim Z9
  | cont=>exact False.elim Z9
def LD(M:Mk X.K C f)(F:eZ X.prog X.w X.K X.mg X.base CX k f fd ps sp)(hr:cO (k+1) X.A)(hg:Gl X x)(hm:X.mg x=some (.ref C))(hb:Binds X.K fd ps ds)(hd:aH XG ds)(hx:mR CX X E)
  (ha:PA X (e::es) t) (Xx:(x == ("__debug__":Str))=false:=by decide) (he:starEach (e::es) X.env=(false,eval e X.env)::starEach es X.env:=by rfl) (WU:(backTo pos (starEach es X.env)).any (·.1)=false:=by rfl) :
  PE X (.Call (.Name x p) (e::es) [] pos) (S5 C sp XG E t):=by
 sleep 4;refine qZ (zd I hg hm ?_ Xx);refine W.callWith_K (h₀:=X.base) I.ok.mod.Z6 M.kp (bV (ha pos pins s σ H _ I h) λus s1 ⟨vs,H1,I1,r,q⟩=>⟨I1.XC,?_⟩) he WU;exact GB M F hr hb hd hx I1 r q
structure bE(N P:List Str)(sc:Scope):Prop where
 kind:sc.kind=.function
 co:sc.isCoroutine=false
 gen:sc.isGenerator=false
 nd:N.Nodup
 pre:N.take P.length=P
 par:∀x∈P,sc.names.lookup x=some .local \/ sc.names.lookup x=some .cell
 aaD:∀y∈sc.names,y.2≠.free
def u9{kindOf:Str->Δ NameKind}:∀ {binds:Γ (Str×Θ)}{m:Str->Δ Θ},(∀v,(x,v)∉binds)->bindL kindOf binds m x=m x
 | [],_,_=>rfl
 | (n,v)::r,m,h=>by
  unfold bindL;rw[u9 λw hw=>h w (zC _ hw)];split
  ·have:x≠n:=by rintro rfl;exact h v zE
   simp[this]
  ·rfl
def v7{kindOf:Str->Δ NameKind}:∀ {binds:Γ (Str×Θ)}{m:Str->Δ Θ},(∀v,(x,v)∉binds)->bindC kindOf binds m x=m x
 | [],_,_=>rfl
 | (n,v)::r,m,h=>by
  unfold bindC;rw[v7 λw hw=>h w (zC _ hw)];split
  ·rfl
  ·have:x≠n:=by rintro rfl;exact h v zE
   simp[this]
def uJ{kindOf:Str->Δ NameKind}:∀ {P:Γ Str}{vs:Γ Θ}{i:Nat}{m:Str->Δ Θ},P.Nodup->P[i]?=some x->vs[i]?=some v->kindOf x=some .local ->
  bindL kindOf (P.zip vs) m x=some v
 | [],_,_,_,_,h,_,_=>by simp at h
 | _::_,[],_,_,_,_,h,_=>by simp at h
 | p::P,w::vs,0,m,nd,h1,h2,hk=>by
  simp at h1 h2;subst h1;subst h2;show bindL kindOf ((p,w)::P.zip vs) m p=_;unfold bindL;rw[u9 λv hv=>(List.nodup_cons.mp nd).1 (vS hv).1,yM hk];simp
 | p::P,w::vs,i+1,m,nd,h1,h2,hk=>by
  show bindL kindOf ((p,w)::P.zip vs) m x=_;unfold bindL;exact uJ (i:=i) (List.nodup_cons.mp nd).2 (by simpa using h1) (by simpa using h2) hk
def vz{kindOf:Str->Δ NameKind}:∀ {P:Γ Str}{vs:Γ Θ}{i:Nat}{m:Str->Δ Θ},P.Nodup->P[i]?=some x->vs[i]?=some v->kindOf x≠some .local ->
  bindC kindOf (P.zip vs) m x=some v
 | [],_,_,_,_,h,_,_=>by simp at h
 | _::_,[],_,_,_,_,h,_=>by simp at h
 | p::P,w::vs,0,m,nd,h1,h2,hk=>by
  simp at h1 h2;subst h1;subst h2;show bindC kindOf ((p,w)::P.zip vs) m p=_;unfold bindC;rw[v7 λv hv=>(List.nodup_cons.mp nd).1 (vS hv).1,yO hk];simp
 | p::P,w::vs,i+1,m,nd,h1,h2,hk=>by
  show bindC kindOf ((p,w)::P.zip vs) m x=_;unfold bindC;exact vz (i:=i) (List.nodup_cons.mp nd).2 (by simpa using h1) (by simpa using h2) hk
def start(N:Γ Str)(vs:Γ V):St:=vs.map some++List.replicate (N.length - vs.length) none
def xy(CX:M7)(P:ε)(w:δ)(K:Φ)(mg:Str->Δ Θ)(base:ι)(N:Γ Str)(qual:Str)(scope:ζ)(f:Ψ)(cd:Θ)(A:ξ)(outer:Γ Env)(s:Ξ)(H:Hp)(E:XK):Cx where
 prog:=P
 w:=w
 K:=K
 mg:=mg
 base:=base
 A:=A.deeper (envOfC qual scope s.heap.objs.size f cd)
 N:=N
 WI:=s
 H₀:=H
 env:=envOfC qual scope s.heap.objs.size f cd
 outer:=outer
 stack:=envOfC qual scope s.heap.objs.size f cd::outer
 ex:=[]
 calm:=true
 fn:=λ_=>true
 pn:=[]
 xe:=λe s'=>wpAny (model P w) (A.deeper (envOfC qual scope s.heap.objs.size f cd)) (leaving (envOfC qual scope s.heap.objs.size f cd) e) (λ_ Yd=>CX outer H s E e Yd) (λe' Yd=>CX outer H s E e' Yd) s'
def rS{sc:ζ}{n:Nat}(h:sc.names.lookup x=some .cell):∃c,(cellsFrom n sc.names []).lookup x=some c:=by
 have q:=W.cellsFrom_some sc.names n [] (.inl h);exact Option.isSome_iff_exists.mp q
def Fp{CX:M7}{K:Φ}{mg:Str->Δ Θ}{ps:Γ Str}{scope:ζ}{cd:Θ}{A:ξ}{outer:Γ Env}{s:Ξ}{E:XK}{us:Γ Θ}{vs:Γ V}
  (S:bE N ps scope) (hd:A.handled=none) (e0:BN P w K mg base A outer s H) (hl:vs.length=ps.length) (r:aH vs us)
  (x:InCallC s s.heap.objs.size (bindL (envOfC qual scope s.heap.objs.size f cd).kindOf (ps.zip us) λ_=>none) (cellsFrom (s.heap.objs.size+1) scope.names []) (bindC (envOfC qual scope s.heap.objs.size f cd).kindOf (ps.zip us) λ_=>none) s1) :
  Inv (xy CX P w K mg base N qual scope f cd A outer s H E) [] (start N vs) H s1:=by
 have WU:ps.length<=N.length:=by have:=jD List.length S.pre;rw[jW] at this;lia
 let⟨h1,tk,rfl,hk⟩:=x.done;have Zv:∀b:Ψ,b∉(xy CX P w K mg base N qual scope f cd A outer s H E).ex:=λb z=>absurd (show b∈([]:Γ Ψ) from z) (by simp);refine⟨⟨e0.mod,S.kind,rfl,rfl,yN _,λy z c h1 h2=>?_,λy hy=>?_,λy c _ h=>?_,λ_=>hd,Around.frames_deeper e0.frames,.inr ⟨rfl,rfl⟩,λb z=>absurd z (Zv b),e0.bs,e0.ZE,λb _ _=>Zv b,λb z=>absurd z (Zv b),e0.Xf,e0.frf⟩,
  rfl,e0.bare,Un.kept hk,⟨_,x.toInCall.ns,λi y v h1 h2 h3=>?_⟩,λy c h=>⟨_,x.cell y c h⟩,e0.Wn.fresh (yN _),λy c h=>?_,λp hp=>absurd (show p∈([]:Γ (Ψ×Obj)) from hp) (by simp),e0.Wn.kept hk,?_⟩
 ·exact name_of_addr x.apart (kA h1) (kA h2)
 ·have hy:scope.names.lookup y=some .cell\/scope.names.lookup y=some .free:=hy;rcases hy with hy|hy
  ·exact rS hy
  ·exact absurd rfl (S.aaD _ (kA hy))
 ·exact jT (x.above y c (kA h))
 ·have hi:i < vs.length:=by
   unfold start at h2;by_cases hi:i < vs.length
   ·exact hi
   ·rw[yU (by simpa using hi)] at h2;rw[yY] at h2;split at h2<;>cases h2
  have ha:vs[i]?=some v:=by
   unfold start at h2;rw[yT (by simpa using hi),zO] at h2;cases e:vs[i]? with
   | none=>rw[e] at h2;cases h2
   | some a=>rw[e] at h2;cases h2;rfl
  let⟨u,hu,rv⟩:=r.get ha;have hp:ps[i]?=some y:=by
   rw[<- S.pre,List.getElem?_take_of_lt (by lia)];exact h1
  have ndP:ps.Nodup:=by rw[<- S.pre];exact S.nd.sublist (List.take_sublist _ _)
  refine⟨u,rv,?_⟩;rcases S.par y (qC hp) with k|k
  ·exact .inl ⟨k,uJ ndP hp hu k⟩
  ·let⟨c,e⟩:=rS (n:=s.heap.objs.size+1) k;refine .inr ⟨.inl k,c,e,?_⟩;have q:=x.cell y c e;rw[vz ndP hp hu (by show scope.names.lookup y≠_;rw[k];decide)] at q;exact q
 ·exact e0.Wn.fresh (jT (x.above y c (kA h)))
 ·unfold start;show _=N.length;rw[zN,zD,xN];lia
def CY{K:Φ}{kV:Θ}
  {Ye:Array (Δ Θ)}{N ps:Γ Str}{sp:Sp}(lk:K.lookup f=some ⟨oc,od,.func (W.fnOf name qual params body scope dV kV doc pm an WR ct),Ye⟩) (WB:W.codeIn K WR qual=true) (S:bE N ps scope)
  (len:∀vs H Q E,sp vs H Q E->vs.length=ps.length)
  (abF:∀ (A:ξ) (outer:Γ Env) (s:Ξ) (H:Hp) (vs:Γ V) (Q:VK) (E:XK),cO k (A.deeper (envOfC qual scope s.heap.objs.size f WR))->sp vs H Q E ->
   ∃t,zi (xy CX P w K mg base N qual scope f WR A outer s H E) body t/\t { nx:=λ_ H'=>Q .Wh H',rt:=Q } (start N vs) H) :
  eZ P w K mg base CX (k+1) f (W.fnOf name qual params body scope dV kV doc pm an WR ct) ps sp:=by
 refine⟨len,λA outer s H args us vs Q E hr e0 hb r hsp=>?_⟩;have hl:=len _ _ _ _ hsp;have KX:K.In s.heap:=e0.mod.Z6.keeps λb o e=>(e0.bs b o e).1;have lim:s.heap.NoLimit:=e0.mod.nolimit.keeps λb o e=>(e0.bs b o e).1;have abG:∀y∈ps.zip us,scope.names.lookup y.1=some .local \/ (scope.names.lookup y.1=some .cell/\((cellsFrom (s.heap.objs.size+1) scope.names []).lookup y.1).isSome=true):=λz hy=>by
  let⟨n,v⟩:=z
  rcases S.par n (vS hy).1 with q|q
  ·exact .inl q
  ·exact .inr ⟨q,W.cellsFrom_some _ _ _ (.inl q)⟩
 refine codeAny_call_function hr.depth (KX _ _ lk) rfl S.co S.gen rfl (W.codeRec_of KX WB) (hb _ _ _ _ ?_);refine wpAny_newFunctionEnv_cells S.kind abG λenv he s1 x=>?_;subst he;refine⟨lim.keeps x.toInCall.keep,codeAny_func ?_⟩;let⟨t,ht,hq⟩:=abF A outer s H vs Q E (hr.deeper _) hsp;have I:Inv (xy CX P w K mg base N qual scope f WR A outer s H E) [] (start N vs) H s1:=Fp S hr.hd e0 hl r x;refine xB (ht [] s1 (start N vs) H _ I hq) (λfl s' hs=>?_) λe s' hs=>hs;have fin:∀ {σ':St}{H':Hp}{v:V}{u:Θ},Inv (xy CX P w K mg base N qual scope f WR A outer s H E) [] σ' H' s'->RelV v u->Q v H'->CE outer P w H s Q u s' :=
  λ{σ' H' v u} J rv q=>⟨v,H',J.os,J.bare,J.base,J.Wn,rv,q⟩
 cases fl with
 | ret u =>
  let⟨v,σ',H',J,rv,q⟩:=hs;exact fin J rv q
 | next =>
  let⟨σ',H',J,q⟩:=hs;exact fin (v:=V.Wh) (u:=Value.none) J rfl q
 | brk =>
  let⟨_,_,_,q⟩:=hs;exact False.elim q
 | cont =>
  let⟨_,_,_,q⟩:=hs;exact False.elim q
section
variable {id T:String}
def TX(r:Γ V->Hp->VK->Prop)(t:TA):TE:=λσ H Q=>t σ H λvs H1=>r vs H1 Q
def lJ(hc:gg X (.builtin id) r)(hg:Gl X x)(hm:X.mg x=none)(hv:bootBuiltins x=some (.builtin id))(ha:PA X (e::es) t)(hn:x≠"__name__":=by decide)(Xx:(x == ("__debug__":Str))=false:=by decide)
  (he:starEach (e::es) X.env=(false,eval e X.env)::starEach es X.env:=by rfl) (WU:(backTo pos (starEach es X.env)).any (·.1)=false:=by rfl):PE X (.Call (.Name x p) (e::es) [] pos) (TX r t):=by
 sleep 4;refine qZ (jt I hg hm hv ?_ hn Xx);exact PyProof.Rows.callWith_builtin1 (bV (ha pos pins s σ H _ I h) λus s1 z=>by let⟨vs,H1,I1,r1,q1⟩:=z;exact hc pins s1 σ H1 vs us Q I1 r1 q1) he WU
def vm(hc:gg X (.type T) r)(hg:Gl X x)(hm:X.mg x=none)(hv:bootBuiltins x=some (.type T))(ha:PA X (e::es) t)(hn:x≠"__name__":=by decide)(Xx:(x == ("__debug__":Str))=false:=by decide)
  (he:starEach (e::es) X.env=(false,eval e X.env)::starEach es X.env:=by rfl) (WU:(backTo pos (starEach es X.env)).any (·.1)=false:=by rfl):PE X (.Call (.Name x p) (e::es) [] pos) (TX r t):=by
 sleep 4;refine qZ (jt I hg hm hv ?_ hn Xx);exact qT (bV (ha pos pins s σ H _ I h) λus s1 z=>by let⟨vs,H1,I1,r1,q1⟩:=z;exact hc pins s1 σ H1 vs us Q I1 r1 q1) he WU
end
end L2
namespace HT
open PySem PyProof.Rows
def lexLt:Γ Int->Γ Int->θ
 | [],[]=>false
 | [],_::_=>true
 | _::_,[]=>false
 | x::xs,y::ys=>if x=y then lexLt xs ys else decide (x < y)
def eC(x y:Int)(xs ys:Γ Int):lexLt (x::xs) (y::ys)=if x=y then lexLt xs ys else decide (x < y):=rfl
section
open PySem.SeqAt
open PySem.AutoSeq1 (wpAny_loadPart')
open PySem.MeetsSeq PySem.MeetsSeq2 PySem.MeetsSeq3
end
def LR(ht:IsTup s.heap t vs.toArray)(hb:IsTup s.heap b ws.toArray)(hv:vs≠[])
  (h1:ws=[]->Q (.ref t) s) (h2:ws≠[]->Q (.ref s.heap.objs.size) { s with heap:=s.heap.push { cls:=.type "tuple",data:=.seq (vs++ws).toArray } })
  (hsz:vs.length+ws.length<=sizeLine):wpAny (model prog w) A (binaryOp .Add (.ref t) (.ref b)) Q E s:=by
 let⟨⟨cls,dd,data,sl⟩,ho,hc,n,hd⟩:=id ht;let⟨⟨abH,dd2,data2,sl2⟩,Zw,YO,n2,hd2⟩:=id hb;simp only at hc hd YO hd2;subst hc hd YO hd2;have e:vs.toArray++ws.toArray=(vs++ws).toArray:=by simp
 by_cases hw:ws=[]
 ·exact wM ⟨_,ho,rfl⟩ ⟨_,Zw,rfl⟩ noFill_tuple_add seq_tuple_add vL vH (vF _ _)
   (tuple_addW1 t b vs.toArray ws.toArray n n2 dd dd2 sl sl2 (by simpa using hv) (by simp[hw])) ⟨ho,Zw,h1 hw⟩
 ·refine wM ⟨_,ho,rfl⟩ ⟨_,Zw,rfl⟩ noFill_tuple_add seq_tuple_add vL vH (vF _ _)
   (tuple_addW2 t b vs.toArray ws.toArray n n2 dd dd2 sl sl2 (by simpa using hv) (by simpa using hw) (by rw[zH,zH];exact hsz)) ⟨ho,Zw,?_⟩
  rw[e];exact h2 hw
def dF(n d:Nat):Δ Int->Nat
 | none=>d
 | some v=>if v < 0 then (v+(n:Int)).toNat else min v.toNat n
def Al(n d:Nat):dF n d none=d:=rfl
def DN(n d k:Nat):dF n d (some (k:Int))=min k n:=by
 show (if (k:Int) < 0 then ((k:Int)+(n:Int)).toNat else min (k:Int).toNat n)=min k n;rw[yO (by lia),yG]
def Pe(n d:Nat)(hd:d<=n)(o:Δ Int):dF n d o<=n:=by
 cases o with
 | none=>exact hd
 | some v =>
  show (if v < 0 then (v+(n:Int)).toNat else min v.toNat n)<=n;by_cases hv:v < 0
  ·rw[yM hv];lia
  ·rw[yO hv];exact Nat.min_le_right _ _
def Da(v:Int)(n d:Nat):(if v < 0 then max (v+(n:Int)) 0 else min v (n:Int))=((dF n d (some v):Nat):Int):=by
 show (if v < 0 then max (v+(n:Int)) 0 else min v (n:Int))=(((if v < 0 then (v+(n:Int)).toNat else min v.toNat n):Nat):Int)
 by_cases hv:v < 0
 ·simp?[yM hv];lia
 ·simp?[yO hv];lia
def BM(lo hi:Δ Int)(n:Nat):Builtin.Slice.sliceAdjust lo hi 1 (n:Int)=(((dF n 0 lo:Nat):Int),((dF n n hi:Nat):Int)):=by
 have h1:¬ ((1:Int) < 0):=by lia
 unfold Builtin.Slice.sliceAdjust;simp?[h1,qQ];refine Prod.ext ?_ ?_
 ·cases lo with
  | none=>rfl
  | some v=>exact Da v n 0
 ·cases hi with
  | none=>rfl
  | some v=>exact Da v n n
def Cb(i j:Nat):Builtin.Slice.slicePlaces (i:Int) (j:Int) 1=j - i:=by
 unfold Builtin.Slice.slicePlaces;have h1:(1:Int) > 0:=by lia
 simp?[h1,xI,Int.ediv_one];split<;>lia
def tP(p:IsPart v o)(h:Q o s):wpAny (model prog w) A (Builtin.Slice.slicePartIndex v) Q E s:=by
 cases p with
 | none=>exact slicePart_none h
 | int i t=>exact slicePart_int h
def iP{vl:Θ}{lo hi:Δ Int}{n:Nat}{Q:Int×Int×Nat->Ξ->Prop}(hs:s.heap.IsSliceOf sl vl vu .none)(pl:IsPart vl lo)(pu:IsPart vu hi)
  (h:Q (((dF n 0 lo:Nat):Int),1,dF n n hi - dF n 0 lo) s):wpAny (model prog w) A (Builtin.Slice.sliceApplied (.ref sl) (pure (n:Int))) Q E s:=by
 let⟨os,hos,hcs,hds⟩:=id hs;unfold Builtin.Slice.sliceApplied Builtin.Slice.sliceFields;refine zV (zV (qU hos hds (x:=vl) rfl (zV (qU hos hds (x:=vu) rfl (zV (qU hos hds (x:=.none) rfl (zW ?_)))))));refine zV (slicePart_none ?_);show wpAny _ _ (if ((1:Int) == 0)=true then _ else _) _ _ s;rw[yO (by decide)];refine zV (tP pl (zV (tP pu (zV (zW ?_)))));show wpAny _ _ (match Builtin.Slice.sliceAdjust lo hi 1 (n:Int) with|(lo,hi)=>pure (lo,(1:Int),Builtin.Slice.slicePlaces lo hi 1)) _ _ s;rw[BM lo hi n];show wpAny _ _ (pure (((dF n 0 lo:Nat):Int),(1:Int),Builtin.Slice.slicePlaces ((dF n 0 lo:Nat):Int) ((dF n n hi:Nat):Int) 1)) _ _ s;rw[Cb];exact zW h
def IU(xs:Array Θ)(i k:Nat):((List.range k).filterMap λ(m:Nat)=>xs[((i:Int)+(m:Int) * 1).toNat]?).toArray=((xs.toList.drop i).take k).toArray:=by
 have e:(λ(m:Nat)=>xs[((i:Int)+(m:Int) * 1).toNat]?)=λm=>xs[i+m]?:=by
  funext m;have:((i:Int)+(m:Int) * 1).toNat=i+m:=by lia
  rw[this]
 rw[e];have:=pick_run xs i k;rw[List.filterMap_map] at this;have e2:((λx=>xs[x]?) ∘ λx=>i+x)=λm=>xs[i+m]?:=rfl;rw[e2] at this;rw[this]
def nR{items:Array Θ}{vl:Θ}{lo:Δ Int}(ht:IsTup s.heap t items)(hs:s.heap.IsSliceOf sl vl vu .none)(pl:IsPart vl lo)(pu:IsPart vu hi)
  (hw:¬ (dF items.size 0 lo=0/\dF items.size items.size hi=items.size))
  (h:Q (.ref s.heap.objs.size) { s with heap:=s.heap.push { cls:=.type "tuple",data:=.seq ((items.toList.drop (dF items.size 0 lo)).take (dF items.size items.size hi - dF items.size 0 lo)).toArray } })
  (hsz:items.size<=sizeLine):wpAny (model prog w) A (getItem (.ref t) (.ref sl)) Q E s:=by
 have YB:sizeOk (.seq ((items.toList.drop (dF items.size 0 lo)).take (dF items.size items.size hi - dF items.size 0 lo)).toArray):=by
  show ((items.toList.drop (dF items.size 0 lo)).take (dF items.size items.size hi - dF items.size 0 lo)).toArray.size<=sizeLine;rw[zH,jW,qJ,wD];lia
 have hj:dF items.size items.size hi<=items.size:=Pe _ _ (yN _) hi;let⟨os,hos,hcs,hds⟩:=id hs;have hTs:s.TypeIs (.ref sl) "slice":=⟨os,hos,hcs⟩
 unfold getItem
 try with_reducible refine xY ?_
 first|refine zV (zW ?_)|skip
 refine zV (wpAny_sequenceKey ht.typeIs (by decide) ?_);refine zV (qD (name:=Str.ofString "__getitem__") ht.typeIs jG
  (qX jG ht.typeIs entry_tuple_getitem ?_ (args_tuple_getitem _ _)))
 show wpAny _ _ (Builtin.Tuple.tupleItemsOf (.ref t) >>= _) _ _ s;refine zV (tupleItemsOf_ ht ?_);refine zV (wK hTs ?_);rw[yM (by decide)];refine zV (iP hs pl pu ?_);have hno:¬ ((((dF items.size 0 lo:Nat):Int) == 0&&(1:Int) == 1&&(dF items.size items.size hi - dF items.size 0 lo) == items.size)=true):=by
  intro q;rw[zF,zF] at q;have q1:((dF items.size 0 lo:Nat):Int)=0:=eq_of_beq q.1.1;have q2:dF items.size items.size hi - dF items.size 0 lo=items.size:=eq_of_beq q.2;exact hw ⟨by lia,by lia⟩
 show wpAny _ _ (if (((dF items.size 0 lo:Nat):Int) == 0&&(1:Int) == 1&&(dF items.size items.size hi - dF items.size 0 lo) == items.size)=true then _ else _) _ _ s;rw[yO hno,IU]
 first
  | exact zV (m:=Builtin.Tuple.tupleExact _) (qM (zW ⟨_,rfl,zW h⟩) YB)
  | exact zV (m:=Builtin.Tuple.tupleExact _) (qM (zV (zW (zW ⟨_,rfl,zW h⟩))) YB)
  | exact zV (zV (m:=Builtin.Tuple.tupleExact _) (qM (zW (zW ⟨_,rfl,zW h⟩)) YB))
  | exact zV (zV (m:=Builtin.Tuple.tupleExact _) (qM (zW ⟨_,rfl,zW h⟩) YB))
end HT
namespace L2
open PySem PySem.Spec PyProof.Rows
abbrev TO:=St->Hp->(Δ Int->Hp->Prop)->Prop
def PO(X:Cx)(e:Δ γ)(t:TO):Prop :=
 ∀ (pins:Γ (Ψ×Obj)) (s:Ξ) (σ:St) (H:Hp) (Q:Δ Int->Hp->Prop),Inv X pins σ H s->t σ H Q ->
  wpAny (model X.prog X.w) X.A (evalPart e X.env) (λu s'=>∃o H',Inv X pins σ H' s'/\IsPart u o/\Q o H') X.xe s
def Mu:TO:=λ_ H Q=>Q none H
def R9(t:TE):TO:=λσ H Q=>t σ H λx H1=>∃i,x=.int i/\Q (some i) H1
def intsAre_of:∀ {us:Γ Θ},aH (ns.map V.int) us->IntsAre us ns:=by
 induction ns with
 | nil=>intro us r;rw[yV] at r;cases r;exact .nil
 | cons n ns ih =>
  intro us r;rw[zI] at r;cases r with
  | cons r1 r2 =>
   let⟨t,e⟩:=r1;subst e;exact .cons n t (ih r2)
section
variable {lo hi:Δ γ}
def Lr:PO X none Mu:=by
 sleep 4;rw[evalPart_none];exact zW ⟨none,H,I,.none,h⟩
def LQ(h:PE X e te):PO X (some e) (R9 te):=by
 intro pins s σ H Q I hw;rw[evalPart_some];refine bV (h pins s σ H _ I hw) λu s1 z=>?_;sleep 30;let⟨i,rfl,q⟩:=q1;let⟨t,rfl⟩:=r1;exact⟨some i,H1,I1,.int i t,q⟩
def Nl(X:Cx)(r:V->Δ Int->Δ Int->Hp->VK->Prop):Prop :=
 ∀ (pins:Γ (Ψ×Obj)) (s:Ξ) (σ:St) (H:Hp) (x:V) (v vl vu:Θ) (lo hi:Δ Int) (sl:Ψ) (Q:VK),Inv X pins σ H s->RelV x v->s.heap.IsSliceOf sl vl vu .none->IsPart vl lo->IsPart vu hi->r x lo hi H Q ->
  ∃T id,typeLookup (.type T) "__getitem__"=pure (some (.builtin id))/\s.TypeIs v T/\wpAny (model X.prog X.w) X.A (getItem v (.ref sl)) (EP X pins σ Q) X.xe s
def Nl.or(h:Nl X r)(h':Nl X r'):Nl X (λx lo hi H Q=>r x lo hi H Q\/r' x lo hi H Q):=by
 intro pins s σ H x v vl vu lo hi sl Q I rx hs pl pu q;rcases q with q|q
 ·exact h pins s σ H x v vl vu lo hi sl Q I rx hs pl pu q
 ·exact h' pins s σ H x v vl vu lo hi sl Q I rx hs pl pu q
def V5(r:V->Δ Int->Δ Int->Hp->VK->Prop)(te:TE)(tl th:TO):TE:=λσ H Q=>te σ H λx H1=>tl σ H1 λl H2=>th σ H2 λu H3=>r x l u H3 Q
def IG(hr:Nl X r)(he:PE X e te)(hl:PO X lo tl)(hu:PO X hi th):PE X (.Subscript e (.Slice lo hi none p2) pos) (V5 r te tl th):=by
 sleep 4;refine Subscript_ (bV (he pins s σ H _ I h) λv s1 z=>?_);sleep 30;refine wpAny_Slice (bV (hl pins s1 σ H1 _ I1 q1) λvl s2 ⟨l,H2,I2,pl,q2⟩=>bV (hu pins s2 σ H2 _ I2 q2) λvu s3 z=>?_);let⟨u,H3,I3,pu,q3⟩:=z;rw[evalPart_none];refine zW ?_;have I4:Inv X pins σ H3 { s3 with heap:=s3.heap.push { cls:=.type "slice",data:=.fields #[vl,vu,.none] } }:=I3.kept (t':=s3.toks) λb ob q=>zU _ q;let⟨T,id,hT,ht,hg⟩:=hr pins { s3 with heap:=s3.heap.push { cls:=.type "slice",data:=.fields #[vl,vu,.none] } } σ H3 x v vl vu l u s3.heap.objs.size Q I4 r1 (Heap.IsSliceOf.new ..) pl pu q3;show wpAny (model X.prog X.w) X.A (subscriptTail e (.Slice lo hi none p2) v (.ref s3.heap.objs.size)) (EP X pins σ Q) X.xe { s3 with heap:=s3.heap.push { cls:=.type "slice",data:=.fields #[vl,vu,.none] } };exact tail_any (ops:=[.ref s3.heap.objs.size,v]) ht hT hg (by with_unfolding_all rfl)
def KU(xs:Γ V)(lo hi:Δ Int):Γ V:=(xs.drop (HT.dF xs.length 0 lo)).take (HT.dF xs.length xs.length hi - HT.dF xs.length 0 lo)
def zy(xs:Γ V)(lo hi:Δ Int):(KU xs lo hi).length<=xs.length:=by
 unfold KU;rw[jW,qJ];lia
def UU(K:Φ):V->Δ Int->Δ Int->Hp->VK->Prop:=λx lo hi H Q=>∃a xs,x=.ref a/\gQ K H a xs /\
 ¬ (HT.dF xs.length 0 lo=0/\HT.dF xs.length xs.length hi=xs.length)/\∀p,H p=none->Q (.ref p) (upd H p (.tup (KU xs lo hi)))
def O2:Nl X (UU X.K):=by
 intro pins s σ H x v vl vu lo hi sl Q I rx hs pl pu h;let⟨a,xs,rfl,hx,hw,q⟩:=h;cases rx;let⟨its,r,ht,hz⟩:=I.tuple hx;have hlen:its.toArray.size=xs.length:=by rw[zH];exact r.length.symm
 refine⟨"tuple",_,PyProof.Rows.slot_tuple_getitem.lookup,ht.typeIs,?_⟩;refine HT.nR ht hs pl pu (by rw[hlen];exact hw) ?_ (by rw[hlen];exact hz);rw[hlen];refine⟨.ref s.heap.objs.size,_,I.laid (t':=s.toks) (o:=.tup (KU xs lo hi)) (λb ob q=>zU _ q) (yN _) ?_,rfl,q _ (I.Wn.fresh (yN _))⟩;exact⟨yD (zy xs lo hi) hz,_,(r.drop (HT.dF xs.length 0 lo)).take (HT.dF xs.length xs.length hi - HT.dF xs.length 0 lo),rG.new _ _⟩
def Se(K:Φ):R2:=λx y H Q=>∃a b xs ys,x=.ref a/\y=.ref b/\gQ K H a xs/\gQ K H b ys/\xs≠[]/\xs.length+ys.length<=sizeLine /\
 (ys=[]->Q (.ref a) H)/\(ys≠[]->∀p,H p=none->Q (.ref p) (upd H p (.tup (xs++ys))))
def aH.Xj(r:aH xs us):us=[]↔xs=[]:=by
 cases r with
 | nil=>simp
 | cons _ _=>simp
def Lk:gO X (binaryOp .Add) (Se X.K):=by
 sleep 11;let⟨a,b,xs,ys,rfl,rfl,ha,hb,hx,hz,q1,q2⟩:=h;cases rx;cases ry;let⟨its,r1,p1,_⟩:=I.tuple ha;let⟨Xe,r2,p2,_⟩:=I.tuple hb;refine HT.LR p1 p2 (λz=>hx (r1.Xj.mp z)) (λz=>⟨.ref a,H,I,rfl,q1 (r2.Xj.mp z)⟩) (λz=>?_) (by rw[<- r1.length,<- r2.length];exact hz);refine⟨.ref s.heap.objs.size,_,I.laid (t':=s.toks) (o:=.tup (xs++ys)) (λb ob q=>zU _ q) (yN _) ?_,rfl,q2 (λw=>z (r2.Xj.mpr w)) _ (I.Wn.fresh (yN _))⟩;exact⟨by rw[zN];exact hz,_,r1.append r2,rG.new _ _⟩
end
def HZ(n:Nat)(i:Int):Δ Nat:=if 0<=i then (if i < n then some i.toNat else none) else if -(n:Int)<=i then some (i+n).toNat else none
def uh(xs:Γ α)(i:Int):Δ α:=(HZ xs.length i).bind λj=>xs[j]?
def Dq(h:HZ n i=some j):seqIndex? i n=some j/\j < n/\-(n:Int)<=i/\i < n:=by
 unfold HZ at h;by_cases h0:0<=i
 ·rw[yM h0] at h;by_cases h1:i < n
  ·rw[yM h1] at h;have e:i.toNat=j:=xE h;exact⟨by rw[seqIndex_of h0 h1,e],by lia,by lia,h1⟩
  ·rw[yO h1] at h;cases h
 ·rw[yO h0] at h;by_cases h1:-(n:Int)<=i
  ·rw[yM h1] at h;have e:(i+n).toNat=j:=xE h;exact⟨by rw[seqIndex_neg (by lia) h1,e],by lia,h1,by lia⟩
  ·rw[yO h1] at h;cases h
def wx(h:uh xs i=some v):∃j,seqIndex? i xs.length=some j/\xs[j]?=some v/\j < xs.length/\-(xs.length:Int)<=i/\i < xs.length:=by
 unfold uh at h;cases e:HZ xs.length i with
 | none=>rw[e] at h;cases h
 | some j =>
  rw[e] at h;let⟨h1,h2,h3,h4⟩:=Dq e;exact⟨j,h1,h,h2,h3,h4⟩
def yr{α:Type}{xs:Γ α}{j:Nat}{v:α}(h:xs[j]?=some v):uh xs (j:Int)=some v:=by
 have hj:j < xs.length:=(List.getElem?_eq_some_iff.mp h).1;have e:HZ xs.length (j:Int)=some j:=by
  unfold HZ;rw[yM (by lia),yM (by lia)];simp
 unfold uh;rw[e];exact h
def yi(b:γ):Prop:=∀o i,subscripted b false o i=operate [o,i] (getItem o i)
def Kk(X:Cx)(r:R2):Prop :=
 ∀ (value slice:γ) (pins:Γ (Ψ×Obj)) (s:Ξ) (σ:St) (H:Hp) (x y:V) (v u:Θ) (Q:VK),Inv X pins σ H s->RelV x v->RelV y u->r x y H Q ->
  subscripted slice false v u=operate [v,u] (getItem v u)->wpAny (model X.prog X.w) X.A (subscriptTail value slice v u) (EP X pins σ Q) X.xe s
def Vf(X:Cx)(id:String)(r:V->Γ V->Hp->VK->Prop):Prop :=
 ∀ (pins:Γ (Ψ×Obj)) (s:Ξ) (σ:St) (H:Hp) (x:V) (xs:Γ V) (v:Θ) (us:Γ Θ) (Q:VK),Inv X pins σ H s->RelV x v->aH xs us->r x xs H Q ->
  wpAny (model X.prog X.w) X.A (call (.builtin id) (v::us)) (EP X pins σ Q) X.xe s
section
def Kk.or(h:Kk X r)(h':Kk X r'):Kk X (λx y H Q=>r x y H Q\/r' x y H Q):=by
 intro value slice pins s σ H x y v u Q I rx ry q hs;rcases q with q|q
 ·exact h value slice pins s σ H x y v u Q I rx ry q hs
 ·exact h' value slice pins s σ H x y v u Q I rx ry q hs
def Sv(hr:Kk X r)(ha:PE X a ta)(hb:PE X b tb)(hs:yi b):PE X (.Subscript a b pos) (Rc r ta tb):=by
 sleep 4;exact Subscript_ (QF ha hb I h λv u s2 x y H2 I2 rx ry q=>hr a b pins s2 σ H2 x y v u Q I2 rx ry q (hs _ _))
def SU(K:Φ):R2:=λx y H Q=>∃p xs i v,x=.ref p/\y=.int i/\gN K H p xs/\uh xs i=some v/\Q v H
def Rt(K:Φ):R2:=λx y H Q=>∃p xs i v,x=.ref p/\y=.int i/\gQ K H p xs/\uh xs i=some v/\Q v H
def RB:R2:=λx y H Q=>∃z i c,x=.str z/\y=.int i/\z.length<=sizeLine/\uh z.cps.toList i=some c/\Q (.str ⟨#[c]⟩) H
def Lw:Kk X (SU X.K):=by
 intro value slice pins s σ H x y v u Q I rx ry h hs;let⟨p,xs,i,z,rfl,rfl,hq,he,q⟩:=h;cases rx;let⟨t,rfl⟩:=ry;let⟨its,r,pl,hz⟩:=I.list hq;let⟨j,h1,h2,h3,h4,h5⟩:=wx he;let⟨w,ew,rw'⟩:=r.get h2;have hl:=r.length;have hn:=sx;have fin:EP X pins σ Q w s:=⟨z,H,I,rw',q⟩
 by_cases h0:0<=i
 ·have hj:i.toNat=j:=by
   rw[seqIndex_of h0 h5] at h1;exact xE h1
  exact item_listR pl.isList h0 (by lia) (by rw[hj];simpa using ew) fin hs
 ·have hj:(i+(its.toArray.size:Int)).toNat=j:=by
   rw[seqIndex_neg (by lia) h4] at h1;rw[zH,<- hl];exact xE h1
  exact subscriptTail_builtinR (x:=w) pl.isList.typeIs slot_list_getitem.lookup
   (wpAny_getItem_list_neg (Q:=λr s'=>r=w/\EP X pins σ Q r s') pl.isList (by lia) (by rw[zH]<;>lia) (by lia) (by rw[hj];simpa using ew) ⟨rfl,fin⟩) hs
def sU:Kk X (Rt X.K):=by
 intro value slice pins s σ H x y v u Q I rx ry h hs;let⟨p,xs,i,z,rfl,rfl,hq,he,q⟩:=h;cases rx;let⟨t,rfl⟩:=ry;let⟨its,r,pl,hz⟩:=I.tuple hq;let⟨j,h1,h2,h3,h4,h5⟩:=wx he;let⟨w,ew,rw'⟩:=r.get h2;have hl:=r.length;have hn:=sx;have fin:EP X pins σ Q w s:=⟨z,H,I,rw',q⟩
 exact subscriptTail_builtinR (x:=w) pl.typeIs slot_tuple_getitem.lookup
  (getItem_tuple (j:=j) (Q:=λr s'=>r=w/\EP X pins σ Q r s') pl (by lia) (by lia) (by rw[zH,<- hl];exact h1) (by simpa using ew) ⟨rfl,fin⟩) hs
def Pw:Kk X RB:=by
 intro value slice pins s σ H x y v u Q I rx ry h hs;let⟨z,i,c,rfl,rfl,hz,he,q⟩:=h;let⟨t,rfl⟩:=rx;let⟨t',rfl⟩:=ry;let⟨j,h1,h2,h3,h4,h5⟩:=wx he;have hl:z.cps.toList.length=z.length:=by simp[Str.length]
 rw[hl] at h1 h4 h5;have hn:=sx;exact tail_any (typeIs_str s z t) slot_str_getitem.lookup (getItem_str (c:=c) (by
  have e1:decide (i < -(2 ^ 63:Int))=false:=zZ (by lia);have e2:decide (i >= 2 ^ 63)=false:=zZ (by lia);rw[e1,e2,Bool.or_false]) (by rw[h1];simpa using h2) ⟨.str ⟨#[c]⟩,H,I.tok _,⟨_,rfl⟩,q⟩) hs
def Vw(K:Φ):R2:=λx y H Q=>SU K x y H Q\/Rt K x y H Q\/RB x y H Q
def QA:Kk X (Vw X.K):=Lw.or (sU.or Pw)
def BJ(its:Γ Θ)(n j:Nat)(u:Θ):Obj.mapSeq (·.setIfInBounds j u) { cls:=.type "list",data:=.seq its.toArray n }={ cls:=.type "list",data:=.seq (its.set j u).toArray n }:=by
 simp[Obj.mapSeq]
def Inv.lst(I:Inv X pins σ H s)(h:H p=some (.lst xs)) :
  ∃ (its:Γ Θ) (n:Nat),aH xs its/\s.heap.get? p=some { cls:=.type "list",data:=.seq its.toArray n }/\xs.length<=sizeLine:=by
 let⟨z,its,n,r,e⟩:=I.Wn p _ h;exact⟨its,n,r,e,z⟩
def Inv.aaH{ys:Γ V}{its its':Γ Θ}{n n':Nat}{f:Obj->Obj}(I:Inv X pins σ H s)(h:H p=some (.lst xs))
  (ho:s.heap.get? p=some { cls:=.type "list",data:=.seq its.toArray n }) (hf:f { cls:=.type "list",data:=.seq its.toArray n }={ cls:=.type "list",data:=.seq its'.toArray n' }) (r:aH ys its') (hz:ys.length<=sizeLine) (t:Nat) :
  Inv X pins σ (upd H p (.lst ys)) { s with heap:=s.heap.update p f,toks:=t }:=by
 have e:(s.heap.update p f).get? p=some { cls:=.type "list",data:=.seq its'.toArray n' }:=by
  rw[Heap.get?_update_self f ho (by rw[hf]<;>rfl),hf]
 refine I.write (x:=p) (e:=p) (by rw[h];trivial) (.inl rfl) (λb u hb q=>(xO _ _ (jN hb)).trans q) ⟨_,e⟩ ?_;exact⟨hz,its',n',r,e⟩
def RN:V->V->V->Hp->(Hp->Prop)->Prop:=λo i v H Q=>∃p xs k j,o=.ref p/\i=.int k/\H p=some (.lst xs)/\HZ xs.length k=some j/\Q (upd H p (.lst (xs.set j v)))
def set_list:Qb X RN:=by
 intro pins s σ H o i v ov iv u Q I ro ri rv h;let⟨p,xs,k,j,rfl,rfl,hp,hj,q⟩:=h;cases ro;let⟨t,rfl⟩:=ri;let⟨its,n,r,ho,hz⟩:=I.lst hp;let⟨h1,h2,h3,h4⟩:=Dq hj;have hl:=r.length;have hn:=sx;have I':Inv X pins σ (upd H p (.lst (xs.set j v))) { s with heap:=s.heap.update p (Obj.mapSeq (·.setIfInBounds j u)) } :=
  I.aaH hp ho (BJ its n j u) (r.set rv j) (by rw[yC];exact hz) s.toks
 by_cases h0:0<=k
 ·have hk:k.toNat=j:=by
   rw[seqIndex_of h0 h4] at h1;exact xE h1
  exact W.ki_setAt ho h0 (by lia) (by rw[zH,<- hl];exact h4) (by rw[hk];exact⟨_,I',q⟩)
 ·have hk:(k+(its.toArray.size:Int)).toNat=j:=by
   rw[seqIndex_neg (by lia) h3] at h1;rw[zH,<- hl];exact xE h1
  exact W.ki_setBack ho (by lia) (by rw[zH,<- hl];exact h3) (by lia) (by rw[hk];exact⟨_,I',q⟩)
def nF:gg X (.builtin "len") (λxs H Q=>∃p ys,xs=[.ref p]/\(gN X.K H p ys\/gQ X.K H p ys)/\Q (.int ys.length) H):=by
 sleep 20;let⟨p,ys,rfl,hq,q⟩:=h;sleep 46;cases rx;have hn:=sx;rcases hq with hq|hq
 ·let⟨its,r',pl,hz⟩:=I.list hq;have hlen:=r'.length;exact Calls.call_len_list pl.isList (by simp?[zH]<;>lia) ⟨.int ys.length,H,I.tok _,⟨s.toks+1,by rw[zH,hlen]⟩,q⟩
 ·let⟨its,r',pl,hz⟩:=I.tuple hq;have hlen:=r'.length;exact len_tuple pl (by simp?[zH]<;>lia) ⟨.int ys.length,H,I.tok _,⟨s.toks+1,by rw[zH,hlen]⟩,q⟩
def ux:gg X (.type "tuple") (λxs H Q=>∃p ys,xs=[.ref p]/\((gN X.K H p ys/\∀l,H l=none->Q (.ref l) (upd H l (.tup ys)))\/(gQ X.K H p ys/\Q (.ref p) H))):=by
 sleep 20;let⟨p,ys,rfl,h⟩:=h;sleep 46;cases rx;rcases h with ⟨hq,q⟩|⟨hq,q⟩
 ·let⟨its,r',pl,hz⟩:=I.list hq;have hlen:=r'.length;refine call_tuple_list pl.isList (λh' kp=>?_) (by simp?[zH]<;>lia);have I1:Inv X pins σ H { s with heap:=h' }:=I.kept (t':=s.toks) kp;have I2:Inv X pins σ (upd H h'.objs.size (.tup ys)) { s with heap:=h'.push { cls:=.type "tuple",data:=.seq its.toArray } } :=
   I1.laid (t':=s.toks) (λb o e=>zU _ e) (yN _) (show ej X.prog X.w _ _ _ (.tup ys) from ⟨hz,its,r',rG.new _ _⟩)
  exact⟨.ref h'.objs.size,_,I2,rfl,q _ (I1.Wn.fresh (yN _))⟩
 ·let⟨its,r',pl,hz⟩:=I.tuple hq;exact call_tuple_same pl ⟨.ref p,H,I,rfl,q⟩
def U7(K:Φ)(T:String)(x:V)(H:Hp):Prop:=match x with
 | .str _=>T="str"
 | .int _=>T="int"
 | .ref p=>(T="list"/\∃xs,gN K H p xs)\/(T="tuple"/\∃xs,gQ K H p xs) \/
   (T="dict"/\((∃WH,H p=some (.dK WH))\/∃WH,H p=some (.dT WH)))\/(T="set"/\∃S n,H p=some (.set S n))
 | _=>False
def Ht(I:Inv X pins σ H s)(r:RelV x v)(ty:U7 X.K T x H) :
  s.TypeIs v T/\∀a,v=.ref a->∃ob,s.heap.get? a=some ob/\ob.dict=none:=by
 cases x with
 | str z =>
  let⟨t,rfl⟩:=r;cases (show T="str" from ty);exact⟨typeIs_str s z t,λ_ e=>nomatch e⟩
 | int i =>
  let⟨t,rfl⟩:=r;cases (show T="int" from ty);exact⟨typeIs_int s i t,λ_ e=>nomatch e⟩
 | ref p =>
  cases r;rcases ty with ⟨rfl,xs,hq⟩|⟨rfl,xs,hq⟩|⟨rfl,hk⟩|⟨rfl,S,n,hk⟩
  ·let⟨its,_,pl,_⟩:=I.list hq;refine⟨pl.isList.typeIs,λa e=>?_⟩;cases e;let⟨o,n,e,c,hd,_⟩:=pl;exact⟨o,e,hd⟩
  ·rcases hq with hq|⟨o,its,n,hk,hc,hd,_⟩
   ·let⟨_,_,_,⟨o,e1,e2,_⟩,o2,e3,e4⟩:=hq.ok I.Wn;exact⟨⟨o,e1,e2⟩,λa e=>by cases e;exact⟨o2,e3,e4⟩⟩
   ·exact⟨⟨o,I.XC p o hk,hc⟩,λa e=>by cases e;exact⟨o,I.XC _ o hk,hd⟩⟩
  ·have z:∃o,s.heap.get? p=some o/\o.ExactDict:=by
    rcases hk with ⟨WH,hk⟩|⟨WH,hk⟩
    ·let⟨_,_,_,_,o,_,_,e,ex,_⟩:=I.Wn p _ hk;exact⟨o,e,ex⟩
    ·let⟨_,_,o,_,_,e,ex,_⟩:=I.Wn p _ hk;exact⟨o,e,ex⟩
   let⟨o,e,ex⟩:=z;refine⟨⟨o,e,ex.1⟩,λa e2=>?_⟩;cases e2;exact⟨o,e,ex.2.1⟩
  ·let⟨o,_,_,_,e,ex,_⟩:=I.Wn p _ hk;refine⟨⟨o,e,ex.1⟩,λa e2=>?_⟩;cases e2;exact⟨o,e,ex.2.1⟩
 | _=>exact False.elim ty
def Qn(K:Φ)(T:String)(r:V->Γ V->Hp->VK->Prop)(to:TE):TE:=λσ H Q=>to σ H λx H1=>U7 K T x H1/\r x [] H1 Q
def Tz(K:Φ)(T:String)(r:V->Γ V->Hp->VK->Prop)(to:TE)(t:TA):TE:=λσ H Q=>to σ H λx H1=>U7 K T x H1/\t σ H1 λxs H2=>r x xs H2 Q
variable {T id:String}
def OK(pa:PlainAttrs T)(slot:Slot T name id)(hty:typeOf (.builtin id)=pure (.type "method_descriptor"))(hm:Vf X id r)(ho:PE X o to)
  (W4:attributeBase o name X.env (eval o X.env)=eval o X.env:=by rfl) (Wt:(apos.endLine == Wq.line)=true:=by rfl):PE X (.Call (.Attribute o name apos) [] [] Wq) (Qn X.K T r to):=by
 sleep 4;refine wpAny_Call_method0_late W4 Wt (bV (ho pins s σ H _ I h) λv s1 z=>?_);let⟨x,H1,I1,r1,ty,q1⟩:=z;let⟨h1,h2⟩:=Ht I1 r1 ty;exact⟨T,id,pa,slot,hty,h1,h2,Calls.callWith_builtin rfl (PySem.evalArgs_none (hm pins s1 σ H1 x [] v [] Q I1 r1 .nil q1))⟩
def tK(pa:PlainAttrs T)(slot:Slot T name id)(hty:typeOf (.builtin id)=pure (.type "method_descriptor"))(hm:Vf X id r)(ho:PE X o to)(ha:PA X (e::es) t)
  (W4:attributeBase o name X.env (eval o X.env)=eval o X.env:=by rfl)
  (W7:((backTo Wq (starEach (e::es) X.env)).all (λx=>!x.1)&&(backToKw Wq (keywordEach [] X.env)).all (λx=>x.1.isSome)
   &&decide ((e::es).length+([]:Γ Keyword).length+(if ([]:Γ Keyword).isEmpty then 0 else 1) < 30))=true:=by rfl)
  (Wt:(apos.endLine == Wq.line)=true:=by rfl) (hs:starEach (e::es) X.env=(false,eval e X.env)::starEach es X.env:=by rfl) (aaI:(backTo Wq (starEach es X.env)).any (·.1)=false:=by rfl) :
  PE X (.Call (.Attribute o name apos) (e::es) [] Wq) (Tz X.K T r to t):=by
 sleep 4;refine wpAny_Call_method_late W4 W7 Wt rfl (bV (ho pins s σ H _ I h) λv s1 ⟨x,H1,I1,r1,ty,q1⟩=>?_);let⟨h1,h2⟩:=Ht I1 r1 ty;refine⟨T,id,pa,slot,hty,h1,h2,?_⟩;have hA:=ha Wq pins s1 σ H1 _ I1 q1;rw[hs] at hA ⊢;refine Calls.callWith_builtin (by show (false||(backTo Wq (starEach es X.env)).any (·.1))=false;rw[aaI]<;>rfl) (Calls.evalArgs_plain ?_);exact bV hA λus s2 z=>by let⟨vs,H2,I2,r2,q2⟩:=z;exact hm pins s2 σ H2 x vs v us Q I2 r1 r2 q2
/- xs.append(e),list.index on a abK tuple .. are Vf facts of 06m -/
end
def Ro(X:Cx)(id:String)(r:V->Γ V->Hp->VK->Prop):Prop :=
 ∀ (pins:Γ (Ψ×Obj)) (s:Ξ) (σ:St) (H:Hp) (x:V) (xs:Γ V) (v:Θ) (us:Γ Θ) (Q:VK),Inv X pins σ H s->RelV x v->aH xs us->r x xs H Q ->
  wpAny (model X.prog X.w) X.A (call (.builtin id) (v::us)) (EP X pins σ Q) X.xe s
def aH.one(h:aH [x] us):∃u,us=[u]/\RelV x u:=by
 cases h with|cons r t=>cases t;exact⟨_,rfl,r⟩
def aH.two(h:aH [x,y] us):∃u v,us=[u,v]/\RelV x u/\RelV y v:=by
 cases h with|cons r t=>let⟨v,rfl,q⟩:=aH.one t;exact⟨_,_,rfl,r,q⟩
def aH.zero:∀ {us:Γ Θ},aH [] us->us=[]
 | _,.nil=>rfl
def aH.dropLast(h:aH xs us):aH xs.dropLast us.dropLast:=by
 induction h with
 | nil=>exact .nil
 | cons r t ih =>
  cases t with
  | nil=>exact .nil
  | cons q t'=>exact .cons r ih
def aH.rep(h:aH xs us):∀k:Nat,aH (List.replicate k xs).flatten (List.replicate k us).flatten
 | 0=>.nil
 | k+1=>by
  rw[xF,xF,qN,qN];exact aH.append h (aH.rep h k)
def BH(l:Γ α):l.eraseIdx (l.length - 1)=l.dropLast:=by
 induction l with
 | nil=>rfl
 | cons a r ih =>
  cases r with
  | nil=>rfl
  | cons b r =>
   have e:(a::b::r).length - 1=((b::r).length - 1)+1:=by
    have h1:(a::b::r).length=r.length+2:=rfl;have h2:(b::r).length=r.length+1:=rfl;lia
   rw[e,List.eraseIdx_cons_succ,ih]
   all_goals rfl
def foldl_rep(its:Γ Θ):∀ (k:Nat) (acc:Γ Θ),
  List.foldl (λx1 x2=>x1++x2) acc.toArray (List.replicate k its.toArray)=(acc++(List.replicate k its).flatten).toArray
 | 0,acc=>by simp
 | k+1,acc=>by
  have e:acc.toArray++its.toArray=(acc++its).toArray:=by simp
  have e2:(acc++its)++(List.replicate k its).flatten=acc++(List.replicate (k+1) its).flatten:=by
   rw[xF,qN,List.append_assoc]
  rw[<- e2,<- foldl_rep its k (acc++its),<- e,xF,yJ]
section
variable {xs ys zs:Γ V}
def Inv.ZJ{its its':Γ Θ}{n:Nat}{f:Array Θ->Array Θ}{t':Nat}(I:Inv X pins σ H s)(hH:H l=some (.lst xs))
  (e:s.heap.get? l=some { cls:=.type "list",data:=.seq its.toArray n }) (hf:f its.toArray=its'.toArray) (hv:aH ys its') (hz:ys.length<=sizeLine) :
  Inv X pins σ (upd H l (.lst ys)) { s with heap:=s.heap.update l (Obj.mapSeq f),toks:=t' }:=by
 have q:=PySem.IsL.update e f;rw[hf] at q;refine I.write (x:=l) (e:=l) (by rw[hH];exact trivial) (.inl rfl) (λb' u hb hu=>(xO s.heap (Obj.mapSeq f) (jN hb)).trans hu) ⟨_,q⟩ ?_;exact⟨hz,its',_,hv,q⟩
def Inv.aaJ{t':Nat}(I:Inv X pins σ H s)(hv:aH ys its)(hz:ys.length<=sizeLine) :
  Inv X pins σ (upd H s.heap.objs.size (.lst ys)) { s with heap:=s.heap.push { cls:=.type "list",data:=.seq its.toArray },toks:=t' } :=
 I.laid (λ_ _ q=>zU _ q) (yN _) ⟨hz,its,0,hv,zX _ rfl⟩
def Inv.fresh(I:Inv X pins σ H s):H s.heap.objs.size=none:=I.Wn.fresh (yN _)
def Inv.Y8(I:Inv X pins σ H s)(hH:H l=some (.lst xs)):xs.length<=sizeLine/\∃ (its:Γ Θ) (n:Nat),aH xs its/\xs.length=its.length/\s.heap.get? l=some { cls:=.type "list",data:=.seq its.toArray n }:=by
 let⟨z,its,n,r,e⟩:=I.Wn l _ hH;exact⟨z,its,n,r,r.length,e⟩
def Ju(h:n<=sizeLine):Builtin.List.listTooLong n=false:=by
 unfold Builtin.List.listTooLong;exact zZ (by lia)
end
def yg:V->Γ V->Hp->VK->Prop:=λx vs H Q=>∃l xs y,x=.ref l/\vs=[y]/\H l=some (.lst xs)/\xs.length < sizeLine/\Q .Wh (upd H l (.lst (xs++[y])))
def l7:Ro X "list.append" yg:=by
 sleep 28;let⟨l,xs,y,rfl,rfl,hH,hz,q⟩:=h;cases rx;let⟨u,rfl,ru⟩:=rv.one;let⟨z,its,n,r,hl,e⟩:=I.Y8 hH;refine qY F.slot_list_append ⟨_,e,rfl⟩ F.entry_list_append (F.args_list_append_2 _ _) (PySem.list_append l its.toArray n u (by rw[zH];lia)) ⟨e,?_⟩;refine⟨.Wh,_,I.ZJ (its':=its++[u]) hH e (by simp) (r.append (.cons ru .nil)) ?_,rfl,q⟩;rw[zN,xD];lia
def MX:V->Γ V->Hp->VK->Prop:=λx vs H Q=>∃l b xs zs,x=.ref l/\vs=[.ref b]/\H l=some (.lst xs)/\H b=some (.lst zs)/\xs.length+zs.length<=sizeLine/\Q .Wh (upd H l (.lst (xs++zs)))
def Fc:Ro X "list.extend" MX:=by
 sleep 28;let⟨l,b,xs,zs,rfl,rfl,hH,hB,hz,q⟩:=h;cases rx;let⟨u,rfl,ru⟩:=rv.one;cases ru;let⟨z,its,n,r,hl,e⟩:=I.Y8 hH;let⟨z2,Xe,n2,r2,hl2,e2⟩:=I.Y8 hB;have hsz:its.toArray.size+Xe.toArray.size<=sizeLine:=by rw[zH,zH];lia
 have abL:¬ (!its.toArray.isEmpty&&Builtin.List.listTooLong (its.toArray.size+Xe.toArray.size))=true:=by
  rw[Ju hsz,Bool.and_false];exact xA
 refine qY F.slot_list_extend ⟨_,e,rfl⟩ F.entry_list_extend (F.args_list_extend_2 _ _)
  (AutoSeq1.list_extend_list_list_0 l its.toArray n b Xe.toArray n2 abL (by rw[zH];lia) (by lia)) ⟨e,e2,?_⟩
 refine⟨.Wh,_,I.ZJ (its':=its++Xe) hH e (by simp) (r.append r2) ?_,rfl,q⟩;rw[zN];lia
def P0:V->Γ V->Hp->VK->Prop:=λx vs H Q=>∃l xs y,x=.ref l/\vs=[]/\H l=some (.lst xs)/\xs[xs.length - 1]?=some y/\Q y (upd H l (.lst xs.dropLast))
def O8:Ro X "list.pop" P0:=by
 sleep 28;let⟨l,xs,y,rfl,rfl,hH,hy,q⟩:=h;cases rx;have hus:=rv.zero;subst hus;let⟨z,its,n,r,hl,e⟩:=I.Y8 hH;let⟨u,hu,ru⟩:=r.get hy;have hy':its.toArray[its.toArray.size - 1]?=some u:=by
  show its.toArray[its.length - 1]?=some u;rw[<- Array.getElem?_toList,<- hl];exact hu
 refine qY F.slot_list_pop ⟨_,e,rfl⟩ F.entry_list_pop (F.args_list_pop_1 _) (MeetsSeq.list_pop_last l its.toArray n u hy' (by rw[zH];lia)) ⟨e,?_⟩;refine⟨y,_,I.ZJ (its':=its.dropLast) hH e ?_ r.dropLast ?_,ru,q⟩
 ·show its.toArray.eraseIdxIfInBounds (its.toArray.size - 1)=its.dropLast.toArray;rw[zH,List.eraseIdxIfInBounds_toArray,BH]
 ·rw[List.length_dropLast];lia
def len_rep(xs:Γ α)(k:Nat):(List.replicate k xs).flatten.length=k * xs.length:=by
 induction k with
 | zero=>simp
 | succ k ih=>rw[xF,qN,zN,ih,Nat.succ_mul,Nat.add_comm]
end L2
namespace Att
open PySem PySem.W PySem.Calls PyProof.Rows
variable {n:Nat}
def Xg:∀ (ns:Γ Int) (vs:Γ Θ),WellAll P h vs (ns.map WData.int)->IntsAre vs ns:=by
 intro ns
 induction ns with
 | nil =>
  intro vs w;rw[yV] at w;cases w;exact .nil
 | cons n ns ih =>
  intro vs w;rw[zI] at w;cases w with
  | cons a b =>
   cases a;exact .cons _ _ (ih _ b)
def YQ{l:OpenLaw}(hn:l.most=some n){P:Params}{h:ι}{args:Γ WData}{vals:Γ Θ}
  (ZK:l.row.toRowW.claim.pre args=true) (Y9:WellAll P h vals args) :
  ∃a vs ns,vals=[Value.ref a]/\args=[WData.list (ns.map WData.int)]/\h.get? a=some { cls:=.type "list",data:=.seq vs.toArray }/\IntsAre vs ns/\ns.length<=n:=by
 have hsh:WShape.hasAll [] args [.list .int]=true:=(pre_splitW ZK).1;have hc:l.pre.holds [] { args:=args }=true:=(pre_splitW ZK).2;let⟨d,r,rfl,h1,h2⟩:=hasAllW_cons hsh;obtain rfl:=hasAllW_nil h2;let⟨xs,rfl,h3⟩:=hasW_list h1;let⟨ns,rfl⟩:=items_int h3;have hlen:ns.length<=n:=by
  unfold OpenLaw.pre at hc;have h4:(WTm.not (.lt (.lit (.int (n:Int))) (.len (.arg 0)))).holds [] { args:=[.list (ns.map .int)] }=true:=by
   have h4:=(holds_andW hc).1;rw[hn] at h4;exact h4
  have h5:=condW_of h4 (w_not (w_lt w_lit (w_len_list (w_arg rfl))));rw[zD] at h5;refine Nat.le_of_not_lt λq=>?_;have q':(n:Int) < ((ns.length:Nat):Int):=by lia
  first
   | (rw[yA q'] at h5;exact absurd h5 (by decide))
   | (simp at h5;lia)
 cases Y9 with
 | cons w1 w2 =>
  cases w2;cases w1 with
  | list ho YR=>exact⟨_,_,ns,rfl,rfl,ho,Xg ns _ YR,hlen⟩
def YS(l:OpenLaw)(args:Γ WData):l.row.toRowW.claim.post args (.bool true) args=true :=
 postW_of (r:=l.row.toRowW) (X:=(true == true))
  (show WShape.has [] (.bool true) .bool=true by first|rfl|decide|simp[WShape.has,WShape.arms,WShape.armsAll])
  (show (WTm.eq .res (.lit (.bool true))).value [] { args:=args,res:=some (.bool true),after:=args }=some (.bool (true == true)) from w_eq_bool (w_res rfl) w_lit) rfl
def X3{l:OpenLaw}{q:ε}{loose:Γ Str}{XP:(Str->Δ Θ)->ι->Prop}{YP:δ->ι->Prop}{d:DefRec}
  (hn:l.most=some n) (hdf:d.params.defaults=[])
  (call:∀ (w:δ) (WI Wl:Ξ) (mg mb:Str->Δ Θ) (fa:Ψ) (o:Obj) (pm cd doc:Θ) (a:Ψ) (vs:Γ Θ) (ns:Γ Int),
   Ground q loose [] XP w WI mg mb Wl.heap->YP w Wl.heap ->
   Wl.heap.get? fa=some o->o.data=.func (docDef d.name d.params d.body d.scope pm cd doc)->Wl.heap.CodeRec cd d.name->mg d.name=some (.ref fa) ->
   Wl.heap.get? a=some { cls:=.type "list",data:=.seq vs.toArray }->IntsAre vs ns->ns.length<=n->Wl.gens=#[] ->
   codeAny (model l.prog w) callerA (.call (.ref fa) ⟨[.ref a],[]⟩) (λr s'=>r=.ok (.ret (.bool true))/\OldK Wl.heap s'.heap/\s'.os=Wl.os/\AllBare s'.gens) Wl) :
  WalkO q loose XP YP l.row.toRowW d [] (λf vs=>PySem.call f vs):=by
 intro w WI Wl mg mb G Y fa o pm cd doc dV kV ho hd WB hD hmg hg args vals as ZK agT hrd Y9 hlo;obtain rfl:dV=.none:=Dflts.none hD hdf;obtain rfl:kV=.none:=Dflts.noKw hD;let⟨a,vs,ns,rfl,rfl,aaK,hints,hlen⟩:=YQ hn ZK Y9;refine enter_call (jS (call w WI Wl mg mb fa o pm cd doc a vs ns G Y ho (fd_plain hd) WB hmg aaK hints hlen hg) λr s' hq=>?_);let⟨rfl,h2,h3,h4⟩:=hq;exact⟨.inl ⟨.bool true,.bool true,[],rfl,λ_=>rfl,.bool true,YS l _,λ_=>⟨List.Pairwise.nil,λ_ hm=>(nomatch hm)⟩⟩,h2,h3,h4⟩
section
variable {K:Frag}
end
end Att
namespace L2
open PySem PySem.Spec PyProof.Rows
variable {B:Prop}
def uD:∀ {vs:Γ Θ}{ns:Γ Int},IntsAre vs ns->aH (ns.map V.int) vs
 | _,_,.nil=>.nil
 | _,_,.cons n t h=>.cons ⟨t,rfl⟩ (uD h)
abbrev uS:M7:=λ_ _ _ _ _ _=>False
abbrev E0:XK:=λ_ _ _=>False
def u4:mR uS X E0:=λ_ _ _ _ _ _ _ h=>h.elim
structure Dv(K:W.Frag)(x qual:Str)(st:Stmt)(f:Addr)(fd:FuncData):Prop where
 ex:∃ (oc:Θ) (od:Δ Ψ) (kV doc pm:Θ) (an:Δ Ψ) (WR ct:Θ) (Ye:Array (Δ Θ)),
  fd=W.fnOf x qual (dO st) (aW st) (ao st) .none kV doc pm an WR ct/\K.lookup f=some ⟨oc,od,.func fd,Ye⟩/\W.codeIn K WR qual=true
 kp:W.keepIn K (.ref f)=true
section
variable {K:Φ}
def Dv.binds{st:Ω}(F:Dv K x qual st f fd)
  (h:∀ (kV doc pm:Θ) (an:Δ Ψ) (WR ct:Θ) (us:Γ Θ),us.length=ps.length->bindArgs (W.fnOf x qual (dO st) (aW st) (ao st) .none kV doc pm an WR ct) ⟨us,[]⟩=pure (ps.zip us)):Binds K fd ps []:=by
 sleep 24;exact .all (h kV doc pm an WR ct)
def pj{st:Ω}{kV:Θ}(l:K.lookup f=some ⟨oc,od,.func (W.fnOf x qual (dO st) (aW st) (ao st) .none kV doc pm an WR ct),Ye⟩)
  (c:W.codeIn K WR qual=true) (k:W.keepIn K (.ref f)=true):Dv K x qual st f (W.fnOf x qual (dO st) (aW st) (ao st) .none kV doc pm an WR ct):=⟨⟨oc,od,kV,doc,pm,an,WR,ct,Ye,rfl,l,c⟩,k⟩
end
def qh{A B:Prop}(h:B):if false=true then A else B:=by
 rw[yO xA];exact h
def sV{A B:Prop}(h:A):if true=true then A else B:=by
 rw[yM rfl];exact h
def aD(H H':Hp):Prop:=∀b o,H b=some o->H' b=some o
def aD.refl(H:Hp):aD H H:=λ_ _ h=>h
def aD.trans(a:aD H H1)(b:aD H1 H2):aD H H2:=λc o h=>b c o (a c o h)
def aD.free(e:aD H H')(h:H' l=Option.none):H l=Option.none:=by
 cases q:H l with
 | none=>rfl
 | some o =>
  rw[e l o q] at h;cases h
def aD.seq{K:Φ}(e:aD H H')(h:gN K H a xs):gN K H' a xs:=by
 rcases h with (h|⟨o,h⟩)|h
 ·exact .inl (.inl (e _ _ h))
 ·exact .inl (.inr ⟨o,e _ _ h⟩)
 ·exact .inr h
def bX:∀ (names:Γ (Str×NameKind)) (n:Nat) (acc:Γ (Str×Ψ)),cellsFrom n names acc=cellsFrom n names []++acc
 | [],_,_=>rfl
 | (name,kind)::r,n,acc=>by
  unfold cellsFrom;split
  ·rw[bX r (n+1) ((name,n)::acc),bX r (n+1) [(name,n)]];simp
  ·exact bX r n acc
def j3:∀ {l m:Γ (Str×α)},(l++m).lookup x=some c->l.lookup x=some c\/(l.lookup x=none/\m.lookup x=some c)
 | [],_,h=>.inr ⟨rfl,h⟩
 | (k,v)::r,m,h=>by
  have ih:=@j3 α x c r m;rw[xG,yB] at h;rw[yB];cases e:x == k with
  | true=>rw[e] at h;exact .inl h
  | false=>rw[e] at h;exact ih h
def j6:∀ {l m:Γ (Str×α)},l.lookup x=some c->(l++m).lookup x=some c
 | [],_,h=>by cases h
 | (k,v)::r,m,h=>by
  have ih:=@j6 α x c r m;rw[yB] at h;rw[xG,yB];cases e:x == k with
  | true=>rw[e] at h;exact h
  | false=>rw[e] at h;exact ih h
def iF:∀ {l m:Γ (Str×α)},l.lookup x=none->(l++m).lookup x=m.lookup x
 | [],_,_=>rfl
 | (k,v)::r,m,h=>by
  have ih:=@iF α x r m;rw[yB] at h;rw[xG,yB];cases e:x == k with
  | true=>rw[e] at h;cases h
  | false=>rw[e] at h;exact ih h
def gK:∀ (names:Γ (Str×NameKind)) (n:Nat) (x:Str) (c:Ψ),(x,c)∈cellsFrom n names []->(x,NameKind.cell)∈names
 | [],_,_,_,h=>by cases h
 | (name,kind)::r,n,x,c,h=>by
  unfold cellsFrom at h;split at h
  ·rename_i hk;rw[bX] at h;rcases List.mem_append.mp h with h|h
   ·exact zC _ (gK r _ x c h)
   ·have:(x,c)=(name,n):=by simpa using h
    cases this;have:kind=.cell:=by simpa using hk
    subst this;exact zE
  ·exact zC _ (gK r n x c h)
def eB(env:Env):Γ (Str×NameKind)->Γ (Str×Ψ)->Γ (Str×Ψ)
 | [],acc=>acc
 | (n,k)::r,acc=>if k == .free then eB env r ((n,(env.cells.lookup n).getD 0)::acc) else eB env r acc
def mK(env:Env):∀ (names:Γ (Str×NameKind)) (acc:Γ (Str×Ψ)),(∀x∈names,x.2=.free->∃c,env.cells.lookup x.1=some c) ->
  (forIn names acc (λ(p:Str×NameKind) (cs:Γ (Str×Ψ))=>(if p.2 == .free then (do let a <- cellOf env p.1;pure (.yield ((p.1,a)::cs))) else pure (.yield cs):Sem (ForInStep (Γ (Str×Ψ))))))=pure (eB env names acc)
 | [],acc,_=>rfl
 | (n,k)::r,acc,h=>by
  rw[List.forIn_cons];have hr:=λx hx=>h x (zC _ hx);unfold eB;by_cases hk:k=.free
  ·let⟨c,hc⟩:=h (n,k) zE hk;subst hk;have e1:cellOf env n=pure c:=by
    have Xv:env.cells.lookup n=some c:=hc;unfold cellOf;rw[Xv]
   have Xv:env.cells.lookup n=some c:=hc;simp?[beq_self_eq_true,xI,e1,pure_bind,Xv,qH];exact mK env r _ hr
  ·have hb:(k == NameKind.free)=false:=by simpa using hk
   simp?[hb,yP,qQ,pure_bind];exact mK env r _ hr
def mV{env:Env}(h:∀x∈scope.names,x.2=.free->∃c,env.cells.lookup x.1=some c):closureFor scope env=pure (eB env scope.names []):=by
 have:=mK env scope.names [] h;unfold closureFor;exact (bind_pure _).trans this
def lY{env:Env}:∀ {names:Γ (Str×NameKind)}{acc:Γ (Str×Ψ)},(∀x∈names,x.2=.free->∃c,env.cells.lookup x.1=some c)->(∀x c,(x,c)∈acc->env.cells.lookup x=some c) ->
  ∀x c,(x,c)∈eB env names acc->env.cells.lookup x=some c
 | [],acc,_,ha,x,c,hm=>ha x c hm
 | (n,k)::r,acc,h,ha,x,c,hm=>by
  unfold eB at hm;have hr:=λx hx=>h x (zC _ hx);split at hm
  ·rename_i hk;have WY:k=.free:=by simpa using hk
   let⟨c',hc⟩:=h (n,k) zE WY;have hc:env.cells.lookup n=some c':=hc;refine lY hr (λy d hy=>?_) x c hm;rcases List.mem_cons.mp hy with e|hy
   ·cases e;rw[hc];rfl
   ·exact ha y d hy
  ·exact lY hr ha x c hm
def gm{env:Env}:∀ {names:Γ (Str×NameKind)}{acc:Γ (Str×Ψ)}{x:Str},(names.lookup x=some .free\/∃c,acc.lookup x=some c)->∃c,(eB env names acc).lookup x=some c
 | [],acc,x,h=>by
  rcases h with h|h
  ·cases h
  ·exact h
 | (n,k)::r,acc,x,h=>by
  unfold eB;split
  ·rename_i hk;refine gm ?_;rcases h with h|⟨c,h⟩
   ·rw[yB] at h;cases e:x == n with
    | true=>exact .inr ⟨_,by rw[yB,e]⟩
    | false=>rw[e] at h;exact .inl h
   ·refine .inr ?_;rw[yB];cases e:x == n with
    | true=>exact⟨_,rfl⟩
    | false=>exact⟨c,h⟩
  ·rename_i hk;refine gm ?_;rcases h with h|h
   ·rw[yB] at h;cases e:x == n with
    | true =>
     rw[e] at h;cases h;exact absurd rfl hk
    | false=>rw[e] at h;exact .inl h
   ·exact .inr h
def nS{env:Env}:∀ {names:Γ (Str×NameKind)}{x:Str}{k:NameKind},names.lookup x=some k ->
  (names.map λ(n,k)=>if (k == NameKind.free&&env.scope.kind == .function&&env.kindOf n == some .cell) then (n,NameKind.cell) else (n,k)).lookup x=some (if (k == NameKind.free&&env.scope.kind == .function&&env.kindOf x == some .cell) then NameKind.cell else k)
 | [],_,_,h=>by cases h
 | (n,k)::r,x,k',h=>by
  have ih:=@nS env r x k';rw[zI];dsimp only;cases hx:x == n with
  | true =>
   have e:x=n:=by simpa using hx
   subst e;rw[yB,hx] at h;cases h;split<;>simp[yB, *]
  | false =>
   rw[yB,hx] at h;have ih:=ih h;split
   ·rw[yB,hx];exact ih
   ·rw[yB,hx];exact ih
def qc{env:Env}:∀ {names:Γ (Str×NameKind)}{x:Str},names.lookup x=none ->
  (names.map λ(n,k)=>if (k == NameKind.free&&env.scope.kind == .function&&env.kindOf n == some .cell) then (n,NameKind.cell) else (n,k)).lookup x=none
 | [],_,h=>rfl
 | (n,k)::r,x,h=>by
  have ih:=@qc env r x;rw[zI];dsimp only;cases hx:x == n with
  | true=>rw[yB,hx] at h;cases h
  | false =>
   rw[yB,hx] at h;split
   ·rw[yB,hx];exact ih h
   ·rw[yB,hx];exact ih h
def fy(X:Cx)(scope:ζ)(C:Ψ):Env :=
 { scope:=relabel scope X.env,locals:=C,globals:=X.env.globals,cells:=cellsFrom (C+1) scope.names (eB X.env scope.names []),qual:=X.env.qual,func:=none,code:=X.env.code,frame:=X.env.frame,builtins:=X.env.builtins }
def aY(X:Cx)(scope:ζ)(N:Γ Str)(fp:Γ Ψ)(s:Ξ)(H:Hp):Cx :=
 { X with N:=N,WI:=s,H₀:=H,env:=fy X scope s.heap.objs.size,outer:=X.stack,ex:=fp,fn:=λx=>decide (scope.names.lookup x=some .cell),pn:=[],xe:=λ_ _=>False }
def BW{M:Model}{A:ξ}{E:Θ->Ξ->Prop}{globals:Ψ}{cl:Γ (Str×Ψ)}{qual:Str}{env:Env}
  (hQ:∀h',h'.Ns s.heap.objs.size (λ_=>none)->(∀b o,s.heap.get? b=some o->h'.get? b=some o)->CellsOk h' (s.heap.objs.size+1) (cellsFrom (s.heap.objs.size+1) scope.names []) ->
   Q { scope:=scope,locals:=s.heap.objs.size,globals:=globals,cells:=cellsFrom (s.heap.objs.size+1) scope.names cl,qual:=qual,func:=none,code:=env.code,frame:=env.frame,builtins:=env.builtins } { s with heap:=h' }) :
  wpAny M A (newFunctionEnv scope globals cl [] qual none .none (some env)) Q E s:=by
 simp?[newFunctionEnv,Option.isSome_some,xI];refine zV (wpAny_alloc ?_);refine zV (wpAny_layCells _ (λname kind cells=>by cases hkc:kind == NameKind.cell<;>simp[hkc]) _ _ _ _ ?_);have ok:=cellsFrom_ok scope.names (s.heap.push { cls:=.type "dict",data:=.dict #[] }) (s.heap.objs.size+1) [] ⟨λ_ _ hm=>(nomatch hm),List.Pairwise.nil⟩ (by rw[xK];exact yN _);rw[xK] at ok;rw[show ({ s with heap:=s.heap.push { cls:=.type "dict",data:=.dict #[] } }:Ξ).heap.objs.size=s.heap.objs.size+1 from xK ..];rw[List.forIn_nil];refine zV (zW (zW ?_));exact hQ _ ((Heap.Ns.new s.heap (.type "dict")).keeps (pushCells_keeps _ _)) (λb o e=>pushCells_keeps _ _ b o (zU _ e)) ok
section
variable {X:Cx}{pins:Γ (Ψ×Obj)}{σ σ':St}{H:Hp}{s:Ξ}{fp:Γ Ψ}{scope:ζ}{N:Γ Str}{h4:ι}
def lI(ok:X.Ok)(W6:∀x∈scope.names,x.2=.free->X.env.kindOf x.1=some .cell\/X.env.kindOf x.1=some .free):∀x∈scope.names,x.2=.free->∃c,X.env.cells.lookup x.1=some c :=
 λx hx hk=>ok.has x.1 (W6 x hx hk)
def o7(h:scope.names.lookup x=some k):(fy X scope C).kindOf x=some k\/(k=.free/\(fy X scope C).kindOf x=some .cell):=by
 have q:=nS (env:=X.env) h;have q':(fy X scope C).kindOf x=some (if (k == NameKind.free&&X.env.scope.kind == .function&&X.env.kindOf x == some .cell) then NameKind.cell else k):=q;rw[q'];split
 ·rename_i hc;have:k=.free:=by
   simp?[zF,beq_iff_eq] at hc;exact hc.1.1
  exact .inr ⟨this,rfl⟩
 ·exact .inl rfl
def my(h:(fy X scope C).kindOf x=some k):scope.names.lookup x=some k\/(k=.cell/\scope.names.lookup x=some .free):=by
 cases e:scope.names.lookup x with
 | none =>
  have q:(fy X scope C).kindOf x=none:=qc (env:=X.env) e;rw[q] at h;cases h
 | some k' =>
  rcases o7 (X:=X) (C:=C) e with q|⟨q,q'⟩
  ·rw[q] at h;cases h;exact .inl rfl
  ·rw[q'] at h;cases h;subst q;exact .inr ⟨rfl,rfl⟩
def GF(I:Inv X pins σ H s)(hf:∀b∈fp,cL X pins H b)(Yg:∀b∈fp,b < s.heap.objs.size)(hk:scope.kind=.function)
  (W6:∀x∈scope.names,x.2=.free->X.env.kindOf x.1=some .cell\/X.env.kindOf x.1=some .free)
  (YC:h4.Ns s.heap.objs.size (λ_=>none)) (W8:∀b o,s.heap.get? b=some o->h4.get? b=some o) (YD:CellsOk h4 (s.heap.objs.size+1) (cellsFrom (s.heap.objs.size+1) scope.names []))
  (aaL:∀ {x:Str},(x,NameKind.cell)∈scope.names->(x,NameKind.free)∈scope.names->False) (aaM:∀ (i:Nat) (x:Str) (v:V),N[i]?=some x->σ'[i]?=some (some v)->scope.names.lookup x=some .free/\∃j:Nat,X.N[j]?=some x/\σ[j]?=some (some v)) (hlen:σ'.length=N.length) (t':Nat) :
  Inv (aY X scope N fp s H) [] σ' H { s with heap:=h4,toks:=t' }:=by
 have Yk:=lI I.ok W6;have clx:∀x c,(eB X.env scope.names []).lookup x=some c->X.env.cells.lookup x=some c:=λx c e=>lY Yk (λ_ _ z=>by cases z) x c (mem_of_lookup e);have look:∀x c,(fy X scope s.heap.objs.size).cells.lookup x=some c->(x,c)∈cellsFrom (s.heap.objs.size+1) scope.names []\/X.env.cells.lookup x=some c:=λx c e=>by
  have e:(cellsFrom (s.heap.objs.size+1) scope.names (eB X.env scope.names [])).lookup x=some c:=e;rw[bX] at e;rcases j3 e with q|⟨_,q⟩
  ·exact .inl (mem_of_lookup q)
  ·exact .inr (clx x c q)
 have old:∀x c,X.env.cells.lookup x=some c->c < s.heap.objs.size:=λx c e=>let ⟨_,q⟩:=I.cell x c e;q.lt;have new:∀x c,(x,c)∈cellsFrom (s.heap.objs.size+1) scope.names []->s.heap.objs.size < c:=λx c e=>(YD.empty x c e).2;refine⟨⟨I.ok.mod,?_,I.ok.glob,I.ok.blt,yN _,?_,?_,?_,I.ok.hd,I.ok.frames,.inl rfl,?_,I.bs,yD I.ok.ZE I.sz,?_,?_,I.stack,I.XM⟩,rfl,I.bare,Un.kept W8,⟨_,YC,?_⟩,?_,I.Wn.fresh (yN _),?_,
  λp hp=>absurd (show p∈([]:Γ (Ψ×Obj)) from hp) (by simp),I.Wn.kept W8,hlen⟩
 ·show (relabel scope X.env).kind=_;exact hk
 ·intro x y c e1 e2;rcases look x c e1 with a|a<;>rcases look y c e2 with b|b
  ·exact name_of_addr YD.apart a b
  ·exact absurd (wN (new x c a) (old y c b)) (qF _)
  ·exact absurd (wN (new y c b) (old x c a)) (qF _)
  ·exact I.ok.inj x y c a b
 ·intro x hx;show ∃c,(cellsFrom (s.heap.objs.size+1) scope.names (eB X.env scope.names [])).lookup x=some c;refine Option.isSome_iff_exists.mp (W.cellsFrom_some _ _ _ ?_);rcases hx with hx|hx
  ·rcases my hx with q|⟨_,q⟩
   ·exact .inl q
   ·exact .inr (Option.isSome_iff_exists.mpr (gm (.inl q)))
  ·rcases my hx with q|⟨q,_⟩
   ·exact .inr (Option.isSome_iff_exists.mpr (gm (.inl q)))
   ·cases q
 ·intro x c Y3 e;have Y3:scope.names.lookup x=some .cell:=yR Y3;have e:(cellsFrom (s.heap.objs.size+1) scope.names (eB X.env scope.names [])).lookup x=some c:=e;let⟨c',Xv⟩:=rS (n:=s.heap.objs.size+1) Y3;rw[bX,j6 Xv] at e;cases e;exact jT (new x c (mem_of_lookup Xv))
 ·intro b hb;refine⟨yS (Yg b hb),λx c e z=>?_⟩;rcases look x c e with a|a
  ·exact absurd (wN (new x c a) (by rw[z];exact Yg b hb)) (qF _)
  ·exact (hf b hb).2.2.2.2.1 x c a z
 ·intro b o e hb;let⟨f0,f1,f2,f3,f4,f5⟩:=hf b hb;rcases f3 with z|z
  ·exact I.ok.YM b o e z
  ·exact absurd (zP (zY (I.ok.bs b o e).1) z) (qF _)
 ·intro b hb hz;let⟨f0,f1,f2,f3,f4,f5⟩:=hf b hb;rcases List.mem_cons.mp (I.Yj b hz) with z|z
  ·exact f1 z
  ·exact f2 z
 ·intro i x v e1 e2 e3;let⟨hfr,j,hj,hv⟩:=aaM i x v e1 e2;have hm:(x,NameKind.free)∈scope.names:=mem_of_lookup hfr;let⟨m,hn,hl⟩:=I.loc;have kx:=W6 _ hm rfl;let⟨u,ru,lk⟩:=hl j x v hj hv (kx.elim (λk=>.inr (.inl k)) λk=>.inr (.inr k));refine⟨u,ru,.inr ⟨?_,?_⟩⟩
  ·rcases o7 (X:=X) (C:=s.heap.objs.size) hfr with q|⟨_,q⟩
   ·exact .inr q
   ·exact .inl q
  ·rcases lk with ⟨k,_⟩|⟨_,c,ec,ic⟩
   ·have k:X.env.kindOf x=some .local:=k;rcases kx with k'|k'<;>· rw[k] at k';cases k'
   ·let⟨c',Xv⟩:=gm (env:=X.env) (acc:=[]) (.inl hfr);have e':=clx x c' Xv;rw[ec] at e';cases e';refine⟨c,?_,ic.keeps W8⟩;show (cellsFrom (s.heap.objs.size+1) scope.names (eB X.env scope.names [])).lookup x=some c;rw[bX];cases eo:(cellsFrom (s.heap.objs.size+1) scope.names []).lookup x with
    | none=>rw[iF eo];exact Xv
    | some d =>
     have hcm:=gK _ _ _ _ (mem_of_lookup eo);exact (aaL hcm hm).elim
 ·intro x c e;rcases look x c e with a|a
  ·exact⟨_,(YD.empty x c a).1⟩
  ·let⟨v,q⟩:=I.cell x c a;exact⟨v,q.keeps W8⟩
 ·intro x c e;rcases look x c e with a|a
  ·exact I.Wn.fresh (jT (new x c a))
  ·exact I.WO x c a
end
abbrev Au(ifs:Γ γ)(env:Env):Sem θ:=forIn ifs true λc r=>if r=true then do let ok <- isTrue c env (eval c env);pure (ForInStep.yield ok) else pure (ForInStep.yield r)
def Rj(X:Cx)(ifs:Γ γ)(t:TT):Prop :=
 ∀ (pins:Γ (Ψ×Obj)) (s:Ξ) (σ:St) (H:Hp) (Q:θ->Hp->Prop),Inv X pins σ H s->t σ H Q->wpAny (model X.prog X.w) X.A (Au ifs X.env) (TP X pins σ Q) X.xe s
def Lo:Rj X [] (λ_ H Q=>Q true H):=λ_ _ _ H _ I h=>wpAny_tests_nil ⟨H,I,h⟩
def Kw(h:PT X c t):Rj X [c] t:=λpins s σ H Q I q=>wpAny_tests_one (h pins s σ H Q I q)
def xi{R:Result->Ξ->Prop}{elt target iter:γ}{ifs:Γ γ}{scope:ζ}{pos:Pos}{acc:Θ}{env:Env}(I:Nat->Ξ->Prop)
  (turn:∀n s,I n s->wpAny (model prog w) A (pyNext it) (λr Wl=>match r with
   | none=>R (.ok .next) Wl
   | some v=>wpAny (model prog w) A (letOwnedTupleGo target it v) (λ_ aab=>wpAny (model prog w) A (assign target env v) (λ_ ZH =>
     wpAny (model prog w) A (Au ifs env) (λok Za =>
      if ok=true then wpAny (model prog w) A (eval elt env) (λx ZL =>
       wpAny (model prog w) A (call (.builtin "list.append") [acc,x]) (λ_ abO=>∃m,m < n/\I m abO) (λ_ _=>False) ZL) (λ_ _=>False) Za
      else ∃m,m < n/\I m Za) (λ_ _=>False) ZH) (λ_ _=>False) aab) (λ_ _=>False) Wl) (λ_ _=>False) s)
  (n:Nat) (h:I n s) :
  codeAny (model prog w) A (.compLoop (.ListComp elt [⟨target,iter,ifs,0⟩] scope pos) 0 it acc env) R s:=by
 refine codeAny_loop rfl I (λn s hI=>?_) n h;show wpAny _ A ((compTurn (.ListComp elt [⟨target,iter,ifs,0⟩] scope pos) 0 it acc env).onRaise (λx=>do noteFrame x env;theTreesLotGoes x)) _ _ s;refine wpAny_noted ?_;rw[compTurn_list];refine zV (vD (zV (xB (turn n s hI) (λr Wl abP=>?_) λ_ _ h'=>h'.elim)));cases r with
 | none=>exact zW abP
 | some v =>
  refine zV (xB abP (λ_ aab abQ=>?_) λ_ _ h'=>h'.elim);refine zV (xB abQ (λ_ ZH adT=>zV (xB adT (λok Za abR=>?_) λ_ _ h'=>h'.elim)) λ_ _ h'=>h'.elim);cases ok with
  | false=>exact zW ⟨rfl,abR⟩
  | true =>
   exact zV (zV (xB abR (λx ZL adU=>zV (xB adU (λ_ abO adV=>zW (zW ⟨rfl,adV⟩)) λ_ _ h'=>h'.elim)) λ_ _ h'=>h'.elim))
def ED(X:Cx)(pins:Γ (Ψ×Obj))(σ:St)(Q:VK)(acc:Θ)(C:Ψ)(r:Result)(s5:Ξ):Prop :=
 ∃ (D:Ψ) (H5:Hp) (m:Str->Δ Θ),acc=.ref D/\r=.ok .next/\Inv X pins σ H5 s5/\s5.heap.Ns C m/\cL X pins H5 C/\Q (.ref D) H5
def Gq(J:It)(g:TG)(tt:TT)(te:TE)(D:Ψ)(σ0:St)(H0:Hp)(Q:VK):Prop :=
 ∃W:Nat->Nat->St->Hp->Prop,(∃m,W 0 m σ0 H0)/\∀i m σ H,W i m σ H ->
  (J.stop i H/\Q (.ref D) H)\/(J.go i H/\∀x H',J.Zu i H x H'->g x σ H' λXX H2=>tt XX H2 λb H3 =>
   if b=true then te XX H3 λv H4=>∃ys,H4 D=some (.lst ys)/\ys.length < sizeLine/\∃m',m' < m/\W (i+1) m' XX (upd H4 D (.lst (ys++[v])))
   else ∃m',m' < m/\W (i+1) m' XX H3)
section
variable {X:Cx}{pins:Γ (Ψ×Obj)}{σ σ':St}{H:Hp}{s:Ξ}{scope:ζ}{N:Γ Str}
 {tg iter elt:γ}{ifs:Γ γ}{pos:Pos}{g:TG}{tt:TT}{te:TE}
def uG(hc:X.calm=true)(I:Inv X pins σ H s)(T:Turn X.prog X.w X.K tg J fp it tn)(st:tn 0 s.heap)(hf:∀b∈fp,cL X pins H b)(hk:scope.kind=.function)
  (W6:∀x∈scope.names,x.2=.free->X.env.kindOf x.1=some .cell\/X.env.kindOf x.1=some .free) (aaL:∀ {x:Str},(x,NameKind.cell)∈scope.names->(x,NameKind.free)∈scope.names->False)
  (aaM:∀ (i:Nat) (x:Str) (v:V),N[i]?=some x->σ'[i]?=some (some v)->scope.names.lookup x=some .free/\∃j:Nat,X.N[j]?=some x/\σ[j]?=some (some v)) (hlen:σ'.length=N.length)
  (hY:∀fp s H,PG (aY X scope N fp s H) tg g/\Rj (aY X scope N fp s H) ifs tt/\PE (aY X scope N fp s H) elt te)
  (hrd:∀D,H D=none->Gq J g tt te D σ' (upd H D (.lst [])) Q) {E:Θ->Ξ->Prop} :
  wpAny (model X.prog X.w) X.A (newList []) (λacc Za=>wpAny (model X.prog X.w) X.A (newFunctionEnv scope X.env.globals (eB X.env scope.names []) [] X.env.qual none .none (some X.env)) (λZb ZL =>
   codeAny (model X.prog X.w) X.A (.compStart (.ListComp elt [⟨tg,iter,ifs,0⟩] scope pos) 0 (.ref it) acc { Zb with scope:=relabel scope X.env }) (ED X pins σ Q acc Zb.locals) ZL) E Za) E s:=by
 refine qM ?_;have Yg:∀b∈fp,b < s.heap.objs.size:=λb hb=>let ⟨o,e,_⟩:=T.obj _ _ st b hb;zY e;have I3:=I.aaJ (ys:=[]) (its:=[]) (t':=s.toks) .nil (xW _);have hD:H s.heap.objs.size=none:=I.fresh;let⟨W,⟨m0,w0⟩,turn⟩:=hrd _ hD;generalize e3:({ s with heap:=s.heap.push { cls:=.type "list",data:=.seq ([]:Γ Θ).toArray },toks:=s.toks }:Ξ)=s3 at I3;have e3h:s3.heap=s.heap.push { cls:=.type "list",data:=.seq ([]:Γ Θ).toArray }:=by rw[<- e3]
 generalize hH3:upd H s.heap.objs.size (.lst [])=H3 at I3 w0 turn;have WK:s.heap.objs.size < s3.heap.objs.size:=by rw[e3h,xK];exact kO _
 have hk3:∀b o,s.heap.get? b=some o->s3.heap.get? b=some o:=λb o e=>by rw[e3h];exact zU _ e
 generalize s.heap.objs.size=D at *;have f3:∀b∈fp,cL X pins H3 b:=λb hb=>by
  let⟨f0,f⟩:=hf b hb;refine⟨?_,f⟩;rw[<- hH3,ak (yS (Yg b hb))];exact f0
 have ZF:tn 0 s3.heap:=T.keep _ _ _ st λb _ o e=>hk3 b o e;refine BW λh4 YC hkp YD=>?_;dsimp only;have I4:=GF (N:=N) (σ':=σ') (fp:=fp) I3 f3 (λb hb=>wN (Yg b hb) WK) hk W6 YC hkp YD aaL aaM hlen s3.toks;have fC:∀H',H' s3.heap.objs.size=none->cL X pins H' s3.heap.objs.size:=λH' hn=>I3.Xd (yN _) hn;let⟨hg,htt,ZM⟩:=hY fp s3 H3;have efp:∀b∈fp,∀H':Hp,H' b=none->cL (aY X scope N fp s3 H3) [] H' b:=λb hb H' hn=>by
  refine⟨hn,(I4.ok.exf b hb).1,I4.ok.Y2 b hb,.inl hb,(I4.ok.exf b hb).2,λp hp=>?_⟩;cases hp
 have loop:codeAny (model X.prog X.w) X.A (.compLoop (.ListComp elt [⟨tg,iter,ifs,0⟩] scope pos) 0 (.ref it) (.ref D) (fy X scope s3.heap.objs.size)) (ED X pins σ Q (.ref D) s3.heap.objs.size) { s3 with heap:=h4 }:=by
  refine xi (λn s'=>∃i σ' H',Inv (aY X scope N fp s3 H3) [] σ' H' s'/\tn i s'.heap/\(∀b∈fp,H' b=none)/\W i n σ' H') ?_ m0
   ⟨0,σ',H3,I4,T.keep _ _ _ ZF λb _ o e=>hkp b o e,λb hb=>(f3 b hb).1,w0⟩
  rintro n s5 ⟨i,σ5,H5,I5,st5,fr5,w5⟩;rcases turn i n σ5 H5 w5 with ⟨stop,q⟩|⟨go,step⟩
  ·refine bV (T.done (aY X scope N fp s3 H3) rfl rfl rfl hc i [] s5 σ5 H5 _ I5 (λb hb=>efp b hb H5 (fr5 b hb)) st5 stop) λr s6 z=>?_;let⟨hr,I6⟩:=z;subst hr;let⟨m,hn6,_⟩:=I6.loc;refine⟨D,H5,m,rfl,rfl,I3.Z7 I6.os I6.base I6.Wn I6.bare (λb hb=>?_),hn6,fC H5 I6.free,q⟩;let⟨f0,f1,f2,f4,f5,f6⟩:=f3 b hb;exact⟨f4,f1,f5,f6⟩
  ·refine bV (T.item (aY X scope N fp s3 H3) rfl rfl rfl hc i [] s5 σ5 H5 _ I5 (λb hb=>efp b hb H5 (fr5 b hb)) st5 go) λr s6 z=>?_;let⟨u,hr,h6⟩:=z;subst hr;refine bV h6 λ_ s7 z=>?_;let⟨x,H7,I7,r7,y7,st7,fr7⟩:=z;have I7':=I7.pinned (λb hb=>efp b hb H7 (fr7 b hb)) (T.obj _ _ st7);have again:∀ {pl:Γ (Ψ×Obj)}{σ9:St}{H9:Hp}{s9:Ξ}{n':Nat},Inv (aY X scope N fp s3 H3) ([]++pk fp s7.heap) σ9 H9 s9->W (i+1) n' σ9 H9->∃i σ' H',Inv (aY X scope N fp s3 H3) [] σ' H' s9/\tn i s9.heap/\(∀b∈fp,H' b=none)/\W i n' σ' H':=λ{pl σ9 H9 s9 n'} I9 w9=>by
    refine⟨i+1,σ9,H9,I9.WC,T.keep _ _ _ st7 λb hb o e=>(I9.pin (b,o) (yE _ (yE _ (dy hb e)))).1,λb hb=>?_,w9⟩;let⟨o,e,d⟩:=T.obj _ _ st7 b hb;exact (I9.pin (b,o) (yE _ (yE _ (dy hb e)))).2.1
   refine bV (hg _ s7 σ5 H7 x u _ I7' r7 (step x H7 y7)) λ_ s8 z=>?_;let⟨σ8,H8,I8,q8⟩:=z;refine bV (htt _ s8 σ8 H8 _ I8 q8) λok s9 z=>?_;let⟨H9,I9,q9⟩:=z;cases ok with
   | false =>
    rw[yO (by decide)] at q9;rw[yO (by decide)];let⟨m',hm,w9⟩:=q9;exact⟨m',hm,again (pl:=[]) I9 w9⟩
   | true =>
    rw[yM rfl] at q9;rw[yM rfl];refine bV (ZM _ s9 σ8 H9 _ I9 q9) λy s10 z=>?_;let⟨v,H10,I10,r10,ys,ad0,hz,m',hm,w10⟩:=z;refine bV (l7 (X:=aY X scope N fp s3 H3) _ s10 σ8 H10 (.ref D) [v] (.ref D) [y] (λ_ H'=>W (i+1) m' σ8 H') I10 rfl (.cons r10 .nil) ⟨D,ys,v,rfl,rfl,ad0,hz,w10⟩) λ_ s11 z=>?_;let⟨_,H11,I11,_,w11⟩:=z;exact⟨m',hm,again (pl:=[]) I11 w11⟩
 exact codeAny_compStart_list loop (T.self _ 0 _ _ _ (T.keep _ _ _ ZF λb _ o e=>hkp b o e) loop)
end
def J4(wi:TI)(g:TG)(tt:TT)(te:TE)(W2:St->St):TE:=λσ H Q=>wi σ H λJ H1=>∀D,H1 D=none->Gq J g tt te D (W2 σ) (upd H1 D (.lst [])) Q
structure je(X:Cx)(scope:Scope)(N:List Str)(W2:St->St):Prop where
 kind:scope.kind=.function
 free:∀x∈scope.names,x.2=.free->X.env.kindOf x.1=some .cell\/X.env.kindOf x.1=some .free
 dup:∀ {x:Str},(x,NameKind.cell)∈scope.names->(x,NameKind.free)∈scope.names->False
 loc:∀x∈scope.names,x.2=.local -> scope.names.lookup x.1=some .local
 cap:∀ (σ:St) (i:Nat) (x:Str) (v:V),N[i]?=some x->(W2 σ)[i]?=some (some v)->scope.names.lookup x=some .free/\∃j:Nat,X.N[j]?=some x/\σ[j]?=some (some v)
 len:∀σ:St,(W2 σ).length=N.length
section
variable {X:Cx}{scope:ζ}{N:Γ Str}{W2:St->St}{tg iter elt:γ}{ifs:Γ γ}{pos:Pos}{wi:TI}{g:TG}{tt:TT}{te:TE}
def LC(hc:X.calm=true)(S:je X scope N W2)(hi:PI X tg iter wi)
  (hY:∀fp s H,PG (aY X scope N fp s H) tg g/\Rj (aY X scope N fp s H) ifs tt/\PE (aY X scope N fp s H) elt te)
  (hs:∀x,foldedSetIterable iter X.env x=pure x:=by intro _;rfl):PE X (.ListComp elt [⟨tg,iter,ifs,0⟩] scope pos) (J4 wi g tt te W2):=by
 sleep 4;rw[eval_ListComp];refine wpAny_comprehension_free (use:=none) rfl hs (mV (lI I.ok S.free)) S.kind S.loc (bV (hi pins s σ H _ I h) λv s1 h1=>bV h1 λitv s2 h2=>?_);let⟨it,fp,tn,J,H2,e,I2,T,X2,f2,rd⟩:=h2;subst e;sleep 34;refine jS h4 λr s5 h5=>?_;let⟨D,H5,m,rfl,rfl,I5,hn,fC,q⟩:=h5;refine⟨m,hn,λh' sb=>?_⟩;let⟨f0,f1,YT,f3,f4,f5⟩:=fC;exact⟨.ref D,H5,I5.turned (t':=s5.toks) (λb o hb e=>(sb.2 b hb).trans e) f0 f1 f3 f4 f5,rfl,q⟩
def K4(hc:X.calm=true)(S:je X scope N W2)(hi:PI X tg iter wi)
  (hY:∀fp s H,PG (aY X scope N fp s H) tg g/\Rj (aY X scope N fp s H) ifs tt/\PE (aY X scope N fp s H) elt te)
  (hN:X.N.Nodup) (hiy:X.N[i]?=some y) (hy:X.env.scope.names.lookup y=some .local)
  (hsw:swapsWith (.ListComp elt [⟨tg,iter,ifs,0⟩] scope pos) (some (.Name y py)) WS.line X.env=pure true)
  (hs:∀x,foldedSetIterable iter X.env x=pure x:=by intro _;rfl):PS X (.Assign [.Name y py] (.ListComp elt [⟨tg,iter,ifs,0⟩] scope pos) WS) (BF (J4 wi g tt te W2) (rL i)):=by
 intro pins s σ H D I h;rw[exec_Assign_Name_used _ _ _ _ hsw];refine zV (vD (zV ?_));show wpAny _ X.A (do let _ <- comprehension (.ListComp elt [⟨tg,iter,ifs,0⟩] scope pos) scope X.env _ (newList []) false (eval iter X.env) (some (assign (.Name y py) X.env))) _ _ s;refine zV (xB (wpAny_comprehension_free (use:=some (assign (.Name y py) X.env)) (Q:=λ_ s'=>SP X pins D .next s') rfl hs (mV (lI I.ok S.free)) S.kind S.loc
  (bV (hi pins s σ H _ I h) λv s1 h1=>bV h1 λitv s2 h2=>?_)) (λ_ s' hq=>zW (zW hq)) λ_ _ e=>e)
 let⟨it,fp,tn,J,H2,e,I2,T,X2,f2,rd⟩:=h2;subst e;sleep 34;refine jS h4 λr s5 h5=>?_;let⟨D',H5,m,rfl,rfl,I5,hn,fC,q⟩:=h5;show wpAny _ X.A (assign (.Name y py) X.env (.ref D')) _ _ _;refine wpAny_assign_Name (vg (v:=.ref D') I5 hN hiy (.inl hy) rfl (λs6 I6 z=>?_) (.inr hy));let⟨a,sa,ha⟩:=z;let⟨f0,f1,YT,f3,f4,f5⟩:=fC;have WN:Zb.locals≠a:=by
  rcases ha with z|z
  ·rw[z];exact f1
  ·exactλw=>f4 y a z w.symm
 refine⟨m,hn.sameBut sa WN,λh' sb=>?_⟩;exact⟨_,H5,I6.turned (t':=s6.toks) (λb o hb e=>(sb.2 b hb).trans e) f0 f1 f3 f4 f5,q⟩
end
abbrev Uu(X:Cx)(qual:Str)(scope:ζ)(f c L:Ψ):Env:=W.envX qual scope L f (.ref c) (eB X.env scope.names [])
def fO(X:Cx)(A:ξ)(qual:Str)(scope:ζ)(N:Γ Str)(f c:Ψ)(s:Ξ)(H:Hp):Cx where
 prog:=X.prog
 w:=X.w
 K:=X.K
 mg:=X.mg
 base:=X.base
 A:=A.deeper (Uu X qual scope f c s.heap.objs.size)
 N:=N
 WI:=s
 H₀:=H
 env:=Uu X qual scope f c s.heap.objs.size
 outer:=X.stack
 stack:=Uu X qual scope f c s.heap.objs.size::X.stack
 ex:=[]
 fn:=λ_=>false
 calm:=true
 pn:=[]
 xe:=λ_ _=>False
def LK(I:Inv X pins σ H s)(hd:A.handled=none)(hA:A.frames=some X.stack)(S:je X scope N W2)(hnc:∀x∈scope.names,x.2≠.cell)(hN0:N[0]?=some p)(hp:scope.names.lookup p=some .local)(hNd:N.Nodup)(r:RelV v u)
  (YC:h1.Ns s.heap.objs.size (λx=>[(p,u)].reverse.lookup x)) (W8:∀b o,s.heap.get? b=some o->h1.get? b=some o) (t':Nat) :
  Inv (fO X A qual scope N f c s H) [] ((W2 σ).set 0 (some v)) H { s with heap:=h1,toks:=t' }:=by
 have Yk:=lI I.ok S.free;have clx:∀x c,(eB X.env scope.names []).lookup x=some c->X.env.cells.lookup x=some c:=λx c e=>lY Yk (λ_ _ z=>by cases z) x c (mem_of_lookup e);have Zv:∀b:Ψ,b∉(fO X A qual scope N f c s H).ex:=λb z=>absurd (show b∈([]:Γ Ψ) from z) (by simp);refine⟨⟨I.ok.mod,S.kind,rfl,rfl,yN _,λx y d e1 e2=>I.ok.inj x y d (clx x d e1) (clx y d e2),λx hx=>?_,λx d z=>?_,λ_=>hd,Around.frames_deeper hA,.inr ⟨rfl,rfl⟩,λb z=>absurd z (Zv b),I.bs,yD I.ok.ZE I.sz,λb _ _=>Zv b,λb z=>absurd z (Zv b),I.stack,I.XM⟩,
  rfl,I.bare,Un.kept W8,⟨_,YC,λi x w e1 e2 e3=>?_⟩,λx d e=>?_,I.Wn.fresh (yN _),λx d e=>I.WO x d (clx x d e),λq hq=>absurd (show q∈([]:Γ (Ψ×Obj)) from hq) (by simp),I.Wn.kept W8,?_⟩
 ·rcases hx with hx|hx
  ·exact absurd rfl (hnc _ (mem_of_lookup (show scope.names.lookup x=some .cell from hx)))
  ·exact gm (.inl hx)
 ·cases z
 ·cases i with
  | zero =>
   have e1:N[0]?=some x:=e1;rw[hN0] at e1;cases e1;have hl:0 < (W2 σ).length:=by rw[S.len];exact (List.getElem?_eq_some_iff.mp hN0).1
   rw[vN hl] at e2;cases e2;exact⟨u,r,.inl ⟨hp,by simp⟩⟩
  | succ i =>
   have e2':(W2 σ)[i+1]?=some (some w):=by
    rw[kU (by lia)] at e2;exact e2
   let⟨hfr,j,hj,hv⟩:=S.cap σ (i+1) x w e1 e2';have hm:(x,NameKind.free)∈scope.names:=mem_of_lookup hfr;let⟨m,hn,hl⟩:=I.loc;have kx:=S.free _ hm rfl;let⟨u',ru,lk⟩:=hl j x w hj hv (kx.elim (λk=>.inr (.inl k)) λk=>.inr (.inr k));refine⟨u',ru,.inr ⟨.inr hfr,?_⟩⟩;rcases lk with ⟨k,_⟩|⟨_,c',ec,ic⟩
   ·have k:X.env.kindOf x=some .local:=k;rcases kx with k'|k'<;>· rw[k] at k';cases k'
   ·let⟨c'',Xv⟩:=gm (env:=X.env) (acc:=[]) (.inl hfr);have e':=clx x c'' Xv;rw[ec] at e';cases e';exact⟨c',Xv,ic.keeps W8⟩
 ·let⟨w,q⟩:=I.cell x d (clx x d e);exact⟨w,q.keeps W8⟩
 ·rw[yC];exact S.len σ
def A4(I:Inv X pins σ H s)(hr:cO (k+1) A)(hA:A.frames=some X.stack)(S:je X scope N W2)(hnc:∀x∈scope.names,x.2≠.cell)
  (hN0:N[0]?=some p) (hp:scope.names.lookup p=some .local) (hNd:N.Nodup) (YD:scope.isCoroutine=false) (Zc:scope.isGenerator=false)
  (hf:s.heap.get? f=some (W.kla_obj name qual params body scope (eB X.env scope.names []) pm c Xy)) (Zd:H c=some (.YL qual)) (hb:bindArgs (W.kla_fn name qual params body scope (eB X.env scope.names []) pm (.ref c) Xy) ⟨[u],[]⟩=pure [(p,u)])
  (r:RelV v u) (hY:PE (fO X A qual scope N f c s H) body te) (q:te ((W2 σ).set 0 (some v)) H Q) :
  wpAny (model X.prog X.w) A (call (.ref f) [u]) (EP X pins σ Q) (λ_ _=>False) s:=by
 have WB:s.heap.CodeRec (.ref c) qual:=I.Wn c _ Zd;refine wpAny_call (W.kla_callFunE hr.depth hf rfl YD Zc rfl WB ?_);rw[hb];refine zW (wpAny_newFunctionEnv hnc (λy hy=>?_) (λh1 YC hsb=>⟨?_,?_⟩) S.kind)
 ·rw[List.mem_singleton.mp hy];exact hp
 ·exact I.nolimit.fresh _ hsb
 ·have hk1:∀b o,s.heap.get? b=some o->h1.get? b=some o:=λb o e=>hsb.extBut b o (yS (zY e)) (zU _ e);have I1:=LK (qual:=qual) (f:=f) (c:=c) I hr.hd hA S hnc hN0 hp hNd r YC hk1 (s.toks+[(p,u)].length);refine W.kla_codeExpr (xB (hY [] _ _ H Q I1 q) (λw s' z=>?_) λe s' h=>False.elim h);let⟨v',H',I',r',q'⟩:=z;exact⟨v',H',I.Z7 I'.os I'.base I'.Wn I'.bare (λb z=>absurd (show b∈([]:Γ Ψ) from z) (by simp)),r',q'⟩
def BL{pos:Pos}(l:Γ Θ)(h:TriplesOk l)(e:codeAmong pos' (l++[rawInt pos.line,rawInt pos.col,c])=some v):codeAmong pos' l=some v\/v=c:=by
 fun_induction TriplesOk l with
 | case1 =>
  simp?[xP,codeAmong,rawInt] at e;split at e
  ·cases e;exact .inr rfl
  ·cases e
 | case2 a t b u x rest ih =>
  simp?[xG,codeAmong] at e ⊢;split at e
  ·rename_i hc;rw[yM hc];exact .inl e
  ·rename_i hc;rw[yO hc];exact ih h e
 | case3 l h1 h2=>exact h.elim
def AZ(I:Inv X pins σ H s)(S:je X scope N W2)(hq:X.env.qual++"<lambda>"=qual)(XH:X.env.code=.ref c)(C:W.CodeHd X.base c P)(hT:H P=some (.tab qual))(hB:TN X.mg X.base)
  (Ze:defaultsOf params X.env=([],[]))
  (h:∀ (f c':Ψ) (pm Xy:Θ) (s':Ξ) (H':Hp),Inv X pins σ H' s'->s'.heap.get? f=some (W.kla_obj "<lambda>" qual params body scope (eB X.env scope.names []) pm c' Xy)->H' f=none->H' c'=some (.YL qual)->aD H H'->cL X pins H' f->(∀b,H' b≠none->H b≠none\/H' b=some (.YL qual))->Q (.ref f) s') :
  wpAny (model X.prog X.w) X.A (eval (.Lambda params body scope Xh) X.env) Q X.xe s:=by
 have Yk:=mV (lI I.ok S.free);have hCs:=C.keeps I.bk;have hg:s.heap.Ns mainGlobals X.mg:=by
  let⟨o,es,ep,e,r⟩:=I.ok.mod.glob;exact⟨o,es,ep,I.bk _ _ e,r⟩
 have hPn:X.base.get? P=none:=by
  cases e:X.base.get? P with
  | none=>rfl
  | some o=>rw[(I.bs P o e).2] at hT;cases hT
 let⟨ps,hP,ht,YD⟩:=I.Wn P _ hT;have hb:s.heap.BuiltinsAt X.mg P:=by
  let⟨bm,o,b1,b2,b3,b4,b5⟩:=hB;exact⟨bm,o,b1,b2,b3,(λz=>by rw[z,hPn] at b4;cases b4),I.bk _ _ b4,b5⟩
 refine W.kla_eval Ze ?_;rw[hq];cases hf:codeAmong Xh ps.toList with
 | some cv =>
  let⟨c',rfl,Xv⟩:=YD Xh cv hf;refine W.kla_makeFunctionHit Yk I.ok.glob hg XH hCs hP ht hf hb λXy h' tk kp hz=>?_;have kp2:∀b o,s.heap.get? b=some o->(h'.push (W.kla_obj "<lambda>" qual params body scope (eB X.env scope.names []) ((X.mg "__name__").getD .none) c' Xy)).get? b=some o:=λb o e=>zU _ (kp b o e);have hn:H h'.objs.size=none:=I.Wn.fresh hz;exact h _ c' _ Xy _ H (I.kept (t':=tk) kp2) (zX _ rfl) hn Xv (.refl _) (I.Xd hz hn) λb z=>.inl z
 | none =>
  have hgP:mainGlobals≠P:=λz=>by
   let⟨o,es,ep,e,r⟩:=I.ok.mod.glob;rw[z,hPn] at e;cases e
  refine W.kla_makeFunction Yk I.ok.glob hg XH hCs hP ht hf hgP hb λc' Xy h' tk hx hc1 YO hcr hP'=>?_;have hn:H c'=none:=I.Wn.fresh hc1;have hz:s.heap.objs.size<=h'.objs.size:=jT (jA hc1 YO);have nP:∀ {b:Ψ}{u:HO},H b=some u->(∀q,u≠.tab q)->b≠P:=λ{b u} e WN z=>by subst z;rw[hT] at e;cases e;exact WN _ rfl
  have kp:∀b o,b≠P->s.heap.get? b=some o->(h'.push (W.kla_obj "<lambda>" qual params body scope (eB X.env scope.names []) ((X.mg "__name__").getD .none) c' Xy)).get? b=some o:=λb o hb e=>zU _ (hx b o hb e);have hPc:P≠c':=λz=>by rw[<- z,hT] at hn;cases hn
  have up:∀b u,H b=some u->upd H c' (.YL qual) b=some u:=λb u e=>by rw[ak (aG e hn)];exact e
  have un:Un X.fs [] H (upd H c' (.YL qual)) s.heap (h'.push (W.kla_obj "<lambda>" qual params body scope (eB X.env scope.names []) ((X.mg "__name__").getD .none) c' Xy)):=by
   refine⟨λb o e n _ _=>kp b o (λz=>by rw[z,hT] at n;cases n) e,λb o e n _ _=>⟨o.slots,kp b o (λz=>by rw[z,hT] at n;cases n) e⟩,λb o e n _=>?_,λb o e _=>?_,λb xs e=>up b _ e,λb o u e=>up b _ e,⟨λb u e _=>up b u e,λb q ps' e z=>?_⟩⟩
   ·rw[ak (yS (zP (zY e) hc1))];exact n
   ·by_cases hb:b=P
    ·subst hb;exact⟨_,zU _ hP'⟩
    ·exact⟨o,kp b o hb e⟩
   ·by_cases hb:b=P
    ·subst hb;rw[hP] at z;cases z;exact⟨_,zU _ hP'⟩
    ·exact⟨#[],by rw[Array.append_empty];exact kp b _ hb z⟩
  have Wn:qj X.prog X.w (upd H c' (.YL qual)) (h'.push (W.kla_obj "<lambda>" qual params body scope (eB X.env scope.names []) ((X.mg "__name__").getD .none) c' Xy)):=by
   intro b u e;by_cases hbc:b=c'
   ·subst hbc;rw[aw] at e;cases e;let⟨c0,oc,vs,t,e0,e1,r⟩:=hcr;exact⟨c0,oc,vs,t,e0,zU _ e1,r⟩
   ·rw[ak hbc] at e;by_cases hb:b=P
    ·subst hb;rw[hT] at e;cases e;refine⟨_,zU _ hP',?_,λpos v hv=>?_⟩
     ·have:=TriplesOk_snoc Xh.line Xh.col (.ref c') ps.toList ht;sleep 14
     ·have hv':codeAmong pos (ps.toList++[rawInt Xh.line,rawInt Xh.col,.ref c'])=some v:=by simpa using hv
      rcases BL ps.toList ht hv' with z|z
      ·let⟨c0,z1,z2⟩:=YD pos v z;exact⟨c0,z1,up _ _ z2⟩
      ·exact⟨c',z,aw⟩
    ·exact (I.Wn b u e).W0 (λd o hd eo=>kp d o (by
      rcases hd with rfl|hd
      ·exact hb
      ·exact nP hd λq z=>by cases z) eo) (λd hd=>up d _ hd) λd o hd _=>up d _ hd
  have I':=I.un (t':=tk) un Wn;have hnf:upd H c' (.YL qual) h'.objs.size=none:=by
   rw[ak (jJ YO)];exact I.Wn.fresh hz
  refine h _ c' _ Xy _ _ I' (zX _ rfl) hnf aw up (I.Xd hz hnf) λb z=>?_;by_cases hbc:b=c'
  ·subst hbc;exact .inr aw
  ·rw[ak hbc] at z;exact .inl z
end L2
namespace Dl
open PySem L2 PySem.Spec PyProof.Rows
abbrev D:=PyData
mutual
def Rep(K:Φ)(H:Hp):D->V->Prop
 | .none,v=>v=.Wh
 | .bool b,v=>v=.bl b
 | .int i,v=>v=.int i
 | .str x,v=>v=.str x
 | .tuple ds,v=>∃a vs,v=.ref a/\gQ K H a vs/\aq K H ds vs
 | .list ds,v=>∃a vs,v=.ref a/\gN K H a vs/\aq K H ds vs
 | .dict _,_=>False
def aq(K:Φ)(H:Hp):Γ D->Γ V->Prop
 | [],vs=>vs=[]
 | d::ds,vs=>∃v r,vs=v::r/\Rep K H d v/\aq K H ds r
end
def aE{K:Φ}(e:aD H H')(h:gQ K H a xs):gQ K H' a xs:=by
 rcases h with (h|⟨o,h⟩)|h
 ·exact .inl (.inl (e _ _ h))
 ·exact .inl (.inr ⟨o,e _ _ h⟩)
 ·exact .inr h
mutual
theorem Rep.mono{K:Φ}{H H':Hp}(e:aD H H'):∀ {d:D}{v:V},Rep K H d v->Rep K H' d v
 | .none,_,h=>h
 | .bool _,_,h=>h
 | .int _,_,h=>h
 | .str _,_,h=>h
 | .tuple ds,_,h=>by
  simp?[Rep] at h ⊢;let⟨a,vs,rfl,q,r⟩:=h;exact⟨a,vs,rfl,aE e q,aq.mono e r⟩
 | .list ds,_,h=>by
  simp?[Rep] at h ⊢;let⟨a,vs,rfl,q,r⟩:=h;exact⟨a,vs,rfl,e.seq q,aq.mono e r⟩
 | .dict _,_,h=>h
theorem aq.mono{K:Φ}{H H':Hp}(e:aD H H'):∀ {ds:Γ D}{vs:Γ V},aq K H ds vs->aq K H' ds vs
 | [],_,h=>h
 | d::ds,_,h=>by
  simp?[aq] at h ⊢;let⟨v,r,rfl,a,b⟩:=h;exact⟨v,r,rfl,Rep.mono e a,aq.mono e b⟩
end
section
variable {K:Φ}
def aq.nil:aq K H [] []:=by simp[aq]
def aq.cons(a:Rep K H d v)(b:aq K H ds vs):aq K H (d::ds) (v::vs):=by
 simp?[aq];exact⟨v,vs,rfl,a,b⟩
def aq.cons_inv(h:aq K H (d::ds) vs):∃v r,vs=v::r/\Rep K H d v/\aq K H ds r:=by simpa only[aq] using h
def aq.nil_inv(h:aq K H [] vs):vs=[]:=by simpa only[aq] using h
def aq.length:∀ {ds:Γ D}{vs:Γ V},aq K H ds vs->vs.length=ds.length
 | [],_,h=>by rw[h.nil_inv];rfl
 | d::ds,_,h=>by let⟨v,r,rfl,_,b⟩:=h.cons_inv;simp[aq.length b]
def aq.get:∀ {ds:Γ D}{vs:Γ V}{i:Nat}{v:V},aq K H ds vs->vs[i]?=some v->∃d,ds[i]?=some d/\Rep K H d v
 | [],_,i,v,h,e=>by rw[h.nil_inv] at e;simp at e
 | d::ds,_,i,v,h,e=>by
  let⟨v',r,rfl,a,b⟩:=h.cons_inv;cases i with
  | zero=>simp at e;subst e;exact⟨d,rfl,a⟩
  | succ i=>simp at e;let⟨d',h1,h2⟩:=aq.get b e;exact⟨d',by simpa using h1,h2⟩
def aq.getD:∀ {ds:Γ D}{vs:Γ V}{i:Nat}{d:D},aq K H ds vs->ds[i]?=some d->∃v,vs[i]?=some v/\Rep K H d v
 | [],_,i,d,h,e=>by simp at e
 | d::ds,_,i,d',h,e=>by
  let⟨v',r,rfl,a,b⟩:=h.cons_inv;cases i with
  | zero=>simp at e;subst e;exact⟨v',rfl,a⟩
  | succ i=>simp at e;let⟨v,h1,h2⟩:=aq.getD b e;exact⟨v,by simpa using h1,h2⟩
def aq.append:∀ {ds es:Γ D}{vs us:Γ V},aq K H ds vs->aq K H es us->aq K H (ds++es) (vs++us)
 | [],_,_,_,h,g=>by rw[h.nil_inv];exact g
 | d::ds,_,_,_,h,g=>by let⟨v,r,rfl,a,b⟩:=h.cons_inv;exact aq.cons a (aq.append b g)
def aq.take:∀ {ds:Γ D}{vs:Γ V}(n:Nat),aq K H ds vs->aq K H (ds.take n) (vs.take n)
 | [],_,n,h=>by rw[h.nil_inv];simp[aq]
 | d::ds,_,0,h=>by simp[aq]
 | d::ds,_,n+1,h=>by let⟨v,r,rfl,a,b⟩:=h.cons_inv;exact aq.cons a (aq.take n b)
def aq.drop:∀ {ds:Γ D}{vs:Γ V}(n:Nat),aq K H ds vs->aq K H (ds.drop n) (vs.drop n)
 | [],_,n,h=>by rw[h.nil_inv];simp[aq]
 | d::ds,_,0,h=>h
 | d::ds,_,n+1,h=>by let⟨v,r,rfl,a,b⟩:=h.cons_inv;exact aq.drop n b
end
structure bh(HF H Wi H':Hp):Prop where
 hh:aD H H'
 ff:aD HF Wi
 fh:aD Wi H'
 nw:∀a o,Wi a=some o->HF a=some o\/H a=none
def bh.refl(s:aD HF H):bh HF H HF H:=⟨.refl _,.refl _,s,λ_ _ e=>.inl e⟩
def bh.trans(a:bh HF H Wj H1)(b:bh Wj H1 WD H2):bh HF H WD H2 :=
 ⟨a.hh.trans b.hh,a.ff.trans b.ff,b.fh,λx o e=>(b.nw x o e).elim (λz=>a.nw x o z) λz=>.inr (a.hh.free z)⟩
def cq(h:H p=none):aD H (upd H p o):=λb u e=>by rw[ak (aG e h)];exact e
def bh.new(s:aD HF H)(h:H p=none):bh HF H (upd HF p o) (upd H p o):=by
 have hf:HF p=none:=s.free h;refine⟨cq h,cq hf,λb u e=>?_,λb u e=>?_⟩
 ·by_cases hb:b=p
  ·subst hb;rw[aw] at e ⊢;exact e
  ·rw[ak hb] at e ⊢;exact s b u e
 ·by_cases hb:b=p
  ·subst hb;exact .inr h
  ·rw[ak hb] at e;exact .inl e
def bh.own(s:aD HF H)(h:H p=none):bh HF H HF (upd H p o) :=
 ⟨cq h,.refl _,λb u e=>by rw[ak (aG (s b u e) h)];exact s b u e,λ_ _ e=>.inl e⟩
def bh.freeze(g:bh HF H Wj H1)(h:H p=none)(h1:H1 p=some o)(hf:Wj p=none):bh HF H (upd Wj p o) H1 :=
 ⟨g.hh,g.ff.trans (cq hf),λb u e=>by
  by_cases hb:b=p
  ·subst hb;rw[aw] at e;rw[h1,<- e]
  ·rw[ak hb] at e;exact g.fh b u e,λb u e=>by
  by_cases hb:b=p
  ·subst hb;exact .inr h
  ·rw[ak hb] at e;exact g.nw b u e⟩
def kr:Γ Str:=["ways_of","turned_order","fairest"]
def cD(K:Φ)(HF:Hp):Prop:=∀ (f:Ψ) (oc:Θ) (od:Δ Ψ) (fd:η) (sl:Array (Δ Θ)) (c P:Ψ),K.lookup f=some ⟨oc,od,.func fd,sl⟩->fd.qualname∈kr->fd.code=.ref c->W.codeHdIn K c P=true->HF P=some (.tab (fd.qualname++".<locals>."++"<lambda>"))
def cD.mono{K:Φ}(h:cD K HF)(e:aD HF Wi):cD K Wi:=λf oc od fd sl c P a b d q=>e _ _ (h f oc od fd sl c P a b d q)
abbrev Env:=Γ (Δ D)
structure cw(K:W.Frag)(HF:Hp)(ρ:Env)(σ:L2.St):Prop where
 get:∀ (i:Nat) (d:D),ρ[i]?=some (some d)->∃v,σ[i]?=some (some v)/\Rep K HF d v
 len:ρ.length<=σ.length
 tb:cD K HF
def cw.mono{K:Φ}(h:cw K HF ρ σ)(e:aD HF Wi):cw K Wi ρ σ:=⟨λi d q=>let ⟨v,a,b⟩:=h.get i d q;⟨v,a,b.mono e⟩,h.len,h.tb.mono e⟩
def tD(K:Φ)(f:Env->Δ D):TE:=λσ H Q=>∃HF ρ d,aD HF H/\cw K HF ρ σ/\f ρ=some d/\∀v H' Wi,bh HF H Wi H'->Rep K Wi d v->Q v H'
def DE(X:Cx)(e:γ)(f:Env->Δ D):Prop:=PE X e (tD X.K f)
def tF(K:Φ)(f:Env->Δ (Γ D)):TE:=λσ H Q=>∃HF ρ ds,aD HF H/\cw K HF ρ σ/\f ρ=some ds /\
 ∀a vs H' Wi,bh HF H Wi H'->H a=none->Wi a=none->H' a=some (.lst vs)->aq K Wi ds vs->Q (.ref a) H'
def DF(X:Cx)(e:γ)(f:Env->Δ (Γ D)):Prop:=PE X e (tF X.K f)
def KF(K:Φ)(f:Env->Δ θ):TT:=λσ H Q=>∃HF ρ b,aD HF H/\cw K HF ρ σ/\f ρ=some b/\∀H' Wi,bh HF H Wi H'->Q b H'
def DT(X:Cx)(e:γ)(f:Env->Δ θ):Prop:=PT X e (KF X.K f)
def Uj(K:Φ)(f:Env->Δ (Γ D)):TA:=λσ H Q=>∃HF ρ ds,aD HF H/\cw K HF ρ σ/\f ρ=some ds/\∀vs H' Wi,bh HF H Wi H'->aq K Wi ds vs->Q vs H'
def DA(X:Cx)(es:Γ γ)(f:Env->Δ (Γ D)):Prop:=PA X es (Uj X.K f)
def aL(h:PE X e t)(i:∀σ H Q,t' σ H Q->t σ H Q):PE X e t':=λpins s σ H Q I q=>h pins s σ H Q I (i σ H Q q)
def k9(h:PT X e t)(i:∀σ H Q,t' σ H Q->t σ H Q):PT X e t':=λpins s σ H Q I q=>h pins s σ H Q I (i σ H Q q)
def oY(h:PA X e t)(i:∀σ H Q,t' σ H Q->t σ H Q):PA X e t':=λpos pins s σ H Q I q=>h pos pins s σ H Q I (i σ H Q q)
def bs(h:x.bind f=some b):∃a,x=some a/\f a=some b:=by
 cases x with
 | none=>cases h
 | some a=>exact⟨a,rfl,h⟩
def DF.de(h:DF X e f):DE X e (λρ=>(f ρ).map PyData.list):=aL h λσ H Q z=>by
 sleep 1;have hf:(f ρ).map PyData.list=some d:=hf;cases e1:f ρ with
 | none=>rw[e1] at hf;cases hf
 | some ds =>
  rw[e1] at hf;obtain rfl:PyData.list ds=d:=xE hf;refine⟨HF,ρ,ds,sm,eo,e1,λa vs H' Wi g ha Zx h' r=>q _ _ (upd Wi a (.lst vs)) (g.freeze ha h' Zx) ?_⟩;simp?[Rep];exact⟨a,vs,rfl,.inl (.inl aw),r.mono (cq Zx)⟩
def ab(i:Nat):Env->Δ D:=λρ=>(ρ[i]?).getD none
def Q3(i:Nat)(hN:X.N[i]?=some x)(hv:rP X.env.scope x)(hd:(x == ("__debug__":Str))=false:=by decide)(WB:(x == ("__classdict__":Str))=false:=by decide):DE X (.Name x pos) (ab i) :=
 aL (bA hN hv hd WB) λσ H Q z=>by
  sleep 1;have hf:(ρ[i]?).getD none=some d:=hf;cases e:ρ[i]? with
  | none=>rw[e] at hf;cases hf
  | some o =>
   rw[e] at hf;have hf:o=some d:=hf;subst hf;let⟨v,a,b⟩:=eo.get i d e;exact⟨v,a,q v H HF (.refl sm) b⟩
def fC(d:D):Env->Δ D:=λ_=>some d
def Ox{i j pos}:DE X (.Constant (.int i) j pos) (fC (.int i)):=aL QO λσ H Q z=>by let⟨HF,ρ,d,sm,eo,hf,q⟩:=z;cases hf;exact q _ H HF (.refl sm) (by simp[Rep])
def SD{b j pos}:DE X (.Constant (.bool b) j pos) (fC (.bool b)):=aL SL λσ H Q z=>by let⟨HF,ρ,d,sm,eo,hf,q⟩:=z;cases hf;exact q _ H HF (.refl sm) (by simp[Rep])
def N0{j pos}:DE X (.Constant .none j pos) (fC .none):=aL P1 λσ H Q z=>by let⟨HF,ρ,d,sm,eo,hf,q⟩:=z;cases hf;exact q _ H HF (.refl sm) (by simp[Rep])
def Qy{x j pos}:DE X (.Constant (.str x) j pos) (fC (.str x)):=aL Pu λσ H Q z=>by let⟨HF,ρ,d,sm,eo,hf,q⟩:=z;cases hf;exact q _ H HF (.refl sm) (by simp[Rep])
def Mv(hg:Gl X x)(hm:X.mg x=some (.int i t))(hd:(x == ("__debug__":Str))=false:=by decide):DE X (.Name x pos) (fC (.int i)) :=
 aL (LY (v:=.int i) hg hm ⟨t,rfl⟩ hd) λσ H Q z=>by let⟨HF,ρ,d,sm,eo,hf,q⟩:=z;cases hf;exact q _ H HF (.refl sm) (by simp[Rep])
def ee(K:Φ)(r:R2)(g:D->D->Δ D):Prop:=∀HF H x y v1 v2 d Q,aD HF H->Rep K HF x v1->Rep K HF y v2->g x y=some d->(∀v H' Wi,bh HF H Wi H'->Rep K Wi d v->Q v H')->r v1 v2 H Q
def f2(g:D->D->Δ D)(f1 f2:Env->Δ D):Env->Δ D:=λρ=>(f1 ρ).bind λx=>(f2 ρ).bind λy=>g x y
def LN{X:Cx}{fa fb:Env->Δ D}(hr:ee X.K r g):∀σ H Q,tD X.K (f2 g fa fb) σ H Q->Rc r (tD X.K fa) (tD X.K fb) σ H Q:=λσ H Q z=>by
 sleep 1;sleep 8;let⟨y,hy,hg⟩:=bs hf;exact⟨HF,ρ,x,sm,eo,hx,λv1 H1 Wj g1 r1=>⟨Wj,ρ,y,g1.fh,eo.mono g1.ff,hy,λv2 H2 WD g2 r2=>hr WD H2 x y v1 v2 d Q g2.fh (r1.mono g2.ff) r2 hg λv H' Wi g3 r3=>q v H' Wi ((g1.trans g2).trans g3) r3⟩⟩
def AD(ho:gO X (binaryOp op) r)(hr:ee X.K r g)(ha:DE X a fa)(hb:DE X b fb):DE X (.BinOp a op b pos) (f2 g fa fb):=aL (Rq ho ha hb) (LN hr)
def lC(ho:gO X (compareOp op) r)(hr:ee X.K r g)(ha:DE X a fa)(hb:DE X b fb)(hm:behindInMarks op b=false):DE X (.Compare a [op] [b] pos) (f2 g fa fb):=aL (Ei ho ha hb hm) (LN hr)
def zg(C:Int->Int->Prop)[∀i j,Decidable (C i j)](g:Int->Int->D):D->D->Δ D
 | .int i,.int j=>if C i j then some (g i j) else none
 | _,_=>none
def ID{K:Φ}{C:Int->Int->Prop}[∀i j,Decidable (C i j)]{gi:Int->Int->Int}:ee K (rI C λi j=>.int (gi i j)) (zg C λi j=>.int (gi i j)):=by
 sleep 5;cases x<;>cases y<;>simp?[zg] at hg<;>try cases hg
 rename_i i j;simp?[Rep] at r1 r2;by_cases hc:C i j
 ·rw[yM hc] at hg;cases hg;exact⟨i,j,r1,r2,hc,q _ H HF (.refl sm) (by simp[Rep])⟩
 ·rw[yO hc] at hg;cases hg
def Gx{K:Φ}{gi:Int->Int->Int}:ee K (KA λi j=>.int (gi i j)) (zg (λ_ _=>True) λi j=>.int (gi i j)):=by
 sleep 5;cases x<;>cases y<;>simp?[zg] at hg<;>try cases hg
 rename_i i j;simp?[Rep] at r1 r2;exact⟨i,j,r1,r2,q _ H HF (.refl sm) (by simp[Rep])⟩
def lE{K:Φ}{gi:Int->Int->θ}:ee K (KA λi j=>.bl (gi i j)) (zg (λ_ _=>True) λi j=>.bool (gi i j)):=by
 sleep 5;cases x<;>cases y<;>simp?[zg] at hg<;>try cases hg
 rename_i i j;simp?[Rep] at r1 r2;exact⟨i,j,r1,r2,q _ H HF (.refl sm) (by simp[Rep])⟩
noncomputable instance (i j:Int):Decidable (uw i j):=by unfold uw;infer_instance
noncomputable instance (i j:Int):Decidable (K5 i j):=by unfold K5;infer_instance
section
variable {X:Cx}{a b c:γ}{fa fb fc:Env->Δ D}{pos:Pos}{rest:Γ γ}
def mn(fa fb:Env->Δ D):Env->Δ D:=λρ=>(fa ρ).bind fun|.bool true=>fb ρ|.bool false=>some (.bool false)|_=>none
def V4(fa fb:Env->Δ D):Env->Δ D:=λρ=>(fa ρ).bind fun|.bool true=>some (.bool true)|.bool false=>fb ρ|_=>none
def SM:D->Δ D|.bool b=>some (.bool (!b))|_=>none
def UL(fa:Env->Δ D):Env->Δ D:=λρ=>(fa ρ).bind SM
def NW{op}(h:DE X a fa):DE X (.BoolOp op [a] pos) fa:=HG h
def Qe(ha:DE X a fa)(hb:DE X (.BoolOp .And (b::rest) pos) fb):DE X (.BoolOp .And (a::b::rest) pos) (mn fa fb):=aL (Gr ha hb) λσ H Q z=>by
 sleep 1;sleep 8;sleep 21;cases x<;>try cases hf
 rename_i k;simp?[Rep] at r1;refine⟨k,r1,?_⟩;cases k with
 | true=>exact sV ⟨Wj,ρ,d,g1.fh,eo.mono g1.ff,hf,λv H' Wi g r=>q v H' Wi (g1.trans g) r⟩
 | false=>cases hf;exact qh (q _ H1 Wj g1 (by simp[Rep]))
def gB:D->Δ θ|.bool b=>some b|_=>none
def fB(f:Env->Δ D):Env->Δ θ:=λρ=>(f ρ).bind gB
def B4:∀σ H (Q:θ->Hp->Prop),KF X.K (fB f) σ H Q->tD X.K f σ H λx H1=>∃c,x=.bl c/\Q c H1:=λσ H Q z=>by
 let⟨HF,ρ,k,sm,eo,hf,q⟩:=z;sleep 8;sleep 21;cases x<;>try cases hf
 simp?[Rep] at r1;exact⟨_,r1,q H1 Wj g1⟩
def CM(h:DE X a f)(he:∀whole,isTrue a X.env whole=(do let v <- whole;standAt a.pos;holding [v] (truthy v)):=by intro _;rfl):DT X a (fB f):=k9 (Jw h he) B4
def ki(ho:gO X (compareOp op) r)(hr:ee X.K r g)(ha:DE X a fa)(hb:DE X b fb)(hm:behindInMarks op b=false):DT X (.Compare a [op] [b] pos) (fB (f2 g fa fb)) :=
 k9 (xn ho ha hb hm) λσ H Q h=>LN hr σ H _ (B4 σ H Q h)
def qd(fa fb:Env->Δ θ):Env->Δ θ:=λρ=>(fa ρ).bind fun|true=>fb ρ|false=>some false
def Bq(fa fb:Env->Δ θ):Env->Δ θ:=λρ=>(fa ρ).bind fun|true=>some true|false=>fb ρ
def cR(fa:Env->Δ θ):Env->Δ θ:=λρ=>(fa ρ).map (!·)
variable {ta tb:Env->Δ θ}
def DW(X:Cx)(e:γ)(f:Env->Δ θ):Prop:=PW X e (KF X.K f)
def Bp(h:PW X e t)(i:∀σ H Q,t' σ H Q->t σ H Q):PW X e t':=λwh pins s σ H Q I q=>h wh pins s σ H Q I (i σ H Q q)
def DW.dt(h:DW X a ta):DT X a ta:=PW.pt h
def Ks(ha:DT X a ta):DW X (.BoolOp .And [a] pos) ta:=LS ha
def Oh(ha:DT X a ta):DW X (.BoolOp .Or [a] pos) ta:=Io ha
def O9(ha:DT X a ta)(hb:DW X (.BoolOp .And (b::rest) pos) tb):DW X (.BoolOp .And (a::b::rest) pos) (qd ta tb):=Bp (Pf ha hb) λσ H Q z=>by
 sleep 1;sleep 8;refine⟨HF,ρ,x,sm,eo,hx,λH1 Wj g1=>?_⟩;cases x with
 | true=>exact sV ⟨Wj,ρ,d,g1.fh,eo.mono g1.ff,hf,λH' Wi g=>q H' Wi (g1.trans g)⟩
 | false=>cases hf;exact qh (q H1 Wj g1)
def RV(ha:DT X a ta)(hb:DW X (.BoolOp .Or (b::rest) pos) tb):DW X (.BoolOp .Or (a::b::rest) pos) (Bq ta tb):=Bp (Nz ha hb) λσ H Q z=>by
 sleep 1;sleep 8;refine⟨HF,ρ,x,sm,eo,hx,λH1 Wj g1=>?_⟩;cases x with
 | false=>exact qh ⟨Wj,ρ,d,g1.fh,eo.mono g1.ff,hf,λH' Wi g=>q H' Wi (g1.trans g)⟩
 | true=>cases hf;exact sV (q H1 Wj g1)
def Oy(ha:DT X a ta):DT X (.UnaryOp .Not a pos) (cR ta):=k9 (Hc ha) λσ H Q z=>by
 sleep 1;have hf:(ta ρ).map (!·)=some d:=hf;cases e:ta ρ with
 | none=>rw[e] at hf;cases hf
 | some k=>rw[e] at hf;cases hf;exact⟨HF,ρ,k,sm,eo,e,λH1 Wj g1=>q H1 Wj g1⟩
def M8(tc:Env->Δ θ)(fa fb:Env->Δ D):Env->Δ D:=λρ=>(tc ρ).bind fun|true=>fa ρ|false=>fb ρ
def Tn(hc:DT X c ta)(ha:DE X a fa)(hb:DE X b fb):DE X (.IfExp c a b pos) (M8 ta fa fb):=aL (Im hc ha hb) λσ H Q z=>by
 sleep 1;sleep 8;refine⟨HF,ρ,x,sm,eo,hx,λH1 Wj g1=>?_⟩;cases x with
 | true=>exact sV ⟨Wj,ρ,d,g1.fh,eo.mono g1.ff,hf,λv H' Wi g r=>q v H' Wi (g1.trans g) r⟩
 | false=>exact qh ⟨Wj,ρ,d,g1.fh,eo.mono g1.ff,hf,λv H' Wi g r=>q v H' Wi (g1.trans g) r⟩
def lz(g g':D->D->Δ D)(fa fb fc:Env->Δ D):Env->Δ D:=λρ=>(fa ρ).bind λx=>(fb ρ).bind λy=>(g x y).bind fun|.bool true=>(fc ρ).bind λz=>g' y z|.bool false=>some (.bool false)|_=>none
def D2(hr:ee X.K r g)(X4:ee X.K r' g'):∀σ H Q,tD X.K (lz g g' fa fb fc) σ H Q->BG r r' (tD X.K fa) (tD X.K fb) (tD X.K fc) σ H Q:=λσ H Q z=>by
 sleep 1;sleep 8;let⟨y,hy,hf⟩:=bs hf;let⟨z,hz,hf⟩:=bs hf;refine⟨HF,ρ,x,sm,eo,hx,λv1 H1 Wj g1 r1=>⟨Wj,ρ,y,g1.fh,eo.mono g1.ff,hy,λv2 H2 WD g2 r2=>hr WD H2 x y v1 v2 z _ g2.fh (r1.mono g2.ff) r2 hz λv3 H3 WL g3 r3=>?_⟩⟩;cases z<;>try cases hf
 rename_i k;simp?[Rep] at r3;refine⟨k,r3,?_⟩;have G:=(g1.trans g2).trans g3;cases k with
 | false=>cases hf;exact qh (q _ H3 WL G (by simp[Rep]))
 | true =>
  let⟨w,hw,hg⟩:=bs hf;exact sV ⟨WL,ρ,w,G.fh,eo.mono G.ff,hw,λv4 H4 Xb g4 r4=>X4 Xb H4 y w v2 v4 d Q g4.fh (r2.mono (g3.ff.trans g4.ff)) r4 hg λv H' Wi g5 r5=>q v H' Wi ((G.trans g4).trans g5) r5⟩
def JW(ho:gO X (compareOp op) r)(hr:ee X.K r g)(XD:gO X (compareOp Y6) r')(X4:ee X.K r' g')(ha:DE X a fa)(hb:DE X b fb)(hc:DE X c fc)
  (hm:lastMarks [op,Y6] [b,c]=false:=by with_unfolding_all rfl):DE X (.Compare a [op,Y6] [b,c] pos) (lz g g' fa fb fc):=aL (IZ ho XD ha hb hc hm) (D2 hr X4)
def GZ(ho:gO X (compareOp op) r)(hr:ee X.K r g)(XD:gO X (compareOp Y6) r')(X4:ee X.K r' g')(ha:DE X a fa)(hb:DE X b fb)(hc:DE X c fc)
  (hm:lastMarks [op,Y6] [b,c]=false:=by with_unfolding_all rfl):DT X (.Compare a [op,Y6] [b,c] pos) (fB (lz g g' fa fb fc)) :=
 k9 (Jf ho XD ha hb hc hm) λσ H Q h=>D2 hr X4 σ H _ (B4 σ H Q h)
def ag:Env->Δ (Γ D):=λ_=>some []
def aa(f:Env->Δ D)(g:Env->Δ (Γ D)):Env->Δ (Γ D):=λρ=>(f ρ).bind λx=>(g ρ).map (x::·)
def IJ:DA X [] ag:=oY da λσ H Q z=>by let⟨HF,ρ,d,sm,eo,hf,q⟩:=z;cases hf;exact q [] H HF (.refl sm) aq.nil
def DY(he:DE X e f)(hs:DA X es g)(X1:starEach (e::es) X.env=(false,eval e X.env)::starEach es X.env:=by rfl):DA X (e::es) (aa f g) :=
 oY (bu he hs X1) λσ H Q z=>by
  sleep 1;sleep 8;have hf:(g ρ).map (x::·)=some d:=hf;cases e1:g ρ with
  | none=>rw[e1] at hf;cases hf
  | some xs =>
   rw[e1] at hf;cases hf;exact⟨HF,ρ,x,sm,eo,hx,λv1 H1 Wj g1 r1=>⟨Wj,ρ,xs,g1.fh,eo.mono g1.ff,e1,λvs H2 WD g2 r2=>q (v1::vs) H2 WD (g1.trans g2) (aq.cons (r1.mono g2.ff) r2)⟩⟩
variable {es:Γ γ}{fs:Env->Δ (Γ D)}
def small(ds:Γ D):Δ (Γ D):=if ds.length<=sizeLine then some ds else none
def dz{ds es:Γ D}(h:small ds=some es):es=ds/\ds.length<=sizeLine:=by
 unfold small at h;split at h
 ·cases h;exact⟨rfl,‹_›⟩
 ·cases h
def aK(g:Env->Δ (Γ D)):Env->Δ D:=λρ=>(g ρ).bind λds=>(small ds).map PyData.tuple
def iN(g:Env->Δ (Γ D)):Env->Δ (Γ D):=λρ=>(g ρ).bind small
def OI{x1}(h:DA X es fs):DE X (.Tuple es x1 pos) (aK fs):=aL (w6 h) λσ H Q z=>by
 sleep 1;let⟨ds,hx,hf⟩:=bs hf;have hf:(small ds).map PyData.tuple=some d:=hf;cases e:small ds with
 | none=>rw[e] at hf;cases hf
 | some es' =>
  rw[e] at hf;cases hf;let⟨rfl,hz⟩:=dz e;refine⟨HF,ρ,_,sm,eo,hx,λvs H1 Wj g1 r1=>⟨by rw[r1.length];exact hz,λp hp=>q _ _ (upd Wj p (.tup vs)) (g1.trans (.new g1.fh hp)) ?_⟩⟩;simp?[Rep];exact⟨p,vs,rfl,.inl (.inl aw),r1.mono (cq (g1.fh.free hp))⟩
def OM(h:DA X es fs):DF X (.List es pos) (iN fs):=aL (QL h) λσ H Q z=>by
 sleep 1;let⟨ds,hx,hf⟩:=bs hf;let⟨rfl,hz⟩:=dz hf;exact⟨HF,ρ,_,sm,eo,hx,λvs H1 Wj g1 r1=>⟨by rw[r1.length];exact hz,λp hp=>q p vs _ Wj (g1.trans (.own g1.fh hp)) (g1.hh.free hp) (g1.fh.free hp) aw r1⟩⟩
def ay:D->D->Δ D
 | .tuple ds,.int i=>uh ds i
 | .list ds,.int i=>uh ds i
 | _,_=>none
def A8{K:Φ}(r:aq K HF ds vs)(h:uh ds i=some d):∃v,uh vs i=some v/\Rep K HF d v:=by
 unfold uh at h ⊢;rw[r.length];let⟨j,hj,h⟩:=bs h;let⟨v,a,b⟩:=r.getD h;exact⟨v,by rw[hj];exact a,b⟩
def QY{K:Φ}:ee K (Vw K) ay:=by
 sleep 5;cases x<;>cases y<;>simp?[ay] at hg<;>try cases hg
 ·simp?[Rep] at r1 r2;let⟨a,vs,rfl,hs,r⟩:=r1;let⟨v,hv,rv⟩:=A8 r hg;exact .inl ⟨a,vs,_,v,rfl,r2,sm.seq hs,hv,q v H HF (.refl sm) rv⟩
 ·simp?[Rep] at r1 r2;let⟨a,vs,rfl,hs,r⟩:=r1;let⟨v,hv,rv⟩:=A8 r hg;exact .inr (.inl ⟨a,vs,_,v,rfl,r2,aE sm hs,hv,q v H HF (.refl sm) rv⟩)
def RI(ha:DE X a fa)(hb:DE X b fb)(hs:yi b:=by intro _ _;rfl):DE X (.Subscript a b pos) (f2 ay fa fb):=aL (Sv QA ha hb hs) (LN QY)
mutual
theorem gu{pins:Γ (Ψ×Obj)}{σ:L2.St}{H HF:Hp}{s:Ξ}(I:Inv X pins σ H s)(sm:aD HF H):∀ {d:D}{v:V}{u:Θ},Rep X.K HF d v->RelV v u->∃as,Reads s.heap u d as
 | .none,_,_,h,r=>by simp?[Rep] at h;subst h;cases r;exact⟨_,.none⟩
 | .bool b,_,_,h,r=>by simp?[Rep] at h;subst h;cases r;exact⟨_,.bool b⟩
 | .int i,_,_,h,r=>by simp?[Rep] at h;subst h;let⟨t,rfl⟩:=r;exact⟨_,.int i t⟩
 | .str i,_,_,h,r=>by simp?[Rep] at h;subst h;let⟨t,rfl⟩:=r;exact⟨_,.str i t⟩
 | .tuple ds,_,_,h,r=>by
  simp?[Rep] at h;let⟨a,vs,rfl,hs,rr⟩:=h;cases r;let⟨its,rv,⟨o,ho,hc,n,hd⟩,_⟩:=I.tuple (aE sm hs);let⟨as,q⟩:=pI I sm rr rv;exact⟨as,.tuple ho hc hd (by simpa using q)⟩
 | .list ds,_,_,h,r=>by
  simp?[Rep] at h;let⟨a,vs,rfl,hs,rr⟩:=h;cases r;let⟨its,rv,pl,_⟩:=I.list (sm.seq hs);let⟨o,ho,hc,n,hd⟩:=pl.isList;let⟨as,q⟩:=pI I sm rr rv;exact⟨_,.list ho hc hd (by simpa using q)⟩
 | .dict _,_,_,h,r=>by simp?[Rep] at h
theorem pI{pins:Γ (Ψ×Obj)}{σ:L2.St}{H HF:Hp}{s:Ξ}(I:Inv X pins σ H s)(sm:aD HF H):∀ {ds:Γ D}{vs:Γ V}{us:Γ Θ},aq X.K HF ds vs->aH vs us->∃as,ReadsAll s.heap us ds as
 | [],_,_,h,r=>by rw[h.nil_inv] at r;cases r;exact⟨_,.nil⟩
 | d::ds,_,_,h,r=>by
  let⟨v,vr,rfl,a,b⟩:=h.cons_inv;cases r with
  | cons r rr =>
   let⟨as,q⟩:=gu I sm a r;let⟨bs,p⟩:=pI I sm b rr;exact⟨_,.cons q p⟩
end
def TM(K:Φ)(g:D->D->Δ θ):R2:=λv1 v2 H Q=>∃HF x y k,aD HF H/\Rep K HF x v1/\Rep K HF y v2/\g x y=some k/\Q (.bl k) H
def lQ{K:Φ}:ee K (TM K g) (λx y=>(g x y).map PyData.bool):=by
 sleep 5;have hg:(g x y).map PyData.bool=some d:=hg;cases e:g x y with
 | none=>rw[e] at hg;cases hg
 | some k=>rw[e] at hg;cases hg;exact⟨HF,x,y,k,sm,r1,r2,e,q _ H HF (.refl sm) (by simp[Rep])⟩
def LJ(x y:D):Δ θ:=if SeqAt.shaped x=true/\SeqAt.shaped y=true then some (PyData.eqv x y) else none
def Oe(x y:D):Δ θ:=if SeqAt.shaped x=true/\SeqAt.shaped y=true then some (!PyData.eqv x y) else none
def Ci(hu:X.A.units+64 < cLine):gO X (compareOp .Eq) (TM X.K LJ):=by
 intro pins s σ H v1 v2 u1 u2 Q I rx ry h;let⟨HF,x,y,k,sm,r1,r2,hg,q⟩:=h;unfold LJ at hg;split at hg<;>cases hg;rename_i hh;let⟨as,ra⟩:=gu I sm r1 rx;let⟨bs,rb⟩:=gu I sm r2 ry;exact eq_dataH ra rb hh.1 hh.2 hu ⟨.bl _,H,I,rfl,q⟩
def CH(hu:X.A.units+64 < cLine):gO X (compareOp .NotEq) (TM X.K Oe):=by
 intro pins s σ H v1 v2 u1 u2 Q I rx ry h;let⟨HF,x,y,k,sm,r1,r2,hg,q⟩:=h;unfold Oe at hg;split at hg<;>cases hg;rename_i hh;let⟨as,ra⟩:=gu I sm r1 rx;let⟨bs,rb⟩:=gu I sm r2 ry;exact ne_dataH ra rb hh.1 hh.2 hu ⟨.bl _,H,I,rfl,q⟩
def items:D->Δ (Γ D)|.tuple ds=>some ds|.list ds=>some ds|_=>none
end
def Rn(K:Φ)(n:Nat)(m:Γ D->Δ D):Sp:=λvs H Q _=>∃HF ds d,aD HF H/\cD K HF/\aq K HF ds vs/\ds.length=n/\m ds=some d/\∀v H' Wi,bh HF H Wi H'->Rep K Wi d v->Q v H'
structure Gf(P:Program)(w:World)(K:W.Frag)(mg:Str->Option Value)(base:Heap)(k:Nat)(x:Str)(n:Nat)(m:List D->Option D):Prop where
 ex:∃ (f:Ψ) (fd:η) (ps:Γ Str),eZ P w K mg base uS k f fd ps (Rn K n m)/\mg x=some (.ref f)/\W.keepIn K (.ref f)=true/\Binds K fd ps []
def Gf.mono{K:Φ}(F:Gf P w K mg base k x n m)(h:k<=j):Gf P w K mg base j x n m:=by
 let⟨f,fd,ps,a,b,c,d⟩:=F.ex;exact⟨f,fd,ps,a.mono h,b,c,d⟩
def ah(n:Nat)(m:Γ D->Δ D)(fs:Env->Δ (Γ D)):Env->Δ D:=λρ=>(fs ρ).bind λds=>if ds.length=n then m ds else none
def Ms(F:Gf X.prog X.w X.K X.mg X.base k x n m)(hr:cO k X.A)(hg:Gl X x)(ha:DA X (e::es) fs)(Xx:(x == ("__debug__":Str))=false:=by decide)
  (he:starEach (e::es) X.env=(false,eval e X.env)::starEach es X.env:=by rfl) (WU:(backTo pos (starEach es X.env)).any (·.1)=false:=by rfl):DE X (.Call (.Name x p) (e::es) [] pos) (ah n m fs):=by
 let⟨f,fd,ps,ok,hm,hk,hb⟩:=F.ex;refine aL (Do (E:=E0) ok hr hg hm hk hb .nil u4 ha Xx he WU) λσ H Q z=>?_;sleep 1;let⟨ds,hx,hf⟩:=bs hf;split at hf
 ·rename_i hl;exact⟨HF,ρ,ds,sm,eo,hx,λvs H1 Wj g1 r1=>⟨Wj,ds,d,g1.fh,eo.tb.mono g1.ff,by rw[qG];exact r1,hl,hf,λv H' Wi g r=>q v H' Wi (g1.trans g) r⟩⟩
 ·cases hf
def GJ(K:Φ)(r:Γ V->Hp->VK->Prop)(g:Γ D->Δ D):Prop:=∀HF H ds vs d Q,aD HF H->aq K HF ds vs->g ds=some d->(∀v H' Wi,bh HF H Wi H'->Rep K Wi d v->Q v H')->r vs H Q
def bw(g:Γ D->Δ D)(fs:Env->Δ (Γ D)):Env->Δ D:=λρ=>(fs ρ).bind g
def Sk{X:Cx}{fs:Env->Δ (Γ D)}(hs:GJ X.K r g):∀σ H Q,tD X.K (bw g fs) σ H Q->TX r (Uj X.K fs) σ H Q:=λσ H Q z=>by
 sleep 1;let⟨ds,hx,hf⟩:=bs hf;exact⟨HF,ρ,ds,sm,eo,hx,λvs H1 Wj g1 r1=>hs Wj H1 ds vs d Q g1.fh r1 hf λv H' Wi g2 r2=>q v H' Wi (g1.trans g2) r2⟩
def NF(K:Φ)(r:Γ V->Hp->VK->Prop)(g:Γ D->Δ (Γ D)):Prop:=∀HF H ds vs es Q,aD HF H->aq K HF ds vs->g ds=some es ->
 (∀a us H' Wi,bh HF H Wi H'->H a=none->Wi a=none->H' a=some (.lst us)->aq K Wi es us->Q (.ref a) H')->r vs H Q
def uu(g:Γ D->Δ (Γ D))(fs:Env->Δ (Γ D)):Env->Δ (Γ D):=λρ=>(fs ρ).bind g
def SY{X:Cx}{fs:Env->Δ (Γ D)}(hs:NF X.K r g):∀σ H Q,tF X.K (uu g fs) σ H Q->TX r (Uj X.K fs) σ H Q:=λσ H Q z=>by
 sleep 1;let⟨ds,hx,hf⟩:=bs hf;exact⟨HF,ρ,ds,sm,eo,hx,λvs H1 Wj g1 r1=>hs Wj H1 ds vs d Q g1.fh r1 hf λa us H' Wi g2 ha Zx h' r2=>q a us H' Wi (g1.trans g2) (g1.hh.free ha) Zx h' r2⟩
structure rf(X:Cx)(x:Str)(v:Value):Prop where
 gl:Gl X x
 mg:X.mg x=none
 bt:bootBuiltins x=some v
def lu{id:String}(hc:gg X (.builtin id) r)(hs:GJ X.K r g)(B:rf X x (.builtin id))(ha:DA X (e::es) fs)(hn:x≠"__name__":=by decide)(Xx:(x == ("__debug__":Str))=false:=by decide)
  (he:starEach (e::es) X.env=(false,eval e X.env)::starEach es X.env:=by rfl) (WU:(backTo pos (starEach es X.env)).any (·.1)=false:=by rfl):DE X (.Call (.Name x p) (e::es) [] pos) (bw g fs) :=
 aL (lJ hc B.gl B.mg B.bt ha hn Xx he WU) (Sk hs)
def JF{id:String}(hc:gg X (.builtin id) r)(hs:NF X.K r g)(B:rf X x (.builtin id))(ha:DA X (e::es) fs)(hn:x≠"__name__":=by decide)(Xx:(x == ("__debug__":Str))=false:=by decide)
  (he:starEach (e::es) X.env=(false,eval e X.env)::starEach es X.env:=by rfl) (WU:(backTo pos (starEach es X.env)).any (·.1)=false:=by rfl):DF X (.Call (.Name x p) (e::es) [] pos) (uu g fs) :=
 aL (lJ hc B.gl B.mg B.bt ha hn Xx he WU) (SY hs)
def Fb(hc:gg X (.type T) r)(hs:GJ X.K r g)(B:rf X x (.type T))(ha:DA X (e::es) fs)(hn:x≠"__name__":=by decide)(Xx:(x == ("__debug__":Str))=false:=by decide)
  (he:starEach (e::es) X.env=(false,eval e X.env)::starEach es X.env:=by rfl) (WU:(backTo pos (starEach es X.env)).any (·.1)=false:=by rfl):DE X (.Call (.Name x p) (e::es) [] pos) (bw g fs) :=
 aL (vm hc B.gl B.mg B.bt ha hn Xx he WU) (Sk hs)
def fM:D->Δ (Γ D)|.tuple ds=>some ds|.list ds=>some ds|_=>none
def oneOf:Γ D->Δ D|[d]=>some d|_=>none
def gG(h:oneOf ds=some d):ds=[d]:=by
 cases ds with
 | nil=>cases h
 | cons x r=>cases r with
  | nil=>cases h;rfl
  | cons _ _=>cases h
def mN(h:fM d=some ds):d=.tuple ds\/d=.list ds:=by
 cases d<;>cases h
 ·exact .inr rfl
 ·exact .inl rfl
def et:Γ D->Δ (Γ D):=λds=>(oneOf ds).bind fM
def lG{ds es:Γ D}(h:et ds=some es):ds=[.tuple es]\/ds=[.list es]:=by
 let⟨d,h1,h2⟩:=bs h;rw[gG h1];rcases mN h2 with rfl|rfl
 ·exact .inl rfl
 ·exact .inr rfl
def bO:Γ D->Δ D:=λds=>(et ds).map λes=>.int es.length
def ae{α β:Type}{x:Δ α}{f:α->β}{b:β}(h:x.map f=some b):∃a,x=some a/\f a=b:=by
 cases x with
 | none=>cases h
 | some a=>exact⟨a,rfl,xE h⟩
def MO{K:Φ}:GJ K (λxs H Q=>∃p ys,xs=[.ref p]/\(gN K H p ys\/gQ K H p ys)/\Q (.int ys.length) H) bO:=by
 sleep 41;let⟨es,h1,rfl⟩:=ae hg;rcases lG h1 with rfl|rfl
 all_goals
  let⟨v,r',rfl,a,b⟩:=r.cons_inv;rw[b.nil_inv];simp?[Rep] at a;let⟨p,us,rfl,h,rr⟩:=a
 ·exact⟨p,us,rfl,.inr (aE sm h),q _ H HF (.refl sm) (by simp[Rep,rr.length])⟩
 ·exact⟨p,us,rfl,.inl (sm.seq h),q _ H HF (.refl sm) (by simp[Rep,rr.length])⟩
def PX(B:rf X "len" (.builtin "len"))(ha:DA X [e] fs)(he:starEach [e] X.env=(false,eval e X.env)::starEach [] X.env:=by rfl):DE X (.Call (.Name "len" p) [e] [] pos) (bw bO fs) :=
 lu nF MO B ha (by decide) (by decide) he rfl
def eE{K:Φ}(h:HF l=none)(r:aq K HF ds vs):Rep K (upd HF l (.tup vs)) (.tuple ds) (.ref l):=by
 simp?[Rep];exact⟨l,vs,rfl,.inl (.inl aw),r.mono (cq h)⟩
def E9{K:Φ}:GJ K (λxs H Q=>∃p ys,xs=[.ref p]/\((gN K H p ys/\∀l,H l=none->Q (.ref l) (upd H l (.tup ys)))\/(gQ K H p ys/\Q (.ref p) H))) (λds=>(et ds).map PyData.tuple):=by
 sleep 41;let⟨es,h1,rfl⟩:=ae hg;rcases lG h1 with rfl|rfl
 all_goals
  let⟨v,r',rfl,a,b⟩:=r.cons_inv;rw[b.nil_inv];have a':=a;simp?[Rep] at a;let⟨p,us,rfl,h,rr⟩:=a
 ·exact⟨p,us,rfl,.inr ⟨aE sm h,q _ H HF (.refl sm) a'⟩⟩
 ·exact⟨p,us,rfl,.inl ⟨sm.seq h,λl hl=>q _ _ _ (.new sm hl) (eE (sm.free hl) rr)⟩⟩
def Hu(B:rf X "tuple" (.type "tuple"))(ha:DA X [e] fs)(he:starEach [e] X.env=(false,eval e X.env)::starEach [] X.env:=by rfl):DE X (.Call (.Name "tuple" p) [e] [] pos) (bw (λds=>(et ds).map PyData.tuple) fs) :=
 Fb ux E9 B ha (by decide) (by decide) he rfl
def ij:D->String|.none=>"NoneType" | .bool _=>"bool" | .int _=>"int" | .str _=>"str" | .tuple _=>"tuple" | .list _=>"list" | .dict _=>"dict"
def xg(a b:String):Δ θ:=if ((Value.type a) == (Value.type b))=true then some true else if W.kitMeta b=true then (fastBuiltinMro a).map (·.contains (Value.type b)) else none
def MI:∀a∈["NoneType","bool","int","str","tuple","list"],xg a "int"=some (a == "int"||a == "bool"):=by decide +kernel
def J0:∀a∈["NoneType","bool","int","str","tuple","list"],xg a "bool"=some (a == "bool"):=by decide +kernel
def kit_tuple:∀a∈["NoneType","bool","int","str","tuple","list"],xg a "tuple"=some (a == "tuple"):=by decide +kernel
def HD{A:ξ}{E:Θ->Ξ->Prop}(I:Inv X pins σ H s)(sm:aD HF H)(r:Rep X.K HF d v)(rv:RelV v u)
  (e:xg (ij d) T=some k) (h:∀tk,Q (.bool k) { s with toks:=tk }):wpAny (model X.prog X.w) A (call (.builtin "isinstance") [u,.type T]) Q E s:=by
 have e':W.kitOne X.K (.type (ij d)) (.type T)=some k:=e;cases d<;>simp?[Rep] at r
 ·subst r;cases rv;exact W.kia_one W.kitx_none I.XC True.intro e' (λz=>nomatch z) h
 ·subst r;cases rv;exact W.kia_one W.kitx_bool I.XC True.intro e' (λz=>nomatch z) h
 ·subst r;let⟨t,rfl⟩:=rv;exact W.kia_one W.kitx_int I.XC True.intro e' (λz=>nomatch z) h
 ·subst r;let⟨t,rfl⟩:=rv;exact W.kia_one W.kitx_str I.XC True.intro e' (λz=>nomatch z) h
 ·let⟨a,vs,rfl,hs,rr⟩:=r;cases rv;let⟨its,rv,pl,_⟩:=I.list (sm.seq hs);let⟨o,ho,hc,n,hd⟩:=pl.isList;exact W.kia_one W.kitx_list I.XC ⟨o,ho,hc⟩ e' (λz=>nomatch z) h
 ·let⟨a,vs,rfl,hs,rr⟩:=r;cases rv;let⟨its,rv,⟨o,ho,hc,n,hd⟩,_⟩:=I.tuple (aE sm hs);exact W.kia_one W.kitx_tuple I.XC ⟨o,ho,hc⟩ e' (λz=>nomatch z) h
def Ny(T:String)(f:Env->Δ D):Env->Δ D:=λρ=>(f ρ).bind λd=>(xg (ij d) T).map PyData.bool
def Rv(B:rf X "isinstance" (.builtin "isinstance"))(C:rf X xT (.type T))(h:DE X e f)(hn:xT≠"__name__":=by decide)(hd:(xT == ("__debug__":Str))=false:=by decide)
  (he:starEach [e,.Name xT pT] X.env=(false,eval e X.env)::starEach [.Name xT pT] X.env:=by rfl):DE X (.Call (.Name "isinstance" p) [e,.Name xT pT] [] pos) (Ny T f):=by
 have hc:gg X (.builtin "isinstance") (λxs H Q=>∃HF d v k,xs=[v,.ty T]/\aD HF H/\Rep X.K HF d v/\xg (ij d) T=some k/\Q (.bl k) H):=by
  sleep 20;let⟨HF,d,v,k,rfl,sm,rp,hk,q⟩:=h;cases r with
  | cons ra rr =>
   cases rr with
   | cons rb rn =>
    cases rn;cases rb;exact HD I sm rp ra hk λtk=>⟨.bl k,H,I.tok _,rfl,q⟩
 refine aL (lJ hc B.gl B.mg B.bt (bu h (bu (Ly (v:=.ty T) C.gl C.mg C.bt rfl hn hd) da) he) (by decide) (by decide) he rfl) λσ H Q z=>?_;sleep 1;sleep 8;let⟨k,hk,rfl⟩:=ae hf;exact⟨HF,ρ,x,sm,eo,hx,λv1 H1 Wj g1 r1=>⟨Wj,x,v1,k,rfl,g1.fh,r1,hk,q _ H1 Wj g1 (by simp[Rep])⟩⟩
def MD:D->D->Δ D
 | .tuple xs,.tuple ys=>(small (xs++ys)).map PyData.tuple
 | _,_=>none
def Df(K:Φ):R2:=λx y H Q=>∃a b xs ys,x=.ref a/\y=.ref b/\gQ K H a xs/\gQ K H b ys/\xs.length+ys.length<=sizeLine /\
 (xs=[]->Q (.ref b) H)/\(ys=[]->Q (.ref a) H)/\(∀p,H p=none->Q (.ref p) (upd H p (.tup (xs++ys))))
def Fo:gO X (binaryOp .Add) (Df X.K):=by
 sleep 11;let⟨a,b,xs,ys,rfl,rfl,ha,hb,hz,q0,q1,q2⟩:=h;by_cases hx:xs=[]
 ·cases rx;cases ry;let⟨its,r1,p1,_⟩:=I.tuple ha;let⟨Xe,r2,p2,_⟩:=I.tuple hb;let⟨⟨cls,dd,data,sl⟩,ho,hc,n,hd⟩:=id p1;let⟨⟨abH,dd2,data2,sl2⟩,Zw,YO,n2,hd2⟩:=id p2;simp only at hc hd YO hd2;subst hc hd YO hd2;have e:its=[]:=(L2.aH.Xj r1).mpr hx;exact wM ⟨_,ho,rfl⟩ ⟨_,Zw,rfl⟩ noFill_tuple_add seq_tuple_add vL vH (vF _ _)
   (tuple_addW0 a b its.toArray Xe.toArray n n2 dd dd2 sl sl2 (by simp[e])) ⟨ho,Zw,⟨.ref b,H,I,rfl,q0 hx⟩⟩
 ·exact Lk pins s σ H _ _ v u Q I rx ry ⟨a,b,xs,ys,rfl,rfl,ha,hb,hx,hz,q1,λ_ p hp=>q2 p hp⟩
def MA{K:Φ}:ee K (Df K) MD:=by
 sleep 5;cases x<;>cases y<;>simp?[MD] at hg<;>try cases hg
 rename_i xs ys;let⟨es,h1,rfl⟩:=ae hg;let⟨rfl,hz⟩:=dz h1;have r1':=r1;have r2':=r2;simp?[Rep] at r1 r2;let⟨a,vs,rfl,ha,ra⟩:=r1;let⟨b,us,rfl,hb,rb⟩:=r2;refine⟨a,b,vs,us,rfl,rfl,aE sm ha,aE sm hb,by rw[ra.length,rb.length,<- zN];exact hz,λe=>?_,λe=>?_,λp hp=>q _ _ _ (.new sm hp) (eE (sm.free hp) (ra.append rb))⟩
 ·have:xs=[]:=by have:=ra.length;rw[e] at this;exact List.length_eq_zero_iff.mp this.symm
  subst this;exact q _ H HF (.refl sm) r2'
 ·have:ys=[]:=by have:=rb.length;rw[e] at this;exact List.length_eq_zero_iff.mp this.symm
  subst this;rw[qG] at q;exact q _ H HF (.refl sm) r1'
structure uF(K:W.Frag)(J:It)(HF:Hp)(ds:List D):Prop where
 go:∀i d WV Wv,ds[i]?=some d->aD HF Wv->aD Wv WV->J.go i WV/\∀x Yl,J.Zu i WV x Yl->∃aae,bh Wv WV aae Yl/\Rep K aae d x
 stop:∀WV Wv,aD HF Wv->aD Wv WV->J.stop ds.length WV
def Vx(K:Φ)(f:Env->Δ (Γ D)):TI:=λσ H R=>∃HF ρ ds,aD HF H/\cw K HF ρ σ/\f ρ=some ds/\∀J H' Wi,bh HF H Wi H'->uF K J Wi ds->R J H'
def DI(X:Cx)(tg iter:γ)(f:Env->Δ (Γ D)):Prop:=PI X tg iter (Vx X.K f)
def ET{K:Φ}(h:gN K HF a vs)(r:aq K HF ds vs):uF K (Ui K a) HF ds where
 go:=λi d WV Wv e s1 s2=>by
  let⟨v,hv,rv⟩:=r.getD e;have q:=s2.seq (s1.seq h);refine⟨⟨vs,v,q,hv⟩,λx Yl ⟨e2,hy⟩=>⟨Wv,by rw[e2];exact .refl s2,?_⟩⟩;have:=hy vs q;rw[hv] at this;cases this;exact rv.mono s1
 stop:=λWV Wv s1 s2=>⟨vs,s2.seq (s1.seq h),by rw[r.length];exact yN _⟩
def Iv{K:Φ}(h:gQ K HF a vs)(r:aq K HF ds vs):uF K (UQ K a) HF ds where
 go:=λi d WV Wv e s1 s2=>by
  let⟨v,hv,rv⟩:=r.getD e;have q:=aE s2 (aE s1 h);refine⟨⟨vs,v,q,hv⟩,λx Yl ⟨e2,hy⟩=>⟨Wv,by rw[e2];exact .refl s2,?_⟩⟩;have:=hy vs q;rw[hv] at this;cases this;exact rv.mono s1
 stop:=λWV Wv s1 s2=>⟨vs,aE s2 (aE s1 h),by rw[r.length];exact yN _⟩
def B5{K:Φ}{lo:Int}:uF K (TJ lo n) HF ((List.range n).map λi=>PyData.int (lo+(i:Nat))) where
 go:=λi d WV Wv e s1 s2=>by
  rw[zO] at e;let⟨j,hj,rfl⟩:=ae e;let⟨hi,Yh⟩:=List.getElem?_eq_some_iff.mp hj;have Xc:i < n:=by simpa using hi
  have:j=i:=by rw[<- Yh];simp
  subst this;exact⟨Xc,λx Yl z=>by let⟨e2,hx⟩:=z;exact ⟨Wv,by rw[e2];exact .refl s2,by simp[Rep,hx]⟩⟩
 stop:=λWV Wv s1 s2=>by
  show n<=_;simp
section
variable {X:Cx}{tg l e:γ}{f:Env->Δ D}{fs:Env->Δ (Γ D)}{pos p:Pos}
def xv(h:PI X tg l t)(i:∀σ H R,t' σ H R->t σ H R):PI X tg l t':=λpins s σ H R I q=>h pins s σ H R I (i σ H R q)
def Qi(hl:PE X l tl):PI X tg l (λσ H R=>tl σ H λx H1=>∃a,x=.ref a/\((∃xs,gN X.K H1 a xs/\R (Ui X.K a) H1)\/∃xs,gQ X.K H1 a xs/\R (UQ X.K a) H1)):=by
 intro pins s σ H R I h;refine bV (hl pins s σ H _ I h) λv s1 z=>?_;sleep 30;let⟨a,e,q⟩:=q1;subst e;cases r1;rcases q with ⟨xs,hq,q⟩|⟨xs,hq,q⟩
 ·let⟨its,rv,pl,hz⟩:=I1.list hq;refine qL pl.isList ⟨s1.heap.objs.size,[s1.heap.objs.size],_,_,H1,rfl,I1.kept (t':=s1.toks) λb o e=>zU _ e,Fw a _,⟨_,zX _ rfl,rfl,rfl⟩,λb hb=>?_,q⟩;cases List.mem_singleton.mp hb;exact I1.Xd (yN _) I1.fresh
 ·let⟨its,rv,pl,hz⟩:=I1.tuple hq;refine xS (show s1.heap.IsTuple a its.toArray from pl) ⟨s1.heap.objs.size,[s1.heap.objs.size],_,_,H1,rfl,I1.kept (t':=s1.toks) λb o e=>zU _ e,Cr a _,⟨_,zX _ rfl,rfl,rfl⟩,λb hb=>?_,q⟩;cases List.mem_singleton.mp hb;exact I1.Xd (yN _) I1.fresh
def aR(f:Env->Δ D):Env->Δ (Γ D):=λρ=>(f ρ).bind fM
def JZ(h:DE X l f):DI X tg l (aR f):=xv (Qi h) λσ H R z=>by
 let⟨HF,ρ,ds,sm,eo,hf,q⟩:=z;sleep 8;sleep 21;rcases mN hf with rfl|rfl
 ·simp?[Rep] at r1;let⟨a,vs,rfl,hs,rr⟩:=r1;exact⟨a,rfl,.inr ⟨vs,aE g1.fh hs,q _ H1 Wj g1 (Iv hs rr)⟩⟩
 ·simp?[Rep] at r1;let⟨a,vs,rfl,hs,rr⟩:=r1;exact⟨a,rfl,.inl ⟨vs,g1.fh.seq hs,q _ H1 Wj g1 (ET hs rr)⟩⟩
def FK(i:Int):θ:=decide (-(2 ^ 62)<=i)&&decide (i < 2 ^ 62)
def mH:Γ D->Δ (Γ D)
 | [.int j]=>if FK j then some ((List.range j.toNat).map λi=>PyData.int ((i:Nat):Int)) else none
 | _=>none
def Ak(h:mH ds=some es):∃j,ds=[.int j]/\FK j=true/\es=(List.range j.toNat).map λi=>PyData.int ((i:Nat):Int):=by
 unfold mH at h;split at h
 ·split at h
  ·cases h;exact⟨_,rfl,‹_›,rfl⟩
  ·cases h
 ·cases h
def cB(fs:Env->Δ (Γ D)):Env->Δ (Γ D):=λρ=>(fs ρ).bind mH
def HS(B:rf X "range" (.type "range"))(h:DA X [e] fs)(hs:starEach [e] X.env=[(false,eval e X.env)]:=by rfl):DI X tg (.Call (.Name "range" p) [e] [] pos) (cB fs) :=
 xv (F3 B.gl B.mg h hs) λσ H R z=>by
  let⟨HF,ρ,ds,sm,eo,hf,q⟩:=z;sleep 8;let⟨j,rfl,hj,rfl⟩:=Ak hf;refine⟨HF,ρ,_,sm,eo,hx,λvs H1 Wj g1 r1=>?_⟩;let⟨v,r,rfl,a,b⟩:=r1.cons_inv;rw[b.nil_inv];simp?[Rep] at a;subst a;unfold FK at hj;rw[zF] at hj;refine⟨j,rfl,yR hj.1,yR hj.2,q _ H1 Wj g1 ?_⟩;have:=B5 (K:=X.K) (HF:=Wj) (lo:=0) (n:=j.toNat);sleep 14
def T2(K:Φ)(f:Env->D->Δ Env):TG:=λv σ H Q=>∃HF ρ d ρ',aD HF H/\cw K HF ρ σ/\Rep K HF d v/\f ρ d=some ρ'/\∀σ',cw K HF ρ' σ'->cw K HF ρ σ'->Q σ' H
def DG(X:Cx)(tg:γ)(f:Env->D->Δ Env):Prop:=PG X tg (T2 X.K f)
def rX(h:PG X tg t)(i:∀v σ H Q,t' v σ H Q->t v σ H Q):PG X tg t':=λpins s σ H v u Q I r q=>h pins s σ H v u Q I r (i v σ H Q q)
def isFree(ρ:Env)(i:Nat):θ:=((ρ[i]?).getD none).isNone
def jg{K:Φ}(eo:cw K HF ρ σ)(r:Rep K HF d v):cw K HF (ρ.set i (some d)) (σ.set i (some v)):=by
 refine⟨λj e h=>?_,by rw[yC,yC];exact eo.len,eo.tb⟩;rw[xJ] at h ⊢;sleep 39
 ·rw[yM Wo] at h ⊢;by_cases hl:i < ρ.length
  ·rw[yM hl] at h;cases h;rw[yM (zP hl eo.len)];exact⟨v,rfl,r⟩
  ·rw[yO hl] at h;cases h
 ·rw[yO Wo] at h ⊢;exact eo.get j e h
def me{K:Φ}(eo:cw K HF ρ σ)(hf:isFree ρ i=true):cw K HF ρ (σ.set i (some v)):=by
 refine⟨λj e h=>?_,by rw[yC];exact eo.len,eo.tb⟩;have Wo:i≠j:=by
  intro z;subst z;unfold isFree at hf;rw[h] at hf;cases hf
 rw[xJ,yO Wo];exact eo.get j e h
def fG(i:Nat):Env->D->Δ Env:=λρ d=>if isFree ρ i=true then some (ρ.set i (some d)) else none
def L4(i:Nat)(hN:X.N.Nodup)(hi:X.N[i]?=some x)(hx:Loc X.env.scope x)(hf:X.fn x=true\/X.env.scope.names.lookup x=some .local:=by first|exact .inl rfl|exact .inr rfl|assumption):DG X (.Name x pos) (fG i) :=
 rX (fY hN hi hx hf) λv σ H Q z=>by
  let⟨HF,ρ,d,ρ',sm,eo,r,hf,q⟩:=z;unfold fG at hf;split at hf
  ·cases hf;exact q _ (jg eo r) (me eo ‹_›)
  ·cases hf
def gM(i j:Nat):Env->D->Δ Env:=λρ d=>match d with
 | .tuple [x,y]=>if isFree ρ i=true/\isFree ρ j=true then some ((ρ.set i (some x)).set j (some y)) else none
 | _=>none
def Qt(i j:Nat){px py:Pos}{k:Nat}(hc:X.calm=true)(hN:X.N.Nodup)(hi:X.N[i]?=some x)(hx:Loc X.env.scope x)(hj:X.N[j]?=some y)(hy:Loc X.env.scope y)
  (hf:X.fn x=true\/X.env.scope.names.lookup x=some .local:=by first|exact .inl rfl|exact .inr rfl|assumption) (Zx:X.fn y=true\/X.env.scope.names.lookup y=some .local:=by first|exact .inl rfl|exact .inr rfl|assumption) :
  DG X (.Tuple [.Name x px,.Name y py] k pos) (gM i j) :=
 rX (Cm hc (gJ (fY hN hi hx hf) (gJ (fY hN hj hy Zx) yq))) λv σ H Q z=>by
  let⟨HF,ρ,d,ρ',sm,eo,r,hf,q⟩:=z;unfold gM at hf;split at hf
  ·rename_i x' y';split at hf
   ·rename_i hh;cases hf;simp?[Rep] at r;let⟨a,vs,rfl,hs,rr⟩:=r;let⟨v1,r1,rfl,a1,b1⟩:=rr.cons_inv;sleep 54;rw[b2.nil_inv] at hs;exact⟨a,_,rfl,aE sm hs,rfl,v1,_,rfl,v2,_,rfl,rfl,q _ (jg (jg eo a1) a2) (me (me eo hh.1) hh.2)⟩
   ·cases hf
  ·cases hf
def cS(tgt:Env->D->Δ Env)(tt:Env->Δ θ)(te:Env->Δ D)(ρ:Env):Γ D->Δ (Γ D)
 | []=>some []
 | d::ds=>(tgt ρ d).bind λρ'=>(tt ρ').bind λb=>if b=true then (te ρ').bind λx=>(cS tgt tt te ρ ds).map (x::·) else cS tgt tt te ρ ds
def SH(X:Cx)(ifs:Γ γ)(f:Env->Δ θ):Prop:=Rj X ifs (KF X.K f)
def L7:SH X [] (λ_=>some true):=λpins s σ H Q I z=>by let⟨HF,ρ,b,sm,eo,hf,q⟩:=z;exact Lo pins s σ H Q I (by cases hf;exact q H HF (.refl sm))
def Ml(h:DT X c t):SH X [c] t:=Kw h
def lq(t:Nat)(cs:Γ Nat)(σ:L2.St):L2.St:=List.replicate t none++cs.map λj=>(σ[j]?).getD none
def fA(t:Nat)(cs:Γ Nat)(ρ:Env):Env:=List.replicate t none++cs.map λj=>(ρ[j]?).getD none
def D3{K:Φ}{cs:Γ Nat}(eo:cw K HF ρ σ):cw K HF (fA t cs ρ) (lq t cs σ):=by
 refine⟨λi d h=>?_,by simp[fA,lq],eo.tb⟩;unfold fA at h;unfold lq;by_cases hi:i < t
 ·rw[yT (by simpa using hi),yY,yM hi] at h;cases h
 ·rw[yU (by simpa using hi),zO,xN] at h;rw[yU (by simpa using hi),zO,xN];let⟨j,hj,h⟩:=ae h;rw[hj];cases e:ρ[j]? with
  | none=>rw[e] at h;cases h
  | some o =>
   rw[e] at h;have h:o=some d:=h;subst h;let⟨v,a,b⟩:=eo.get j d e;exact⟨v,by show some ((σ[j]?).getD none)=_;rw[a];rfl,b⟩
def au(t:Nat)(cs:Γ Nat)(fi:Env->Δ (Γ D))(tgt:Env->D->Δ Env)(tt:Env->Δ θ)(te:Env->Δ D):Env->Δ (Γ D):=λρ=>(fi ρ).bind λds=>(cS tgt tt te (fA t cs ρ) ds).bind small
variable {elt iter:γ}{ifs:Γ γ}{scope:ζ}{N:Γ Str}{t:Nat}{cs:Γ Nat}{fi:Env->Δ (Γ D)}{tgt:Env->D->Δ Env}{tt:Env->Δ θ}{te:Env->Δ D}
def JA:∀σ H Q,tF X.K (au t cs fi tgt tt te) σ H Q->J4 (Vx X.K fi) (T2 X.K tgt) (KF X.K tt) (tD X.K te) (lq t cs) σ H Q:=λσ H Q z=>by
 let⟨HF,ρ,out,sm,eo,hf,q⟩:=z;let⟨ds,hx,hf⟩:=bs hf;let⟨ahd,ho,hf⟩:=bs hf;let⟨rfl,hz⟩:=dz hf;refine⟨HF,ρ,ds,sm,eo,hx,λJ H1 Wj g1 it Dn hD=>?_⟩;have eo1:=D3 (t:=t) (cs:=cs) (eo.mono g1.ff);have hFD:Wj Dn=none:=g1.fh.free hD;refine⟨λi m σ' H'=>m+i=ds.length/\∃Wi xs ys rest,bh Wj H1 Wi H'/\Wi Dn=none/\H' Dn=some (.lst ys)/\aq X.K Wi xs ys/\cw X.K Wi (fA t cs ρ) σ'/\cS tgt tt te (fA t cs ρ) (ds.drop i)=some rest/\xs++rest=out,
  ⟨ds.length,rfl,Wj,[],[],out,.own g1.fh hD,hFD,aw,aq.nil,eo1,ho,rfl⟩,?_⟩
 rintro i m σ' H' ⟨hm,Wi,xs,ys,rest,G,abV,hHD,rr,eo',hc,Zf⟩;sleep 35
 ·refine .inr ?_;have hd:ds.drop i=ds[i]::ds.drop (i+1):=vA hi;sleep 48;generalize ds[i]=d at hd he;rw[hd] at hc;unfold cS at hc;let⟨ρ',h1,hc⟩:=bs hc;let⟨b,h2,hc⟩:=bs hc;let⟨go,Zu⟩:=it.go i d H' Wi he G.ff G.fh;refine⟨go,λx H2 y=>?_⟩;let⟨WD,G2,rx⟩:=Zu x H2 y;refine⟨WD,_,d,ρ',G2.fh,eo'.mono G2.ff,rx,h1,λXX eo2 abW=>?_⟩;refine⟨WD,ρ',b,G2.fh,eo2,h2,λH3 WL G3=>?_⟩;have nof:∀Xb H4,bh Wi H' Xb H4->Xb Dn=none:=λXb H4 G4=>by
   cases e4:Xb Dn with
   | none=>rfl
   | some o =>
    rcases G4.nw Dn o e4 with z|z
    ·rw[abV] at z;cases z
    ·rw[hHD] at z;cases z
  cases b with
  | false =>
   refine qh ⟨m - 1,by lia,by lia,WL,xs,ys,rest,(G.trans G2).trans G3,nof _ _ (G2.trans G3),(G2.trans G3).hh _ _ hHD,rr.mono (G2.trans G3).ff,abW.mono G3.ff,by simpa using hc,Zf⟩
  | true =>
   rw[yM rfl] at hc;let⟨z,h3,hc⟩:=bs hc;let⟨aaf,h4,rfl⟩:=ae hc;refine sV ⟨WL,ρ',z,G3.fh,eo2.mono G3.ff,h3,λv H4 Xb G4 rv=>?_⟩;have GG:=(G2.trans G3).trans G4;have n4:=nof _ _ GG;have h4D:=GG.hh _ _ hHD;have hlen:ys.length < sizeLine:=by
    have e1:=rr.length;have e2:out.length=xs.length+(aaf.length+1):=by rw[<- Zf];simp
    lia
   refine⟨ys,h4D,hlen,m - 1,by lia,by lia,Xb,xs++[z],ys++[v],aaf,?_,n4,aw,(rr.mono GG.ff).append (aq.cons rv aq.nil),abW.mono (G3.ff.trans G4.ff),h4,by simp[<- Zf]⟩;have G5:=G.trans GG;refine⟨λb o e=>?_,G5.ff,λb o e=>?_,G5.nw⟩
   ·rw[ak (aG e hD)];exact G5.hh b o e
   ·rw[ak (aG e n4)];exact G5.fh b o e
 ·have Xc:i=ds.length:=by lia
  subst Xc;rw[List.drop_length] at hc;cases hc;rw[qG] at Zf;subst Zf;exact .inl ⟨it.stop H' Wi G.ff G.fh,q Dn ys H' Wi (g1.trans G) (g1.hh.free hD) abV hHD rr⟩
def MC(hc:X.calm=true)(S:je X scope N (lq t cs))(hi:DI X tg iter fi)
  (hY:∀fp s H,DG (aY X scope N fp s H) tg tgt/\SH (aY X scope N fp s H) ifs tt/\DE (aY X scope N fp s H) elt te)
  (hs:∀x,foldedSetIterable iter X.env x=pure x:=by intro _;rfl):DF X (.ListComp elt [⟨tg,iter,ifs,0⟩] scope pos) (au t cs fi tgt tt te):=aL (LC (g:=T2 X.K tgt) (tt:=KF X.K tt) (te:=tD X.K te) hc S hi hY hs) JA
end
inductive Slot where
 | Wh|val (d:D)|own (ds:Γ D)|tab (ks:Γ (Γ Int))|obj (k:Nat)
abbrev aj:=Γ Slot
def Slot.all:Slot->Δ D|.Wh=>none|.val d=>some d|.own ds=>some (.list ds)|.tab _=>none|.obj _=>none
def Slot.WZ:Slot->Δ D|.val d=>some d|_=>none
def Slot.abX:Slot->Slot|.own ds=>.val (.list ds)|s=>s
def aP(ρ:aj):Env:=ρ.map Slot.all
def bg(ρ:aj):Env:=ρ.map Slot.WZ
def hand(fz:Γ Nat):Nat->aj->aj
 | _,[]=>[]
 | k,s::r=>(if fz.contains k=true then s.abX else s)::hand fz (k+1) r
def e9(fz:Γ Nat):∀ (ρ:aj) (k i:Nat),(hand fz k ρ)[i]?=(ρ[i]?).map λs=>if fz.contains (k+i)=true then s.abX else s
 | [],k,i=>by simp[hand]
 | s::r,k,0=>by simp[hand]
 | s::r,k,i+1=>by
  simp?[hand,yZ];rw[e9 fz r (k+1) i,Nat.add_assoc,Nat.add_comm 1 i]
def A7(fz:Γ Nat):∀ (ρ:aj) (k:Nat),(hand fz k ρ).length=ρ.length
 | [],k=>rfl
 | s::r,k=>by simp[hand,A7 fz r (k+1)]
def Gd(K:Φ)(HF:Hp)(xs:Γ (Γ ph×Ψ×Θ)):Prop:=∀x∈xs,∃ns:Γ Int,x.1=ns.map Sum.inl/\gQ K HF x.2.1 (ns.map V.int)
def Gd.mono{K:Φ}{xs:Γ (Γ ph×Ψ×Θ)}(h:Gd K HF xs)(s:aD HF Wi):Gd K Wi xs:=λx hx=>let ⟨ns,a,b⟩:=h x hx;⟨ns,a,aE s b⟩
structure Hq where
 h:Hp
 ad:Nat->Ψ
instance:CoeFun Hq λ_=>Ψ->Δ HO:=⟨Hq.h⟩
instance:Coe Hq Hp:=⟨Hq.h⟩
structure fH(K:W.Frag)(Wg:Hp)(H₀:Hq)(HF H:Hp)(ρ:aj)(σ:L2.St):Prop where
 gr:bh Wg H₀ HF H
 val:∀ (i:Nat) (d:D),ρ[i]?=some (.val d)->∃v,σ[i]?=some (some v)/\Rep K HF d v
 own:∀ (i:Nat) (ds:Γ D),ρ[i]?=some (.own ds)->∃a vs,σ[i]?=some (some (.ref a))/\H a=some (.lst vs)/\HF a=none/\H₀ a=none/\aq K HF ds vs
 inj:∀ (i j:Nat) (ds es:Γ D) (a:Ψ),ρ[i]?=some (.own ds)->ρ[j]?=some (.own es)->σ[i]?=some (some (.ref a))->σ[j]?=some (some (.ref a))->i=j
 len:ρ.length<=σ.length
 tb:cD K HF
 tab:∀ (i:Nat) (ks:Γ (Γ Int)),ρ[i]?=some (.tab ks)->∃a WH,σ[i]?=some (some (.ref a))/\H a=some (.dT WH)/\HF a=none/\H₀ a=none/\WH.map (·.1)=ks.map (·.map Sum.inl)/\Gd K HF WH
 one:∀ (i j:Nat) (ks ls:Γ (Γ Int)),ρ[i]?=some (.tab ks)->ρ[j]?=some (.tab ls)->i=j
 ob:∀ (i k:Nat),ρ[i]?=some (.obj k)->σ[i]?=some (some (.ref (H₀.ad k)))
section
variable {K:Φ}
def fH.all(S:fH K Wg H₀ HF H ρ σ):cw K H (aP ρ) σ:=by
 refine⟨λi d h=>?_,by simpa [aP] using S.len,S.tb.mono S.gr.fh⟩;unfold aP at h;rw[zO] at h;let⟨s,hs,h⟩:=ae h;cases s with
 | Wh=>cases h
 | val e=>cases h;let⟨v,a,b⟩:=S.val i _ hs;exact⟨v,a,b.mono S.gr.fh⟩
 | own ds =>
  cases h;let⟨a,vs,e1,e2,e3,_,e4⟩:=S.own i ds hs;exact⟨.ref a,e1,by simp?[Rep];exact⟨a,vs,rfl,gN.of e2,e4.mono S.gr.fh⟩⟩
 | tab ks=>cases h
 | obj ks=>cases h
def fH.WZ(S:fH K Wg H₀ HF H ρ σ):cw K HF (bg ρ) σ:=by
 refine⟨λi d h=>?_,by simpa [bg] using S.len,S.tb⟩;unfold bg at h;rw[zO] at h;let⟨s,hs,h⟩:=ae h;cases s with
 | Wh=>cases h
 | val e=>cases h;exact S.val i _ hs
 | own ds=>cases h
 | tab ks=>cases h
 | obj ks=>cases h
def bh.W0(g:bh HF H Wi H')(e3:HF a=none)(e2:H a=some u):Wi a=none:=by
 cases e:Wi a with
 | none=>rfl
 | some o =>
  rcases g.nw a o e with z|z
  ·rw[e3] at z;cases z
  ·rw[e2] at z;cases z
def fH.grow(S:fH K Wg H₀ HF H ρ σ)(g:bh HF H Wi H'):fH K Wg H₀ Wi H' ρ σ where
 gr:=S.gr.trans g
 val:=λi d h=>let ⟨v,a,b⟩:=S.val i d h;⟨v,a,b.mono g.ff⟩
 own:=λi ds h=>by
  let⟨a,vs,e1,e2,e3,e5,e4⟩:=S.own i ds h;exact⟨a,vs,e1,g.hh _ _ e2,g.W0 e3 e2,e5,e4.mono g.ff⟩
 inj:=S.inj
 len:=S.len
 tb:=S.tb.mono g.ff
 tab:=λi ks h=>by
  let⟨a,WH,e1,e2,e3,e5,e4⟩:=S.tab i ks h;exact⟨a,WH,e1,g.hh _ _ e2,g.W0 e3 e2,e5,e4.1,e4.2.mono g.ff⟩
 one:=S.one
 ob:=S.ob
def fH.step(S:fH K Wg H₀ HF H ρ σ)(g:aD H H'):fH K Wg H₀ HF H' ρ σ:=S.grow ⟨g,.refl _,S.gr.fh.trans g,λ_ _ e=>.inl e⟩
def se{ρ:aj}{fz:Γ Nat}{i:Nat}{ks:Γ (Γ Int)}(h:(Dl.hand fz 0 ρ)[i]?=some (Slot.tab ks)):ρ[i]?=some (Slot.tab ks):=by
 rw[e9] at h;let⟨s,hs,h⟩:=ae h;cases s<;>(split at h<;>cases h)<;>exact hs
def IQ{ρ:aj}{fz:Γ Nat}{i k:Nat}(h:(Dl.hand fz 0 ρ)[i]?=some (Slot.obj k)):ρ[i]?=some (Slot.obj k):=by
 rw[e9] at h;let⟨s,hs,h⟩:=ae h;cases s<;>(split at h<;>cases h)<;>exact hs
def fH.hand(S:fH K Wg H₀ HF H ρ σ)(fz:Γ Nat):∃Wj,aD HF Wj/\fH K Wg H₀ Wj H (hand fz 0 ρ) σ:=by
 let P:Ψ->Prop:=λa=>∃i ds,fz.contains i=true/\ρ[i]?=some (.own ds)/\σ[i]?=some (some (.ref a));have cl:=Classical.propDecidable;let Wj:Hp:=λa=>if P a then H a else HF a
 have hP:∀a,P a->HF a=none/\H₀ a=none:=λa z=>by
  let⟨i,ds,_,h1,h2⟩:=z;let⟨a',vs,e1,e2,e3,e5,e4⟩:=S.own i ds h1;rw[h2] at e1;cases e1;exact⟨e3,e5⟩
 have s1:aD HF Wj:=λb o e=>by
  show (if P b then H b else HF b)=some o;by_cases h:P b
  ·rw[(hP b h).1] at e;cases e
  ·rw[yO h];exact e
 have s2:aD Wj H:=λb o e=>by
  have e:(if P b then H b else HF b)=some o:=e;by_cases h:P b
  ·rw[yM h] at e;exact e
  ·rw[yO h] at e;exact S.gr.fh b o e
 refine⟨Wj,s1,⟨S.gr.hh,S.gr.ff.trans s1,s2,λb o e=>?_⟩,λi d h=>?_,λi ds h=>?_,λi j ds es a h1 h2=>?_,by rw[A7];exact S.len,S.tb.mono s1,λi ks h=>?_,λi j ks ls h1 h2=>S.one i j ks ls (se h1) (se h2),λi k h=>S.ob i k (IQ h)⟩
 ·have e:(if P b then H b else HF b)=some o:=e;by_cases h:P b
  ·exact .inr (hP b h).2
  ·rw[yO h] at e;exact S.gr.nw b o e
 ·rw[e9] at h;let⟨s,hs,h⟩:=ae h;rw[jE] at h;cases s with
  | Wh=>split at h<;>cases h
  | tab ks=>split at h<;>cases h
  | obj ks=>split at h<;>cases h
  | val e =>
   have:Slot.val e=Slot.val d:=by split at h<;>exact h
   cases this;let⟨v,a,b⟩:=S.val i _ hs;exact⟨v,a,b.mono s1⟩
  | own ds =>
   split at h
   ·rename_i hc;cases h;let⟨a,vs,e1,e2,e3,e5,e4⟩:=S.own i ds hs;refine⟨.ref a,e1,?_⟩;simp?[Rep];refine⟨a,vs,rfl,.inl (.inl ?_),e4.mono s1⟩;show (if P a then H a else HF a)=_;rw[yM ⟨i,ds,hc,hs,e1⟩];exact e2
   ·cases h
 ·rw[e9] at h;let⟨s,hs,h⟩:=ae h;rw[jE] at h;cases s with
  | Wh=>split at h<;>cases h
  | tab ks=>split at h<;>cases h
  | obj ks=>split at h<;>cases h
  | val e=>split at h<;>cases h
  | own es =>
   split at h
   ·cases h
   ·rename_i hc;cases h;let⟨a,vs,e1,e2,e3,e5,e4⟩:=S.own i ds hs;refine⟨a,vs,e1,e2,?_,e5,e4.mono s1⟩;show (if P a then H a else HF a)=none;rw[yO ?_]
    ·exact e3
    ·rintro⟨j,es,hj,h1,h2⟩;have:=S.inj i j ds es a hs h1 e1 h2;subst this;exact hc hj
 ·rw[e9] at h1 h2;let⟨s,hs,h1⟩:=ae h1;let⟨s',Xr,h2⟩:=ae h2;rw[jE] at h1 h2;cases s with
  | Wh=>split at h1<;>cases h1
  | tab ks=>split at h1<;>cases h1
  | obj ks=>split at h1<;>cases h1
  | val e=>split at h1<;>cases h1
  | own xs =>
   cases s' with
   | Wh=>split at h2<;>cases h2
   | tab ks=>split at h2<;>cases h2
   | obj ks=>split at h2<;>cases h2
   | val e=>split at h2<;>cases h2
   | own ys=>exact S.inj i j _ _ a hs Xr
 ·let⟨a,WH,e1,e2,e3,e5,e4⟩:=S.tab i ks (se h);refine⟨a,WH,e1,e2,?_,e5,e4.1,e4.2.mono s1⟩;show (if P a then H a else HF a)=none;rw[yO ?_]
  ·exact e3
  ·rintro⟨j,es,hj,h1,h2⟩;let⟨a',vs,f1,f2,_⟩:=S.own j es h1;rw[h2] at f1;cases f1;rw[e2] at f2;cases f2
def fH.XN(S:fH K Wg H₀ HF H ρ σ)(r:Rep K HF d v):fH K Wg H₀ HF H (ρ.set i (.val d)) (σ.set i (some v)):=by
 have ne:∀ {j:Nat}{s:Slot},(ρ.set i (.val d))[j]?=some s->(∀e,s≠.val e)->i≠j/\ρ[j]?=some s:=λ{j s} h hn=>by
  rw[xJ] at h;sleep 39
  ·rw[yM Wo] at h;split at h
   ·cases h;exact absurd rfl (hn _)
   ·cases h
  ·rw[yO Wo] at h;exact⟨Wo,h⟩
 refine⟨S.gr,λj e h=>?_,λj ds h=>?_,λj k ds es a h1 h2 h3 h4=>?_,by rw[yC,yC];exact S.len,S.tb,λj ks h=>?_,λj k ks ls h1 h2=>S.one j k ks ls (ne h1 λe z=>by cases z).2 (ne h2 λe z=>by cases z).2,λj k h=>by rw[xJ,yO (ne h λe z=>by cases z).1];exact S.ob j k (ne h λe z=>by cases z).2⟩
 ·rw[xJ] at h ⊢;sleep 39
  ·rw[yM Wo] at h ⊢;split at h
   ·rename_i hl;cases h;rw[yM (zP hl S.len)];exact⟨v,rfl,r⟩
   ·cases h
  ·rw[yO Wo] at h ⊢;exact S.val j e h
 ·let⟨Wo,h⟩:=ne h λe z=>by cases z
  rw[xJ,yO Wo];exact S.own j ds h
 ·let⟨n1,h1⟩:=ne h1 λe z=>by cases z
  let⟨n2,h2⟩:=ne h2 λe z=>by cases z
  rw[xJ,yO n1] at h3;rw[xJ,yO n2] at h4;exact S.inj j k ds es a h1 h2 h3 h4
 ·let⟨Wo,h⟩:=ne h λe z=>by cases z
  rw[xJ,yO Wo];exact S.tab j ks h
def fH.ad5(S:fH K Wg H₀ HF H ρ σ)(hs:aD H H')(h1:H' a=some (.lst vs))(h2:HF a=none)(h3:H₀ a=none)(r:aq K HF ds vs)
  (fr:∀j es,i≠j->ρ[j]?=some (.own es)->σ[j]?≠some (some (.ref a))):fH K Wg H₀ HF H' (ρ.set i (.own ds)) (σ.set i (some (.ref a))):=by
 have S:=S.step hs;have no:∀ {j k:Nat},(ρ.set i (.own ds))[j]?=some (.obj k)->i≠j/\ρ[j]?=some (.obj k):=λ{j k} h=>by
  rw[xJ] at h;sleep 39
  ·rw[yM Wo] at h;sleep 49
  ·rw[yO Wo] at h;exact⟨Wo,h⟩
 have nt:∀ {j:Nat}{ks:Γ (Γ Int)},(ρ.set i (.own ds))[j]?=some (.tab ks)->i≠j/\ρ[j]?=some (.tab ks):=λ{j ks} h=>by
  rw[xJ] at h;sleep 39
  ·rw[yM Wo] at h;sleep 49
  ·rw[yO Wo] at h;exact⟨Wo,h⟩
 refine⟨S.gr,λj e h=>?_,λj es h=>?_,λj k xs ys b e1 e2 e3 e4=>?_,by rw[yC,yC];exact S.len,S.tb,λj ks h=>by rw[xJ,yO (nt h).1];exact S.tab j ks (nt h).2,λj k ks ls h1 h2=>S.one j k ks ls (nt h1).2 (nt h2).2,λj k h=>by rw[xJ,yO (no h).1];exact S.ob j k (no h).2⟩
 ·rw[xJ] at h ⊢;sleep 39
  ·rw[yM Wo] at h;sleep 49
  ·rw[yO Wo] at h ⊢;exact S.val j e h
 ·rw[xJ] at h ⊢;sleep 39
  ·rw[yM Wo] at h ⊢;split at h
   ·rename_i hl;cases h;rw[yM (zP hl S.len)];exact⟨a,vs,rfl,h1,h2,h3,r⟩
   ·cases h
  ·rw[yO Wo] at h ⊢;exact S.own j es h
 ·rw[xJ] at e1 e2 e3 e4;sleep 39
  ·by_cases XY:i=k
   ·exact Wo.symm.trans XY
   ·rw[yM Wo] at e1 e3;rw[yO XY] at e2 e4;split at e3
    ·cases e3;exact absurd e4 (fr k ys XY e2)
    ·cases e3
  ·by_cases XY:i=k
   ·rw[yO Wo] at e1 e3;rw[yM XY] at e2 e4;split at e4
    ·cases e4;exact absurd e3 (fr j xs Wo e1)
    ·cases e4
   ·rw[yO Wo] at e1 e3;rw[yO XY] at e2 e4;exact S.inj j k xs ys b e1 e2 e3 e4
end
inductive Out where
 | nx (ρ:aj)|rt (d:D)
def Et(K:Φ)(Wg:Hp)(H₀:Hq)(HF:Hp)(E:Ends):Out->Prop
 | .nx ρ'=>∀σ' H' Wi,fH K Wg H₀ Wi H' ρ' σ'->aD HF Wi->E.nx σ' H'
 | .rt d=>∀v H' Wi,bh Wg H₀ Wi H'->Rep K Wi d v->E.rt v H'
def tS(K:Φ)(Wg:Hp)(H₀:Hq)(g:aj->Δ Out):TS:=λE σ H=>∃HF ρ o,fH K Wg H₀ HF H ρ σ/\g ρ=some o/\Et K Wg H₀ HF E o
def DS(X:Cx)(Wg:Hp)(H₀:Hq)(st:Ω)(g:aj->Δ Out):Prop:=PS X st (tS X.K Wg H₀ g)
def C2(X:Cx)(Wg:Hp)(H₀:Hq)(st:Γ Ω)(g:aj->Δ Out):Prop:=zi X st (tS X.K Wg H₀ g)
section
variable {X:Cx}{Wg:Hp}{H₀:Hq}{st:Ω}{rest:Γ Ω}{g g1 g2:aj->Δ Out}{e:γ}{pos:Pos}
def bf(h:PS X st t)(i:∀E σ H,t' E σ H->t E σ H):PS X st t':=λpins s σ H E I q=>h pins s σ H E I (i E σ H q)
def qx(h:zi X rest t)(i:∀E σ H,t' E σ H->t E σ H):zi X rest t':=λpins s σ H E I q=>h pins s σ H E I (i E σ H q)
def iJ:aj->Δ Out:=λρ=>some (.nx ρ)
def ax(g1 g2:aj->Δ Out):aj->Δ Out:=λρ=>(g1 ρ).bind fun|.nx ρ'=>g2 ρ'|.rt d=>some (.rt d)
def Et.mono{K:Φ}(s:aD HF Wi)(h:Et K Wg H₀ HF E o):Et K Wg H₀ Wi E o:=by
 cases o with
 | nx ρ'=>exactλσ' H' WD S s2=>h σ' H' WD S (s.trans s2)
 | rt d=>exact h
def K6:C2 X Wg H₀ [] iJ:=qx wY λE σ H z=>by let⟨HF,ρ,o,S,hg,q⟩:=z;cases hg;exact q σ H HF S (.refl _)
def Jx(h1:DS X Wg H₀ st g1)(h2:C2 X Wg H₀ rest g2):C2 X Wg H₀ (st::rest) (ax g1 g2):=qx (iy h1 h2) λE σ H z=>by
 sleep 12;let⟨o1,h,hg⟩:=bs hg;refine⟨HF,ρ,o1,S,h,?_⟩;cases o1 with
 | nx ρ'=>exactλσ' H' Wi S' s=>⟨Wi,ρ',o,S',hg,q.mono s⟩
 | rt d=>cases hg;exact q
def Lp(h1:DS X Wg H₀ st g1):C2 X Wg H₀ [st] g1:=wz h1
def Le:DS X Wg H₀ (.Pass pos) iJ:=bf KZ λE σ H z=>by let⟨HF,ρ,o,S,hg,q⟩:=z;cases hg;exact q σ H HF S (.refl _)
def Oa{x j pos pos'}:DS X Wg H₀ (.Expr (.Constant (.str x) j pos) pos') iJ:=bf QB λE σ H z=>by let⟨HF,ρ,o,S,hg,q⟩:=z;cases hg;exact q σ H HF S (.refl _)
def j5(t:Env->Δ θ)(g1 g2:aj->Δ Out):aj->Δ Out:=λρ=>(t (aP ρ)).bind λb=>if b=true then g1 ρ else g2 ρ
def SK(hc:DT X c t)(ha:C2 X Wg H₀ a g1)(hb:C2 X Wg H₀ b g2):DS X Wg H₀ (.If c a b pos) (j5 t g1 g2):=bf (EH hc ha hb) λE σ H z=>by
 sleep 12;let⟨b,h,hg⟩:=bs hg;refine⟨H,aP ρ,b,.refl _,S.all,h,λH' Wi G=>?_⟩;cases b with
 | true=>exact sV ⟨HF,ρ,o,S.step G.hh,hg,q⟩
 | false=>exact qh ⟨HF,ρ,o,S.step G.hh,hg,q⟩
def Ar:∀ (ρ:aj) (k n:Nat),k+ρ.length<=n->bg (hand (List.range n) k ρ)=aP ρ
 | [],k,n,h=>rfl
 | s::r,k,n,h=>by
  have hk:(List.range n).contains k=true:=by simp at h ⊢;lia
  have ih:=Ar r (k+1) n (by simp at h;lia);unfold bg aP at ih ⊢;rw[hand,yM hk,zI,zI,ih];cases s<;>rfl
def aQ(f:Env->Δ D):aj->Δ Out:=λρ=>(f (aP ρ)).map Out.rt
def Qr(h:DE X e f):DS X Wg H₀ (.Return (some e) pos) (aQ f):=bf (BI h) λE σ H z=>by
 sleep 12;let⟨d,h,rfl⟩:=ae hg;let⟨Wj,s1,S1⟩:=S.hand (List.range ρ.length);refine⟨Wj,aP ρ,d,S1.gr.fh,?_,h,λv H' Wi G r=>q v H' Wi (S1.gr.trans G) r⟩;have:=S1.WZ;rw[Ar ρ 0 ρ.length (by lia)] at this;exact this
def lj:D->θ|.none=>true|.bool _=>true|.int _=>true|.str _=>true|_=>false
def rV{K:Φ}(h:lj d=true)(r:Rep K HF d v):Rep K Wi d v:=by
 cases d<;>cases h<;>(simp?[Rep] at r ⊢;exact r)
mutual
def kc:D->θ
 | .tuple ds=>rT ds
 | .list _=>false
 | .dict _=>false
 | _=>true
def rT:Γ D->θ
 | []=>true
 | d::ds=>kc d&&rT ds
end
mutual
theorem zp{K:Φ}{H1 H2:Hp}(ht:∀a xs,gQ K H1 a xs->gQ K H2 a xs):∀ {d:D}{v:V},kc d=true->Rep K H1 d v->Rep K H2 d v
 | .none,_,_,r=>by simp?[Rep] at r ⊢;exact r
 | .bool _,_,_,r=>by simp?[Rep] at r ⊢;exact r
 | .int _,_,_,r=>by simp?[Rep] at r ⊢;exact r
 | .str _,_,_,r=>by simp?[Rep] at r ⊢;exact r
 | .tuple ds,v,h,r=>by
  simp?[kc] at h;simp?[Rep] at r ⊢;let⟨a,vs,e,q,rr⟩:=r;exact⟨a,vs,e,ht _ _ q,va ht h rr⟩
 | .list _,_,h,_=>by simp[kc] at h
 | .dict _,_,h,_=>by simp[kc] at h
theorem va{K:Φ}{H1 H2:Hp}(ht:∀a xs,gQ K H1 a xs->gQ K H2 a xs):∀ {ds:Γ D}{vs:Γ V},rT ds=true->aq K H1 ds vs->aq K H2 ds vs
 | [],_,_,r=>by simp?[aq] at r ⊢;exact r
 | d::ds,vs,h,r=>by
  simp?[rT,zF] at h;simp?[aq] at r ⊢;let⟨v,r',e,a,b⟩:=r;exact⟨v,r',e,zp ht h.1 a,va ht h.2 b⟩
end
def fH.back{K:Φ}(S:fH K Wg H₀ HF H ρ σ)(S1:fH K Wg H₀ Wj H ρ1 σ)(s1:aD HF Wj)(G:bh Wj H Wi H'):∃WD,aD HF WD/\fH K Wg H₀ WD H' ρ σ/\(∀d v,kc d=true->Rep K Wi d v->Rep K WD d v)/\∀b o,WD b=some o->Wi b=some o:=by
 have cl:=Classical.propDecidable;let O:Ψ->Prop:=λa=>(∃ (i:Nat) (ds:Γ D),ρ[i]?=some (Slot.own ds)/\σ[i]?=some (some (V.ref a)))\/∃ (i:Nat) (ks:Γ (Γ Int)),ρ[i]?=some (Slot.tab ks)/\σ[i]?=some (some (V.ref a));let WD:Hp:=λa=>if O a then none else Wi a
 have hO:∀a,O a->HF a=none/\((∃vs,H a=some (.lst vs))\/∃WH,H a=some (.dT WH)):=λa z=>by
  rcases z with ⟨i,ds,h1,h2⟩|⟨i,ks,h1,h2⟩
  ·let⟨a',vs,e1,e2,e3,_,_⟩:=S.own i ds h1;rw[h2] at e1;cases e1;exact⟨e3,.inl ⟨vs,e2⟩⟩
  ·let⟨a',WH,e1,e2,e3,_,_⟩:=S.tab i ks h1;rw[h2] at e1;cases e1;exact⟨e3,.inr ⟨WH,e2⟩⟩
 have h2:∀a,¬ O a->WD a=Wi a:=λa n=>yO n;have h3:∀a,O a->WD a=none:=λa n=>yM n;have sa:aD HF WD:=λb o e=>by
  have nb:¬ O b:=λz=>by rw[(hO b z).1] at e;cases e
  rw[h2 b nb];exact G.ff b o (s1 b o e)
 have sb:∀b o,WD b=some o->Wi b=some o:=λb o e=>by
  by_cases z:O b
  ·rw[h3 b z] at e;cases e
  ·rwa [h2 b z] at e
 have g2:=S1.gr.trans G;refine⟨WD,sa,⟨⟨g2.hh,S.gr.ff.trans sa,λb o e=>G.fh b o (sb b o e),λb o e=>g2.nw b o (sb b o e)⟩,λi d h=>?_,λi ds h=>?_,S.inj,S.len,S.tb.mono sa,λi ks h=>?_,S.one,S.ob⟩,λd v hn r=>zp (λa xs q=>?_) hn r,sb⟩
 ·let⟨v,e1,r⟩:=S.val i d h;exact⟨v,e1,r.mono sa⟩
 ·let⟨a,vs,e1,e2,e3,e5,e4⟩:=S.own i ds h;exact⟨a,vs,e1,G.hh _ _ e2,h3 a (.inl ⟨i,ds,h,e1⟩),e5,e4.mono sa⟩
 ·let⟨a,WH,e1,e2,e3,e5,e4⟩:=S.tab i ks h;exact⟨a,WH,e1,G.hh _ _ e2,h3 a (.inr ⟨i,ks,h,e1⟩),e5,e4.1,e4.2.mono sa⟩
 ·have nt:∀o,Wi a=some o->(∀vs,o≠.lst vs)->(∀WH,o≠.dT WH)->WD a=some o:=λo e WN Ym=>by
   by_cases z:O a
   ·rcases (hO a z).2 with ⟨vs,e2⟩|⟨vs,e2⟩
    ·have:=G.hh _ _ e2;rw[G.fh a o e] at this;cases this;exact absurd rfl (WN vs)
    ·have:=G.hh _ _ e2;rw[G.fh a o e] at this;cases this;exact absurd rfl (Ym vs)
   ·rw[h2 a z];exact e
  rcases q with (q|⟨o,q⟩)|q
  ·exact .inl (.inl (nt _ q (λvs z=>by cases z) λvs z=>by cases z))
  ·exact .inl (.inr ⟨o,nt _ q (λvs z=>by cases z) λvs z=>by cases z⟩)
  ·exact .inr q
def aF(i:Nat)(fz:Γ Nat)(f:Env->Δ D):aj->Δ Out:=λρ=>(f (aP ρ)).bind λd=>if lj d=true then some (.nx (ρ.set i (.val d))) else (f (bg (hand fz 0 ρ))).map λd'=>.nx ((if kc d'=true then ρ else hand fz 0 ρ).set i (.val d'))
def Ru:∀E σ H,tS X.K Wg H₀ (aF i fz f) E σ H->BF (tD X.K f) (rL i) E σ H:=λE σ H z=>by
 sleep 12;let⟨d,h,hg⟩:=bs hg;split at hg
 ·rename_i hs;cases hg;exact⟨H,aP ρ,d,.refl _,S.all,h,λv H' Wi G r=>q _ H' HF ((S.step G.hh).XN (rV hs r)) (.refl _)⟩
 ·let⟨d',h',rfl⟩:=ae hg;sleep 51;refine⟨Wj,_,d',S1.gr.fh,S1.WZ,h',λv H' Wi G r=>?_⟩;by_cases hn:kc d'=true
  ·rw[yM hn] at q;let⟨WD,s2,S2,hb,_⟩:=S.back S1 s1 G;exact q _ H' WD (S2.XN (hb d' v hn r)) s2
  ·rw[yO hn] at q;exact q _ H' Wi ((S1.grow G).XN r) (s1.trans G.ff)
def OC(i:Nat)(fz:Γ Nat)(hN:X.N.Nodup)(hi:X.N[i]?=some x)(hx:Loc X.env.scope x)(he:DE X e f)(hs:swapsWith e (some (.Name x pos')) pos.line X.env=pure false:=by rfl)
  (hf:X.fn x=true\/X.env.scope.names.lookup x=some .local:=by first|exact .inl rfl|exact .inr rfl|assumption):DS X Wg H₀ (.Assign [.Name x pos'] e pos) (aF i fz f):=bf (pC hN hi hx he hs hf) Ru
def aS(i:Nat)(fz:Γ Nat)(f:Env->Δ (Γ D)):aj->Δ Out:=λρ=>(f (bg (hand fz 0 ρ))).map λds=>.nx ((hand fz 0 ρ).set i (.own ds))
def JM:∀E σ H,tS X.K Wg H₀ (aS i fz f) E σ H->BF (tF X.K f) (rL i) E σ H:=λE σ H z=>by
 sleep 12;let⟨ds,h,rfl⟩:=ae hg;sleep 51;refine⟨Wj,_,ds,S1.gr.fh,S1.WZ,h,λa vs H' Wi G ha hf h' r=>q _ H' Wi ?_ (s1.trans G.ff)⟩;have S2:=S1.grow G;refine S2.ad5 (.refl _) h' hf (S1.gr.hh.free ha) r λj es _ hj z=>?_;let⟨b,us,e1,e2,_⟩:=S1.own j es hj;rw[e1] at z;cases z;rw[ha] at e2;cases e2
def y9(i:Nat)(fz:Γ Nat)(hN:X.N.Nodup)(hi:X.N[i]?=some x)(hx:Loc X.env.scope x)(he:DF X e f)(hs:swapsWith e (some (.Name x pos')) pos.line X.env=pure false:=by rfl)
  (hf:X.fn x=true\/X.env.scope.names.lookup x=some .local:=by first|exact .inl rfl|exact .inr rfl|assumption):DS X Wg H₀ (.Assign [.Name x pos'] e pos) (aS i fz f):=bf (pC hN hi hx he hs hf) JM
def Ku(i:Nat)(fz:Γ Nat){cs:Γ Nat}
  (hc:X.calm=true) (S:je X scope N (lq t cs)) (hi:DI X tg iter fi)
  (hY:∀fp s H,DG (aY X scope N fp s H) tg tgt/\SH (aY X scope N fp s H) ifs tt/\DE (aY X scope N fp s H) elt te)
  (hN:X.N.Nodup) (hiy:X.N[i]?=some y) (hy:X.env.scope.names.lookup y=some .local)
  (hsw:swapsWith (.ListComp elt [⟨tg,iter,ifs,0⟩] scope pos) (some (.Name y py)) WS.line X.env=pure true)
  (hs:∀x,foldedSetIterable iter X.env x=pure x:=by intro _;rfl):DS X Wg H₀ (.Assign [.Name y py] (.ListComp elt [⟨tg,iter,ifs,0⟩] scope pos) WS) (aS i fz (au t cs fi tgt tt te)) :=
 bf (K4 (g:=T2 X.K tgt) (tt:=KF X.K tt) (te:=tD X.K te) hc S hi hY hN hiy hy hsw hs) λE σ H q=>by
  have:=JM E σ H q;exact JA σ H _ this
def VP(K:Φ)(Wg:Hp)(H₀:Hq)(f:aj->D->Δ aj):TG:=λv σ H Q=>∃HF ρ d ρ',fH K Wg H₀ HF H ρ σ/\Rep K HF d v/\f ρ d=some ρ'/\∀σ',fH K Wg H₀ HF H ρ' σ'->Q σ' H
def Ri(X:Cx)(Wg:Hp)(H₀:Hq)(tg:γ)(f:aj->D->Δ aj):Prop:=PG X tg (VP X.K Wg H₀ f)
def vn(i:Nat):aj->D->Δ aj:=λρ d=>some (ρ.set i (.val d))
def Gw(i:Nat)(hN:X.N.Nodup)(hi:X.N[i]?=some x)(hx:Loc X.env.scope x)(hf:X.fn x=true\/X.env.scope.names.lookup x=some .local:=by first|exact .inl rfl|exact .inr rfl|assumption):Ri X Wg H₀ (.Name x pos) (vn i) :=
 rX (fY hN hi hx hf) λv σ H Q z=>by let⟨HF,ρ,d,ρ',S,r,hf,q⟩:=z;cases hf;exact q _ (S.XN r)
def gy(i j:Nat):aj->D->Δ aj:=λρ d=>match d with
 | .tuple [x,y]=>some ((ρ.set i (.val x)).set j (.val y))
 | _=>none
def Mf(i j:Nat){px py:Pos}{k:Nat}(hc:X.calm=true)(hN:X.N.Nodup)(hi:X.N[i]?=some x)(hx:Loc X.env.scope x)(hj:X.N[j]?=some y)(hy:Loc X.env.scope y)
  (hf:X.fn x=true\/X.env.scope.names.lookup x=some .local:=by first|exact .inl rfl|exact .inr rfl|assumption) (Zx:X.fn y=true\/X.env.scope.names.lookup y=some .local:=by first|exact .inl rfl|exact .inr rfl|assumption) :
  Ri X Wg H₀ (.Tuple [.Name x px,.Name y py] k pos) (gy i j) :=
 rX (Cm hc (gJ (fY hN hi hx hf) (gJ (fY hN hj hy Zx) yq))) λv σ H Q z=>by
  let⟨HF,ρ,d,ρ',S,r,hf,q⟩:=z;unfold gy at hf;split at hf
  ·cases hf;simp?[Rep] at r;let⟨a,vs,rfl,hs,rr⟩:=r;let⟨v1,r1,rfl,a1,b1⟩:=rr.cons_inv;sleep 54;rw[b2.nil_inv] at hs;exact⟨a,_,rfl,aE S.gr.fh hs,rfl,v1,_,rfl,v2,_,rfl,rfl,q _ ((S.XN a1).XN a2)⟩
  ·cases hf
def d6(tgt:aj->D->Δ aj)(gb:aj->Δ Out):Γ D->aj->Δ Out
 | [],ρ=>some (.nx ρ)
 | d::ds,ρ=>(tgt ρ d).bind λρ1=>(gb ρ1).bind fun|.nx W9=>d6 tgt gb ds W9|.rt v=>some (.rt v)
def e8(fz:Γ Nat)(fi:Env->Δ (Γ D))(tgt:aj->D->Δ aj)(gb:aj->Δ Out):aj->Δ Out:=λρ=>(fi (bg (hand fz 0 ρ))).bind λds=>d6 tgt gb ds (hand fz 0 ρ)
def O7(fz:Γ Nat)(hp:PassesOwn (model X.prog X.w) X.A X.env X.xe)(hc:X.calm=true)(hi:DI X tg iter fi)(hg:Ri X Wg H₀ tg tgt)(hb:C2 X Wg H₀ body gb)
  (hs:∀x,foldedSetIterable iter X.env x=pure x:=by intro _;rfl):DS X Wg H₀ (.For tg iter body [] pos) (e8 fz fi tgt gb):=bf (IH hp hc hi hg hb hs) λE σ H z=>by
 sleep 12;let⟨ds,h,hg⟩:=bs hg;sleep 51;refine⟨Wj,_,ds,S1.gr.fh,S1.WZ,h,λJ H2 WD G it=>?_⟩;refine⟨λi m σ' H'=>m+i=ds.length/\∃Wi ρ',fH X.K Wg H₀ Wi H' ρ' σ'/\aD WD Wi/\d6 tgt gb (ds.drop i) ρ'=some o,⟨ds.length,rfl,WD,_,S1.grow G,.refl _,hg⟩,?_⟩;rintro i m σ' H' ⟨hm,Wi,ρ',S',s',hf⟩;sleep 35
 ·refine .inr ?_;have hd:ds.drop i=ds[i]::ds.drop (i+1):=vA hi;sleep 48;generalize ds[i]=d at hd he;rw[hd] at hf;unfold d6 at hf;let⟨ρ1,h1,hf⟩:=bs hf;let⟨o1,h2,hf⟩:=bs hf;let⟨go,Zu⟩:=it.go i d H' Wi he s' S'.gr.fh;refine⟨go,λXX H3=>∃WL YE,fH X.K Wg H₀ WL H3 YE XX/\aD WD WL/\d6 tgt gb (ds.drop (i+1)) YE=some o,λXX H3 z=>by let⟨WL,YE,a1,a2,a3⟩:=z;exact ⟨m - 1,by lia,by lia,WL,YE,a1,a2,a3⟩,λx H3 y=>?_⟩;let⟨WL,G3,rx⟩:=Zu x H3 y;refine⟨WL,ρ',d,ρ1,S'.grow G3,rx,h1,λXX S2=>⟨WL,ρ1,o1,S2,h2,?_⟩⟩;cases o1 with
  | nx W9=>exactλσ4 H4 Xb S4 s4=>⟨Xb,W9,S4,(s'.trans G3.ff).trans s4,hf⟩
  | rt d=>cases hf;exact q
 ·have Xc:i=ds.length:=by lia
  subst Xc;rw[List.drop_length] at hf;cases hf;exact .inl ⟨it.stop H' Wi s' S'.gr.fh,q σ' H' Wi S' ((s1.trans G.ff).trans s')⟩
end
def UG(X:Cx)(sc:ζ):Prop:=∀x k,sc.names.lookup x=some k->X.env.kindOf x=some k\/(k=.free/\X.env.kindOf x=some .cell)
structure Bk(X:Cx)(N:List Str)(sc:Scope)(k:Nat):Prop where
 n:X.N=N
 nd:N.Nodup
 tb:UG X sc
 calm:X.calm=true
 fn:∀x,sc.names.lookup x=some .cell->X.fn x=true
 room:cO k X.A
 xe:X.xe=λ_ _=>False
 kd:X.env.scope.kind=.function
def dR:Γ Str:=["len","isinstance","int","bool","tuple","list","range","all","any","set","sorted","enumerate","zip","sum","min","max","reversed","abs","dict","str","type","iter","next"]
def Bn(X:Cx):Prop:=∀x∈dR,X.mg x=none
def Bm(sc:ζ)(x:Str):θ:=decide (sc.names.lookup x=some .globalImplicit)
def mh(N:Γ Str)(sc:ζ)(i:Nat)(x:Str):θ:=decide (N[i]?=some x)&&(decide (sc.names.lookup x=some .local)||decide (sc.names.lookup x=some .cell)||decide (sc.names.lookup x=some .free))&&!(x == ("__debug__":Str))&&!(x == ("__classdict__":Str))
def rA(N:Γ Str)(sc:ζ)(i:Nat)(x:Str):θ:=decide (N[i]?=some x)&&(decide (sc.names.lookup x=some .local)||decide (sc.names.lookup x=some .cell))
def Bk.gl(C:Bk X N sc k)(h:Bm sc x=true):Gl X x:=by
 rcases C.tb x _ (yR h) with q|⟨q,_⟩
 ·exact q
 ·cases q
def Bk.YU(C:Bk X N sc k)(h:mh N sc i x=true):X.N[i]?=some x/\rP X.env.scope x/\(x == ("__debug__":Str))=false/\(x == ("__classdict__":Str))=false:=by
 unfold mh at h;simp?[zF,jC,zJ,yQ] at h;let⟨⟨⟨h1,h2⟩,h3⟩,h4⟩:=h;refine⟨by rw[C.n];exact h1,?_,h3,h4⟩;rcases h2 with (h2|h2)|h2
 ·rcases C.tb x _ h2 with q|⟨q,_⟩
  ·exact .inl q
  ·cases q
 ·rcases C.tb x _ h2 with q|⟨q,_⟩
  ·exact .inr (.inl q)
  ·cases q
 ·rcases C.tb x _ h2 with q|⟨_,q⟩
  ·exact .inr (.inr q)
  ·exact .inr (.inl q)
def Bk.loc(C:Bk X N sc k)(h:rA N sc i x=true):X.N.Nodup/\X.N[i]?=some x/\Loc X.env.scope x/\(X.fn x=true\/X.env.scope.names.lookup x=some .local):=by
 unfold rA at h;simp?[zF,jC,zJ] at h;let⟨h1,h2⟩:=h;refine⟨by rw[C.n];exact C.nd,by rw[C.n];exact h1,?_⟩;rcases h2 with h2|h2
 ·rcases C.tb x _ h2 with q|⟨q,_⟩
  ·exact⟨.inl q,.inr q⟩
  ·cases q
 ·rcases C.tb x _ h2 with q|⟨q,_⟩
  ·exact⟨.inr q,.inl (C.fn x h2)⟩
  ·cases q
def Bk.blt(C:Bk X N sc k)(B:Bn X)(h:Bm sc x=true)(hm:x∈dR)(hv:bootBuiltins x=some v):rf X x v:=⟨C.gl h,B x hm,hv⟩
def Bk.v(C:Bk X N sc k)(i:Nat)(h:mh N sc i x=true):DE X (.Name x pos) (ab i):=let ⟨a,b,c,d⟩:=C.YU h;Q3 i a b c d
def Bk.pass(C:Bk X N sc k):PassesOwn (model X.prog X.w) X.A X.env X.xe:=by rw[C.xe];exact PassesOwn.never
def jm(sc scope:ζ)(N N':Γ Str)(t:Nat)(cs:Γ Nat):θ :=
 decide (scope.kind=.function)&&scope.names.all (λp=>(!decide (p.2=NameKind.free)||decide (sc.names.lookup p.1=some .cell)||decide (sc.names.lookup p.1=some .free))&&(!decide (p.2=NameKind.local)||decide (scope.names.lookup p.1=some .local)))
  &&scope.names.all (λp=>!decide (p.2=NameKind.cell)||!scope.names.any λq=>decide (q.1=p.1)&&decide (q.2=NameKind.free))
  &&decide (N'.length=t+cs.length)&&decide (N'.drop t=cs.filterMap λj=>N[j]?)&&cs.all (λj=>decide (j < N.length))&&(N'.drop t).all (λx=>decide (scope.names.lookup x=some .free))&&decide N'.Nodup
def filterMap_get(N:Γ α):∀ (cs:Γ Nat),(∀j∈cs,j < N.length)->∀ (i:Nat),(cs.filterMap λj=>N[j]?)[i]?=(cs[i]?).bind λj=>N[j]?
 | [],_,i=>by simp
 | c::cs,h,i=>by
  have hc:=h c zE;rw[jH,zK hc];cases i with
  | zero=>simp[hc]
  | succ i =>
   simp?[yZ];exact filterMap_get N cs (λj hj=>h j (zC _ hj)) i
def Bk.comp(C:Bk X N sc k){cs:Γ Nat}(h:jm sc scope N N' t cs=true):je X scope N' (lq t cs)/\∀fp s H,Bk (aY X scope N' fp s H) N' scope k:=by
 unfold jm at h;simp?[zF,zJ,xH,jC,yQ,xC] at h;obtain⟨⟨⟨⟨⟨⟨⟨h1,h2⟩,h3⟩,h4⟩,h5⟩,h6⟩,h7⟩,h8⟩:=h;refine⟨⟨h1,λx hx hk=>?_,λ{x} a b=>?_,λx hx hk=>?_,λσ i x v e1 e2=>?_,λσ=>?_⟩,λfp s H=>⟨rfl,h8,λx k hx=>o7 hx,C.calm,λx hx=>yA hx,C.room,rfl,h1⟩⟩
 ·rcases (h2 x hx).1 with (q|q)|q
  ·exact absurd hk q
  ·rcases C.tb _ _ q with z|⟨z,_⟩
   ·exact .inl z
   ·cases z
  ·rcases C.tb _ _ q with z|⟨_,z⟩
   ·exact .inr z
   ·exact .inl z
 ·rcases h3 _ a with q|q
  ·exact q rfl
  ·have:(scope.names.any λq=>decide (q.1=x)&&decide (q.2=NameKind.free))=true:=List.any_eq_true.mpr ⟨_,b,by simp⟩;rw[this] at q;cases q
 ·rcases (h2 x hx).2 with q|q
  ·exact absurd hk q
  ·exact q
 ·unfold lq at e2;by_cases hi:i < t
  ·rw[yT (by simpa using hi),yY,yM hi] at e2;cases e2
  ·rw[yU (by simpa using hi),zO,xN] at e2;let⟨j,hj,e2⟩:=ae e2;have e3:(N'.drop t)[i - t]?=some x:=by rw[List.getElem?_drop];rw[show t+(i - t)=i by lia];exact e1
   refine⟨h7 x (qC e3),j,?_,?_⟩
   ·rw[h5,filterMap_get N cs h6,hj] at e3;rw[C.n];exact e3
   ·cases e:σ[j]? with
    | none=>rw[e] at e2;cases e2
    | some o=>rw[e] at e2;have e2:o=some v:=e2;rw[e2]
 ·unfold lq;rw[zN,xN,zD,h4]
def bb(g:aj->Δ Out)(n:Nat)(args:Γ D):Δ D:=(g (args.map Slot.val++List.replicate (n - args.length) .Wh)).map fun|.rt d=>d|.nx _=>.none
def xl{ds:Γ D}{n i:Nat}{ks:Γ (Γ Int)}:¬ (ds.map Slot.val++List.replicate n .Wh)[i]?=some (.tab ks):=λh=>by
 rcases List.mem_append.mp (qC h) with z|z
 ·let⟨d,_,e⟩:=List.mem_map.mp z;cases e
 ·cases List.eq_of_mem_replicate z
def Jk{ds:Γ D}{n i:Nat}{k:Nat}:¬ (ds.map Slot.val++List.replicate n .Wh)[i]?=some (.obj k):=λh=>by
 rcases List.mem_append.mp (qC h) with z|z
 ·let⟨d,_,e⟩:=List.mem_map.mp z;cases e
 ·cases List.eq_of_mem_replicate z
def RQ{K:Φ}{st:Ω}(F:Dv K x qual st f fd)(S:bE N ps (ao st))
  (body:∀X:Cx,X.prog=P->X.w=w->X.K=K->X.mg=mg->X.base=base->Bk X N (ao st) k->X.env.code=fd.code->X.env.qual=qual++".<locals>."->∀Wg H₀,C2 X Wg H₀ (aW st) g):eZ P w K mg base uS (k+1) f fd ps (Rn K ps.length (bb g N.length)):=by
 sleep 24;refine CY lk WB S (λvs H Q E z=>by let⟨HF,ds,d,h1,_,h2,h3,_⟩:=z;rw[h2.length,h3]) λA outer s H vs Q E hr z=>?_;let⟨HF,ds,d,sm,tb,rr,hl,hd,q⟩:=z;refine⟨_,(body (xy uS P w K mg base N qual (ao st) f WR A outer s H E).Zt rfl rfl rfl rfl rfl ⟨rfl,S.nd,λy kd hy=>.inl hy,rfl,λ_ _=>rfl,hr,rfl,S.kind⟩ rfl rfl HF ⟨H,λ_=>0⟩).Zt,?_⟩;unfold bb at hd;let⟨o,ho,hd⟩:=ae hd;have WU:ps.length<=N.length:=by have:=jD List.length S.pre;rw[jW] at this;lia
 refine⟨HF,_,o,⟨.refl sm,λi e h=>?_,λi es h=>?_,λi j es fs a h=>?_,?_,tb,λi ks h=>absurd h xl,λi j ks ls h=>absurd h xl,λi k h=>absurd h Jk⟩,ho,?_⟩
 ·have hi:i < ds.length:=by
   sleep 35
   ·exact hi
   ·sleep 42;sleep 49
  sleep 43;let⟨d',Yi,h⟩:=ae h;cases h;let⟨v,hv,rv⟩:=rr.getD Yi;refine⟨v,?_,rv⟩;unfold L2.start;rw[yT (by simpa [rr.length] using hi),zO,hv];rfl
 ·exfalso;sleep 35
  ·sleep 43;let⟨d',Yi,h⟩:=ae h;cases h
  ·sleep 42;sleep 49
 ·exfalso;sleep 35
  ·sleep 43;let⟨d',Yi,h⟩:=ae h;cases h
  ·sleep 42;sleep 49
 ·unfold L2.start;rw[zN,zN,zD,zD,xN,xN,rr.length];exact yN _
 ·cases o with
  | rt d'=>cases hd;exactλv H' Wi G r=>q v H' Wi G r
  | nx ρ'=>cases hd;exactλσ' H' Wi S' _=>q .Wh H' Wi S'.gr (by simp[Rep])
def Vt{K:Φ}{st:Ω}(F:Dv K x qual st f fd)(S:bE N ps (ao st))(hb:Binds K fd ps [])(hm:mg x=some (.ref f))
  (body:∀X:Cx,X.prog=P->X.w=w->X.K=K->X.mg=mg->X.base=base->Bk X N (ao st) k->X.env.code=fd.code->X.env.qual=qual++".<locals>."->∀Wg H₀,C2 X Wg H₀ (aW st) g):Gf P w K mg base (k+1) x ps.length (bb g N.length):=⟨f,fd,ps,RQ F S body,hm,F.kp,hb⟩
def k8(fz:Γ Nat)(f:Env->Δ D)(ρ:aj):Δ (D×aj):=(f (aP ρ)).bind λd=>if lj d=true then some (d,ρ) else (f (bg (hand fz 0 ρ))).map λd'=>(d',hand fz 0 ρ)
def pd{K:Φ}(S:fH K Wg H₀ HF H ρ σ)(h:k8 fz f ρ=some (d,ρ'))
  (q:∀v H' Wi,aD HF Wi->fH K Wg H₀ Wi H' ρ' σ->aD H H'->Rep K Wi d v->Q v H'):tD K f σ H Q:=by
 let⟨d1,h1,h⟩:=bs h;split at h
 ·rename_i hs;cases h;exact⟨H,aP ρ,d,.refl _,S.all,h1,λv H' Wi G r=>q v H' HF (.refl _) (S.step G.hh) G.hh (rV hs r)⟩
 ·let⟨d2,h2,h⟩:=ae h;cases h;sleep 51;exact⟨Wj,_,d,S1.gr.fh,S1.WZ,h2,λv H' Wi G r=>q v H' Wi (s1.trans G.ff) (S1.grow G) G.hh r⟩
def oA(i:Nat)(m:Γ D->Δ (Γ D))(ρ:aj):Δ Out:=match ρ[i]? with
 | some (.own ds)=>(m ds).map λes=>.nx (ρ.set i (.own es))
 | _=>none
def l5(h:oA i m ρ=some o):∃ds es,ρ[i]?=some (.own ds)/\m ds=some es/\o=.nx (ρ.set i (.own es)):=by
 unfold oA at h;split at h
 ·rename_i ds hd;let⟨es,h1,h2⟩:=ae h;exact⟨ds,es,hd,h1,h2.symm⟩
 ·cases h
def fH.mut{K:Φ}(S:fH K Wg H₀ HF H ρ σ)(h:ρ[i]?=some (.own ds))(ha:σ[i]?=some (some (.ref a)))(hH:H a=some (.lst vs))(r:aq K HF es us) :
  fH K Wg H₀ HF (upd H a (.lst us)) (ρ.set i (.own es)) σ:=by
 let⟨a',ZN,e1,e2,e3,e5,e4⟩:=S.own i ds h;rw[ha] at e1;cases e1;have hl:i < ρ.length:=(List.getElem?_eq_some_iff.mp h).1;have gr:bh Wg H₀ HF (upd H a (.lst us)):=⟨λb o e=>by rw[ak (aG e e5)];exact S.gr.hh b o e,S.gr.ff,λb o e=>by rw[ak (aG e e3)];exact S.gr.fh b o e,S.gr.nw⟩
 have no:∀ {j k:Nat},(ρ.set i (.own es))[j]?=some (.obj k)->i≠j/\ρ[j]?=some (.obj k):=λ{j k} h=>by
  rw[xJ] at h;sleep 39
  ·rw[yM Wo] at h;sleep 49
  ·rw[yO Wo] at h;exact⟨Wo,h⟩
 have nt:∀ {j:Nat}{ks:Γ (Γ Int)},(ρ.set i (.own es))[j]?=some (.tab ks)->ρ[j]?=some (.tab ks):=λ{j ks} h=>by
  rw[xJ] at h;sleep 39
  ·rw[yM Wo] at h;sleep 49
  ·rw[yO Wo] at h;exact h
 refine⟨gr,λj d hj=>?_,λj xs hj=>?_,λj k xs ys b f1 f2 f3 f4=>?_,by rw[yC];exact S.len,S.tb,λj ks hj=>?_,λj k ks ls h1 h2=>S.one j k ks ls (nt h1) (nt h2),λj k h=>S.ob j k (no h).2⟩
 ·rw[xJ] at hj;sleep 39
  ·rw[yM Wo] at hj;split at hj<;>cases hj
  ·rw[yO Wo] at hj;exact S.val j d hj
 ·rw[xJ] at hj;sleep 39
  ·subst Wo;rw[yM rfl,yM hl] at hj;cases hj;exact⟨a,us,ha,aw,e3,e5,r⟩
  ·rw[yO Wo] at hj;let⟨b,ws,f1,f2,f3,f5,f4⟩:=S.own j xs hj;refine⟨b,ws,f1,?_,f3,f5,f4⟩;rw[ak]
   ·exact f2
   ·rintro rfl;exact Wo (S.inj i j ds xs b h hj ha f1)
 ·have old:∀ {j:Nat}{xs:Γ D},(ρ.set i (.own es))[j]?=some (.own xs)->∃ys,ρ[j]?=some (.own ys):=λ{j xs} hj=>by
   rw[xJ] at hj;sleep 39
   ·subst Wo;exact⟨ds,h⟩
   ·rw[yO Wo] at hj;exact⟨xs,hj⟩
  let⟨xs',g1⟩:=old f1;let⟨ys',g2⟩:=old f2;exact S.inj j k xs' ys' b g1 g2 f3 f4
 ·let⟨b,WH,g1,g2,g3,g5,g4⟩:=S.tab j ks (nt hj);refine⟨b,WH,g1,?_,g3,g5,g4⟩;rw[ak λz=>by rw[z,e2] at g2;cases g2];exact g2
def i6(i:Nat)(fz:Γ Nat)(f:Env->Δ D):aj->Δ Out:=λρ=>(k8 fz f ρ).bind λp=>oA i (λds=>if ds.length < sizeLine then some (ds++[p.1]) else none) p.2
def Fx(i:Nat)(fz:Γ Nat)(hN:X.N[i]?=some x)(hv:rP X.env.scope x)(h:DE X e f)(hd:(x == ("__debug__":Str))=false:=by decide)(WB:(x == ("__classdict__":Str))=false:=by decide)
  (W7:((backTo Wq (starEach [e] X.env)).all (λx=>!x.1)&&(backToKw Wq (keywordEach [] X.env)).all (λx=>x.1.isSome)&&decide ([e].length+([]:Γ Keyword).length+(if ([]:Γ Keyword).isEmpty then 0 else 1) < 30))=true:=by rfl)
  (Wt:(apos.endLine == Wq.line)=true:=by rfl) (hs:starEach [e] X.env=(false,eval e X.env)::starEach [] X.env:=by rfl) :
  DS X Wg H₀ (.Expr (.Call (.Attribute (.Name x px) "append" apos) [e] [] Wq) pos) (i6 i fz f) :=
 bf (ji (tK qP PySem.F.slot_list_append PySem.F.type_list_append l7 (bA hN hv hd WB) (bu h da hs) rfl W7 Wt hs rfl)) λE σ H z=>by
  sleep 12;let⟨⟨d,ρ'⟩,h1,hg⟩:=bs hg;let⟨ds,es,h2,h3,rfl⟩:=l5 hg;have Yn:∃YF,ρ[i]?=some (.own YF):=by
   let⟨d1,_,h1⟩:=bs h1;split at h1
   ·cases h1;exact⟨ds,h2⟩
   ·let⟨d2,_,h1⟩:=ae h1;cases h1;rw[e9] at h2;let⟨s,hs,h2⟩:=ae h2;cases s with
    | Wh=>split at h2<;>cases h2
    | tab _=>split at h2<;>cases h2
    | obj _=>split at h2<;>cases h2
    | val _=>split at h2<;>cases h2
    | own xs=>exact⟨xs,hs⟩
  let⟨YF,Yn⟩:=Yn;let⟨a,vs,e1,e2,e3,e5,e4⟩:=S.own i YF Yn;refine⟨.ref a,e1,.inl ⟨rfl,vs,gN.of e2⟩,pd S h1 λv H' Wi s1 S' sh r=>?_⟩;let⟨a',ZN,f1,f2,f3,f5,f4⟩:=S'.own i ds h2;rw[e1] at f1;cases f1;split at h3
  ·rename_i hz;cases h3;exact⟨a,ZN,v,rfl,rfl,f2,by rw[f4.length];exact hz,q σ _ Wi (S'.mut h2 e1 f2 (f4.append (aq.cons r aq.nil))) s1⟩
  ·cases h3
def wk(K:Φ)(o:Obj):Δ (Ψ×Str):=match o.data with
 | .func fd=>if kr.contains fd.qualname=true then (match fd.code with
   | .ref c=>(match K.lookup c with
    | some ⟨_,_,.fields vs,_⟩=>(match (vs[11]?:Δ Θ) with
     | some (.ref P)=>if W.codeHdIn K c P=true then some (P,fd.qualname++".<locals>."++"<lambda>") else none
     | _=>none)
    | _=>none)
   | _=>none) else none
 | _=>none
def iq(K:Φ):Γ (Ψ×Str):=K.filterMap λp=>wk K p.2
def oz(K:Φ)(ts:Γ Ψ):θ:=(iq K).all λp=>ts.contains p.1&&(K.lookup p.1).isNone&&decide ((iq K).lookup p.1=some p.2)
def Ap{K:Φ}(h:wk K o=some (P,q)):∃c,W.codeHdIn K c P=true:=by
 unfold wk at h;split at h
 ·split at h
  ·split at h
   ·split at h
    ·split at h
     ·split at h
      ·cases h;exact⟨_,‹_›⟩
      ·cases h
     ·cases h
    ·cases h
   ·cases h
  ·cases h
 ·cases h
def z8{K:Φ}(h:(P,q)∈iq K):∃c,W.codeHdIn K c P=true:=by
 let⟨p,_,e⟩:=List.mem_filterMap.mp h;exact Ap e
def Cz{K:Φ}(a:K.lookup f=some ⟨oc,od,.func fd,sl⟩)(b:fd.qualname∈kr)(d:fd.code=.ref c)(e:W.codeHdIn K c P=true) :
  (P,fd.qualname++".<locals>."++"<lambda>")∈iq K:=by
 refine List.mem_filterMap.mpr ⟨(f,_),W.mem_of_lookupK a,?_⟩;have e':=e;unfold W.codeHdIn at e';unfold wk;simp?[d,List.contains_iff_mem,b,xI];split at e'
 ·rename_i vs sl' hl;simp?[hl];simp?[zF] at e';have e1:=e'.1.1.1.1.1;split at e1
  ·rename_i P' hv;have:P'=P:=by simpa using e1
   subst this;simp?[hv,e,xI]
  ·cases e1
 ·cases e'
def Gi:∀ {l:Γ (Ψ×α)},l.lookup b=some q->(b,q)∈l
 | [],e=>by cases e
 | (c,x)::r,e=>by
  rw[yB] at e;cases h:b == c with
  | true=>rw[h] at e;cases e;rw[eq_of_beq h];exact zE
  | false=>rw[h] at e;exact zC _ (Gi e)
def eV(K:Φ)(h0:Hp):Hp:=λb=>match (iq K).lookup b with|some q=>some (.tab q)|none=>h0 b
def EW{K:Φ}(h:oz K ts=true):cD K (eV K h0):=λf oc od fd sl c P a b d e=>by
 have hm:=Cz a b d e;have:=List.all_eq_true.mp h _ hm;simp?[zF,zJ] at this;unfold eV;rw[this.2]
def EV{w:δ}{K:Φ}{CX:M7}{k:Nat}{fa:Ψ}{fd:η}{sp:Sp}{vs:Γ Θ}{ns:Γ Int}
  (KX:K.In Wl.heap) (YC:Wl.heap.Ns mainGlobals mg) (hb:Wl.heap.Ns builtinsNs mb) (hbb:∀x:Str,x≠"__name__"->mb x=bootBuiltins x) (Zg:Wl.heap.NoLimit) (hbm:TN mg Wl.heap) (hg:Wl.gens=#[])
  (ht:oz K ts=true) (hts:∀P∈ts,Wl.heap.get? P=some (W.tabObj #[]))
  (ha:Wl.heap.get? a=some { cls:=.type "list",data:=.seq vs.toArray }) (hi:IntsAre vs ns) (hl:ns.length<=sizeLine) (hr:cO k callerA)
  (F:∀base:ι,K.In base->base.Ns mainGlobals mg->eZ P w K mg base CX k fa fd [x] sp) (abY:∀ (s:Ξ) (u:Θ),BindsTo s fd ⟨[u],[]⟩ [(x,u)])
  (hsp:∀H:Hp,cD K H->gN K H a (ns.map V.int)->sp [.ref a] H (λv _=>v=.bl true) λ_ _ _=>False)
  (hCX:∀H e s',CX [] H Wl (λ_ _ _=>False) e s'->False) :
  codeAny (model P w) callerA (.call (.ref fa) ⟨[.ref a],[]⟩) (λr s'=>r=.ok (.ret (.bool true))/\OldK Wl.heap s'.heap/\s'.os=Wl.os/\AllBare s'.gens) Wl:=by
 have rv:=uD hi;have ad9:=hi.length;have tabAt:∀b q,(iq K).lookup b=some q->Wl.heap.get? b=some (W.tabObj #[])/\K.lookup b=none/\∃c,W.CodeHd Wl.heap c b:=λb q e=>by
  have hm:=Gi e;have:=List.all_eq_true.mp ht _ hm;simp?[zF,zJ,List.contains_iff_mem,Option.isNone_iff_eq_none] at this;let⟨c,hc⟩:=z8 hm;exact⟨hts b this.1.1,this.1.2,c,W.codeHd_of_K KX hc⟩
 have aT:(iq K).lookup a=none:=by
  cases e:(iq K).lookup a with
  | none=>rfl
  | some q=>have:=(tabAt a q e).1;rw[ha] at this;cases this
 have core:∀h0:Hp,gN K (eV K h0) a (ns.map V.int)->qj P w (eV K h0) Wl.heap->(∀b,h0 b≠none->b=a)->(h0 a≠none->K.lookup a=none)->(∀b,h0 b=none\/∃o xs,h0 b=some (.WZ o (.lst xs))) ->
   codeAny (model P w) callerA (.call (.ref fa) ⟨[.ref a],[]⟩) (λr s'=>r=.ok (.ret (.bool true))/\OldK Wl.heap s'.heap/\s'.os=Wl.os/\AllBare s'.gens) Wl:=by
  intro h0 hS Wn hA hK hO;have look:∀b u,eV K h0 b=some u->(∃q,(iq K).lookup b=some q/\u=.tab q)\/(b=a/\h0 b=some u):=λb u e=>by
   unfold eV at e;split at e
   ·rename_i q hq;cases e;exact .inl ⟨q,hq,rfl⟩
   ·exact .inr ⟨hA b (by rw[e];simp),e⟩
  have oq:∀ {b:Ψ}{o:Obj},Wl.heap.get? b=some o->eV K h0 b=none->(ya Wl.heap (eV K h0)).get? b=some o:=λe n=>Iz e n;have Zv:∀ {b:Ψ}{o:Obj},Wl.heap.get? b=some o->(∀vs n,o.data≠.seq vs n)->(∀vs,o.data≠.fields vs)->eV K h0 b=none:=λ{b o} e d d2=>by
   cases q:eV K h0 b with
   | none=>rfl
   | some u =>
    rcases look b u q with ⟨q',z,_⟩|⟨z,_⟩
    ·rw[(tabAt b q' z).1] at e;cases e;exact absurd rfl (d2 _)
    ·subst z;rw[ha] at e;cases e;exact absurd rfl (d _ _)
  have nsK:∀ {b:Ψ}{m:Str->Δ Θ},Wl.heap.Ns b m->(ya Wl.heap (eV K h0)).Ns b m:=λ{b m} z=>by let⟨o,es,ep,e,d,r⟩:=z;exact ⟨o,es,ep,oq e (Zv e (λ_ _ z=>by rw[d] at z;cases z) λ_ z=>by rw[d] at z;cases z),d,r⟩
  have hKb:K.In (ya Wl.heap (eV K h0)):=λb o e=>oq (KX b o e) (by
   cases q:eV K h0 b with
   | none=>rfl
   | some u =>
    rcases look b u q with ⟨q',z,_⟩|⟨z,z2⟩
    ·rw[(tabAt b q' z).2.1] at e;cases e
    ·subst z;rw[hK (by rw[z2];simp)] at e;cases e)
  have hM:Mod K mg (ya Wl.heap (eV K h0)):=⟨hKb,nsK YC,⟨mb,nsK hb,hbb⟩,let ⟨mc,h1,h2⟩:=Zg;⟨mc,nsK h1,h2⟩,
   let ⟨bm,o,b1,b2,b3,b4,b5,b6,b7⟩:=hbm;⟨bm,o,b1,b2,b3,oq b4 (Zv b4 (λ_ _ z=>by rw[b7] at z;cases z) λ_ z=>by rw[b7] at z;cases z),b5,b6,b7⟩⟩
  have e0:BN P w K mg (ya Wl.heap (eV K h0)) callerA [] Wl (eV K h0):=⟨rfl,hM,λb o e=>MZ e,Nat.le_of_eq (ER _ _),trivial,λb hb=>absurd (show b∈([]:Γ Ψ) from hb) (by simp),Wn,.of_eq hg⟩
  refine jS ((F _ hKb (nsK YC)).run callerA [] Wl (eV K h0) ⟨[.ref a],[]⟩ [.ref a] [.ref a] _ _ hr e0 (abY Wl (.ref a)) (.cons rfl .nil) (hsp _ (EW ht) hS)) λr s' h=>?_;cases r with
  | error e=>exact (hCX _ e s' h).elim
  | ok fl =>
   cases fl with
   | next=>exact False.elim h
   | brk=>exact False.elim h
   | cont=>exact False.elim h
   | ret u =>
    let⟨v,H',os,bare,un,aea,r',q⟩:=h;have q':v=.bl true:=q;subst q';obtain rfl:u=Value.bool true:=r';have key:∀b o,Wl.heap.get? b=some o->s'.heap.get? b=some o\/(isCodeTable Wl.heap b/\o=W.tabObj #[]/\∃ps,s'.heap.get? b=some (W.tabObj ps)):=λb o e=>by
     cases q:eV K h0 b with
     | none=>exact .inl (un.keep b o e q (by intro z;exact absurd (show b∈([]:Γ Ψ) from z) (by simp)) (by simp))
     | some u =>
      rcases look b u q with ⟨q',z,rfl⟩|⟨z,z2⟩
      ·let⟨t1,_,c,t3⟩:=tabAt b q' z;let⟨more,m1⟩:=un.Xm.gr b q' #[] q t1;rw[e] at t1;cases t1;exact .inr ⟨(t3.tab e).isCodeTable,rfl,_,m1⟩
      ·rcases hO b with z3|⟨ob,xs,z3⟩
       ·rw[z2] at z3;cases z3
       ·rw[z2] at z3;cases z3;have z4:=un.Xu b ob _ q;let⟨e1,_⟩:=Wn b _ q;let⟨e2,_⟩:=aea b _ z4;rw[e] at e1;cases e1;exact .inl e2
    refine⟨rfl,⟨λb o e=>?_,λb o e=>?_⟩,os,bare⟩
    ·rcases key b o e with z|⟨t,rfl,ps,z⟩
     ·exact .inl z
     ·exact .inr (.inl ⟨t,rfl,#[],ps,rfl,by rw[Array.empty_append];exact z⟩)
    ·rcases key b o e with z|⟨_,_,ps,z⟩
     ·exact⟨o,z⟩
     ·exact⟨_,z⟩
 have hoT:∀ (h0:Hp) b q,(iq K).lookup b=some q->ej P w (eV K h0) Wl.heap b (.tab q):=λh0 b q e=>⟨#[],(tabAt b q e).1,trivial,λpos v z=>by cases z⟩
 cases hk:K.lookup a with
 | some o =>
  have e:=KX a o hk;rw[ha] at e;cases e;refine core (λ_=>none) (.inr ⟨_,vs.toArray,_,hk,rfl,rfl,rfl,by rw[zH,ad9];exact hl,by simpa using rv⟩) (λb u z=>?_) (λb z=>absurd rfl z) (λz=>absurd rfl z) λ_=>.inl rfl;unfold eV at z;split at z
  ·rename_i q hq;cases z;exact hoT _ b q hq
  ·cases z
 | none =>
  refine core (λb=>if b=a then some (.WZ { cls:=.type "list",data:=.seq vs.toArray } (.lst (ns.map V.int))) else none) (.inl (.inr ⟨{ cls:=.type "list",data:=.seq vs.toArray },?_⟩)) (λb u z=>?_) (λb z=>?_) (λ_=>hk) λb=>?_
  ·unfold eV;rw[aT];exact yM rfl
  ·unfold eV at z;split at z
   ·rename_i q hq;cases z;exact hoT _ b q hq
   ·by_cases hb:b=a
    ·replace z:=(yM hb).symm.trans z;cases z;subst hb;exact⟨ha,by rw[zD];exact hl,vs,_,rv,ha⟩
    ·replace z:=(yO hb).symm.trans z;cases z
  ·by_cases hb:b=a
   ·exact hb
   ·exact absurd (yO hb) z
  ·by_cases hb:b=a
   ·exact .inr ⟨_,_,yM hb⟩
   ·exact .inl (yO hb)
def Jc{l:W.OpenLaw}{n k:Nat}{q:ε}{loose:Γ Str}{XP:(Str->Δ Θ)->ι->Prop}{YP:δ->ι->Prop}{d:DefRec}{K:Params->Φ}{CX:δ->M7}{sp:δ->Sp}{x:Str}{ts:Γ Ψ}
  (hn:l.most=some n) (hn2:n<=sizeLine) (hdf:d.params.defaults=[]) (hr:cO k callerA)
  (hY:∀ (w:δ) (h:ι),YP w h->(K w.params).In h/\∀P∈ts,h.get? P=some (W.tabObj #[])) (ht:∀w:δ,oz (K w.params) ts=true)
  (F:∀ (w:δ) (mg:Str->Δ Θ) (fa:Ψ) (h:ι),(K w.params).In h->h.Ns mainGlobals mg->mg d.name=some (.ref fa) ->
   ∃fd:η,(∀ (s:Ξ) (u:Θ),BindsTo s fd ⟨[u],[]⟩ [(x,u)]) /\
    ∀base:ι,(K w.params).In base->base.Ns mainGlobals mg->eZ l.prog w (K w.params) mg base (CX w) k fa fd [x] (sp w))
  (hsp:∀ (w:δ) (H:Hp) (a:Ψ) (ns:Γ Int),ns.length<=n->cD (K w.params) H->gN (K w.params) H a (ns.map V.int)->sp w [.ref a] H (λv _=>v=.bl true) λ_ _ _=>False)
  (hCX:∀ (w:δ) (H:Hp) (s:Ξ) (e:Θ) (s':Ξ),CX w [] H s (λ_ _ _=>False) e s'->False) :
  W.WalkO q loose XP YP l.row.toRowW d [] (λf vs=>PySem.call f vs):=by
 refine Att.X3 hn hdf λw WI Wl mg mb fa o pm cd doc a vs ns G Y ho hd WB hmg aaK hints hlen hg=>?_;let⟨KX,hts⟩:=hY w _ Y;let⟨fd,hb,hF⟩:=F w mg fa _ KX G.T.g hmg;have hbm:TN mg Wl.heap:=by
  let⟨bm,ob,b1,b2,b3,b4,b5,b6⟩:=G.T.bmain;refine⟨bm,ob,b1,b2,λz=>?_,b3,b4,b5,b6⟩;let⟨o',es,ep,e1,e2,_⟩:=G.T.g;rw[<- z,b3] at e1;cases e1;rw[b6] at e2;cases e2
 exact EV KX G.T.g G.T.b G.T.builtins G.T.nolimit hbm hg (ht w) hts aaK hints (yD hlen hn2) hr hF hb (λH hT hS=>hsp w H a ns hlen hT hS) λH e s'=>hCX w H Wl e s'
end Dl
namespace SP
open PySem PySem.W PyProof.Rows
def run(lt:Nat->Nat->θ):KasT α->α
 | .ret a=>a
 | .ask i j k=>run lt (k (lt i j))
def iA(lt:Nat->Nat->θ)(f:α->KasT β):∀t:KasT α,run lt (t.bind f)=run lt (f (run lt t))
 | .ret a=>rfl
 | .ask i j k=>by
  show run lt ((k (lt i j)).bind f)=run lt (f (run lt (k (lt i j))));exact iA lt f (k (lt i j))
def Rh(n:Nat):KasT α->Prop
 | .ret _=>True
 | .ask i j k=>i < n/\j < n/\∀b,Rh n (k b)
def wp_run(hc:∀i j C,i < n->j < n->C (lt i j) s->cmp i j C s):∀ (t:KasT α) {Q:α->Ξ->Prop},Rh n t->Q (run lt t) s->t.kasWp cmp Q s
 | .ret a,Q,_,h=>h
 | .ask i j k,Q,b,h=>hc i j _ b.1 b.2.1 (wp_run hc (k (lt i j)) (b.2.2 _) h)
def rM(n:Nat)(R:α->Prop):KasT α->Prop
 | .ret a=>R a
 | .ask i j k=>i < n/\j < n/\∀b,rM n R (k b)
def oN:∀ {t:KasT α},rM n R t->(∀a,R a->Rh n (f a))->Rh n (t.bind f)
 | .ret a,b,h=>h a b
 | .ask i j k,b,h=>⟨b.1,b.2.1,λc=>oN (b.2.2 c) h⟩
def jf:∀ {t:KasT α},rM n R t->(∀a,R a->rM n S (f a))->rM n S (t.bind f)
 | .ret a,b,h=>h a b
 | .ask i j k,b,h=>⟨b.1,b.2.1,λc=>jf (b.2.2 c) h⟩
def Bd(n:Nat)(p:Array Nat):Prop:=∀a,p.getD a 0 < n
def Bd.perm(h:Bd n p)(e:q.Perm p):Bd n q:=by
 intro a;rw[qE];cases ha:q[a]? with
 | none=>have:=h p.size;rw[qE] at this;simpa using this
 | some x =>
  have hx:x∈q:=Array.mem_of_getElem? ha;have YV:x∈p:=e.mem_iff.mp hx;let⟨i,hi,rfl⟩:=Array.mem_iff_getElem.mp YV;have:=h i;rw[qE] at this;simpa [hi] using this
def HX(h:Bd n p):∀f m,rM n (λ_=>True) (kas_asc p f m)
 | 0,m=>trivial
 | f+1,m=>⟨h _,h _,λc=>by
  dsimp only;split
  ·trivial
  ·exact HX h f (m+1)⟩
def zw(h:Bd n p)(i j:Nat):Bd n (kas_rev p i j):=h.perm (mirror_perm _ _ _ _)
def ze:∀ (f:Nat) {p:Array Nat}(h:Bd n p) (m q:Nat),rM n (λr=>Bd n r.1) (kas_desc f p m q)
 | 0,p,h,m,q=>h
 | f+1,p,h,m,q=>⟨h _,h _,λc=>by
  dsimp only;split
  ·split
   ·exact ze f (zw h _ _) (m+1) 0
   ·exact ze f h (m+1) 0
  ·exact⟨h _,h _,λd=>by
    dsimp only;split
    ·exact h
    ·exact ze f h (m+1) (q+1)⟩⟩
def EB(h:Bd n p)(m nrem:Nat):rM n (λr=>Bd n r.2) (kas_tail3 m nrem p):=jf (HX (zw h 0 m) _ _) λ_ _=>zw h 0 m
def rH(h:Bd n p)(m nrem:Nat):rM n (λr=>Bd n r.2) (kas_descPart m nrem p):=jf (ze _ h _ _) λr hr=>by
 split
 ·exact EB (zw hr _ _) _ _
 ·exact EB hr _ _
def Mj(h:Bd n p)(nrem:Nat):rM n (λr=>Bd n r.2) (kas_count nrem p):=jf (HX h _ _) λm _=>by
 split
 ·exact h
 ·split
  ·exact⟨h _,h _,λc=>by
    dsimp only;split
    ·exact h
    ·exact rH (zw h _ _) _ _⟩
  ·exact rH h _ _
def wo(h:Bd n p)(k:Nat):∀f l r,rM n (λ_=>True) (kas_place p k f l r)
 | 0,l,r=>trivial
 | f+1,l,r=>by
  unfold kas_place;split
  ·trivial
  ·exact⟨h _,h _,λc=>by
    dsimp only;split
    ·exact wo h k f _ _
    ·exact wo h k f _ _⟩
def NB:∀ (f:Nat) {p:Array Nat}(h:Bd n p) (k:Nat),Rh n (kas_bin f p k)
 | 0,p,h,k=>trivial
 | f+1,p,h,k=>oN (wo h k _ _ _) λl _=>NB f (h.perm (bubble_perm _ _ _)) (k+1)
def GX(h1:1<=n):Rh n (kas_sort n):=by
 have h:Bd n (List.toArray (List.range n)):=λa=>by
  rw[qE];by_cases ha:a < n
  ·simp[ha]
  ·simp[ha];lia
 refine oN (Mj h n) λr hr=>?_;split
 ·exact NB _ hr _
 ·trivial
section
variable (z:Nat->Int)
def Z(p:Array Nat)(a:Nat):Int:=z (p.getD a 0)
def er:Nat->Nat->θ:=λi j=>decide (z i < z j)
def nW(h:p[a]?=q[b]?):Z z p a=Z z q b:=by
 unfold Z;rw[qE,qE,h]
def HN(hj:j<=p.size)(k:Nat):Z z (kas_rev p i j) k=if i<=k/\k < j then Z z p (i+j - 1 - k) else Z z p k:=by
 have e:=getElem?_mirror_all (xs:=p) (i:=i) hj k;unfold kas_rev;by_cases h1:i<=k/\k < j
 ·rw[yM h1] at e ⊢;exact nW z e
 ·rw[yO h1] at e ⊢;exact nW z e
def Hw(hs:src < p.size)(hd:d<=src)(k:Nat):Z z (bubble p src d) k=if k=src - d then Z z p src else if src - d < k/\k<=src then Z z p (k - 1) else Z z p k:=by
 have e:=getElem?_bubble hs d hd k;by_cases h1:k=src - d
 ·rw[yM h1] at e ⊢;exact nW z e
 ·rw[yO h1] at e ⊢;by_cases h2:src - d < k/\k<=src
  ·rw[yM h2] at e ⊢;exact nW z e
  ·rw[yO h2] at e ⊢;exact nW z e
def Up(p:Array Nat)(n:Nat):Prop:=∀a b,a<=b->b < n->Z z p a<=Z z p b
def Dn(p:Array Nat)(n:Nat):Prop:=∀a b,a<=b->b < n->Z z p b<=Z z p a
variable {z}
def Ky(h:Up z p n)(hn:1<=n)(h1:Z z p (n - 1)<=Z z p n):Up z p (n+1):=by
 intro a b Xz hb;by_cases hbn:b < n
 ·exact h a b Xz hbn
 ·have e:b=n:=by lia
  subst e;by_cases ha:a=b
  ·subst ha;exact qA _
  ·exact jU (h a (b - 1) (by lia) (by lia)) h1
def Uv:∀ (f n:Nat),1<=n->Up z p n->n<=run (er z) (kas_asc p f n)/\run (er z) (kas_asc p f n)<=n+f/\Up z p (run (er z) (kas_asc p f n))/\(run (er z) (kas_asc p f n) < n+f->Z z p (run (er z) (kas_asc p f n)) < Z z p (run (er z) (kas_asc p f n) - 1))
 | 0,n,hn,h=>⟨yN _,yN _,h,λq=>absurd q (qF _)⟩
 | f+1,n,hn,h=>by
  unfold kas_asc;show n<=run (er z) (if er z (p.getD n 0) (p.getD (n - 1) 0)=true then .ret n else kas_asc p f (n+1))/\run (er z) (if er z (p.getD n 0) (p.getD (n - 1) 0)=true then .ret n else kas_asc p f (n+1))<=n+(f+1)/\Up z p (run (er z) (if er z (p.getD n 0) (p.getD (n - 1) 0)=true then .ret n else kas_asc p f (n+1)))/\(run (er z) (if er z (p.getD n 0) (p.getD (n - 1) 0)=true then .ret n else kas_asc p f (n+1)) < n+(f+1)->Z z p (run (er z) (if er z (p.getD n 0) (p.getD (n - 1) 0)=true then .ret n else kas_asc p f (n+1))) < Z z p (run (er z) (if er z (p.getD n 0) (p.getD (n - 1) 0)=true then .ret n else kas_asc p f (n+1)) - 1))
  by_cases hc:er z (p.getD n 0) (p.getD (n - 1) 0)=true
  ·rw[yM hc];exact⟨yN _,jV _ _,h,λ_=>yR hc⟩
  ·rw[yO hc];have h1:Z z p (n - 1)<=Z z p n:=by
    have:¬ (Z z p n < Z z p (n - 1)):=λq=>hc (yA q);lia
   let⟨a,b,c,d⟩:=Uv f (n+1) (by lia) (Ky h hn h1);exact⟨by lia,by lia,c,λq=>d (by lia)⟩
def B3(hj:j<=p.size)(h:∀a b,i<=a->a < j->i<=b->b < j->Z z p a=Z z p b)(k:Nat):Z z (kas_rev p i j) k=Z z p k:=by
 rw[HN z hj];split
 ·rename_i hk;exact h _ _ (by lia) (by lia) hk.1 hk.2
 ·rfl
def HY(e:∀k,Z z q k=Z z p k)(h:Dn z p n):Dn z q n:=λa b Xz hb=>by rw[e,e];exact h a b Xz hb
def Qg(hn:n<=p.size)(h:Dn z p n):Up z (kas_rev p 0 n) n:=by
 intro a b Xz hb;rw[HN z hn,HN z hn,yM ⟨xW _,by lia⟩,yM ⟨xW _,hb⟩];exact h _ _ (by lia) (by lia)
def nM(p:Array Nat)(i j:Nat):(kas_rev p i j).size=p.size:=mirror_size _ _ _ _
def oH(p:Array Nat)(i j:Nat):(kas_rev p i j).Perm p:=mirror_perm _ _ _ _
structure O5(z:Nat->Int)(WJ p:Array Nat)(n q nrem:Nat):Prop where
 perm:p.Perm WJ
 size:p.size=WJ.size
 le:n<=nrem
 qn:q+1<=n
 dn:Dn z p n
 eq:∀a b,n - (q+1)<=a->a < n->n - (q+1)<=b->b < n->Z z p a=Z z p b
def KW(hz:nrem<=WJ.size):∀ (f:Nat) (p:Array Nat) (n q:Nat),n+f<=nrem->O5 z WJ p n q nrem ->
  let r:=run (er z) (kas_desc f p n q);O5 z WJ r.1 r.2.1 r.2.2 nrem
 | 0,p,n,q,hn,h=>h
 | f+1,p,n,q,hn,h=>by
  intro r;have hr:r=run (er z) (if er z (p.getD n 0) (p.getD (n - 1) 0)=true then (if q > 0 then kas_desc f (kas_rev p (n - (q+1)) n) (n+1) 0 else kas_desc f p (n+1) 0)
   else .ask (p.getD (n - 1) 0) (p.getD n 0) λd=>if d=true then .ret (p,n,q) else kas_desc f p (n+1) (q+1)):=rfl
  have hq:=h.qn;by_cases hc:er z (p.getD n 0) (p.getD (n - 1) 0)=true
  ·rw[yM hc] at hr;have WK:Z z p n < Z z p (n - 1):=yR hc;have step:∀p':Array Nat,p'.Perm WJ->p'.size=WJ.size->(∀k,Z z p' k=Z z p k)->O5 z WJ p' (n+1) 0 nrem:=λp' a1 a2 a3=>by
    refine⟨a1,a2,by lia,by lia,λa b Xz hb=>?_,λa b h1 h2 h3 h4=>by rw[show a=b by lia]⟩;rw[a3,a3];by_cases hbn:b < n
    ·exact h.dn a b Xz hbn
    ·have e:b=n:=by lia
     subst e;by_cases ha:a=b
     ·subst ha;exact qA _
     ·exact jU (Int.le_of_lt WK) (h.dn a (b - 1) (by lia) (by lia))
   by_cases hq0:q > 0
   ·rw[yM hq0] at hr;rw[hr];exact KW hz f _ (n+1) 0 (by lia) (step _ ((oH _ _ _).trans h.perm) (by rw[nM,h.size]) (B3 (by rw[h.size];lia) h.eq))
   ·rw[yO hq0] at hr;rw[hr];exact KW hz f p (n+1) 0 (by lia) (step p h.perm h.size λ_=>rfl)
  ·rw[yO hc] at hr;have hge:Z z p (n - 1)<=Z z p n:=by
    have:¬ (Z z p n < Z z p (n - 1)):=λq=>hc (yA q);lia
   have X4:r=run (er z) (if er z (p.getD (n - 1) 0) (p.getD n 0)=true then .ret (p,n,q) else kas_desc f p (n+1) (q+1)):=hr;by_cases hd:er z (p.getD (n - 1) 0) (p.getD n 0)=true
   ·rw[yM hd] at X4;rw[X4];exact h
   ·rw[yO hd] at X4;rw[X4];have heq:Z z p n=Z z p (n - 1):=by
     have:¬ (Z z p (n - 1) < Z z p n):=λq=>hd (yA q);lia
    refine KW hz f p (n+1) (q+1) (by lia) ⟨h.perm,h.size,by lia,by lia,λa b Xz hb=>?_,λa b h1 h2 h3 h4=>?_⟩
    ·by_cases hbn:b < n
     ·exact h.dn a b Xz hbn
     ·have e:b=n:=by lia
      subst e;by_cases ha:a=b
      ·subst ha;exact qA _
      ·rw[heq];exact h.dn a (b - 1) (by lia) (by lia)
    ·have key:∀c,n+1 - (q+1+1)<=c->c < n+1->Z z p c=Z z p (n - 1):=λc c1 c2=>by
      by_cases hcn:c < n
      ·exact h.eq c (n - 1) (by lia) hcn (by lia) (by lia)
      ·have e:c=n:=by lia
       subst e;exact heq
     rw[key a h1 h2,key b h3 h4]
structure Ts(z:Nat->Int)(WJ:Array Nat)(nrem:Nat)(r:Nat×Array Nat):Prop where
 perm:r.2.Perm WJ
 size:r.2.size=WJ.size
 ge:1<=r.1
 le:r.1<=nrem
 up:Up z r.2 r.1
def tail3(hz:nrem<=WJ.size)(h1:1<=n)(hn:n<=nrem)(hp:p.Perm WJ)(hs:p.size=WJ.size)(hd:Dn z p n):Ts z WJ nrem (run (er z) (kas_tail3 n nrem p)):=by
 unfold kas_tail3;rw[iA];let⟨a,b,c,_⟩:=Uv (nrem - n) n h1 (Qg (by lia) hd);exact⟨(oH _ _ _).trans hp,by show (kas_rev p 0 n).size=_;rw[nM,hs],by show 1<=run _ (kas_asc _ _ _);lia,by show run _ (kas_asc _ _ _)<=nrem;lia,c⟩
def descPart(hz:nrem<=WJ.size)(h1:1<=n)(hn:n < nrem)(hp:p.Perm WJ)(hs:p.size=WJ.size)(hd:Dn z p n)(WK:Z z p n<=Z z p (n - 1)):Ts z WJ nrem (run (er z) (kas_descPart n nrem p)):=by
 unfold kas_descPart;rw[iA];have D:=KW (z:=z) hz (nrem - (n+1)) p (n+1) 0 (by lia) ⟨hp,hs,by lia,by lia,λa b Xz hb=>by
  by_cases hbn:b < n
  ·exact hd a b Xz hbn
  ·have e:b=n:=by lia
   subst e;by_cases ha:a=b
   ·subst ha;exact qA _
   ·exact jU WK (hd a (b - 1) (by lia) (by lia)),λa b h1 h2 h3 h4=>by rw[show a=b by lia]⟩
 dsimp only at D;generalize run (er z) (kas_desc (nrem - (n+1)) p (n+1) 0)=r at D;have hq:=D.qn;split
 ·exact tail3 hz (by lia) D.le ((oH _ _ _).trans D.perm) (by rw[nM,D.size]) (HY (B3 (by have:=D.size;have:=D.le;lia) D.eq) D.dn)
 ·exact tail3 hz (by lia) D.le D.perm D.size D.dn
def count(hz:nrem<=p.size)(h1:1<=nrem):Ts z p nrem (run (er z) (kas_count nrem p)):=by
 unfold kas_count;rw[iA];let⟨a,b,c,d⟩:=Uv (z:=z) (p:=p) (nrem - 1) 1 (yN _) (λx y hxy hy=>by rw[show x=y by lia];exact qA _);generalize run (er z) (kas_asc p (nrem - 1) 1)=n at a b c d;split
 ·exact⟨Array.Perm.refl _,rfl,a,by show n<=nrem;lia,c⟩
 ·rename_i WN;have WK:n < nrem:=by
   have:n≠nrem:=λe=>WN (by simp[e]);lia
  have hd:=d (by lia);split
  ·rename_i hn1;show Ts z p nrem (run (er z) (if er z (p.getD 0 0) (p.getD (n - 1) 0)=true then .ret (n,p) else kas_descPart n nrem (kas_rev p 0 n)));by_cases hc:er z (p.getD 0 0) (p.getD (n - 1) 0)=true
   ·rw[yM hc];exact⟨Array.Perm.refl _,rfl,a,by show n<=nrem;lia,c⟩
   ·rw[yO hc];have hge:Z z p (n - 1)<=Z z p 0:=by
     have:¬ (Z z p 0 < Z z p (n - 1)):=λq=>hc (yA q);lia
    have all:∀x,x < n->Z z p x=Z z p 0:=λx hx=>by
     have e1:=c 0 x (xW _) hx;have e2:=c x (n - 1) (by lia) (by lia);lia
    have same:=B3 (z:=z) (p:=p) (i:=0) (j:=n) (by lia) λx y _ hx _ hy=>by rw[all x hx,all y hy]
    refine descPart hz (by lia) WK (oH _ _ _) (by rw[nM]) (λx y hxy hy=>?_) ?_
    ·rw[same,same,all x (by lia),all y hy];exact qA _
    ·rw[same,same];lia
  ·exact descPart hz (by lia) WK (Array.Perm.refl _) rfl (λx y hxy hy=>by rw[show x=y by lia];exact qA _) (by lia)
def place(hu:Up z p k):∀ (f l r:Nat),r - l<=f->l<=r->r<=k->(∀a,a < l->Z z p a<=Z z p k)->(∀a,r<=a->a < k->Z z p k<=Z z p a) ->
  let m:=run (er z) (kas_place p k f l r);m<=k/\(∀a,a < m->Z z p a<=Z z p k)/\(∀a,m<=a->a < k->Z z p k<=Z z p a)
 | 0,l,r,hf,hl,hr,h1,h2=>by
  intro m;have e:l=r:=by lia
  subst e;exact⟨hr,h1,h2⟩
 | f+1,l,r,hf,hl,hr,h1,h2=>by
  intro m;have hm:m=run (er z) (if l >= r then .ret l else .ask (p.getD k 0) (p.getD ((l+r) / 2) 0) λc=>if c=true then kas_place p k f l ((l+r) / 2) else kas_place p k f ((l+r) / 2+1) r):=rfl;by_cases hlr:l >= r
  ·rw[yM hlr] at hm;rw[hm];have e:l=r:=by lia
   subst e;exact⟨hr,h1,h2⟩
  ·rw[yO hlr] at hm;have Xs:m=run (er z) (if er z (p.getD k 0) (p.getD ((l+r) / 2) 0)=true then kas_place p k f l ((l+r) / 2) else kas_place p k f ((l+r) / 2+1) r):=hm;by_cases hc:er z (p.getD k 0) (p.getD ((l+r) / 2) 0)=true
   ·rw[yM hc] at Xs;rw[Xs];have WK:Z z p k < Z z p ((l+r) / 2):=yR hc;exact place hu f l ((l+r) / 2) (by lia) (by lia) (by lia) h1 λa ha hak=>jU (Int.le_of_lt WK) (hu _ a ha hak)
   ·rw[yO hc] at Xs;rw[Xs];have hge:Z z p ((l+r) / 2)<=Z z p k:=by
     have:¬ (Z z p k < Z z p ((l+r) / 2)):=λq=>hc (yA q);lia
    exact place hu f ((l+r) / 2+1) r (by lia) (by lia) hr (λa ha=>jU (hu a ((l+r) / 2) (by lia) (by lia)) hge) h2
def bin:∀ (f:Nat) (p:Array Nat) (k:Nat),p.Perm WJ->p.size=WJ.size->k+f<=WJ.size->Up z p k ->
  (run (er z) (kas_bin f p k)).Perm WJ/\(run (er z) (kas_bin f p k)).size=WJ.size/\Up z (run (er z) (kas_bin f p k)) (k+f)
 | 0,p,k,hp,hs,hk,hu=>⟨hp,hs,hu⟩
 | f+1,p,k,hp,hs,hk,hu=>by
  unfold kas_bin;rw[iA];have P:=place hu k 0 k (by lia) (by lia) (yN _) (λa ha=>absurd ha (vQ _)) λa ha hak=>absurd ha (by lia);dsimp only at P;generalize run (er z) (kas_place p k k 0 k)=l at P;let⟨p1,p2,p3⟩:=P;have zb:=Hw z (p:=p) (src:=k) (d:=k - l) (by lia) (by lia);have e:k - (k - l)=l:=by lia
  rw[e] at zb;let⟨q1,q2,q3⟩:=bin f (bubble p k (k - l)) (k+1) ((bubble_perm _ _ _).trans hp) (by rw[bubble_size,hs]) (by lia) λa b Xz hb=>by
   rw[zb,zb];by_cases ha1:a=l
   ·rw[yM ha1];by_cases Zy:b=l
    ·rw[yM Zy];exact qA _
    ·rw[yO Zy];rw[yM (by lia)];exact p3 _ (by lia) (by lia)
   ·rw[yO ha1];by_cases Zy:b=l
    ·rw[yM Zy,yO (by lia)];exact p2 a (by lia)
    ·rw[yO Zy];by_cases ha2:l < a/\a<=k
     ·rw[yM ha2,yM (by lia)];exact hu _ _ (by lia) (by lia)
     ·rw[yO ha2];by_cases hb2:l < b/\b<=k
      ·rw[yM hb2];exact hu _ _ (by lia) (by lia)
      ·rw[yO hb2];exact hu _ _ Xz (by lia)
  exact⟨q1,q2,by rw[show k+(f+1)=k+1+f by lia];exact q3⟩
def gZ(h1:1<=n):(run (er z) (kas_sort n)).toList.Perm (List.range n)/\((run (er z) (kas_sort n)).toList.map z).Pairwise (·<=·):=by
 have hsz:(List.toArray (List.range n)).size=n:=by simp
 have C:=count (z:=z) (p:=List.toArray (List.range n)) (nrem:=n) (by lia) h1;have fin:∀p:Array Nat,p.Perm (List.toArray (List.range n))->p.size=n->Up z p n->p.toList.Perm (List.range n)/\(p.toList.map z).Pairwise (·<=·):=λp a b c=>by
  refine⟨by have:=a.toList;simpa using this,?_⟩;rw[List.pairwise_iff_getElem];intro i j hi hj Wo;have Xc:i < n:=by simpa [b] using hi
  have Yh:j < n:=by simpa [b] using hj
  have:=c i j (jT Wo) Yh;unfold Z at this;have e1:p.getD i 0=p[i]:=by simp[Array.getD,b,Xc]
  have e2:p.getD j 0=p[j]:=by simp[Array.getD,b,Yh]
  rw[e1,e2] at this;sleep 14
 unfold kas_sort;rw[iA];generalize run (er z) (kas_count n (List.toArray (List.range n)))=r at C;let⟨k,p⟩:=r;have hs:=C.size;rw[hsz] at hs;split
 ·rename_i WK;have hge:=C.ge;have e:max k 1=k:=by have:1<=k:=hge;lia
  rw[e];let⟨q1,q2,q3⟩:=bin (z:=z) (n - k) p k C.perm C.size (by rw[hsz];have:k < n:=WK;lia) C.up;refine fin _ q1 (by rw[q2,hsz]) ?_;rw[show k+(n - k)=n by have:k < n:=WK;lia] at q3;exact q3
 ·rename_i aeb;have hle:=C.le;have e:k=n:=by have h3:k<=n:=hle;have h4:¬ k < n:=aeb;lia
  subst e;exact fin p C.perm hs C.up
end
end SP
namespace Yo
open PySem PySem.W PySem.Calls PyProof.Rows
def WA(z:Nat->Int)(vs:Γ Θ):Γ Θ:=if vs.length < 2 then vs else (SP.run (SP.er z) (kas_sort vs.length)).toList.map λi=>vs.getD i Value.none
def X5(z:Nat->Int)(vs:Γ Θ):(WA z vs).length=vs.length:=by
 unfold WA;split
 ·rfl
 ·rename_i h;have:=(SP.gZ (z:=z) (n:=vs.length) (by lia)).1.length_eq;sleep 14
def Yp{P:PySem.Fin->Ξ->Prop}(ho:s.heap.get? a=some (seqObj "list" vs.toArray n))(X6:vs.length < 64)(z:Nat->Int)(κ:SortKind)
  (hk:2<=vs.length->∀h':ι,(∀b o,b≠a->s.heap.get? b=some o->h'.get? b=some o)->∀Q':SortKind->Ξ->Prop,Q' κ { s with heap:=h' }->wpAny (model prog w) A (keyKind' vs.toArray) Q' (λ_ _=>False) { s with heap:=h' })
  (WK:2<=vs.length->∀h':ι,(∀b o,b≠a->s.heap.get? b=some o->h'.get? b=some o)->∀i j C,i < vs.length->j < vs.length->C (SP.er z i j) { s with heap:=h' }->kas_ask prog w A κ vs i j C { s with heap:=h' })
  (h:∀ (h':ι) (c:Nat),(∀b o,b≠a->s.heap.get? b=some o->h'.get? b=some o)->h'.get? a=some (seqObj "list" (WA z vs).toArray c)->P (.done (.ret .none)) { s with heap:=h' }) :
  wpAny (model prog w) A (Builtin.«list.sort» ⟨[.ref a],[]⟩) P E s:=by
 rw[list_sort_plain];have ha:a < s.heap.objs.size:=zY ho;have YG:vs.length<=sizeLine:=by rw[qV];lia
 refine zV (vK ho rfl (zV (kC ho rfl ?_ (by simpa using YG) (xW _))));sleep 47
 have kp1:∀b o,b≠a->s.heap.get? b=some o->(s.heap.update a (Obj.mapSeq λ_=>(#[]:Array Θ))).get? b=some o:=λb o hb e=>(xO _ _ (jN hb)).trans e;refine zV (seqEpoch_at ho1 rfl (zV (wpAny_newTuple ?_ (by simpa using YG))));refine zV (kP (xY ?_) (xW _));sleep 26;have kp3:∀b o,b≠a->s.heap.get? b=some o->(((s.heap.update a (Obj.mapSeq λ_=>(#[]:Array Θ))).push (seqObj "tuple" vs.toArray 0)).push (seqObj "list" #[] 0)).get? b=some o:=λb o hb e=>zU _ (zU _ (kp1 b o hb e));sleep 32;generalize ((s.heap.update a (Obj.mapSeq λ_=>(#[]:Array Θ))).push (seqObj "tuple" vs.toArray 0)).push (seqObj "list" #[] 0)=h3 at ho3 kp3;clear ho1 kp1;dsimp only;have fin:∀Wz:SortSt,(arrOf Wz).map (·.2)=(WA z vs).toArray->failedOf Wz=none ->
   wpAny (model prog w) A (do
    let sorted:=(arrOf Wz).map (·.2);let touched:=(<- seqEpoch a) != e1
    Builtin.List.listUpdate (.ref a) λ_=>sorted
    if let some e:=failedOf Wz then rule "list.sort.comparison-raised";throw e
    if touched then rule "list.sort.modified";raiseError "ValueError" "list modified during sort"
    ret .none) P E { s with heap:=h3 }:=λWz h1 h2=>by
  dsimp only;rw[h1,h2];refine zV (seqEpoch_at ho3 rfl ?_);refine zV (kC ho3 rfl ?_ (xW _) (by show (WA z vs).toArray.size<=_;rw[zH,X5];lia));obtain⟨c,hc⟩:∃c,(h3.update a (Obj.mapSeq λ_=>(WA z vs).toArray)).get? a=some (seqObj "list" (WA z vs).toArray c):=⟨_,kF ho3 λ_=>(WA z vs).toArray⟩
  have q:=h _ c (λb o hb e=>(xO _ _ (jN hb)).trans (kp3 b o hb e)) hc;simp?[bne_self_eq_false,yP,qQ];exact zW q
 by_cases h2:vs.toArray.size < 2
 ·rw[yM h2,yM h2];refine zV (zW ?_);rw[StateT.run_pure];refine zV (zW (fin _ ?_ rfl));have Zz:vs.length < 2:=by simpa using h2
  unfold WA;rw[yM Zz];show ((vs.toArray.zip vs.toArray).map (·.2))=vs.toArray;apply Array.toList_inj.mp;simp?[Array.toList_map,Array.toList_zip];exact List.map_snd_zip (yN _)
 ·rw[yO h2,yO h2];have Zz:2<=vs.length:=by
   have:¬ vs.length < 2:=by simpa using h2
   lia
  refine zV (xB (hk Zz h3 kp3 (λκ' s'=>κ'=κ/\s'={ s with heap:=h3 }) ⟨rfl,rfl⟩) (λκ' s' hs=>?_) λ_ _ x=>x.elim);let⟨rfl,rfl⟩:=hs;refine zV (xB (kat_run (Q:=λWz s'=>s'={ s with heap:=h3 }/\(arrOf Wz).map (·.2)=(WA z vs).toArray/\failedOf Wz=none) (G:=λp s'=>s'={ s with heap:=h3 }/\p=SP.run (SP.er z) (kas_sort vs.length))
   rfl Zz X6 (λp Wz s' a1 a2 a3 a4=>⟨a4.1,?_,a3⟩) (SP.wp_run (WK Zz h3 kp3) (kas_sort vs.length) (SP.GX (by lia)) ⟨rfl,rfl⟩)) ?_ λ_ _ e=>e)
  ·rw[kat_snds rfl a2,a4.2];unfold WA;rw[yO (by lia)]
  ·rintro⟨⟨⟩,Wz⟩ s' ⟨hs,h4,h5⟩;subst hs;exact fin Wz h4 h5
def ZO(h:ι)(l:Ψ)(vs:Γ Θ):Prop:=∃ (o:Obj) (T:String) (n:Nat),(T="list"\/T="tuple")/\h.get? l=some o/\o.cls=.type T/\o.data=.seq vs.toArray n
def Zh(hl:ZO s.heap l vs)
  (h:Q vs { s with heap:=(s.heap.push (seqObj "list" #[] 0)).update s.heap.objs.size (Obj.mapSeq (·++vs.toArray)) }) (hsz:vs.length<=sizeLine):wpAny (model prog w) A (collect (.ref l)) Q E s:=by
 let⟨o,T,n,hT,ho,hc,hd⟩:=hl;unfold collect;refine zV (wpAny_runValue (kG entry_proto_collect' ?_));show wpAny _ _ (do again (.builtin "list.__iadd__" ⟨[<- newList [],.ref l],[]⟩)) _ _ s;refine zV (kP (zW ⟨Code.quiet_builtin _ (by decide +kernel),kG entry_list_iadd' ?_⟩));show wpAny _ _ (Builtin.List.listExtendWith (.ref s.heap.objs.size) (.ref l) (.ref s.heap.objs.size)) _ _ { s with heap:=s.heap.push (seqObj "list" #[] 0) };unfold Builtin.List.listExtendWith;have XD:(s.heap.push (seqObj "list" #[] 0)).get? l=some o:=zU _ ho;refine zV (wK (T:=T) ⟨o,XD,hc⟩ ?_);rw[yM (by rcases hT with rfl|rfl<;>simp)];refine zV (vK XD hd (zV (vK (xs:=#[]) (n:=0) (zX _ rfl) rfl ?_)));rw[yO (by simp)];refine zV (kC (xs:=#[]) (n:=0) (zX _ rfl) rfl ?_ (xW _) (by show (#[]++vs.toArray).size<=sizeLine+1;simp?[Array.size_append,zH,xM];lia));refine zW ?_;refine zV (wpAny_load (kF (zX _ rfl) _) ?_);show wpAny _ _ (pure ((#[]:Array Θ)++vs.toArray).toList) Q E _;rw[show ((#[]:Array Θ)++vs.toArray).toList=vs by simp];exact zW h
def ZP{s:Ξ}{Q:Θ->Ξ->Prop}(hl:ZO s.heap l vs)(X6:vs.length < 64)(z:Nat->Int)(κ:SortKind)
  (hk:2<=vs.length->∀h':ι,(∀b o,s.heap.get? b=some o->h'.get? b=some o)->∀Q':SortKind->Ξ->Prop,Q' κ { s with heap:=h' }->wpAny (model prog w) A.in1.in1 (keyKind' vs.toArray) Q' (λ_ _=>False) { s with heap:=h' })
  (WK:2<=vs.length->∀h':ι,(∀b o,s.heap.get? b=some o->h'.get? b=some o)->∀i j C,i < vs.length->j < vs.length->C (SP.er z i j) { s with heap:=h' }->kas_ask prog w A.in1.in1 κ vs i j C { s with heap:=h' })
  (h:∀ (h':ι) (D:Ψ) (c:Nat),(∀b o,s.heap.get? b=some o->h'.get? b=some o)->s.heap.objs.size<=D->h'.get? D=some (seqObj "list" (WA z vs).toArray c)->Q (.ref D) { s with heap:=h' }) :
  wpAny (model prog w) A (call (.builtin "sorted") [.ref l]) Q E s:=by
 have YG:vs.length<=sizeLine:=by rw[qV];lia
 refine Calls.call_function_entry kind_sorted plain_sorted entry_sorted (args_sorted1 _) ?_;unfold Builtin.«sorted»;refine zV (m:=checkCount "sorted" 1 1 _) (zW (zV (Zh hl ?_ YG)));refine zV (kP ?_ (by simpa using YG));have hsz:((s.heap.push (seqObj "list" #[] 0)).update s.heap.objs.size (Obj.mapSeq (·++vs.toArray))).objs.size=s.heap.objs.size+1:=by rw[Heap.size_update,size_push']
 have kp:∀b o,s.heap.get? b=some o->(((s.heap.push (seqObj "list" #[] 0)).update s.heap.objs.size (Obj.mapSeq (·++vs.toArray))).push (seqObj "list" vs.toArray 0)).get? b=some o:=λb o e =>
  zU _ ((xO _ _ (jJ (zY e))).trans (zU _ e))
 have Y7:(((s.heap.push (seqObj "list" #[] 0)).update s.heap.objs.size (Obj.mapSeq (·++vs.toArray))).push (seqObj "list" vs.toArray 0)).get? (s.heap.objs.size+1)=some (seqObj "list" vs.toArray 0):=by
  rw[<- hsz];exact zX _ rfl
 show wpAny _ _ _ _ _ { s with heap:=((s.heap.push (seqObj "list" #[] 0)).update s.heap.objs.size (Obj.mapSeq (·++vs.toArray))).push (seqObj "list" vs.toArray 0) };rw[hsz];generalize ((s.heap.push (seqObj "list" #[] 0)).update s.heap.objs.size (Obj.mapSeq (·++vs.toArray))).push (seqObj "list" vs.toArray 0)=h1 at kp Y7;have kk:∀h':ι,(∀b o,b≠s.heap.objs.size+1->h1.get? b=some o->h'.get? b=some o)->∀b o,s.heap.get? b=some o->h'.get? b=some o:=λh' q b o e=>q b o (yS (jO (zY e))) (kp b o e);refine zV (xY (qX slot_list_sort ⟨_,Y7,rfl⟩ entry_list_sort (Yp Y7 X6 z κ (λa h' q=>hk a h' (kk h' q)) (λa h' q=>WK a h' (kk h' q)) λh' c q e=>⟨_,rfl,?_⟩) (args_list_sort _)));exact zW ⟨_,rfl,h h' _ c (kk h' q) (by lia) e⟩
end Yo
namespace Dl
open PySem L2 PySem.Spec PyProof.Rows
def E3(i:Nat)(fz:Γ Nat)(f:Env->Δ (Γ D)):aj->Δ Out:=λρ=>(f (bg (hand fz 0 ρ))).bind λus=>oA i (λds=>if ds.length+us.length<=sizeLine then some (ds++us) else none) (hand fz 0 ρ)
def Fk(i:Nat)(fz:Γ Nat)(hN:X.N[i]?=some x)(hv:rP X.env.scope x)(h:DF X e f)(hd:(x == ("__debug__":Str))=false:=by decide)(WB:(x == ("__classdict__":Str))=false:=by decide)
  (W7:((backTo Wq (starEach [e] X.env)).all (λx=>!x.1)&&(backToKw Wq (keywordEach [] X.env)).all (λx=>x.1.isSome)&&decide ([e].length+([]:Γ Keyword).length+(if ([]:Γ Keyword).isEmpty then 0 else 1) < 30))=true:=by rfl)
  (Wt:(apos.endLine == Wq.line)=true:=by rfl) (hs:starEach [e] X.env=(false,eval e X.env)::starEach [] X.env:=by rfl) :
  DS X Wg H₀ (.Expr (.Call (.Attribute (.Name x px) "extend" apos) [e] [] Wq) pos) (E3 i fz f) :=
 bf (ji (tK qP PySem.F.slot_list_extend PySem.F.type_list_extend Fc (bA hN hv hd WB) (bu h da hs) rfl W7 Wt hs rfl)) λE σ H z=>by
  sleep 12;let⟨us,h1,hg⟩:=bs hg;let⟨ds,es,h2,h3,rfl⟩:=l5 hg;sleep 51;let⟨a,vs,e1,e2,e3,e5,e4⟩:=S1.own i ds h2;refine⟨.ref a,e1,.inl ⟨rfl,vs,gN.of e2⟩,Wj,_,us,S1.gr.fh,S1.WZ,h1,λb ws H' Wi G hb hf h' r=>?_⟩;have S2:=S1.grow G;let⟨a',ZN,f1,f2,f3,f5,f4⟩:=S2.own i ds h2;rw[e1] at f1;cases f1;split at h3
  ·rename_i hz;cases h3;exact⟨a,b,ZN,ws,rfl,rfl,f2,h',by rw[f4.length,r.length];exact hz,q σ _ Wi (S2.mut h2 e1 f2 (f4.append r)) (s1.trans G.ff)⟩
  ·cases h3
def Eu(ds:Γ D)(k:Int)(d:D):Γ D:=let j:=if k < 0 then (k+(ds.length:Int)).toNat else min k.toNat ds.length;ds.take j++d::ds.drop j
def Ll:V->Γ V->Hp->VK->Prop:=λx vs H Q=>∃l xs k y,x=.ref l/\vs=[.int k,y]/\H l=some (.lst xs)/\xs.length < sizeLine/\-(2 ^ 62)<=k/\k < 2 ^ 62 /\
 Q .Wh (upd H l (.lst (xs.take (if k < 0 then (k+(xs.length:Int)).toNat else min k.toNat xs.length)++y::xs.drop (if k < 0 then (k+(xs.length:Int)).toNat else min k.toNat xs.length))))
def FS:Ro X "list.insert" Ll:=by
 sleep 28;let⟨l,xs,k,y,rfl,rfl,hH,hz,k1,k2,q⟩:=h;cases rx;let⟨u1,u2,rfl,⟨t,rfl⟩,ru⟩:=L2.aH.two rv;let⟨z,its,n,r,hl,e⟩:=I.Y8 hH;have aaP:¬(!Builtin.List.listFitsIndex k)=true:=by
  have:Builtin.List.listFitsIndex k=true:=by
   unfold Builtin.List.listFitsIndex;simp?[zF,zJ];lia
  rw[this];simp
 refine qY F.slot_list_insert ⟨_,e,rfl⟩ F.entry_list_insert (F.args_list_insert_3 _ _ _) (AutoListH.list_insert_list_int_val_1 l its.toArray n k t u2 aaP (by rw[zH];lia)) ⟨e,?_⟩;have hlen:its.length=xs.length:=hl.symm;refine⟨.Wh,_,I.ZJ (its':=its.take (if k < 0 then (k+(xs.length:Int)).toNat else min k.toNat xs.length)++u2::its.drop (if k < 0 then (k+(xs.length:Int)).toNat else min k.toNat xs.length)) hH e ?_ ((r.take _).append (.cons ru (r.drop _))) ?_,rfl,q⟩
 ·dsimp only;rw[zH,hlen];apply Array.toList_inj.mp;simp;exact kK (by rw[qJ,hlen];exact yN _)
 ·rw[zN,zL,jW,qJ];lia
def Gv(i:Nat)(fz:Γ Nat)(fk f:Env->Δ D):aj->Δ Out:=λρ=>(fk (aP ρ)).bind λkd=>match kd with
 | .int k=>(k8 fz f ρ).bind λp=>oA i (λds=>if FK k=true/\ds.length < sizeLine then some (Eu ds k p.1) else none) p.2
 | _=>none
def FL(i:Nat)(fz:Γ Nat)(hN:X.N[i]?=some x)(hv:rP X.env.scope x)(hk:DE X e fk)(h:DE X e2 f)(hd:(x == ("__debug__":Str))=false:=by decide)(WB:(x == ("__classdict__":Str))=false:=by decide)
  (W7:((backTo Wq (starEach [e,e2] X.env)).all (λx=>!x.1)&&(backToKw Wq (keywordEach [] X.env)).all (λx=>x.1.isSome)&&decide ([e,e2].length+([]:Γ Keyword).length+(if ([]:Γ Keyword).isEmpty then 0 else 1) < 30))=true:=by rfl)
  (Wt:(apos.endLine == Wq.line)=true:=by rfl) (hs:starEach [e,e2] X.env=(false,eval e X.env)::starEach [e2] X.env:=by rfl) (ZI:starEach [e2] X.env=(false,eval e2 X.env)::starEach [] X.env:=by rfl) :
  DS X Wg H₀ (.Expr (.Call (.Attribute (.Name x px) "insert" apos) [e,e2] [] Wq) pos) (Gv i fz fk f) :=
 bf (ji (tK qP PySem.F.slot_list_insert PySem.F.type_list_insert FS (bA hN hv hd WB) (bu hk (bu h da ZI) hs) rfl W7 Wt hs (by rw[ZI];rfl))) λE σ H z=>by
  sleep 12;let⟨kd,hkd,hg⟩:=bs hg;cases kd<;>try cases hg
  rename_i k;let⟨⟨d,ρ'⟩,h1,hg⟩:=bs hg;let⟨ds,es,h2,h3,rfl⟩:=l5 hg;have Yn:∃YF,ρ[i]?=some (.own YF):=by
   let⟨d1,_,h1⟩:=bs h1;split at h1
   ·cases h1;exact⟨ds,h2⟩
   ·let⟨d2,_,h1⟩:=ae h1;cases h1;rw[e9] at h2;let⟨s,hs,h2⟩:=ae h2;cases s with
    | Wh=>split at h2<;>cases h2
    | tab _=>split at h2<;>cases h2
    | obj _=>split at h2<;>cases h2
    | val _=>split at h2<;>cases h2
    | own xs=>exact⟨xs,hs⟩
  let⟨YF,Yn⟩:=Yn;let⟨a,vs,e1,e2,e3,e5,e4⟩:=S.own i YF Yn;refine⟨.ref a,e1,.inl ⟨rfl,vs,gN.of e2⟩,H,aP ρ,_,.refl _,S.all,hkd,λvk Hk HFk Gk rk=>?_⟩;simp?[Rep] at rk;subst rk;refine pd (S.step Gk.hh) h1 λv H' Wi s1 S' sh r=>?_;let⟨a',ZN,f1,f2,f3,f5,f4⟩:=S'.own i ds h2;rw[e1] at f1;cases f1;split at h3
  ·rename_i hz;cases h3;have ok:=hz.1;unfold FK at ok;rw[zF] at ok;refine⟨a,ZN,k,v,rfl,rfl,f2,by rw[f4.length];exact hz.2,yR ok.1,yR ok.2,q σ _ Wi (S'.mut h2 e1 f2 ?_) s1⟩;unfold Eu;rw[f4.length];exact (f4.take _).append (aq.cons r (f4.drop _))
  ·cases h3
def J5:D->D->Δ (Γ D)
 | .list xs,.list ys=>small (xs++ys)
 | _,_=>none
def Hy(K:Φ):R2:=λx y H Q=>∃a b xs ys,x=.ref a/\y=.ref b/\gN K H a xs/\gN K H b ys/\xs.length+ys.length<=sizeLine/\∀p,H p=none->Q (.ref p) (upd H p (.lst (xs++ys)))
def J9:gO X (binaryOp .Add) (Hy X.K):=by
 sleep 11;let⟨a,b,xs,ys,rfl,rfl,ha,hb,hz,q⟩:=h;cases rx;cases ry;let⟨its,r1,p1,_⟩:=I.list ha;let⟨Xe,r2,p2,_⟩:=I.list hb;let⟨⟨cls,dd,data,sl⟩,ho,hc,n,hd⟩:=id p1.isList;let⟨⟨abH,dd2,data2,sl2⟩,Zw,YO,n2,hd2⟩:=id p2.isList;simp only at hc hd YO hd2;subst hc hd YO hd2;refine wM ⟨_,ho,rfl⟩ ⟨_,Zw,rfl⟩ noFill_list_add seq_list_add PySem.F.slot_list_add PySem.F.entry_list_add (PySem.F.args_list_add_2 _ _) (list_addW a b its.toArray Xe.toArray n n2 dd dd2 sl sl2 (by rw[zH,zH,<- r1.length,<- r2.length];exact hz)) ⟨ho,Zw,?_⟩;have e:its.toArray++Xe.toArray=(its++Xe).toArray:=by simp
 rw[e];exact⟨.ref s.heap.objs.size,_,I.aaJ (t':=s.toks) (r1.append r2) (by rw[zN];exact hz),rfl,q _ I.fresh⟩
def boolsOf:Γ D->Δ (Γ θ)
 | []=>some []
 | .bool b::r=>(boolsOf r).map (b::·)
 | _::_=>none
def jd:∀ {ds:Γ D}{bs:Γ θ},boolsOf ds=some bs->ds=bs.map PyData.bool
 | [],bs,h=>by cases h;rfl
 | d::r,bs,h=>by
  cases d<;>simp?[boolsOf] at h<;>try cases h
  let⟨bs',h1,rfl⟩:=ae h;rw[jd h1];rfl
def mW{K:Φ}:∀ {bs:Γ θ}{vs:Γ V},aq K H (bs.map PyData.bool) vs->vs=bs.map V.bl
 | [],vs,h=>h.nil_inv
 | b::bs,vs,h=>by
  let⟨v,r,rfl,a,c⟩:=h.cons_inv;simp?[Rep] at a;rw[a,mW c];rfl
def mG:∀ {bs:Γ θ}{us:Γ Θ},aH (bs.map V.bl) us->us=bs.map Value.bool
 | [],us,h=>by cases h;rfl
 | b::bs,us,h=>by
  cases h with
  | cons r rr=>cases r;rw[mG rr];rfl
def range_all(bs:Γ θ):(List.range bs.length).all (λi=>bs.getD i false)=bs.all id:=by
 induction bs with
 | nil=>rfl
 | cons b bs ih=>rw[zL,vM,xU,List.all_map,xU];simpa [wW] using jD (b&&·) ih
def range_any(bs:Γ θ):(List.range bs.length).any (λi=>bs.getD i false)=bs.any id:=by
 induction bs with
 | nil=>rfl
 | cons b bs ih=>rw[zL,vM,vE,wQ,vE];simpa [wW] using jD (b||·) ih
def CC(hc:X.calm=true):gg X (.builtin "all") (λxs H Q=>∃ (a:Ψ) (bs:Γ θ),xs=[.ref a]/\gN X.K H a (bs.map V.bl)/\Q (.bl (bs.all id)) H):=by
 sleep 20;let⟨a,bs,rfl,hq,q⟩:=h;sleep 46;cases rx;let⟨its,rv,pl,hz⟩:=I.list hq;have hv:=mG rv;subst hv;have hh:X.A.in1.handled=none:=I.ok.hd hc;refine call_all_walk (qL pl.isList ?_);let⟨o,ho,Yk,n,hd⟩:=pl.isList;have WN:a≠s.heap.objs.size:=yS (zY ho);sleep 23
 ·have e:v=Value.bool (bs.getD i false):=by
   have hP:(bs.map Value.bool).toArray[i]?=some v:=hP;rw[vW,zO] at hP;let⟨b,hb,rfl⟩:=ae hP;rw[zG,hb];rfl
  subst e;exact xX hQ
 ·refine⟨.bl (bs.all id),H,?_,?_,q⟩
  ·exact I.kept (t':=tk) λb o' e=>kp b o' (by simp;exact yS (zY e)) (zU _ e)
  ·show Value.bool _=Value.bool _;have:=range_all bs;simp?[zH,zD];rw[this]
def nL:Γ D->Δ D:=λds=>(oneOf ds).bind λd=>match d with
 | .list es=>(boolsOf es).map λbs=>.bool (bs.all id)
 | _=>none
def P5(hc:X.calm=true)(B:rf X "all" (.builtin "all"))(ha:DA X [e] fs)(he:starEach [e] X.env=(false,eval e X.env)::starEach [] X.env:=by rfl):DE X (.Call (.Name "all" p) [e] [] pos) (bw nL fs) :=
 lu (CC hc) (by
  sleep 41;let⟨x,hx,hg⟩:=bs hg;rw[gG hx] at r;cases x<;>try cases hg
  let⟨bs,hb,rfl⟩:=ae hg;let⟨v,r',rfl,a,b⟩:=r.cons_inv;rw[b.nil_inv];simp?[Rep] at a;let⟨p,us,rfl,h,rr⟩:=a;rw[jd hb] at rr;have:=mW rr;subst this;exact⟨p,bs,rfl,sm.seq h,q _ H HF (.refl sm) (by simp[Rep])⟩) B ha (by decide) (by decide) he rfl
abbrev lexLt:=HT.lexLt
def gz:∀a:Γ Int,lexLt a a=false
 | []=>rfl
 | x::a=>by show HT.lexLt (x::a) (x::a)=false;rw[HT.eC,yM rfl];exact gz a
def eF:∀ {a b c:Γ Int},lexLt a b=true->lexLt b c=true->lexLt a c=true
 | [],[],_,h,_=>by cases h
 | [],_::_,[],_,h=>by cases h
 | [],_::_,_::_,_,_=>rfl
 | _::_,[],_,h,_=>by cases h
 | _::_,_::_,[],_,h=>by cases h
 | x::a,y::b,z::c,h1,h2=>by
  have h1:HT.lexLt (x::a) (y::b)=true:=h1;have h2:HT.lexLt (y::b) (z::c)=true:=h2;show HT.lexLt (x::a) (z::c)=true;rw[HT.eC] at h1 h2 ⊢;by_cases e1:x=y
  ·rw[yM e1] at h1;by_cases e2:y=z
   ·rw[yM e2] at h2;rw[yM (e1.trans e2)];exact eF h1 h2
   ·rw[yO e2] at h2;rw[yO (by lia)];have:=yR h2;exact yA (by lia)
  ·rw[yO e1] at h1;have q1:=yR h1;by_cases e2:y=z
   ·rw[yO (by lia)];exact yA (by lia)
   ·rw[yO e2] at h2;have q2:=yR h2;rw[yO (by lia)];exact yA (by lia)
def lW:∀ {a b:Γ Int},lexLt a b=false->lexLt b a=false->a=b
 | [],[],_,_=>rfl
 | [],_::_,h,_=>by cases h
 | _::_,[],_,h=>by cases h
 | x::a,y::b,h1,h2=>by
  have h1:HT.lexLt (x::a) (y::b)=false:=h1;have h2:HT.lexLt (y::b) (x::a)=false:=h2;rw[HT.eC] at h1 h2;by_cases e:x=y
  ·rw[yM e] at h1;rw[yM e.symm] at h2;rw[e,lW h1 h2]
  ·rw[yO e] at h1;rw[yO (λz=>e z.symm)] at h2;have:=wG h1;have:=wG h2;lia
def lexLe(a b:Γ Int):θ:=!lexLt b a
def A9(a b c:Γ Int)(h1:lexLe a b=true)(h2:lexLe b c=true):lexLe a c=true:=by
 unfold lexLe at *;rw[yQ] at *;cases e:lexLt c a with
 | false=>rfl
 | true =>
  cases e1:lexLt a b with
  | true=>rw[eF e e1] at h2;cases h2
  | false =>
   have:=lW e1 h1;subst this;rw[e] at h2;cases h2
def Ba(a b:Γ Int):(lexLe a b||lexLe b a)=true:=by
 unfold lexLe;cases e1:lexLt b a with
 | false=>rfl
 | true =>
  cases e2:lexLt a b with
  | false=>rfl
  | true=>have:=eF e1 e2;rw[gz] at this;cases this
def Cd(h1:lexLe a b=true)(h2:lexLe b a=true):a=b:=by
 unfold lexLe at *;rw[yQ] at *;exact lW h2 h1
def uE{α:Type}{le:α->α->θ}(ab1:∀a b,le a b=true->le b a=true->a=b):∀ {l m:Γ α},l.Perm m->l.Pairwise (λa b=>le a b=true)->m.Pairwise (λa b=>le a b=true)->l=m
 | [],m,p,_,_=>p.nil_eq
 | a::l,[],p,_,_=>by have:=p.length_eq;simp at this
 | a::l,b::m,p,h1,h2=>by
  let⟨h1a,h1b⟩:=List.pairwise_cons.mp h1;let⟨h2a,h2b⟩:=List.pairwise_cons.mp h2;have e:a=b:=by
   have ha:a∈b::m:=p.mem_iff.mp zE;have hb:b∈a::l:=p.mem_iff.mpr zE;rcases List.mem_cons.mp ha with e|ha
   ·exact e
   ·rcases List.mem_cons.mp hb with e|hb
    ·exact e.symm
    ·exact ab1 a b (h1a b hb) (h2a a ha)
  subst e;rw[uE ab1 (List.perm_cons a |>.mp p) h1b h2b]
def ua(l:Γ (Γ Int)):Γ (Γ Int):=l.mergeSort lexLe
def IC(l:Γ (Γ Int)):(ua l).Perm l:=List.mergeSort_perm l lexLe
def N8(l:Γ (Γ Int)):(ua l).Pairwise (λa b=>lexLe a b=true):=List.pairwise_mergeSort A9 Ba l
def IM{l:Γ (Γ Int)}(p:l.Perm m)(h:l.Pairwise (λa b=>lexLe a b=true)):l=ua m:=uE (λ_ _=>Cd) (p.trans (IC m).symm) h (N8 m)
def rk(l:Γ (Γ Int))(a:Γ Int):Int:=((l.countP λb=>lexLt b a:Nat):Int)
def DM(ha:a∈l):lexLt a b=decide (rk l a < rk l b):=by
 unfold rk;have mono:∀ {a b:Γ Int},lexLt a b=true->(l.countP λc=>lexLt c a)<=l.countP λc=>lexLt c b:=λ{a b} h=>List.countP_mono_left λc _ hc=>eF hc h;have strict:∀ {a b:Γ Int}(ha:a∈l),lexLt a b=true->(l.countP λc=>lexLt c a) < l.countP λc=>lexLt c b:=λ{a b} ha h=>by
  have key:∀m:Γ (Γ Int),a∈m->(m.countP λc=>lexLt c a) < m.countP λc=>lexLt c b:=λm hm=>by
   induction m with
   | nil=>cases hm
   | cons x m ih =>
    rw[List.countP_cons,List.countP_cons];have mo:(m.countP λc=>lexLt c a)<=m.countP λc=>lexLt c b:=List.countP_mono_left λc _ hc=>eF hc h;rcases List.mem_cons.mp hm with e|hm
    ·subst e;rw[gz,h];simp?[yP,qQ,xI];lia
    ·have:=ih hm;by_cases hx:lexLt x a=true
     ·rw[hx,eF hx h];simp?[xI];lia
     ·have YV:lexLt x a=false:=by simpa using hx
      rw[YV];simp?[yP,qQ];split<;>lia
  exact key l ha
 cases e:lexLt a b with
 | true=>exact (yA (by have:=strict ha e;lia)).symm
 | false =>
  refine (zZ ?_).symm;cases e2:lexLt b a with
  | true=>have:=mono e2;lia
  | false=>rw[lW e e2];lia
section
variable {prog:ε}{w:δ}{A:ξ}{E:Θ->Ξ->Prop}{s:Ξ}
def sJ:∀ {us ws:Γ Θ}{ns ms:Γ Int}(i:Nat),IntsAre us ns->IntsAre ws ms->Q (lexLt ns ms) s->W.KatLex prog w A true (decide (ns.length < ms.length)) Q (us.zip ws) i s
 | [],[],_,_,i,.nil,.nil,h=>h
 | [],_::_,_,_,i,.nil,.cons _ _ _,h=>by
  show Q (decide (0 < _+1)) s;rw[yA (Nat.succ_pos _)];exact h
 | _::_,[],_,_,i,.cons _ _ _,.nil,h=>by
  show Q (decide (_+1 < 0)) s;rw[zZ (vQ _)];exact h
 | _::us,_::ws,_,_,i,.cons n t r1,.cons m u r2,h=>by
  have h:Q (HT.lexLt (n::_) (m::_)) s:=h;rw[HT.eC] at h;refine W.kat_cons (SeqAt.EqAt.int_int n t m u prog w _ _ ?_);cases e:(n == m) with
  | true =>
   have e':n=m:=eq_of_beq e;rw[yM e'] at h;refine W.kat_yes ?_;have:=sJ (i+1) r1 r2 h;simp?[zL,Nat.add_lt_add_iff_right];exact this
  | false =>
   have e':¬ n=m:=λq=>by rw[q] at e;simp at e
   rw[yO e'] at h;refine W.kat_no ?_;by_cases hi:(true&&i == 0)=true
   ·rw[hi];exact oneLt_int h
   ·have Xc:(true&&i == 0)=false:=by simpa using hi
    rw[Xc];refine W.kat_one _ _ (lt_int ?_);exact h
end
def af(ns:Γ Int):D:=.tuple (ns.map PyData.int)
def intsOf:Γ D->Δ (Γ Int)
 | []=>some []
 | .int n::r=>(intsOf r).map (n::·)
 | _::_=>none
def dI:∀ {ds:Γ D}{ns:Γ Int},intsOf ds=some ns->ds=ns.map PyData.int
 | [],ns,h=>by cases h;rfl
 | d::r,ns,h=>by
  cases d<;>simp?[intsOf] at h<;>try cases h
  let⟨ns',h1,rfl⟩:=ae h;rw[dI h1];rfl
def bL:∀ns:Γ Int,intsOf (ns.map PyData.int)=some ns
 | []=>rfl
 | n::ns=>by simp[intsOf,bL ns]
def Dy:D->Δ (Γ Int)|.tuple ds=>(intsOf ds).bind λns=>if ns=[] then none else some ns|_=>none
def BK(h:Dy d=some ns):d=af ns/\ns≠[]:=by
 cases d<;>try cases h
 let⟨ms,h1,h2⟩:=bs h;split at h2
 ·cases h2
 ·rename_i hn;cases h2;rw[dI h1];exact⟨rfl,hn⟩
def FM(h:ns≠[]):Dy (af ns)=some ns:=by
 unfold af Dy;simp?[bL,zA];rw[yO h]
def rowsOf:Γ D->Δ (Γ (Γ Int))
 | []=>some []
 | d::r=>(Dy d).bind λns=>(rowsOf r).map (ns::·)
def lP:∀ {ds:Γ D}{Wr:Γ (Γ Int)},rowsOf ds=some Wr->ds=Wr.map af/\∀ns∈Wr,ns≠[]
 | [],Wr,h=>by cases h;exact⟨rfl,λ_ z=>by cases z⟩
 | d::r,Wr,h=>by
  let⟨ns,h1,h⟩:=bs h;let⟨rest,h2,rfl⟩:=ae h;let⟨e,hn⟩:=BK h1;let⟨e2,hn2⟩:=lP h2;refine⟨by rw[e,e2];rfl,λm hm=>?_⟩;rcases List.mem_cons.mp hm with q|q
  ·subst q;exact hn
  ·exact hn2 m q
def mF:∀ {Wr:Γ (Γ Int)},(∀ns∈Wr,ns≠[])->rowsOf (Wr.map af)=some Wr
 | [],_=>rfl
 | ns::r,h=>by
  simp?[zI,rowsOf,FM (h ns zE),zA,mF λm hm=>h m (zC _ hm),zB]
structure xc(h:Heap)(v:Value)(ns:List Int):Prop where
 ex:∃ (a:Ψ) (o:Obj) (its:Array Θ) (n:Nat),v=.ref a/\h.get? a=some o/\o.cls=.type "tuple"/\o.data=.seq its n/\IntsAre its.toList ns
def xc.keep(r:xc h v ns)(k:∀b o,h.get? b=some o->h'.get? b=some o):xc h' v ns:=let ⟨a,o,its,n,e,e1,e2,e3,e4⟩:=r.ex;⟨a,o,its,n,e,k _ _ e1,e2,e3,e4⟩
def tR:∀ {vs:Γ Θ}{Wr:Γ (Γ Int)},Paired (xc h) vs Wr->(∀ns∈Wr,ns≠[])->∃fs:Γ Θ,W.KatTups h vs fs/\fs.length=vs.length/\∀f∈fs,∃n t,f=Value.int n t
 | _,_,.nil,_=>⟨[],trivial,rfl,λ_ z=>by cases z⟩
 | _,_,.cons (a:=v) (b:=ns) r p,hn=>by
  let⟨fs,h1,h2,h3⟩:=tR p λm hm=>hn m (zC _ hm);let⟨a,o,its,n,rfl,e1,e2,e3,e4⟩:=r.ex;cases hits:its.toList with
  | nil =>
   rw[hits] at e4;cases e4;exact absurd rfl (hn [] zE)
  | cons f rest =>
   rw[hits] at e4;cases e4 with
   | cons m t e5 =>
    have h0:its[0]?=some (.int m t):=by
     have:its.toList[0]?=some (Value.int m t):=by rw[hits];rfl
     sleep 14
    exact⟨.int m t::fs,W.KatTups.cons e1 e2 e3 h0 h1,by simp[h2],λg hg=>by
     rcases List.mem_cons.mp hg with q|q
     ·exact⟨m,t,q⟩
     ·exact h3 g q⟩
def gD:∀ {l:Γ α}{m:Γ β}{i:Nat},Paired R l m->i < l.length->R (l.getD i d) (m.getD i d')
 | _,_,i,.nil,h=>by simp at h
 | _,_,0,.cons r _,_=>r
 | _,_,i+1,.cons _ p,h=>by simpa using gD (i:=i) (d:=d) (d':=d') p (by simpa using h)
def AQ(hl:Yo.ZO s.heap l vs)(hp:Paired (xc s.heap) vs Wr)(hn:∀ns∈Wr,ns≠[])(X6:vs.length < 64)
  (h:∀ (h':ι) (D:Ψ) (c:Nat),(∀b o,s.heap.get? b=some o->h'.get? b=some o)->s.heap.objs.size<=D->h'.get? D=some (seqObj "list" (Yo.WA (λi=>rk Wr (Wr.getD i [])) vs).toArray c)->Q (.ref D) { s with heap:=h' }) :
  wpAny (model prog w) A (call (.builtin "sorted") [.ref l]) Q E s:=by
 refine Yo.ZP hl X6 (λi=>rk Wr (Wr.getD i [])) (tuples' true) (λh2 h' kp Q' q=>?_) (λh2 h' kp i j C hi hj q=>?_) h
 ·have ZQ:Paired (xc h') vs Wr:=Paired.abw hp λ_ _ r=>r.keep kp;let⟨fs,t,hlen,hf⟩:=tR ZQ hn;refine W.kat_kind (s:={ s with heap:=h' }) (T:=.type "int") t (by lia) (λv hv=>?_) (by decide) q;let⟨n,t,rfl⟩:=hf v hv;exact W.Looks.of_pure rfl
 ·have ri:=(gD (d:=Value.none) (d':=[]) hp hi).keep kp;have rj:=(gD (d:=Value.none) (d':=[]) hp hj).keep kp;have hlen:=hp.length;let⟨a,o,its,n,ea,e1,e2,e3,e4⟩:=ri.ex;let⟨b,o',its',n',eb,f1,f2,f3,f4⟩:=rj.ex;unfold W.kas_ask;rw[ea,eb];have ZR:Wr.getD i []∈Wr:=by
   rw[zG,zK (by lia)];exact qB _
  have q':C (lexLt (Wr.getD i []) (Wr.getD j [])) { s with heap:=h' }:=by
   rw[DM ZR];exact q
  refine W.kat_lt (s:={ s with heap:=h' }) e1 e3 f1 f3 ?_;have:=sJ (prog:=prog) (w:=w) (A:=A.in1.in1) (s:={ s with heap:=h' }) 0 e4 f4 q';have l1:its.size=(Wr.getD i []).length:=by have:=vY e4;sleep 14
  have l2:its'.size=(Wr.getD j []).length:=by have:=vY f4;sleep 14
  rw[l1,l2];exact this
def rg(z:Nat->Int)(l:Γ α)(d:α):Γ α:=if l.length < 2 then l else (SP.run (SP.er z) (W.kas_sort l.length)).toList.map λi=>l.getD i d
def lH(l:Γ α)(d:α):(List.range l.length).map (λi=>l.getD i d)=l:=by
 apply jI
 ·simp
 ·intro i h1 h2;simp[h2]
def gh(z:Nat->Int)(l:Γ α)(d:α):(rg z l d).Perm l:=by
 unfold rg;split
 ·exact List.Perm.refl _
 ·rename_i h;have:=((SP.gZ (z:=z) (n:=l.length) (by lia)).1).map λi=>l.getD i d;rw[lH] at this;exact this
def Lf(Wr:Γ (Γ Int)):rg (λi=>rk Wr (Wr.getD i [])) Wr []=ua Wr:=by
 refine IM (gh _ _ _) ?_;unfold rg;split
 ·rename_i h
  match Wr,h with
  | [],_=>exact List.Pairwise.nil
  | [a],_=>exact vI _ _
 ·rename_i h;let⟨hp,hs⟩:=SP.gZ (z:=λi=>rk Wr (Wr.getD i [])) (n:=Wr.length) (by lia);rw[jF] at hs ⊢;refine hs.imp_of_mem λ{i j} hi hj Wo=>?_;have Yh:j < Wr.length:=by have:=hp.mem_iff.mp hj;sleep 14
  unfold lexLe;rw[DM (l:=Wr) (a:=Wr.getD j []) (by rw[zG,zK Yh];exact qB _)];simp?[yQ,xC];lia
def tq{K:Φ}(z:Nat->Int)(r:aq K HF ds vs):aq K HF (rg z ds .none) (rg z vs .Wh):=by
 unfold rg;rw[r.length];split
 ·exact r
 ·rename_i h;let⟨hp,_⟩:=SP.gZ (z:=z) (n:=ds.length) (by lia);have key:∀l:Γ Nat,(∀i∈l,i < ds.length)->aq K HF (l.map λi=>ds.getD i .none) (l.map λi=>vs.getD i .Wh):=λl=>by
   induction l with
   | nil=>exactλ_=>aq.nil
   | cons i l ih =>
    intro hl;have hi:=hl i zE;let⟨v,e1,e2⟩:=r.getD (zK hi);refine aq.cons ?_ (ih λj hj=>hl j (zC _ hj));dsimp only;rw[zG,zG,e1,zK hi];exact e2
  exact key _ λi hi=>by have:=hp.mem_iff.mp hi;sleep 14
def rF(z:Nat->Int)(r:aH vs us):aH (rg z vs .Wh) (Yo.WA z us):=by
 unfold rg Yo.WA;rw[r.length];split
 ·exact r
 ·rename_i h;let⟨hp,_⟩:=SP.gZ (z:=z) (n:=us.length) (by lia);have key:∀l:Γ Nat,(∀i∈l,i < vs.length)->aH (l.map λi=>vs.getD i .Wh) (l.map λi=>us.getD i Value.none):=λl=>by
   induction l with
   | nil=>exactλ_=>.nil
   | cons i l ih =>
    intro hl;have hi:=hl i zE;let⟨v,e1,e2⟩:=r.get (zK hi);refine .cons ?_ (ih λj hj=>hl j (zC _ hj));dsimp only;rw[zG,zG,e1,zK hi];exact e2
  exact key _ λi hi=>by have:=hp.mem_iff.mp hi;rw[r.length];sleep 14
def Lz(z:Nat->Int)(Wr:Γ (Γ Int)):rg z (Wr.map af) .none=(rg z Wr []).map af:=by
 unfold rg;rw[zD];split
 ·rfl
 ·rename_i h;rw[zM];let⟨hp,_⟩:=SP.gZ (z:=z) (n:=Wr.length) (by lia);refine yI λi hi=>?_;have Xc:i < Wr.length:=by have:=hp.mem_iff.mp hi;sleep 14
  simp[Xc]
def qy(I:Inv X pins σ H s)(sm:aD HF H):∀ {Wr:Γ (Γ Int)}{vs:Γ V}{us:Γ Θ},aq X.K HF (Wr.map af) vs->aH vs us->Paired (xc s.heap) us Wr
 | [],_,_,h,r=>by rw[h.nil_inv] at r;cases r;exact .nil
 | ns::Wr,_,_,h,r=>by
  let⟨v,vr,rfl,a,b⟩:=h.cons_inv;cases r with
  | cons r rr =>
   refine .cons ?_ (qy I sm b rr);unfold af at a;simp?[Rep] at a;let⟨p,ws,rfl,hs,rw'⟩:=a;cases r;let⟨its,rv,⟨o,ho,hc,n,hd⟩,_⟩:=I.tuple (aE sm hs);have:ws=ns.map V.int:=by
    have key:∀ {ns:Γ Int}{ws:Γ V},aq X.K HF (ns.map PyData.int) ws->ws=ns.map V.int:=λ{ns}=>by
     induction ns with
     | nil=>exactλh=>h.nil_inv
     | cons n ns ih =>
      intro ws h;let⟨v,r,rfl,a,b⟩:=h.cons_inv;simp?[Rep] at a;rw[a,ih b];rfl
    exact key rw'
   subst this;exact⟨p,o,its.toArray,n,rfl,ho,hc,hd,intsAre_of rv⟩
def oQ:gg X (.builtin "sorted") (λxs H Q=>∃ (HF:Hp) (a:Ψ) (vs:Γ V) (Wr:Γ (Γ Int)),xs=[.ref a]/\aD HF H/\(gN X.K HF a vs\/gQ X.K HF a vs)/\aq X.K HF (Wr.map af) vs/\(∀ns∈Wr,ns≠[])/\Wr.length < 64 /\
  ∀ (Dn:Ψ) (us:Γ V),H Dn=none->aq X.K HF ((ua Wr).map af) us->Q (.ref Dn) (upd H Dn (.lst us))):=by
 sleep 20;let⟨HF,a,vs,Wr,rfl,sm,hq,rr,hn,X6,q⟩:=h;sleep 46;cases rx;obtain⟨its,rv,pl,hz⟩:∃its:Γ Θ,aH vs its/\Yo.ZO s.heap a its/\vs.length<=sizeLine:=by
  rcases hq with hq|hq
  ·let⟨its,rv,pl,hz⟩:=I.list (sm.seq hq);let⟨o,ho,hc,n,hd⟩:=pl.isList;exact⟨its,rv,⟨o,"list",n,.inl rfl,ho,hc,hd⟩,hz⟩
  ·let⟨its,rv,pl,hz⟩:=I.tuple (aE sm hq);let⟨o,ho,hc,n,hd⟩:=(show s.heap.IsTuple a its.toArray from pl)
   exact⟨its,rv,⟨o,"tuple",n,.inr rfl,ho,hc,hd⟩,hz⟩
 have hl1:=rr.length;rw[zD] at hl1;refine AQ pl (qy I sm rr rv) hn (by have:=rv.length;lia) λh' Dn c kp hD e=>?_;have hv:=rF (λi=>rk Wr (Wr.getD i [])) rv;have hr:=tq (λi=>rk Wr (Wr.getD i [])) rr;rw[Lz,Lf] at hr;refine⟨.ref Dn,_,I.laid (t':=s.toks) (o:=.lst (rg (λi=>rk Wr (Wr.getD i [])) vs .Wh)) kp hD ⟨?_,_,c,hv,e⟩,rfl,q Dn _ (I.Wn.fresh hD) hr⟩;rw[(gh _ _ _).length_eq];exact hz
def gU:Γ D->Δ (Γ D):=λds=>(oneOf ds).bind λd=>match d with
 | .list es=>(rowsOf es).bind λWr=>if Wr.length < 64 then some ((ua Wr).map af) else none
 | .tuple es=>(rowsOf es).bind λWr=>if Wr.length < 64 then some ((ua Wr).map af) else none
 | _=>none
def F2(B:rf X "sorted" (.builtin "sorted"))(ha:DA X [e] fs)(he:starEach [e] X.env=(false,eval e X.env)::starEach [] X.env:=by rfl):DF X (.Call (.Name "sorted" p) [e] [] pos) (uu gU fs) :=
 JF oQ (by
  sleep 41;let⟨x,hx,hg⟩:=bs hg;rw[gG hx] at r;have key:∀ (b:θ) (es:Γ D),aq X.K HF [if b then .tuple es else .list es] vs->((rowsOf es).bind λWr=>if Wr.length < 64 then some ((ua Wr).map af) else none)=some d->(∃ (HF:Hp) (a:Ψ) (us:Γ V) (Wr:Γ (Γ Int)),vs=[.ref a]/\aD HF H/\(gN X.K HF a us\/gQ X.K HF a us)/\aq X.K HF (Wr.map af) us/\(∀ns∈Wr,ns≠[])/\Wr.length < 64/\∀ (Dn:Ψ) (ws:Γ V),H Dn=none->aq X.K HF ((ua Wr).map af) ws->Q (.ref Dn) (upd H Dn (.lst ws))):=λb es r hg=>by
   let⟨Wr,hb,hg⟩:=bs hg;split at hg
   ·rename_i X6;cases hg;let⟨v,r',rfl,a,e0⟩:=r.cons_inv;rw[e0.nil_inv];let⟨e1,e2⟩:=lP hb;obtain⟨p,us,rfl,h,rr⟩:∃p us,v=.ref p/\(gN X.K HF p us\/gQ X.K HF p us)/\aq X.K HF es us:=by
     cases b
     ·simp?[yP,qQ,Rep] at a;let⟨p,us,rfl,h,rr⟩:=a;exact⟨p,us,rfl,.inl h,rr⟩
     ·simp?[xI,Rep] at a;let⟨p,us,rfl,h,rr⟩:=a;exact⟨p,us,rfl,.inr h,rr⟩
    rw[e1] at rr;exact⟨HF,p,us,Wr,rfl,sm,h,rr,e2,X6,λDn ws hD hr=>q Dn ws _ HF (.own sm hD) hD (sm.free hD) aw hr⟩
   ·cases hg
  cases x<;>try cases hg
  ·exact key false _ r hg
  ·exact key true _ r hg) B ha (by decide) (by decide) he rfl
end Dl
namespace En
open PySem PyProof.Rows
open AutoSeq1 (wpAny_loadPart')
def Yq(hj:s.heap.IsTupleIter j t k)(ht:s.heap.IsTuple t its)(hv:its[k]?=some v)
  (hQ:∀g,g.IsTupleIter j t (k+1)->Heap.SameBut j s.heap g->Q v { s with heap:=g }):wpAny (model prog w) A (Builtin.SmallTypes.nextOf (.ref j)) Q E s:=by
 let⟨oj,gj,cj,dj⟩:=id hj;let⟨ot,gt,_,nt,dt⟩:=ht;unfold Builtin.SmallTypes.nextOf;sleep 38;refine zV (m:=field (.ref j) 0) (qU gj dj (x:=.ref t) rfl ?_);show wpAny _ _ (if (Value.ref t == Value.none)=true then _ else _) _ _ s;rw[yO (show ¬ ((Value.ref t == Value.none)=true) by exact xA)];refine zV (m:=field (.ref j) 1) (qU gj dj (x:=.int k 0) rfl ?_);refine zV (m:=seqItems? (.ref t)) (kJ gt dt ?_);simp?[yG,hv];refine zV (wpAny_setField gj dj (by simp) (zW ⟨v,rfl,zW (hQ _ ⟨_,Heap.get?_update_self _ gj (Obj.isFreed_of_fields (Obj.data_mapFields dj _)),(Obj.cls_mapFields ..).trans cj,?_⟩ (Heap.SameBut.update ..))⟩));rw[Obj.data_mapFields dj];simp[rawInt]
def YW{Q:Θ->Ξ->Prop}(hh:A.handled=none)(hj:s.heap.IsTupleIter j t k)(ht:s.heap.IsTuple t its)(hv:its[k]?=none)
  (hE:∀g x,Heap.ExtBut j s.heap g->(∃o,g.get? x=some o/\o.cls=.type "StopIteration")->E (.ref x) { s with heap:=g }):wpAny (model prog w) A (Builtin.SmallTypes.nextOf (.ref j)) Q E s:=by
 let⟨oj,gj,cj,dj⟩:=id hj;let⟨ot,gt,_,nt,dt⟩:=ht;unfold Builtin.SmallTypes.nextOf;sleep 38;refine zV (m:=field (.ref j) 0) (qU gj dj (x:=.ref t) rfl ?_);show wpAny _ _ (if (Value.ref t == Value.none)=true then _ else _) _ _ s;rw[yO (show ¬ ((Value.ref t == Value.none)=true) by exact xA)];refine zV (m:=field (.ref j) 1) (qU gj dj (x:=.int k 0) rfl ?_);refine zV (m:=seqItems? (.ref t)) (kJ gt dt ?_);simp?[yG,hv];refine zV (wF (zV (wpAny_setField gj dj (by simp) (zV (m:=newExc (.type "StopIteration") []) ?_))));simp?[newExc,newTuple];refine zV (qM (zV (m:=firstArgMember _ _) (wpAny_of_eq (a:=Value.none) (by first|rfl|(simp?[firstArgMember];rfl)) ?_)) (by size_fits));refine qM ?_ (by size_fits);simp?[raiseNew];refine zV (wpAny_handled ?_)
 first|rw[show A.in1.handled=none from hh]|rw[hh]
 exact zV (zW (wpAny_throw (hE _ _ (((Heap.SameBut.update ..).extBut.push _).push _) ⟨_,zX _ rfl,rfl⟩)))
def X7(t:Ψ)(its:Array Θ)(n:Nat)(dd:Δ Ψ)(sl:Array (Δ Θ)) :
  Meets (Builtin.«enumerate.__new__» ⟨[.type "enumerate",.ref t],[]⟩) (λ_ R s=>s.heap.get? t=some { cls:=.type "tuple",dict:=dd,data:=.seq its n,slots:=sl } /\
   R (.ok (.ret (.ref (s.heap.push { cls:=.type "tuple_iterator",data:=.fields #[.ref t,.int 0 0] }).objs.size)))
    { s with heap:=(s.heap.push { cls:=.type "tuple_iterator",data:=.fields #[.ref t,.int 0 0] }).push { cls:=.type "enumerate",data:=.fields #[.none,.bool false,.ref s.heap.objs.size,rawInt 0,.none,.none] } }) :=
 .of_wp λprog w A R s h=>by
  let⟨hp,g,d,tk,os⟩:=s;let⟨hl,h⟩:=h;have Yr:=sub_enumerate;have hL:Heap.IsTuple (Shared.heap ⟨hp,g,d,tk,os⟩) t its:=⟨_,hl,rfl,n,rfl⟩
  sleep 27
  refine wpAny_stack_any λst=>zW ?_;split
  ·rename_i c _ _ _ _ _;cases (c == Value.type "enumerate")
   ·wp_walk using wpAny_loadPart' hl,xS hL
    sleep 56
   ·wp_walk using wpAny_loadPart' hl,xS hL
    sleep 56
  ·wp_walk using wpAny_loadPart' hl,xS hL
   sleep 56
def Ys(ht:s.heap.IsTuple t its)
  (h:∀h',IsEnum h' (s.heap.objs.size+1) s.heap.objs.size 0 .none->h'.IsTupleIter s.heap.objs.size t 0->h'.objs.size=s.heap.objs.size+2->(∀b o,s.heap.get? b=some o->h'.get? b=some o)->Q (.ref (s.heap.objs.size+1)) { s with heap:=h' }) :
  wpAny (model prog w) A (call (.type "enumerate") [.ref t]) Q E s:=by
 let⟨⟨c,dct,dt,sl⟩,hl,hc,n,hd⟩:=ht;simp only at hc hd;subst hc hd;refine callType_new F.called_enumerate (by decide) (F.typeCall_enumerate_1 _) (F.newCall_enumerate_1 _) (λobj=>F.args_object_init_2 obj _) F.entry_enumerate_new (X7 t its n dct sl) ⟨hl,?_⟩;have hz:(s.heap.push { cls:=.type "tuple_iterator",data:=.fields #[.ref t,.int 0 0] }).objs.size=s.heap.objs.size+1:=by rw[xK]
 have he:=zX (s.heap.push { cls:=.type "tuple_iterator",data:=.fields #[.ref t,.int 0 0] }) (o:={ cls:=.type "enumerate",data:=.fields #[.none,.bool false,.ref s.heap.objs.size,rawInt 0,.none,.none] }) rfl;show _/\_;rw[hz] at he ⊢;refine⟨⟨_,he,rfl⟩,h _ he ⟨_,zU _ (zX _ rfl),rfl,rfl⟩ ?_ λb o x=>zU _ (zU _ x)⟩;show (Heap.push _ _).objs.size=_;rw[xK,hz]
end En
namespace Dl
open PySem L2 PySem.Spec PyProof.Rows
section
variable {ch:Γ Ψ}
def AG(I:Inv X pins σ H s)(XW:∀b∈ch,cL X pins H b)(k:∀b o,b∉ch->s.heap.get? b=some o->h'.get? b=some o){T:Ψ}{vals:Γ Θ}{xs:Γ V}(hT:s.heap.objs.size<=T)(ht:rG h' T vals.toArray)
  (rv:aH xs vals) (hz:xs.length<=sizeLine):Inv X pins σ (upd H T (.tup xs)) { s with heap:=h',toks:=t' }:=by
 have nT:H T=none:=I.Wn.fresh hT;have ne:∀b o,s.heap.get? b=some o->b≠T:=λb o e=>yS (zP (zY e) hT);have ne2:∀b o,H b=some o->b≠T:=λb o e=>aG e nT;have YN:∀b o,H b=some o->b∉ch:=λb o e z=>by rw[(XW b z).1] at e;cases e
 refine I.step (g':=s.gens) (d':=s.drawn) (ch:=ch) (λb hb=>?_) (λb o _ _ hc e _=>k b o hc e) (λb o _ _ hc e _=>⟨o.slots,k b o hc e⟩) (λb o _ e n=>by rw[ak (ne b o e)];exact n)
  (λb o hc e=>⟨o,k b o hc e⟩) (λb ys e=>by rw[ak (ne2 b _ e)];exact e) (λb o u e=>by rw[ak (ne2 b _ e)];exact e) (.kept (λb u ⟨q,z⟩ e=>k b u (YN b _ z) e) λb u e _=>by rw[ak (ne2 b _ e)];exact e) (λm hm=>?_) (λb u e=>?_) I.bare
 ·let⟨f0,f1,f2,f3,f4,f5⟩:=XW b hb;exact⟨f3,f1,f4,f5⟩
 ·let⟨o,es,ep,ho,r⟩:=hm;exact⟨o,es,ep,k _ o (λz=>(XW _ z).2.1 rfl) ho,r⟩
 ·by_cases hb:b=T
  ·subst hb;rw[aw] at e;cases e;exact⟨hz,vals,rv,ht⟩
  ·rw[ak hb] at e;refine (I.Wn b u e).W0 (λc v hc q=>k c v ?_ q) (λ_ q=>?_) λc v q _=>?_
   ·rcases hc with z|z
    ·rw[z];exact YN b u e
    ·exact YN c _ z
   all_goals first
    | (rw[ak (ne2 _ _ q)];exact q)
    | exact q
def Tg(I:Inv X pins σ H s)(hf:cL X pins H b)(h:X.K.lookup a=some o):a≠b:=by
 rintro rfl;have hb:=I.ok.mod.Z6 a o h;rcases hf.2.2.2.1 with z|z
 ·exact I.ok.YM a o hb z
 ·exact absurd (zP (zY (I.ok.bs a o hb).1) z) (qF _)
def Pm(I:Inv X pins σ H s)(hf:cL X pins H b)(h:gN X.K H a xs):a≠b:=by
 rcases h with (h|⟨o,h⟩)|⟨o,its,n,h,_⟩
 ·exact aG h hf.1
 ·exact aG h hf.1
 ·exact Tg I hf h
def NZ(I:Inv X pins σ H s)(hf:cL X pins H b)(h:gQ X.K H a xs):a≠b:=by
 rcases h with (h|⟨o,h⟩)|⟨o,its,n,h,_⟩
 ·exact aG h hf.1
 ·exact aG h hf.1
 ·exact Tg I hf h
end
def UN(sq:Hp->Γ V->Prop):It:=⟨λi H=>∃xs x,sq H xs/\xs[i]?=some x,λi H v H'=>∃T y,v=.ref T/\H T=none/\H'=upd H T (.tup [.int (i:Nat),y])/\∀xs,sq H xs->xs[i]?=some y,λi H=>∃xs,sq H xs/\xs.length<=i⟩
def bF(k:Nat):Γ D->Γ D
 | []=>[]
 | d::ds=>.tuple [.int (k:Nat),d]::bF (k+1) ds
def v5:∀ {ds:Γ D}{k i:Nat}{d:D},(bF k ds)[i]?=some d->∃x,ds[i]?=some x/\d=.tuple [.int ((k+i:Nat):Int),x]
 | [],k,i,d,h=>by simp[bF] at h
 | x::ds,k,0,d,h=>by simp[bF] at h;exact⟨x,rfl,h.symm⟩
 | x::ds,k,i+1,d,h=>by
  simp?[bF,yZ] at h;let⟨y,h1,h2⟩:=v5 h;refine⟨y,by simpa using h1,?_⟩;rw[h2,show k+1+i=k+(i+1) by lia]
def uN:∀ (ds:Γ D) (k:Nat),(bF k ds).length=ds.length
 | [],k=>rfl
 | x::ds,k=>by simp[bF,uN ds (k+1)]
def E1{K:Φ}(h:sq HF vs)(mo:∀H H',aD H H'->sq H vs->sq H' vs)(r:aq K HF ds vs):uF K (UN sq) HF (bF 0 ds) where
 go:=λi d WV Wv e s1 s2=>by
  let⟨x,hx,rfl⟩:=v5 e;rw[jE];let⟨v,hv,rv⟩:=r.getD hx;have q:=mo _ _ s2 (mo _ _ s1 h);refine⟨⟨vs,v,q,hv⟩,λy Yl ⟨T,z,e1,hT,e2,hy⟩=>?_⟩;have:=hy vs q;rw[hv] at this;cases this;subst e1 e2;exact⟨_,.new s2 hT,eE (s2.free hT) (aq.cons (by simp[Rep]) (aq.cons (rv.mono s1) aq.nil))⟩
 stop:=λWV Wv s1 s2=>⟨vs,mo _ _ s2 (mo _ _ s1 h),by rw[uN,r.length];exact yN _⟩
def Uw(sq1 sq2:Hp->Γ V->Prop):It:=⟨λi H=>∃xs ys x y,sq1 H xs/\sq2 H ys/\xs[i]?=some x/\ys[i]?=some y,
 λi H v H'=>∃T x y,v=.ref T/\H T=none/\H'=upd H T (.tup [x,y])/\(∀xs,sq1 H xs->xs[i]?=some x)/\∀ys,sq2 H ys->ys[i]?=some y,
 λi H=>∃xs ys,sq1 H xs/\sq2 H ys/\(xs.length<=i\/ys.length<=i)⟩
section
variable {ch:Γ Ψ}
def E7(I:Inv X pins σ H s)(XW:∀b∈ch,cL X pins H b)(k:∀b o,b∉ch->s.heap.get? b=some o->h'.get? b=some o):Inv X pins σ H { s with heap:=h',toks:=t' }:=by
 have YN:∀b o,H b=some o->b∉ch:=λb o e z=>by rw[(XW b z).1] at e;cases e
 refine I.step (g':=s.gens) (d':=s.drawn) (ch:=ch) (λb hb=>?_) (λb o _ _ hc e _=>k b o hc e) (λb o _ _ hc e _=>⟨o.slots,k b o hc e⟩) (λb o _ e n=>n)
  (λb o hc e=>⟨o,k b o hc e⟩) (λb ys e=>e) (λb o u e=>e) (.kept (λb u ⟨q,z⟩ e=>k b u (YN b _ z) e) λb u e _=>e) (λm hm=>?_) (λb u e=>?_) I.bare
 ·let⟨f0,f1,f2,f3,f4,f5⟩:=XW b hb;exact⟨f3,f1,f4,f5⟩
 ·let⟨o,es,ep,ho,r⟩:=hm;exact⟨o,es,ep,k _ o (λz=>(XW _ z).2.1 rfl) ho,r⟩
 ·refine (I.Wn b u e).W0 (λc v hc q=>k c v ?_ q) (λ_ q=>q) λc v q _=>q;rcases hc with z|z
  ·rw[z];exact YN b u e
  ·exact YN c _ z
end
structure VQ(z TI TO i1 i2:Addr):Prop where
 a1:TI≠z
 a2:TO≠z
 a3:i1≠z
 a4:i2≠z
 a5:TI≠TO
 a6:TI≠i1
 a7:TI≠i2
 a8:TO≠i1
 a9:TO≠i2
 a0:i1≠i2
def iI:Γ D->Γ D->Γ D
 | x::xs,y::ys=>.tuple [x,y]::iI xs ys
 | _,_=>[]
def rY:∀ {xs ys:Γ D}{i:Nat}{d:D},(iI xs ys)[i]?=some d->∃x y,xs[i]?=some x/\ys[i]?=some y/\d=.tuple [x,y]
 | [],_,i,d,h=>by simp[iI] at h
 | _::_,[],i,d,h=>by simp[iI] at h
 | x::xs,y::ys,0,d,h=>by simp[iI] at h;exact⟨x,y,rfl,rfl,h.symm⟩
 | x::xs,y::ys,i+1,d,h=>by
  simp?[iI,yZ] at h;let⟨a,b,h1,h2,h3⟩:=rY h;exact⟨a,b,by simpa using h1,by simpa using h2,h3⟩
def ow:∀ (xs ys:Γ D),(iI xs ys).length=min xs.length ys.length
 | [],_=>by simp[iI]
 | _::_,[]=>by simp[iI]
 | x::xs,y::ys=>by simp[iI,ow xs ys]
def Ha{K:Φ}(h1:sq1 HF vs)(mo1:∀H H',aD H H'->sq1 H vs->sq1 H' vs)(h2:sq2 HF us)(mo2:∀H H',aD H H'->sq2 H us->sq2 H' us)(r1:aq K HF xs vs)(r2:aq K HF ys us) :
  uF K (Uw sq1 sq2) HF (iI xs ys) where
 go:=λi d WV Wv e s1 s2=>by
  let⟨x,y,hx,hy,rfl⟩:=rY e;let⟨v,hv,rv⟩:=r1.getD hx;let⟨u,hu,ru⟩:=r2.getD hy;have q1:=mo1 _ _ s2 (mo1 _ _ s1 h1);have q2:=mo2 _ _ s2 (mo2 _ _ s1 h2);refine⟨⟨vs,us,v,u,q1,q2,hv,hu⟩,λw Yl z=>?_⟩;let⟨T,a,b,e1,hT,e2,ha,hb⟩:=z;have ea:=ha vs q1;have eb:=hb us q2;rw[hv] at ea;rw[hu] at eb;cases ea;cases eb;subst e1 e2;exact⟨_,.new s2 hT,eE (s2.free hT) (aq.cons (rv.mono s1) (aq.cons (ru.mono s1) aq.nil))⟩
 stop:=λWV Wv s1 s2=>⟨vs,us,mo1 _ _ s2 (mo1 _ _ s1 h1),mo2 _ _ s2 (mo2 _ _ s1 h2),by rw[ow,r1.length,r2.length];lia⟩
def cut(xs:Γ α)(lo hi:Δ Int):Γ α:=(xs.drop (HT.dF xs.length 0 lo)).take (HT.dF xs.length xs.length hi - HT.dF xs.length 0 lo)
def Ld(xs:Γ α)(lo hi:Δ Int):(cut xs lo hi).length<=xs.length:=by
 unfold cut;rw[jW,qJ];lia
def sf{K:Φ}(r:aq K H ds vs)(lo hi:Δ Int):aq K H (cut ds lo hi) (cut vs lo hi):=by
 unfold cut;rw[r.length];exact (r.drop _).take _
section
def EU{vl:Θ}{lo:Δ Int}(ht:IsTup s.heap t its)(hs:s.heap.IsSliceOf sl vl vu .none)(pl:IsPart vl lo)(pu:IsPart vu hi)
  (hw:HT.dF its.size 0 lo=0/\HT.dF its.size its.size hi=its.size) (h:Q (.ref t) s):wpAny (model prog w) A (getItem (.ref t) (.ref sl)) Q E s:=by
 let⟨os,hos,hcs,hds⟩:=id hs;have hTs:s.TypeIs (.ref sl) "slice":=⟨os,hos,hcs⟩
 unfold getItem
 try with_reducible refine xY ?_
 first|refine zV (zW ?_)|skip
 refine zV (wpAny_sequenceKey ht.typeIs (by decide) (zV (qD (name:=Str.ofString "__getitem__") ht.typeIs jG (qX jG ht.typeIs entry_tuple_getitem ?_ (args_tuple_getitem _ _)))));refine zV (m:=Builtin.Tuple.tupleItemsOf (.ref t)) (tupleItemsOf_ ht (zV (wK hTs ?_)));rw[yM (by decide)];refine zV (HT.iP hs pl pu ?_);show wpAny _ _ (if (((HT.dF its.size 0 lo:Nat):Int) == 0&&(1:Int) == 1&&(HT.dF its.size its.size hi - HT.dF its.size 0 lo) == its.size)=true then _ else _) _ _ s;rw[hw.1,hw.2,yM (by simp)];unfold Builtin.Tuple.tupleIsExact;refine zV (zV (wK ht.typeIs (zW ?_)));rw[yM (by decide)]
 first
  | exact zV (wF (zW ⟨_,rfl,zW h⟩))
  | exact zV (wF (zV (zW (zW ⟨_,rfl,zW h⟩))))
def UA(K:Φ):V->Δ Int->Δ Int->Hp->VK->Prop:=λx lo hi H Q=>∃a xs,x=.ref a/\gQ K H a xs/\(cut xs lo hi=xs->Q (.ref a) H)/\∀p,H p=none->Q (.ref p) (upd H p (.tup (cut xs lo hi)))
def QQ:Nl X (UA X.K):=by
 intro pins s σ H x v vl vu lo hi sl Q I rx hs pl pu h;let⟨a,xs,rfl,hx,q1,q2⟩:=h;by_cases hw:HT.dF xs.length 0 lo=0/\HT.dF xs.length xs.length hi=xs.length
 ·cases rx;let⟨its,r,ht,hz⟩:=I.tuple hx;have hlen:its.toArray.size=xs.length:=by rw[zH];exact r.length.symm
  refine⟨"tuple",_,PyProof.Rows.slot_tuple_getitem.lookup,ht.typeIs,EU ht hs pl pu (by rw[hlen];exact hw) ⟨.ref a,H,I,rfl,q1 ?_⟩⟩;unfold cut;rw[hw.1,hw.2,List.drop_zero,Nat.sub_zero,List.take_length]
 ·exact O2 pins s σ H (.ref a) v vl vu lo hi sl Q I rx hs pl pu ⟨a,xs,rfl,hx,hw,q2⟩
def Uz(K:Φ):V->Δ Int->Δ Int->Hp->VK->Prop:=λx lo hi H Q=>∃a xs,x=.ref a/\gN K H a xs/\∀p,H p=none->Q (.ref p) (upd H p (.lst (cut xs lo hi)))
def BE(lo hi:Δ Int)(n:Nat):sliceBounds lo hi none n=(((HT.dF n 0 lo:Nat):Int),((HT.dF n n hi:Nat):Int),1):=by
 have h1:(1:Int) > 0:=by lia
 refine Prod.ext ?_ (Prod.ext ?_ rfl)
 ·cases lo with
  | none=>simp[sliceBounds,HT.dF]
  | some x =>
   by_cases h:x < 0
   ·simp?[sliceBounds,HT.dF,kN,h1,xI,yM h];lia
   ·simp?[sliceBounds,HT.dF,kN,h1,xI,yO h];lia
 ·cases hi with
  | none=>simp[sliceBounds,HT.dF]
  | some x =>
   by_cases h:x < 0
   ·simp?[sliceBounds,HT.dF,kN,h1,xI,yM h];lia
   ·simp?[sliceBounds,HT.dF,kN,h1,xI,yO h];lia
def KD:Nl X (Uz X.K):=by
 intro pins s σ H x v vl vu lo hi sl Q I rx hs pl pu h;let⟨a,xs,rfl,hx,q⟩:=h;cases rx;let⟨its,r,p,hz⟩:=I.list hx;have hlen:=r.length;refine⟨"list",_,slot_list_getitem.lookup,p.isList.typeIs,wpAny_getItem_list_slice p.isList hs pl pu .none (by simp) ?_ (by rw[zH];lia)⟩;rw[W.kmk_pick_nat its.toArray (BE lo hi its.toArray.size)];have e:((its.toArray.toList.drop (HT.dF its.toArray.size 0 lo)).take (HT.dF its.toArray.size its.toArray.size hi - HT.dF its.toArray.size 0 lo))=cut its lo hi:=by unfold cut;simp
 rw[e];have rc:aH (cut xs lo hi) (cut its lo hi):=by unfold cut;rw[hlen];exact (r.drop _).take _
 exact⟨.ref s.heap.objs.size,_,I.aaJ (t':=s.toks) rc (yD (Ld xs lo hi) hz),rfl,q _ I.fresh⟩
def V0(K:Φ)(f:Env->Δ (Δ Int)):TO:=λσ H Q=>∃HF ρ o,aD HF H/\cw K HF ρ σ/\f ρ=some o/\∀H' Wi,bh HF H Wi H'->Q o H'
def DO(X:Cx)(e:Δ γ)(f:Env->Δ (Δ Int)):Prop:=PO X e (V0 X.K f)
def nU:Env->Δ (Δ Int):=λ_=>some none
def gI:D->Δ Int|.int i=>some i|_=>none
def Dw(f:Env->Δ D):Env->Δ (Δ Int):=λρ=>(f ρ).bind λd=>(gI d).map some
def LG:DO X none nU:=λpins s σ H Q I z=>by let⟨HF,ρ,o,sm,eo,hf,q⟩:=z;exact Lr pins s σ H Q I (by cases hf;exact q H HF (.refl sm))
def Kx(h:DE X e f):DO X (some e) (Dw f):=λpins s σ H Q I ⟨HF,ρ,o,sm,eo,hf,q⟩=>LQ h pins s σ H Q I (by
 let⟨d,hd,hf⟩:=bs hf;let⟨i,hi,rfl⟩:=ae hf;cases d<;>try cases hi
 exact⟨HF,ρ,_,sm,eo,hd,λv H1 Wj g1 r1=>⟨_,by simpa only[Rep] using r1,q H1 Wj g1⟩⟩)
variable {lo hi:Δ γ}{fl fh:Env->Δ (Δ Int)}
def n6(g:D->Δ Int->Δ Int->Δ β)(fa:Env->Δ D)(fl fh:Env->Δ (Δ Int)):Env->Δ β:=λρ=>(fa ρ).bind λx=>(fl ρ).bind λl=>(fh ρ).bind λh=>g x l h
end
def f1(g:D->Δ D)(f:Env->Δ D):Env->Δ D:=λρ=>(f ρ).bind g
end Dl
namespace HT
open PySem PyProof.Rows
section
open PySem.SeqAt
open PySem.AutoSeq1 (wpAny_loadPart')
open PySem.MeetsSeq PySem.MeetsSeq2 PySem.MeetsSeq3
end
end HT
namespace Dl
open PySem L2 PySem.Spec PyProof.Rows
def ma:D->Δ (Γ Int)|.tuple ds=>intsOf ds|_=>none
def nu(h:ma x=some ns):x=.tuple (ns.map PyData.int):=by
 cases x<;>try cases h
 rename_i xs;have h:intsOf xs=some ns:=h;rw[dI h]
end Dl
namespace En
open PySem PyProof.Rows
open AutoSeq1 (wpAny_loadPart')
def Yt:fillsNumberSlot (.type "tuple") "mul"=pure false:=PySem.fillsNumberSlot_seq (id:="tuple.__mul__") (r:=some (.builtin "tuple.__rmul__")) F.slot_tuple_mul.lookup (by decide +kernel) F.slot_tuple_rmul.lookup (by decide +kernel)
def Yu:seqRepeat? (.type "tuple")=pure (some (.builtin "tuple.__mul__")):=by
 unfold seqRepeat?;rw[PySem.seqSlot_of (T:="tuple") (name:="__mul__") (id:="tuple.__mul__") F.slot_tuple_mul.lookup (by decide +kernel),PySem.seqSlot_of (T:="tuple") (name:="__rmul__") (id:="tuple.__rmul__") F.slot_tuple_rmul.lookup (by decide +kernel)];rfl
def Zi(a:Int)(t:Tok)(l:Ψ)(its:Array Θ)(n:Nat)(dd:Δ Ψ)(sl:Array (Δ Θ)) :
  Meets (Builtin.«int.__rmul__» ⟨[.int a t,.ref l],[]⟩) (λ_ R s=>s.heap.get? l=some { cls:=.type "tuple",dict:=dd,data:=.seq its n,slots:=sl }/\R (.ok (.ret Value.notImplemented)) s) :=
 .of_wp λprog w A R s h=>by
  let⟨hp,g,d,tk,os⟩:=s;let⟨hl,h⟩:=h
  wp_walk
  sleep 56
def YX(l:Ψ)(its:Array Θ)(n:Nat)(dd:Δ Ψ)(sl:Array (Δ Θ))(k:Int)(t:Tok)(h1:¬ (decide (k < -(2 ^ 63))||decide (k >= 2 ^ 63))=true)(h2:(its.isEmpty||k == 1)=true) :
  Meets (Builtin.«tuple.__mul__» ⟨[.ref l,.int k t],[]⟩) (λ_ R s=>s.heap.get? l=some { cls:=.type "tuple",dict:=dd,data:=.seq its n,slots:=sl }/\R (.ok (.ret (.ref l))) s) :=
 .of_wp λprog w A R s h=>by
  let⟨hp,g,d,tk,os⟩:=s;let⟨hl,h⟩:=h;have f1:=AutoSeq1.idx_int
  sleep 27
  rw[yO h1]
  sleep 27
  sleep 56
def YY(l:Ψ)(its:Array Θ)(n:Nat)(dd:Δ Ψ)(sl:Array (Δ Θ))(k:Int)(t:Tok)(h1:¬ (decide (k < -(2 ^ 63))||decide (k >= 2 ^ 63))=true)(h2:¬ (its.isEmpty||k == 1)=true)(h3:(decide (k<=0)||its.isEmpty)=true) :
  Meets (Builtin.«tuple.__mul__» ⟨[.ref l,.int k t],[]⟩) (λ_ R s=>s.heap.get? l=some { cls:=.type "tuple",dict:=dd,data:=.seq its n,slots:=sl }/\R (.ok (.ret (.ref s.heap.objs.size))) { s with heap:=s.heap.push { cls:=.type "tuple",data:=.seq #[] } }) :=
 .of_wp λprog w A R s h=>by
  let⟨hp,g,d,tk,os⟩:=s;let⟨hl,h⟩:=h;have f1:=AutoSeq1.idx_int
  sleep 27
  rw[yO h1]
  sleep 27
  sleep 56
def YZ(l:Ψ)(its:Array Θ)(n:Nat)(dd:Δ Ψ)(sl:Array (Δ Θ))(k:Int)(t:Tok)(h1:¬ (decide (k < -(2 ^ 63))||decide (k >= 2 ^ 63))=true)(h2:¬ (its.isEmpty||k == 1)=true)(h3:¬ (decide (k<=0)||its.isEmpty)=true)
  (h4:¬ ((its.size:Nat):Int) * k > (2 ^ 63 - 1) / 8) (h5:¬ Builtin.Tuple.tupleTooMany (((its.size:Nat):Int) * k)=true) (hz:((List.replicate k.toNat its).foldl (·++·) #[]).size<=sizeLine) :
  Meets (Builtin.«tuple.__mul__» ⟨[.ref l,.int k t],[]⟩) (λ_ R s=>s.heap.get? l=some { cls:=.type "tuple",dict:=dd,data:=.seq its n,slots:=sl }/\R (.ok (.ret (.ref s.heap.objs.size))) { s with heap:=s.heap.push { cls:=.type "tuple",data:=.seq ((List.replicate k.toNat its).foldl (·++·) #[]) } }) :=
 .of_wp λprog w A R s h=>by
  let⟨hp,g,d,tk,os⟩:=s;let⟨hl,h⟩:=h;have f1:=AutoSeq1.idx_int
  sleep 27
  rw[yO h1]
  sleep 27
  rw[yO h4]
  sleep 27
  sleep 56
end En
namespace Dl
open PySem L2 PySem.Spec PyProof.Rows
def NI(K:Φ):R2:=λx y H Q=>∃a k xs,x=.ref a/\y=.int k/\gQ K H a xs/\-(2 ^ 62)<=k/\k < 2 ^ 62/\xs.length * k.toNat<=sizeLine/\((List.replicate k.toNat xs).flatten=xs->Q (.ref a) H) /\
 ∀p,H p=none->Q (.ref p) (upd H p (.tup (List.replicate k.toNat xs).flatten))
def MV:gO X (binaryOp .Mult) (NI X.K):=by
 sleep 11;let⟨a,k,xs,rfl,rfl,hq,k1,k2,hz,q1,q2⟩:=h;cases rx;let⟨t,rfl⟩:=ry;let⟨its,r,pl,hzx⟩:=I.tuple hq;have hl:=r.length;let⟨⟨cls,dd,data,sl⟩,ho,hc,n,hd⟩:=id pl;simp only at hc hd;subst hc hd;have b1:¬ (decide (k < -(2 ^ 63))||decide (k >= 2 ^ 63))=true:=by
  simp?[jC,zJ];lia
 refine wpAny_binaryOp_repeat_ref (T:="tuple") (U:="int") (by decide) ⟨_,ho,rfl⟩ (λs'=>typeIs_int s' k t) En.Yt F.fills_int_mul F.slot_int_rmul En.Yu F.slot_int_index.lookup
  (qY F.slot_int_rmul (typeIs_int s k t) F.entry_int_rmul (F.args_int_rmul_2 _ _) (En.Zi k t a its.toArray n dd sl) ⟨ho,rfl,⟨_,ho,rfl⟩,?_⟩)
 have Yg:∀m:Nat,List.foldl (λx1 x2=>x1++x2) #[] (List.replicate m its.toArray)=(List.replicate m its).flatten.toArray:=λm=>by
  have:=foldl_rep its m [];rw[xP] at this;exact this
 by_cases h2:(its.toArray.isEmpty||k == 1)=true
 ·refine qY F.slot_tuple_mul ⟨_,ho,rfl⟩ wX (wJ _ _) (En.YX a its.toArray n dd sl k t b1 h2) ⟨ho,⟨.ref a,H,I,rfl,q1 ?_⟩⟩;rw[jC] at h2;rcases h2 with h2|h2
  ·have:xs=[]:=by
    have e:its=[]:=by simpa using h2
    rw[e] at hl;exact List.length_eq_zero_iff.mp hl
   rw[this];simp
  ·have:k=1:=eq_of_beq h2;subst this;simp
 ·by_cases h3:(decide (k<=0)||its.toArray.isEmpty)=true
  ·refine qY F.slot_tuple_mul ⟨_,ho,rfl⟩ wX (wJ _ _) (En.YY a its.toArray n dd sl k t b1 h2 h3) ⟨ho,?_⟩;have hk0:k.toNat=0:=by
    simp?[jC,zJ] at h3 h2;rcases h3 with h3|h3
    ·lia
    ·exact absurd (.inl h3) h2
   have q3:=q2 s.heap.objs.size I.fresh;rw[hk0] at q3;exact⟨.ref s.heap.objs.size,_,I.laid (t':=s.toks) (o:=.tup []) (λb ob q=>zU _ q) (yN _) ⟨xW _,[],.nil,rG.new _ _⟩,rfl,q3⟩
  ·have hm:its.length * k.toNat<=sizeLine:=by rw[<- hl];exact hz
   have hkn:(k.toNat:Int)=k:=by
    simp?[jC,zJ,not_or] at h3;lia
   have hmi:((its.toArray.size:Nat):Int) * k=((its.length * k.toNat:Nat):Int):=by rw[zH,Int.natCast_mul,hkn]
   have hv:=L2.aH.rep r k.toNat;have aaj:(List.replicate k.toNat xs).flatten.length<=sizeLine:=by rw[len_rep,Nat.mul_comm];exact hz
   have hs8:(sizeLine:Nat)<=(2 ^ 63 - 1) / 8:=by decide
   have h4:¬ ((its.toArray.size:Nat):Int) * k > (2 ^ 63 - 1) / 8:=by rw[hmi];lia
   have h5:¬ Builtin.Tuple.tupleTooMany (((its.toArray.size:Nat):Int) * k)=true:=by
    unfold Builtin.Tuple.tupleTooMany;rw[hmi];simp?[zJ];lia
   refine qY F.slot_tuple_mul ⟨_,ho,rfl⟩ wX (wJ _ _) (En.YZ a its.toArray n dd sl k t b1 h2 h3 h4 h5 (by rw[Yg,zH,<- hv.length];exact aaj)) ⟨ho,?_⟩;rw[Yg];exact⟨.ref s.heap.objs.size,_,I.laid (t':=s.toks) (o:=.tup (List.replicate k.toNat xs).flatten) (λb ob q=>zU _ q) (yN _) ⟨aaj,_,hv,rG.new _ _⟩,rfl,q2 _ I.fresh⟩
def AL:D->D->Δ D
 | .tuple ds,.int k=>if FK k=true/\ds.length * k.toNat<=sizeLine then some (.tuple (List.replicate k.toNat ds).flatten) else none
 | _,_=>none
def tH{K:Φ}(r:aq K HF ds vs):∀k:Nat,aq K HF (List.replicate k ds).flatten (List.replicate k vs).flatten
 | 0=>aq.nil
 | k+1=>by rw[xF,xF,qN,qN];exact r.append (tH r k)
def HM{K:Φ}:ee K (NI K) AL:=by
 sleep 5;cases x<;>cases y<;>simp?[AL] at hg<;>try cases hg
 split at hg
 ·rename_i xs k hh;cases hg;simp?[Rep] at r1 r2;let⟨a,vs,rfl,ha,ra⟩:=r1;have ok:=hh.1;unfold FK at ok;rw[zF] at ok;refine⟨a,k,vs,rfl,r2,aE sm ha,yR ok.1,yR ok.2,by rw[ra.length];exact hh.2,λe=>q _ H HF (.refl sm) ?_,λp hp=>q _ _ _ (.new sm hp) (eE (sm.free hp) (tH ra _))⟩;simp?[Rep];refine⟨a,vs,rfl,ha,?_⟩;have:=tH ra k.toNat;rw[e] at this;exact this
 ·cases hg
end Dl
namespace En
open PySem PyProof.Rows
def Y0(hh:A.handled=none)(hl:s.heap.IsTuple l its)(hi:IntsAre its.toList ns)(hb:its.size+1 < scanBound)
  (h:∀ (h':ι) (tk:Nat),h'.SetOf (intKind prog w) s.heap.objs.size (λk'=>(firstMet (λi=>ns.getD i 0) its.size).any (· == k')) (firstMet (λi=>ns.getD i 0) its.size).length->(∀b o,b < s.heap.objs.size->s.heap.get? b=some o->h'.get? b=some o)->Q (.ref s.heap.objs.size) { s with heap:=h',toks:=tk }) :
  wpAny (model prog w) A (call (.type "set") [.ref l]) Q E s:=by
 let⟨c,tl,aht⟩:=F.called_set.mro;have af6:=F.called_set.made;have Yr:=F.called_set.sub;refine wpAny_call (codeAny_of_tree ?_);show wpAny _ _ (callAny (.type "set") _) _ _ _;refine zW ⟨Code.quiet_builtin _ (by decide +kernel),kG F.entry_type_call ?_⟩;rw[Around.under_plain (weight_type_call_type "set" [.ref l] []) rfl];have h1:=F.called_set.notType;have h2:=F.called_set.canCreate;have hct:=F.typeCall_set_1 (.ref l)
 repeat (any_goals (first|assumption|wp_step))
 refine jS (code_set_new_1 (.ref l) (E:=E) (Q₁:=λobj s1=>∃led:θ,obj=.ref s.heap.objs.size/\s1={ s with heap:=s.heap.push { cls:=.type "set",dict:=none,data:=.set #[] 0 (.fresh 0 0 led) } }) λled=>⟨led,rfl,rfl⟩) λr s1 hr=>?_;cases r with
 | error e=>exact hr
 | ok fl =>
  cases fl with
  | ret obj =>
   let⟨led,rfl,rfl⟩:=hr;have hS:(s.heap.push { cls:=.type "set",dict:=none,data:=.set #[] 0 (.fresh 0 0 led) }).get? s.heap.objs.size=some { cls:=.type "set",dict:=none,data:=.set #[] 0 (.fresh 0 0 led) }:=by exact zX _ rfl
   have hT:Shared.TypeIs { s with heap:=s.heap.push { cls:=.type "set",dict:=none,data:=.set #[] 0 (.fresh 0 0 led) } } (.ref s.heap.objs.size) "set":=⟨_,hS,rfl⟩
   have hli:=F.called_set.init.lookup;have hbi:=F.called_set.init.bind (.ref s.heap.objs.size)
   repeat (any_goals (first|assumption|wp_step))
   refine jS (codeAny_call_builtin (R:=wants (λr s2=>r=.none/\∃h' tk,s2={ s with heap:=h',toks:=tk }/\h'.SetOf (intKind prog w) s.heap.objs.size (λk'=>(firstMet (λi=>ns.getD i 0) its.size).any (· == k')) (firstMet (λi=>ns.getD i 0) its.size).length /\
     (∀b o,b < s.heap.objs.size->s.heap.get? b=some o->h'.get? b=some o)) E) F.called_set.init.plain F.entry_set_init (check_set_init_1 hT ?_)) λr2 s2 hr2=>?_
   ·let⟨ol,hol,Yk,nl,hdl⟩:=hl;let⟨ahu,ab3,af9,aaS⟩:=ol;simp only at Yk hdl;subst Yk hdl;have ab4:(s.heap.push { cls:=.type "set",dict:=none,data:=.set #[] 0 (.fresh 0 0 led) }).get? l=some { cls:=.type "tuple",dict:=ab3,data:=.seq its nl,slots:=aaS }:=zU _ hol;have ahv:=F.sub_tuple_set;have ahw:=F.sub_tuple_frozenset;have WN:(Value.type "tuple" == Value.type "dict")=false:=by decide
    have hl1:(s.heap.push { cls:=.type "set",dict:=none,data:=.set #[] 0 (.fresh 0 0 led) }).IsTuple l its:=⟨_,ab4,rfl,nl,rfl⟩
    unfold Builtin.«set.__init__» noKeywords Builtin.Frozenset.updateFrom;generalize hPI:pyIter=PI
    wp_walk
    subst hPI;refine xS hl1 (zV (wpAny_runValue ?_));have hlS:l < s.heap.objs.size:=zY hol;have hh3:A.in1.in1.in1.handled=none:=by simp[hh]
    have aed:l≠(s.heap.push { cls:=.type "set",dict:=none,data:=.set #[] 0 (.fresh 0 0 led) }).objs.size:=by rw[xK];exact yS (jO hlS)
    have hSf:s.heap.objs.size∉[(s.heap.push { cls:=.type "set",dict:=none,data:=.set #[] 0 (.fresh 0 0 led) }).objs.size,l]:=by
     rw[xK];simp?[zQ,yF,xV,not_or];exact⟨yS (kO _),jJ hlS⟩
    have aee:∀ (i:Nat) (v:Θ),its[i]?=some v->∃t,v=.int ((λi=>ns.getD i 0) i) t:=λi v hv=>IntsAre.int_at hi i v (by rw[Array.getElem?_toList];exact hv);refine codeAny_set_update_loopS ((Walks.tuple hh3 _ l aed its).toS) s.heap.objs.size hSf (λi=>ns.getD i 0) aee hb (its.size - 0) 0 _ (by lia) (xW _) ⟨⟨_,zX _ rfl,rfl,rfl⟩,?ht⟩ ?hS0 ?hR
    case ht=>exact⟨_,zU _ ab4,rfl,nl,rfl⟩
    case hS0 =>
     have aef:((s.heap.push { cls:=.type "set",dict:=none,data:=.set #[] 0 (.fresh 0 0 led) }).push { cls:=.type "tuple_iterator",data:=.fields #[.ref l,.int 0 0] }).get? s.heap.objs.size=some { cls:=.type "set",dict:=none,data:=.set #[] 0 (.fresh 0 0 led) }:=by exact zU _ hS
     exact SetOf_congr ((setObjOf_fresh (knd:=intKind prog w) led).setOf aef (by unfold scanBound;lia)) (λ_=>rfl) rfl
    case hR =>
     intro s' hm hS';let⟨h',g',d',tk',Ws⟩:=s';have eg:g'=s.gens:=hm.gens;have ed:d'=s.drawn:=hm.drawn;have eo:Ws=s.os:=hm.os;subst eg ed eo;show wpAny _ _ _ _ _ _;refine zW ?_;show wpAny _ _ (ret Value.none) _ _ _;refine zW ⟨rfl,h',tk',rfl,hS',λb o XZ e=>?_⟩;refine hm.heap b o ?_ (zU _ (zU _ e));simp?[zQ,yF,xV,not_or];exact⟨yS XZ,by rw[xK];exact yS (jO XZ)⟩
   ·cases r2 with
    | error e=>exact hr2
    | ok fl2 =>
     cases fl2 with
     | ret r =>
      let⟨rfl,h',tk,rfl,hS',WY⟩:=hr2
      repeat (any_goals (first|assumption|wp_step))
      exact h _ _ hS' WY
     | _=>exact hr2.elim
  | _=>exact hr.elim
end En
namespace Dl
open PySem L2 PySem.Spec PyProof.Rows
variable {env:PySem.Env}
def many(ns:Γ Int):Nat:=(firstMet (λi=>ns.getD i 0) ns.length).length
def FQ(hc:X.calm=true):gg X (.type "set") (λxs H Q=>∃ (a:Ψ) (ns:Γ Int),xs=[.ref a]/\gQ X.K H a (ns.map V.int)/\ns.length+1 < scanBound/\∀q S,H q=none->Q (.ref q) (upd H q (.set S (many ns)))):=by
 sleep 20;let⟨a,ns,rfl,hq,hb,q⟩:=h;sleep 46;cases rx;let⟨its,rv,pl,hz⟩:=I.tuple hq;have hi:IntsAre its.toArray.toList ns:=intsAre_of rv;have hlen:its.toArray.size=ns.length:=by have:=rv.length;simpa using this.symm
 refine En.Y0 (I.ok.hd hc) (show s.heap.IsTuple a its.toArray from pl) hi (by rw[hlen];exact hb) λh' tk hS hk=>?_;rw[hlen] at hS;exact⟨.ref s.heap.objs.size,_,I.laid (t':=tk) (λb o e=>hk b o (zY e) e) (yN _) (show ej X.prog X.w _ h' _ (.set _ (many ns)) from hS),rfl,q _ _ I.fresh⟩
def FO:gg X (.builtin "len") (λxs H Q=>∃ (a:Ψ) (S:Int->θ) (n:Nat),xs=[.ref a]/\H a=some (.set S n)/\Q (.int n) H):=by
 sleep 20;let⟨a,S,n,rfl,hq,q⟩:=h;sleep 46;cases rx;let⟨o,es,ep,t,ho,hex,hd,hel,ZR,WK,hf,hn⟩:=(show s.heap.SetOf (intKind X.prog X.w) a S n from I.Wn a _ hq)
 have aaP:((es.size:Nat):Int) < 2 ^ 63:=by unfold scanBound at WK;lia
 refine call_len_set ho hex hd hf aaP ⟨.int n,H,I.tok _,⟨s.toks+1,by rw[hn]⟩,q⟩
def l9:D->Δ D:=λd=>(ma d).bind λns=>if ns.length+1 < scanBound then some (.int (many ns)) else none
def FR(hc:X.calm=true)(B:rf X "len" (.builtin "len"))(C:rf X "set" (.type "set"))(h:DE X e f)(he:starEach [e] X.env=(false,eval e X.env)::starEach [] X.env:=by rfl) :
  DE X (.Call (.Name "len" p) [.Call (.Name "set" p') [e] [] pos'] [] pos) (f1 l9 f) :=
 aL (lJ FO B.gl B.mg B.bt (bu (vm (FQ hc) C.gl C.mg C.bt (bu h da he) (by decide) (by decide) he rfl) da) (by decide) (by decide) rfl rfl) λσ H Q z=>by
  sleep 1;sleep 8;let⟨ns,h1,hf⟩:=bs hf;split at hf
  ·rename_i hb;cases hf;sleep 21;rw[nu h1] at r1;simp?[Rep] at r1;let⟨a,vs,rfl,hs,rr⟩:=r1;have key:∀ {ns:Γ Int}{ws:Γ V},aq X.K Wj (ns.map PyData.int) ws->ws=ns.map V.int:=λ{ns}=>by
    induction ns with
    | nil=>exactλh=>h.nil_inv
    | cons n ns ih =>
     intro ws h;let⟨v,r,rfl,a,b⟩:=h.cons_inv;simp?[Rep] at a;rw[a,ih b];rfl
   have:=key rr;subst this;refine⟨a,ns,rfl,aE g1.fh hs,hb,λb S XZ=>⟨b,S,_,rfl,aw,q _ _ Wj (g1.trans (.own g1.fh XZ)) (by simp[Rep])⟩⟩
  ·cases hf
def lN(val:Nat->Int):∀i,(firstMet val i).length=i↔((List.range i).map val).Nodup
 | 0=>by simp[firstMet]
 | i+1=>by
  have hle:=firstMet_length_le val i;rw[firstMet_succ,step_length,vR,jB,wV];have ha:=firstMet_any val i (val i);have ih:=lN val i;constructor
  ·intro h;by_cases ZT:(firstMet val i).any (· == val i)=true
   ·rw[yM ZT] at h;lia
   ·rw[yO ZT] at h;refine⟨ih.mp (by lia),by simp,λa hm b hb z=>?_⟩;have XZ:b=val i:=by simpa using hb
    subst z XZ;rw[ha] at ZT;exact ZT (List.any_eq_true.mpr ⟨_,hm,by simp⟩)
  ·rintro⟨h1,_,h3⟩;rw[yO ?_]
   ·rw[ih.mpr h1]
   ·rw[ha];intro ZT;let⟨x,hx,he⟩:=List.any_eq_true.mp ZT;have he':x=val i:=by simpa using he
    exact h3 x hx (val i) (by simp) he'
def CK(ns:Γ Int):many ns=ns.length↔ns.Nodup:=by
 unfold many;rw[lN];have:(List.range ns.length).map (λi=>ns.getD i 0)=ns:=lH ns 0;rw[this]
def Bo{K:Φ}(h:ee K r g)(h':ee K r' g'):ee K (λx y H Q=>r x y H Q\/r' x y H Q) (λx y=>(g x y).or (g' x y)):=by
 sleep 5;cases e:g x y with
 | some d' =>
  have hg:(g x y).or (g' x y)=some d:=hg;rw[e] at hg;cases hg;exact .inl (h HF H x y v1 v2 d Q sm r1 r2 e q)
 | none =>
  have hg:(g x y).or (g' x y)=some d:=hg;rw[e] at hg;exact .inr (h' HF H x y v1 v2 d Q sm r1 r2 hg q)
def Fe{K:Φ}:ee K (Hy K) (λx y=>(J5 x y).map PyData.list):=by
 sleep 5;let⟨zs,hg',rfl⟩:=ae hg;clear hg;cases x<;>cases y<;>simp?[J5] at hg'<;>try cases hg'
 let⟨rfl,hz⟩:=dz hg';simp?[Rep] at r1 r2;let⟨a,vs,rfl,ha,ra⟩:=r1;let⟨b,us,rfl,hb,rb⟩:=r2;refine⟨a,b,vs,us,rfl,rfl,sm.seq ha,sm.seq hb,by rw[ra.length,rb.length,<- zN];exact hz,λp hp=>q _ _ _ (.new sm hp) ?_⟩;simp?[Rep];exact⟨p,_,rfl,.inl (.inl aw),(ra.append rb).mono (cq (sm.free hp))⟩
def aJ:D->D->Δ D:=λx y=>((zg (λ_ _=>True) λi j=>.int (i+j)) x y).or ((MD x y).or ((J5 x y).map PyData.list))
def Bk.add(C:Bk X N sc k)(ha:DE X a fa)(hb:DE X b fb):DE X (.BinOp a .Add b pos) (f2 aJ fa fb):=AD (Px.or (Fo.or J9)) (Bo Gx (Bo MA Fe)) ha hb
def fW:D->D->Δ D:=zg (λ_ _=>True) λi j=>.int (i - j)
def Bk.sub(C:Bk X N sc k)(ha:DE X a fa)(hb:DE X b fb):DE X (.BinOp a .Sub b pos) (f2 fW fa fb):=AD N3 Gx ha hb
def eA:D->D->Δ D:=λx y=>((zg uw λi j=>.int (i * j)) x y).or (AL x y)
def Bk.mul(C:Bk X N sc k)(ha:DE X a fa)(hb:DE X b fb):DE X (.BinOp a .Mult b pos) (f2 eA fa fb):=AD (NX.or MV) (Bo ID HM) ha hb
def nj:D->D->Δ D:=zg K5 λi j=>.int (i / j)
def Bk.div(C:Bk X N sc k)(ha:DE X a fa)(hb:DE X b fb):DE X (.BinOp a .FloorDiv b pos) (f2 nj fa fb):=AD MJ ID ha hb
def mq:D->D->Δ D:=zg (λ_ j=>0 < j) λi j=>.int (i % j)
def Bk.mod(C:Bk X N sc k)(ha:DE X a fa)(hb:DE X b fb):DE X (.BinOp a .Mod b pos) (f2 mq fa fb):=AD On ID ha hb
def Ga:D->D->Δ D:=zg (λ_ _=>True) λi j=>.bool (decide (i < j))
def EK:D->D->Δ D:=zg (λ_ _=>True) λi j=>.bool (decide (i<=j))
def FA:D->D->Δ D:=zg (λ_ _=>True) λi j=>.bool (decide (j < i))
def bC:D->D->Δ D:=λx y=>(LJ x y).map PyData.bool
def dZ:D->D->Δ D:=λx y=>(Oe x y).map PyData.bool
def Bk.u64(C:Bk X N sc k):X.A.units+64 < cLine:=C.room.units
def Bk.u66(C:Bk X N sc k):X.A.units+66 < cLine:=by have:=C.room.un;lia
def Bk.lt(C:Bk X N sc k)(ha:DE X a fa)(hb:DE X b fb):DE X (.Compare a [.Lt] [b] pos) (f2 Ga fa fb):=lC JC lE ha hb (dW _)
def Bk.le(C:Bk X N sc k)(ha:DE X a fa)(hb:DE X b fb):DE X (.Compare a [.LtE] [b] pos) (f2 EK fa fb):=lC Gn lE ha hb (dW _)
def Bk.gt(C:Bk X N sc k)(ha:DE X a fa)(hb:DE X b fb):DE X (.Compare a [.Gt] [b] pos) (f2 FA fa fb):=lC Nh lE ha hb (dW _)
def Bk.eq(C:Bk X N sc k)(ha:DE X a fa)(hb:DE X b fb):DE X (.Compare a [.Eq] [b] pos) (f2 bC fa fb):=lC (Ci C.u64) lQ ha hb (dW _)
def Bk.ne(C:Bk X N sc k)(ha:DE X a fa)(hb:DE X b fb):DE X (.Compare a [.NotEq] [b] pos) (f2 dZ fa fb):=lC (CH C.u64) lQ ha hb (dW _)
def Bk.tlt(C:Bk X N sc k)(ha:DE X a fa)(hb:DE X b fb):DT X (.Compare a [.Lt] [b] pos) (fB (f2 Ga fa fb)):=ki JC lE ha hb (dW _)
def Bk.tle(C:Bk X N sc k)(ha:DE X a fa)(hb:DE X b fb):DT X (.Compare a [.LtE] [b] pos) (fB (f2 EK fa fb)):=ki Gn lE ha hb (dW _)
def Bk.tgt(C:Bk X N sc k)(ha:DE X a fa)(hb:DE X b fb):DT X (.Compare a [.Gt] [b] pos) (fB (f2 FA fa fb)):=ki Nh lE ha hb (dW _)
def Bk.teq(C:Bk X N sc k)(ha:DE X a fa)(hb:DE X b fb):DT X (.Compare a [.Eq] [b] pos) (fB (f2 bC fa fb)):=ki (Ci C.u64) lQ ha hb (dW _)
def Bk.tne(C:Bk X N sc k)(ha:DE X a fa)(hb:DE X b fb):DT X (.Compare a [.NotEq] [b] pos) (fB (f2 dZ fa fb)):=ki (CH C.u64) lQ ha hb (dW _)
def gX:D->Δ Int->Δ Int->Δ D|.tuple ds,lo,hi=>some (.tuple (cut ds lo hi))|.list ds,lo,hi=>some (.list (cut ds lo hi))|_,_,_=>none
def Bk.cut(C:Bk X N sc k){lo:Δ γ}{fl:Env->Δ (Δ Int)}(ha:DE X a fa)(hl:DO X lo fl)(hh:DO X hi fh):DE X (.Subscript a (.Slice lo hi none p2) pos) (n6 gX fa fl fh):=aL (IG (QQ.or KD) ha hl hh) λσ H Q z=>by
 sleep 1;sleep 8;let⟨l,hl,hf⟩:=bs hf;let⟨u,hu,hf⟩:=bs hf;refine⟨HF,ρ,x,sm,eo,hx,λv1 H1 Wj g1 r1=>⟨Wj,ρ,l,g1.fh,eo.mono g1.ff,hl,λH2 WD g2=>⟨WD,ρ,u,g2.fh,eo.mono (g1.ff.trans g2.ff),hu,λH3 WL g3=>?_⟩⟩⟩;have G:=(g1.trans g2).trans g3;have r3:=r1.mono (g2.ff.trans g3.ff);cases x<;>try cases hf
 ·simp?[Rep] at r3;let⟨b,vs,rfl,hs,rr⟩:=r3;refine .inr ⟨b,vs,rfl,G.fh.seq hs,λp hp=>q _ _ _ (G.trans (.new G.fh hp)) ?_⟩;simp?[Rep];exact⟨p,_,rfl,.inl (.inl aw),(sf rr l u).mono (cq (G.fh.free hp))⟩
 ·simp?[Rep] at r3;let⟨b,vs,rfl,hs,rr⟩:=r3;refine .inl ⟨b,vs,rfl,aE G.fh hs,λe=>q _ H3 WL G ?_,λp hp=>q _ _ _ (G.trans (.new G.fh hp)) (eE (G.fh.free hp) (sf rr l u))⟩;simp?[Rep];refine⟨b,vs,rfl,hs,?_⟩;have:=sf rr l u;rw[e] at this;exact this
def NY:D->Δ D|.int i=>some (.int (-i))|_=>none
def Bk.neg(C:Bk X N sc k)(ha:DE X a fa):DE X (.UnaryOp .USub a pos) (f1 NY fa):=aL (Ta OX ha) λσ H Q z=>by
 sleep 1;sleep 8;sleep 21;cases x<;>try cases hf
 exact⟨_,by simpa only[Rep] using r1,q _ H1 Wj g1 (by simp[Rep])⟩
def JQ:bootBuiltins "len"=some (.builtin "len"):=by decide +kernel
def uo:bootBuiltins "isinstance"=some (.builtin "isinstance"):=by decide +kernel
def J8:bootBuiltins "tuple"=some (.type "tuple"):=by decide +kernel
def AY:bootBuiltins "range"=some (.type "range"):=by decide +kernel
def Qa:bootBuiltins "all"=some (.builtin "all"):=by decide +kernel
def OO:bootBuiltins "set"=some (.type "set"):=by decide +kernel
def pe:bootBuiltins "sorted"=some (.builtin "sorted"):=by decide +kernel
def zc:bootBuiltins "enumerate"=some (.type "enumerate"):=by decide +kernel
def OD:bootBuiltins "zip"=some (.type "zip"):=by decide +kernel
abbrev cU(f:Env->Δ (Γ D)):Env->Δ D:=λρ=>(f ρ).map PyData.list
abbrev bK:Γ D->Δ D:=λds=>(et ds).map PyData.tuple
def Bk.ab8(C:Bk X N sc k)(h:decide (sc.names.lookup x=some .local)=true):X.env.scope.names.lookup x=some .local:=by
 rcases C.tb x _ (yR h) with q|⟨q,_⟩
 ·exact q
 ·cases q
def isStar(e:γ):θ:=e.ctorIdx == 22
def aV(h:isStar e=false):starEach (e::es) env=(false,eval e env)::starEach es env:=by
 cases e<;>first|rfl|cases h
def Pv(he:DE X e f)(hs:DA X es g)(h:isStar e=false:=by rfl):DA X (e::es) (aa f g):=DY he hs (aV h)
def tU:swapsWith (.ListComp elt gens scope pos) (some (.Name x py)) line env=pure (env.blockKind == .function&&env.kindOf x == some .local && py.line == pos.line
     &&!(scope.names.any λ(n,k)=>n == x&&(k == .local || k == .cell))):=rfl
def M6(h:env.scope.kind=.function):env.blockKind=.function:=by unfold PySem.Env.blockKind;rw[h];rfl
def Bk.swap(C:Bk X N sc k)(h:decide (sc.names.lookup x=some .local)=true)(h2:(py.line == pos.line&&!(scope.names.any λ(n,k)=>n == x&&(k == .local || k == .cell)))=true) :
  swapsWith (.ListComp elt gens scope pos) (some (.Name x py)) line X.env=pure true:=by
 rw[tU,M6 C.kd,show X.env.kindOf x=some .local from C.ab8 h];rw[Bool.and_assoc,h2];rfl
def Bk.aaT(C:Bk X N sc k)(h:decide (sc.names.lookup x=some .cell)=true) :
  swapsWith (.ListComp elt gens scope pos) (some (.Name x py)) line X.env=pure false:=by
 have q:X.env.kindOf x=some .cell:=by
  rcases C.tb x _ (yR h) with q|⟨q,_⟩
  ·exact q
  ·cases q
 rw[tU,q,M6 C.kd];rfl
section
variable {K:Φ}
structure ku(K:W.Frag)(x:Str)(st:Stmt)(ps:List Str):Prop where
 ex:∃ (f:Ψ) (fd:η),W.nsIn K mainGlobals x=some (some (.ref f))/\Dv K x x st f fd/\Binds K fd ps []
structure KP(K:W.Frag)(mg:Str->Option Value)(x:Str)(st:Stmt)(ps:List Str):Prop where
 ex:∃ (f:Ψ) (fd:η),mg x=some (.ref f)/\Dv K x x st f fd/\Binds K fd ps []
def ku.mg{h:ι}{mg:Str->Δ Θ}{st:Ω}(D:ku K x st ps)(X:K.In h)(G:h.Ns mainGlobals mg):KP K mg x st ps:=by
 let⟨f,fd,a,b,c⟩:=D.ex;exact⟨f,fd,W.mg_of X G a,b,c⟩
def dQ(st:Ω)(ps:Γ Str):Prop:=∀ (x qual:Str) (kV doc pm:Θ) (an:Δ Ψ) (WR ct:Θ) (us:Γ Θ),us.length=ps.length->bindArgs (W.fnOf x qual (dO st) (aW st) (ao st) .none kV doc pm an WR ct) ⟨us,[]⟩=pure (ps.zip us)
def SR{st:Ω}{kV:Θ}(hb:dQ st ps)(a:W.nsIn K mainGlobals x=some (some (.ref f)))(l:K.lookup f=some ⟨oc,od,.func (W.fnOf x x (dO st) (aW st) (ao st) .none kV doc pm an WR ct),Ye⟩)
  (c:W.codeIn K WR x=true) (k:W.keepIn K (.ref f)=true):ku K x st ps:=⟨f,_,a,pj (st:=st) l c k,(pj (st:=st) l c k).binds λkV doc pm an WR ct us h=>hb _ _ kV doc pm an WR ct us h⟩
structure pZ(K:W.Frag)(x:Str)(st:Stmt)(ps:List Str):Prop where
 ex:∃ (f:Ψ) (fd:η) (c P:Ψ),W.nsIn K mainGlobals x=some (some (.ref f))/\Dv K x x st f fd/\Binds K fd ps []/\fd.code=.ref c/\W.codeHdIn K c P=true
structure Qk(K:W.Frag)(mg:Str->Option Value)(x:Str)(st:Stmt)(ps:List Str):Prop where
 ex:∃ (f:Ψ) (fd:η) (c P:Ψ),mg x=some (.ref f)/\Dv K x x st f fd/\Binds K fd ps []/\fd.code=.ref c/\W.codeHdIn K c P=true
def pZ.mg{h:ι}{mg:Str->Δ Θ}{st:Ω}(D:pZ K x st ps)(X:K.In h)(G:h.Ns mainGlobals mg):Qk K mg x st ps:=by
 let⟨f,fd,c,P,a,b⟩:=D.ex;exact⟨f,fd,c,P,W.mg_of X G a,b⟩
def HU(K:Φ)(c:Ψ):Ψ:=match K.lookup c with
 | some ⟨_,_,.fields vs,_⟩=>(match (vs[11]?:Δ Θ) with|some (.ref P)=>P|_=>0)
 | _=>0
def R3{st:Ω}{kV:Θ}(hb:dQ st ps)(a:W.nsIn K mainGlobals x=some (some (.ref f)))(l:K.lookup f=some ⟨oc,od,.func (W.fnOf x x (dO st) (aW st) (ao st) .none kV doc pm an (.ref c) ct),Ye⟩)
  (cd:W.codeIn K (.ref c) x=true) (k:W.keepIn K (.ref f)=true) (hh:W.codeHdIn K c (HU K c)=true):pZ K x st ps:=⟨f,_,c,HU K c,a,pj (st:=st) l cd k,(pj (st:=st) l cd k).binds λkV doc pm an WR ct us h=>hb _ _ kV doc pm an WR ct us h,rfl,hh⟩
def OQ{K:Φ}(h:(dR.all λx=>match W.nsIn K mainGlobals x with|some none=>true|_=>false)=true):∀x∈dR,W.nsIn K mainGlobals x=some none:=by
 intro x hx;have:=List.all_eq_true.mp h x hx;split at this
 ·assumption
 ·cases this
def BP{K:Φ}{H:Hp}{a:Ψ}{ns:Γ Int}{m:Γ D->Δ D}(hS:gN K H a (ns.map V.int))(hT:cD K H)(h:m [.list (ns.map PyData.int)]=some (.bool true)){X:_}:Rn K 1 m [.ref a] H (λv _=>v=.bl true) X:=by
 refine⟨H,[.list (ns.map PyData.int)],.bool true,.refl _,hT,aq.cons ?_ aq.nil,rfl,h,λv H' Wi G r=>by simpa only[Rep] using r⟩;simp?[Rep];refine⟨a,_,rfl,hS,?_⟩;clear h hS hT
 induction ns with
 | nil=>exact aq.nil
 | cons n ns ih=>exact aq.cons (by simp[Rep]) ih
end
def T4(h:isStar e=false)(he:DE X e f)(hs:DA X es g):DA X (e::es) (aa f g):=Pv he hs h
def Q9:aj->Δ Out:=λ_=>none
def RH{st:Ω}:DS X Wg H₀ st Q9:=λpins s σ H E I z=>by let⟨HF,ρ,o,S,hg,q⟩:=z;cases hg
def rJ(f:Env->Δ D):aj->Δ Out:=λρ=>(f (aP ρ)).map λ_=>.nx ρ
def Kz(hs:swapsWith e none pos.line X.env=pure false)(h:DE X e f):DS X Wg H₀ (.Expr e pos) (rJ f):=bf (ji h hs) λE σ H z=>by
 sleep 12;let⟨d,h,rfl⟩:=ae hg;exact⟨H,aP ρ,d,.refl _,S.all,h,λv H' Wi G r=>q σ H' HF (S.step G.hh) (.refl _)⟩
def BZ(t:Env->Δ θ)(gb:aj->Δ Out):Nat->aj->Δ Out
 | 0,_=>none
 | n+1,ρ=>(t (aP ρ)).bind λb=>if b=true then (gb ρ).bind fun|.nx ρ'=>BZ t gb n ρ'|.rt d=>some (.rt d) else some (.nx ρ)
def IE(n:Nat)(hp:PassesOwn (model X.prog X.w) X.A X.env X.xe)(hc:DT X c t)(hb:C2 X Wg H₀ body gb):DS X Wg H₀ (.While c body [] pos) (BZ t gb n) :=
 bf (JI hp hc hb) λE σ H z=>by
  sleep 12;refine⟨λm σ' H'=>∃Wi ρ',fH X.K Wg H₀ Wi H' ρ' σ'/\aD HF Wi/\BZ t gb m ρ'=some o,⟨n,HF,ρ,S,.refl _,hg⟩,?_⟩;rintro m σ' H' ⟨Wi,ρ',S',s',hf⟩;cases m with
  | zero=>cases hf
  | succ m =>
   unfold BZ at hf;let⟨b,hb,hf⟩:=bs hf;refine⟨H',aP ρ',b,.refl _,S'.all,hb,λH1 Wj G=>?_⟩;cases b with
   | false =>
    rw[yO xA] at hf ⊢;cases hf;exact q σ' H1 Wi (S'.step G.hh) s'
   | true =>
    rw[yM rfl] at hf ⊢;let⟨o1,h2,hf⟩:=bs hf;refine⟨λXX H3=>∃WL YE,fH X.K Wg H₀ WL H3 YE XX/\aD HF WL/\BZ t gb m YE=some o,λXX H3 z=>by let⟨WL,YE,a1,a2,a3⟩:=z;exact ⟨m,kO _,WL,YE,a1,a2,a3⟩,Wi,ρ',o1,S'.step G.hh,h2,?_⟩;cases o1 with
    | nx W9=>exactλσ4 H4 Xb S4 s4=>⟨Xb,W9,S4,s'.trans s4,hf⟩
    | rt d=>cases hf;exact q
def AO:Γ D->Δ D
 | [.int a,.int b]=>some (.int (min a b))
 | [.int a,.int b,.int c]=>some (.int (min (min a b) c))
 | _=>none
def GW(hc:X.calm=true):gg X (.builtin "min") (λxs H Q=>(∃a b:Int,xs=[.int a,.int b]/\Q (.int (min a b)) H)\/(∃a b c:Int,xs=[.int a,.int b,.int c]/\Q (.int (min (min a b) c)) H)):=by
 sleep 20;have hh:X.A.handled=none:=I.ok.hd hc;rcases h with ⟨a,b,rfl,q⟩|⟨a,b,c,rfl,q⟩
 ·cases r with
  | cons r1 r =>
   cases r with
   | cons r2 r =>
    cases r;let⟨t,rfl⟩:=r1;let⟨u,rfl⟩:=r2;refine min_two_ints hh λh' tk kp=>⟨.int (min a b),H,I.kept (t':=tk) kp,?_,q⟩
    by_cases h:b < a
    ·rw[yM h,show min a b=b by lia];exact⟨_,rfl⟩
    ·rw[yO h,show min a b=a by lia];exact⟨_,rfl⟩
 ·cases r with
  | cons r1 r =>
   cases r with
   | cons r2 r =>
    cases r with
    | cons r3 r =>
     cases r;let⟨t,rfl⟩:=r1;let⟨u,rfl⟩:=r2;let⟨x,rfl⟩:=r3;refine min_three_ints hh λh' tk kp=>⟨.int (min (min a b) c),H,I.kept (t':=tk) kp,?_,q⟩
     by_cases h:b < a
     ·rw[yM h];by_cases h2:c < b
      ·rw[yM h2,show min (min a b) c=c by lia];exact⟨_,rfl⟩
      ·rw[yO h2,show min (min a b) c=b by lia];exact⟨_,rfl⟩
     ·rw[yO h];by_cases h2:c < a
      ·rw[yM h2,show min (min a b) c=c by lia];exact⟨_,rfl⟩
      ·rw[yO h2,show min (min a b) c=a by lia];exact⟨_,rfl⟩
def Ad{K:Φ}(r:Rep K H d v):∀ {ds:Γ D}{vs:Γ V}(j:Nat),aq K H ds vs->aq K H (ds.set j d) (vs.set j v)
 | [],vs,j,h=>by rw[h.nil_inv];exact aq.nil
 | x::ds,vs,j,h=>by
  let⟨u,us,rfl,a,b⟩:=h.cons_inv;cases j with
  | zero=>exact aq.cons r b
  | succ j=>exact aq.cons a (Ad r j b)
def Ce(i:Nat)(fz:Γ Nat)(fk f:Env->Δ D):aj->Δ Out:=λρ=>(k8 fz f ρ).bind λp=>(fk (aP p.2)).bind λkd=>match kd with
 | .int k=>oA i (λds=>(HZ ds.length k).map λj=>ds.set j p.1) p.2
 | _=>none
def J7(i:Nat)(fz:Γ Nat)(hN:X.N[i]?=some x)(hv:rP X.env.scope x)(hk:DE X e fk)(h:DE X e2 f)(hd:(x == ("__debug__":Str))=false:=by decide)(WB:(x == ("__classdict__":Str))=false:=by decide)
  (ha:∀v,assign (.Subscript (.Name x px) e WS) X.env v=(do
   let ov <- holding [v] (eval (.Name x px) X.env)
   let iv <- holding [v,ov] (eval e X.env)
   standAt WS
   holding [v,ov,iv] (setItem ov iv v)
   release [v,ov,iv] []):=by intro _;rfl)
  (hs:swapsWithSole [.Subscript (.Name x px) e WS] e2 pos.line X.env=pure false:=by rfl) (hw:swappedStores [.Subscript (.Name x px) e WS] e2 X.env=pure none:=by rfl)
  (h1:(assignEach [.Subscript (.Name x px) e WS] X.env).map (·.2)=[assign (.Subscript (.Name x px) e WS) X.env]:=by rfl):DS X Wg H₀ (.Assign [.Subscript (.Name x px) e WS] e2 pos) (Ce i fz fk f) :=
 bf (Il h (Gh (bA hN hv hd WB) hk set_list ha) hs hw h1) λE σ H z=>by
  sleep 12;let⟨⟨d,ρ'⟩,h1,hg⟩:=bs hg;let⟨kd,h2,hg⟩:=bs hg;cases kd<;>try cases hg
  rename_i k;let⟨ds,es,h3,h4,rfl⟩:=l5 hg;let⟨j,hj,rfl⟩:=ae h4;refine pd S h1 λv H1 Wj s1 S1 s2 r=>?_;let⟨a,vs,e1,e2,e3,e5,e4⟩:=S1.own i ds h3;refine⟨.ref a,e1,H1,aP ρ',.int k,.refl _,S1.all,h2,λkv H2 WD G rk=>?_⟩;simp?[Rep] at rk;have S2:=S1.step G.hh;let⟨a',ZN,f1,f2,f3,f5,f4⟩:=S2.own i ds h3;rw[e1] at f1;cases f1;exact⟨a,ZN,k,j,rfl,rk,f2,by rw[f4.length];exact hj,q σ _ Wj (S2.mut h3 e1 f2 (Ad r j f4)) s1⟩
def Ti:D->θ|.none=>true|_=>false
def qt{K:Φ}(r:Rep K HF d v):decide (v=.Wh)=Ti d:=by
 cases d<;>simp?[Rep] at r<;>first
  | (subst r;rfl)
  | (let⟨a,vs,rfl,_⟩:=r;rfl)
  | exact r.elim
def yk:D->D->Δ D:=λx y=>if Ti y=true then some (.bool (Ti x)) else match x,y with
 | .bool a,.bool b=>some (.bool (a == b))
 | _,_=>none
def nc:D->D->Δ D:=λx y=>if Ti y=true then some (.bool (!Ti x)) else match x,y with
 | .bool a,.bool b=>some (.bool (!(a == b)))
 | _,_=>none
def JE{X:Cx}:gO X (compareOp .Is) (λx y H Q=>∃a b,x=.bl a/\y=.bl b/\Q (.bl (a == b)) H):=by
 intro pins s σ H x y v u Q I rx ry q;let⟨a,b,rfl,rfl,q⟩:=q;cases rx;cases ry;exact wpAny_is_plain rfl ⟨.bl _,H,I,rfl,by cases a<;>cases b<;>exact q⟩
def EO{X:Cx}:gO X (compareOp .IsNot) (λx y H Q=>∃a b,x=.bl a/\y=.bl b/\Q (.bl (!(a == b))) H):=by
 intro pins s σ H x y v u Q I rx ry q;let⟨a,b,rfl,rfl,q⟩:=q;cases rx;cases ry;exact wpAny_isNot_plain rfl ⟨.bl _,H,I,rfl,by cases a<;>cases b<;>exact q⟩
def DV{K:Φ}:ee K (λx y H Q=>(y=.Wh/\Q (.bl (decide (x=.Wh))) H)\/∃a b,x=.bl a/\y=.bl b/\Q (.bl (a == b)) H) yk:=by
 sleep 5;unfold yk at hg;split at hg
 ·rename_i h;cases hg;have h2:=qt r2;rw[h,zJ] at h2;refine .inl ⟨h2,?_⟩;rw[qt r1];exact q _ H HF (.refl sm) (by simp[Rep])
 ·split at hg
  ·cases hg;simp?[Rep] at r1 r2;exact .inr ⟨_,_,r1,r2,q _ H HF (.refl sm) (by simp[Rep])⟩
  ·cases hg
def Bb{K:Φ}:ee K (λx y H Q=>(y=.Wh/\Q (.bl (!decide (x=.Wh))) H)\/∃a b,x=.bl a/\y=.bl b/\Q (.bl (!(a == b))) H) nc:=by
 sleep 5;unfold nc at hg;split at hg
 ·rename_i h;cases hg;have h2:=qt r2;rw[h,zJ] at h2;refine .inl ⟨h2,?_⟩;rw[qt r1];exact q _ H HF (.refl sm) (by simp[Rep])
 ·split at hg
  ·cases hg;simp?[Rep] at r1 r2;exact .inr ⟨_,_,r1,r2,q _ H HF (.refl sm) (by simp[Rep])⟩
  ·cases hg
def Bk.is0(C:Bk X N sc k)(ha:DE X a fa)(hb:DE X b fb):DE X (.Compare a [.Is] [b] pos) (f2 yk fa fb):=lC (Gm.or JE) DV ha hb (dW _)
def Bk.aeg(C:Bk X N sc k)(ha:DE X a fa)(hb:DE X b fb):DE X (.Compare a [.IsNot] [b] pos) (f2 nc fa fb):=lC (Dz.or EO) Bb ha hb (dW _)
def Bk.aeh(C:Bk X N sc k)(ha:DE X a fa)(hb:DE X b fb):DT X (.Compare a [.Is] [b] pos) (fB (f2 yk fa fb)):=ki (Gm.or JE) DV ha hb (dW _)
def Bk.ab9(C:Bk X N sc k)(ha:DE X a fa)(hb:DE X b fb):DT X (.Compare a [.IsNot] [b] pos) (fB (f2 nc fa fb)):=ki (Dz.or EO) Bb ha hb (dW _)
def PP(hc:X.calm=true)(B:rf X "min" (.builtin "min"))(he:starEach (e::es) X.env=(false,eval e X.env)::starEach es X.env)(WU:(backTo pos (starEach es X.env)).any (·.1)=false)(ha:DA X (e::es) fs):DE X (.Call (.Name "min" p) (e::es) [] pos) (bw AO fs) :=
 lu (GW hc) (by
  sleep 41;unfold AO at hg;split at hg
  ·cases hg;let⟨v1,r1,rfl,a1,b1⟩:=r.cons_inv;sleep 54;rw[b2.nil_inv];simp?[Rep] at a1 a2;exact .inl ⟨_,_,by rw[a1,a2],q _ H HF (.refl sm) (by simp[Rep])⟩
  ·cases hg;let⟨v1,r1,rfl,a1,b1⟩:=r.cons_inv;sleep 54;let⟨v3,r3,rfl,a3,b3⟩:=b2.cons_inv;rw[b3.nil_inv];simp?[Rep] at a1 a2 a3;exact .inr ⟨_,_,_,by rw[a1,a2,a3],q _ H HF (.refl sm) (by simp[Rep])⟩
  ·cases hg) B ha (by decide) (by decide) he WU
section
variable {fl fs:Env->Δ (Γ D)}
def B9(hc:X.calm=true):gg X (.builtin "any") (λxs H Q=>∃ (a:Ψ) (bs:Γ θ),xs=[.ref a]/\gN X.K H a (bs.map V.bl)/\Q (.bl (bs.any id)) H):=by
 sleep 20;let⟨a,bs,rfl,hq,q⟩:=h;sleep 46;cases rx;let⟨its,rv,pl,hz⟩:=I.list hq;have hv:=mG rv;subst hv;have hh:X.A.in1.handled=none:=I.ok.hd hc;refine call_any_walk (qL pl.isList ?_);let⟨o,ho,Yk,n,hd⟩:=pl.isList;have WN:a≠s.heap.objs.size:=yS (zY ho);sleep 23
 ·have e:v=Value.bool (bs.getD i false):=by
   have hP:(bs.map Value.bool).toArray[i]?=some v:=hP;rw[vW,zO] at hP;let⟨b,hb,rfl⟩:=ae hP;rw[zG,hb];rfl
  subst e;exact xX hQ
 ·refine⟨.bl (bs.any id),H,?_,?_,q⟩
  ·exact I.kept (t':=tk) λb o' e=>kp b o' (by simp;exact yS (zY e)) (zU _ e)
  ·show Value.bool _=Value.bool _;have:=range_any bs;simp?[zH,zD];rw[this]
end
def QM(hc:X.calm=true)(B:rf X "any" (.builtin "any"))(he:starEach [e] X.env=(false,eval e X.env)::starEach [] X.env)(ha:DA X [e] fs):DE X (.Call (.Name "any" p) [e] [] pos) (bw (λds=>(oneOf ds).bind λd=>match d with
 | .list es=>(boolsOf es).map λbs=>.bool (bs.any id)
 | _=>none) fs) :=
 lu (B9 hc) (by
  sleep 41;let⟨x,hx,hg⟩:=bs hg;rw[gG hx] at r;cases x<;>try cases hg
  let⟨bs,hb,rfl⟩:=ae hg;let⟨v,r',rfl,a,b⟩:=r.cons_inv;rw[b.nil_inv];simp?[Rep] at a;let⟨p,us,rfl,h,rr⟩:=a;rw[jd hb] at rr;have:=mW rr;subst this;exact⟨p,bs,rfl,sm.seq h,q _ H HF (.refl sm) (by simp[Rep])⟩) B ha (by decide) (by decide) he rfl
def pU(ns:Γ Int):∀j:Nat,preSum (λi=>ns.getD i 0) j=(ns.take j).sum
 | 0=>by simp[preSum]
 | j+1=>by
  rw[preSum,pU ns j,wU,List.sum_append]
  congr 1
  rw[zG];cases ns[j]?<;>simp
def uP(val:Nat->Int)(B:Int)(h:∀i,-B<=val i/\val i<=B):∀j:Nat,-(B * j)<=preSum val j/\preSum val j<=B * j
 | 0=>by simp[preSum]
 | j+1=>by
  have ih:=uP val B h j;have:=h j;rw[preSum];have e:B * ((j+1:Nat):Int)=B * (j:Int)+B:=by rw[Int.natCast_add,Int.mul_add];simp
  rw[e];lia
def PJ(ns:Γ Int):θ:=decide (ns.length<=1000)&&ns.all λn=>decide (-1000000<=n)&&decide (n<=1000000)
def NV(h:PJ ns=true):ns.length<=1000/\∀i,-1000000<=ns.getD i 0/\ns.getD i 0<=1000000:=by
 unfold PJ at h;rw[zF,zJ,xH] at h;refine⟨h.1,λi=>?_⟩;rw[zG];cases e:ns[i]? with
 | none=>simp
 | some n =>
  have:=h.2 n (qC e);sleep 14
def rh{ns:Γ Int}{its:Γ Θ}(r:aH (ns.map V.int) its){i:Nat}(h:its.toArray[i]?=some v):∃t,v=.int (ns.getD i 0) t:=by
 rw[vW] at h
 induction ns generalizing its i with
 | nil=>cases r;simp at h
 | cons n ns ih =>
  cases r with
  | cons r1 rr =>
   cases i with
   | zero =>
    simp?[xR,yL] at h;subst h;let⟨t,rfl⟩:=r1;exact⟨t,rfl⟩
   | succ i =>
    simp?[yZ] at h;exact ih rr h
def CD(hc:X.calm=true):gg X (.builtin "sum") (λxs H Q=>∃ (a:Ψ) (ns:Γ Int),xs=[.ref a]/\(gN X.K H a (ns.map V.int)\/gQ X.K H a (ns.map V.int))/\PJ ns=true/\Q (.int ns.sum) H):=by
 sleep 20;let⟨a,ns,rfl,hq,Wn,q⟩:=h;sleep 46;cases rx;have hh:X.A.in1.handled=none:=I.ok.hd hc;let⟨hlen,hbd⟩:=NV Wn;have ZT:∀n:Nat,n<=1000->∀j,j < n->InLong ((λi=>ns.getD i 0) j)/\InLong (preSum (λi=>ns.getD i 0) (j+1)):=λn hn j hj=>by
  have h1:=hbd j;have h2:=uP (λi=>ns.getD i 0) 1000000 hbd (j+1);refine⟨⟨?_,?_⟩,?_,?_⟩
  ·show -(2 ^ 63)<=ns.getD j 0;lia
  ·show ns.getD j 0 < 2 ^ 63;lia
  ·lia
  ·lia
 have aca:preSum (λi=>ns.getD i 0) ns.length=ns.sum:=by rw[pU,List.take_length]
 rcases hq with hq|hq
 ·let⟨its,rv,pl,hz⟩:=I.list hq;have hl:its.length=ns.length:=by rw[<- rv.length,zD]
  refine call_sum_walk (qL pl.isList ?_);let⟨o,ho,Yk,n,hd⟩:=pl.isList;have WK:=zY ho;have WN:a≠s.heap.objs.size:=yS WK;refine⟨_,_,_,_,_,_,λi=>ns.getD i 0,rfl,Walks.list hh s.heap.objs.size a WN its.toArray,⟨⟨_,zX _ rfl,rfl,rfl⟩,pl.isList.push _⟩,λb hb=>?_,λi v hP=>rh rv hP,by rw[zH,hl];exact ZT _ hlen,λh' tk t' kp=>?_⟩
  ·show b < (s.heap.push _).objs.size;rw[xK];simp?[zQ,yF,xV] at hb;rcases hb with rfl|rfl
   ·exact kO _
   ·exact jO WK
  ·refine⟨.int ns.sum,H,I.kept (t':=tk) λb o' e=>kp b o' (by simp;exact yS (zY e)) (zU _ e),⟨t',?_⟩,q⟩;rw[zH,hl,aca]
 ·let⟨its,rv,pl,hz⟩:=I.tuple hq;have pl:s.heap.IsTuple a its.toArray:=pl;have hl:its.length=ns.length:=by rw[<- rv.length,zD]
  refine call_sum_walk (xS pl ?_);let⟨o,ho,Yk,n,hd⟩:=id pl;have WK:=zY ho;have WN:a≠s.heap.objs.size:=yS WK;refine⟨_,_,_,_,_,_,λi=>ns.getD i 0,rfl,Walks.tuple hh s.heap.objs.size a WN its.toArray,⟨⟨_,zX _ rfl,rfl,rfl⟩,pl.push _⟩,λb hb=>?_,λi v hP=>rh rv hP,by rw[zH,hl];exact ZT _ hlen,λh' tk t' kp=>?_⟩
  ·show b < (s.heap.push _).objs.size;rw[xK];simp?[zQ,yF,xV] at hb;rcases hb with rfl|rfl
   ·exact kO _
   ·exact jO WK
  ·refine⟨.int ns.sum,H,I.kept (t':=tk) λb o' e=>kp b o' (by simp;exact yS (zY e)) (zU _ e),⟨t',?_⟩,q⟩;rw[zH,hl,aca]
def ug:Γ D->Δ D:=λds=>(et ds).bind λes=>(intsOf es).bind λns=>if PJ ns=true then some (.int ns.sum) else none
def iR{K:Φ}:∀ {ns:Γ Int}{vs:Γ V},aq K H (ns.map PyData.int) vs->vs=ns.map V.int
 | [],vs,h=>h.nil_inv
 | b::bs,vs,h=>by
  let⟨v,r,rfl,a,c⟩:=h.cons_inv;simp?[Rep] at a;rw[a,iR c];rfl
def Pp(hc:X.calm=true)(B:rf X "sum" (.builtin "sum"))(he:starEach [e] X.env=(false,eval e X.env)::starEach [] X.env)(ha:DA X [e] fs):DE X (.Call (.Name "sum" p) [e] [] pos) (bw ug fs) :=
 lu (CD hc) (by
  sleep 41;let⟨es,h1,hg⟩:=bs hg;let⟨ns,h2,hg⟩:=bs hg;have hg:(if PJ ns=true then some (PyData.int ns.sum) else none)=some d:=hg;split at hg
  ·rename_i Wn;cases hg;have e2:=dI h2;subst e2;rcases lG h1 with rfl|rfl
   all_goals
    let⟨v,r',rfl,a,b⟩:=r.cons_inv;rw[b.nil_inv];simp?[Rep] at a;let⟨p,us,rfl,h,rr⟩:=a;have:=iR rr;subst this
   ·exact⟨p,ns,rfl,.inr (aE sm h),Wn,q _ H HF (.refl sm) (by simp[Rep])⟩
   ·exact⟨p,ns,rfl,.inl (sm.seq h),Wn,q _ H HF (.refl sm) (by simp[Rep])⟩
  ·cases hg) B ha (by decide) (by decide) he rfl
def Rg(i:Int):Θ->θ|.int a _=>a == i|_=>false
def E6:Ro X "list.index" (λx vs H Q=>∃ (l:Ψ) (ns:Γ Int) (i:Int) (j:Nat),x=.ref l/\vs=[.int i]/\gN X.K H l (ns.map V.int)/\ns[j]?=some i/\(∀m,m < j->ns[m]?≠some i)/\Q (.int j) H):=by
 sleep 28;let⟨l,ns,i,j,rfl,rfl,hq,hj,hno,q⟩:=h;cases rx;let⟨u,rfl,ru⟩:=rv.one;let⟨t,rfl⟩:=ru;let⟨its,r,pl,hz⟩:=I.list hq;let⟨⟨cls,dd,data,sl⟩,ho,hc,n,hd⟩:=id pl.isList;simp only at hc hd;subst hc hd;have hl:its.length=ns.length:=by rw[<- r.length,zD]
 have hj1:j < ns.length:=(List.getElem?_eq_some_iff.mp hj).1;have hz':ns.length<=sizeLine:=by rw[zD] at hz;exact hz
 have ahH:(sizeLine:Nat) < 2 ^ 62:=by decide
 have at_:∀m (hm:m < its.toArray.size),∃t',its.toArray[m]=.int (ns.getD m 0) t':=λm hm=>rh r (jZ hm);refine qY F.slot_list_index ⟨_,ho,rfl⟩ F.entry_list_index (F.args_list_index_2 _ _) (PySem.SeqAt.list_indexAt l its.toArray n dd sl (.int i t) (Rg i) j (by rw[zH,hl];exact hj1) (by lia) ?_ ?_) ⟨ho,?_,?_⟩
 ·let⟨t',e⟩:=at_ j (by rw[zH,hl];exact hj1);rw[e,Rg,zG,hj];simp
 ·intro m hm hmj;let⟨t',e⟩:=at_ m hm;have Xs:m < ns.length:=by lia
  have:=hno m hmj;rw[e,Rg,zG];rw[zK Xs] at this ⊢;simp?[qH,beq_eq_false_iff_ne];exactλh=>this (by rw[h])
 ·intro y hy;let⟨m,hm,rfl⟩:=Array.getElem_of_mem hy;let⟨t',e⟩:=at_ m hm;rw[e];exact PySem.SeqAt.EqAt.int_int _ _ _ _
 ·exact⟨.int j,H,I.tok _,⟨_,rfl⟩,q⟩
def Af(i:Int):Γ Int->Δ Nat
 | []=>none
 | n::ns=>if n=i then some 0 else (Af i ns).map (·+1)
def oS:∀ {ns:Γ Int}{j:Nat},Af i ns=some j->ns[j]?=some i/\∀m,m < j->ns[m]?≠some i
 | [],j,h=>by cases h
 | n::ns,j,h=>by
  unfold Af at h;split at h
  ·cases h;rename_i e;exact⟨by rw[e];rfl,λm hm=>absurd hm (vQ _)⟩
  ·rename_i e;let⟨k,hk,rfl⟩:=ae h;let⟨a,b⟩:=oS hk;refine⟨by simpa using a,λm hm=>?_⟩;cases m with
   | zero=>simpa using e
   | succ m=>simpa using b m (by lia)
def Ux:D->D->Δ D
 | .list es,.int i=>(intsOf es).bind λns=>(Af i ns).map λj=>.int ((j:Nat):Int)
 | _,_=>none
def Hs{fo:Env->Δ D}(W4:attributeBase o "index" X.env (eval o X.env)=eval o X.env)
  (W7:((backTo Wq (starEach [e] X.env)).all (λx=>!x.1)&&(backToKw Wq (keywordEach [] X.env)).all (λx=>x.1.isSome)&&decide ([e].length+([]:Γ Keyword).length+(if ([]:Γ Keyword).isEmpty then 0 else 1) < 30))=true)
  (Wt:(apos.endLine == Wq.line)=true) (hs:starEach [e] X.env=(false,eval e X.env)::starEach [] X.env) (ho:DE X o fo) (he:DE X e fe):DE X (.Call (.Attribute o "index" apos) [e] [] Wq) (f2 Ux fo fe) :=
 aL (tK qP PySem.F.slot_list_index PySem.F.type_list_index E6 ho (bu he da hs) W4 W7 Wt hs rfl) λσ H Q z=>by
  sleep 1;sleep 8;let⟨y,hy,hg⟩:=bs hf;sleep 21;cases x<;>try cases hg
  cases y<;>try cases hg
  rename_i es i;let⟨ns,h1,hg⟩:=bs hg;let⟨j,h2,rfl⟩:=ae hg;have e1:=dI h1;subst e1;simp?[Rep] at r1;let⟨l,us,rfl,hq,rr⟩:=r1;have:=iR rr;subst this;refine⟨.inl ⟨rfl,_,g1.fh.seq hq⟩,Wj,ρ,.int i,g1.fh,eo.mono g1.ff,hy,λv2 H2 WD g2 r2=>?_⟩;simp?[Rep] at r2;let⟨a,b⟩:=oS h2;exact⟨l,ns,i,j,rfl,by rw[r2],g2.fh.seq (g2.ff.seq hq),a,b,q _ H2 WD (g1.trans g2) (by simp[Rep])⟩
abbrev Uq(X:Cx):=tupleKind (nX X.prog X.w)
def rO{P:ε}{w:δ}:∀ {ns:Γ Int}{us:Γ Θ},aH (ns.map V.int) us->ItemsAre (nX P w) (ns.map Sum.inl) us
 | [],_,r=>by cases r;exact .nil
 | n::ns,_,r=>by
  rw[zI] at r ⊢;cases r with
  | cons h t=>let⟨t',rfl⟩:=h;exact .cons (zm P w n t') (rO t)
def yz{X:Cx}{ns:Γ Int}(I:Inv X pins σ H s)(h:gQ X.K H b (ns.map V.int)):(Uq X).is s.heap (ns.map Sum.inl) b:=by
 let⟨its,rv,⟨o,h1,h2,n,h3⟩,_⟩:=I.tuple h;exact⟨o,its.toArray,n,h1,h2,h3,by simpa using rO rv⟩
def JX{X:Cx}{xs:Γ (Γ ph×Ψ×Θ)}(I:Inv X pins σ H s)(e:H a=some (.dT xs))(k:Gd X.K H xs):xs.length<=sizeLine/\(a == sysModules)=false/\s.heap.DictOfH (Uq X) a xs:=by
 let⟨z,y,o,es,ep,h1,h2,h3,h4,h5⟩:=(show ej X.prog X.w H s.heap a (.dT xs) from I.Wn a _ e)
 refine⟨z,y,o,es,ep,h1,h2,h3,h4,λx hx=>?_,h5⟩;let⟨ns,q1,q2⟩:=k x hx;rw[q1];exact yz I q2
def UM(K:Φ):R2:=λx y H Q=>∃ (b:Ψ) (ns:Γ Int) (a:Ψ) (xs:Γ (Γ ph×Ψ×Θ)),x=.ref b/\gQ K H b (ns.map V.int)/\y=.ref a/\H a=some (.dT xs)/\Gd K H xs/\Q (.bl (atKey xs (ns.map Sum.inl)).isSome) H
def Qw{X:Cx}(hu:X.A.units+1 < cLine):gO X (compareOp .In) (UM X.K):=by
 sleep 11;let⟨b,ns,a,xs,rfl,hb,rfl,ha,hk,q⟩:=h;cases rx;cases ry;let⟨z,hd,dd⟩:=JX I ha hk;exact wpAny_in_heap (tupleKind_room_in1 hu) (yz I hb) hd dd ⟨.bl _,H,I.tok _,rfl,q⟩
def Tj(K:Φ):V->V->V->Hp->(Hp->Prop)->Prop:=λo i v H Q=>∃ (a:Ψ) (xs:Γ (Γ ph×Ψ×Θ)) (b:Ψ) (ns:Γ Int),o=.ref a/\i=.ref b/\H a=some (.dT xs)/\gQ K H b (ns.map V.int)/\Gd K H xs/\xs.length < sizeLine/\∀u:Θ,Q (upd H a (.dT (storedH xs (ns.map Sum.inl) b u)))
def BX{xs:Γ (Γ ph×Ψ×Θ)}{k:Γ ph}{b:Ψ}{u:Θ}(h:xs.length < sizeLine):(storedH xs k b u).length<=sizeLine:=by
 unfold storedH;split
 ·rw[zD];lia
 ·rw[zN,zL,xM];lia
def M0{X:Cx}(hu:X.A.units+1 < cLine):Qb X (Tj X.K):=by
 intro pins s σ H o i v ov iv u Q I ro ri rv h;let⟨a,xs,b,ns,rfl,rfl,ha,hb,hk,hl,q⟩:=h;cases ro;cases ri;let⟨z,hd,dd⟩:=JX I ha hk;refine wpAny_setItem_heap (hsz:=z) (tupleKind_room_in1 hu) (yz I hb) dd λh' dd' hs=>?_;let⟨q',es,ep,hq,h2,h3,h4,_,h5⟩:=dd';exact⟨_,I.write (o:=.dT (storedH xs (ns.map Sum.inl) b u)) (x:=a) (e:=a) (by rw[ha];exact True.intro) (.inl rfl) (λc w' hc z=>(hs.2 c hc).trans z) ⟨q',hq⟩ ⟨BX hl,hd,q',es,ep,hq,h2,h3,h4,h5⟩,q u⟩
def RE(K:Φ)(tk tv:TE):TE:=λσ H Q=>∀p,H p=none->tk σ (upd H p (.dT [])) λx H1=>tv σ H1 λ_ H2=>∃ (b:Ψ) (ns:Γ Int),x=.ref b/\gQ K H2 b (ns.map V.int)/\H2 p=some (.dT [])/\∀u:Θ,Q (.ref p) (upd H2 p (.dT [(ns.map Sum.inl,b,u)]))
def KY{X:Cx}{k v:γ}(hu:X.A.units+1 < cLine)(hk:PE X k tk)(hv:PE X v tv):PE X (.Dict [some k] [v] pos) (RE X.K tk tv):=by
 intro pins s σ H Q I q;have hn:=I.Wn.fresh (yN s.heap.objs.size);have big:sysModules < s.heap.objs.size:=wN (by decide) (show mainGlobals < s.heap.objs.size from (I.mod.glob.keeps I.bk).lt);have I1:=I.laid (a:=s.heap.objs.size) (o:=.dT []) (h':=s.heap.push { cls:=.type "dict",data:=.dict #[] }) (t':=s.toks) (λ_ _ q=>zU _ q) (yN _)
  ⟨xW _,beq_eq_false_iff_ne.mpr (jN (yS big)),_,#[],0,zX _ rfl,⟨rfl,rfl,rfl⟩,rfl,rfl,List.nodup_nil⟩
 rw[arm_eval_Dict,zip_pairTrees _ _ _ _ rfl rfl,dictDisplay_pairs _ (by simp[pairTrees]) (by simp[pairTrees])];refine zV (vD (zV ?_));unfold subDict;refine zV (wpAny_alloc ?_);refine zV (xY ?_);rw[yM (by simp[pairTrees])];refine zV (pairTrees_cons_walk (bV (hk pins _ σ _ _ I1 (q _ hn)) λu s1 ⟨x,H1,J1,rx,q1⟩=>bV (hv pins s1 σ H1 _ J1 q1) λw2 s2 ⟨y,H2,J2,ry,b,ns,e,hb,hp,q2⟩=>pairTrees_nil_walk ?_));subst e;cases rx;refine xY ?_;let⟨z,hd,dd⟩:=JX J2 hp (λx hx=>by cases hx);show wpAny _ _ (forIn [(Value.ref b,w2)] _ _ >>= _) _ _ _;rw[List.forIn_cons];refine zV (zV (zV (wpAny_dictSet_heap (hsz:=z) (show (Uq X).room X.A from Nat.lt_of_succ_lt hu) (yz J2 hb) dd λh' dd' hs=>?_)));let⟨q',es,ep,hq,h2,h3,h4,_,h5⟩:=dd';refine zW (zW (zW (zW (zW ⟨.ref _,_,?_,rfl,q2 w2⟩))));exact J2.write (o:=.dT [(ns.map Sum.inl,b,w2)]) (x:=s.heap.objs.size) (e:=s.heap.objs.size) (by rw[hp];exact True.intro) (.inl rfl) (λc w' hc z=>(hs.2 c hc).trans z) ⟨q',hq⟩ ⟨by rw[qV];simp,hd,q',es,ep,hq,h2,h3,h4,h5⟩
def wa:Slot->θ|.tab _=>false|_=>true
def fH.aem{K:Φ}{xs:Γ (Γ ph×Ψ×Θ)}{ks:Γ (Γ Int)}(S:fH K Wg H₀ HF H ρ σ)(h1:H a=some (.dT xs))(h2:HF a=none)(h3:H₀ a=none)(h4:xs.map (·.1)=ks.map (·.map Sum.inl))(h5:Gd K HF xs)(nt:ρ.all wa=true) :
  fH K Wg H₀ HF H (ρ.set i (.tab ks)) (σ.set i (some (.ref a))):=by
 have old:∀ {j:Nat}{t:Slot},(ρ.set i (.tab ks))[j]?=some t->wa t=true->i≠j/\ρ[j]?=some t:=λ{j t} h hn=>by
  rw[xJ] at h;sleep 39
  ·rw[yM Wo] at h;split at h
   ·cases h;cases hn
   ·cases h
  ·rw[yO Wo] at h;exact⟨Wo,h⟩
 have new:∀ {j:Nat}{ls:Γ (Γ Int)},(ρ.set i (.tab ks))[j]?=some (.tab ls)->i=j/\ls=ks/\i < ρ.length:=λ{j ls} h=>by
  rw[xJ] at h;sleep 39
  ·rw[yM Wo] at h;split at h
   ·rename_i hl;cases h;exact⟨Wo,rfl,Wo ▸ hl⟩
   ·cases h
  ·rw[yO Wo] at h;have:=List.all_eq_true.mp nt _ (qC h);cases this
 refine⟨S.gr,λj e h=>?_,λj es h=>?_,λj k xs ys b e1 e2 e3 e4=>?_,by rw[yC,yC];exact S.len,S.tb,λj ls h=>?_,λj k ls ms g1 g2=>(new g1).1.symm.trans (new g2).1,λj k h=>by rw[xJ,yO (old h rfl).1];exact S.ob j k (old h rfl).2⟩
 ·let⟨Wo,h⟩:=old h rfl;rw[xJ,yO Wo];exact S.val j e h
 ·let⟨Wo,h⟩:=old h rfl;rw[xJ,yO Wo];exact S.own j es h
 ·let⟨n1,e1⟩:=old e1 rfl;let⟨n2,e2⟩:=old e2 rfl;rw[xJ,yO n1] at e3;rw[xJ,yO n2] at e4;exact S.inj j k xs ys b e1 e2 e3 e4
 ·let⟨rfl,rfl,hl⟩:=new h;rw[xJ,yM rfl,yM (zP hl S.len)];exact⟨a,xs,rfl,h1,h2,h3,h4,h5⟩
def fH.aen{K:Φ}{xs:Γ (Γ ph×Ψ×Θ)}{ks:Γ (Γ Int)}(S:fH K Wg H₀ HF H ρ σ)(h:ρ[i]?=some (.tab ls))(ha:σ[i]?=some (some (.ref a)))(h4:xs.map (·.1)=ks.map (·.map Sum.inl))(h5:Gd K HF xs) :
  fH K Wg H₀ HF (upd H a (.dT xs)) (ρ.set i (.tab ks)) σ:=by
 let⟨a',ys,e1,e2,e3,e5,_⟩:=S.tab i ls h;rw[ha] at e1;cases e1;have hl:i < ρ.length:=(List.getElem?_eq_some_iff.mp h).1;have gr:bh Wg H₀ HF (upd H a (.dT xs)):=⟨λb o e=>by rw[ak (aG e e5)];exact S.gr.hh b o e,S.gr.ff,λb o e=>by rw[ak (aG e e3)];exact S.gr.fh b o e,S.gr.nw⟩
 have old:∀ {j:Nat}{t:Slot},(ρ.set i (.tab ks))[j]?=some t->wa t=true->ρ[j]?=some t:=λ{j t} h hn=>by
  rw[xJ] at h;sleep 39
  ·rw[yM Wo,yM hl] at h;cases h;cases hn
  ·rw[yO Wo] at h;exact h
 have new:∀ {j:Nat}{ms:Γ (Γ Int)},(ρ.set i (.tab ks))[j]?=some (.tab ms)->i=j/\ms=ks:=λ{j ms} g=>by
  rw[xJ] at g;sleep 39
  ·rw[yM Wo,yM hl] at g;cases g;exact⟨Wo,rfl⟩
  ·rw[yO Wo] at g;exact absurd (S.one i j ls ms h g) Wo
 refine⟨gr,λj e g=>S.val j e (old g rfl),λj es g=>?_,λj k xs ys b f1 f2=>S.inj j k xs ys b (old f1 rfl) (old f2 rfl),by rw[yC];exact S.len,S.tb,λj ms g=>?_,λj k ms qs g1 g2=>(new g1).1.symm.trans (new g2).1,λj k h=>S.ob j k (old h rfl)⟩
 ·let⟨b,vs,f1,f2,f3,f5,f4⟩:=S.own j es (old g rfl);refine⟨b,vs,f1,?_,f3,f5,f4⟩;rw[ak λz=>by rw[z,e2] at f2;cases f2];exact f2
 ·let⟨rfl,rfl⟩:=new g;exact⟨a,xs,ha,aw,e3,e5,h4,h5⟩
def BO:Δ Slot->Δ (Γ Int)
 | some (.val d)=>ma d
 | _=>none
def pA{K:Φ}{ρ:aj}{σ:L2.St}{i:Nat}(S:fH K Wg H₀ HF H ρ σ)(h:BO ρ[i]?=some ns):∃b,σ[i]?=some (some (V.ref b))/\gQ K HF b (ns.map V.int):=by
 cases hd:ρ[i]? with
 | none=>rw[hd] at h;cases h
 | some t =>
  rw[hd] at h;cases t with
  | val d =>
   have h:ma d=some ns:=h;let⟨v,e1,r⟩:=S.val i d hd;rw[nu h] at r;simp?[Rep] at r;let⟨b,vs,rfl,hs,rr⟩:=r;rw[iR rr] at hs;exact⟨b,e1,hs⟩
  | _=>cases h
def tabS:Δ Slot->Δ (Γ (Γ Int))
 | some (.tab ks)=>some ks
 | _=>none
def o8{ρ:aj}{i:Nat}(h:tabS ρ[i]?=some ks):ρ[i]?=some (.tab ks):=by
 cases hd:ρ[i]? with
 | none=>rw[hd] at h;cases h
 | some t =>
  rw[hd] at h;cases t with
  | tab ls=>cases h;rfl
  | obj ls=>cases h
  | _=>cases h
def GC:∀ {a b:Γ Int},(a.map Sum.inl:Γ ph)=b.map Sum.inl->a=b
 | [],[],_=>rfl
 | [],_::_,h=>by simp at h
 | _::_,[],h=>by simp at h
 | x::a,y::b,h=>by
  rw[zI,zI] at h;injection h with h1 h2
  injection h1 with h1
  rw[h1,GC h2]
def NQ{xs:Γ (Γ ph×Ψ×Θ)}{ks:Γ (Γ Int)}{ns:Γ Int}(h:xs.map (·.1)=ks.map (·.map Sum.inl)):(atKey xs (ns.map Sum.inl)).isSome=ks.contains ns:=by
 rw[Bool.eq_iff_iff,List.contains_iff_mem];unfold atKey;rw[Option.isSome_map,List.find?_isSome];constructor
 ·rintro⟨x,h1,h2⟩;have:x.1∈ks.map (·.map Sum.inl):=h ▸ List.mem_map_of_mem h1;rw[yR h2] at this;let⟨k,h3,h4⟩:=List.mem_map.mp this;exact GC h4 ▸ h3
 ·intro z;have:(ns.map Sum.inl:Γ ph)∈xs.map (·.1):=h ▸ List.mem_map.mpr ⟨ns,z,rfl⟩;let⟨x,h1,h2⟩:=List.mem_map.mp this;exact⟨x,h1,yA h2⟩
def uK(i j:Nat)(g1 g2:aj->Δ Out):aj->Δ Out:=λρ=>(BO ρ[i]?).bind λns=>(tabS ρ[j]?).bind λks=>if ks.contains ns=true then g1 ρ else g2 ρ
def MN{X:Cx}(i j:Nat)(hu:X.A.units+1 < cLine)(hN:X.N[i]?=some x)(hv:rP X.env.scope x)(hN':X.N[j]?=some y)(hv':rP X.env.scope y)(ha:C2 X Wg H₀ a g1)(hb:C2 X Wg H₀ b g2)
  (hd:(x == ("__debug__":Str))=false) (WB:(x == ("__classdict__":Str))=false) (Yi:(y == ("__debug__":Str))=false) (aaU:(y == ("__classdict__":Str))=false) :
  DS X Wg H₀ (.If (.Compare (.Name x px) [.In] [.Name y py] cp) a b pos) (uK i j g1 g2) :=
 bf (EH (xn (Qw hu) (bA hN hv hd WB) (bA hN' hv' Yi aaU) rfl) ha hb) λE σ H z=>by
  sleep 12;let⟨ns,h1,hg⟩:=bs hg;let⟨ks,h2,hg⟩:=bs hg;let⟨b,e1,hs⟩:=pA S h1;let⟨a,xs,f1,f2,f3,f5,f4,fk⟩:=S.tab j ks (o8 h2);refine⟨_,e1,_,f1,b,ns,a,xs,rfl,aE S.gr.fh hs,rfl,f2,fk.mono S.gr.fh,_,rfl,?_⟩;rw[NQ f4];cases hc:ks.contains ns with
  | true=>rw[hc] at hg;exact sV ⟨HF,ρ,o,S,hg,q⟩
  | false=>rw[hc] at hg;exact qh ⟨HF,ρ,o,S,hg,q⟩
def rQ(j i:Nat)(f:Env->Δ D):aj->Δ Out:=λρ=>(BO ρ[i]?).bind λns=>(tabS ρ[j]?).bind λks=>(f (aP ρ)).bind λd=>if (lj d&&decide (ks.length < sizeLine))=true then some (.nx (ρ.set j (.tab (if ks.contains ns=true then ks else ks++[ns])))) else none
def zk{xs:Γ (Γ ph×Ψ×Θ)}{ks:Γ (Γ Int)}{ns:Γ Int}(h:xs.map (·.1)=ks.map (·.map Sum.inl)):(storedH xs (ns.map Sum.inl) b u).map (·.1)=(if ks.contains ns=true then ks else ks++[ns]).map (·.map Sum.inl):=by
 unfold storedH;rw[NQ h];split
 ·rw[<- h,zM];refine yI λx _=>?_;show (putAt _ _ x).1=x.1;unfold putAt;split<;>rfl
 ·rw[jB,jB,h];rfl
def Gd.stored{K:Φ}{xs:Γ (Γ ph×Ψ×Θ)}{ns:Γ Int}(h:Gd K HF xs)(hb:gQ K HF b (ns.map V.int)):Gd K HF (storedH xs (ns.map Sum.inl) b u):=λx hx=>by
 unfold storedH at hx;split at hx
 ·let⟨y,hy,rfl⟩:=List.mem_map.mp hx;let⟨ms,e1,e2⟩:=h y hy;refine⟨ms,?_,?_⟩<;>(unfold putAt;split<;>assumption)
 ·rcases List.mem_append.mp hx with hx|hx
  ·exact h x hx
  ·rw[yK] at hx;subst hx;exact⟨ns,rfl,hb⟩
def ME{X:Cx}(j i:Nat)(hu:X.A.units+1 < cLine)(hN:X.N[i]?=some x)(hv:rP X.env.scope x)(hN':X.N[j]?=some y)(hv':rP X.env.scope y)(h:DE X e2 f)
  (hd:(x == ("__debug__":Str))=false) (WB:(x == ("__classdict__":Str))=false) (Yi:(y == ("__debug__":Str))=false) (aaU:(y == ("__classdict__":Str))=false)
  (ha:∀v,assign (.Subscript (.Name y py) (.Name x px) WS) X.env v=(do
   let ov <- holding [v] (eval (.Name y py) X.env)
   let iv <- holding [v,ov] (eval (.Name x px) X.env)
   standAt WS
   holding [v,ov,iv] (setItem ov iv v)
   release [v,ov,iv] []):=by intro _;rfl)
  (hs:swapsWithSole [.Subscript (.Name y py) (.Name x px) WS] e2 pos.line X.env=pure false:=by rfl) (hw:swappedStores [.Subscript (.Name y py) (.Name x px) WS] e2 X.env=pure none:=by rfl)
  (h1:(assignEach [.Subscript (.Name y py) (.Name x px) WS] X.env).map (·.2)=[assign (.Subscript (.Name y py) (.Name x px) WS) X.env]:=by rfl) :
  DS X Wg H₀ (.Assign [.Subscript (.Name y py) (.Name x px) WS] e2 pos) (rQ j i f) :=
 bf (Il h (Gh (bA hN' hv' Yi aaU) (bA hN hv hd WB) (M0 hu) ha) hs hw h1) λE σ H z=>by
  sleep 12;let⟨ns,h1,hg⟩:=bs hg;let⟨ks,h2,hg⟩:=bs hg;let⟨d,h3,hg⟩:=bs hg;split at hg
  ·rename_i hc;rw[zF,zJ] at hc;cases hg;refine⟨H,aP ρ,d,.refl _,S.all,h3,λv H' Wi G r=>?_⟩;have S':=S.step G.hh;let⟨b,e1,hs⟩:=pA S' h1;let⟨a,xs,f1,f2,f3,f5,f4,fk⟩:=S'.tab j ks (o8 h2);refine⟨_,f1,_,e1,a,xs,b,ns,rfl,rfl,f2,aE S'.gr.fh hs,fk.mono S'.gr.fh,?_,λu=>q σ _ HF (S'.aen (o8 h2) f1 (zk f4) (fk.stored hs)) (.refl _)⟩;have:=jD List.length f4;rw[zD,zD] at this;lia
  ·cases hg
def vt(j i:Nat)(f:Env->Δ D):aj->Δ Out:=λρ=>(BO ρ[i]?).bind λns=>(f (aP ρ)).bind λd=>if (lj d&&ρ.all wa)=true then some (.nx (ρ.set j (.tab [ns]))) else none
def Mo{X:Cx}(j i:Nat)(hu:X.A.units+1 < cLine)(hN:X.N[i]?=some x)(hv:rP X.env.scope x)(hd:(x == ("__debug__":Str))=false)(WB:(x == ("__classdict__":Str))=false)(h:DE X e2 f)(hN':X.N.Nodup)(hi:X.N[j]?=some y)(hy:Loc X.env.scope y)
  (hs:swapsWith (.Dict [some (.Name x px)] [e2] dp) (some (.Name y pos')) pos.line X.env=pure false:=by rfl)
  (hf:X.fn y=true\/X.env.scope.names.lookup y=some .local:=by first|exact .inl rfl|exact .inr rfl|assumption):DS X Wg H₀ (.Assign [.Name y pos'] (.Dict [some (.Name x px)] [e2] dp) pos) (vt j i f) :=
 bf (pC hN' hi hy (KY hu (bA hN hv hd WB) h) hs hf) λE σ H z=>by
  sleep 12;let⟨ns,h1,hg⟩:=bs hg;let⟨d,h3,hg⟩:=bs hg;split at hg
  ·rename_i hc;rw[zF] at hc;cases hg;let⟨b,e1,hs⟩:=pA S h1;refineλp hp=>⟨_,e1,upd H p (.dT []),aP ρ,d,.refl _,?_,h3,λv H' Wi G r=>?_⟩
   ·exact (S.step (cq hp)).all
   ·have S':=(S.step (cq hp)).step G.hh;have ZQ:H' p=some (.dT []):=G.hh _ _ aw;refine⟨b,ns,rfl,aE S'.gr.fh hs,ZQ,λu=>?_⟩;have S2:fH X.K Wg H₀ HF (upd H' p (.dT [(ns.map Sum.inl,b,u)])) ρ σ:=S.step λc w' e=>by rw[ak (aG e hp)];exact G.hh c w' (cq hp c w' e)
    exact q _ _ HF (S2.aem (i:=j) aw (S.gr.fh.free hp) (S.gr.hh.free hp) rfl (λx hx=>by rw[yK] at hx;subst hx;exact⟨ns,rfl,hs⟩) hc.2) (.refl _)
  ·cases hg
end Dl
namespace Tx
open PySem PySem.SeqAt PyProof.Rows
open PySem.AutoSeq1 (wpAny_loadPart')
open PySem.MeetsSeq PySem.MeetsSeq2 PySem.MeetsSeq3
def wpR(f:Nat->β->Sem (ForInStep β))(I:Γ Nat->β->Ξ->Prop)(Q:β->Ξ->Prop)
  (turn:∀x rest b s,I (x::rest) b s->wpAny M A (f x b) (λr s'=>match r with|.yield b'=>I rest b' s'|.done b'=>Q b' s') E s)
  (fin:∀b s,I [] b s->Q b s) (n:Nat) (b:β) (h:I (List.range' 0 n 1) b s):wpAny M A (forIn [:n] b f) Q E s:=by
 have e:forIn [:n] b f=forIn (List.range' 0 n 1) b f:=by
  rw[Std.Legacy.Range.forIn_eq_forIn_range'];simp[Std.Legacy.Range.size]
 rw[e];exact wpAny_forIn_list f I Q turn fin _ b h
def XA(l:Ψ)(items:Array Θ)(n:Nat)(dd:Δ Ψ)(sl:Array (Δ Θ))(x:Θ)(e:Θ->θ)(j:Nat)(hj:j < items.size)(h1:e items[j]=true)(h2:∀m (hm:m < items.size),m < j->e items[m]=false) :
  Meets (Builtin.«tuple.index» ⟨[.ref l,x],[]⟩)
   (λA R s=>s.heap.get? l=some { cls:=.type "tuple",dict:=dd,data:=.seq items n,slots:=sl }/\(∀y,y∈items->EqAt A.in1 s y x (e y))/\R (.ok (.ret (.int (j:Nat) s.toks))) { s with toks:=s.toks+1 }) :=
 .of_wp λprog w A R s h=>by
  let⟨hp,g,d,tk,os⟩:=s;let⟨hl,he,h⟩:=h
  wp_walk using wpAny_loadPart' hl,wpR _ (λrest b s'=>s'=⟨hp,g,d,tk,os⟩/\b.1=none/\∃i,i<=j/\rest=List.range' i (items.size - i) 1) _
  case turn =>
   rintro i rest b s' ⟨rfl,hb,i',hi,e1⟩;have WK:i' < items.size:=by lia
   rw[show items.size - i'=(items.size - (i'+1))+1 by lia,vG] at e1;injection e1 with e2 e3
   subst e2;subst e3;simp?[jZ WK];refine zV (he _ (Array.getElem_mem WK) prog w _ _ ?_);sleep 39
   ·subst Wo;rw[h1]
    wp_walk
    sleep 56
   ·rw[h2 i WK (by lia)]
    wp_walk
    exact⟨rfl,rfl,i+1,by lia,rfl⟩
  case fin =>
   rintro b s' ⟨rfl,hb,i,hi,e1⟩;have:=jD List.length e1;simp at this;lia
  case h =>
   exact⟨rfl,rfl,0,xW _,by simp⟩
end Tx
namespace Dl
open PySem L2 PySem.Spec PyProof.Rows
def FP:Ro X "tuple.index" (λx vs H Q=>∃ (l:Ψ) (ns:Γ Int) (i:Int) (j:Nat),x=.ref l/\vs=[.int i]/\gQ X.K H l (ns.map V.int)/\ns[j]?=some i/\(∀m,m < j->ns[m]?≠some i)/\Q (.int j) H):=by
 sleep 28;let⟨l,ns,i,j,rfl,rfl,hq,hj,hno,q⟩:=h;cases rx;let⟨u,rfl,ru⟩:=rv.one;let⟨t,rfl⟩:=ru;let⟨its,r,pl,hz⟩:=I.tuple hq;let⟨⟨cls,dd,data,sl⟩,ho,hc,n,hd⟩:=id pl;simp only at hc hd;subst hc hd;have hl:its.length=ns.length:=by rw[<- r.length,zD]
 have hj1:j < ns.length:=(List.getElem?_eq_some_iff.mp hj).1;have at_:∀m (hm:m < its.toArray.size),∃t',its.toArray[m]=.int (ns.getD m 0) t':=λm hm=>rh r (jZ hm);refine qY F.slot_tuple_index ⟨_,ho,rfl⟩ F.entry_tuple_index (F.args_tuple_index_2 _ _) (Tx.XA l its.toArray n dd sl (.int i t) (Rg i) j (by rw[zH,hl];exact hj1) ?_ ?_) ⟨ho,?_,?_⟩
 ·let⟨t',e⟩:=at_ j (by rw[zH,hl];exact hj1);rw[e,Rg,zG,hj];simp
 ·intro m hm hmj;let⟨t',e⟩:=at_ m hm;have Xs:m < ns.length:=by
   rw[zH] at hm;lia
  have:=hno m hmj;rw[e,Rg,zG];rw[zK Xs] at this ⊢;simp?[qH,beq_eq_false_iff_ne];exactλh=>this (by rw[h])
 ·intro y hy;let⟨m,hm,rfl⟩:=Array.getElem_of_mem hy;let⟨t',e⟩:=at_ m hm;rw[e];exact PySem.SeqAt.EqAt.int_int _ _ _ _
 ·exact⟨.int j,H,I.tok _,⟨_,rfl⟩,q⟩
def NC(h:PE X e t)(g:PE X e u):PE X e (λσ H Q=>t σ H Q\/u σ H Q):=λpins s σ H Q I q=>q.elim (h pins s σ H Q I) (g pins s σ H Q I)
def qk:D->D->Δ D
 | .list es,.int i=>(intsOf es).bind λns=>(Af i ns).map λj=>.int ((j:Nat):Int)
 | .tuple es,.int i=>(intsOf es).bind λns=>(Af i ns).map λj=>.int ((j:Nat):Int)
 | _,_=>none
def ES{fo:Env->Δ D}(W4:attributeBase o "index" X.env (eval o X.env)=eval o X.env)
  (W7:((backTo Wq (starEach [e] X.env)).all (λx=>!x.1)&&(backToKw Wq (keywordEach [] X.env)).all (λx=>x.1.isSome)&&decide ([e].length+([]:Γ Keyword).length+(if ([]:Γ Keyword).isEmpty then 0 else 1) < 30))=true)
  (Wt:(apos.endLine == Wq.line)=true) (hs:starEach [e] X.env=(false,eval e X.env)::starEach [] X.env) (ho:DE X o fo) (he:DE X e fe):DE X (.Call (.Attribute o "index" apos) [e] [] Wq) (f2 qk fo fe) :=
 aL (NC (Hs W4 W7 Wt hs ho he) (tK PySem.F.plainAttrs_tuple PySem.F.slot_tuple_index PySem.F.type_tuple_index FP ho (bu he da hs) W4 W7 Wt hs rfl)) λσ H Q z=>by
  sleep 1;sleep 8;let⟨y,hy,hg⟩:=bs hf;cases x<;>try cases hg
  ·cases y<;>try cases hg
   rename_i es i;exact .inl ⟨HF,ρ,d,sm,eo,by simp?[f2,hx,hy,zA];exact hg,q⟩
  ·cases y<;>try cases hg
   rename_i es i;let⟨ns,h1,hg⟩:=bs hg;let⟨j,h2,rfl⟩:=ae hg;have e1:=dI h1;subst e1;refine .inr ⟨HF,ρ,_,sm,eo,hx,λv1 H1 Wj g1 r1=>?_⟩;simp?[Rep] at r1;let⟨l,us,rfl,hq,rr⟩:=r1;have:=iR rr;subst this;refine⟨?_,Wj,ρ,.int i,g1.fh,eo.mono g1.ff,hy,λv2 H2 WD g2 r2=>?_⟩
   ·first|exact .inr (.inl ⟨rfl,_,aE g1.fh hq⟩)|exact .inl ⟨rfl,_,aE g1.fh hq⟩|exact .inr ⟨rfl,_,aE g1.fh hq⟩
   ·simp?[Rep] at r2;let⟨a,b⟩:=oS h2;exact⟨l,ns,i,j,rfl,by rw[r2],aE g2.fh (aE g2.ff hq),a,b,q _ H2 WD (g1.trans g2) (by simp[Rep])⟩
end Dl
namespace Zp
open PySem PyProof.Rows
def W3(b:θ)(h:ι)(it l:Ψ)(k:Nat):Prop:=match b with|true=>h.IsTupleIter it l k|false=>h.IsListIter it l k
def W5(b:θ)(h:ι)(l:Ψ)(xs:Array Θ):Prop:=match b with|true=>h.IsTuple l xs|false=>h.IsList l xs
def W3.obj(x:W3 b h it l k):∃o,h.get? it=some o/\∀v,o.data≠.cell v:=by
 cases b
 ·let⟨o,e,_,d⟩:=(show h.IsListIter it l k from x);exact⟨o,e,λv q=>by rw[d] at q;cases q⟩
 ·let⟨o,e,_,d⟩:=(show h.IsTupleIter it l k from x);exact⟨o,e,λv q=>by rw[d] at q;cases q⟩
def W3.at(x:W3 b h it l k)(e:∀o,h.get? it=some o->h'.get? it=some o):W3 b h' it l k:=by
 cases b
 ·exact Heap.IsListIter.at x e
 ·exact Heap.IsTupleIter.at x e
def W3.extBut(x:W3 b h it l k)(e:Heap.ExtBut a h h')(n:it≠a):W3 b h' it l k:=x.at λo q=>e it o n q
def W5.at(x:W5 b h l xs)(e:∀o,h.get? l=some o->h'.get? l=some o):W5 b h' l xs:=by
 cases b
 ·let⟨o,q,r⟩:=(show h.IsList l xs from x);exact⟨o,e o q,r⟩
 ·let⟨o,q,r⟩:=(show h.IsTuple l xs from x);exact⟨o,e o q,r⟩
def W5.extBut(x:W5 b h l xs)(e:Heap.ExtBut a h h')(n:l≠a):W5 b h' l xs:=x.at λo q=>e l o n q
section
def nxt(hj:W3 b s.heap j t k)(ht:W5 b s.heap t its)(hv:its[k]?=some v)
  (hQ:∀g,W3 b g j t (k+1)->Heap.SameBut j s.heap g->Q v { s with heap:=g }):wpAny (model prog w) A (Builtin.SmallTypes.nextOf (.ref j)) Q E s:=by
 cases b
 ·exact wpAny_nextOf_list_item hj ht hv hQ
 ·exact En.Yq hj ht hv hQ
def ZU{Q:Θ->Ξ->Prop}(hh:A.handled=none)(hj:W3 b s.heap j t k)(ht:W5 b s.heap t its)(hv:its[k]?=none)
  (hE:∀g x,Heap.ExtBut j s.heap g->(∃o,g.get? x=some o/\o.cls=.type "StopIteration")->E (.ref x) { s with heap:=g }):wpAny (model prog w) A (Builtin.SmallTypes.nextOf (.ref j)) Q E s:=by
 cases b
 ·exact wpAny_nextOf_list_end hh hj ht hv hE
 ·exact En.YW hh hj ht hv hE
structure ZS(Ww WM:Bool)(h₀ h:Heap)(z TI TO i j l m:Addr)(xs ys:Array Value)(f:Value)(p q:Nat)(a b:Value):Prop where
 zo:IsZip h z TI TO f
 ti:IsPair h TI (.ref i) (.ref j)
 to:IsPair h TO a b
 wi:W3 Ww h i l p
 wj:W3 WM h j m q
 sl:W5 Ww h l xs
 sm:W5 WM h m ys
 kp:∀c o,c≠z->c≠TO->c≠i->c≠j->h₀.get? c=some o->h.get? c=some o
 sz:h.objs.size=h₀.objs.size
section
variable {z TI TO i j l m:Ψ}
def ZS.fl(Z:ZS Ww WM h₀ h z TI TO i j l m xs ys f p q a b)(D:ZipApart z TI TO i j l m)(e:IsZip g z TI TO f')(t:Heap.SameBut z h g):ZS Ww WM h₀ g z TI TO i j l m xs ys f' p q a b :=
 ⟨e,t.extBut _ _ D.TIz Z.ti,t.extBut _ _ D.TOz Z.to,Z.wi.extBut t.extBut D.i1z,Z.wj.extBut t.extBut D.i2z,Z.sl.extBut t.extBut D.l1z,Z.sm.extBut t.extBut D.l2z,λc o n1 n2 n3 n4 r=>t.extBut _ _ n1 (Z.kp c o n1 n2 n3 n4 r),t.1.trans Z.sz⟩
def ZS.fst(Z:ZS Ww WM h₀ h z TI TO i j l m xs ys f p q a b)(D:ZipApart z TI TO i j l m)(e:W3 Ww g i l (p+1))(t:Heap.SameBut i h g):ZS Ww WM h₀ g z TI TO i j l m xs ys f (p+1) q a b :=
 ⟨t.extBut _ _ D.i1z.symm Z.zo,t.extBut _ _ D.TIi1 Z.ti,t.extBut _ _ D.TOi1 Z.to,e,Z.wj.extBut t.extBut D.i12.symm,Z.sl.extBut t.extBut D.l1i1,Z.sm.extBut t.extBut D.l2i1,λc o n1 n2 n3 n4 r=>t.extBut _ _ n3 (Z.kp c o n1 n2 n3 n4 r),t.1.trans Z.sz⟩
def ZS.snd(Z:ZS Ww WM h₀ h z TI TO i j l m xs ys f p q a b)(D:ZipApart z TI TO i j l m)(e:W3 WM g j m (q+1))(t:Heap.SameBut j h g):ZS Ww WM h₀ g z TI TO i j l m xs ys f p (q+1) a b :=
 ⟨t.extBut _ _ D.i2z.symm Z.zo,t.extBut _ _ D.TIi2 Z.ti,t.extBut _ _ D.TOi2 Z.to,Z.wi.extBut t.extBut D.i12,e,Z.sl.extBut t.extBut D.l1i2,Z.sm.extBut t.extBut D.l2i2,λc o n1 n2 n3 n4 r=>t.extBut _ _ n4 (Z.kp c o n1 n2 n3 n4 r),t.1.trans Z.sz⟩
def ZS.put(Z:ZS Ww WM h₀ h z TI TO i j l m xs ys f p q a b)(D:ZipApart z TI TO i j l m)(e:IsPair g TO x y)(t:Heap.SameBut TO h g):ZS Ww WM h₀ g z TI TO i j l m xs ys f p q x y :=
 ⟨t.extBut _ _ D.TOz.symm Z.zo,t.extBut _ _ D.TITO Z.ti,e,Z.wi.extBut t.extBut D.TOi1.symm,Z.wj.extBut t.extBut D.TOi2.symm,Z.sl.extBut t.extBut D.l1TO,Z.sm.extBut t.extBut D.l2TO,λc o n1 n2 n3 n4 r=>t.extBut _ _ n2 (Z.kp c o n1 n2 n3 n4 r),t.1.trans Z.sz⟩
end
variable {z TI TO i j l m:Ψ}
def ace{Q:Θ->Ξ->Prop}(hn:A.handled=none)(D:ZipApart z TI TO i j l m)(Z:ZS Ww WM s.heap s.heap z TI TO i j l m xs ys .none p q a b)
  (item:∀x y g g',xs[p]?=some x->ys[q]?=some y->ZS Ww WM s.heap g z TI TO i j l m xs ys .ellipsis (p+1) (q+1) x y->IsZip g' z TI TO (rawInt g.objs.size) ->
   Heap.SameBut z (g.push { cls:=.type "tuple",data:=.seq #[x,y] }) g'->Q (.ref g.objs.size) { s with heap:=g' })
  (over:(xs[p]?=none\/ys[q]?=none)->∀g e,(∀c o,c≠z->c≠TO->c≠i->c≠j->s.heap.get? c=some o->g.get? c=some o)->(∃o,g.get? e=some o/\o.cls=.type "StopIteration")->E (.ref e) { s with heap:=g }) :
  wpAny (model prog w) A (Builtin.«zip.__next__» ⟨[.ref z],[]⟩) (λr s'=>∃v,r=.done (.ret v)/\Q v s') E s:=by
 have stop:∀ {g1 g2:ι}{e:Ψ}{c:Ψ}{p' q':Nat}{a' b':Θ},ZS Ww WM s.heap g1 z TI TO i j l m xs ys .ellipsis p' q' a' b'->(c=i\/c=j)->(xs[p]?=none\/ys[q]?=none)->Heap.ExtBut c g1 g2 ->
   (∃o,g2.get? e=some o/\o.cls=.type "StopIteration")->wpAny (model prog w) A (setField (.ref z) 0 Value.none) (λ_ t=>E (.ref e) t) E { s with heap:=g2 }:=by
  intro g1 g2 e c p' q' a' b' Y hc hv k ⟨o,ho,ht⟩;have cz:z≠c:=hc.elim (λe=>e ▸ D.i1z.symm) λe=>e ▸ D.i2z.symm;have Yz:IsZip g2 z TI TO .ellipsis:=k _ _ cz Y.zo;refine kY Yz (by simp) λg3 _ t=>over hv g3 e (λd u n1 n2 n3 n4 r=>t.extBut _ _ n1 (k _ _ ?_ (Y.kp d u n1 n2 n3 n4 r))) ⟨o,t.extBut _ _ ?_ ho,ht⟩
  ·exact hc.elim (λe=>e ▸ n3) λe=>e ▸ n4
  ·rintro rfl;rw[Yz] at ho;cases ho;simp at ht
 show wpAny _ _ (field (.ref z) 2 >>= _) _ _ _;refine zV (qU Z.zo rfl (x:=.bool false) rfl (zV (qU Z.zo rfl (x:=.ref TI) rfl (zV (kJ Z.ti rfl (zV (m:=Builtin.SmallTypes.ownedTupleIsFree _) ?_))))));refine zV (qU Z.zo rfl (x:=.none) rfl (zW ?_));rw[yM rfl];refine zV (wF (zV (qU Z.zo rfl (x:=.ref TO) rfl (zV (kY Z.zo (by simp) λg1 e1 t1=>?_)))));have Z1:=Z.fl D (f':=.ellipsis) e1 t1;refine zV ?_;simp?[List.zipIdx_cons,List.zipIdx_nil,List.forIn_cons,List.forIn_nil];refine zV (zV (wpAny_onRaise (zV (m:=Builtin.SmallTypes.nextOf _) ?_)));cases hx:xs[p]? with
 | none=>exact ZU hn Z1.wi Z1.sl hx λg2 e k o=>stop Z1 (.inl rfl) (.inl hx) k o
 | some x =>
 refine nxt Z1.wi Z1.sl hx λg2 e2 t2=>zW ?_;have Z2:=Z1.fst D e2 t2;refine zV (kJ Z2.to rfl (zV (wpAny_updateSeq_pair Z2.to λg3 e3 t3=>zV (wpAny_letGo (zW ?_)))));have Z3:=Z2.put D (x:=x) (y:=b) e3 t3;refine zV (zV (wpAny_onRaise (zV (m:=Builtin.SmallTypes.nextOf _) ?_)));cases hy:ys[q]? with
 | none=>exact ZU hn Z3.wj Z3.sm hy λg4 e k o=>stop Z3 (.inr rfl) (.inr hy) k o
 | some y =>
 refine nxt Z3.wj Z3.sm hy λg4 e4 t4=>zW ?_;have Z4:=Z3.snd D e4 t4;refine zV (kJ Z4.to rfl (zV (wpAny_updateSeq_pair Z4.to λg5 e5 t5=>zV (wpAny_letGo (zW (zW ?_))))));have Z5:=Z4.put D (x:=x) (y:=y) e5 t5;refine zV (kJ Z5.to rfl (zV (wpAny_newTuple (zV (m:=Builtin.SmallTypes.ownedTupleHandOut _ _) ?_))));refine zV (kY (zU _ Z5.zo) (by simp) λg6 e6 t6=>kY e6 (by simp) λg7 e7 t7=>zW ⟨_,rfl,?_⟩);exact item x y g5 g7 hx hy Z5 e7 (t6.trans t7)
def acf(hn:A.handled=none)(D:ZipApart z TI TO i j l m)
  (qz:IsZip s.heap z TI TO .none) (qI:IsPair s.heap TI (.ref i) (.ref j)) (qO:IsPair s.heap TO a b)
  (p1:W3 Ww s.heap i l p) (p2:W3 WM s.heap j m q) (r1:W5 Ww s.heap l xs) (r2:W5 WM s.heap m ys) (ex:xs[p]?=some x) (ey:ys[q]?=some y)
  (kQ:∀g,IsZip g z TI TO (rawInt s.heap.objs.size)->IsPair g TO x y->W3 Ww g i l (p+1)->W3 WM g j m (q+1)->IsPair g s.heap.objs.size x y->g.objs.size=s.heap.objs.size+1 ->
   (∀c o,c≠z->c≠TO->c≠i->c≠j->s.heap.get? c=some o->g.get? c=some o)->Q (some (.ref s.heap.objs.size)) { s with heap:=g }) :
  wpAny (model prog w) A (pyNext (.ref z)) Q E s:=by
 have ty:s.TypeIs (.ref z) "zip":=⟨_,qz,rfl⟩
 sleep 58
 sleep 52
 ·intro x' y' g g' hx hy Y ez t;rw[ex] at hx;rw[ey] at hy;cases hx;cases hy;rw[Y.sz] at ez ⊢;have lt:=zY Y.zo;have up:∀c o,c≠z->g.get? c=some o->g'.get? c=some o:=λc o n e=>t.extBut _ _ n (zU _ e);refine zW (kQ g' ez (up _ _ D.TOz Y.to) (Y.wi.at λo e=>up _ _ D.i1z e) (Y.wj.at λo e=>up _ _ D.i2z e) ?_ (by rw[t.1,xK,Y.sz]) λc o n1 n2 n3 n4 e=>up c o n1 (Y.kp c o n1 n2 n3 n4 e));rw[<- Y.sz];exact t.extBut _ _ (jJ lt) (zX _ rfl)
 ·intro no;rw[ex,ey] at no;rcases no with no|no<;>cases no
def aaV(hn:A.handled=none)(D:ZipApart z TI TO i j l m)
  (qz:IsZip s.heap z TI TO .none) (qI:IsPair s.heap TI (.ref i) (.ref j)) (qO:IsPair s.heap TO a b)
  (p1:W3 Ww s.heap i l p) (p2:W3 WM s.heap j m q) (r1:W5 Ww s.heap l xs) (r2:W5 WM s.heap m ys) (ends:xs[p]?=none\/ys[q]?=none)
  (kQ:∀g,(∀c o,c≠z->c≠TO->c≠i->c≠j->s.heap.get? c=some o->g.get? c=some o)->Q none { s with heap:=g }):wpAny (model prog w) A (pyNext (.ref z)) Q E s:=by
 have ty:s.TypeIs (.ref z) "zip":=⟨_,qz,rfl⟩
 sleep 58
 sleep 52
 ·intro x y g g' hx hy;rw[hx,hy] at ends;rcases ends with no|no<;>cases no
 ·rintro _ g e kp ⟨o,ho,ht⟩;exact zV (wpAny_isInstance (T:="StopIteration") (b:=true) ⟨o,ho,ht⟩ isSubtype_stop (zW (kQ _ kp)))
end
abbrev itO(b:θ)(l:Ψ):Obj:={ cls:=.type (if b then "tuple_iterator" else "list_iterator"),data:=.fields #[.ref l,.int 0 0] }
abbrev z1(b:θ)(h:ι)(l:Ψ):ι:=h.push (itO b l)
abbrev z2(b c:θ)(h:ι)(l m:Ψ):ι:=(z1 b h l).push (itO c m)
abbrev z3(b c:θ)(h:ι)(l m:Ψ):ι:=(z2 b c h l m).push { cls:=.type "tuple",data:=.seq #[.ref h.objs.size,.ref (z1 b h l).objs.size] }
abbrev z4(b c:θ)(h:ι)(l m:Ψ):ι:=(z3 b c h l m).push { cls:=.type "tuple",data:=.seq #[.none,.none] }
abbrev z5(b c:θ)(h:ι)(l m:Ψ):ι:=(z4 b c h l m).push { cls:=.type "zip",data:=.fields #[.none,.bool false,.bool false,.ref (z2 b c h l m).objs.size,.ref (z3 b c h l m).objs.size] }
def W5.push(x:W5 b h l xs)(o:Obj):W5 b (h.push o) l xs:=x.at λo' e=>zU _ e
def ZV(b c:θ)(l m:Ψ)(xs ys:Array Θ):Meets (Builtin.«zip.__new__» ⟨[.type "zip",.ref l,.ref m],[]⟩) (λ_ R s=>W5 b s.heap l xs/\W5 c s.heap m ys/\R (.ok (.ret (.ref (z4 b c s.heap l m).objs.size))) { s with heap:=z5 b c s.heap l m }) :=
 .of_wp λprog w A R s h=>by
  let⟨hp,g,d,tk,os⟩:=s;let⟨q1,q2,h⟩:=h;have Yr:=sub_zip;cases b<;>cases c
  ·have L1:Heap.IsList (Shared.heap ⟨hp,g,d,tk,os⟩) l xs:=q1;have L2:Heap.IsList (Shared.heap ⟨hp.push { cls:=.type "list_iterator",data:=.fields #[.ref l,.int 0 0] },g,d,tk,os⟩) m ys:=W5.push (b:=false) q2 _
   wp_walk using qL L1,qL L2
   sleep 56
  ·have L1:Heap.IsList (Shared.heap ⟨hp,g,d,tk,os⟩) l xs:=q1;have L2:Heap.IsTuple (Shared.heap ⟨hp.push { cls:=.type "list_iterator",data:=.fields #[.ref l,.int 0 0] },g,d,tk,os⟩) m ys:=W5.push (b:=true) q2 _
   wp_walk using qL L1,xS L2
   sleep 56
  ·have L1:Heap.IsTuple (Shared.heap ⟨hp,g,d,tk,os⟩) l xs:=q1;have L2:Heap.IsList (Shared.heap ⟨hp.push { cls:=.type "tuple_iterator",data:=.fields #[.ref l,.int 0 0] },g,d,tk,os⟩) m ys:=W5.push (b:=false) q2 _
   wp_walk using xS L1,qL L2
   sleep 56
  ·have L1:Heap.IsTuple (Shared.heap ⟨hp,g,d,tk,os⟩) l xs:=q1;have L2:Heap.IsTuple (Shared.heap ⟨hp.push { cls:=.type "tuple_iterator",data:=.fields #[.ref l,.int 0 0] },g,d,tk,os⟩) m ys:=W5.push (b:=true) q2 _
   wp_walk using xS L1,xS L2
   sleep 56
def YH(e:h.get? it=some (itO b l)):W3 b h it l 0:=by
 cases b
 ·exact⟨_,e,rfl,rfl⟩
 ·exact⟨_,e,rfl,rfl⟩
def Zj(q1:W5 b s.heap l xs)(q2:W5 c s.heap m ys)
  (h:∀g,IsZip g (s.heap.objs.size+4) (s.heap.objs.size+2) (s.heap.objs.size+3) .none->IsPair g (s.heap.objs.size+2) (.ref s.heap.objs.size) (.ref (s.heap.objs.size+1))->IsPair g (s.heap.objs.size+3) .none .none ->
   W3 b g s.heap.objs.size l 0->W3 c g (s.heap.objs.size+1) m 0->(∀a o,s.heap.get? a=some o->g.get? a=some o)->Q (.ref (s.heap.objs.size+4)) { s with heap:=g }) :
  wpAny (model prog w) A (call (.type "zip") [.ref l,.ref m]) Q E s:=by
 refine callType_new F.called_zip (by decide) (F.typeCall_zip_2 _ _) (F.newCall_zip_2 _ _) (λobj=>F.args_object_init_3 obj _ _) F.entry_zip_new (ZV b c l m xs ys) ⟨q1,q2,?_⟩;have n1:(z1 b s.heap l).objs.size=s.heap.objs.size+1:=xK ..;have n2:(z2 b c s.heap l m).objs.size=s.heap.objs.size+2:=by rw[xK,n1]
 have n3:(z3 b c s.heap l m).objs.size=s.heap.objs.size+3:=by rw[xK,n2]
 have n4:(z4 b c s.heap l m).objs.size=s.heap.objs.size+4:=by rw[xK,n3]
 have g5:(z5 b c s.heap l m).get? (z4 b c s.heap l m).objs.size=some _:=zX _ rfl;have g4:(z5 b c s.heap l m).get? (z3 b c s.heap l m).objs.size=some _:=zU _ (zX _ rfl);have g3:(z5 b c s.heap l m).get? (z2 b c s.heap l m).objs.size=some _:=zU _ (zU _ (zX _ rfl));have g2:(z5 b c s.heap l m).get? (z1 b s.heap l).objs.size=some (itO c m):=zU _ (zU _ (zU _ (zX _ rfl)));have g1:(z5 b c s.heap l m).get? s.heap.objs.size=some (itO b l):=zU _ (zU _ (zU _ (zU _ (zX _ rfl))));show _/\_;rw[n2,n3,n4] at g5;rw[n1,n2] at g3;rw[n3] at g4;rw[n1] at g2;rw[n4];exact⟨⟨_,g5,rfl⟩,h _ g5 g3 g4 (YH g1) (YH g2) λa o x=>zU _ (zU _ (zU _ (zU _ (zU _ x))))⟩
end Zp
namespace Dl
open PySem L2 PySem.Spec PyProof.Rows Zp
def vi(K:Φ)(b:θ)(a:Ψ)(H:Hp)(xs:Γ V):Prop:=match b with|true=>gQ K H a xs|false=>gN K H a xs
def vi.src(I:Inv X pins σ H s)(h:vi X.K b a H xs):∃its:Γ Θ,aH xs its/\W5 b s.heap a its.toArray/\xs.length<=sizeLine:=by
 cases b
 ·let⟨its,rv,pl,hz⟩:=I.list (show gN X.K H a xs from h);exact⟨its,rv,pl.isList,hz⟩
 ·let⟨its,rv,pl,hz⟩:=I.tuple (show gQ X.K H a xs from h);exact⟨its,rv,pl,hz⟩
def vi.ne(I:Inv X pins σ H s)(hf:cL X pins H c)(h:vi X.K b a H xs):a≠c:=by
 cases b
 ·exact Pm I hf h
 ·exact NZ I hf h
def vi.inj(I:Inv X pins σ H s)(h:vi X.K b a H xs)(h':vi X.K b a H ys):xs=ys:=by
 cases b
 ·exact I.X0 h h'
 ·exact I.XF h h'
def vi.mono{K:Φ}(e:aD H H')(h:vi K b a H xs):vi K b a H' xs:=by
 cases b
 ·exact e.seq h
 ·exact aE e h
def Fy{K:Φ}(b c:θ)(l1 l2 z TI TO i1 i2:Ψ)(Z:VQ z TI TO i1 i2) :
  Turn P w K (.Tuple elts k pos) (Uw (vi K b l1) (vi K c l2)) [z,TI,TO,i1,i2] z (λi h=>IsZip h z TI TO .none/\IsPair h TI (.ref i1) (.ref i2)/\(∃a b,IsPair h TO a b)/\W3 b h i1 l1 i/\W3 c h i2 l2 i) where
 mem:=by simp
 obj:=λi h st d hd=>by
  let⟨hz,ZW,⟨a,b',hTO⟩,p1,p2⟩:=st;simp?[zQ,yF,xV] at hd;rcases hd with rfl|rfl|rfl|rfl|rfl
  ·exact⟨_,hz,λv q=>by have q:Data.fields _=Data.cell v:=q;cases q⟩
  ·exact⟨_,ZW,λv q=>by have q:Data.seq _ _=Data.cell v:=q;cases q⟩
  ·exact⟨_,hTO,λv q=>by have q:Data.seq _ _=Data.cell v:=q;cases q⟩
  ·exact p1.obj
  ·exact p2.obj
 keep:=λi h h' st kk=>by
  let⟨hz,ZW,⟨a,b',hTO⟩,h1,h2⟩:=st;exact⟨kk z (by simp) _ hz,kk TI (by simp) _ ZW,⟨a,b',kk TO (by simp) _ hTO⟩,h1.at λo q=>kk i1 (by simp) o q,h2.at λo q=>kk i2 (by simp) o q⟩
 item:=by
  sleep 3;subst hP hw hK;let⟨xs,ys,x,y,YI,X8,hx,hy⟩:=hg;let⟨aaW,rv1,p1,hz1⟩:=YI.src I;let⟨Xe,rv2,p2,hz2⟩:=X8.src I;let⟨u1,hu1,ru1⟩:=rv1.get hx;let⟨u2,hu2,ru2⟩:=rv2.get hy;sleep 7
  let⟨hz,ZW,⟨a,b',hTO⟩,h1,h2⟩:=st;refine acf (I.ok.hd hc) D hz ZW hTO h1 h2 p1 p2 (x:=u1) (y:=u2) (by simpa using hu1) (by simpa using hu2) λg b1 b2 b3 b4 b5 b6 hk=>⟨.ref s.heap.objs.size,rfl,?_⟩
  have lt:∀ {c:Ψ}{o:Obj},s.heap.get? c=some o->s.heap.objs.size≠c:=λe=>jJ (zY e);refine wpAny_letOwnedTupleGo_zip (s:={ s with heap:=g }) b1 λg' hz' Xr=>?_;have b5':g'.get? s.heap.objs.size=some { cls:=.type "tuple",data:=.seq #[u1,u2] }:=Xr.extBut _ _ (lt hz) b5;have ht:rG g' s.heap.objs.size (List.toArray [u1,u2]):=⟨⟨_,b5',rfl,_,rfl⟩,_,b5',rfl⟩
  refine⟨.ref s.heap.objs.size,_,AG (ch:=[z,TI,TO,i1,i2]) (xs:=[x,y]) (t':=s.toks) I hf (λb o hb q=>?_) (yN _) ht (.cons ru1 (.cons ru2 .nil)) (by show 2<=sizeLine;decide),rfl,
   ⟨s.heap.objs.size,x,y,rfl,I.fresh,rfl,λzs hzs=>by rw[hzs.inj I YI];exact hx,λzs hzs=>by rw[hzs.inj I X8];exact hy⟩,
   ⟨hz',Xr.extBut _ _ Z.a1 (hk _ _ D.TIz D.TITO D.TIi1 D.TIi2 ZW),⟨_,_,Xr.extBut _ _ Z.a2 b2⟩,b3.extBut Xr.extBut Z.a3,b4.extBut Xr.extBut Z.a4⟩,λb hb=>?_⟩
  ·simp?[zQ,yF,xV,not_or] at hb;exact Xr.extBut _ _ hb.1 (hk b o hb.1 hb.2.2.1 hb.2.2.2.1 hb.2.2.2.2 q)
  ·have:s.heap.objs.size≠b:=by
    simp?[zQ,yF,xV] at hb;let⟨o1,g1,_⟩:=h1.obj;let⟨o2,g2,_⟩:=h2.obj;rcases hb with rfl|rfl|rfl|rfl|rfl
    ·exact lt hz
    ·exact lt ZW
    ·exact lt hTO
    ·exact lt g1
    ·exact lt g2
   rw[ak (jN this)];exact (hf b hb).1
 done:=by
  sleep 3;subst hP hw hK;let⟨xs,ys,YI,X8,hx⟩:=hg;let⟨aaW,rv1,p1,hz1⟩:=YI.src I;let⟨Xe,rv2,p2,hz2⟩:=X8.src I;sleep 7
  let⟨hz,ZW,⟨a,b',hTO⟩,h1,h2⟩:=st;have e1:=rv1.length;have e2:=rv2.length;refine aaV (I.ok.hd hc) D hz ZW hTO h1 h2 p1 p2 (hx.elim (λq=>.inl (by simp;lia)) λq=>.inr (by simp;lia)) λg hk=>⟨rfl,?_⟩
  refine E7 (ch:=[z,TI,TO,i1,i2]) (t':=s.toks) I hf λb o hb q=>?_;simp?[zQ,yF,xV,not_or] at hb;exact hk b o hb.1 hb.2.2.1 hb.2.2.2.1 hb.2.2.2.2 q
 self:=λ_ _ _ _ _ st h=>wpAny_pyIter_zip st.1 h
def L8(B:rf X "zip" (.type "zip"))(ha:PA X [l,l'] tl)(hs:starEach [l,l'] X.env=(false,eval l X.env)::starEach [l'] X.env)(ZI:(backTo pos (starEach [l'] X.env)).any (·.1)=false) :
  PI X (.Tuple elts k tp) (.Call (.Name "zip" p) [l,l'] [] pos) (λσ H R=>tl σ H λvs H1=>∃a b,vs=[.ref a,.ref b]/\∃c d xs ys,vi X.K c a H1 xs/\vi X.K d b H1 ys/\R (Uw (vi X.K c a) (vi X.K d b)) H1):=by
 intro pins s σ H R I h;refine Call_ (jt I B.gl B.mg B.bt (qT (bV (ha pos pins s σ H _ I h) λus s1 z=>?_) hs ZI));let⟨vs,H1,I1,r1,q1⟩:=z;let⟨a,b,e,c,d,xs,ys,YI,X8,q⟩:=q1;subst e;let⟨u,u',rfl,rx,ry⟩:=vals2 r1;cases rx;cases ry;let⟨its,rv,pl,hz⟩:=YI.src I1;let⟨its',rv',pl',hz'⟩:=X8.src I1;refine Zj pl pl' λg b1 b2 b3 b4 b5 kp=>wpAny_pyIter_zip (s:={ s1 with heap:=g }) b1 ?_;refine⟨_,_,_,_,H1,rfl,I1.kept (t':=s1.toks) kp,Fy c d a b (s1.heap.objs.size+4) (s1.heap.objs.size+2) (s1.heap.objs.size+3) s1.heap.objs.size (s1.heap.objs.size+1) ?_,⟨b1,b2,⟨_,_,b3⟩,b4,b5⟩,λc hc=>?_,q⟩
 ·constructor<;>(intro z;have z:(_:Nat)=_:=z;lia)
 ·have hge:s1.heap.objs.size<=c:=by
   simp?[zQ,yF,xV] at hc;rcases hc with rfl|rfl|rfl|rfl|rfl
   ·exact jV _ _
   ·exact jV _ _
   ·exact jV _ _
   ·exact yN _
   ·exact jV _ _
  exact I1.Xd hge (I1.Wn.fresh hge)
def RZ:Γ D->Δ (Γ D):=λds=>match ds with
 | [x,y]=>(fM x).bind λxs=>(fM y).map λys=>iI xs ys
 | _=>none
def Cp{K:Φ}(h:fM d=some xs)(r:Rep K HF d v):∃b a vs,v=.ref a/\vi K b a HF vs/\aq K HF xs vs:=by
 rcases mN h with rfl|rfl
 ·simp?[Rep] at r;let⟨a,vs,rfl,q,rr⟩:=r;exact⟨true,a,vs,rfl,q,rr⟩
 ·simp?[Rep] at r;let⟨a,vs,rfl,q,rr⟩:=r;exact⟨false,a,vs,rfl,q,rr⟩
def fN(fs:Env->Δ (Γ D)):Env->Δ (Γ D):=λρ=>(fs ρ).bind RZ
def MU(B:rf X "zip" (.type "zip"))(hs:starEach [l,l'] X.env=(false,eval l X.env)::starEach [l'] X.env)(ZI:(backTo pos (starEach [l'] X.env)).any (·.1)=false)(h:DA X [l,l'] fs) :
  DI X (.Tuple elts k tp) (.Call (.Name "zip" p) [l,l'] [] pos) (fN fs) :=
 xv (L8 B h hs ZI) λσ H R z=>by
  let⟨HF,ρ,ds,sm,eo,hf,q⟩:=z;sleep 8;refine⟨HF,ρ,_,sm,eo,hx,λvs H1 Wj g1 r1=>?_⟩;unfold RZ at hf;split at hf
  ·let⟨xs,h1,hf⟩:=bs hf;let⟨ys,h2,rfl⟩:=ae hf;let⟨v,r',rfl,a,b⟩:=r1.cons_inv;let⟨v',r'',rfl,a',b'⟩:=b.cons_inv;rw[b'.nil_inv];let⟨c,ad,us,rfl,hq,rr⟩:=Cp h1 a;let⟨c',ad',us',rfl,Z9,rr'⟩:=Cp h2 a';exact⟨ad,ad',rfl,c,c',us,us',hq.mono g1.fh,Z9.mono g1.fh,q _ H1 Wj g1 (Ha hq (λ_ _ s h=>h.mono s) Z9 (λ_ _ s h=>h.mono s) rr rr')⟩
  ·cases hf
end Dl
namespace Zp
open PySem PyProof.Rows
def W3.ne(x:W3 b h it l k)(y:W5 b h l xs):l≠it:=by
 rintro rfl;cases b
 ·let⟨o,e,c,d⟩:=(show h.IsListIter l l k from x)
  let⟨o',e',r⟩:=(show h.IsList l xs from y)
  rw[e] at e';cases e';simp_all
 ·let⟨o,e,c,d⟩:=(show h.IsTupleIter l l k from x)
  let⟨o',e',r⟩:=(show h.IsTuple l xs from y)
  rw[e] at e';cases e';simp_all
def aaY(hn:A.handled=none)(b:θ)(it l:Ψ)(xs:Array Θ):Draws prog w A it [it,l] xs.size (λi x=>xs[i]?=some x) (λi h=>W3 b h it l i/\W5 b h l xs) where
 live:=λi h st=>let ⟨o,e,_⟩:=st.1.obj;⟨o,e⟩
 frame:=λi h h' st k=>⟨st.1.at (k it (by simp)),st.2.at (k l (by simp))⟩
 item:=λi s Q E hi st hQ=>nxt st.1 st.2 (v:=xs[i]) (by simp[hi]) λg e t=>hQ _ g s.toks (by simp[hi]) ⟨e,st.2.extBut t.extBut (st.1.ne st.2)⟩ t
 done:=λs Q E st hE=>ZU hn st.1 st.2 (by simp) hE
def aci{Ww:θ}{e it l:Ψ}{i:Nat}{items:Array Θ}{x old:Θ}{Q:Δ Θ->Ξ->Prop}(hn:A.handled=none)
  (qe:IsEnum s.heap e it i old) (qi:W3 Ww s.heap it l i) (ql:W5 Ww s.heap l items) (ex:items[i]?=some x) (nei:e≠it)
  (kQ:∀g tk,IsEnumOut g e it ((i:Int)+1) x s.heap.objs.size->W3 Ww g it l (i+1)->g.get? s.heap.objs.size=some { cls:=.type "tuple",data:=.seq #[.int i tk,x] } ->
   g.objs.size=s.heap.objs.size+1->(∀c o,c≠e->c≠it->s.heap.get? c=some o->g.get? c=some o)->Q (some (.ref s.heap.objs.size)) { s with heap:=g,toks:=tk+1 }) :
  wpAny (model prog w) A (pyNext (.ref e)) Q E s:=by
 have nel:e≠l:=by
  rintro rfl;cases Ww
  ·let⟨o,e1,r⟩:=(show s.heap.IsList e items from ql)
   rw[qe] at e1;cases e1;simp at r
  ·let⟨o,e1,r⟩:=(show s.heap.IsTuple e items from ql)
   rw[qe] at e1;cases e1;simp at r
 have D:Draws prog w A.in1 it [it,l] items.size (λi x=>items[i]?=some x) (λi h=>W3 Ww h it l i/\W5 Ww h l items):=aaY (A:=A.in1) hn Ww it l items;refine wpAny_pyNext_enum_itemD D qe ⟨qi,ql⟩ (Array.getElem?_eq_some_iff.mp ex).1 nei (by simp[nei,nel]) λy g tk hy a b c d k=>?_;rw[ex] at hy;cases hy;exact kQ g tk a b.1 c d k
end Zp
namespace Dl
open PySem L2 PySem.Spec PyProof.Rows Zp
def r6{K:Φ}(b:θ)(a it e:Ψ)(hei:e≠it):Turn P w K (.Tuple elts k pos) (UN (vi K b a)) [e,it] e (λi h=>(∃old,IsEnum h e it i old)/\W3 b h it a i) where
 mem:=by simp
 obj:=λi h st c hc=>by
  let⟨⟨old,he⟩,hi⟩:=st;rcases List.mem_cons.mp hc with z|z
  ·subst z;exact⟨_,he,λv q=>by have q:Data.fields _=Data.cell v:=q;cases q⟩
  ·rw[List.mem_singleton.mp z];exact hi.obj
 keep:=λi h h' st kk=>⟨let ⟨old,he⟩:=st.1;⟨old,kk e (by simp) _ he⟩,st.2.at λo q=>kk it (by simp) o q⟩
 item:=by
  sleep 3;subst hP hw hK;let⟨xs,x,hq,hx⟩:=hg;let⟨its,rv,p,hz⟩:=hq.src I;let⟨u,hu,ru⟩:=rv.get hx;let⟨⟨old,he⟩,hi⟩:=st;refine aci (I.ok.hd hc) he hi p (x:=u) (by simpa using hu) hei λg tk b1 b2 b3 b4 hk=>⟨.ref s.heap.objs.size,rfl,?_⟩
  have lt:∀ {c:Ψ}{o:Obj},s.heap.get? c=some o->s.heap.objs.size≠c:=λe=>jJ (zY e);have ZM:s.heap.objs.size≠e:=lt he;refine wpAny_letOwnedTupleGo_enum (s:={ s with heap:=g,toks:=tk+1 }) b1 λg' he' Xr=>?_;have b3':g'.get? s.heap.objs.size=some { cls:=.type "tuple",data:=.seq #[.int i tk,u] }:=Xr.extBut _ _ ZM b3;have ht:rG g' s.heap.objs.size (List.toArray [Value.int (i:Nat) tk,u]):=⟨⟨_,b3',rfl,_,rfl⟩,_,b3',rfl⟩
  refine⟨.ref s.heap.objs.size,_,AG (ch:=[e,it]) (xs:=[.int (i:Nat),x]) (t':=tk+1) I hf (λc o hb q=>?_) (yN _) ht (.cons ⟨_,rfl⟩ (.cons ru .nil)) (by show 2<=sizeLine;decide),rfl,
   ⟨s.heap.objs.size,x,rfl,I.fresh,rfl,λzs hzs=>by rw[hzs.inj I hq];exact hx⟩,⟨⟨_,he'⟩,b2.extBut Xr.extBut (jN hei)⟩,λc Xv=>?_⟩
  ·simp?[zQ,yF,xV,not_or] at hb;exact Xr.extBut _ _ hb.1 (hk c o hb.1 hb.2 q)
  ·have:s.heap.objs.size≠c:=by
    simp?[zQ,yF,xV] at Xv;let⟨o1,g1,_⟩:=hi.obj;rcases Xv with rfl|rfl
    ·exact lt he
    ·exact lt g1
   rw[ak (jN this)];exact (hf c Xv).1
 done:=by
  sleep 3;subst hP hw hK;let⟨xs,hq,hx⟩:=hg;let⟨its,rv,p,hz⟩:=hq.src I;have hh:X.A.in1.handled=none:=I.ok.hd hc;have hl:=rv.length;let⟨⟨old,he⟩,hi⟩:=st;have hT:s.TypeIs (.ref e) "enumerate":=⟨_,he,rfl⟩
  unfold pyNext;refine zV (kR (qD (name:=Str.ofString "__next__") hT F.slot_enumerate_next (qX F.slot_enumerate_next hT F.entry_enumerate_next ?_ (F.args_enumerate_next_1 _))));refine zV (m:=field (.ref e) 2) (qU he rfl (x:=.ref it) rfl ?_);refine zV (ZU hh hi p (by simp;lia) λh1 x k1 hx1=>?_);let⟨o,ho,hc1⟩:=hx1;refine zV (wpAny_isInstance (T:="StopIteration") (b:=true) ⟨o,ho,hc1⟩ isSubtype_stop (zW ⟨rfl,?_⟩));sleep 17;exact I.turned (t':=s.toks) (λb o hb q=>k1 b o hb q) f0 f1 f3 f4 f5
 self:=λ_ _ _ _ _ st h=>let ⟨_,he⟩:=st.1;wR he h
def Ln(B:rf X "enumerate" (.type "enumerate"))(ha:PA X [l] tl)(hs:starEach [l] X.env=[(false,eval l X.env)]):PI X (.Tuple elts k tp) (.Call (.Name "enumerate" p) [l] [] pos) (λσ H R=>tl σ H λvs H1=>∃a,vs=[.ref a]/\∃b xs,vi X.K b a H1 xs/\R (UN (vi X.K b a)) H1):=by
 intro pins s σ H R I h;refine Call_ (jt I B.gl B.mg B.bt (qT (bV (ha pos pins s σ H _ I h) λus s1 z=>?_) hs rfl));let⟨vs,H1,I1,r1,q1⟩:=z;let⟨a,e,b,xs,hq,q⟩:=q1;subst e;let⟨u,rfl,rx⟩:=vals1 r1;cases rx;have fresh:∀b∈[s1.heap.objs.size+1,s1.heap.objs.size],cL X pins H1 b:=λb hb=>by
  rcases List.mem_cons.mp hb with z|z
  ·subst z;exact I1.Xd (Nat.le_succ _) (I1.Wn.fresh (Nat.le_succ _))
  ·cases List.mem_singleton.mp z;exact I1.Xd (yN _) I1.fresh
 let⟨its,rv,pl,hz⟩:=hq.src I1;cases b with
 | false =>
  refine call_enumerate_list pl λh' he hit hsz kp=>wR (s:={ s1 with heap:=h' }) he ?_;exact⟨_,_,_,_,H1,rfl,I1.kept (t':=s1.toks) kp,r6 false a s1.heap.objs.size (s1.heap.objs.size+1) (Nat.succ_ne_self _),⟨⟨_,he⟩,hit⟩,fresh,q⟩
 | true =>
  refine En.Ys (show s1.heap.IsTuple a its.toArray from pl) λh' he hit hsz kp=>wR (s:={ s1 with heap:=h' }) he ?_;exact⟨_,_,_,_,H1,rfl,I1.kept (t':=s1.toks) kp,r6 true a s1.heap.objs.size (s1.heap.objs.size+1) (Nat.succ_ne_self _),⟨⟨_,he⟩,hit⟩,fresh,q⟩
def bq(fs:Env->Δ (Γ D)):Env->Δ (Γ D):=λρ=>(fs ρ).bind λds=>(et ds).map (bF 0)
def Mi(B:rf X "enumerate" (.type "enumerate"))(h:DA X [l] fs)(hs:starEach [l] X.env=[(false,eval l X.env)]):DI X (.Tuple elts k tp) (.Call (.Name "enumerate" p) [l] [] pos) (bq fs) :=
 xv (Ln B h hs) λσ H R z=>by
  let⟨HF,ρ,ds,sm,eo,hf,q⟩:=z;sleep 8;let⟨es,h1,rfl⟩:=ae hf;let⟨d,h0,h1⟩:=bs h1;rw[gG h0] at hx;refine⟨HF,ρ,_,sm,eo,hx,λvs H1 Wj g1 r1=>?_⟩;let⟨v,r',rfl,a,b⟩:=r1.cons_inv;rw[b.nil_inv];let⟨c,ad,us,rfl,hq,rr⟩:=Cp h1 a;exact⟨ad,rfl,c,us,hq.mono g1.fh,q _ H1 Wj g1 (E1 hq (λ_ _ s h=>h.mono s) rr)⟩
end Dl
namespace Yo
open PySem PySem.W PySem.Calls PyProof.Rows L2
def cL.at(h:cL X pins H b)(e:H' b=none):cL X pins H' b:=⟨e,h.2⟩
def Xl{g:Array Θ->Array Θ}(I:Inv X pins σ H s)(f:cL X pins H b):Inv X pins σ H { s with heap:=s.heap.update b (Obj.mapSeq g) }:=by
 let⟨f0,f1,f2,f3,f4,f5⟩:=f;exact I.turned (t':=s.toks) (h':=s.heap.update b (Obj.mapSeq g)) (λc o hc e=>(xO _ _ (jN hc)).trans e) f0 f1 f3 f4 f5
def XO(I:Inv X (pins++pk fp h) σ H' s')(hb:b∈fp)(e:h.get? b=some o):s'.heap.get? b=some o/\H' b=none :=
 let q:=I.pin (b,o) (yE _ (yE _ (dy hb e)));⟨q.1,q.2.1⟩
def Xn(I:Inv X pins σ H s)(ho:s.heap.get? a=some (seqObj "list" vs.toArray n))(fa:cL X pins H a)(X6:vs.length < 64)
  (J:Γ Θ->Hp->Prop) (j0:J [] H)
  (step:∀us v,vs[us.length]?=some v->∀pl s' H',Inv X (pins++pl) σ H' s'->J us H'->wpAny (model X.prog X.w) A (call f [v]) (λu Yd=>∃ZA,Inv X (pins++pl) σ ZA Yd/\J (us++[u]) ZA) (λ_ _=>False) s')
  (fin:∀us H',us.length=vs.length->J us H'->∃ (z:Nat->Int) (κ:SortKind),(2<=vs.length->∀s',Inv X pins σ H' s'->(∀Q':SortKind->Ξ->Prop,Q' κ s'->wpAny (model X.prog X.w) A (keyKind' us.toArray) Q' (λ_ _=>False) s') /\
    ∀i j C,i < vs.length->j < vs.length->C (SP.er z i j) s'->kas_ask X.prog X.w A κ us i j C s') /\
   ∀s' c,Inv X pins σ H' s'->cL X pins H' a->s'.heap.get? a=some (seqObj "list" (WA z vs).toArray c)->P (.done (.ret .none)) s') :
  wpAny (model X.prog X.w) A (ksk_tree a f false) P E s:=by
 have YG:vs.length<=sizeLine:=by rw[qV];lia
 unfold ksk_tree;refine zV (vK ho rfl ?_);refine zV (kC ho rfl ?_ (by simpa using YG) (xW _));sleep 47
 have I1:=Xl (g:=λ_=>(#[]:Array Θ)) I fa;refine zV (seqEpoch_at ho1 rfl ?_);refine zV (wpAny_newTuple ?_ (by simpa using YG));refine zV (kP ?_ (xW _));refine xY ?_;sleep 26;have hk3:(((s.heap.update a (Obj.mapSeq λ_=>(#[]:Array Θ))).push (seqObj "tuple" vs.toArray 0)).push (seqObj "list" #[] 0)).get? ((s.heap.update a (Obj.mapSeq λ_=>(#[]:Array Θ))).push (seqObj "tuple" vs.toArray 0)).objs.size=some (seqObj "list" #[] 0):=zX _ rfl;have I3:=(I1.kept (t':=s.toks) (h':=((s.heap.update a (Obj.mapSeq λ_=>(#[]:Array Θ))).push (seqObj "tuple" vs.toArray 0)).push (seqObj "list" #[] 0)) λb o e=>zU _ (zU _ e))
 have I2:=(I1.kept (t':=s.toks) (h':=(s.heap.update a (Obj.mapSeq λ_=>(#[]:Array Θ))).push (seqObj "tuple" vs.toArray 0)) λb o e=>zU _ e)
 have fk:cL X pins H ((s.heap.update a (Obj.mapSeq λ_=>(#[]:Array Θ))).push (seqObj "tuple" vs.toArray 0)).objs.size:=I2.Xd (yN _) (I2.Wn.fresh (yN _));have hka:((s.heap.update a (Obj.mapSeq λ_=>(#[]:Array Θ))).push (seqObj "tuple" vs.toArray 0)).objs.size≠a:=by
  have WK:=zY ho1;rw[xK];exact jJ (jO WK)
 sleep 32;generalize ((s.heap.update a (Obj.mapSeq λ_=>(#[]:Array Θ))).push (seqObj "tuple" vs.toArray 0)).objs.size=kS at hk3 fk hka;generalize e3:({ s with heap:=((s.heap.update a (Obj.mapSeq λ_=>(#[]:Array Θ))).push (seqObj "tuple" vs.toArray 0)).push (seqObj "list" #[] 0) }:Ξ)=s3 at I3;have ho3:s3.heap.get? a=some (seqObj "list" #[] e1):=by rw[<- e3];exact ho3
 have hk3:s3.heap.get? kS=some (seqObj "list" #[] 0):=by rw[<- e3];exact hk3
 clear e3 I2 I1 ho1 ho;unfold ksk_rest;refine zV (wF ?_)
 first
  | rw[List.forIn_toArray]
  | (rw[<- Array.forIn_toList];simp?[List.toList_toArray])
  | rw[<- Array.forIn_toList]
 refine zV (ksk_fold (λi s'=>∃us H' e,us.length=i/\Inv X pins σ H' s'/\H' a=none/\H' kS=none/\s'.heap.get? a=some (seqObj "list" #[] e1)/\s'.heap.get? kS=some (seqObj "list" us.toArray e)/\J us H') vs 0 s3
  ⟨[],H,0,rfl,I3,fa.1,fk.1,ho3,hk3,j0⟩ ?step ?done)
 case step =>
  rintro j x s' hx ⟨us,H',e,hu,I',ha',WY,hoa,Wn,j'⟩;have hu:us.length=j:=by lia
  have hj:j < vs.length:=(List.getElem?_eq_some_iff.mp hx).1;have Ip:=I'.pinned (fp:=[a,kS]) (λb hb=>by
   rcases List.mem_cons.mp hb with rfl|hb
   ·exact cL.at fa ha'
   ·rw[List.mem_singleton.mp hb];exact cL.at fk WY) (λb hb=>by
   rcases List.mem_cons.mp hb with rfl|hb
   ·exact⟨_,hoa,λv z=>by cases z⟩
   ·rw[List.mem_singleton.mp hb];exact⟨_,Wn,λv z=>by cases z⟩)
  refine zV (kR (xB (step us x (by rw[hu];exact hx) _ s' H' Ip j') (λu Yd he=>?_) λ_ _ hF=>hF.elim));let⟨ZA,I'',j''⟩:=he
  try dsimp only
  let⟨ga,na⟩:=XO I'' (b:=a) zE hoa;let⟨gk,nk⟩:=XO I'' (b:=kS) (zC _ zE) Wn;have I4:=I''.WC;obtain⟨c2,YO⟩:∃c2,(Yd.heap.update kS (Obj.mapSeq (·.push u))).get? kS=some (seqObj "list" (us.toArray.push u) c2):=⟨_,kF gk (·.push u)⟩
  refine zV (kC gk rfl ?_ (by rw[zH,qV];lia) (yD (Nat.le_of_eq (Array.size_push ..)) (by rw[zH,qV];lia)));refine zW ⟨rfl,us++[u],ZA,c2,by rw[zN,hu];simp,Xl I4 (cL.at fk nk),na,nk,(xO _ _ hka).trans ga,?_,j''⟩;rw[YO];simp
 case done =>
  rintro s' ⟨us,H',e,hu,I',ha',WY,hoa,Wn,j'⟩;have hu:us.length=vs.length:=by lia
  try dsimp only
  refine zV (vK Wn rfl ?_);let⟨z,κ,hz,hP⟩:=fin us H' hu j';have last:∀Wz:SortSt,(arrOf Wz).map (·.2)=(WA z vs).toArray->failedOf Wz=none->wpAny (model X.prog X.w) A (ksk_tail a false e1 (.ref kS) Wz) P E s':=λWz h1 h2=>by
   unfold ksk_tail
   try dsimp only
   rw[h1,h2];have na1:(s'.heap.update kS (Obj.mapSeq λ_=>(#[]:Array Θ))).get? a=some (seqObj "list" #[] e1):=(xO _ _ hka).trans hoa;have I5:=Xl (g:=λ_=>(#[]:Array Θ)) I' (cL.at fk WY);have I6:=Xl (s:={ s' with heap:=s'.heap.update kS (Obj.mapSeq λ_=>(#[]:Array Θ)) }) (g:=λ_=>(WA z vs).toArray) I5 (cL.at fa ha');refine zV (kC Wn rfl ?_ (by rw[zH,qV];lia) (xW _));refine zV (wpAny_letGo ?_);refine zV (seqEpoch_at na1 rfl ?_);refine zV (kC na1 rfl ?_ (xW _) (by
    simp?[yP,qQ];show (WA z vs).toArray.size<=_;rw[zH,X5];lia))
   obtain⟨c,hc⟩:∃c,((s'.heap.update kS (Obj.mapSeq λ_=>(#[]:Array Θ))).update a (Obj.mapSeq λ_=>(WA z vs).toArray)).get? a=some (seqObj "list" (WA z vs).toArray c):=⟨_,kF na1 λ_=>(WA z vs).toArray⟩
   simp?[bne_self_eq_false,yP,qQ];exact zW (hP _ c I6 (cL.at fa ha') hc)
  unfold ksk_end
  try dsimp only
  simp?[yP,qQ];by_cases h2:vs.toArray.size < 2
  ·rw[yM h2,yM h2];refine zV (zW ?_);rw[StateT.run_pure];refine zV (zW (last _ ?_ rfl));have Zz:vs.length < 2:=by simpa using h2
   unfold WA;rw[yM Zz];show ((us.toArray.zip vs.toArray).map (·.2))=vs.toArray;apply Array.toList_inj.mp;simp?[Array.toList_map,Array.toList_zip];exact List.map_snd_zip (by rw[hu];exact yN _)
  ·rw[yO h2,yO h2];have Zz:2<=vs.length:=by
    have:¬ vs.length < 2:=by simpa using h2
    lia
   let⟨hk,WK⟩:=hz Zz s' I';refine zV (xB (hk (λκ' Yd=>κ'=κ/\Yd=s') ⟨rfl,rfl⟩) (λκ' Yd hs=>?_) λ_ _ x=>x.elim);let⟨rfl,rfl⟩:=hs;refine zV (xB (kat_run (Q:=λWz s2=>s2=Yd/\(arrOf Wz).map (·.2)=(WA z vs).toArray/\failedOf Wz=none) (G:=λp s2=>s2=Yd/\p=SP.run (SP.er z) (kas_sort vs.length))
    hu Zz X6 (λp Wz s2 a1 a2 a3 a4=>⟨a4.1,?_,a3⟩) (SP.wp_run WK (kas_sort vs.length) (SP.GX (by lia)) ⟨rfl,rfl⟩)) ?_ λ_ _ e=>e)
   ·rw[kat_snds hu a2,a4.2];unfold WA;rw[yO (by lia)]
   ·rintro⟨⟨⟩,Wz⟩ s2 ⟨hs,h4,h5⟩;subst hs;exact last Wz h4 h5
def sortedK{l:Θ}{f:Ψ}{Q:Θ->Ξ->Prop}(I:Inv X pins σ H s)(X6:vs.length < 64)
  (aaZ:∀ {Q':Γ Θ->Ξ->Prop},(∀h':ι,(∀b o,s.heap.get? b=some o->h'.get? b=some o)->Q' vs { s with heap:=h' })->wpAny (model X.prog X.w) A.in1 (collect l) Q' E s)
  (J:Γ Θ->Hp->Prop) (j0:J [] H)
  (step:∀us v,vs[us.length]?=some v->∀pl s' H',Inv X (pins++pl) σ H' s'->J us H'->wpAny (model X.prog X.w) A.in1.in1 (call (.ref f) [v]) (λu Yd=>∃ZA,Inv X (pins++pl) σ ZA Yd/\J (us++[u]) ZA) (λ_ _=>False) s')
  (fin:∀us H',us.length=vs.length->J us H'->∃ (z:Nat->Int) (κ:SortKind),(2<=vs.length->∀s',Inv X pins σ H' s'->(∀Q':SortKind->Ξ->Prop,Q' κ s'->wpAny (model X.prog X.w) A.in1.in1 (keyKind' us.toArray) Q' (λ_ _=>False) s') /\
    ∀i j C,i < vs.length->j < vs.length->C (SP.er z i j) s'->kas_ask X.prog X.w A.in1.in1 κ us i j C s') /\
   ∀s' D c,Inv X pins σ H' s'->cL X pins H' D->s'.heap.get? D=some (seqObj "list" (WA z vs).toArray c)->Q (.ref D) s') :
  wpAny (model X.prog X.w) A (call (.builtin "sorted") [l] [(Str.ofString "key",.ref f)]) Q E s:=by
 have YG:vs.length<=sizeLine:=by rw[qV];lia
 refine call_function_entry_kw kind_sorted plain_sorted entry_sorted (ksk_s1 _ _) ?_;unfold Builtin.«sorted»;refine zV (m:=checkCount "sorted" 1 1 _) (zW (zV (aaZ λh1 kp=>?_)));refine zV (kP ?_ (by simpa using YG));have I1:=I.kept (t':=s.toks) kp;have fD:cL X pins H h1.objs.size:=I1.Xd (yN _) (I1.Wn.fresh (yN _));have Y7:(h1.push (seqObj "list" vs.toArray 0)).get? h1.objs.size=some (seqObj "list" vs.toArray 0):=zX _ rfl;have I2:=I1.kept (t':=s.toks) (h':=h1.push (seqObj "list" vs.toArray 0)) λb o e=>zU _ e;show wpAny _ _ _ _ _ { s with heap:=h1.push (seqObj "list" vs.toArray 0) };refine zV (xY (wpAny_call_entry_kw slot_list_sort ⟨_,Y7,rfl⟩ entry_list_sort ?body (ksk_l1 _ _)))
 case body =>
  sleep 53;rw[ksk_t1];refine Xn I2 Y7 fD X6 J j0 step λus H' hu j'=>?_;let⟨z,κ,hz,hP⟩:=fin us H' hu j';exact⟨z,κ,hz,λs' c I' f' e=>⟨_,rfl,zW ⟨_,rfl,hP s' _ c I' f' e⟩⟩⟩
end Yo
namespace Dl
open PySem L2 PySem.Spec PyProof.Rows
def _root_.L2.Inv.aal(I:Inv X pins σ H s)(f:cL X pins H b)(ho:ej X.prog X.w (upd H b o) s.heap b o):Inv X pins σ (upd H b o) s:=by
 let⟨f0,f1,f2,f3,f4,f5⟩:=f;have up:∀c u,H c=some u->upd H b o c=some u:=λc u e=>by rw[ak (aG e f0)];exact e
 refine⟨I.ok,I.os,I.bare,⟨I.base.keep,I.base.slot,λc oc e n hx=>?_,I.base.there,λc xs e=>up c _ (I.base.XJ c xs e),λc oc u e=>up c _ (I.base.Xu c oc u e),⟨λc u e t=>up c u (I.base.Xm.st c u e t),I.base.Xm.gr⟩⟩,I.loc,I.cell,?_,λx c e=>?_,λp hp=>?_,λc u e=>?_,I.len⟩
 ·have WN:c≠b:=λz=>by
   rcases f3 with g|g
   ·exact hx (z ▸ g)
   ·exact absurd (zP (zY e) (z ▸ g)) (qF _)
  rw[ak WN];exact I.base.free c oc e n hx
 ·rw[ak (jN f1)];exact I.free
 ·rw[ak (f4 x c e)];exact I.WO x c e
 ·let⟨e,n,r⟩:=I.pin p hp;exact⟨e,by rw[ak (f5 p hp)];exact n,r⟩
 ·by_cases hc:c=b
  ·subst hc;rw[aw] at e;cases e;exact ho
  ·rw[ak hc] at e;exact (I.Wn c u e).W0 (λd w _ q=>q) (λd q=>up d _ q) λd w q _=>up d _ q
def pO(scope:ζ)(N':Γ Str)(p:Str):θ:=scope.names.all (λq=>!decide (q.2=NameKind.cell))&&decide (N'[0]?=some p)&&decide (scope.names.lookup p=some .local)&&decide (scope.isCoroutine=false)&&decide (scope.isGenerator=false)
section
def Jr(C:Bk X N sc (k+3))(hA:cO (k+1) A)(hk:scope.kind=.function)(Ym:N'.Nodup)(hl:pO scope N' p=true):Bk (fO X A qual scope N' f c s H) N' scope k where
 n:=rfl
 nd:=Ym
 tb:=λx kd hx=>.inl hx
 calm:=rfl
 fn:=λx hx=>by
  unfold pO at hl;simp?[zF,xH,yQ,xC] at hl;exact absurd rfl (hl.1.1.1.1 _ (mem_of_lookup hx))
 room:=hA.deeper _
 xe:=rfl
 kd:=hk
structure pS(X:Cx)(qual:Str):Prop where
 ex:∃c P,X.env.code=.ref c/\X.env.qual++"<lambda>"=qual/\W.codeHdIn X.K c P=true/\∀HF,cD X.K HF->HF P=some (.tab qual)
def iV(te:Env->Δ D)(ρ:Env):Γ D->Δ (Γ D)
 | []=>some []
 | d::ds=>(te (ρ.set 0 (some d))).bind λx=>(iV te ρ ds).map (x::·)
def o9:∀ {ds ks:Γ D},iV te ρ ds=some ks->ks.length=ds.length
 | [],ks,h=>by cases h;rfl
 | d'::ds,ks,h=>by
  unfold iV at h;let⟨y,h1,h⟩:=bs h;let⟨ys,h2,rfl⟩:=ae h;simp[o9 h2]
def sM:∀ {ds ks:Γ D}{i:Nat}{d:D},iV te ρ ds=some ks->ds[i]?=some d->∃x,te (ρ.set 0 (some d))=some x/\ks[i]?=some x
 | [],ks,i,d,h,e=>by simp at e
 | d'::ds,ks,i,d,h,e=>by
  unfold iV at h;let⟨y,h1,h⟩:=bs h;let⟨ys,h2,rfl⟩:=ae h;cases i with
  | zero=>simp at e;subst e;exact⟨y,h1,rfl⟩
  | succ i=>let⟨x,a,b⟩:=sM h2 (by simpa using e);exact⟨x,a,by simpa using b⟩
def pf(cs:Γ Nat)(fl te:Env->Δ D):Env->Δ (Γ D):=λρ=>(fl ρ).bind λl=>match l with
 | .list ds=>(iV te (fA 1 cs ρ) ds).bind λks=>(intsOf ks).bind λzs=>if ds.length < 64 then some (rg (λi=>zs.getD i 0) ds .none) else none
 | _=>none
def AX{K:Φ}{cs:Γ Nat}(eo:cw K HF ρ σ)(r:Rep K HF d v):cw K HF ((fA 1 cs ρ).set 0 (some d)) ((lq 1 cs σ).set 0 (some v)):=jg (D3 eo) r
def nI{K:Φ}:∀ {ks:Γ D}{zs:Γ Int}{WH:Γ V}{us:Γ Θ},intsOf ks=some zs->aq K HF ks WH->aH WH us->IntsAre us zs
 | [],zs,WH,us,h,r,v=>by
  cases h;rw[r.nil_inv] at v;cases v;exact .nil
 | d::ks,zs,WH,us,h,r,v=>by
  cases d<;>simp?[intsOf] at h<;>try cases h
  rename_i i;let⟨ys,h2,rfl⟩:=ae h;let⟨w,ws,rfl,a,b⟩:=r.cons_inv;simp?[Rep] at a;subst a;cases v with
  | cons r1 r2 =>
   let⟨t,rfl⟩:=r1;exact .cons i t (nI h2 b r2)
def jw:∀ {us:Γ Θ}{zs:Γ Int}{i:Nat},IntsAre us zs->i < us.length->∃t,us.getD i Value.none=.int (zs.getD i 0) t
 | _,_,i,.nil,h=>by simp at h
 | _,_,0,.cons n t r,h=>⟨t,rfl⟩
 | _,_,i+1,.cons n t r,h=>by
  let⟨t',e⟩:=jw (i:=i) r (by simpa using h);exact⟨t',by simpa using e⟩
variable {fl te:Env->Δ D}{cs:Γ Nat}
def Bk.acj(C:Bk X N sc (k+3))(B:rf X "sorted" (.builtin "sorted"))(L:pS X qual)(ok:jm sc scope N N' 1 cs=true)(hl:pO scope N' p=true)
  (hb:∀ (cl:Γ (Str×Ψ)) (pm Xy u:Θ) (c:Ψ),bindArgs (W.kla_fn "<lambda>" qual params body scope cl pm (.ref c) Xy) ⟨[u],[]⟩=pure [(p,u)]) (Ze:defaultsOf params X.env=([],[])) (h:DE X l fl)
  (hY:∀A f c s H,Bk (fO X A qual scope N' f c s H) N' scope k->DE (fO X A qual scope N' f c s H) body te)
  (X1:starEach [l] X.env=(false,eval l X.env)::starEach [] X.env) (he:backTo pos (starEach [l] X.env)=(false,eval l X.env)::backTo pos (starEach [] X.env)) (WU:(backTo pos (starEach [l] X.env)).any (·.1)=false) :
  DF X (.Call (.Name "sorted" p0) [l] [⟨some "key",.Lambda params body scope Xh,Yv⟩] pos) (pf cs fl te):=by
 let⟨S,_⟩:=C.comp ok;have Ym:N'.Nodup:=by
  unfold jm at ok;simp?[zF,zJ] at ok;exact ok.2
 have hl':=hl;unfold pO at hl';simp?[zF,xH,yQ,xC,zJ] at hl';obtain⟨⟨⟨⟨hnc,hN0⟩,hp⟩,YD⟩,Zc⟩:=hl';let⟨cc,P,XH,Zk,hhd,eV⟩:=L.ex;intro pins s σ H Q I ⟨HF,ρ,out,sm,eo,hf,q⟩;let⟨ld,hld,hf⟩:=bs hf;cases ld<;>try cases hf
 rename_i ds;let⟨ks,hks,hf⟩:=bs hf;let⟨zs,hzs,hf⟩:=bs hf;split at hf<;>cases hf;rename_i X6;refine qZ (jt I B.gl B.mg B.bt ?_ (by decide) (by decide));refine PyProof.Rows.callWith_kw (e:=l) (rest:=[]) (kws:=[⟨some "key",.Lambda params body scope Xh,Yv⟩]) ?_ he WU rfl rfl;refine bV (DY h IJ X1 pos pins s σ H _ I ⟨HF,ρ,[.list ds],sm,eo,by simp[aa,ag,hld],λvs H1 Wj g1 r1=>(⟨Wj,g1,r1⟩:∃Wj,bh HF H Wj H1/\aq X.K Wj [.list ds] vs)⟩) λus s1 z=>?_;let⟨vs,H1,I1,rv,Wj,g1,r1⟩:=z;let⟨v,vr,rfl,a1,b1⟩:=r1.cons_inv;rw[b1.nil_inv] at rv;let⟨u,rfl,rx⟩:=vals1 rv;simp?[Rep] at a1;let⟨la,ws,rfl,hq,rr⟩:=a1;cases rx;have hT1:H1 P=some (.tab qual):=g1.fh _ _ (eV Wj (eo.tb.mono g1.ff));show wpAny _ _ (evalAll ((do let v <- eval (.Lambda params body scope Xh) X.env;standAt pos;pure v)::[])) _ _ s1;refine wpAny_evalAll_cons (zV ?_);refine AZ (P:=P) I1 S Zk XH (W.codeHd_of_K I1.ok.mod.Z6 hhd) hT1 I1.ok.mod.bmd Ze λf c' pm Xy s2 H2 I2 hfo Y3 Zd s12 Zl _=>?_;refine zV (vD (zW (wpAny_evalAll_nil ?_)));show wpAny _ _ (call (.builtin "sorted") [.ref la] [(Str.ofString "key",.ref f)]) _ _ s2;sleep 31;have g2:bh Wj H1 Wj H2:=⟨s12,.refl _,g1.fh.trans s12,λ_ _ e=>.inl e⟩
 let⟨its,rvi,pl,hz⟩:=Ip.list (s12.seq (g1.fh.seq hq));have hlen:its.length=ds.length:=by rw[<- rvi.length,rr.length]
 have hkl:=o9 hks;have hR:cO (k+1) X.A.in1.in1:=C.room.in1.in1;refine Yo.sortedK (vs:=its) Ip (by lia) (λ{Q'} hQ=>?_) (λus H'=>∃Wi WH,bh Wj H2 Wi H'/\aq X.K Wi (ks.take us.length) WH/\aH WH us) ⟨Wj,[],.refl g2.fh,by simpa using aq.nil,.nil⟩ (λus x hx pl' s3 H3 I3 ⟨WL,WH,g3,rk,rvk⟩=>?_) λus H3 hu ⟨WL,WH,g3,rk,rvk⟩=>?_
 ·refine collect_list pl.isList (hQ _ λb o e=>?_) (by rw[qV];lia);exact (xO _ _ (jJ (zY e))).trans (zU _ e)
 ·have hi:us.length < its.length:=(List.getElem?_eq_some_iff.mp hx).1;obtain⟨w,hw⟩:∃w,ws[us.length]?=some w:=⟨_,zK (by rw[rvi.length];exact hi)⟩
  let⟨x',YV,rw'⟩:=rvi.get hw;rw[hx] at YV;cases YV;let⟨d,hd,rd⟩:=rr.get hw;let⟨kd,hkd,hki⟩:=sM hks hd;have aa1:s3.heap.get? f=some (W.kla_obj "<lambda>" qual params body scope (eB X.env scope.names []) pm c' Xy) :=
   (I3.pin (f,_) (yE _ (qK _ (yE _ (dy zE hfo))))).1
  refine xB (A4 (Q:=λv H4=>∃Xb,bh WL H3 Xb H4/\Rep X.K Xb kd v) (te:=tD X.K te) I3 hR I3.ok.frames S hnc hN0 hp Ym YD Zc aa1 (g3.hh _ _ Zd) (hb _ _ _ _ _) rw' (hY _ _ _ _ _ (Jr C hR S.kind Ym hl))
   ⟨WL,_,kd,g3.fh,AX (eo.mono (g1.ff.trans g3.ff)) (rd.mono g3.ff),hkd,λv H4 Xb g4 r4=>⟨Xb,g4,r4⟩⟩) (λu s4 ⟨v4,H4,I4,r4,Xb,g4,rp⟩=>⟨H4,I4,Xb,WH++[v4],g3.trans g4,?_,rvk.append (.cons r4 .nil)⟩) λ_ _ e=>e
  rw[zN,xD,wU,hki];exact (rk.mono g4.ff).append (aq.cons rp aq.nil)
 ·have WY:ks.take us.length=ks:=kK (by lia);rw[WY] at rk;have ia:=nI hzs rk rvk;refine⟨λi=>zs.getD i 0,oneType',λh2 s3 I3=>⟨λQ' q'=>?_,λi j Cc hi hj q'=>?_⟩,λs3 Dn c I3 fD e=>?_⟩
  ·rw[PyProof.Rows.ksk_kind (keys:=us.toArray) (kz:=zs) (by simpa using ia) (by simpa [hu] using h2)];exact zW q'
  ·let⟨t1,e1⟩:=jw ia (i:=i) (by lia);let⟨t2,e2⟩:=jw ia (i:=j) (by lia);unfold W.kas_ask;rw[e1,e2];exact W.kat_lt_int q'
  ·have hv:=rF (λi=>zs.getD i 0) rvi;have hr:=tq (λi=>zs.getD i 0) rr;have hnD:H3 Dn=none:=fD.1;have I4:=Inv.aal (o:=.lst (rg (λi=>zs.getD i 0) ws .Wh)) I3 fD ⟨by rw[(gh _ _ _).length_eq];exact hz,_,c,hv,e⟩;have G:=(g1.trans g2).trans g3;refine⟨.ref Dn,_,I4.WC,rfl,q Dn _ _ WL (G.trans (.own G.fh hnD)) (G.hh.free hnD) (G.fh.free hnD) aw (hr.mono g3.ff)⟩
end
end Dl
namespace Yo
open PySem PySem.W PySem.Calls PyProof.Rows L2
variable {a:Int}{n:Nat}
def Zm{R:Result->Ξ->Prop}{a b c:Int}{t u v:Tok}(hh:A.handled=none)(hr:IsRange s.heap r a b c t u v)(Yw:Builtin.Range.small a b c=true)(hn:Builtin.Range.rangeSize a b c=n)(hlen:n<=2 ^ 24)
  (hS:s.heap.get? S=some { cls:=.type "list",data:=.seq #[] })
  (hR:∀h' tk ZX c',(∀b o,b≠S->s.heap.get? b=some o->h'.get? b=some o)->h'.get? S=some { cls:=.type "list",dict:=none,data:=.seq ZX c',slots:=#[] } ->
   ItemsOf (λi v=>∃t,v=.int (a+i * c) t) ZX n->R (.ok (.ret (.ref S))) { s with heap:=h',toks:=tk }):codeAny (model prog w) A (.builtin "list.__iadd__" ⟨[.ref S,.ref r],[]⟩) R s:=by
 refine kG entry_list_iadd' ?_;rw[Around.under_plainId (by decide +kernel:plainId "list.__iadd__"=true) _];exact wpAny_extend_range (A:=A) hh hr Yw hn hlen S (.ref S) _ hS hR
def X9(hh:A.handled=none)(hr:IsRange s.heap r a b c t u v)(Yw:Builtin.Range.small a b c=true)(hn:Builtin.Range.rangeSize a b c=n)(hlen:n<=2 ^ 24)
  (h:∀h' tk acc,(∀b o,s.heap.get? b=some o->h'.get? b=some o)->ItemsOf (λi v=>∃t,v=.int (a+i * c) t) acc n->Q acc.toList { s with heap:=h',toks:=tk }):wpAny (model prog w) A (collect (.ref r)) Q E s:=by
 unfold collect;refine zV (wpAny_runValue (kG entry_proto_collect' ?_));rw[Around.under_plainId (by decide +kernel:plainId "proto.collect"=true) _];show wpAny _ A.in1 (newList [] >>= λl=>again (.builtin "list.__iadd__" ⟨[l,.ref r],[]⟩)) _ _ s;refine zV (qM ?_);have hS:(s.heap.push { cls:=.type "list",data:=.seq #[] }).get? s.heap.objs.size=some { cls:=.type "list",data:=.seq #[] }:=zX _ rfl;refine zW ⟨plainId_quiet (by decide +kernel) _,Zm (s:={ s with heap:=s.heap.push { cls:=.type "list",data:=.seq #[] } }) hh (zU _ hr) Yw hn hlen hS λh' tk ZX c' hk hS' aey=>?_⟩;show wpAny _ A (load s.heap.objs.size >>= _) _ _ _;refine zV (wpAny_load hS' ?_);exact zW (h h' tk ZX (λb o e=>hk b o (yS (zY e)) (zU _ e)) aey)
def ZY{l:Θ}{f:Ψ}{PV:Γ Θ->Prop}{Q:Θ->Ξ->Prop}(I:Inv X pins σ H s)
  (aaZ:∀ {Q':Γ Θ->Ξ->Prop},(∀ (h':ι) (tk:Nat) (vs:Γ Θ),PV vs->(∀b o,s.heap.get? b=some o->h'.get? b=some o)->Q' vs { s with heap:=h',toks:=tk })->wpAny (model X.prog X.w) A.in1 (collect l) Q' E s)
  (rest:∀vs,PV vs->vs.length < 64/\∃J:Γ Θ->Hp->Prop,J [] H /\
   (∀us v,vs[us.length]?=some v->∀pl s' H',Inv X (pins++pl) σ H' s'->J us H'->wpAny (model X.prog X.w) A.in1.in1 (call (.ref f) [v]) (λu Yd=>∃ZA,Inv X (pins++pl) σ ZA Yd/\J (us++[u]) ZA) (λ_ _=>False) s') /\
   (∀us H',us.length=vs.length->J us H'->∃ (z:Nat->Int) (κ:SortKind),(2<=vs.length->∀s',Inv X pins σ H' s'->(∀Q':SortKind->Ξ->Prop,Q' κ s'->wpAny (model X.prog X.w) A.in1.in1 (keyKind' us.toArray) Q' (λ_ _=>False) s') /\
    ∀i j C,i < vs.length->j < vs.length->C (SP.er z i j) s'->kas_ask X.prog X.w A.in1.in1 κ us i j C s') /\
   ∀s' D c,Inv X pins σ H' s'->cL X pins H' D->s'.heap.get? D=some (seqObj "list" (WA z vs).toArray c)->Q (.ref D) s')) :
  wpAny (model X.prog X.w) A (call (.builtin "sorted") [l] [(Str.ofString "key",.ref f)]) Q E s:=by
 refine call_function_entry_kw kind_sorted plain_sorted entry_sorted (ksk_s1 _ _) ?_;unfold Builtin.«sorted»;refine zV (m:=checkCount "sorted" 1 1 _) (zW (zV (aaZ λh1 tk vs hv kp=>?_)));let⟨X6,J,j0,step,fin⟩:=rest vs hv;have YG:vs.length<=sizeLine:=by rw[qV];lia
 refine zV (kP ?_ (by simpa using YG));have I1:=I.kept (t':=tk) kp;have fD:cL X pins H h1.objs.size:=I1.Xd (yN _) (I1.Wn.fresh (yN _));have Y7:(h1.push (seqObj "list" vs.toArray 0)).get? h1.objs.size=some (seqObj "list" vs.toArray 0):=zX _ rfl;have I2:=I1.kept (t':=tk) (h':=h1.push (seqObj "list" vs.toArray 0)) λb o e=>zU _ e;show wpAny _ _ _ _ _ { s with heap:=h1.push (seqObj "list" vs.toArray 0),toks:=tk };refine zV (xY (wpAny_call_entry_kw slot_list_sort ⟨_,Y7,rfl⟩ entry_list_sort ?body (ksk_l1 _ _)))
 case body =>
  sleep 53;rw[ksk_t1];refine Xn I2 Y7 fD X6 J j0 step λus H' hu j'=>?_;let⟨z,κ,hz,hP⟩:=fin us H' hu j';exact⟨z,κ,hz,λs' c I' f' e=>⟨_,rfl,zW ⟨_,rfl,hP s' _ c I' f' e⟩⟩⟩
end Yo
namespace Dl
open PySem L2 PySem.Spec PyProof.Rows
def tJ(n:Nat):Γ D:=(List.range n).map λi=>PyData.int ((i:Nat):Int)
def tM(cs:Γ Nat)(fs:Env->Δ (Γ D))(te:Env->Δ D):Env->Δ (Γ D):=λρ=>(fs ρ).bind λl=>match l with
 | [.int n]=>if 0<=n/\n < 64 then (iV te (fA 1 cs ρ) (tJ n.toNat)).bind λks=>(rowsOf ks).map λWr=>rg (λi=>rk Wr (Wr.getD i [])) (tJ n.toNat) .none else none
 | _=>none
def u3:∀ {vs:Γ Θ}{k:Nat},(∀i v,vs[i]?=some v->∃t,v=Value.int ((k+i:Nat):Int) t)->aH ((List.range' k vs.length).map λi=>V.int ((i:Nat):Int)) vs
 | [],k,_=>.nil
 | v::vs,k,h=>by
  rw[zL,vG,zI];let⟨t,e⟩:=h 0 v rfl;refine .cons ⟨t,by simpa using e⟩ (u3 λi u hu=>?_);let⟨t',e'⟩:=h (i+1) u (by simpa using hu);exact⟨t',by rw[e'];congr 1;lia⟩
def vh{K:Φ}:∀ (l:Γ Nat),aq K HF (l.map λi=>PyData.int ((i:Nat):Int)) (l.map λi=>V.int ((i:Nat):Int))
 | []=>aq.nil
 | i::l=>aq.cons (by simp[Rep]) (vh l)
section
variable {cs:Γ Nat}
def Bk.aco(C:Bk X N sc (k+3))(B:rf X "sorted" (.builtin "sorted"))(BR:rf X "range" (.type "range"))(L:pS X qual)(ok:jm sc scope N N' 1 cs=true)(hl:pO scope N' p=true)
  (hb:∀ (cl:Γ (Str×Ψ)) (pm Xy u:Θ) (c:Ψ),bindArgs (W.kla_fn "<lambda>" qual params body scope cl pm (.ref c) Xy) ⟨[u],[]⟩=pure [(p,u)]) (Ze:defaultsOf params X.env=([],[])) (h:DA X [e] fs)
  (hY:∀A f c s H,Bk (fO X A qual scope N' f c s H) N' scope k->DE (fO X A qual scope N' f c s H) body te)
  (hsR:starEach [e] X.env=[(false,eval e X.env)])
  (X1:starEach [.Call (.Name "range" p1) [e] [] Yx] X.env=(false,eval (.Call (.Name "range" p1) [e] [] Yx) X.env)::starEach [] X.env) (he:backTo pos (starEach [.Call (.Name "range" p1) [e] [] Yx] X.env)=(false,eval (.Call (.Name "range" p1) [e] [] Yx) X.env)::backTo pos (starEach [] X.env)) (WU:(backTo pos (starEach [.Call (.Name "range" p1) [e] [] Yx] X.env)).any (·.1)=false) :
  DF X (.Call (.Name "sorted" p0) [.Call (.Name "range" p1) [e] [] Yx] [⟨some "key",.Lambda params body scope Xh,Yv⟩] pos) (tM cs fs te):=by
 let⟨S,_⟩:=C.comp ok;have Ym:N'.Nodup:=by
  unfold jm at ok;simp?[zF,zJ] at ok;exact ok.2
 have hl':=hl;unfold pO at hl';simp?[zF,xH,yQ,xC,zJ] at hl';obtain⟨⟨⟨⟨hnc,hN0⟩,hp⟩,YD⟩,Zc⟩:=hl';let⟨cc,P,XH,Zk,hhd,eV⟩:=L.ex;intro pins s σ H Q I ⟨HF,ρ,out,sm,eo,hf,q⟩;let⟨ld,hld,hf⟩:=bs hf;obtain⟨n,rfl⟩:∃n,ld=[.int n]:=by
  split at hf
  ·exact⟨_,rfl⟩
  ·cases hf
 simp only at hf;split at hf;rotate_left
 ·cases hf
 rename_i X6;let⟨ks,hks,hf⟩:=bs hf;let⟨Wr,YC,rfl⟩:=ae hf;let⟨hkr,WN⟩:=lP YC;refine qZ (jt I B.gl B.mg B.bt ?_ (by decide) (by decide));refine PyProof.Rows.callWith_kw (e:=.Call (.Name "range" p1) [e] [] Yx) (rest:=[]) (kws:=[⟨some "key",.Lambda params body scope Xh,Yv⟩]) ?_ he WU rfl rfl;rw[he];refine Calls.spliced_cons ?_;refine Call_ (jt I BR.gl BR.mg boot_range (qT (bV (h Yx pins s σ H _ I ⟨HF,ρ,[.int n],sm,eo,hld,λvs H1 Wj g1 r1=>(⟨Wj,g1,r1⟩:∃Wj,bh HF H Wj H1/\aq X.K Wj [.int n] vs)⟩) λus s1 z=>?_) hsR rfl));let⟨vs,H1,I1,rv,Wj,g1,r1⟩:=z;let⟨v,vr,rfl,a1,b1⟩:=r1.cons_inv;rw[b1.nil_inv] at rv;let⟨u,rfl,rx⟩:=vals1 rv;simp?[Rep] at a1;subst a1;let⟨t,rfl⟩:=rx;refine call_range_1 ?_;refine Calls.spliced_nil ?_;let⟨hn0,ahU⟩:=X6;have I1':=I1.kept (t':=s1.toks+1+1) (h':=s1.heap.push { cls:=Value.type "range",data:=Data.fields #[Value.int 0 s1.toks,Value.int n t,Value.int 1 (s1.toks+1)] }) λb o e=>zU _ e;have hro:(s1.heap.push { cls:=Value.type "range",data:=Data.fields #[Value.int 0 s1.toks,Value.int n t,Value.int 1 (s1.toks+1)] }).get? s1.heap.objs.size=some { cls:=Value.type "range",data:=Data.fields #[Value.int 0 s1.toks,Value.int n t,Value.int 1 (s1.toks+1)] }:=zX _ rfl;have Ir:=I1'.pinned (fp:=[s1.heap.objs.size]) (λb hb=>by rw[List.mem_singleton.mp hb];exact I1.Xd (yN _) I1.fresh) (λb hb=>by rw[List.mem_singleton.mp hb];exact⟨_,hro,λv z=>by cases z⟩);have hT1:H1 P=some (.tab qual):=g1.fh _ _ (eV Wj (eo.tb.mono g1.ff));show wpAny _ _ (evalAll ((do let v <- eval (.Lambda params body scope Xh) X.env;standAt pos;pure v)::[])) _ _ _;refine wpAny_evalAll_cons (zV ?_);refine AZ (P:=P) Ir S Zk XH (W.codeHd_of_K Ir.ok.mod.Z6 hhd) hT1 Ir.ok.mod.bmd Ze λf c' pm Xy s2 H2 I2 hfo Y3 Zd s12 Zl _=>?_;refine zV (vD (zW (wpAny_evalAll_nil ?_)));show wpAny _ _ (call (.builtin "sorted") [.ref s1.heap.objs.size] [(Str.ofString "key",.ref f)]) _ _ s2;have hr2:IsRange s2.heap s1.heap.objs.size 0 n 1 s1.toks t (s1.toks+1):=(Yo.XO I2 zE hro).1;sleep 31;have g2:bh Wj H1 Wj H2:=⟨s12,.refl _,g1.fh.trans s12,λ_ _ e=>.inl e⟩
 have hkl:=o9 hks;have hnl:(tJ n.toNat).length=n.toNat:=by simp[tJ]
 have hR:cO (k+1) X.A.in1.in1:=C.room.in1.in1;refine Yo.ZY (PV:=λvs=>vs.length=n.toNat/\∀i v,vs[i]?=some v->∃t,v=Value.int ((i:Nat):Int) t) Ip (λ{Q'} hQ=>?_) λits ⟨hil,hiv⟩=>⟨by lia,λus H'=>∃Wi WH,bh Wj H2 Wi H'/\aq X.K Wi (ks.take us.length) WH/\aH WH us,⟨Wj,[],.refl g2.fh,by simpa using aq.nil,.nil⟩,λus x hx pl' s3 H3 I3 ⟨WL,WH,g3,rk,rvk⟩=>?_,λus H3 hu ⟨WL,WH,g3,rk,rvk⟩=>?_⟩
 ·refine Yo.X9 (n:=n.toNat) C.room.in1.hd hr2 (small_one (by lia) (by lia) (by lia) (by lia)) (by rw[rangeSize_one];split<;>lia) (by lia) λh' tk acc kp ha=>?_;refine hQ h' tk acc.toList ⟨by have:=ha.1;simpa using this,λi v hv=>?_⟩ kp;let⟨t',e'⟩:=ha.2 i v (by simpa using hv);exact⟨t',by rw[e'];congr 1;lia⟩
 ·have hi:us.length < n.toNat:=by rw[<- hil];exact (List.getElem?_eq_some_iff.mp hx).1
  let⟨tx,rfl⟩:=hiv _ _ hx;have hd:(tJ n.toNat)[us.length]?=some (.int ((us.length:Nat):Int)):=by simp[tJ,hi]
  let⟨kd,hkd,hki⟩:=sM hks hd;have aa1:s3.heap.get? f=some (W.kla_obj "<lambda>" qual params body scope (eB X.env scope.names []) pm c' Xy) :=
   (I3.pin (f,_) (yE _ (qK _ (yE _ (dy zE hfo))))).1
  refine xB (A4 (v:=V.int ((us.length:Nat):Int)) (Q:=λv H4=>∃Xb,bh WL H3 Xb H4/\Rep X.K Xb kd v) (te:=tD X.K te) I3 hR I3.ok.frames S hnc hN0 hp Ym YD Zc aa1 (g3.hh _ _ Zd) (hb _ _ _ _ _) ⟨tx,rfl⟩ (hY _ _ _ _ _ (Jr C hR S.kind Ym hl))
   ⟨WL,_,kd,g3.fh,AX (eo.mono (g1.ff.trans g3.ff)) (by simp[Rep]),hkd,λv H4 Xb g4 r4=>⟨Xb,g4,r4⟩⟩) (λu s4 ⟨v4,H4,I4,r4,Xb,g4,rp⟩=>⟨H4,I4,Xb,WH++[v4],g3.trans g4,?_,rvk.append (.cons r4 .nil)⟩) λ_ _ e=>e
  rw[zN,xD,wU,hki];exact (rk.mono g4.ff).append (aq.cons rp aq.nil)
 ·have WY:ks.take us.length=ks:=kK (by lia);rw[WY,hkr] at rk;have hnn:Wr.length=n.toNat:=by
   have:=jD List.length hkr;rw[zD] at this;lia
  refine⟨λi=>Dl.rk Wr (Wr.getD i []),tuples' true,λh2 s3 I3=>⟨λQ' q'=>?_,λi j Cc hi hj q'=>?_⟩,λs3 Dn c I3 fD e=>?_⟩
  ·let⟨fs',tt,hlen,hff⟩:=tR (qy I3 g3.fh rk rvk) WN;refine W.kat_kind (T:=.type "int") tt (by lia) (λv hv=>?_) (by decide) q';let⟨n',t',rfl⟩:=hff v hv;exact W.Looks.of_pure rfl
  ·have hp3:=qy I3 g3.fh rk rvk;have ri:=gD (d:=Value.none) (d':=[]) hp3 (show i < us.length by lia);have rj:=gD (d:=Value.none) (d':=[]) hp3 (show j < us.length by lia);let⟨a,o,aaW,n1,ea,e1,e2,e3,e4⟩:=ri.ex;let⟨b,o',its',n',eb,f1,f2,f3,f4⟩:=rj.ex;unfold W.kas_ask;rw[ea,eb];have ZR:Wr.getD i []∈Wr:=by
    rw[zG,zK (by lia)];exact qB _
   have q2:Cc (lexLt (Wr.getD i []) (Wr.getD j [])) s3:=by
    rw[DM ZR];exact q'
   refine W.kat_lt e1 e3 f1 f3 ?_;have:=sJ (prog:=X.prog) (w:=X.w) (A:=X.A.in1.in1) (s:=s3) 0 e4 f4 q2;have l1:aaW.size=(Wr.getD i []).length:=by have:=vY e4;sleep 14
   have l2:its'.size=(Wr.getD j []).length:=by have:=vY f4;sleep 14
   rw[l1,l2];exact this
  ·have rvi:aH ((List.range n.toNat).map λi=>V.int ((i:Nat):Int)) its:=by
    have:=u3 (vs:=its) (k:=0) λi v hv=>by
     let⟨t',e'⟩:=hiv i v hv;exact⟨t',by rw[e'];congr 1;lia⟩
    rw[hil,<- yH] at this;exact this
   have rr:aq X.K Wj (tJ n.toNat) ((List.range n.toNat).map λi=>V.int ((i:Nat):Int)):=vh _;have hv:=rF (λi=>Dl.rk Wr (Wr.getD i [])) rvi;have hr:=tq (λi=>Dl.rk Wr (Wr.getD i [])) rr;have hnD:H3 Dn=none:=fD.1;have I4:=Inv.aal (o:=.lst (rg (λi=>Dl.rk Wr (Wr.getD i [])) ((List.range n.toNat).map λi=>V.int ((i:Nat):Int)) .Wh)) I3 fD ⟨by rw[(gh _ _ _).length_eq,zD,zR,PySem.sizeLine_eq];lia,_,c,hv,e⟩;have G:=(g1.trans g2).trans g3;refine⟨.ref Dn,_,I4.WC.WC,rfl,q Dn _ _ WL (G.trans (.own G.fh hnD)) (G.hh.free hnD) (G.fh.free hnD) aw (hr.mono g3.ff)⟩
end
def Kj(i j l:Nat):Env->D->Δ Env:=λρ d=>match d with
 | .tuple [x,y,z]=>if isFree ρ i=true/\isFree ρ j=true/\isFree ρ l=true then some (((ρ.set i (some x)).set j (some y)).set l (some z)) else none
 | _=>none
def Jl(i j l:Nat)(hc:X.calm=true)(hN:X.N.Nodup)(hi:X.N[i]?=some x)(hx:Loc X.env.scope x)(hj:X.N[j]?=some y)(hy:Loc X.env.scope y)(hl:X.N[l]?=some z)(hz:Loc X.env.scope z)
  (hf:X.fn x=true\/X.env.scope.names.lookup x=some .local) (Zx:X.fn y=true\/X.env.scope.names.lookup y=some .local) (aez:X.fn z=true\/X.env.scope.names.lookup z=some .local) :
  DG X (.Tuple [.Name x px,.Name y py,.Name z pz] k pos) (Kj i j l) :=
 rX (Cm hc (gJ (fY hN hi hx hf) (gJ (fY hN hj hy Zx) (gJ (fY hN hl hz aez) yq)))) λv σ H Q z=>by
  let⟨HF,ρ,d,ρ',sm,eo,r,hf,q⟩:=z;unfold Kj at hf;split at hf
  ·rename_i x' y' z';split at hf
   ·rename_i hh;cases hf;simp?[Rep] at r;let⟨a,vs,rfl,hs,rr⟩:=r;let⟨v1,r1,rfl,a1,b1⟩:=rr.cons_inv;sleep 54;let⟨v3,r3,rfl,a3,b3⟩:=b2.cons_inv;rw[b3.nil_inv] at hs;exact⟨a,_,rfl,aE sm hs,rfl,v1,_,rfl,v2,_,rfl,v3,_,rfl,rfl,q _ (jg (jg (jg eo a1) a2) a3) (me (me (me eo hh.1) hh.2.1) hh.2.2)⟩
   ·cases hf
  ·cases hf
def Tu(x y:D):Δ θ:=match y with
 | .tuple ds=>if SeqAt.shaped x=true/\SeqAt.shaped y=true then some (!ds.any λz=>PyData.eqv z x) else none
 | .list ds=>if SeqAt.shaped x=true/\SeqAt.shaped y=true then some (!ds.any λz=>PyData.eqv z x) else none
 | _=>none
def GN(hu:X.A.units+66 < cLine):gO X (compareOp .NotIn) (TM X.K Tu):=by
 intro pins s σ H v1 v2 u1 u2 Q I rx ry h;let⟨HF,x,y,k,sm,r1,r2,hg,q⟩:=h;let⟨as,ra⟩:=gu I sm r1 rx;let⟨bs,rb⟩:=gu I sm r2 ry;cases y<;>simp?[Tu] at hg<;>try cases hg
 all_goals
  split at hg<;>cases hg;rename_i ds hh;have c1:=SeqAt.canLay_of_shaped hh.1;have c2:=SeqAt.canLay_of_shaped hh.2;have d1:=SeqAt.depth_of_shaped hh.1;simp?[PyData.canLay0] at c2;have m:=Nat.min_le_right (PyData.depthAll ds) x.depth
  first
   | exact SeqAt.notIn_list_reads rb ra c2 c1 (by lia) ⟨.bl _,H,I,rfl,q⟩
   | exact SeqAt.notIn_tuple_reads rb ra c2 c1 (by lia) ⟨.bl _,H,I,rfl,q⟩
def FI:D->D->Δ D:=λx y=>(Tu x y).map PyData.bool
def Bk.acp(C:Bk X N sc k)(ha:DE X a fa)(hb:DE X b fb)(hm:behindInMarks .NotIn b=false:=by rfl):DE X (.Compare a [.NotIn] [b] pos) (f2 FI fa fb):=lC (GN C.u66) lQ ha hb hm
def Bk.aeA(C:Bk X N sc k)(ha:DE X a fa)(hb:DE X b fb)(hm:behindInMarks .NotIn b=false:=by rfl):DT X (.Compare a [.NotIn] [b] pos) (fB (f2 FI fa fb)):=ki (GN C.u66) lQ ha hb hm
structure Vl(h:Heap)(v:Value)(r:List Int):Prop where
 ex:∃ (a:Ψ) (o:Obj) (n:Nat) (p:Θ) (x y m:Int) (t:Tok),v=.ref a/\r=[x,y,m]/\h.get? a=some o/\o.cls=.type "tuple"/\o.data=.seq #[p,.int m t] n/\xc h p [x,y]
end Dl
namespace HT
open PySem PyProof.Rows
section
open PySem.SeqAt
open PySem.AutoSeq1 (wpAny_loadPart')
open PySem.MeetsSeq PySem.MeetsSeq2 PySem.MeetsSeq3
end
end HT
namespace Dl
open PySem L2 PySem.Spec PyProof.Rows
def jy:Γ D->Δ (Γ (Γ Int))
 | []=>some []
 | d::r=>(ma d).bind λns=>(jy r).map (ns::·)
section
variable {fl te:Env->Δ D}{cs:Γ Nat}
end
end Dl
namespace HT
open PySem PyProof.Rows
section
open PySem.SeqAt
open PySem.AutoSeq1 (wpAny_loadPart')
open PySem.MeetsSeq PySem.MeetsSeq2 PySem.MeetsSeq3
end
end HT
namespace Dl
open PySem L2 PySem.Spec PyProof.Rows
structure We(h:Heap)(v:Value)(r:List Int):Prop where
 ex:∃ (a:Ψ) (o:Obj) (n:Nat) (p:Θ) (x y:Int) (t u:Tok) (ns:Γ Int),v=.ref a/\r=x::y::ns/\h.get? a=some o/\o.cls=.type "tuple"/\o.data=.seq #[.int x t,.int y u,p] n/\xc h p ns
inductive UH{α:Type}(X:Cx)(R:Addr->α->Prop):List Expr->List α->List V->Prop
 | nil:UH X R [] [] []
 | cons {x:Str}{p:Pos}{m:α}{f:Ψ}{es:Γ γ}{ms:Γ α}{vs:Γ V}(hg:Gl X x) (hm:X.mg x=some (.ref f)) (hd:(x == ("__debug__":Str))=false) (r:R f m) (t:UH X R es ms vs):UH X R (.Name x p::es) (m::ms) (.ref f::vs)
end Dl
namespace Rf
open PySem L2 Dl PySem.Spec PyProof.Rows
variable {env:PySem.Env}
def gC{c:Prop}[Decidable c]{f:c->Δ α}(h:(if q:c then f q else none)=some z):c:=by
 by_cases q:c
 ·exact q
 ·rw[dif_neg q] at h;cases h
def aA{c:Prop}[Decidable c]{a:Δ α}(h:(if c then a else none)=some z):c/\a=some z:=by
 by_cases q:c
 ·rw[yM q] at h;exact⟨q,h⟩
 ·rw[yO q] at h;cases h
def cQ{c:Prop}[Decidable c]{a b:Δ α}(h:(if c then a else b)=some z):(c/\a=some z)\/(¬ c/\b=some z):=by
 by_cases q:c
 ·rw[yM q] at h;exact .inl ⟨q,h⟩
 ·rw[yO q] at h;exact .inr ⟨q,h⟩
def cf{o:Δ α}{a:Δ β}{f:α->Δ β}(h:o.elim a f=some g):(o=none/\a=some g)\/∃z,o=some z/\f z=some g:=by
 cases o with
 | none=>exact .inl ⟨rfl,h⟩
 | some z=>exact .inr ⟨z,rfl,h⟩
def dN(e:γ):Δ (Str×Pos):=if h:e.ctorIdx=23 then Expr.Name.elim e h λx p=>some (x,p) else none
def dP{e:γ}(h:dN e=some z):e=.Name z.1 z.2:=Expr.Name.elim (motive_1:=λe=>dN e=some z->e=.Name z.1 z.2) e (gC h) (λa b h=>by cases h;rfl) h
def dA(e:γ):Δ (γ×Str×Pos):=if h:e.ctorIdx=20 then Expr.Attribute.elim e h λx y p=>some (x,y,p) else none
def IP{e:γ}(h:dA e=some z):e=.Attribute z.1 z.2.1 z.2.2:=Expr.Attribute.elim (motive_1:=λe=>dA e=some z->e=.Attribute z.1 z.2.1 z.2.2) e (gC h) (λa b d h=>by cases h;rfl) h
def dC(e:γ):Δ (γ×Γ γ×Γ Keyword×Pos):=if h:e.ctorIdx=16 then Expr.Call.elim e h λx y u p=>some (x,y,u,p) else none
def CP{e:γ}(h:dC e=some z):e=.Call z.1 z.2.1 z.2.2.1 z.2.2.2:=Expr.Call.elim (motive_1:=λe=>dC e=some z->e=.Call z.1 z.2.1 z.2.2.1 z.2.2.2) e (gC h) (λa b d f h=>by cases h;rfl) h
def dT(e:γ):Δ (Γ γ×Nat×Pos):=if h:e.ctorIdx=25 then Expr.Tuple.elim e h λx y p=>some (x,y,p) else none
def Eh{e:γ}(h:dT e=some z):e=.Tuple z.1 z.2.1 z.2.2:=Expr.Tuple.elim (motive_1:=λe=>dT e=some z->e=.Tuple z.1 z.2.1 z.2.2) e (gC h) (λa b d h=>by cases h;rfl) h
def l1:Γ α->Δ α
 | [a]=>some a
 | _=>none
def l2:Γ α->Δ (α×α)
 | [a,b]=>some (a,b)
 | _=>none
def bY{l:Γ α}(h:l1 l=some a):l=[a]:=by
 rcases l with _|⟨b,_|_⟩<;>cases h;rfl
def qb{l:Γ α}(h:l2 l=some a):l=[a.1,a.2]:=by
 rcases l with _|⟨b,_|⟨d,_|_⟩⟩<;>cases h;rfl
def Kd(e:γ):Δ ((γ×Str×Pos)×Str×Pos):=(dA e).bind λy=>(dN y.1).map λz=>(y,z)
def jo{e:γ}(h:Kd e=some z):e=.Attribute (.Name z.2.1 z.2.2) z.1.2.1 z.1.2.2:=by
 let⟨y,h1,h⟩:=bs h;let⟨w,h2,rfl⟩:=ae h;rw[IP h1,dP h2]
def Qc(e:γ):Δ ((γ×Γ γ×Γ Keyword×Pos)×Str×Pos):=(dC e).bind λy=>if y.2.2.1.isEmpty=true then (dN y.1).map λz=>(y,z) else none
def ll{e:γ}(h:Qc e=some z):e=.Call (.Name z.2.1 z.2.2) z.1.2.1 [] z.1.2.2.2:=by
 let⟨y,h1,h⟩:=bs h;let⟨h3,h⟩:=aA h;let⟨w,h2,rfl⟩:=ae h;rw[CP h1,dP h2,List.isEmpty_iff.mp h3]
structure Tr where
 e:γ->Δ (Dl.Env->Δ D)
 f:γ->Δ (Dl.Env->Δ (Γ D))
 t:γ->Δ (Dl.Env->Δ θ)
structure Sg where
 fn:Γ (Str×Nat×(Γ D->Δ D))
 int:Γ (Str×Int)
abbrev FE:=Dl.Env->Δ D
def B8(G:Sg)(sc:ζ)(N:Γ Str)(x:Str):Δ FE:=match N.idxOf? x with
 | some i=>if mh N sc i x=true then some (ab i) else none
 | none=>if (Bm sc x&&!(x == ("__debug__":Str)))=true then (G.int.lookup x).map λn=>fC (.int n) else none
def D1:Const->Δ FE
 | .int i=>some (fC (.int i))
 | .bool b=>some (fC (.bool b))
 | .none=>some (fC .none)
 | .str x=>some (fC (.str x))
 | _=>none
def SF(T:Tr)(op:UnaryOp)(a:γ):Δ FE:=match op with
 | .USub=>(T.e a).map (f1 NY)
 | _=>none
def UX:Operator->Δ (D->D->Δ D)
 | .Add=>some aJ
 | .Sub=>some Dl.fW
 | .Mult=>some eA
 | .FloorDiv=>some nj
 | .Mod=>some mq
 | _=>none
def Sl(e:γ):θ:=e.ctorIdx == 24||e.ctorIdx == 8||(((dC e).bind λy=>dN y.1).any λz=>z.1 == ("sorted":Str)||z.1 == ("list":Str))
def M9(T:Tr)(a:γ)(op:Operator)(b:γ):Δ FE:=(UX op).bind λg=>(T.e a).bind λx=>(T.e b).map λy=>f2 g x y
def xw(T:Tr):Γ γ->Δ FE
 | []=>none
 | [a]=>T.e a
 | a::b::r=>(T.e a).bind λx=>(xw T (b::r)).map λy=>mn x y
def Su:CmpOp->Δ (D->D->Δ D)
 | .Lt=>some Ga
 | .LtE=>some EK
 | .Gt=>some FA
 | .GtE=>none
 | .Eq=>some bC
 | .NotEq=>some dZ
 | .In=>none
 | .NotIn=>some FI
 | .Is=>some yk
 | .IsNot=>some nc
def Ud:CmpOp->Δ (D->D->Δ D)
 | .Lt=>some Ga
 | .LtE=>some EK
 | _=>none
def IX(T:Tr)(a:γ)(ops:Γ CmpOp)(cs:Γ γ):Δ FE:=(l1 ops).elim
 ((l2 ops).bind λo=>(l2 cs).bind λb=>if lastMarks [o.1,o.2] [b.1,b.2]=false then (Ud o.1).bind λg=>(Ud o.2).bind λg'=>(T.e a).bind λx=>(T.e b.1).bind λy=>(T.e b.2).map λz=>lz g g' x y z else none) λop =>
 (l1 cs).bind λb=>if behindInMarks op b=false then (Su op).bind λg=>(T.e a).bind λx=>(T.e b).map λy=>f2 g x y else none
def Bg(T:Tr):Γ γ->Δ (Dl.Env->Δ (Γ D))
 | []=>some ag
 | e::es=>if isStar e=false then (T.e e).bind λx=>(Bg T es).map λr=>aa x r else none
def U6(T:Tr):Δ γ->Δ (Dl.Env->Δ (Δ Int))
 | none=>some nU
 | some e=>(T.e e).map Dw
def JR(e:γ):θ:=e.ctorIdx == 26||e.ctorIdx == 25||e.ctorIdx == 22
def T6(e:γ):Δ (Δ γ×Δ γ×Δ γ×Pos):=if h:e.ctorIdx=26 then Expr.Slice.elim e h λx y u p=>some (x,y,u,p) else none
def O3{e:γ}(h:T6 e=some z):e=.Slice z.1 z.2.1 z.2.2.1 z.2.2.2:=Expr.Slice.elim (motive_1:=λe=>T6 e=some z->e=.Slice z.1 z.2.1 z.2.2.1 z.2.2.2) e (gC h) (λa b d f h=>by cases h;rfl) h
def NJ(T:Tr)(a b:γ):Δ FE:=(T6 b).elim (if JR b=false then (T.e a).bind λx=>(T.e b).map λy=>f2 ay x y else none) λz=>if z.2.2.1.isNone=true then (T.e a).bind λx=>(U6 T z.1).bind λl=>(U6 T z.2.1).map λh=>n6 gX x l h else none
def J3:Γ D->Δ D:=λds=>(oneOf ds).bind λd=>match d with
 | .list es=>(boolsOf es).map λbs=>.bool (bs.any id)
 | _=>none
def vc(e:γ):Δ γ:=(Qc e).bind λz=>if z.2.1="set" then l1 z.1.2.1 else none
def RL(x:Str):Δ String:=if x="int" then some "int" else if x="bool" then some "bool" else if x="tuple" then some "tuple" else if x="list" then some "list" else none
def HQ(G:Sg)(sc:ζ)(T:Tr)(whole:γ)(x:Str)(args:Γ γ):Δ FE :=
 if (Bm sc x&&args.all λe=>!isStar e)=true then
  (G.fn.lookup x).elim (
   if x="len" then (l1 args).bind λe=>(vc e).elim ((Bg T args).map λfs=>bw bO fs) λe'=>if (Bm sc "set"&&!isStar e')=true then (T.e e').map λy=>f1 l9 y else none
   else if x="isinstance" then (l2 args).bind λa=>(dN a.2).bind λy=>if Bm sc y.1=true then (RL y.1).bind λty=>(T.e a.1).map λz=>Ny ty z else none
   else if x="tuple" then (if args.length=1 then (Bg T args).map λfs=>bw bK fs else none)
   else if x="all" then (if args.length=1 then (Bg T args).map λfs=>bw nL fs else none)
   else if x="any" then (if args.length=1 then (Bg T args).map λfs=>bw J3 fs else none)
   else if x="sum" then (if args.length=1 then (Bg T args).map λfs=>bw ug fs else none)
   else if x="min" then (if args.isEmpty=true then none else (Bg T args).map λfs=>bw AO fs)
   else if (x == ("list":Str)||x == ("sorted":Str))=true then (T.f whole).map cU
   else none) λz=>if (args.isEmpty||x == ("__debug__":Str))=true then none else (Bg T args).map λfs=>ah z.1 z.2 fs
 else none
def Er(e:γ):θ:=e.ctorIdx == 16
def IS(T:Tr)(o:γ)(m:Str)(apos:Pos)(args:Γ γ)(Wq:Pos):Δ FE :=
 if (m == ("index":Str)&&apos.endLine == Wq.line&&!Er o)=true then (l1 args).bind λe=>if isStar e=false then (T.e o).bind λx=>(T.e e).map λy=>f2 qk x y else none
 else none
def Tp(G:Sg)(sc:ζ)(T:Tr)(whole f:γ)(args:Γ γ)(ks:Γ Keyword)(p:Pos):Δ FE :=
 (dN f).elim (if ks.isEmpty=true then (dA f).bind λy=>IS T y.1 y.2.1 y.2.2 args p else none) λz=>if ks.isEmpty=true then HQ G sc T whole z.1 args else (T.f whole).map cU
def Ni(G:Sg)(sc:ζ)(N:Γ Str)(T:Tr)(whole:γ):Δ FE:=match whole with
 | .Name x _=>B8 G sc N x
 | .Constant c _ _=>D1 c
 | .UnaryOp op a _=>SF T op a
 | .BinOp a op b _=>M9 T a op b
 | .BoolOp .And es _=>xw T es
 | .Compare a ops cs _=>IX T a ops cs
 | .IfExp c a b _=>(T.t c).bind λz=>(T.e a).bind λx=>(T.e b).map λy=>M8 z x y
 | .Tuple es _ _=>(Bg T es).map aK
 | .Subscript a b _=>NJ T a b
 | .List ..=>(T.f whole).map cU
 | .ListComp ..=>(T.f whole).map cU
 | .Call f args ks p=>Tp G sc T whole f args ks p
 | _=>none
def Tt(T:Tr)(op:BoolOp):Γ γ->Δ (Dl.Env->Δ θ)
 | []=>none
 | [a]=>T.t a
 | a::b::r=>(T.t a).bind λx=>(Tt T op (b::r)).map λy=>match op with|.And=>qd x y|.Or=>Bq x y
def stepT(T:Tr)(whole:γ):Δ (Dl.Env->Δ θ):=match whole with
 | .Compare a ops cs _=>(IX T a ops cs).map fB
 | .UnaryOp .Not a _=>(T.t a).map cR
 | .BoolOp op es _=>Tt T op es
 | .Name ..=>(T.e whole).map fB
 | .Call ..=>(T.e whole).map fB
 | .Subscript ..=>(T.e whole).map fB
 | _=>none
def Cj(e:γ):θ:=e.ctorIdx == 25
def TC(sc:ζ)(T:Tr)(tg iter:γ):Δ (Dl.Env->Δ (Γ D)):=if iter.ctorIdx=7 then none else (Qc iter).elim ((T.e iter).map aR) λz =>
 if z.2.1="range" then (l1 z.1.2.1).bind λe=>if (Bm sc "range"&&!isStar e)=true then (Bg T [e]).map cB else none
 else if z.2.1="enumerate" then (l1 z.1.2.1).bind λe=>if (Bm sc "enumerate"&&!isStar e&&Cj tg)=true then (Bg T [e]).map bq else none
 else if z.2.1="zip" then (l2 z.1.2.1).bind λe=>if (Bm sc "zip"&&!isStar e.1&&!isStar e.2&&Cj tg)=true then (Bg T [e.1,e.2]).map fN else none
 else (T.e iter).map aR
def PN:Γ γ->Δ (Γ Str)
 | []=>some []
 | e::es=>(dN e).bind λz=>(PN es).map λr=>z.1::r
def Vn(e:γ):Δ (Γ Str):=(dN e).elim ((dT e).bind λz=>if z.1.length=2\/z.1.length=3 then PN z.1 else none) λz=>some [z.1]
def sN(N:Γ Str)(scope:ζ):Γ Nat:=(List.range N.length).filter λj=>match N[j]? with|some x=>decide (scope.names.lookup x=some .free)|none=>false
def Rz(B:Tr)(ifs:Γ γ):Δ (Dl.Env->Δ θ):=if ifs.isEmpty=true then some λ_=>some true else (l1 ifs).bind B.t
def Kh(N:Γ Str)(scope:ζ)(xs:Γ Str):Γ Str:=xs++(sN N scope).filterMap λj=>N[j]?
def JT(sc:ζ)(N:Γ Str)(T:Tr)(blk:ζ->Γ Str->Tr)(elt:γ)(gens:Γ Comprehension)(scope:ζ):Δ (Dl.Env->Δ (Γ D)):=(l1 gens).bind λc =>
  if c.is_async=0 then (Vn c.target).bind λxs =>
   if (jm sc scope N (Kh N scope xs) xs.length (sN N scope)&&(List.range xs.length).all λi=>rA (Kh N scope xs) scope i (xs.getD i ""))=true then
    (TC sc T c.target c.iter).bind λfi=>(Rz (blk scope (Kh N scope xs)) c.ifs).bind λtt =>
     ((blk scope (Kh N scope xs)).e elt).map λte=>au xs.length (sN N scope) fi (if xs.length=1 then fG 0 else if xs.length=2 then gM 0 1 else Kj 0 1 2) tt te
   else none
  else none
def IL(a:Arguments):Δ Str:=(l1 a.args).bind λx=>if ((a.posonlyargs.isEmpty&&a.vararg.isNone&&a.kwonlyargs.isEmpty&&a.kw_defaults.isEmpty&&a.kwarg.isNone&&a.defaults.isEmpty&&x.annotation.isNone)&&(x.arg == ("number":Str)||x.arg == ("plan":Str)))=true then some x.arg else none
def UC(e:γ):Δ (Arguments×γ×ζ×Pos):=if h:e.ctorIdx=4 then Expr.Lambda.elim e h λx y u p=>some (x,y,u,p) else none
def Qp{e:γ}(h:UC e=some z):e=.Lambda z.1 z.2.1 z.2.2.1 z.2.2.2:=Expr.Lambda.elim (motive_1:=λe=>UC e=some z->e=.Lambda z.1 z.2.1 z.2.2.1 z.2.2.2) e (gC h) (λa b d f h=>by cases h;rfl) h
def C3(lam:Δ Str)(sc:ζ)(N:Γ Str)(T:Tr)(XQ:ζ->Γ Str->Tr)(l:γ)(w:Arguments×γ×ζ×Pos):Δ (Dl.Env->Δ (Γ D)) :=
 if (lam.isSome&&Bm sc "sorted"&&!isStar l)=true then
  (IL w.1).bind λp =>
   if (jm sc w.2.2.1 N (Kh N w.2.2.1 [p]) 1 (sN N w.2.2.1)&&pO w.2.2.1 (Kh N w.2.2.1 [p]) p)=true then
    (T.e l).bind λfl=>((XQ w.2.2.1 (Kh N w.2.2.1 [p])).e w.2.1).map λte=>pf (sN N w.2.2.1) fl te
   else none
 else none
def Ed(lam:Δ Str)(sc:ζ)(N:Γ Str)(T:Tr)(XQ:ζ->Γ Str->Tr)(l:γ)(w:Arguments×γ×ζ×Pos):Δ (Dl.Env->Δ (Γ D)):=(Qc l).bind λz=>(l1 z.1.2.1).bind λe =>
  if (lam.isSome&&Bm sc "sorted"&&z.2.1 == ("range":Str)&&Bm sc "range"&&!isStar e)=true then
   (IL w.1).bind λp =>
    if (jm sc w.2.2.1 N (Kh N w.2.2.1 [p]) 1 (sN N w.2.2.1)&&pO w.2.2.1 (Kh N w.2.2.1 [p]) p)=true then
     (Bg T [e]).bind λfs=>((XQ w.2.2.1 (Kh N w.2.2.1 [p])).e w.2.1).map λte=>tM (sN N w.2.2.1) fs te
    else none
  else none
def RS(lam:Δ Str)(sc:ζ)(N:Γ Str)(T:Tr)(XQ:ζ->Γ Str->Tr)(f:γ)(args:Γ γ)(ks:Γ Keyword):Δ (Dl.Env->Δ (Γ D)):=(dN f).bind λz=>(l1 args).bind λl =>
 if z.1="sorted" then (if ks.isEmpty=true then (if (Bm sc "sorted"&&!isStar l)=true then (Bg T [l]).map λfs=>uu gU fs else none)
 else (l1 ks).bind λk=>(UC k.value).bind λw=>if k.arg=some "key" then (C3 lam sc N T XQ l w).elim (Ed lam sc N T XQ l w) some else none) else none
def Np(lam:Δ Str)(sc:ζ)(N:Γ Str)(T:Tr)(blk XQ:ζ->Γ Str->Tr)(whole:γ):Δ (Dl.Env->Δ (Γ D)):=match whole with
 | .List es _=>(Bg T es).map iN
 | .ListComp elt gens scope _=>JT sc N T blk elt gens scope
 | .Call f args ks _=>RS lam sc N T XQ f args ks
 | _=>none
def tr(G:Sg):Nat->Δ Str->ζ->Γ Str->Tr
 | 0,_,_,_=>⟨λ_=>none,λ_=>none,λ_=>none⟩
 | n+1,lam,sc,N=>⟨Ni G sc N (tr G n lam sc N),Np lam sc N (tr G n lam sc N) (tr G n none) (tr G n none),stepT (tr G n lam sc N)⟩
structure CA(G:Sg)(X:Cx)(j:Nat):Prop where
 fn:∀x n m,G.fn.lookup x=some (n,m)->Gf X.prog X.w X.K X.mg X.base j x n m
 int:∀x i,G.int.lookup x=some i->∃t,X.mg x=some (.int i t)
 bn:Bn X
structure wc(X:Cx)(tg iter:Expr)(ifs:List Expr)(elt:Expr)(scope:Scope)(f:Dl.Env->Option (List D)):Prop where
 ex:∃ (N':Γ Str) (t:Nat) (cs:Γ Nat) (fi:Dl.Env->Δ (Γ D)) (tgt:Dl.Env->D->Δ Dl.Env) (tt:Dl.Env->Δ θ) (te:FE),f=au t cs fi tgt tt te/\je X scope N' (lq t cs)/\DI X tg iter fi/\(∀x,foldedSetIterable iter X.env x=pure x) /\
  ∀fp s H,DG (aY X scope N' fp s H) tg tgt/\SH (aY X scope N' fp s H) ifs tt/\DE (aY X scope N' fp s H) elt te
structure bJ(X:Cx)(T:Tr):Prop where
 c:∀elt gens scope p f,T.f (.ListComp elt gens scope p)=some f->∃tg iter ifs,gens=[⟨tg,iter,ifs,0⟩]/\wc X tg iter ifs elt scope f
 e:∀e f,T.e e=some f->DE X e f
 f:∀e f,T.f e=some f->DF X e f
 t:∀e f,T.t e=some f->DT X e f
section
variable {G:Sg}{X:Cx}{N:Γ Str}{sc:ζ}{k j:Nat}{T:Tr}{pos p:Pos}
def FV(C:Bk X N sc k)(g:CA G X j)(h:B8 G sc N x=some f):DE X (.Name x pos) f:=by
 unfold B8 at h;split at h
 ·split at h
  ·cases h;exact C.v _ ‹_›
  ·cases h
 ·split at h
  ·rename_i hg;let⟨n,hn,rfl⟩:=ae h;let⟨t,ht⟩:=g.int x n hn;simp?[zF,yQ] at hg;exact Mv (C.gl hg.1) ht hg.2
  ·cases h
def B7(h:D1 c=some f):DE X (.Constant c i pos) f:=by
 cases c<;>cases h<;>first|exact Ox|exact SD|exact N0|exact Qy
def Kr(C:Bk X N sc k)(O:bJ X T)(h:SF T op a=some f):DE X (.UnaryOp op a pos) f:=by
 cases op<;>try cases h
 ·sleep 60;exact C.neg (O.e _ _ hx)
def Jd(C:Bk X N sc k)(O:bJ X T)(h:M9 T a op b=some f):DE X (.BinOp a op b pos) f:=by
 let⟨g,hg,h⟩:=bs h;sleep 13;sleep 16;cases op<;>cases hg
 ·exact C.add (O.e _ _ hx) (O.e _ _ hy)
 ·exact C.sub (O.e _ _ hx) (O.e _ _ hy)
 ·exact C.mul (O.e _ _ hx) (O.e _ _ hy)
 ·exact C.mod (O.e _ _ hx) (O.e _ _ hy)
 ·exact C.div (O.e _ _ hx) (O.e _ _ hy)
def uX(O:bJ X T):∀ {es:Γ γ}{f:FE},xw T es=some f->DE X (.BoolOp .And es pos) f
 | [],f,h=>by cases h
 | [a],f,h=>NW (O.e _ _ h)
 | a::b::r,f,h=>by
  unfold xw at h;sleep 13;sleep 16;exact Qe (O.e _ _ hx) (uX O hy)
def Om(C:Bk X N sc k)(hg:Su op=some g)(hm:behindInMarks op b=false)(ha:DE X a x)(hb:DE X b y):DE X (.Compare a [op] [b] pos) (f2 g x y)/\DT X (.Compare a [op] [b] pos) (fB (f2 g x y)):=by
 cases op<;>cases hg
 ·exact⟨C.eq ha hb,C.teq ha hb⟩
 ·exact⟨C.ne ha hb,C.tne ha hb⟩
 ·exact⟨C.lt ha hb,C.tlt ha hb⟩
 ·exact⟨C.le ha hb,C.tle ha hb⟩
 ·exact⟨C.gt ha hb,C.tgt ha hb⟩
 ·exact⟨C.is0 ha hb,C.aeh ha hb⟩
 ·exact⟨C.aeg ha hb,C.ab9 ha hb⟩
 ·exact⟨C.acp ha hb hm,C.aeA ha hb hm⟩
def NO(h:Ud op=some g):∃r,gO X (compareOp op) r/\ee X.K r g:=by
 cases op<;>cases h
 ·exact⟨_,JC,lE⟩
 ·exact⟨_,Gn,lE⟩
def Az(C:Bk X N sc k)(O:bJ X T){cs:Γ γ}(h:IX T a ops cs=some f):DE X (.Compare a ops cs pos) f/\DT X (.Compare a ops cs pos) (fB f):=by
 rcases cf h with ⟨_,h⟩|⟨op,ho,h⟩
 ·let⟨o,ho,h⟩:=bs h;let⟨b,hb,h⟩:=bs h;obtain rfl:=qb ho;obtain rfl:=qb hb;let⟨hm,h⟩:=aA h;let⟨g,hg,h⟩:=bs h;let⟨g',hg',h⟩:=bs h;sleep 13;let⟨y,hy,h⟩:=bs h;let⟨z,hz,rfl⟩:=ae h;let⟨r,r1,r2⟩:=NO (X:=X) hg;let⟨r',r1',r2'⟩:=NO (X:=X) hg';exact⟨JW r1 r2 r1' r2' (O.e _ _ hx) (O.e _ _ hy) (O.e _ _ hz) hm,GZ r1 r2 r1' r2' (O.e _ _ hx) (O.e _ _ hy) (O.e _ _ hz) hm⟩
 ·let⟨b,hb,h⟩:=bs h;obtain rfl:=bY ho;obtain rfl:=bY hb;let⟨hm,h⟩:=aA h;let⟨g,hg,h⟩:=bs h;sleep 13;sleep 16;exact Om C hg hm (O.e _ _ hx) (O.e _ _ hy)
def dE(O:bJ X T):∀ {es:Γ γ}{fs:Dl.Env->Δ (Γ D)},Bg T es=some fs->DA X es fs
 | [],fs,h=>by cases h;exact IJ
 | e::es,fs,h=>by
  let⟨hs,h⟩:=aA h;sleep 13;let⟨r,hr,rfl⟩:=ae h;exact T4 hs (O.e _ _ hx) (dE O hr)
def J6(O:bJ X T)(h:U6 T o=some f):DO X o f:=by
 cases o with
 | none=>cases h;exact LG
 | some e=>let⟨x,hx,rfl⟩:=ae h;exact Kx (O.e _ _ hx)
def Ck(h:JR b=false):yi b:=by
 cases b<;>first|(intro _ _;rfl)|cases h
def GD(C:Bk X N sc k)(O:bJ X T)(h:NJ T a b=some f):DE X (.Subscript a b pos) f:=by
 sleep 2
 ·sleep 19;sleep 13;sleep 16;exact RI (O.e _ _ hx) (O.e _ _ hy) (Ck hc)
 ·let⟨hn,h⟩:=aA h;sleep 13;let⟨l,hl,h⟩:=bs h;let⟨u,hu,rfl⟩:=ae h;rw[O3 hz,Option.isNone_iff_eq_none.mp hn];exact C.cut (O.e _ _ hx) (J6 O hl) (J6 O hu)
def cH{env:PySem.Env}:∀ {es:Γ γ},(es.all λe=>!isStar e)=true->(backTo pos (starEach es env)).any (·.1)=false
 | [],_=>rfl
 | e::es,h=>by
  rw[xU,zF,yQ] at h;rw[aV h.1];show (false||(backTo pos (starEach es env)).any (·.1))=false;rw[cH h.2];rfl
def IB(h:vc e=some e'):∃p q,e=.Call (.Name "set" p) [e'] [] q:=by
 sleep 15;let⟨hx,h⟩:=aA h;exact⟨_,_,by rw[ll hz,hx,bY h]⟩
def Li(h:RL y=some ty):y∈dR/\bootBuiltins y=some (.type ty)/\y≠"__name__"/\(y == ("__debug__":Str))=false:=by
 rcases cQ h with ⟨rfl,h⟩|⟨_,h⟩
 ·cases h;sleep 25
 ·rcases cQ h with ⟨rfl,h⟩|⟨_,h⟩
  ·cases h;sleep 25
  ·rcases cQ h with ⟨rfl,h⟩|⟨_,h⟩
   ·cases h;sleep 25
   ·let⟨rfl,h⟩:=aA h;cases h;sleep 25
def Po:bootBuiltins "any"=some (.builtin "any"):=by decide +kernel
def OV:bootBuiltins "sum"=some (.builtin "sum"):=by decide +kernel
def OH:bootBuiltins "min"=some (.builtin "min"):=by decide +kernel
def xp(h:l.length=1):∃a,l=[a]:=by
 match l,h with
 | [a],_=>exact⟨a,rfl⟩
def EY(C:Bk X N sc k)(g:CA G X j)(Wu:j<=k)(O:bJ X T)(h:HQ G sc T (.Call (.Name x p) args [] pos) x args=some f):DE X (.Call (.Name x p) args [] pos) f:=by
 let⟨hg,h⟩:=aA h;rw[zF] at hg;let⟨hg,hs⟩:=hg;have st1:∀ {e:γ}{es:Γ γ},args=e::es->starEach (e::es) X.env=(false,eval e X.env)::starEach es X.env:=λ{e es} q=>by
  subst q;rw[xU,zF,yQ] at hs;exact aV hs.1
 have X2:∀ {e:γ}{es:Γ γ},args=e::es->(backTo pos (starEach es X.env)).any (·.1)=false:=λ{e es} q=>by
  subst q;rw[xU,zF] at hs;exact cH hs.2
 rcases cf h with ⟨_,h⟩|⟨z,Y3,h⟩
 ·sleep 10
  ·let⟨e,he,h⟩:=bs h;have he:=bY he;rcases cf h with ⟨_,h⟩|⟨e',he',h⟩
   ·let⟨fs,Y1,rfl⟩:=ae h;subst hx he;exact PX (C.blt g.bn hg (by decide +kernel) JQ) (dE O Y1) (st1 rfl)
   ·let⟨hg2,h⟩:=aA h;rw[zF,yQ] at hg2;sleep 16;let⟨p1,p2,rfl⟩:=IB he';subst hx he;exact FR C.calm (C.blt g.bn hg (by decide +kernel) JQ) (C.blt g.bn hg2.1 (by decide +kernel) OO) (O.e _ _ hy) (aV hg2.2)
  sleep 10
  ·let⟨a,ha,h⟩:=bs h;let⟨y,hy,h⟩:=bs h;have e2:=qb ha;rw[dP hy] at e2;let⟨hgy,h⟩:=aA h;let⟨ty,hty,h⟩:=bs h;let⟨z,hz,rfl⟩:=ae h;let⟨t1,t2,t3,t4⟩:=Li hty;subst hx e2;exact Rv (C.blt g.bn hg (by decide +kernel) uo) (C.blt g.bn hgy t1 t2) (O.e _ _ hz) t3 t4 (st1 rfl)
  sleep 10
  ·let⟨hl,h⟩:=aA h;let⟨fs,Y1,rfl⟩:=ae h;let⟨e,he⟩:=xp hl;subst hx he;exact Hu (C.blt g.bn hg (by decide +kernel) J8) (dE O Y1) (st1 rfl)
  sleep 10
  ·let⟨hl,h⟩:=aA h;let⟨fs,Y1,rfl⟩:=ae h;let⟨e,he⟩:=xp hl;subst hx he;exact P5 C.calm (C.blt g.bn hg (by decide +kernel) Qa) (dE O Y1) (st1 rfl)
  sleep 10
  ·let⟨hl,h⟩:=aA h;let⟨fs,Y1,rfl⟩:=ae h;let⟨e,he⟩:=xp hl;subst hx he;exact QM C.calm (C.blt g.bn hg (by decide +kernel) Po) (st1 rfl) (dE O Y1)
  sleep 10
  ·let⟨hl,h⟩:=aA h;let⟨fs,Y1,rfl⟩:=ae h;let⟨e,he⟩:=xp hl;subst hx he;exact Pp C.calm (C.blt g.bn hg (by decide +kernel) OV) (st1 rfl) (dE O Y1)
  sleep 10
  ·rcases cQ h with ⟨_,h⟩|⟨hl,h⟩
   ·cases h
   let⟨fs,Y1,rfl⟩:=ae h;subst hx;cases args with
   | nil=>exact absurd rfl hl
   | cons e es=>exact PP C.calm (C.blt g.bn hg (by decide +kernel) OH) (st1 rfl) (X2 rfl) (dE O Y1)
  let⟨_,h⟩:=aA h;sleep 16;exact DF.de (O.f _ _ hy)
 ·rcases cQ h with ⟨_,h⟩|⟨WN,h⟩
  ·cases h
  let⟨fs,Y1,rfl⟩:=ae h;cases args with
  | nil=>exact absurd (by simp) WN
  | cons e es =>
   have hd:(x == ("__debug__":Str))=false:=by simpa using WN
   exact Ms (g.fn x z.1 z.2 Y3) (C.room.mono Wu) (C.gl hg) (dE O Y1) hd (st1 rfl) (X2 rfl)
end
section
variable {G:Sg}{X:Cx}{N:Γ Str}{sc:ζ}{k j:Nat}{T:Tr}{pos p:Pos}
def Qs(h:isStar e=false):((backTo Wq (starEach [e] env)).all (λx=>!x.1)&&(backToKw Wq (keywordEach [] env)).all (λx=>x.1.isSome)&&decide ([e].length+([]:Γ Keyword).length+(if ([]:Γ Keyword).isEmpty then 0 else 1) < 30))=true:=by
 rw[aV h];rfl
def oq(h:Er o=false):attributeBase o a env w=w:=by
 cases o<;>first|rfl|cases h
def F4(C:Bk X N sc k)(O:bJ X T)(h:IS T o m apos args Wq=some f):DE X (.Call (.Attribute o m apos) args [] Wq) f:=by
 let⟨hm,h⟩:=aA h;rw[zF,zF,yQ] at hm;let⟨⟨hm1,hm⟩,Yk⟩:=hm;let⟨e,he,h⟩:=bs h;let⟨hs,h⟩:=aA h;sleep 13;sleep 16;rw[bY he,eq_of_beq hm1];exact ES (oq Yk) (Qs hs) hm (aV hs) (O.e _ _ hx) (O.e _ _ hy)
def K9(C:Bk X N sc k)(g:CA G X j)(Wu:j<=k)(O:bJ X T){a:γ}{args:Γ γ}{ks:Γ Keyword}(h:Tp G sc T (.Call a args ks p) a args ks p=some f):DE X (.Call a args ks p) f:=by
 sleep 2
 ·let⟨hk,h⟩:=aA h;obtain rfl:=List.isEmpty_iff.mp hk;let⟨y,hy,h⟩:=bs h;obtain rfl:=IP hy;exact F4 C O h
 ·obtain rfl:=dP hz;rcases cQ h with ⟨hk,h⟩|⟨_,h⟩
  ·obtain rfl:=List.isEmpty_iff.mp hk;exact EY C g Wu O h
  ·sleep 60;exact DF.de (O.f _ _ hx)
def HE(C:Bk X N sc k)(g:CA G X j)(Wu:j<=k)(O:bJ X T)(h:Ni G sc N T e=some f):DE X e f:=by
 cases e with
 | Name x p=>exact FV C g h
 | Constant c a b=>exact B7 h
 | UnaryOp op a p=>exact Kr C O h
 | BinOp a op b p=>exact Jd C O h
 | BoolOp op es p =>
  cases op with
  | And=>exact uX O h
  | Or=>cases h
 | Compare a ops cs p=>exact (Az C O h).1
 | IfExp c a b p =>
  sleep 15;sleep 13;sleep 16;exact Tn (O.t _ _ hz) (O.e _ _ hx) (O.e _ _ hy)
 | Tuple es a p=>let⟨x,hx,rfl⟩:=ae h;exact OI (dE O hx)
 | Subscript a b p=>exact GD C O h
 | List es p=>let⟨x,hx,rfl⟩:=ae h;exact DF.de (O.f _ _ hx)
 | ListComp a b c p=>let⟨x,hx,rfl⟩:=ae h;exact DF.de (O.f _ _ hx)
 | Call a args ks p=>exact K9 C g Wu O h
 | _=>cases h
def JG(O:bJ X T):∀ {es:Γ γ}{f:Dl.Env->Δ θ},Tt T op es=some f->DW X (.BoolOp op es pos) f
 | [],f,h=>by cases h
 | [a],f,h=>by
  cases op with
  | And=>exact Ks (O.t _ _ h)
  | Or=>exact Oh (O.t _ _ h)
 | a::b::r,f,h=>by
  unfold Tt at h;sleep 13;sleep 16;have ih:=JG O hy;cases op with
  | And=>exact O9 (O.t _ _ hx) ih
  | Or=>exact RV (O.t _ _ hx) ih
def Jq(C:Bk X N sc k)(O:bJ X T)(h:stepT T e=some f):DT X e f:=by
 cases e with
 | Compare a ops cs p=>let⟨x,hx,rfl⟩:=ae h;exact (Az C O hx).2
 | UnaryOp op a p =>
  cases op with
  | Not=>let⟨x,hx,rfl⟩:=ae h;exact Oy (O.t _ _ hx)
  | _=>cases h
 | BoolOp op es p=>exact DW.dt (JG O h)
 | Name x p=>let⟨x,hx,rfl⟩:=ae h;exact CM (O.e _ _ hx) λ_=>rfl
 | Call a b d p=>let⟨x,hx,rfl⟩:=ae h;exact CM (O.e _ _ hx) λ_=>rfl
 | Subscript a b p=>let⟨x,hx,rfl⟩:=ae h;exact CM (O.e _ _ hx) λ_=>rfl
 | _=>cases h
def EJ{e:γ}(h:Cj e=true):∃a b d,e=.Tuple a b d:=Expr.Tuple.elim (motive_1:=λe=>∃a b d,e=.Tuple a b d) e (eq_of_beq h) λa b d=>⟨a,b,d,rfl⟩
def QZ(h:¬ e.ctorIdx=7):∀x,foldedSetIterable e env x=pure x:=by
 cases e<;>first|(intro _;rfl)|exact absurd rfl h
def BU(C:Bk X N sc k)(B:Bn X)(O:bJ X T)(h:TC sc T tg iter=some fi):DI X tg iter fi/\∀x,foldedSetIterable iter X.env x=pure x:=by
 rcases cQ h with ⟨_,h⟩|⟨hn,h⟩
 ·cases h
 refine⟨?_,QZ hn⟩;sleep 2
 ·sleep 60;exact JZ (O.e _ _ hx)
 sleep 10
 ·let⟨e,he,h⟩:=bs h;let⟨hg,h⟩:=aA h;rw[ll hz,hx,bY he];rw[zF,yQ] at hg;sleep 60;exact HS (C.blt B hg.1 (by decide +kernel) AY) (dE O hx) (aV hg.2)
 sleep 10
 ·let⟨e,he,h⟩:=bs h;let⟨hg,h⟩:=aA h;rw[ll hz,hx,bY he];simp?[zF,yQ] at hg;sleep 60;let⟨a,b,d,rfl⟩:=EJ hg.2;exact Mi (C.blt B hg.1.1 (by decide +kernel) zc) (dE O hx) (aV hg.1.2)
 sleep 10
 ·let⟨e,he,h⟩:=bs h;let⟨hg,h⟩:=aA h;rw[ll hz,hx,qb he];simp?[zF,yQ] at hg;sleep 60;let⟨a,b,d,rfl⟩:=EJ hg.2;exact MU (C.blt B hg.1.1.1 (by decide +kernel) OD) (aV hg.1.1.2) (cH (by simp[hg.1.2])) (dE O hx)
 sleep 60;exact JZ (O.e _ _ hx)
def FD{l:Γ α}(h:l.length=2):∃a b,l=[a,b]:=by
 match l,h with
 | [a,b],_=>exact⟨a,b,rfl⟩
def CL{l:Γ α}(h:l.length=3):∃a b c,l=[a,b,c]:=by
 match l,h with
 | [a,b,c],_=>exact⟨a,b,c,rfl⟩
def DL:∀ {es:Γ γ}{xs:Γ Str},PN es=some xs->∃ps:Γ Pos,ps.length=xs.length/\es=List.zipWith Expr.Name xs ps
 | [],xs,h=>by cases h;exact⟨[],rfl,rfl⟩
 | e::es,xs,h=>by
  sleep 15;let⟨r,hr,rfl⟩:=ae h;let⟨ps,h1,h2⟩:=DL hr;exact⟨z.2::ps,by rw[zL,zL,h1],by rw[dP hz,h2];rfl⟩
def P7(h:Vn tg=some xs):(∃x px,tg=.Name x px/\xs=[x])\/(∃x px y py m pt,tg=.Tuple [.Name x px,.Name y py] m pt/\xs=[x,y])\/∃x px y py z pz m pt,tg=.Tuple [.Name x px,.Name y py,.Name z pz] m pt/\xs=[x,y,z]:=by
 sleep 2
 ·sleep 15;let⟨hl,h⟩:=aA h;let⟨ps,h1,h2⟩:=DL h;rw[Eh hz];rw[h2] at hl ⊢;rw[List.length_zipWith,h1,Nat.min_self] at hl;refine .inr (hl.imp (λq=>?_) λq=>?_)
  ·let⟨x,y,rfl⟩:=FD q;let⟨p,q,rfl⟩:=FD h1;exact⟨x,p,y,q,_,_,rfl,rfl⟩
  ·let⟨x,y,z,rfl⟩:=CL q;let⟨p,q,r,rfl⟩:=CL h1;exact⟨x,p,y,q,z,r,_,_,rfl,rfl⟩
 ·cases h;exact .inl ⟨_,_,dP hz,rfl⟩
def vx(C:Bk X N sc k)(B:Bn X)(O:bJ X T)(OB:∀scope N' fp s H,Bk (aY X scope N' fp s H) N' scope k->bJ (aY X scope N' fp s H) (blk scope N'))
  (h:JT sc N T blk elt gens scope=some f):∃tg iter ifs,gens=[⟨tg,iter,ifs,0⟩]/\wc X tg iter ifs elt scope f:=by
 let⟨⟨tg,iter,ifs,as⟩,hg,h⟩:=bs h;let⟨rfl,h⟩:=aA h;refine⟨tg,iter,ifs,bY hg,?_⟩;let⟨xs,hxs,h⟩:=bs h;let⟨Wn,h⟩:=aA h;rw[zF] at Wn;let⟨fi,Xo,h⟩:=bs h;let⟨tt,htt,h⟩:=bs h;let⟨te,ZM,rfl⟩:=ae h;let⟨S,CB⟩:=C.comp Wn.1;let⟨hd,Xa⟩:=BU C B O Xo;refine⟨_,_,_,_,_,_,_,rfl,S,hd,Xa,λfp s H=>?_⟩;have C1:=CB fp s H;have O1:=OB scope _ fp s H C1;refine⟨?_,?_,O1.e _ _ ZM⟩
 ·have hl:∀i,i < xs.length->_:=λi hi=>C1.loc (List.all_eq_true.mp Wn.2 i (List.mem_range.mpr hi));rcases P7 hxs with ⟨x,px,rfl,rfl⟩|⟨x,px,y,py,m,pt,rfl,rfl⟩|⟨x,px,y,py,z,pz,m,pt,rfl,rfl⟩
  ·have z:=hl 0 (by simp);exact L4 0 z.1 z.2.1 z.2.2.1 z.2.2.2
  ·have z:=hl 0 (by simp);have w:=hl 1 (by simp);exact Qt 0 1 C1.calm z.1 z.2.1 z.2.2.1 w.2.1 w.2.2.1 z.2.2.2 w.2.2.2
  ·have z:=hl 0 (by simp);have w:=hl 1 (by simp);have u:=hl 2 (by simp);exact Jl 0 1 2 C1.calm z.1 z.2.1 z.2.2.1 w.2.1 w.2.2.1 u.2.1 u.2.2.1 z.2.2.2 w.2.2.2 u.2.2.2
 ·rcases cQ htt with ⟨hi,h⟩|⟨_,h⟩
  ·cases h;have hi:ifs=[]:=List.isEmpty_iff.mp hi;rw[hi];exact L7
  ·let⟨c,hc,h⟩:=bs h;have hc:ifs=[c]:=bY hc;rw[hc];exact Ml (O1.t _ _ h)
def wc.df(hc:X.calm=true)(h:wc X tg iter ifs elt scope f):DF X (.ListComp elt [⟨tg,iter,ifs,0⟩] scope pos) f:=by
 let⟨N',t,cs,fi,tgt,tt,te,rfl,S,hd,Xa,hY⟩:=h.ex;exact MC hc S hd hY Xa
def AB(h:IL a=some x):∃px,a=⟨[],[⟨x,none,px⟩],none,[],[],none,[]⟩/\(x="number"\/x="plan"):=by
 let⟨⟨y,an,p⟩,h1,h⟩:=bs h;sleep 19;cases h;let⟨a1,a2,a3,a4,a5,a6,a7⟩:=a;simp?[zF,jC,beq_iff_eq,List.isEmpty_iff,Option.isNone_iff_eq_none] at hc;obtain⟨⟨⟨⟨⟨⟨⟨rfl,rfl⟩,rfl⟩,rfl⟩,rfl⟩,rfl⟩,rfl⟩,hy⟩:=hc;have h1:a2=_:=bY h1;exact⟨p,by rw[h1],hy⟩
def bind1{x q:Str}{px:Pos}{body:γ}{scope:ζ}{cl:Γ (Str×Ψ)}{pm Xy u:Θ}{c:Ψ}(h:x="number"\/x="plan") :
  bindArgs (W.kla_fn "<lambda>" q ⟨[],[⟨x,none,px⟩],none,[],[],none,[]⟩ body scope cl pm (.ref c) Xy) ⟨[u],[]⟩=pure [(x,u)]:=by
 rcases h with rfl|rfl<;>rfl
def Ct{lam:Δ Str}(C:Bk X N sc k)(B:Bn X)(Xi:∀q,lam=some q->pS X q/\j+3<=k)(O:bJ X T){XQ:ζ->Γ Str->Tr}
  (OL:∀scope N' qual A f c s H,Bk (fO X A qual scope N' f c s H) N' scope (k - 3)->j<=k - 3->bJ (fO X A qual scope N' f c s H) (XQ scope N')) {l:γ}{p0 Yv:Pos}{f:Dl.Env->Δ (Γ D)}
  (h:C3 lam sc N T XQ l w=some f):DF X (.Call (.Name "sorted" p0) [l] [⟨some "key",.Lambda w.1 w.2.1 w.2.2.1 w.2.2.2,Yv⟩] pos) f:=by
 let⟨hg,h⟩:=aA h;simp?[zF,yQ] at hg;let⟨⟨hl,hg⟩,hs⟩:=hg;let⟨q,hq⟩:=Option.isSome_iff_exists.mp hl;let⟨L,hk⟩:=Xi q hq;sleep 13;let⟨px,ep,hpx⟩:=AB hx;rw[ep];let⟨Wn,h⟩:=aA h;rw[zF] at Wn;let⟨fl,Yg,h⟩:=bs h;let⟨te,ZM,rfl⟩:=ae h;obtain⟨k',rfl⟩:∃k',k=k'+3:=⟨k - 3,by lia⟩
 exact Bk.acj (p:=x) C (C.blt B hg (by decide +kernel) pe) L Wn.1 Wn.2 (λ_ _ _ _ _=>bind1 hpx) rfl (O.e _ _ Yg) (λA f c s H C'=>(OL w.2.2.1 _ q A f c s H C' (by lia)).e _ _ ZM) (aV hs) (by rw[aV hs];rfl) (cH (by simp[hs]))
def CO{lam:Δ Str}(C:Bk X N sc k)(B:Bn X)(Xi:∀q,lam=some q->pS X q/\j+3<=k)(O:bJ X T){XQ:ζ->Γ Str->Tr}
  (OL:∀scope N' qual A f c s H,Bk (fO X A qual scope N' f c s H) N' scope (k - 3)->j<=k - 3->bJ (fO X A qual scope N' f c s H) (XQ scope N')) {l:γ}{p0 Yv:Pos}{f:Dl.Env->Δ (Γ D)}
  (h:Ed lam sc N T XQ l w=some f):DF X (.Call (.Name "sorted" p0) [l] [⟨some "key",.Lambda w.1 w.2.1 w.2.2.1 w.2.2.2,Yv⟩] pos) f:=by
 sleep 15;let⟨e,he,h⟩:=bs h;let⟨hg,h⟩:=aA h;simp?[zF,yQ] at hg;obtain⟨⟨⟨⟨hl,hg⟩,hr⟩,hgr⟩,hs⟩:=hg;rw[ll hz,bY he,eq_of_beq hr];let⟨q,hq⟩:=Option.isSome_iff_exists.mp hl;let⟨L,hk⟩:=Xi q hq;sleep 13;let⟨px,ep,hpx⟩:=AB hx;rw[ep];let⟨Wn,h⟩:=aA h;rw[zF] at Wn;let⟨fl,Yg,h⟩:=bs h;let⟨te,ZM,rfl⟩:=ae h;obtain⟨k',rfl⟩:∃k',k=k'+3:=⟨k - 3,by lia⟩
 exact Bk.aco (p:=x) C (C.blt B hg (by decide +kernel) pe) (C.blt B hgr (by decide +kernel) AY) L Wn.1 Wn.2 (λ_ _ _ _ _=>bind1 hpx) rfl (dE O Yg) (λA f c s H C'=>(OL w.2.2.1 _ q A f c s H C' (by lia)).e _ _ ZM) (aV hs) (aV rfl) (by rw[aV rfl];rfl) (cH (by rfl))
def KG{lam:Δ Str}(C:Bk X N sc k)(B:Bn X)(Xi:∀q,lam=some q->pS X q/\j+3<=k)(O:bJ X T){XQ:ζ->Γ Str->Tr}
  (OL:∀scope N' qual A f c s H,Bk (fO X A qual scope N' f c s H) N' scope (k - 3)->j<=k - 3->bJ (fO X A qual scope N' f c s H) (XQ scope N')) {a:γ}{args:Γ γ}{ks:Γ Keyword}(h:RS lam sc N T XQ a args ks=some f):DF X (.Call a args ks p) f:=by
 sleep 15;let⟨l,hl,h⟩:=bs h;let⟨hx,h⟩:=aA h;rw[dP hz,bY hl,hx];rcases cQ h with ⟨hk,h⟩|⟨_,h⟩
 ·rw[List.isEmpty_iff.mp hk];let⟨hg,h⟩:=aA h;rw[zF,yQ] at hg;sleep 60;exact F2 (C.blt B hg.1 (by decide +kernel) pe) (dE O hx) (aV hg.2)
 ·let⟨⟨ky,v,kp⟩,hk,h⟩:=bs h;let⟨w,hw,h⟩:=bs h;let⟨hy,h⟩:=aA h;have hy:ky=some "key":=hy;have hw:=Qp (e:=v) hw;rw[bY hk,hy,hw];rcases cf h with ⟨_,h⟩|⟨y,h,hy⟩
  ·exact CO C B Xi O OL h
  ·cases hy;exact Ct C B Xi O OL h
def HW(C:Bk X N sc k)(B:Bn X)(Xi:∀q,lam=some q->pS X q/\j+3<=k)(O:bJ X T)
  (OB:∀scope N' fp s H,Bk (aY X scope N' fp s H) N' scope k->bJ (aY X scope N' fp s H) (blk scope N'))
  (OL:∀scope N' qual A f c s H,Bk (fO X A qual scope N' f c s H) N' scope (k - 3)->j<=k - 3->bJ (fO X A qual scope N' f c s H) (XQ scope N')) {e:γ}{f:Dl.Env->Δ (Γ D)}(h:Np lam sc N T blk XQ e=some f):DF X e f:=by
 cases e with
 | List es p=>let⟨x,hx,rfl⟩:=ae h;exact OM (dE O hx)
 | ListComp elt gens scope ps =>
  let⟨tg,iter,ifs,rfl,q⟩:=vx C B O OB h;exact q.df C.calm
 | Call a args ks p=>exact KG C B Xi O OL h
 | _=>cases h
def Dr(n:Nat):∀ {lam:Δ Str}{X:Cx}{N:Γ Str}{sc:ζ}{k:Nat},Bk X N sc k->CA G X j->j<=k->(∀q,lam=some q->pS X q/\j+3<=k)->bJ X (tr G n lam sc N):=by
 induction n with
 | zero=>intro lam X N sc k C g Wu Xi;exact⟨λ_ _ _ _ _ h=>(by cases h),λ_ _ h=>(by cases h),λ_ _ h=>(by cases h),λ_ _ h=>(by cases h)⟩
 | succ n ih =>
  intro lam X N sc k C g Wu Xi;have O:=ih C g Wu Xi;exact⟨λelt gens scope p f h=>vx C g.bn O (λscope N' fp s H C'=>ih C' ⟨g.fn,g.int,g.bn⟩ Wu λq z=>by cases z) h,λe f h=>HE C g Wu O h,
   λe f h=>HW C g.bn Xi O (λscope N' fp s H C'=>ih C' ⟨g.fn,g.int,g.bn⟩ Wu λq z=>by cases z) (λscope N' qual A f c s H C' hk=>ih C' ⟨g.fn,g.int,g.bn⟩ hk λq z=>by cases z) h,
   λe f h=>Jq C O h⟩
end
def rN:Nat->γ->Γ Str
 | 0,_=>[]
 | n+1,e=>match e with
  | .Name x _=>[x]
  | .UnaryOp _ a _=>rN n a
  | .BinOp a _ b _=>rN n a++rN n b
  | .BoolOp _ es _=>es.flatMap (rN n)
  | .Compare a _ cs _=>rN n a++cs.flatMap (rN n)
  | .IfExp c a b _=>rN n c++(rN n a++rN n b)
  | .Tuple es _ _=>es.flatMap (rN n)
  | .List es _=>es.flatMap (rN n)
  | .Subscript a b _=>rN n a++rN n b
  | .Slice lo hi st _=>(lo.toList++(hi.toList++st.toList)).flatMap (rN n)
  | .Call f args kws _=>rN n f++(args.flatMap (rN n)++kws.flatMap λk=>rN n k.value)
  | .Attribute o _ _=>rN n o
  | .ListComp elt gens _ _=>rN n elt++gens.flatMap λg=>rN n g.iter++g.ifs.flatMap (rN n)
  | .Lambda _ b _ _=>rN n b
  | _=>[]
def Ac(N:Γ Str)(e:γ):Γ Nat:=let ns:=rN 60 e;(List.range N.length).filter λj=>match N[j]? with|some x=>ns.contains x|none=>false
abbrev GS:=aj->Δ Out
def turns:Nat:=1000000
def lr(e:γ):θ:=e.ctorIdx == 8||e.ctorIdx == 9||e.ctorIdx == 10
def Q7(e:γ):Δ (γ×Γ Comprehension×ζ×Pos):=if h:e.ctorIdx=8 then Expr.ListComp.elim e h λx y u p=>some (x,y,u,p) else none
def O6{e:γ}(h:Q7 e=some z):e=.ListComp z.1 z.2.1 z.2.2.1 z.2.2.2:=Expr.ListComp.elim (motive_1:=λe=>Q7 e=some z->e=.ListComp z.1 z.2.1 z.2.2.1 z.2.2.2) e (gC h) (λa b d f h=>by cases h;rfl) h
def Qv{e:γ}(h:Q7 e=none)(hc:(e.ctorIdx == 9||e.ctorIdx == 10)=false):lr e=false:=by
 unfold lr;cases q:e.ctorIdx == 8 with
 | false=>rwa [Bool.or_assoc,Bool.false_or]
 | true=>exact absurd (Expr.ListComp.elim (motive_1:=λe=>Q7 e=none->False) e (eq_of_beq q) (λa b d f h=>by cases h) h) id
def Nv(sc:ζ)(N:Γ Str)(T:Tr)(x:Str)(px:Pos)(e:γ):Δ GS :=
 (N.idxOf? x).bind λi=>if (rA N sc i x&&!(e.ctorIdx == 9||e.ctorIdx == 10))=true then
  (if Sl e=true then (if (Q7 e).all (λz=>(decide (sc.names.lookup x=some .local)&&(px.line == z.2.2.2.line&&!(z.2.2.1.names.any λ(n,k)=>n == x&&(k == .local || k == .cell))))||decide (sc.names.lookup x=some .cell)||!(px.line == z.2.2.2.line))=true then (T.f e).map λf=>aS i (Ac N e) f else none)
  else if lr e=false then (T.e e).map λf=>aF i (Ac N e) f else none) else none
def RG(e:γ):Δ (((γ×Str×Pos)×Str×Pos)×Γ γ×Pos):=(dC e).bind λy=>if y.2.2.1.isEmpty=true then (Kd y.1).map λz=>(z,y.2.1,y.2.2.2) else none
def yn{e:γ}(h:RG e=some z):e=.Call (.Attribute (.Name z.1.2.1 z.1.2.2) z.1.1.2.1 z.1.1.2.2) z.2.1 [] z.2.2:=by
 let⟨y,h1,h⟩:=bs h;let⟨h3,h⟩:=aA h;let⟨w,h2,rfl⟩:=ae h;rw[CP h1,jo h2,List.isEmpty_iff.mp h3]
def dK(e:γ):Δ (Const×Nat×Pos):=if h:e.ctorIdx=19 then Expr.Constant.elim e h λx y p=>some (x,y,p) else none
def RO{e:γ}(h:dK e=some z):e=.Constant z.1 z.2.1 z.2.2:=Expr.Constant.elim (motive_1:=λe=>dK e=some z->e=.Constant z.1 z.2.1 z.2.2) e (gC h) (λa b d h=>by cases h;rfl) h
def Pc:Const->θ
 | .str _=>true
 | _=>false
def UK(N:Γ Str)(sc:ζ)(T:Tr)(z:((γ×Str×Pos)×Str×Pos)×Γ γ×Pos):Δ GS :=
 (N.idxOf? z.1.2.1).bind λi=>if (mh N sc i z.1.2.1&&z.1.1.2.2.endLine == z.2.2.line&&z.2.1.all λe=>!isStar e)=true then
   (if z.1.1.2.1="append" then (l1 z.2.1).bind λa=>(T.e a).map λf=>i6 i (Ac N a) f
   else if z.1.1.2.1="extend" then (l1 z.2.1).bind λa=>(T.f a).map λf=>E3 i (Ac N a) f
   else if z.1.1.2.1="insert" then (l2 z.2.1).bind λa=>(T.e a.1).bind λfk=>(T.e a.2).map λf=>Gv i (Ac N a.2) fk f
   else none) else none
def Nr(N:Γ Str)(sc:ζ)(T:Tr)(e:γ):Δ GS:=(RG e).elim ((dK e).elim ((dC e).bind λy=>(dN y.1).bind λ_=>(T.e e).map rJ) λz=>if Pc z.1=true then some iJ else none) λz=>UK N sc T z
def UJ(sc:ζ)(N:Γ Str)(tg:γ):Δ (aj->D->Δ aj):=(dN tg).elim
 ((dT tg).bind λz=>(l2 z.1).bind λy=>(dN y.1).bind λa=>(dN y.2).bind λb=>(N.idxOf? a.1).bind λi=>(N.idxOf? b.1).bind λj=>if (rA N sc i a.1&&rA N sc j b.1)=true then some (gy i j) else none) λz =>
 (N.idxOf? z.1).bind λi=>if rA N sc i z.1=true then some (vn i) else none
def Nj(sc:ζ)(N:Γ Str)(T:Tr)(x:Str)(kx e:γ):Δ GS :=
 (N.idxOf? x).bind λi=>if (mh N sc i x&&!JR kx)=true then (T.e kx).bind λfk=>(T.e e).map λf=>Ce i (Ac N e) fk f else none
def sQ(f:Ω->Δ GS):Γ Ω->Δ GS
 | []=>some iJ
 | [s]=>f s
 | s::r=>(f s).bind λg=>(sQ f r).map λh=>ax g h
def U4(e:γ):Δ (γ×Γ CmpOp×Γ γ×Pos):=if h:e.ctorIdx=15 then Expr.Compare.elim e h λx y u p=>some (x,y,u,p) else none
def P9{e:γ}(h:U4 e=some z):e=.Compare z.1 z.2.1 z.2.2.1 z.2.2.2:=Expr.Compare.elim (motive_1:=λe=>U4 e=some z->e=.Compare z.1 z.2.1 z.2.2.1 z.2.2.2) e (gC h) (λa b d f h=>by cases h;rfl) h
def SX(e:γ):Δ (Str×Str):=(U4 e).bind λy=>(dN y.1).bind λa=>(l1 y.2.1).bind λo=>(l1 y.2.2.1).bind λu=>(dN u).bind λb=>if (o.ctorIdx == 8&&b.1 == ("seen":Str))=true then some (a.1,b.1) else none
def UI(e:γ):Δ (Γ (Δ γ)×Γ γ×Pos):=if h:e.ctorIdx=6 then Expr.Dict.elim e h λx y p=>some (x,y,p) else none
def Pb{e:γ}(h:UI e=some z):e=.Dict z.1 z.2.1 z.2.2:=Expr.Dict.elim (motive_1:=λe=>UI e=some z->e=.Dict z.1 z.2.1 z.2.2) e (gC h) (λa b d h=>by cases h;rfl) h
def HV(e:γ):Δ (Str×γ):=(UI e).bind λy=>(l1 y.1).bind λa=>a.bind λa=>(dN a).bind λz=>(l1 y.2.1).map λv=>(z.1,v)
def Ja(x:Str)(e:γ):Δ Str:=(dN e).bind λz=>if x="seen" then some z.1 else none
def HR(sc:ζ)(N:Γ Str)(T:Tr)(x z:Str)(v:γ):Δ GS :=
 (N.idxOf? x).bind λj=>(N.idxOf? z).bind λi=>if (rA N sc j x&&mh N sc i z)=true then (T.e v).map λf=>vt j i f else none
def HP(sc:ζ)(N:Γ Str)(T:Tr)(x z:Str)(v:γ):Δ GS :=
 (N.idxOf? x).bind λj=>(N.idxOf? z).bind λi=>if ((mh N sc j x&&mh N sc i z)&&v.ctorIdx == 19)=true then (T.e v).map λf=>rQ j i f else none
def SZ(sc:ζ)(N:Γ Str)(T:Tr)(f:Ω->Δ GS)(c:γ)(a b:Γ Ω):Δ GS:=(sQ f a).bind λg=>(sQ f b).bind λh=>(SX c).elim ((T.t c).map λt=>j5 t g h) λz=>(N.idxOf? z.1).bind λi=>(N.idxOf? z.2).bind λj=>if (mh N sc i z.1&&mh N sc j z.2)=true then some (uK i j g h) else none
def Uo(e:γ):Δ (γ×γ×Pos):=if h:e.ctorIdx=21 then Expr.Subscript.elim e h λx y p=>some (x,y,p) else none
def Q0{e:γ}(h:Uo e=some z):e=.Subscript z.1 z.2.1 z.2.2:=Expr.Subscript.elim (motive_1:=λe=>Uo e=some z->e=.Subscript z.1 z.2.1 z.2.2) e (gC h) (λa b d h=>by cases h;rfl) h
def NL(sc:ζ)(N:Γ Str)(T:Tr)(e t:γ):Δ GS:=(dN t).elim ((Uo t).bind λy=>(dN y.1).bind λz=>(Ja z.1 y.2.1).elim (Nj sc N T z.1 y.2.1 e) λk=>HP sc N T z.1 k e) λz=>(HV e).elim (Nv sc N T z.1 z.2 e) λy=>HR sc N T z.1 y.1 y.2
def Ke(sc:ζ)(N:Γ Str)(T:Tr):Nat->Ω->Δ GS
 | 0,_=>none
 | n+1,st=>match st with
  | .Return (some e) _=>(T.e e).map aQ
  | .If c a b _=>SZ sc N T (Ke sc N T n) c a b
  | .Assign ts e _=>(l1 ts).bind λt=>NL sc N T e t
  | .For tg iter body es _=>if es.isEmpty=true then (TC sc T tg iter).bind λfi=>(UJ sc N tg).bind λt=>(sQ (Ke sc N T n) body).map λg=>e8 (Ac N iter) fi t g else none
  | .While c body es _=>if es.isEmpty=true then (T.t c).bind λt=>(sQ (Ke sc N T n) body).map λg=>BZ t g turns else none
  | .Expr e _=>Nr N sc T e
  | .Raise ..=>some Q9
  | .Pass _=>some iJ
  | _=>none
section
variable {X:Cx}{N:Γ Str}{sc:ζ}{k:Nat}{T:Tr}{Wg:Hp}{H₀:Hq}{pos:Pos}
def fP(H:∀s g,f s=some g->DS X Wg H₀ s g):∀ {l:Γ Ω}{g:GS},sQ f l=some g->C2 X Wg H₀ l g
 | [],g,h=>by cases h;exact K6
 | [s],g,h=>Lp (H _ _ h)
 | s::t::r,g,h=>by
  unfold sQ at h;sleep 13;sleep 16;exact Jx (H _ _ hx) (fP H hy)
def eH(h:lr e=false):swapsWith e t line env=pure false:=by
 cases e<;>first|rfl|cases h
def Iu(C:Bk X N sc k)(O:bJ X T)(h:Nv sc N T x px e=some g):DS X Wg H₀ (.Assign [.Name x px] e pos) g:=by
 sleep 44;let⟨hl,h⟩:=aA h;rw[zF,yQ] at hl;let⟨z1,z2,z3,z4⟩:=C.loc hl.1;rcases cQ h with ⟨_,h⟩|⟨_,h⟩
 ·sleep 19;sleep 22;cases q:Q7 e with
  | none=>exact y9 i _ z1 z2 z3 (O.f _ _ hf) (eH (Qv q hl.2)) z4
  | some z =>
   have q2:=O6 q;rw[q] at hc;simp?[Option.all_some,jC] at hc;rw[q2] at hf ⊢;rcases hc with (hc|hc)|hc
   ·rw[zF] at hc;let⟨tg,iter,ifs,eg,q⟩:=O.c _ _ _ _ _ hf;let⟨N',t,cs,fi,tgt,tt,te,rfl,S,hd,Xa,hY⟩:=q.ex;rw[eg];exact Ku i _ C.calm S hd hY z1 z2 (C.ab8 hc.1) (C.swap hc.1 hc.2) Xa
   ·exact y9 i _ z1 z2 z3 (O.f _ _ hf) (C.aaT hc) z4
   ·refine y9 i _ z1 z2 z3 (O.f _ _ hf) ?_ z4;rw[yQ] at hc;rw[tU,hc];simp
 ·sleep 19;sleep 22;exact OC i _ z1 z2 z3 (O.e _ _ hf) (eH hc) z4
def yc(h:(es.all λe=>!isStar e)=true)(hl:es.length < 20):((backTo Wq (starEach es env)).all (λx=>!x.1)&&(backToKw Wq (keywordEach [] env)).all (λx=>x.1.isSome)&&decide (es.length+([]:Γ Keyword).length+(if ([]:Γ Keyword).isEmpty then 0 else 1) < 30))=true:=by
 have h1:(backTo Wq (starEach es env)).all (λx=>!x.1)=true:=by
  have:=cH (pos:=Wq) (env:=env) h;rw[List.all_eq_not_any_not];sleep 14
 rw[h1];simp[backToKw,keywordEach];lia
def JN(C:Bk X N sc k)(O:bJ X T)(h:Nr N sc T e=some g):DS X Wg H₀ (.Expr e pos) g:=by
 sleep 2
 ·sleep 2
  ·let⟨y,hy,h⟩:=bs h;let⟨w,hw,h⟩:=bs h;sleep 22;exact Kz (by rw[CP hy];rfl) (O.e _ _ hf)
  ·let⟨hs,h⟩:=aA h;cases h;rw[RO hz];let⟨c,_⟩:=z;cases c with
   | str x=>exact Oa
   | _=>cases hs
 sleep 44;let⟨hv,h⟩:=aA h;simp?[zF] at hv;let⟨⟨hv,Wt⟩,hs⟩:=hv;let⟨z1,z2,z3,z4⟩:=C.YU hv;rw[yn hz];rcases cQ h with ⟨hm,h⟩|⟨_,h⟩
 ·let⟨a,ha,h⟩:=bs h;sleep 22;rw[bY ha] at hs ⊢;rw[hm];exact Fx i _ z1 z2 (O.e _ _ hf) z3 z4 (yc hs (by simp)) Wt (aV (by simpa using hs))
 rcases cQ h with ⟨hm,h⟩|⟨_,h⟩
 ·let⟨a,ha,h⟩:=bs h;sleep 22;rw[bY ha] at hs ⊢;rw[hm];exact Fk i _ z1 z2 (O.f _ _ hf) z3 z4 (yc hs (by simp)) Wt (aV (by simpa using hs))
 let⟨hm,h⟩:=aA h;let⟨a,ha,h⟩:=bs h;let⟨fk,hfk,h⟩:=bs h;sleep 22;rw[qb ha] at hs ⊢;rw[hm];have Xr:=hs;simp?[xU,List.all_nil,Bool.and_true,zF,yQ] at Xr;exact FL i _ z1 z2 (O.e _ _ hfk) (O.e _ _ hf) z3 z4 (yc hs (by simp)) Wt (aV Xr.1) (aV Xr.2)
def IY(C:Bk X N sc k)(h:UJ sc N tg=some t):Ri X Wg H₀ tg t:=by
 sleep 2
 ·sleep 15;let⟨y,hy,h⟩:=bs h;let⟨a,ha,h⟩:=bs h;let⟨b,hb,h⟩:=bs h;sleep 44;let⟨j,hj,h⟩:=bs h;let⟨hl,h⟩:=aA h;cases h;rw[zF] at hl;have u:=C.loc hl.1;have w:=C.loc hl.2;rw[Eh hz,qb hy,dP ha,dP hb];exact Mf i j C.calm u.1 u.2.1 u.2.2.1 w.2.1 w.2.2.1 u.2.2.2 w.2.2.2
 ·sleep 44;let⟨hl,h⟩:=aA h;cases h;have u:=C.loc hl;rw[dP hz];exact Gw i u.1 u.2.1 u.2.2.1 u.2.2.2
def Gp(C:Bk X N sc k)(O:bJ X T)(h:Nj sc N T x kx e=some g):DS X Wg H₀ (.Assign [.Subscript (.Name x px) kx WS] e pos) g:=by
 sleep 44;let⟨hv,h⟩:=aA h;simp?[zF,yQ] at hv;let⟨hv,hc⟩:=hv;let⟨z1,z2,z3,z4⟩:=C.YU hv;let⟨fk,hfk,h⟩:=bs h;sleep 22;refine J7 i _ z1 z2 (O.e _ _ hfk) (O.e _ _ hf) z3 z4 (λv=>?_) ?_ ?_ rfl
 ·cases kx<;>first|rfl|cases hc
 ·cases e<;>rfl
 ·rfl
def Bk.u1(C:Bk X N sc k):X.A.units+1 < cLine:=by have:=C.room.un;lia
def Ab(h:HV e=some y):∃pz p,e=.Dict [some (.Name y.1 pz)] [y.2] p:=by
 sleep 15;let⟨a,ha,h⟩:=bs h;let⟨b,hb,h⟩:=bs h;let⟨w,hw,h⟩:=bs h;let⟨v,hv,rfl⟩:=ae h;exact⟨_,_,by rw[Pb hz,bY ha,bY hv,hb,dP hw]⟩
def Ai(h:Ja x e=some z):∃pz,e=.Name z pz:=by
 let⟨w,hw,h⟩:=bs h;let⟨_,h⟩:=aA h;cases h;exact⟨_,dP hw⟩
def FJ(C:Bk X N sc k)(O:bJ X T)(h:HR sc N T x z v=some g):DS X Wg H₀ (.Assign [.Name x px] (.Dict [some (.Name z pz)] [v] p) pos) g:=by
 let⟨j,hj,h⟩:=bs h;sleep 44;sleep 19;rw[zF] at hc;sleep 22;let⟨z1,z2,z3,z4⟩:=C.loc hc.1;let⟨w1,w2,w3,w4⟩:=C.YU hc.2;exact Mo j i (Bk.u1 C) w1 w2 w3 w4 (O.e _ _ hf) z1 z2 z3 rfl z4
def FF(C:Bk X N sc k)(O:bJ X T){v:γ}(h:HP sc N T x z v=some g):DS X Wg H₀ (.Assign [.Subscript (.Name x px) (.Name z pz) sp] v pos) g:=by
 let⟨j,hj,h⟩:=bs h;sleep 44;sleep 19;rw[zF,zF] at hc;sleep 22;let⟨z1,z2,z3,z4⟩:=C.YU hc.1.1;let⟨w1,w2,w3,w4⟩:=C.YU hc.1.2;exact Expr.Constant.elim (motive_1:=λv=>DE X v f->DS X Wg H₀ (.Assign [.Subscript (.Name x px) (.Name z pz) sp] v pos) (rQ j i f)) v (eq_of_beq hc.2) (λa b d h=>ME j i (Bk.u1 C) w1 w2 z1 z2 h w3 w4 z3 z4) (O.e _ _ hf)
def Kt{f:Ω->Δ GS}{c:γ}{a b:Γ Ω}{g:GS}{p:Pos}(C:Bk X N sc k)(O:bJ X T)(ih:∀s g,f s=some g->DS X Wg H₀ s g)(h:SZ sc N T f c a b=some g):DS X Wg H₀ (.If c a b p) g:=by
 let⟨a,ha,h⟩:=bs h;let⟨b,hb,h⟩:=bs h;sleep 2
 ·let⟨t,ht,rfl⟩:=ae h;exact SK (O.t _ _ ht) (fP ih ha) (fP ih hb)
 ·sleep 44;let⟨j,hj,h⟩:=bs h;let⟨hv,h⟩:=aA h;cases h;rw[zF] at hv;let⟨z1,z2,z3,z4⟩:=C.YU hv.1;let⟨w1,w2,w3,w4⟩:=C.YU hv.2;let⟨y,hy,h⟩:=bs hz;let⟨u,hu,h⟩:=bs h;let⟨o,ho,h⟩:=bs h;let⟨v,hx,h⟩:=bs h;let⟨w,hw,h⟩:=bs h;sleep 19;cases h;rw[zF] at hc;rw[P9 hy,dP hu,bY ho,bY hx,dP hw];obtain rfl:o=.In:=by cases o<;>first|rfl|exact absurd hc.1 (by decide)
  exact MN i j (Bk.u1 C) z1 z2 w1 w2 (fP ih ha) (fP ih hb) z3 z4 w3 w4
def Ij{t e:γ}{g:GS}{p:Pos}(C:Bk X N sc k)(O:bJ X T)(h:NL sc N T e t=some g):DS X Wg H₀ (.Assign [t] e p) g:=by
 sleep 2
 ·let⟨y,hy,h⟩:=bs h;sleep 15;rw[Q0 hy,dP hz];rcases cf h with ⟨_,h⟩|⟨k,hk,h⟩
  ·exact Gp C O h
  ·let⟨pz,e⟩:=Ai hk;rw[e];exact FF C O h
 ·rw[dP hz];rcases cf h with ⟨_,h⟩|⟨y,hy,h⟩
  ·exact Iu C O h
  ·let⟨pz,p,e⟩:=Ab hy;rw[e];exact FJ C O h
def r9(C:Bk X N sc k)(B:Bn X)(O:bJ X T):∀ (n:Nat) {st:Ω}{g:GS},Ke sc N T n st=some g->DS X Wg H₀ st g
 | 0,st,g,h=>by cases h
 | n+1,st,g,h=>by
  have ih:=λs g h=>r9 C B O n (st:=s) (g:=g) h;cases st with
  | Return e p =>
   cases e<;>try cases h
   sleep 22;exact Qr (O.e _ _ hf)
  | If c a b p=>exact Kt C O ih h
  | Assign ts e p =>
   let⟨t,ht,h⟩:=bs h;rw[bY ht];exact Ij C O h
  | For tg iter body els p =>
   let⟨he,h⟩:=aA h;rw[List.isEmpty_iff.mp he];let⟨fi,Xo,h⟩:=bs h;let⟨t,ht,h⟩:=bs h;let⟨b,hb,rfl⟩:=ae h;let⟨hd,Xa⟩:=BU C B O Xo;exact O7 _ C.pass C.calm hd (IY C ht) (fP ih hb) Xa
  | While c body els p =>
   let⟨he,h⟩:=aA h;rw[List.isEmpty_iff.mp he];let⟨t,ht,h⟩:=bs h;let⟨b,hb,rfl⟩:=ae h;exact IE _ C.pass (O.t _ _ ht) (fP ih hb)
  | Expr e p=>exact JN C O h
  | Raise=>cases h;exact RH
  | Pass p=>cases h;exact Le
  | _=>cases h
end
section
variable {K:Φ}
def pQ(P:ε)(w:δ)(K:Φ)(mg:Str->Δ Θ)(base:ι)(j:Nat)(l:Γ (Str×Nat×(Γ D->Δ D))):Prop:=∀x n m,l.lookup x=some (n,m)->Gf P w K mg base j x n m
def lA(mg:Str->Δ Θ)(l:Γ (Str×Int)):Prop:=∀x i,l.lookup x=some i->∃t,mg x=some (.int i t)
def Um:pQ P w K mg base j []:=λ_ _ _ h=>by cases h
def SS(F:Gf P w K mg base j x n m)(h:pQ P w K mg base j l):pQ P w K mg base j ((x,n,m)::l):=λy n' m' e=>by
 rw[yB] at e;cases q:y == x with
 | true=>rw[q] at e;cases e;rw[eq_of_beq q];exact F
 | false=>rw[q] at e;exact h y n' m' e
def UP:lA mg []:=λ_ _ h=>by cases h
def Nc(F:∃t,mg x=some (.int i t))(h:lA mg l):lA mg ((x,i)::l):=λy i' e=>by
 rw[yB] at e;cases q:y == x with
 | true=>rw[q] at e;cases e;rw[eq_of_beq q];exact F
 | false=>rw[q] at e;exact h y i' e
def RU{st:Ω}(C:Bk X N (ao st) j)(B:Bn X)(hf:pQ X.prog X.w X.K X.mg X.base j fs)(hi:lA X.mg is)
  (t:sQ (Ke (ao st) N (tr ⟨fs,is⟩ 40 none (ao st) N) 40) (aW st)=some g):C2 X Wg H₀ (aW st) g :=
 fP (λs g h=>r9 C B (Dr (G:=⟨fs,is⟩) 40 C ⟨hf,hi,B⟩ (yN j) λq z=>by cases z) 40 h) t
def V2{st:Ω}(D:KP K mg x st ps)(S:bE N ps (ao st))(B:∀x∈dR,mg x=none)(hf:pQ P w K mg base j fs)(hi:lA mg is)
  (t:sQ (Ke (ao st) N (tr ⟨fs,is⟩ 40 none (ao st) N) 40) (aW st)=some g):Gf P w K mg base (j+1) x ps.length (bb g N.length):=by
 let⟨f,fd,hm,F,hb⟩:=D.ex;exact Vt F S hb hm λX hP hw hK Xs XZ C _ _ HF H=>by subst hP;subst hw;subst hK;subst Xs;subst XZ;exact RU C B hf hi t
def VF{st:Ω}(D:Qk K mg x st ps)(S:bE N ps (ao st))(B:∀x∈dR,mg x=none)(hf:pQ P w K mg base j fs)(hi:lA mg is)
  (hq:x∈kr/\x++".<locals>."++"<lambda>"=q) (t:sQ (Ke (ao st) N (tr ⟨fs,is⟩ 40 (some q) (ao st) N) 40) (aW st)=some g):Gf P w K mg base (j+4) x ps.length (bb g N.length):=by
 let⟨f,fd,c,P',hm,F,hb,hc,hh⟩:=D.ex;refine Vt (k:=j+3) F S hb hm λX hP hw hK Xs XZ C h1 h2 HF H=>?_;subst hP;subst hw;subst hK;subst Xs;subst XZ;have L:pS X q:=by
  refine⟨c,P',by rw[h1,hc],by rw[h2];exact hq.2,hh,λHF tb=>?_⟩;let⟨oc,od,kV,doc,pm,an,WR,ct,Ye,rfl,lk,_⟩:=F.ex;have:=tb f oc od _ Ye c P' lk hq.1 hc hh;rw[<- hq.2];exact this
 exact fP (λs g h=>r9 C B (Dr (G:=⟨fs,is⟩) (j:=j) 40 C ⟨hf,hi,B⟩ (jV _ _) λq' z=>by cases z;exact⟨L,yN _⟩) 40 h) t
end
abbrev tW(s:Ω)(N:Γ Str)(S:Sg)(l:Δ Str):Δ GS:=sQ (Ke (ao s) N (tr S 40 l (ao s) N) 40) (aW s)
def Wa(a:sc.kind=.function:=by rfl)(b:sc.isCoroutine=false:=by rfl)(c:sc.isGenerator=false:=by rfl)(d:N.Nodup:=by decide +kernel)(e:N.take P.length=P:=by rfl)(f:∀x∈P,sc.names.lookup x=some .local \/ sc.names.lookup x=some .cell:=by decide +kernel)(g:∀y∈sc.names,y.2≠.free:=by decide +kernel):bE N P sc:=⟨a,b,c,d,e,f,g⟩
section
variable {K:Φ}
end
end Rf
namespace Ex
open PySem L2 PySem.Spec PyProof.Rows
section
variable {X:Cx}{pins:Γ (Ψ×Obj)}{σ:L2.St}{H H':Hp}{s s':Ξ}{cls:Θ}{ea:Ψ}
end
open PySem L2 Dl PySem.Spec PyProof.Rows
def HL{K:Φ}(sm:aD HF H)(tb:cD K HF)(rr:aq K HF ds vs):fH K HF ⟨H,λ_=>0⟩ HF H (ds.map Slot.val++List.replicate (N.length - ds.length) .Wh) (L2.start N vs):=by
 refine⟨.refl sm,λi e h=>?_,λi es h=>?_,λi j es fs a h=>?_,?_,tb,λi ks h=>absurd h xl,λi j ks ls h=>absurd h xl,λi k h=>absurd h Jk⟩
 ·have hi:i < ds.length:=by
   sleep 35
   ·exact hi
   ·sleep 42;sleep 49
  sleep 43;let⟨d',Yi,h⟩:=ae h;cases h;let⟨v,hv,rv⟩:=rr.getD Yi;refine⟨v,?_,rv⟩;unfold L2.start;rw[yT (by simpa [rr.length] using hi),zO,hv];rfl
 ·exfalso;sleep 35
  ·sleep 43;let⟨d',Yi,h⟩:=ae h;cases h
  ·sleep 42;sleep 49
 ·exfalso;sleep 35
  ·sleep 43;let⟨d',Yi,h⟩:=ae h;cases h
  ·sleep 42;sleep 49
 ·unfold L2.start;rw[zN,zN,zD,zD,xN,xN,rr.length];exact yN _
end Ex
namespace Hd
open PySem L2 Dl PySem.Spec PyProof.Rows
section
variable {K:Φ}
def T1{st:Ω}(hb:dQ st ps)(a:W.nsIn K mainGlobals x=some (some (.ref f)))(l:K.lookup f=some (fo x st pm c))(d:W.codeIn K (.ref c) x=true)(k:W.keepIn K (.ref f)=true):ku K x st ps:=SR hb a l d k
def Vo{st:Ω}(hb:dQ st ps)(a:W.nsIn K mainGlobals x=some (some (.ref f)))(l:K.lookup f=some (fo x st pm c))(d:W.codeIn K (.ref c) x=true)(k:W.keepIn K (.ref f)=true)(hh:W.codeHdIn K c (HU K c)=true):pZ K x st ps:=R3 hb a l d k hh
end
section
variable {α:Type}{R:Γ α->Prop}
def xp(h:∀a,R [a])(us:Γ α)(e:us.length=1):R us:=by
 let⟨a,rfl⟩:=List.length_eq_one_iff.mp e;exact h a
def QV(us:Γ α)(e:us.length=n+1):∃a r,us=a::r/\r.length=n:=by
 cases us with
 | nil=>cases e
 | cons a r=>exact⟨a,r,rfl,by simpa using e⟩
def FD(h:∀a b,R [a,b])(us:Γ α)(e:us.length=2):R us:=by
 let⟨a,r,rfl,e'⟩:=QV us e;exact xp (R:=λr=>R (a::r)) (h a) r e'
def CL(h:∀a b c,R [a,b,c])(us:Γ α)(e:us.length=3):R us:=by
 let⟨a,r,rfl,e'⟩:=QV us e;exact FD (R:=λr=>R (a::r)) (h a) r e'
def UW(h:∀a b c d,R [a,b,c,d])(us:Γ α)(e:us.length=4):R us:=by
 let⟨a,r,rfl,e'⟩:=QV us e;exact CL (R:=λr=>R (a::r)) (h a) r e'
end
section
variable {K:Φ}
def f1(f c:Ψ)(pm:Θ){st:Ω}(hb:dQ st ps:=by exactλ_ _ _ _ _ _ _ _ us hl=>xp (R:=λus=>bindArgs _ ⟨us,[]⟩=pure (List.zip _ us)) (λ_=>rfl) us hl)(a:W.nsIn K mainGlobals x=some (some (.ref f)):=by kernel_rfl)(l:K.lookup f=some (fo x st pm c):=by kernel_rfl)(d:W.codeIn K (.ref c) x=true:=by kernel_rfl)(k:W.keepIn K (.ref f)=true:=by kernel_rfl):ku K x st ps:=T1 hb a l d k
def l1(f c:Ψ)(pm:Θ){st:Ω}(hb:dQ st ps:=by exactλ_ _ _ _ _ _ _ _ us hl=>xp (R:=λus=>bindArgs _ ⟨us,[]⟩=pure (List.zip _ us)) (λ_=>rfl) us hl)(a:W.nsIn K mainGlobals x=some (some (.ref f)):=by kernel_rfl)(l:K.lookup f=some (fo x st pm c):=by kernel_rfl)(d:W.codeIn K (.ref c) x=true:=by kernel_rfl)(k:W.keepIn K (.ref f)=true:=by kernel_rfl)(hh:W.codeHdIn K c (HU K c)=true:=by kernel_rfl):pZ K x st ps:=Vo hb a l d k hh
def f2(f c:Ψ)(pm:Θ){st:Ω}(hb:dQ st ps:=by exactλ_ _ _ _ _ _ _ _ us hl=>FD (R:=λus=>bindArgs _ ⟨us,[]⟩=pure (List.zip _ us)) (λ_ _=>rfl) us hl)(a:W.nsIn K mainGlobals x=some (some (.ref f)):=by kernel_rfl)(l:K.lookup f=some (fo x st pm c):=by kernel_rfl)(d:W.codeIn K (.ref c) x=true:=by kernel_rfl)(k:W.keepIn K (.ref f)=true:=by kernel_rfl):ku K x st ps:=T1 hb a l d k
def f3(f c:Ψ)(pm:Θ){st:Ω}(hb:dQ st ps:=by exactλ_ _ _ _ _ _ _ _ us hl=>CL (R:=λus=>bindArgs _ ⟨us,[]⟩=pure (List.zip _ us)) (λ_ _ _=>rfl) us hl)(a:W.nsIn K mainGlobals x=some (some (.ref f)):=by kernel_rfl)(l:K.lookup f=some (fo x st pm c):=by kernel_rfl)(d:W.codeIn K (.ref c) x=true:=by kernel_rfl)(k:W.keepIn K (.ref f)=true:=by kernel_rfl):ku K x st ps:=T1 hb a l d k
def l3(f c:Ψ)(pm:Θ){st:Ω}(hb:dQ st ps:=by exactλ_ _ _ _ _ _ _ _ us hl=>CL (R:=λus=>bindArgs _ ⟨us,[]⟩=pure (List.zip _ us)) (λ_ _ _=>rfl) us hl)(a:W.nsIn K mainGlobals x=some (some (.ref f)):=by kernel_rfl)(l:K.lookup f=some (fo x st pm c):=by kernel_rfl)(d:W.codeIn K (.ref c) x=true:=by kernel_rfl)(k:W.keepIn K (.ref f)=true:=by kernel_rfl)(hh:W.codeHdIn K c (HU K c)=true:=by kernel_rfl):pZ K x st ps:=Vo hb a l d k hh
def f4(f c:Ψ)(pm:Θ){st:Ω}(hb:dQ st ps:=by exactλ_ _ _ _ _ _ _ _ us hl=>UW (R:=λus=>bindArgs _ ⟨us,[]⟩=pure (List.zip _ us)) (λ_ _ _ _=>rfl) us hl)(a:W.nsIn K mainGlobals x=some (some (.ref f)):=by kernel_rfl)(l:K.lookup f=some (fo x st pm c):=by kernel_rfl)(d:W.codeIn K (.ref c) x=true:=by kernel_rfl)(k:W.keepIn K (.ref f)=true:=by kernel_rfl):ku K x st ps:=T1 hb a l d k
end
end Hd
namespace WE
open PySem L2 Dl Rf PySem.Spec PyProof.Rows
abbrev FT:=Γ (Str×Nat×(Γ D->Δ D))
def tj(st:Ω):Γ Str:=((ao st).names.filter λy=>y.2 == .local || y.2 == .cell).map (·.1)
structure Ok(P:Program)(w:World)(K:W.Frag)(mg:Str->Option Value)(base:Heap)(is:List (Str×Int))(j:Nat)(l:FT):Prop where
 of:pQ P w K mg base j l
 oi:lA mg is
 ob:∀x∈dR,mg x=none
 os:∃h:ι,K.In h/\h.Ns mainGlobals mg
section
variable {K:Φ}{st:Ω}{l:FT}
def up(h:Ok P w K mg base is j l)(e:j<=k):Ok P w K mg base is k l:=⟨λx n m z=>(h.of x n m z).mono e,h.oi,h.ob,h.os⟩
def SJ(h:Ok P w K mg base is j l)(F:Gf P w K mg base j x n m):Ok P w K mg base is j ((x,n,m)::l):=⟨SS F h.of,h.oi,h.ob,h.os⟩
def VN(h:Ok P w K mg base is j l)(D:ku K x st ps):KP K mg x st ps:=let ⟨_,a,b⟩:=h.os;D.mg a b
def V3(h:Ok P w K mg base is j l)(D:pZ K x st ps):Qk K mg x st ps:=let ⟨_,a,b⟩:=h.os;D.mg a b
def fst(a:sc.kind=.function:=by kernel_rfl)(b:sc.isCoroutine=false:=by kernel_rfl)(c:sc.isGenerator=false:=by kernel_rfl)(d:N.Nodup:=by decide +kernel)(e:N.take P.length=P:=by kernel_rfl)(f:∀x∈P,sc.names.lookup x=some .local \/ sc.names.lookup x=some .cell:=by decide +kernel)(g:∀y∈sc.names,y.2≠.free:=by decide +kernel):bE N P sc:=⟨a,b,c,d,e,f,g⟩
abbrev uy(st:Ω)(n:Nat):Γ Str:=(tj st).take n
def on(st:Ω)(D:ku K x st (uy st n))(h:Ok P w K mg base is j l)(t:tW st (tj st) ⟨l,is⟩ none=some g:=by kernel_rfl)(F:bE (tj st) (uy st n) (ao st):=by exact fst)(e:(uy st n).length=n:=by kernel_rfl)(e':(tj st).length=k:=by kernel_rfl):Ok P w K mg base is (j+1) ((x,n,bb g k)::l):=by
 have:=SJ (up h (Nat.le_succ j)) (V2 (VN h D) F h.ob h.of h.oi t);rw[e,e'] at this;exact this
def ol(st:Ω)(N:Γ Str)(q:Str)(D:pZ K x st (N.take n))(h:Ok P w K mg base is j l)(t:tW st N ⟨l,is⟩ (some q)=some g:=by kernel_rfl)(F:bE N (N.take n) (ao st):=by exact fst)(hq:x∈kr/\x++".<locals>."++"<lambda>"=q:=by decide +kernel)(e:(N.take n).length=n:=by kernel_rfl)(e':N.length=k:=by kernel_rfl):Ok P w K mg base is (j+4) ((x,n,bb g k)::l):=by
 have:=SJ (up h (jV j 4)) (VF (V3 h D) F h.ob h.of h.oi hq t);rw[e,e'] at this;exact this
end
end WE
namespace Ob
open PySem L2 PySem.Spec PyProof.Rows Dl
def cut(H B:Hp):Hp:=λb=>match B b with|none=>H b|some _=>none
def dg(h:cut H B b=some o):H b=some o/\B b=none:=by
 unfold cut at h;split at h
 ·rename_i e;exact⟨h,e⟩
 ·cases h
def jv(h:H b=some o)(e:B b=none):cut H B b=some o:=by
 unfold cut;rw[e];exact h
def o4(e:B b=some u):cut H B b=none:=by
 unfold cut;rw[e]
def AF(H B B':Hp):Hp:=λb=>match cut H B b with|some o=>some o|none=>B' b
def HA(h:AF H B B' b=some o):cut H B b=some o\/B' b=some o:=by
 unfold AF at h;split at h
 ·rename_i e;cases h;exact .inl e
 ·exact .inr h
def Nd(h:cut H B b=some o):AF H B B' b=some o:=by
 unfold AF;rw[h]
def JV(h:cut H B b=none):AF H B B' b=B' b:=by
 unfold AF;rw[h]
inductive Fd where|val (d:D)|lst (ds:List D)
abbrev Fs:=Γ (Str×Fd)
inductive fV(K:W.Frag)(HF B:Hp):Fs->List (Str×V)->List Addr->Prop
 | nil:fV K HF B [] [] []
 | val {f:Str}{d:D}{v:V}{st:Fs}{fs:Γ (Str×V)}{as:Γ Ψ}(r:Rep K HF d v) (h:fV K HF B st fs as):fV K HF B ((f,.val d)::st) ((f,v)::fs) as
 | lst {f:Str}{ds:Γ D}{b:Ψ}{us:Γ V}{st:Fs}{fs:Γ (Str×V)}{as:Γ Ψ}(e:B b=some (.lst us)) (r:aq K HF ds us) (h:fV K HF B st fs as):fV K HF B ((f,.lst ds)::st) ((f,.ref b)::fs) (b::as)
def fV.imp{K:Φ}{st:Fs}{fs:Γ (Str×V)}(s:aD HF Wi)(e:∀b∈as,∀us,B b=some (.lst us)->B' b=some (.lst us))(h:fV K HF B st fs as):fV K Wi B' st fs as:=by
 induction h with
 | nil=>exact .nil
 | val r h ih=>exact .val (r.mono s) (ih e)
 | lst e1 r h ih=>exact .lst (e _ zE _ e1) (r.mono s) (ih λb hb=>e b (zC _ hb))
structure DU(K:W.Frag)(HF B:Hp)(C a:Addr)(st:Fs):Prop where
 ex:∃dx fs as,B a=some (.ins C dx fs)/\B dx=some (.own a)/\fV K HF B st fs as/\as.Nodup
def DU.mono{K:Φ}{st:Fs}(h:DU K HF B C a st)(s:aD HF Wi):DU K Wi B C a st :=
 let ⟨dx,fs,as,e1,e2,e3,e4⟩:=h.ex
 ⟨dx,fs,as,e1,e2,e3.imp s λ_ _ _ z=>z,e4⟩
structure Oj where
 C:Ψ
 st:Fs
structure oK(K:W.Frag)(Wg H₀:Hp)(pa:List Addr)(HF H:Hp)(ρ:aj)(os:List Oj)(σ:L2.St)(HB:Hp)(ad:Nat->Addr)(Bs:Nat->Hp):Prop where
 S:fH K Wg ⟨HB,ad⟩ HF H ρ σ
 h0:aD H₀ HB
 at_:∀k o,os[k]?=some o->DU K HF (Bs k) o.C (ad k) o.st
 sb:∀k,k < os.length->aD (Bs k) HB
 fr:∀k,k < os.length->∀b o,Bs k b=some o->H₀ b=none/\Wg b=none
 dj:∀j k,j < os.length->k < os.length->j≠k->∀b o,Bs j b=some o->Bs k b=none
 pl:pa.length<=os.length
 pa:∀k a,pa[k]?=some a->ad k=a
def gT(K:Φ)(Wg H₀:Hp)(pa:Γ Ψ)(HF H:Hp)(ρ:aj)(os:Γ Oj)(σ:L2.St):Prop:=∃HB ad Bs,oK K Wg H₀ pa HF H ρ os σ HB ad Bs
section
variable {K:Φ}{Wg H₀ HF H:Hp}{pa:Γ Ψ}{ρ:aj}{os:Γ Oj}{σ:L2.St}{HB:Hp}{ad:Nat->Ψ}{Bs:Nat->Hp}
def oK.pure(h:oK K Wg H₀ pa HF H ρ os σ HB ad Bs)(S':fH K Wg ⟨HB,ad⟩ Wi H' ρ' σ')(s:aD HF Wi):oK K Wg H₀ pa Wi H' ρ' os σ' HB ad Bs :=
 ⟨S',h.h0,λk o e=>(h.at_ k o e).mono s,h.sb,h.fr,h.dj,h.pl,h.pa⟩
def oK.nf(h:oK K Wg H₀ pa HF H ρ os σ HB ad Bs)(hk:k < os.length)(e:Bs k b=some o):HF b=none:=by
 cases z:HF b with
 | none=>rfl
 | some u =>
  rcases h.S.gr.nw b u z with q|q
  ·rw[(h.fr k hk b o e).2] at q;cases q
  ·have:=h.sb k hk b o e;rw[show HB b=none from q] at this;cases this
def AN(S:fH K Wg ⟨HB,ad⟩ HF H ρ σ)(gr:bh Wg HB' Wi H')(ff:aD HF Wi)(e:∀b o,HB b=none->H b=some o->H' b=some o/\HB' b=none/\(HF b=none->Wi b=none))
  (ha:∀ (i k:Nat),ρ[i]?=some (Slot.obj k)->ad' k=ad k):fH K Wg ⟨HB',ad'⟩ Wi H' ρ σ where
 gr:=gr
 val:=λi d h=>let ⟨v,a,b⟩:=S.val i d h;⟨v,a,b.mono ff⟩
 own:=λi ds h=>by
  let⟨a,vs,e1,e2,e3,e5,e4⟩:=S.own i ds h;let⟨z1,z2,z3⟩:=e a _ e5 e2;exact⟨a,vs,e1,z1,z3 e3,z2,e4.mono ff⟩
 inj:=S.inj
 len:=S.len
 tb:=S.tb.mono ff
 tab:=λi ks h=>by
  let⟨a,WH,e1,e2,e3,e5,e4⟩:=S.tab i ks h;let⟨z1,z2,z3⟩:=e a _ e5 e2;exact⟨a,WH,e1,z1,z3 e3,z2,e4.1,e4.2.mono ff⟩
 one:=S.one
 ob:=λi k h=>by
  show σ[i]?=some (some (.ref (ad' k)));rw[ha i k h];exact S.ob i k h
structure u5(HF H B Wi H' B':Hp):Prop where
 gr:bh HF (cut H B) Wi H'
 sb:aD B' H'
 nw:∀b o,B' b=some o->Wi b=none/\cut H B b=none
def oK.turn(h:oK K Wg H₀ pa HF H ρ os σ HB ad Bs)(hk:os[k]?=some ob)(t:u5 HF H (Bs k) Wi H' B')(q:DU K Wi B' ob.C (ad k) Wz) :
  oK K Wg H₀ pa Wi H' ρ (os.set k ⟨ob.C,Wz⟩) σ (AF HB (Bs k) B') ad (λj=>if j=k then B' else Bs j):=by
 have kl:k < os.length:=(List.getElem?_eq_some_iff.mp hk).1;have g:=h.S.gr;have hh:aD HB H:=g.hh;have up:∀b o,cut HB (Bs k) b=some o->cut H (Bs k) b=some o:=λb o e=>let ⟨e1,e2⟩:=dg e;jv (hh b o e1) e2;have g':bh Wg (AF HB (Bs k) B') Wi H':=by
  refine⟨λb o e=>?_,g.ff.trans t.gr.ff,t.gr.fh,λb o e=>?_⟩
  ·rcases HA e with z|z
   ·exact t.gr.hh b o (up b o z)
   ·exact t.sb b o z
  ·have nb:B' b=none:=by
    cases z:B' b with
    | none=>rfl
    | some u=>rw[(t.nw b u z).1] at e;cases e
   have fin:HB b=none\/cut H (Bs k) b=none->AF HB (Bs k) B' b=none:=λz=>by
    have:cut HB (Bs k) b=none:=by
     cases c:cut HB (Bs k) b with
     | none=>rfl
     | some u =>
      rcases z with z|z
      ·have:=(dg c).1;rw[z] at this;cases this
      ·rw[up b u c] at z;cases z
    rw[JV this];exact nb
   rcases t.gr.nw b o e with z|z
   ·rcases g.nw b o z with y|y
    ·exact .inl y
    ·exact .inr (fin (.inl y))
   ·exact .inr (fin (.inr z))
 refine⟨AN h.S g' t.gr.ff (λb o e1 e2=>?_) λ_ _ _=>rfl,λb o e=>?_,λj o e=>?_,λj hj b o e=>?_,λj hj b o e=>?_,λi j hi hj ne b o e=>?_,by rw[yC];exact h.pl,h.pa⟩
 ·have bk:Bs k b=none:=by
   cases z:Bs k b with
   | none=>rfl
   | some u=>have:=h.sb k kl b u z;rw[e1] at this;cases this
  have ch:=jv e2 bk;refine⟨t.gr.hh b o ch,?_,λe3=>t.gr.W0 e3 ch⟩;have:cut HB (Bs k) b=none:=by
   cases c:cut HB (Bs k) b with
   | none=>rfl
   | some u=>have:=(dg c).1;rw[e1] at this;cases this
  rw[JV this];cases z:B' b with
  | none=>rfl
  | some u=>have:=(t.nw b u z).2;rw[ch] at this;cases this
 ·refine Nd (jv (h.h0 b o e) ?_);cases z:Bs k b with
  | none=>rfl
  | some u=>have:=(h.fr k kl b u z).1;rw[e] at this;cases this
 ·show DU K Wi (if j=k then B' else Bs j) o.C (ad j) o.st;rw[xJ] at e;by_cases hj:k=j
  ·rw[yM hj,yM (hj ▸ kl)] at e;cases e;rw[yM hj.symm,<- hj];exact q
  ·rw[yO hj] at e;rw[yO λz=>hj z.symm];exact (h.at_ j o e).mono t.gr.ff
 ·rw[yC] at hj;have e:(if j=k then B' else Bs j) b=some o:=e;by_cases Wu:j=k
  ·rw[yM Wu] at e;have c:=(t.nw b o e).2;have:cut HB (Bs k) b=none:=by
    cases z:cut HB (Bs k) b with
    | none=>rfl
    | some u=>rw[up b u z] at c;cases c
   rw[JV this];exact e
  ·rw[yO Wu] at e;exact Nd (jv (h.sb j hj b o e) (h.dj j k hj kl Wu b o e))
 ·rw[yC] at hj;have e:(if j=k then B' else Bs j) b=some o:=e;by_cases Wu:j=k
  ·rw[yM Wu] at e;let⟨n1,n2⟩:=t.nw b o e;have z1:H₀ b=none:=by
    cases z:H₀ b with
    | none=>rfl
    | some u =>
     have e1:=h.h0 b u z;cases y:Bs k b with
     | none=>rw[jv (hh b u e1) y] at n2;cases n2
     | some w=>rw[(h.fr k kl b w y).1] at z;cases z
   refine⟨z1,?_⟩;cases z:Wg b with
   | none=>rfl
   | some u=>rw[t.gr.ff b u (g.ff b u z)] at n1;cases n1
  ·rw[yO Wu] at e;exact h.fr j hj b o e
 ·rw[yC] at hi hj;have e:(if i=k then B' else Bs i) b=some o:=e;show (if j=k then B' else Bs j) b=none;by_cases XY:i=k
  ·rw[yM XY] at e;rw[yO λz=>ne (XY.trans z.symm)];cases z:Bs j b with
   | none=>rfl
   | some u =>
    have jk:j≠k:=λz=>ne (XY.trans z.symm);have:=(t.nw b o e).2;rw[jv (hh b u (h.sb j hj b u z)) (h.dj j k hj kl jk b u z)] at this;cases this
  ·rw[yO XY] at e;by_cases Wu:j=k
   ·rw[yM Wu];cases z:B' b with
    | none=>rfl
    | some u =>
     have:=(t.nw b u z).2;rw[jv (hh b o (h.sb i hi b o e)) (h.dj i k hi kl XY b o e)] at this;cases this
   ·rw[yO Wu];exact h.dj i j hi hj ne b o e
end
inductive N2 where
 | nx (ρ:aj) (os:Γ Oj)|rt (d:D) (os:Γ Oj)
def TZ(K:Φ)(Wg H₀:Hp)(pa:Γ Ψ)(HF:Hp)(E:Ends):N2->Prop
 | .nx ρ' Ws=>∀σ' H' Wi,gT K Wg H₀ pa Wi H' ρ' Ws σ'->aD HF Wi->E.nx σ' H'
 | .rt d Ws=>∀v H' Wi,gT K Wg H₀ pa Wi H' [] Ws []->Rep K Wi d v->E.rt v H'
abbrev OG:=aj->Γ Oj->Δ N2
def tO(K:Φ)(Wg H₀:Hp)(pa:Γ Ψ)(g:OG):TS:=λE σ H=>∃HF ρ os o,gT K Wg H₀ pa HF H ρ os σ/\g ρ os=some o/\TZ K Wg H₀ pa HF E o
def OS(X:Cx)(Wg H₀:Hp)(pa:Γ Ψ)(st:Ω)(g:OG):Prop:=PS X st (tO X.K Wg H₀ pa g)
def F8(X:Cx)(Wg H₀:Hp)(pa:Γ Ψ)(st:Γ Ω)(g:OG):Prop:=zi X st (tO X.K Wg H₀ pa g)
abbrev OF:=aj->Γ Oj->Δ (D×Γ Oj)
def Rl(K:Φ)(Wg H₀:Hp)(pa:Γ Ψ)(f:OF):TE:=λσ H Q=>∃HF ρ os d Ws,gT K Wg H₀ pa HF H ρ os σ/\f ρ os=some (d,Ws)/\∀v H' Wi,gT K Wg H₀ pa Wi H' ρ Ws σ->aD HF Wi->Rep K Wi d v->Q v H'
def OE(X:Cx)(Wg H₀:Hp)(pa:Γ Ψ)(e:γ)(f:OF):Prop:=PE X e (Rl X.K Wg H₀ pa f)
abbrev uz:=aj->Γ Oj->Δ (θ×Γ Oj)
def T7(K:Φ)(Wg H₀:Hp)(pa:Γ Ψ)(f:uz):TT:=λσ H Q=>∃HF ρ os b Ws,gT K Wg H₀ pa HF H ρ os σ/\f ρ os=some (b,Ws)/\∀H' Wi,gT K Wg H₀ pa Wi H' ρ Ws σ->aD HF Wi->Q b H'
def OT(X:Cx)(Wg H₀:Hp)(pa:Γ Ψ)(e:γ)(f:uz):Prop:=PT X e (T7 X.K Wg H₀ pa f)
def OW(X:Cx)(Wg H₀:Hp)(pa:Γ Ψ)(e:γ)(f:uz):Prop:=PW X e (T7 X.K Wg H₀ pa f)
abbrev zh:=aj->Γ Oj->Δ (Γ D×Γ Oj)
def Vq(K:Φ)(Wg H₀:Hp)(pa:Γ Ψ)(f:zh):TA:=λσ H Q=>∃HF ρ os ds Ws,gT K Wg H₀ pa HF H ρ os σ/\f ρ os=some (ds,Ws)/\∀vs H' Wi,gT K Wg H₀ pa Wi H' ρ Ws σ->aD HF Wi->aq K Wi ds vs->Q vs H'
def OA(X:Cx)(Wg H₀:Hp)(pa:Γ Ψ)(es:Γ γ)(f:zh):Prop:=PA X es (Vq X.K Wg H₀ pa f)
section
variable {X:Cx}{Wg H₀ HF H Wi H':Hp}{pa:Γ Ψ}{ρ ρ':aj}{os Ws:Γ Oj}{σ σ':L2.St}{st:Ω}{rest:Γ Ω}{e a b c:γ}{es:Γ γ}{pos:Pos}{g1 g2:OG}
def TZ.mono{K:Φ}(s:aD HF Wi)(h:TZ K Wg H₀ pa HF E o):TZ K Wg H₀ pa Wi E o:=by
 cases o with
 | nx ρ' Ws=>exactλσ' H' WD S s2=>h σ' H' WD S (s.trans s2)
 | rt d Ws=>exact h
def gT.ends{K:Φ}(h:gT K Wg H₀ pa HF H ρ os σ):gT K Wg H₀ pa HF H [] os [] :=
 let ⟨HB,ad,Bs,o⟩:=h
 ⟨HB,ad,Bs,o.pure ⟨o.S.gr,λi d z=>by simp at z,λi d z=>by simp at z,λi j d e a z=>by simp at z,yN _,o.S.tb,λi d z=>by simp at z,λi j d e z=>by simp at z,λi k z=>by simp at z⟩ (.refl _)⟩
def gT.grow{K:Φ}(h:gT K Wg H₀ pa HF H ρ os σ)(g:bh HF H Wi H'):gT K Wg H₀ pa Wi H' ρ os σ :=
 let ⟨HB,ad,Bs,o⟩:=h
 ⟨HB,ad,Bs,o.pure (o.S.grow g) g.ff⟩
def gT.step{K:Φ}(h:gT K Wg H₀ pa HF H ρ os σ)(g:aD H H'):gT K Wg H₀ pa HF H' ρ os σ :=
 let ⟨HB,ad,Bs,o⟩:=h
 ⟨HB,ad,Bs,o.pure (o.S.step g) (.refl _)⟩
def gT.all{K:Φ}(h:gT K Wg H₀ pa HF H ρ os σ):cw K H (aP ρ) σ:=let ⟨_,_,_,o⟩:=h;o.S.all
def gT.WZ{K:Φ}(h:gT K Wg H₀ pa HF H ρ os σ):cw K HF (bg ρ) σ:=let ⟨_,_,_,o⟩:=h;o.S.WZ
def gT.fh{K:Φ}(h:gT K Wg H₀ pa HF H ρ os σ):aD HF H:=let ⟨_,_,_,o⟩:=h;o.S.gr.fh
def gT.hand{K:Φ}(h:gT K Wg H₀ pa HF H ρ os σ)(fz:Γ Nat):∃Wj,aD HF Wj/\gT K Wg H₀ pa Wj H (hand fz 0 ρ) os σ :=
 let ⟨HB,ad,Bs,o⟩:=h;let ⟨Wj,s1,S1⟩:=o.S.hand fz
 ⟨Wj,s1,HB,ad,Bs,o.pure S1 s1⟩
def gT.XN{K:Φ}(h:gT K Wg H₀ pa HF H ρ os σ)(r:Rep K HF d v):gT K Wg H₀ pa HF H (ρ.set i (.val d)) os (σ.set i (some v)) :=
 let ⟨HB,ad,Bs,o⟩:=h
 ⟨HB,ad,Bs,o.pure (o.S.XN r) (.refl _)⟩
def j1(g:aj->Δ Out):OG:=λρ os=>(g ρ).bind fun|.nx ρ'=>some (.nx ρ' os)|.rt _=>none
def QU{K:Φ}(h:tO K Wg H₀ pa (j1 g) E σ H):∃WW,tS K Wg WW g E σ H:=by
 let⟨HF,ρ,os,o,⟨HB,ad,Bs,ok⟩,hg,q⟩:=h;let⟨o1,h1,hg⟩:=bs hg;refine⟨⟨HB,ad⟩,HF,ρ,o1,ok.S,h1,?_⟩;cases o1 with
 | nx ρ'=>cases hg;exactλσ' H' Wi S' s=>q σ' H' Wi ⟨HB,ad,Bs,ok.pure S' s⟩ s
 | rt d=>cases hg
def Di(h:∀WW,DS X Wg WW st g):OS X Wg H₀ pa st (j1 g):=λpins s σ H E I q=>let ⟨WW,z⟩:=QU q;h WW pins s σ H E I z
def Kg:OG:=λρ os=>some (.nx ρ os)
def dM(g1 g2:OG):OG:=λρ os=>(g1 ρ os).bind fun|.nx ρ' Ws=>g2 ρ' Ws|.rt d Ws=>some (.rt d Ws)
def LP:F8 X Wg H₀ pa [] Kg:=qx wY λE σ H z=>by let⟨HF,ρ,os,o,S,hg,q⟩:=z;cases hg;exact q σ H HF S (.refl _)
def IA(h1:OS X Wg H₀ pa st g1)(h2:F8 X Wg H₀ pa rest g2):F8 X Wg H₀ pa (st::rest) (dM g1 g2):=qx (iy h1 h2) λE σ H z=>by
 sleep 18;let⟨o1,h,hg⟩:=bs hg;refine⟨HF,ρ,os,o1,S,h,?_⟩;cases o1 with
 | nx ρ' Ws=>exactλσ' H' Wi S' s=>⟨Wi,ρ',Ws,o,S',hg,q.mono s⟩
 | rt d Ws=>cases hg;exact q
def LH(h1:OS X Wg H₀ pa st g1):F8 X Wg H₀ pa [st] g1:=wz h1
def dU(fz:Γ Nat)(g:OG):OG:=λρ os=>g (hand fz 0 ρ) os
def Lx(fz:Γ Nat)(h:OS X Wg H₀ pa st g1):OS X Wg H₀ pa st (dU fz g1):=bf h λE σ H z=>by
 sleep 18;sleep 51;exact⟨Wj,_,os,o,S1,hg,q.mono s1⟩
def oD(f:Dl.Env->Δ D):OF:=λρ os=>match f (bg ρ) with
 | some d=>some (d,os)
 | none=>(f (aP ρ)).bind λd=>if lj d=true then some (d,os) else none
def L5(h:DE X e f):OE X Wg H₀ pa e (oD f):=aL h λσ H Q z=>by
 sleep 9;unfold oD at hf;split at hf
 ·rename_i d1 e1;cases hf;exact⟨HF,bg ρ,d,S.fh,S.WZ,e1,λv H' Wi G r=>q v H' Wi (S.grow G) G.ff r⟩
 ·let⟨d1,e1,hf⟩:=bs hf;split at hf
  ·rename_i hs;cases hf;exact⟨H,aP ρ,d,.refl _,S.all,e1,λv H' Wi G r=>q v H' HF (S.step G.hh) (.refl _) (rV hs r)⟩
  ·cases hf
def ud(g:D->D->Δ D)(fa fb:OF):OF:=λρ os=>(fa ρ os).bind λx=>(fb ρ x.2).bind λy=>(g x.1 y.1).map (·,y.2)
def M3(hr:ee X.K r g):∀σ H Q,Rl X.K Wg H₀ pa (ud g fa fb) σ H Q->Rc r (Rl X.K Wg H₀ pa fa) (Rl X.K Wg H₀ pa fb) σ H Q:=λσ H Q z=>by
 sleep 9;let⟨⟨x,o1⟩,hx,hf⟩:=bs hf;let⟨⟨y,o2⟩,hy,hf⟩:=bs hf;let⟨z,hz,e⟩:=ae hf;cases e;exact⟨HF,ρ,os,x,o1,S,hx,λv1 H1 Wj S1 s1 r1=>⟨Wj,ρ,o1,y,_,S1,hy,λv2 H2 WD S2 s2 r2=>hr WD H2 x y v1 v2 _ Q S2.fh (r1.mono s2) r2 hz λv H' Wi g3 r3=>q v H' Wi (S2.grow g3) ((s1.trans s2).trans g3.ff) r3⟩⟩
def Pk(ho:gO X (compareOp op) r)(hr:ee X.K r g)(ha:OE X Wg H₀ pa a fa)(hb:OE X Wg H₀ pa b fb)(hm:behindInMarks op b=false):OE X Wg H₀ pa (.Compare a [op] [b] pos) (ud g fa fb):=aL (Ei ho ha hb hm) (M3 hr)
end
section
variable {X:Cx}{Wg H₀ HF H Wi H':Hp}{pa:Γ Ψ}{ρ ρ':aj}{os Ws:Γ Oj}{σ σ':L2.St}{st:Ω}{rest:Γ Ω}{e a b c:γ}{es:Γ γ}{pos:Pos}{g1 g2:OG}{fa fb:OF}{ta tb:uz}
def FC(fa fb:OF):OF:=λρ os=>(fa ρ os).bind λx=>match x.1 with|.bool true=>fb ρ x.2|.bool false=>some (.bool false,x.2)|_=>none
def Qd(h:OE X Wg H₀ pa a fa):OE X Wg H₀ pa (.BoolOp op [a] pos) fa:=HG h
def PR(ha:OE X Wg H₀ pa a fa)(hb:OE X Wg H₀ pa (.BoolOp .And (b::es) pos) fb):OE X Wg H₀ pa (.BoolOp .And (a::b::es) pos) (FC fa fb):=aL (Gr ha hb) λσ H Q z=>by
 sleep 9;let⟨⟨x,o1⟩,hx,hf⟩:=bs hf;refine⟨HF,ρ,os,x,o1,S,hx,λv1 H1 Wj S1 s1 r1=>?_⟩;cases x<;>try cases hf
 rename_i k;simp?[Rep] at r1;refine⟨k,r1,?_⟩;cases k with
 | true=>exact sV ⟨Wj,ρ,o1,d,Ws,S1,hf,λv H' Wi S' s r=>q v H' Wi S' (s1.trans s) r⟩
 | false=>cases hf;exact qh (q _ H1 Wj S1 s1 (by simp[Rep]))
def oB(f:OF):uz:=λρ os=>(f ρ os).bind λx=>(gB x.1).map (·,x.2)
def Ep:∀σ H (Q:θ->Hp->Prop),T7 X.K Wg H₀ pa (oB f) σ H Q->Rl X.K Wg H₀ pa f σ H λx H1=>∃c,x=.bl c/\Q c H1:=λσ H Q z=>by
 let⟨HF,ρ,os,k,Ws,S,hf,q⟩:=z;let⟨⟨x,o1⟩,hx,hf⟩:=bs hf;refine⟨HF,ρ,os,x,o1,S,hx,λv1 H1 Wj S1 s1 r1=>?_⟩;cases x<;>try cases hf
 simp?[Rep] at r1;exact⟨_,r1,q H1 Wj S1 s1⟩
def QX(h:OE X Wg H₀ pa a f)(he:∀whole,isTrue a X.env whole=(do let v <- whole;standAt a.pos;holding [v] (truthy v)):=by intro _;rfl):OT X Wg H₀ pa a (oB f):=k9 (Jw h he) Ep
def Oz(ho:gO X (compareOp op) r)(hr:ee X.K r g)(ha:OE X Wg H₀ pa a fa)(hb:OE X Wg H₀ pa b fb)(hm:behindInMarks op b=false):OT X Wg H₀ pa (.Compare a [op] [b] pos) (oB (ud g fa fb)) :=
 k9 (xn ho ha hb hm) λσ H Q h=>M3 hr σ H _ (Ep σ H Q h)
def oT(f:Dl.Env->Δ θ):uz:=λρ os=>(f (aP ρ)).map (·,os)
def L6(h:DT X e f):OT X Wg H₀ pa e (oT f):=k9 h λσ H Q z=>by
 let⟨HF,ρ,os,b,Ws,S,hf,q⟩:=z;let⟨b1,e1,z⟩:=ae hf;cases z;exact⟨H,aP ρ,b,.refl _,S.all,e1,λH' Wi G=>q H' HF (S.step G.hh) (.refl _)⟩
def uk(fa fb:uz):uz:=λρ os=>(fa ρ os).bind λx=>match x.1 with|true=>some (true,x.2)|false=>fb ρ x.2
def NN(fa:uz):uz:=λρ os=>(fa ρ os).map λx=>(!x.1,x.2)
def OW.ot(h:OW X Wg H₀ pa a ta):OT X Wg H₀ pa a ta:=PW.pt h
def N4(ha:OT X Wg H₀ pa a ta):OW X Wg H₀ pa (.BoolOp .Or [a] pos) ta:=Io ha
def Sy(ha:OT X Wg H₀ pa a ta)(hb:OW X Wg H₀ pa (.BoolOp .Or (b::es) pos) tb):OW X Wg H₀ pa (.BoolOp .Or (a::b::es) pos) (uk ta tb):=Bp (Nz ha hb) λσ H Q z=>by
 sleep 9;let⟨⟨x,o1⟩,hx,hf⟩:=bs hf;refine⟨HF,ρ,os,x,o1,S,hx,λH1 Wj S1 s1=>?_⟩;cases x with
 | false=>exact qh ⟨Wj,ρ,o1,d,Ws,S1,hf,λH' Wi S' s=>q H' Wi S' (s1.trans s)⟩
 | true=>cases hf;exact sV (q H1 Wj S1 s1)
def Ow(ha:OT X Wg H₀ pa a ta):OT X Wg H₀ pa (.UnaryOp .Not a pos) (NN ta):=k9 (Hc ha) λσ H Q z=>by
 sleep 9;let⟨⟨k,o1⟩,hx,z⟩:=ae hf;cases z;exact⟨HF,ρ,os,k,o1,S,hx,λH1 Wj S1 s1=>q H1 Wj S1 s1⟩
def di:zh:=λ_ os=>some ([],os)
def bP(f:OF)(g:zh):zh:=λρ os=>(f ρ os).bind λx=>(g ρ x.2).map λy=>(x.1::y.1,y.2)
def QW:OA X Wg H₀ pa [] di:=oY da λσ H Q z=>by let⟨HF,ρ,os,d,Ws,S,hf,q⟩:=z;cases hf;exact q [] H HF S (.refl _) aq.nil
def MR(he:OE X Wg H₀ pa e fa)(hs:OA X Wg H₀ pa es g)(X1:starEach (e::es) X.env=(false,eval e X.env)::starEach es X.env:=by rfl):OA X Wg H₀ pa (e::es) (bP fa g) :=
 oY (bu he hs X1) λσ H Q z=>by
  sleep 9;let⟨⟨x,o1⟩,hx,hf⟩:=bs hf;let⟨⟨xs,o2⟩,hy,z⟩:=ae hf;cases z;exact⟨HF,ρ,os,x,o1,S,hx,λv1 H1 Wj S1 s1 r1=>⟨Wj,ρ,o1,xs,_,S1,hy,λvs H2 WD S2 s2 r2=>q (v1::vs) H2 WD S2 (s1.trans s2) (aq.cons (r1.mono s2) r2)⟩⟩
def JL(t:uz)(g1 g2:OG):OG:=λρ os=>(t ρ os).bind λx=>if x.1=true then g1 ρ x.2 else g2 ρ x.2
def R4(hc:OT X Wg H₀ pa c ta)(ha:F8 X Wg H₀ pa ss g1)(hb:F8 X Wg H₀ pa us g2):OS X Wg H₀ pa (.If c ss us pos) (JL ta g1 g2):=bf (EH hc ha hb) λE σ H z=>by
 sleep 18;let⟨⟨b,o1⟩,h,hg⟩:=bs hg;refine⟨HF,ρ,os,b,o1,S,h,λH' Wi S' s=>?_⟩;cases b with
 | true=>exact sV ⟨Wi,ρ,o1,o,S',hg,q.mono s⟩
 | false=>exact qh ⟨Wi,ρ,o1,o,S',hg,q.mono s⟩
def jr(f:OF):OG:=λρ os=>(f ρ os).map λx=>.rt x.1 x.2
def Od(h:OE X Wg H₀ pa e fa):OS X Wg H₀ pa (.Return (some e) pos) (jr fa):=bf (BI h) λE σ H z=>by
 sleep 18;let⟨⟨d,o1⟩,h,z⟩:=ae hg;cases z;exact⟨HF,ρ,os,d,o1,S,h,λv H' Wi S' s r=>q v H' Wi S'.ends r⟩
def Ff(i:Nat)(f:OF):OG:=λρ os=>(f ρ os).map λx=>.nx (ρ.set i (.val x.1)) x.2
def Q2(i:Nat)(hN:X.N.Nodup)(hi:X.N[i]?=some x)(hx:Loc X.env.scope x)(he:OE X Wg H₀ pa e fa)(hs:swapsWith e (some (.Name x pos')) pos.line X.env=pure false:=by rfl)
  (hf:X.fn x=true\/X.env.scope.names.lookup x=some .local:=by first|exact .inl rfl|exact .inr rfl|assumption):OS X Wg H₀ pa (.Assign [.Name x pos'] e pos) (Ff i fa):=bf (pC hN hi hx he hs hf) λE σ H z=>by
 sleep 18;let⟨⟨d,o1⟩,h,z⟩:=ae hg;cases z;exact⟨HF,ρ,os,d,o1,S,h,λv H' Wi S' s r=>q _ H' Wi (S'.XN r) s⟩
def zr(f:OF):OG:=λρ os=>(f ρ os).map λx=>.nx ρ x.2
def Qx(he:OE X Wg H₀ pa e fa)(hs:swapsWith e none pos.line X.env=pure false:=by rfl):OS X Wg H₀ pa (.Expr e pos) (zr fa):=bf (ji he hs) λE σ H z=>by
 sleep 18;let⟨⟨d,o1⟩,h,z⟩:=ae hg;cases z;exact⟨HF,ρ,os,d,o1,S,h,λv H' Wi S' s r=>q σ H' Wi S' s⟩
end
section
variable {os Ws:Γ Oj}{st:Ω}{rest:Γ Ω}
def gT.tbs{K:Φ}(h:gT K Wg H₀ pa HF H ρ os σ):cD K HF:=let ⟨_,_,_,o⟩:=h;o.S.tb
def mD(n:Nat)(m:Γ D->Δ D)(fs:zh):OF:=λρ os=>(fs ρ os).bind λx=>if x.1.length=n then (m x.1).map (·,x.2) else none
def Mn{fs:zh}(F:Gf X.prog X.w X.K X.mg X.base k x n m)(hr:cO k X.A)(hg:Gl X x)(ha:OA X Wg H₀ pa (e::es) fs)(Xx:(x == ("__debug__":Str))=false:=by decide)
  (he:starEach (e::es) X.env=(false,eval e X.env)::starEach es X.env:=by rfl) (WU:(backTo pos (starEach es X.env)).any (·.1)=false:=by rfl):OE X Wg H₀ pa (.Call (.Name x p) (e::es) [] pos) (mD n m fs):=by
 let⟨f,fd,ps,ok,hm,hk,hb⟩:=F.ex;refine aL (Do (E:=E0) ok hr hg hm hk hb .nil u4 ha Xx he WU) λσ H Q z=>?_;sleep 9;let⟨⟨ds,o1⟩,hx,hf⟩:=bs hf;split at hf
 ·rename_i hl;let⟨d1,hd,z⟩:=ae hf;cases z;exact⟨HF,ρ,os,ds,o1,S,hx,λvs H1 Wj S1 s1 r1=>⟨Wj,ds,d,S1.fh,S1.tbs,by rw[qG];exact r1,hl,hd,λv H' Wi g r=>q v H' Wi (S1.grow g) (s1.trans g.ff) r⟩⟩
 ·cases hf
def mw(tgt:aj->D->Δ aj)(gb:OG):Γ D->OG
 | [],ρ,os=>some (.nx ρ os)
 | d::ds,ρ,os=>(tgt ρ d).bind λρ1=>(gb ρ1 os).bind fun|.nx W9 Yb=>mw tgt gb ds W9 Yb|.rt v Yb=>some (.rt v Yb)
def Ft(fz:Γ Nat)(fi:Dl.Env->Δ (Γ D))(tgt:aj->D->Δ aj)(gb:OG):OG:=λρ os=>(fi (bg (hand fz 0 ρ))).bind λds=>mw tgt gb ds (hand fz 0 ρ) os
def V1(K:Φ)(Wg H₀:Hp)(pa:Γ Ψ)(f:aj->D->Δ aj):TG:=λv σ H Q=>∃HF ρ os d ρ',gT K Wg H₀ pa HF H ρ os σ/\Rep K HF d v/\f ρ d=some ρ'/\∀σ',gT K Wg H₀ pa HF H ρ' os σ'->Q σ' H
def Tf(h:∀WW,Ri X Wg WW tg tgt):PG X tg (V1 X.K Wg H₀ pa tgt):=λpins s σ H v u Q I r ⟨HF,ρ,os,d,ρ',⟨HB,ad,Bs,o⟩,rd,hf,q⟩ =>
 h ⟨HB,ad⟩ pins s σ H v u Q I r ⟨HF,ρ,d,ρ',o.S,rd,hf,λσ' S'=>q σ' ⟨HB,ad,Bs,o.pure S' (.refl _)⟩⟩
def N6(fz:Γ Nat)(hp:PassesOwn (model X.prog X.w) X.A X.env X.xe)(hc:X.calm=true)(hi:DI X tg iter fi)(hg:∀WW,Ri X Wg WW tg tgt)(hb:F8 X Wg H₀ pa body gb)
  (hs:∀x,foldedSetIterable iter X.env x=pure x:=by intro _;rfl):OS X Wg H₀ pa (.For tg iter body [] pos) (Ft fz fi tgt gb):=bf (IH hp hc hi (Tf (H₀:=H₀) (pa:=pa) hg) hb hs) λE σ H z=>by
 sleep 18;let⟨ds,h,hg⟩:=bs hg;sleep 51;refine⟨Wj,_,ds,S1.fh,S1.WZ,h,λJ H2 WD G it=>?_⟩;refine⟨λi m σ' H'=>m+i=ds.length/\∃Wi ρ' Ws,gT X.K Wg H₀ pa Wi H' ρ' Ws σ'/\aD WD Wi/\mw tgt gb (ds.drop i) ρ' Ws=some o,⟨ds.length,rfl,WD,_,os,S1.grow G,.refl _,hg⟩,?_⟩;rintro i m σ' H' ⟨hm,Wi,ρ',Ws,S',s',hf⟩;sleep 35
 ·refine .inr ?_;have hd:ds.drop i=ds[i]::ds.drop (i+1):=vA hi;sleep 48;generalize ds[i]=d at hd he;rw[hd] at hf;unfold mw at hf;let⟨ρ1,h1,hf⟩:=bs hf;let⟨o1,h2,hf⟩:=bs hf;let⟨go,Zu⟩:=it.go i d H' Wi he s' S'.fh;refine⟨go,λXX H3=>∃WL YE os3,gT X.K Wg H₀ pa WL H3 YE os3 XX/\aD WD WL/\mw tgt gb (ds.drop (i+1)) YE os3=some o,λXX H3 z=>by let⟨WL,YE,os3,a1,a2,a3⟩:=z;exact ⟨m - 1,by lia,by lia,WL,YE,os3,a1,a2,a3⟩,λx H3 y=>?_⟩;let⟨WL,G3,rx⟩:=Zu x H3 y;refine⟨WL,ρ',Ws,d,ρ1,S'.grow G3,rx,h1,λXX S2=>⟨WL,ρ1,Ws,o1,S2,h2,?_⟩⟩;cases o1 with
  | nx W9 Yb=>exactλσ4 H4 Xb S4 s4=>⟨Xb,W9,Yb,S4,(s'.trans G3.ff).trans s4,hf⟩
  | rt d Yb=>cases hf;exact q
 ·have Xc:i=ds.length:=by lia
  subst Xc;rw[List.drop_length] at hf;cases hf;exact .inl ⟨it.stop H' Wi s' S'.fh,q σ' H' Wi S' ((s1.trans G.ff).trans s')⟩
end
inductive j4(K:W.Frag)(HF:Hp)(a:Addr):List Slot->List V->Prop
 | nil:j4 K HF a [] []
 | val {d:D}{v:V}{r:Γ Slot}{vs:Γ V}(h:Rep K HF d v) (t:j4 K HF a r vs):j4 K HF a (.val d::r) (v::vs)
 | obj {r:Γ Slot}{vs:Γ V}(t:j4 K HF a r vs):j4 K HF a (.obj 0::r) (.ref a::vs)
def j4.length{K:Φ}(h:j4 K HF a as vs):vs.length=as.length:=by
 induction h with
 | nil=>rfl
 | val _ _ ih=>exact jD (·+1) ih
 | obj _ ih=>exact jD (·+1) ih
def j4.get{K:Φ}(h:j4 K HF a as vs):∀ {i:Nat},as[i]?=some s->∃v,vs[i]?=some v/\((∃d,s=.val d/\Rep K HF d v)\/(s=.obj 0/\v=.ref a)):=by
 induction h with
 | nil=>intro i e;cases e
 | val r _ ih =>
  intro i e;cases i with
  | zero=>cases e;exact⟨_,rfl,.inl ⟨_,rfl,r⟩⟩
  | succ i=>exact ih e
 | obj _ ih =>
  intro i e;cases i with
  | zero=>cases e;exact⟨_,rfl,.inr ⟨rfl,rfl⟩⟩
  | succ i=>exact ih e
def Qj(K:Φ)(C:Ψ)(n:Nat)(m:Γ Slot->Fs->Δ (D×Fs)):Sp:=λvs H Q _=>∃HF B a as st d Wz,aD HF H/\cD K HF/\aD B H/\(∀b o,B b=some o->HF b=none)/\DU K HF B C a st/\j4 K HF a as vs/\as.length=n/\m as st=some (d,Wz) /\
 ∀v H' Wi B',u5 HF H B Wi H' B'->DU K Wi B' C a Wz->Rep K Wi d v->Q v H'
def Ug(C:Ψ)(d:D):Γ Oj->Δ (D×Fs)|o::_=>if o.C=C then some (d,o.st) else none|[]=>none
def gP(g:OG)(C:Ψ)(n:Nat):Γ Slot->Fs->Δ (D×Fs):=λas st=>(g (as++List.replicate (n - as.length) .Wh) [⟨C,st⟩]).bind fun|.rt d os=>Ug C d os|.nx _ os=>Ug C .none os
def Mp{K:Φ}{st:Fs}(sm:aD HF H)(tb:cD K HF)(sb:aD B H)(hn:∀b o,B b=some o->HF b=none)(q:DU K HF B C a st)(rr:j4 K HF a as vs) :
  gT K HF (cut H B) [a] HF H (as++List.replicate (N.length - as.length) .Wh) [⟨C,st⟩] (L2.start N vs):=by
 have look:∀ (i:Nat) (s:Slot),(as++List.replicate (N.length - as.length) .Wh)[i]?=some s->s=.Wh\/∃v,(L2.start N vs)[i]?=some (some v)/\((∃d,s=.val d/\Rep K HF d v)\/(s=.obj 0/\v=.ref a)):=λi s h=>by
  by_cases hi:i < as.length
  ·rw[yT hi] at h;let⟨v,hv,z⟩:=rr.get h;refine .inr ⟨v,?_,z⟩;unfold L2.start;rw[yT (by simpa [rr.length] using hi),zO,hv];rfl
  ·rw[yU (by lia),yY] at h;split at h
   ·cases h;exact .inl rfl
   ·cases h
 have bad:∀ (i:Nat) (s:Slot),(as++List.replicate (N.length - as.length) .Wh)[i]?=some s->(∀d,s≠.val d)->s≠.Wh->s=.obj 0:=λi s h h1 h2=>by
  rcases look i s h with z|⟨v,_,⟨d,z,_⟩|⟨z,_⟩⟩
  ·exact absurd z h2
  ·exact absurd z (h1 d)
  ·exact z
 refine⟨H,λ_=>a,λ_=>B,⟨⟨.refl sm,λi d h=>?_,λi ds h=>?_,λi j ds es b h=>?_,?_,tb,λi ks h=>?_,λi j ks ls h=>?_,λi k h=>?_⟩,λb o e=>(dg e).1,λk o e=>?_,λk hk=>sb,λk hk b o e=>⟨o4 e,hn b o e⟩,λj k hj hk ne=>?_,yN _,λk c e=>?_⟩⟩
 ·rcases look i _ h with z|⟨v,hv,⟨d',z,r⟩|⟨z,_⟩⟩
  ·cases z
  ·cases z;exact⟨v,hv,r⟩
  ·cases z
 ·sleep 37
 ·sleep 37
 ·unfold L2.start;rw[zN,zN,zD,xN,xN,rr.length];exact yN _
 ·sleep 37
 ·sleep 37
 ·rcases look i _ h with z|⟨v,hv,⟨d',z,r⟩|⟨_,z⟩⟩
  ·cases z
  ·cases z
  ·rw[hv,z]
 ·cases k with
  | zero=>simp?[xR] at e;cases e;exact q
  | succ k=>simp at e
 ·simp at hj hk;lia
 ·cases k with
  | zero=>simp?[xR] at e;cases e;rfl
  | succ k=>simp at e
def gT.left{K:Φ}{os:Γ Oj}(h:gT K HF (cut H B) [a] Wi H' [] os [])(e:Ug C d os=some (d',Wz)):d'=d/\∃B',u5 HF H B Wi H' B'/\DU K Wi B' C a Wz:=by
 let⟨HB,ad,Bs,o⟩:=h;cases os with
 | nil=>cases e
 | cons ob os =>
  have e:(if ob.C=C then some (d,ob.st) else none)=some (d',Wz):=e;by_cases hC:ob.C=C
  ·rw[yM hC] at e;cases e;have h0:0 < (ob::os).length:=by simp
   have pa:=o.pa 0 a rfl;have at0:=o.at_ 0 ob rfl;rw[pa,hC] at at0;refine⟨rfl,Bs 0,⟨⟨λb u z=>o.S.gr.hh b u (o.h0 b u z),o.S.gr.ff,o.S.gr.fh,λb u z=>?_⟩,λb u z=>o.S.gr.hh b u (o.sb 0 h0 b u z),λb u z=>⟨o.nf h0 z,(o.fr 0 h0 b u z).1⟩⟩,at0⟩;rcases o.S.gr.nw b u z with y|y
   ·exact .inl y
   ·refine .inr ?_;cases c:cut H B b with
    | none=>rfl
    | some w=>have:=o.h0 b w c;rw[show HB b=none from y] at this;cases this
  ·rw[yO hC] at e;cases e
def Nq{K:Φ}{st:Ω}(F:Dv K x qual st f fd)(S:bE N ps (ao st))
  (body:∀X:Cx,X.prog=P->X.w=w->X.K=K->X.mg=mg->X.base=base->Bk X N (ao st) k->X.env.code=fd.code->X.env.qual=qual++".<locals>."->∀Wg H₀ pa,F8 X Wg H₀ pa (aW st) g):eZ P w K mg base uS (k+1) f fd ps (Qj K C ps.length (gP g C N.length)):=by
 sleep 24;refine CY lk WB S (λvs H Q E z=>by let⟨HF,B,a,as,st,d,Wz,h1,_,_,_,_,h2,h3,_⟩:=z;rw[h2.length,h3]) λA outer s H vs Q E hr z=>?_;let⟨HF,B,a,as,st,d,Wz,sm,tb,sb,hn,oa,rr,hl,hd,q⟩:=z;refine⟨_,(body (xy uS P w K mg base N qual (ao _) f WR A outer s H E).Zt rfl rfl rfl rfl rfl ⟨rfl,S.nd,λy kd hy=>.inl hy,rfl,λ_ _=>rfl,hr,rfl,S.kind⟩ rfl rfl HF (cut H B) [a]).Zt,?_⟩;unfold gP at hd;let⟨o,ho,hd⟩:=bs hd;refine⟨HF,_,_,o,Mp sm tb sb hn oa rr,ho,?_⟩;cases o with
 | rt d' os =>
  exactλv H' Wi I r=>by
   let⟨rfl,B',t,z⟩:=gT.left I hd;exact q v H' Wi B' t z r
 | nx ρ' os =>
  exactλσ' H' Wi I _=>by
   let⟨rfl,B',t,z⟩:=gT.left I.ends hd;exact q .Wh H' Wi B' t z (by simp[Rep])
section
variable {K:Φ}{HF B:Hp}
def uY{f:Str}{st:Fs}{fs:Γ (Str×V)}{as:Γ Ψ}(h:fV K HF B st fs as)(e:st.lookup f=none):fs.lookup f=none:=by
 induction h with
 | nil=>rfl
 | @val g _ _ _ _ _ r h ih =>
  rw[yB] at e ⊢;cases z:f == g with
  | true=>rw[z] at e;cases e
  | false=>rw[z] at e;exact ih e
 | @lst g _ _ _ _ _ _ e1 r h ih =>
  rw[yB] at e ⊢;cases z:f == g with
  | true=>rw[z] at e;cases e
  | false=>rw[z] at e;exact ih e
def si{f:Str}{d:D}{st:Fs}{fs:Γ (Str×V)}{as:Γ Ψ}(h:fV K HF B st fs as)(e:st.lookup f=some (.val d)):∃v,fs.lookup f=some v/\Rep K HF d v:=by
 induction h with
 | nil=>cases e
 | @val g _ _ _ _ _ r h ih =>
  rw[yB] at e ⊢;cases z:f == g with
  | true=>rw[z] at e;cases e;exact⟨_,rfl,r⟩
  | false=>rw[z] at e;exact ih e
 | @lst g _ _ _ _ _ _ e1 r h ih =>
  rw[yB] at e ⊢;cases z:f == g with
  | true=>rw[z] at e;cases e
  | false=>rw[z] at e;exact ih e
def iT{f:Str}{ds:Γ D}{st:Fs}{fs:Γ (Str×V)}{as:Γ Ψ}(h:fV K HF B st fs as)(e:st.lookup f=some (.lst ds)):∃b us,fs.lookup f=some (.ref b)/\b∈as/\B b=some (.lst us)/\aq K HF ds us:=by
 induction h with
 | nil=>cases e
 | @val g _ _ _ _ _ r h ih =>
  rw[yB] at e ⊢;cases z:f == g with
  | true=>rw[z] at e;cases e
  | false=>rw[z] at e;exact ih e
 | @lst g _ _ _ _ _ _ e1 r h ih =>
  rw[yB] at e ⊢;cases z:f == g with
  | true=>rw[z] at e;cases e;exact⟨_,_,rfl,zE,e1,r⟩
  | false =>
   rw[z] at e;let⟨b',us',e1,e2,e3⟩:=ih e;exact⟨b',us',e1,zC _ e2,e3⟩
def dc(f:Str)(x:Fd):Fs->Fs
 | []=>[(f,x)]
 | (g,y)::r=>if g=f then (g,x)::r else (g,y)::dc f x r
def z7{f:Str}{d:D}{v:V}{st:Fs}{fs:Γ (Str×V)}{as:Γ Ψ}(r:Rep K HF d v)(h:fV K HF B st fs as)(n:as.Nodup):∃XB,fV K HF B (dc f (.val d) st) (d9 f v fs) XB/\XB.Nodup/\∀b∈XB,b∈as:=by
 induction h with
 | nil=>exact⟨[],.val r .nil,n,λb hb=>hb⟩
 | @val g _ _ _ _ as r' h ih =>
  unfold dc d9;by_cases z:g=f
  ·rw[yM z,yM z];exact⟨as,.val r h,n,λb hb=>hb⟩
  ·rw[yO z,yO z];let⟨XB,h1,h2,h3⟩:=ih n;exact⟨XB,.val r' h1,h2,h3⟩
 | @lst g _ b _ _ _ as e1 e2 h ih =>
  unfold dc d9;by_cases z:g=f
  ·rw[yM z,yM z];exact⟨as,.val r h,(List.nodup_cons.mp n).2,λb hb=>zC _ hb⟩
  ·rw[yO z,yO z];let⟨XB,h1,h2,h3⟩:=ih (List.nodup_cons.mp n).2;refine⟨b::XB,.lst e1 e2 h1,List.nodup_cons.mpr ⟨λq=>(List.nodup_cons.mp n).1 (h3 b q),h2⟩,λc hc=>?_⟩;rcases List.mem_cons.mp hc with q|q
   ·rw[q];exact zE
   ·exact zC _ (h3 c q)
end
section
variable {X:Cx}{Wg H₀ HF H Wi H':Hp}{pa:Γ Ψ}{ρ ρ':aj}{os Ws:Γ Oj}{σ σ':L2.St}{st:Ω}{rest:Γ Ω}{e a b c:γ}{es:Γ γ}{pos p px apos:Pos}{g1 g2:OG}{fa fb:OF}{ta tb:uz}
def pb{K:Φ}{HF:Hp}{a:Ψ}:∀ {ds:Γ D}{vs:Γ V},aq K HF ds vs->j4 K HF a (ds.map Slot.val) vs
 | [],vs,r=>by rw[r.nil_inv];exact .nil
 | d::ds,vs,r=>by
  let⟨v,us,rfl,r1,r2⟩:=r.cons_inv;exact .val r1 (pb r2)
def obj(i:Nat)(C:Ψ)(ρ:aj)(os:Γ Oj):Δ (Nat×Fs):=match ρ[i]? with
 | some (.obj k)=>match os[k]? with
  | some o=>if o.C=C then some (k,o.st) else none
  | none=>none
 | _=>none
def obj_some{i k:Nat}{C:Ψ}{st:Fs}(h:obj i C ρ os=some (k,st)):ρ[i]?=some (.obj k)/\os[k]?=some ⟨C,st⟩:=by
 unfold obj at h;split at h
 ·rename_i k' e1;split at h
  ·rename_i o e2;split at h
   ·rename_i e3;cases h;refine⟨e1,?_⟩;rw[e2,<- e3]
   ·cases h
  ·cases h
 ·cases h
def nq(i:Nat)(C:Ψ)(f:Str):OF:=λρ os=>(obj i C ρ os).bind λx=>match x.2.lookup f with|some (.val d)=>some (d,os)|_=>none
def Ql{i:Nat}{C:Ψ}{x f:Str}(hN:X.N[i]?=some x)(hv:rP X.env.scope x)(cl:qw X.K C)(nf:bN X.K C f)(hb:attributeBase (.Name x px) f X.env (eval (.Name x px) X.env)=eval (.Name x px) X.env:=by rfl)(hd:(x == ("__debug__":Str))=false:=by decide)(WB:(x == ("__classdict__":Str))=false:=by decide) :
  OE X Wg H₀ pa (.Attribute (.Name x px) f pos) (nq i C f):=aL (mS (bA hN hv hd WB) hb) λσ H Q z=>by
 sleep 9;let⟨⟨k,fs⟩,h1,hf⟩:=bs hf;let⟨e1,e2⟩:=obj_some h1;split at hf
 ·rename_i d' e3;cases hf;let⟨HB,ad,Bs,o⟩:=S;let⟨dx,ls,as,f1,f2,f3,f4⟩:=(o.at_ k _ e2).ex;let⟨v,f5,f6⟩:=si f3 e3;sleep 6;exact⟨_,o.S.ob i k e1,ad k,C,dx,ls,v,rfl,o.S.gr.hh _ _ (o.sb k kl _ _ f1),cl,nf,f5,q v H HF ⟨HB,ad,Bs,o⟩ (.refl _) f6⟩
 ·cases hf
def cA(i:Nat)(C:Ψ)(m:Str)(n:Nat)(mm:Γ Slot->Fs->Δ (D×Fs))(fs:zh):OF:=λρ os=>(obj i C ρ os).bind λx=>if (x.2.lookup m).isNone=true then (fs ρ os).bind λy=>(obj i C ρ y.2).bind λz=>if y.1.length+1=n then (mm (.obj 0::y.1.map Slot.val) z.2).map λw=>(w.1,y.2.set z.1 ⟨C,w.2⟩) else none else none
def Jj{k n i:Nat}{C:Ψ}{m:Str}{mm:Γ Slot->Fs->Δ (D×Fs)}{fs:zh}{E:XK}:∀σ H Q,Rl X.K Wg H₀ pa (cA i C m n mm fs) σ H Q->HH C m (Qj X.K C n mm) [] E (qm i) (Vq X.K Wg H₀ pa fs) σ H Q:=λσ H Q z=>by
 sleep 9;let⟨⟨k,st⟩,h1,hf⟩:=bs hf;split at hf
 ·rename_i hl;let⟨⟨ds,o1⟩,h2,hf⟩:=bs hf;let⟨⟨k2,X2⟩,h3,hf⟩:=bs hf;split at hf
  ·rename_i hn;let⟨⟨d2,ZF⟩,h4,hf⟩:=ae hf;cases hf;let⟨e1,e2⟩:=obj_some h1;let⟨e3,e4⟩:=obj_some h3;rw[e1] at e3;cases e3;have S0:=S;let⟨HB,ad,Bs,o⟩:=S;let⟨dx,ls,as,f1,f2,f3,f4⟩:=(o.at_ k _ e2).ex;sleep 6;refine⟨_,o.S.ob i k e1,ad k,dx,ls,rfl,o.S.gr.hh _ _ (o.sb k kl _ _ f1),uY f3 (by cases z:st.lookup m with|none=>rfl|some _=>rw[z] at hl;cases hl),HF,ρ,os,ds,o1,S0,h2,λvs H1 Wj S1 s1 r1=>?_⟩;let⟨HB1,ad1,Bs1,YJ⟩:=S1;have kl1:k < o1.length:=(List.getElem?_eq_some_iff.mp e4).1;have ea:ad1 k=ad k:=by
    have z1:=YJ.S.ob i k e1;have z2:=o.S.ob i k e1;rw[z2] at z1;injection z1 with z1
    injection z1 with z1
    injection z1 with z1
    exact z1.symm
   rw[qG];refine⟨Wj,Bs1 k,ad k,Slot.obj 0::ds.map Slot.val,X2,d2,ZF,YJ.S.gr.fh,YJ.S.tb,λb u z=>YJ.S.gr.hh b u (YJ.sb k kl1 b u z),λb u z=>YJ.nf kl1 z,ea ▸ YJ.at_ k _ e4,.obj (pb r1),by simpa using hn,h4,λv H' Wi B' t z r=>?_⟩;exact q v H' Wi ⟨_,_,_,YJ.turn e4 t (ea ▸ z)⟩ (s1.trans t.gr.ff) r
  ·cases hf
 ·cases hf
end
structure ML(P:Program)(w:World)(K:W.Frag)(mg:Str->Option Value)(base:Heap)(k:Nat)(C:Addr)(m:Str)(n:Nat)(mm:List Slot->Fs->Option (D×Fs)):Prop where
 ex:∃ (f:Ψ) (fd:η) (ps:Γ Str),eZ P w K mg base uS k f fd ps (Qj K C n mm)/\wb K C m f/\Binds K fd ps []
def ML.mono{K:Φ}{mm:Γ Slot->Fs->Δ (D×Fs)}(F:ML P w K mg base k C m n mm)(h:k<=j):ML P w K mg base j C m n mm:=by
 let⟨f,fd,ps,a,b,c⟩:=F.ex;exact⟨f,fd,ps,a.mono h,b,c⟩
section
variable {os Ws:Γ Oj}{st:Ω}{rest:Γ Ω}
def Mh{mm:Γ Slot->Fs->Δ (D×Fs)}{fs:zh}{pl:Sem θ}(F:ML X.prog X.w X.K X.mg X.base k C m n mm)(hr:cO k X.A)(hN:X.N[i]?=some x)(hv:rP X.env.scope x)(cl:qw X.K C)(ha:OA X Wg H₀ pa (e::es) fs)
  (hd:(x == ("__debug__":Str))=false:=by decide) (WB:(x == ("__classdict__":Str))=false:=by decide)
  (X1:starEach (e::es) X.env=(false,eval e X.env)::starEach es X.env:=by rfl) (WU:(backTo pos (starEach es X.env)).any (·.1)=false:=by rfl)
  (ht:eval (.Call (.Attribute (.Name x px) m apos) (e::es) [] pos) X.env=(do
   let ov <- eval (.Name x px) X.env
   standAt apos.atName
   let (f,first) <- holding [ov] (getMethod ov m pl)
   callWith pos f first (backTo pos (starEach (e::es) X.env)) (backToKw pos (keywordEach [] X.env))):=by rfl) :
  OE X Wg H₀ pa (.Call (.Attribute (.Name x px) m apos) (e::es) [] pos) (cA i C m n mm fs):=by
 let⟨f,fd,ps,ok,hm,hb⟩:=F.ex;exact aL (Dj (E:=E0) (bA hN hv hd WB) cl hm ok hr hb .nil u4 ha X1 WU ht) (Jj (k:=k))
def Hj{mm:Γ Slot->Fs->Δ (D×Fs)}{pl:Sem θ}(F:ML X.prog X.w X.K X.mg X.base k C m n mm)(hr:cO k X.A)(hN:X.N[i]?=some x)(hv:rP X.env.scope x)(cl:qw X.K C)
  (hd:(x == ("__debug__":Str))=false:=by decide) (WB:(x == ("__classdict__":Str))=false:=by decide)
  (ht:eval (.Call (.Attribute (.Name x px) m apos) [] [] pos) X.env=(do
   let ov <- eval (.Name x px) X.env
   standAt apos.atName
   let (f,first) <- holding [ov] (getMethod ov m pl)
   callWith pos f first (backTo pos (starEach [] X.env)) (backToKw pos (keywordEach [] X.env))):=by rfl) :
  OE X Wg H₀ pa (.Call (.Attribute (.Name x px) m apos) [] [] pos) (cA i C m n mm di):=by
 let⟨f,fd,ps,ok,hm,hb⟩:=F.ex;refine aL (GT (E:=E0) (bA hN hv hd WB) cl hm ok hr hb .nil u4 ht) λσ H Q h=>?_;let⟨v,e1,a,dx,fs,e2,e3,e4,HF,ρ,os,ds,Ws,S,hf,q⟩:=Jj (k:=k) (E:=E0) σ H Q h;cases hf;exact⟨v,e1,a,dx,fs,e2,e3,e4,q [] H HF S (.refl _) aq.nil⟩
def l8{HF H B:Hp}{a:Ψ}{o u:HO}(sb:aD B H)(hn:∀b o,B b=some o->HF b=none)(fh:aD HF H)(e:B a=some o):u5 HF H B HF (upd H a u) (upd B a u) where
 gr:=by
  have ne:∀b w,cut H B b=some w->b≠a:=λb w z q=>by rw[q] at z;rw[o4 e] at z;cases z
  refine⟨λb w z=>?_,.refl _,λb w z=>?_,λb w z=>.inl z⟩
  ·rw[ak (ne b w z)];exact (dg z).1
  ·rw[ak λq=>by rw[q,hn a o e] at z;cases z];exact fh b w z
 sb:=λb w z=>by
  by_cases q:b=a
  ·rw[q] at z ⊢;rw[aw] at z ⊢;exact z
  ·rw[ak q] at z ⊢;exact sb b w z
 nw:=λb w z=>by
  by_cases q:b=a
  ·rw[q];exact⟨hn a o e,o4 e⟩
  ·rw[ak q] at z;exact⟨hn b w z,o4 z⟩
def KN(sb:aD B H)(hn:∀b o,B b=some o->HF b=none)(G:bh HF H Wi H')(h1:H l=none)(h2:Wi l=none)(h3:H' l=some (.lst us)):u5 HF H B Wi H' (upd B l (.lst us)) where
 gr:=⟨λb w z=>G.hh b w (dg z).1,G.ff,G.fh,λb w z=>(G.nw b w z).imp id λq=>by
  cases c:cut H B b with
  | none=>rfl
  | some y=>have:=(dg c).1;rw[q] at this;cases this⟩
 sb:=λb w z=>by
  by_cases q:b=l
  ·rw[q] at z ⊢;rw[aw] at z;cases z;exact h3
  ·rw[ak q] at z;exact G.hh b w (sb b w z)
 nw:=λb w z=>by
  by_cases q:b=l
  ·rw[q];refine⟨h2,?_⟩;cases c:cut H B l with
   | none=>rfl
   | some y=>have:=(dg c).1;rw[h1] at this;cases this
  ·rw[ak q] at z;exact⟨G.W0 (hn b w z) (sb b w z),o4 z⟩
def rK(i:Nat)(C:Ψ)(f:Str)(fe:OF):OG:=λρ os=>(fe ρ os).bind λx=>(obj i C ρ x.2).bind λy=>if y.2.length < 1000 then some (.nx ρ (x.2.set y.1 ⟨C,dc f (.val x.1) y.2⟩)) else none
def su{K:Φ}{st:Fs}{fs:Γ (Str×V)}(h:fV K HF B st fs as):fs.length=st.length:=by
 induction h with
 | nil=>rfl
 | val _ _ ih=>exact jD (·+1) ih
 | lst _ _ _ ih=>exact jD (·+1) ih
def PF{K:Φ}{st:Fs}{fs:Γ (Str×V)}(h:fV K HF B st fs as):∀b∈as,∃us,B b=some (.lst us):=by
 induction h with
 | nil=>intro b hb;cases hb
 | val _ _ ih=>exact ih
 | lst e _ _ ih =>
  intro b hb;rcases List.mem_cons.mp hb with q|q
  ·rw[q];exact⟨_,e⟩
  ·exact ih b q
def Mz(he:OE X Wg H₀ pa e fa)(hN:X.N[i]?=some x)(hv:rP X.env.scope x)(cl:qw X.K C)(nf:bN X.K C f)
  (hs:swapsWith e (some (.Attribute (.Name x px) f pos')) pos.line X.env=pure false:=by rfl) (hd:(x == ("__debug__":Str))=false:=by decide) (WB:(x == ("__classdict__":Str))=false:=by decide) :
  OS X Wg H₀ pa (.Assign [.Attribute (.Name x px) f pos'] e pos) (rK i C f fa):=bf (Bz (bA hN hv hd WB) he hs) λE σ H z=>by
 sleep 18;let⟨⟨d,o1⟩,h1,hg⟩:=bs hg;let⟨⟨k,st⟩,h2,hg⟩:=bs hg;split at hg
 ·rename_i hl;cases hg;let⟨e1,e2⟩:=obj_some h2;refine⟨HF,ρ,os,d,o1,S,h1,λv H1 Wj z s1 r1=>?_⟩;let⟨HB,ad,Bs,ok⟩:=z;have kl:k < o1.length:=(List.getElem?_eq_some_iff.mp e2).1;let⟨dx,fs,as,f1,f2,f3,f4⟩:=(ok.at_ k _ e2).ex;refine⟨_,ok.S.ob i k e1,ad k,C,dx,fs,rfl,ok.S.gr.hh _ _ (ok.sb k kl _ _ f1),cl,nf,by rw[su f3];exact hl,?_⟩;let⟨XB,f5,f6,f7⟩:=z7 (f:=f) r1 f3 f4;have t:=l8 (u:=.ins C dx (d9 f v fs)) (λb u z=>ok.S.gr.hh b u (ok.sb k kl b u z)) (λb u z=>ok.nf kl z) ok.S.gr.fh f1;refine q σ _ Wj ⟨_,_,_,ok.turn e2 t ⟨dx,d9 f v fs,XB,aw,?_,f5.imp (.refl _) λb hb us z=>?_,f6⟩⟩ s1
  ·rw[ak λz=>by rw[z,f1] at f2;cases f2];exact f2
  ·rw[ak λz'=>by rw[z',f1] at z;cases z];exact z
 ·cases hg
end
section
variable {K:Φ}
def F5{st:Fs}{fs:Γ (Str×V)}(r:aq K HF ds us)(hl:B l=some (.lst us))(h:fV K HF B st fs as)(n:as.Nodup)(nl:l∉as):∃XB,fV K HF B (dc f (.lst ds) st) (d9 f (.ref l) fs) XB/\XB.Nodup/\∀b∈XB,b=l\/b∈as:=by
 induction h with
 | nil=>exact⟨[l],.lst hl r .nil,by simp,λb hb=>.inl (by simpa using hb)⟩
 | @val g _ _ _ _ as r' h ih =>
  unfold dc d9;by_cases z:g=f
  ·rw[yM z,yM z];exact⟨l::as,.lst hl r h,List.nodup_cons.mpr ⟨nl,n⟩,λb hb=>List.mem_cons.mp hb⟩
  ·rw[yO z,yO z];let⟨XB,h1,h2,h3⟩:=ih n nl;exact⟨XB,.val r' h1,h2,h3⟩
 | @lst g _ b _ _ _ as e1 e2 h ih =>
  have nl':l∉as:=λq=>nl (zC _ q);unfold dc d9;by_cases z:g=f
  ·rw[yM z,yM z];exact⟨l::as,.lst hl r h,List.nodup_cons.mpr ⟨nl',(List.nodup_cons.mp n).2⟩,λc hc=>(List.mem_cons.mp hc).imp id (zC _)⟩
  ·rw[yO z,yO z];let⟨XB,h1,h2,h3⟩:=ih (List.nodup_cons.mp n).2 nl';refine⟨b::XB,.lst e1 e2 h1,List.nodup_cons.mpr ⟨λq=>?_,h2⟩,λc hc=>?_⟩
   ·rcases h3 b q with y|y
    ·exact nl (by rw[<- y];exact zE)
    ·exact (List.nodup_cons.mp n).1 y
   ·rcases List.mem_cons.mp hc with q|q
    ·exact .inr (by rw[q];exact zE)
    ·exact (h3 c q).imp id (zC _)
def r8{st:Fs}{fs:Γ (Str×V)}(r:aq K HF YF us')(h:fV K HF B st fs as)(n:as.Nodup)(e:st.lookup f=some (.lst ds))(e':fs.lookup f=some (.ref b)):fV K HF (upd B b (.lst us')) (dc f (.lst YF) st) fs as:=by
 induction h with
 | nil=>cases e
 | @val g _ _ _ _ _ r' h ih =>
  rw[yB] at e e';cases z:f == g with
  | true=>rw[z] at e;cases e
  | false =>
   rw[z] at e e';unfold dc;rw[yO λq=>by rw[q] at z;simp at z];exact .val r' (ih n e e')
 | @lst g _ c us _ fs as h1 h2 h ih =>
  rw[yB] at e e';unfold dc;cases z:f == g with
  | true =>
   rw[z] at e e';cases e';rw[yM (by simpa using (beq_iff_eq.mp z).symm)];refine .lst aw r (h.imp (.refl _) λq hq ws z'=>?_);rw[ak λy=>(List.nodup_cons.mp n).1 (by rw[<- y];exact hq)];exact z'
  | false =>
   rw[z] at e e';rw[yO λq=>by rw[q] at z;simp at z];let⟨b',ws,g1,g2,g3,_⟩:=iT h e;have eb:fs.lookup f=some (.ref b):=e';rw[eb] at g1;cases g1;refine .lst ?_ h2 (ih (List.nodup_cons.mp n).2 e eb);rw[ak λy=>(List.nodup_cons.mp n).1 (by rw[y];exact g2)];exact h1
end
section
variable {os Ws:Γ Oj}{st:Ω}{rest:Γ Ω}
def u5.up{HF H B Wj H1 B1:Hp}(t:u5 HF H B Wj H1 B1){b:Ψ}{o:HO}(z:cut H B b=some o):cut H1 B1 b=some o:=by
 refine jv (t.gr.hh b o z) ?_;cases y:B1 b with
 | none=>rfl
 | some u=>rw[(t.nw b u y).2] at z;cases z
def u5.down{HF H B Wj H1 B1:Hp}(t:u5 HF H B Wj H1 B1){b:Ψ}(z:cut H1 B1 b=none):cut H B b=none:=by
 cases y:cut H B b with
 | none=>rfl
 | some u=>rw[t.up y] at z;cases z
def u5.trans(t:u5 HF H B Wj H1 B1)(t':u5 Wj H1 B1 WD H2 B2):u5 HF H B WD H2 B2 where
 gr:=⟨λb o z=>t'.gr.hh b o (t.up z),t.gr.ff.trans t'.gr.ff,t'.gr.fh,λb o z=>by
  rcases t'.gr.nw b o z with y|y
  ·exact t.gr.nw b o y
  ·exact .inr (t.down y)⟩
 sb:=t'.sb
 nw:=λb o z=>⟨(t'.nw b o z).1,t.down (t'.nw b o z).2⟩
def so(i:Nat)(C:Ψ)(f:Str)(fl:Dl.Env->Δ (Γ D)):OG:=λρ os=>(fl (bg ρ)).bind λds=>(obj i C ρ os).bind λy=>if y.2.length < 1000 then some (.nx ρ (os.set y.1 ⟨C,dc f (.lst ds) y.2⟩)) else none
def KB(he:DF X e fl)(hN:X.N[i]?=some x)(hv:rP X.env.scope x)(cl:qw X.K C)(nf:bN X.K C f)
  (hs:swapsWith e (some (.Attribute (.Name x px) f pos')) pos.line X.env=pure false:=by rfl) (hd:(x == ("__debug__":Str))=false:=by decide) (WB:(x == ("__classdict__":Str))=false:=by decide) :
  OS X Wg H₀ pa (.Assign [.Attribute (.Name x px) f pos'] e pos) (so i C f fl):=bf (Bz (bA hN hv hd WB) he hs) λE σ H z=>by
 sleep 18;let⟨ds,h1,hg⟩:=bs hg;let⟨⟨k,st⟩,h2,hg⟩:=bs hg;split at hg
 ·rename_i hl;cases hg;let⟨e1,e2⟩:=obj_some h2;refine⟨HF,bg ρ,ds,S.fh,S.WZ,h1,λl us H1 Wj G n1 n2 n3 r1=>?_⟩;let⟨HB,ad,Bs,ok⟩:=S;sleep 6;let⟨dx,fs,as,f1,f2,f3,f4⟩:=(ok.at_ k _ e2).ex;have sb:aD (Bs k) H:=λb u z=>ok.S.gr.hh b u (ok.sb k kl b u z);have nB:Bs k l=none:=by
   cases z:Bs k l with
   | none=>rfl
   | some u=>rw[sb l u z] at n1;cases n1
  have t1:=KN sb (λb u z=>ok.nf kl z) G n1 n2 n3;have ne:∀b u,Bs k b=some u->b≠l:=λb u z y=>by rw[y,nB] at z;cases z
  refine⟨_,ok.S.ob i k e1,ad k,C,dx,fs,rfl,G.hh _ _ (sb _ _ f1),cl,nf,by rw[su f3];exact hl,?_⟩;have lns:l∉as:=λhq=>by
   let⟨ws,z⟩:=PF f3 l hq;rw[nB] at z;cases z
  have f1':upd (Bs k) l (.lst us) (ad k)=some (.ins C dx fs):=by rw[ak (ne _ _ f1)];exact f1
  have f3':fV X.K Wj (upd (Bs k) l (.lst us)) st fs as:=f3.imp G.ff λb hb ws z=>by rw[ak (ne _ _ z)];exact z
  let⟨XB,f5,f6,f7⟩:=F5 (f:=f) (l:=l) r1 aw f3' f4 lns;have t2:=l8 (u:=.ins C dx (d9 f (.ref l) fs)) t1.sb (λb u z=>(t1.nw b u z).1) t1.gr.fh f1';refine q σ _ Wj ⟨_,_,_,ok.turn e2 (t1.trans t2) ⟨dx,d9 f (.ref l) fs,XB,aw,?_,f5.imp (.refl _) λb hb ws z=>?_,f6⟩⟩ G.ff
  ·have nd:dx≠ad k:=λz=>by rw[z,f1] at f2;cases f2
   rw[ak nd,ak (ne _ _ f2)];exact f2
  ·rw[ak λz'=>by rw[z',f1'] at z;cases z];exact z
 ·cases hg
abbrev RF:=aj->Γ Oj->Δ D
abbrev Km:=aj->Γ Oj->Δ (Γ D)
def V9(K:Φ)(Wg H₀:Hp)(pa:Γ Ψ)(f:RF):TE:=λσ H Q=>∃HF ρ os d,gT K Wg H₀ pa HF H ρ os σ/\f ρ os=some d/\∀v H' Wi,bh HF H Wi H'->Rep K Wi d v->Q v H'
def OR(X:Cx)(Wg H₀:Hp)(pa:Γ Ψ)(e:γ)(f:RF):Prop:=PE X e (V9 X.K Wg H₀ pa f)
def UE(K:Φ)(Wg H₀:Hp)(pa:Γ Ψ)(f:Km):TA:=λσ H Q=>∃HF ρ os ds,gT K Wg H₀ pa HF H ρ os σ/\f ρ os=some ds/\∀vs H' Wi,bh HF H Wi H'->aq K Wi ds vs->Q vs H'
def Td(X:Cx)(Wg H₀:Hp)(pa:Γ Ψ)(es:Γ γ)(f:Km):Prop:=PA X es (UE X.K Wg H₀ pa f)
def oR(f:RF):OF:=λρ os=>(f ρ os).map (·,os)
def OR.oe(h:OR X Wg H₀ pa e f):OE X Wg H₀ pa e (oR f):=aL h λσ H Q z=>by
 sleep 9;let⟨d1,e1,z⟩:=ae hf;cases z;exact⟨HF,ρ,os,d,S,e1,λv H' Wi G r=>q v H' Wi (S.grow G) G.ff r⟩
def rD(f:Dl.Env->Δ D):RF:=λρ _=>f (bg ρ)
def La(h:DE X e f):OR X Wg H₀ pa e (rD f):=aL h λσ H Q z=>by let⟨HF,ρ,os,d,S,hf,q⟩:=z;exact ⟨HF,bg ρ,d,S.fh,S.WZ,hf,λv H' Wi G r=>q v H' Wi G r⟩
def Ia(i:Nat)(C:Ψ)(f:Str):RF:=λρ os=>(obj i C ρ os).bind λx=>match x.2.lookup f with|some (.val d)=>some d|_=>none
def Oq(hN:X.N[i]?=some x)(hv:rP X.env.scope x)(cl:qw X.K C)(nf:bN X.K C f)(hb:attributeBase (.Name x px) f X.env (eval (.Name x px) X.env)=eval (.Name x px) X.env:=by rfl)(hd:(x == ("__debug__":Str))=false:=by decide)(WB:(x == ("__classdict__":Str))=false:=by decide) :
  OR X Wg H₀ pa (.Attribute (.Name x px) f pos) (Ia i C f):=aL (mS (bA hN hv hd WB) hb) λσ H Q z=>by
 let⟨HF,ρ,os,d,S,hf,q⟩:=z;let⟨⟨k,fs⟩,h1,hf⟩:=bs hf;let⟨e1,e2⟩:=obj_some h1;split at hf
 ·rename_i d' e3;cases hf;let⟨HB,ad,Bs,o⟩:=S;let⟨dx,ls,as,f1,f2,f3,f4⟩:=(o.at_ k _ e2).ex;let⟨v,f5,f6⟩:=si f3 e3;sleep 6;exact⟨_,o.S.ob i k e1,ad k,C,dx,ls,v,rfl,o.S.gr.hh _ _ (o.sb k kl _ _ f1),cl,nf,f5,q v H HF (.refl o.S.gr.fh) f6⟩
 ·cases hf
def Lg:Km:=λ_ _=>some []
def pW(f:RF)(g:Km):Km:=λρ os=>(f ρ os).bind λx=>(g ρ os).map (x::·)
def Kq:Td X Wg H₀ pa [] Lg:=oY da λσ H Q z=>by let⟨HF,ρ,os,d,S,hf,q⟩:=z;cases hf;exact q [] H HF (.refl S.fh) aq.nil
def Je(he:OR X Wg H₀ pa e f)(hs:Td X Wg H₀ pa es g)(X1:starEach (e::es) X.env=(false,eval e X.env)::starEach es X.env:=by rfl):Td X Wg H₀ pa (e::es) (pW f g) :=
 oY (bu he hs X1) λσ H Q z=>by
  let⟨HF,ρ,os,d,S,hf,q⟩:=z;sleep 8;let⟨xs,hy,z⟩:=ae hf;cases z;exact⟨HF,ρ,os,x,S,hx,λv1 H1 Wj g1 r1=>⟨Wj,ρ,os,xs,S.grow g1,hy,λvs H2 WD g2 r2=>q (v1::vs) H2 WD (g1.trans g2) (aq.cons (r1.mono g2.ff) r2)⟩⟩
end
section
variable {X:Cx}{Wg H₀ HF H Wi H':Hp}{pa:Γ Ψ}{ρ ρ':aj}{os Ws:Γ Oj}{σ σ':L2.St}{st:Ω}{rest:Γ Ω}{e a b c:γ}{es:Γ γ}{pos p px apos Wq Yc:Pos}{g1 g2:OG}{fa fb:OF}{ta tb:uz}
def FY(fs:Km):RF:=λρ os=>(fs ρ os).bind λds=>(small ds).map PyData.tuple
def QP{x1}{fs:Km}(h:Td X Wg H₀ pa es fs):OR X Wg H₀ pa (.Tuple es x1 pos) (FY fs):=aL (w6 h) λσ H Q z=>by
 let⟨HF,ρ,os,d,S,hf,q⟩:=z;let⟨ds,hx,hf⟩:=bs hf;let⟨es',e,z⟩:=ae hf;cases z;let⟨rfl,hz⟩:=dz e;refine⟨HF,ρ,os,_,S,hx,λvs H1 Wj g1 r1=>⟨by rw[r1.length];exact hz,λp hp=>q _ _ (upd Wj p (.tup vs)) (g1.trans (.new g1.fh hp)) ?_⟩⟩;simp?[Rep];exact⟨p,vs,rfl,.inl (.inl aw),r1.mono (cq (g1.fh.free hp))⟩
def oTup(fs:zh):OF:=λρ os=>(fs ρ os).bind λx=>(small x.1).map λds=>(PyData.tuple ds,x.2)
def Ov{x1}{fs:zh}(h:OA X Wg H₀ pa es fs):OE X Wg H₀ pa (.Tuple es x1 pos) (oTup fs):=aL (w6 h) λσ H Q z=>by
 sleep 9;let⟨⟨ds,o1⟩,hx,hf⟩:=bs hf;let⟨es',e,z⟩:=ae hf;cases z;let⟨rfl,hz⟩:=dz e;refine⟨HF,ρ,os,_,o1,S,hx,λvs H1 Wj S1 s1 r1=>⟨by rw[r1.length];exact hz,λp hp=>?_⟩⟩;have G:bh Wj H1 (upd Wj p (.tup vs)) (upd H1 p (.tup vs)):=.new S1.fh hp;refine q _ _ _ (S1.grow G) (s1.trans G.ff) ?_;simp?[Rep];exact⟨p,vs,rfl,.inl (.inl aw),r1.mono G.ff⟩
def Dx{st:Fs}{ad:Nat->Ψ}(ok:oK X.K Wg H₀ pa HF H ρ os σ HB ad Bs)(e1:ρ[i]?=some (Slot.obj k))(e2:os[k]?=some ⟨C,st⟩)(e3:st.lookup f=some (.lst ds))(cl:qw X.K C)(nf:bN X.K C f)
  (q:∀dx fs as b us,Bs k (ad k)=some (.ins C dx fs)->Bs k dx=some (.own (ad k))->fV X.K HF (Bs k) st fs as->as.Nodup->fs.lookup f=some (.ref b)->Bs k b=some (.lst us)->aq X.K HF ds us->Q (.ref b) H):Gy X.K (qm i) f σ H Q:=by
 sleep 6;let⟨dx,fs,as,f1,f2,f3,f4⟩:=(ok.at_ k _ e2).ex;let⟨b,us,g1,g2,g3,g4⟩:=iT f3 e3;exact⟨_,ok.S.ob i k e1,ad k,C,dx,fs,.ref b,rfl,ok.S.gr.hh _ _ (ok.sb k kl _ _ f1),cl,nf,g1,q dx fs as b us f1 f2 f3 f4 g1 g3 g4⟩
def Ag(i:Nat)(C:Ψ)(f:Str)(fe:RF):OG:=λρ os=>(obj i C ρ os).bind λy=>match y.2.lookup f with
 | some (.lst ds)=>(fe ρ os).bind λd=>if ds.length < sizeLine then some (.nx ρ (os.set y.1 ⟨C,dc f (.lst (ds++[d])) y.2⟩)) else none
 | _=>none
def Kv(he:OR X Wg H₀ pa e fe)(hN:X.N[i]?=some x)(hv:rP X.env.scope x)(cl:qw X.K C)(nf:bN X.K C f)
  (hb:attributeBase (.Name x px) f X.env (eval (.Name x px) X.env)=eval (.Name x px) X.env:=by rfl) (hd:(x == ("__debug__":Str))=false:=by decide) (WB:(x == ("__classdict__":Str))=false:=by decide)
  (W4:attributeBase (.Attribute (.Name x px) f Yc) "append" X.env (eval (.Attribute (.Name x px) f Yc) X.env)=eval (.Attribute (.Name x px) f Yc) X.env:=by rfl)
  (W7:((backTo Wq (starEach [e] X.env)).all (λx=>!x.1)&&(backToKw Wq (keywordEach [] X.env)).all (λx=>x.1.isSome)&&decide ([e].length+([]:Γ Keyword).length+(if ([]:Γ Keyword).isEmpty then 0 else 1) < 30))=true:=by rfl)
  (Wt:(apos.endLine == Wq.line)=true:=by rfl) (hs:starEach [e] X.env=(false,eval e X.env)::starEach [] X.env:=by rfl) (hsw:swapsWith (.Call (.Attribute (.Attribute (.Name x px) f Yc) "append" apos) [e] [] Wq) none pos.line X.env=pure false:=by rfl) :
  OS X Wg H₀ pa (.Expr (.Call (.Attribute (.Attribute (.Name x px) f Yc) "append" apos) [e] [] Wq) pos) (Ag i C f fe) :=
 bf (ji (tK qP PySem.F.slot_list_append PySem.F.type_list_append l7 (mS (bA hN hv hd WB) hb) (bu he da hs) W4 W7 Wt hs rfl) hsw) λE σ H z=>by
  sleep 18;let⟨⟨k,st⟩,h1,hg⟩:=bs hg;let⟨e1,e2⟩:=obj_some h1;split at hg
  ·rename_i ds e3;let⟨d,h2,hg⟩:=bs hg;split at hg
   ·rename_i hz;cases hg;have S0:=S;let⟨HB,ad,Bs,ok⟩:=S;sleep 6;unfold D5 Tz;refine Dx ok e1 e2 e3 cl nf λdx fs as b us f1 f2 f3 f4 g1 g3 g4=>?_;have hHb:H b=some (.lst us):=ok.S.gr.hh _ _ (ok.sb k kl _ _ g3);refine⟨.inl ⟨rfl,us,gN.of hHb⟩,HF,ρ,os,d,S0,h2,λv H1 Wj G r=>?_⟩;refine⟨b,us,v,rfl,rfl,G.hh _ _ hHb,by rw[g4.length];exact hz,?_⟩;have YJ:=ok.pure (ok.S.grow G) G.ff;have t:=l8 (u:=.lst (us++[v])) (λb u z=>YJ.S.gr.hh b u (YJ.sb k kl b u z)) (λb u z=>YJ.nf kl z) YJ.S.gr.fh g3;refine q σ _ Wj ⟨_,_,_,YJ.turn e2 t ⟨dx,fs,as,?_,?_,?_,f4⟩⟩ G.ff
    ·rw[ak λz=>by rw[z,g3] at f1;cases f1];exact f1
    ·rw[ak λz=>by rw[z,g3] at f2;cases f2];exact f2
    ·exact r8 ((g4.mono G.ff).append (aq.cons r aq.nil)) (f3.imp G.ff λ_ _ _ z=>z) f4 e3 g1
   ·cases hg
  ·cases hg
def vf(i:Nat)(C:Ψ)(f:Str):RF:=λρ os=>(obj i C ρ os).bind λy=>match y.2.lookup f with
 | some (.lst ds)=>some (.int ds.length)
 | _=>none
def LO(B:rf X "len" (.builtin "len"))(hN:X.N[i]?=some x)(hv:rP X.env.scope x)(cl:qw X.K C)(nf:bN X.K C f)
  (hb:attributeBase (.Name x px) f X.env (eval (.Name x px) X.env)=eval (.Name x px) X.env:=by rfl) (hd:(x == ("__debug__":Str))=false:=by decide) (WB:(x == ("__classdict__":Str))=false:=by decide)
  (he:starEach [.Attribute (.Name x px) f Yc] X.env=(false,eval (.Attribute (.Name x px) f Yc) X.env)::starEach [] X.env:=by rfl) :
  OR X Wg H₀ pa (.Call (.Name "len" p) [.Attribute (.Name x px) f Yc] [] pos) (vf i C f) :=
 aL (lJ nF B.gl B.mg B.bt (bu (mS (bA hN hv hd WB) hb) da he) (by decide) (by decide) he rfl) λσ H Q z=>by
  let⟨HF,ρ,os,d,S,hf,q⟩:=z;let⟨⟨k,st⟩,h1,hf⟩:=bs hf;let⟨e1,e2⟩:=obj_some h1;split at hf
  ·rename_i ds e3;cases hf;let⟨HB,ad,Bs,ok⟩:=S;sleep 6;show Gy X.K (qm i) f σ H _;refine Dx ok e1 e2 e3 cl nf λdx fs as b us f1 f2 f3 f4 g1 g3 g4=>?_;exact⟨b,us,rfl,.inl (gN.of (ok.S.gr.hh _ _ (ok.sb k kl _ _ g3))),q _ H HF (.refl ok.S.gr.fh) (by simp[Rep,g4.length])⟩
  ·cases hf
end
section
variable {K:Φ}{os Ws:Γ Oj}{ad:Nat->Ψ}
def Gz(H B:Hp):Hp:=λb=>match H b with|some o=>some o|none=>B b
def Nb(h:H b=some o):Gz H B b=some o:=by unfold Gz;rw[h]
def Jo(h:H b=none):Gz H B b=B b:=by unfold Gz;rw[h]
def Hz(h:Gz H B b=some o):H b=some o\/(H b=none/\B b=some o):=by
 unfold Gz at h;split at h
 ·rename_i e;cases h;exact .inl e
 ·rename_i e;exact .inr ⟨e,h⟩
def oK.make{Wg H₀ HF H Wi H':Hp}{pa:Γ Ψ}{ρ:aj}{σ:L2.St}{HB:Hp}{Bs:Nat->Hp}(h:oK K Wg H₀ pa HF H ρ os σ HB ad Bs)(t:u5 HF Hn B0 Wi H' B')(hB:∀b o,H b=some o->cut Hn B0 b=some o)(q:DU K Wi B' C x Wz)(nb:∀ (i k:Nat),ρ[i]?=some (Slot.obj k)->k < os.length) :
  oK K Wg H₀ pa Wi H' ρ (os++[⟨C,Wz⟩]) σ (Gz HB B') (λj=>if j=os.length then x else ad j) (λj=>if j=os.length then B' else Bs j):=by
 have g:=h.S.gr;have hh:aD HB H:=g.hh;have fr':∀b o,B' b=some o->H b=none:=λb o e=>by
  cases z:H b with
  | none=>rfl
  | some u=>have:=(t.nw b o e).2;rw[hB b u z] at this;cases this
 have nHB:∀b o,B' b=some o->HB b=none:=λb o e=>by
  cases z:HB b with
  | none=>rfl
  | some u=>have:=fr' b o e;rw[hh b u z] at this;cases this
 have g':bh Wg (Gz HB B') Wi H':=by
  refine⟨λb o e=>?_,g.ff.trans t.gr.ff,t.gr.fh,λb o e=>?_⟩
  ·rcases Hz e with z|⟨_,z⟩
   ·exact t.gr.hh b o (hB b o (hh b o z))
   ·exact t.sb b o z
  ·have nb:B' b=none:=by
    cases z:B' b with
    | none=>rfl
    | some u=>rw[(t.nw b u z).1] at e;cases e
   have fin:HB b=none->Gz HB B' b=none:=λz=>by rw[Jo z];exact nb
   rcases t.gr.nw b o e with z|z
   ·rcases g.nw b o z with y|y
    ·exact .inl y
    ·exact .inr (fin y)
   ·refine .inr (fin ?_);cases y:HB b with
    | none=>rfl
    | some u=>rw[hB b u (hh b u y)] at z;cases z
 have lt:∀ {j:Nat},j < (os++[⟨C,Wz⟩]:Γ Oj).length->j≠os.length->j < os.length:=λ{j} h1 h2=>by
  rw[zN] at h1;simp at h1;lia
 refine⟨AN h.S g' t.gr.ff (λb o e1 e2=>?_) λi k e=>yO (yS (nb i k e)),λb o e=>Nb (h.h0 b o e),λj o e=>?_,λj hj b o e=>?_,λj hj b o e=>?_,λi j hi hj ne b o e=>?_,by rw[zN];exact yD h.pl (jV _ _),λk a e=>?_⟩
 ·have ch:=hB b o e2;refine⟨t.gr.hh b o ch,?_,λe3=>t.gr.W0 e3 ch⟩;show Gz HB B' b=none;rw[Jo e1];cases z:B' b with
  | none=>rfl
  | some u=>have:=(t.nw b u z).2;rw[ch] at this;cases this
 ·show DU K Wi (if j=os.length then B' else Bs j) o.C (if j=os.length then x else ad j) o.st;by_cases hj:j=os.length
  ·rw[yM hj,yM hj];rw[hj,yU (yN _),Nat.sub_self] at e;cases e;exact q
  ·rw[yO hj,yO hj];have jl:j < os.length:=lt (List.getElem?_eq_some_iff.mp e).1 hj;rw[yT jl] at e;exact (h.at_ j o e).mono t.gr.ff
 ·have e:(if j=os.length then B' else Bs j) b=some o:=e;by_cases Wu:j=os.length
  ·rw[yM Wu] at e;rw[Jo (nHB b o e)];exact e
  ·rw[yO Wu] at e;exact Nb (h.sb j (lt hj Wu) b o e)
 ·have e:(if j=os.length then B' else Bs j) b=some o:=e;by_cases Wu:j=os.length
  ·rw[yM Wu] at e;have n1:=nHB b o e;refine⟨?_,?_⟩
   ·cases z:H₀ b with
    | none=>rfl
    | some u=>rw[h.h0 b u z] at n1;cases n1
   ·cases z:Wg b with
    | none=>rfl
    | some u=>have:=(t.nw b o e).1;rw[t.gr.ff b u (g.ff b u z)] at this;cases this
  ·rw[yO Wu] at e;exact h.fr j (lt hj Wu) b o e
 ·have e:(if i=os.length then B' else Bs i) b=some o:=e;show (if j=os.length then B' else Bs j) b=none;by_cases XY:i=os.length
  ·rw[yM XY] at e;have jk:j≠os.length:=λz=>ne (XY.trans z.symm);rw[yO jk];cases z:Bs j b with
   | none=>rfl
   | some u=>have:=h.sb j (lt hj jk) b u z;rw[nHB b o e] at this;cases this
  ·rw[yO XY] at e;by_cases Wu:j=os.length
   ·rw[yM Wu];cases z:B' b with
    | none=>rfl
    | some u=>have:=h.sb i (lt hi XY) b o e;rw[nHB b u z] at this;cases this
   ·rw[yO Wu];exact h.dj i j (lt hi XY) (lt hj Wu) ne b o e
 ·have kl:k < os.length:=zP (List.getElem?_eq_some_iff.mp e).1 h.pl;show (if k=os.length then x else ad k)=a;rw[yO (yS kl)];exact h.pa k a e
def Mq{H₀:Hq}(S:fH K Wg H₀ HF H ρ σ):fH K Wg H₀ HF H (ρ.set i (.obj k)) (σ.set i (some (.ref (H₀.ad k)))):=by
 have ne:∀ {j:Nat}{s:Slot},(ρ.set i (.obj k))[j]?=some s->s≠.obj k->i≠j/\ρ[j]?=some s:=λ{j s} h hn=>by
  rw[xJ] at h;sleep 39
  ·rw[yM Wo] at h;split at h
   ·cases h;exact absurd rfl hn
   ·cases h
  ·rw[yO Wo] at h;exact⟨Wo,h⟩
 refine⟨S.gr,λj e h=>?_,λj ds h=>?_,λj k ds es a h1 h2 h3 h4=>?_,by rw[yC,yC];exact S.len,S.tb,λj ks h=>?_,λj k ks ls h1 h2=>S.one j k ks ls (ne h1 λz=>by cases z).2 (ne h2 λz=>by cases z).2,λj n h=>?_⟩
 ·let⟨Wo,h⟩:=ne h λz=>by cases z
  rw[xJ,yO Wo];exact S.val j e h
 ·let⟨Wo,h⟩:=ne h λz=>by cases z
  rw[xJ,yO Wo];exact S.own j ds h
 ·let⟨n1,h1⟩:=ne h1 λz=>by cases z
  let⟨n2,h2⟩:=ne h2 λz=>by cases z
  rw[xJ,yO n1] at h3;rw[xJ,yO n2] at h4;exact S.inj j k ds es a h1 h2 h3 h4
 ·let⟨Wo,h⟩:=ne h λz=>by cases z
  rw[xJ,yO Wo];exact S.tab j ks h
 ·rw[xJ] at h ⊢;sleep 39
  ·rw[yM Wo] at h ⊢;split at h
   ·rename_i hl;cases h;rw[yM (zP hl S.len)]
   ·cases h
  ·rw[yO Wo] at h ⊢;exact S.ob j n h
end
section
variable {os Ws:Γ Oj}{st:Ω}{rest:Γ Ω}
def below(n:Nat):Slot->θ|.obj k=>decide (k < n)|_=>true
def u0(i:Nat)(C:Ψ)(n:Nat)(mi:Γ Slot->Fs->Δ (D×Fs))(fs:zh):OG:=λρ os=>(fs ρ os).bind λy=>if ρ.all (below y.2.length)=true/\y.1.length+1=n then (mi (.obj 0::y.1.map Slot.val) []).bind λw=>match w.1 with
 | .none=>some (.nx (ρ.set i (.obj y.2.length)) (y.2++[⟨C,w.2⟩]))
 | _=>none else none
def MK{fs:zh}{pos':Pos}(M:Mk X.K C f)(F:eZ X.prog X.w X.K X.mg X.base uS k f fd ps (Qj X.K C n mi))(hr:cO (k+1) X.A)(hg:Gl X cn)(hm:X.mg cn=some (.ref C))(hb:Binds X.K fd ps [])(ha:OA X Wg H₀ pa (e::es) fs)
  (hN:X.N.Nodup) (hi:X.N[i]?=some x) (hx:Loc X.env.scope x)
  (Xx:(cn == ("__debug__":Str))=false:=by decide) (he:starEach (e::es) X.env=(false,eval e X.env)::starEach es X.env:=by rfl) (WU:(backTo Wq (starEach es X.env)).any (·.1)=false:=by rfl)
  (hs:swapsWith (.Call (.Name cn p) (e::es) [] Wq) (some (.Name x pos')) pos.line X.env=pure false:=by rfl)
  (hf:X.fn x=true\/X.env.scope.names.lookup x=some .local:=by first|exact .inl rfl|exact .inr rfl|assumption):OS X Wg H₀ pa (.Assign [.Name x pos'] (.Call (.Name cn p) (e::es) [] Wq) pos) (u0 i C n mi fs) :=
 bf (pC hN hi hx (LD (E:=E0) M F hr hg hm hb .nil u4 ha Xx he WU) hs hf) λE σ H z=>by
  sleep 18;let⟨⟨ds,o1⟩,h1,hg⟩:=bs hg;split at hg
  ·rename_i hc;let⟨⟨d,Wz⟩,h2,hg⟩:=bs hg;split at hg
   ·rename_i hd;cases hg;have hd:d=.none:=hd;subst hd;refine⟨HF,ρ,os,ds,o1,S,h1,λvs H1 Wj z s1 r1 x dx nx ndx nex=>?_⟩;let⟨HB,ad,Bs,ok⟩:=z;rw[qG];let B0:Hp:=upd (upd (λ_=>none) dx (.own x)) x (.ins C dx []);let Hn:Hp:=upd (upd H1 dx (.own x)) x (.ins C dx []);have bx:B0 x=some (.ins C dx []):=aw;have bd:B0 dx=some (.own x):=by show upd _ x _ dx=_;rw[ak nex,aw]
    have old:∀b u,H1 b=some u->b≠x/\b≠dx:=λb u z=>⟨aG z nx,aG z ndx⟩
    have hB:∀b u,H1 b=some u->cut Hn B0 b=some u:=λb u z=>by
     let⟨z1,z2⟩:=old b u z;refine jv ?_ ?_
     ·show upd _ x _ b=_;rw[ak z1,ak z2];exact z
     ·show upd _ x _ b=_;rw[ak z1,ak z2]
    have hn:∀b u,B0 b=some u->Wj b=none/\Hn b=some u:=λb u z=>by
     have z:upd (upd (λ_=>none) dx (.own x)) x (.ins C dx []) b=some u:=z;by_cases y:b=x
     ·rw[y] at z ⊢;rw[aw] at z;cases z;exact⟨ok.S.gr.fh.free nx,aw⟩
     ·rw[ak y] at z;by_cases y':b=dx
      ·rw[y'] at z ⊢;rw[aw] at z;cases z;refine⟨ok.S.gr.fh.free ndx,?_⟩;show upd _ x _ dx=_;rw[ak nex,aw]
      ·rw[ak y'] at z;cases z
    have sm:aD Wj Hn:=λb u z=>by
     let⟨z1,z2⟩:=old b u (ok.S.gr.fh b u z);show upd _ x _ b=_;rw[ak z1,ak z2];exact ok.S.gr.fh b u z
    refine⟨Wj,B0,x,Slot.obj 0::ds.map Slot.val,[],.none,Wz,sm,ok.S.tb,λb u z=>(hn b u z).2,λb u z=>(hn b u z).1,⟨dx,[],[],bx,bd,.nil,.nil⟩,.obj (pb r1),by simpa using hc.2,h2,λv H' Wi B' t z r=>?_⟩;simp?[Rep] at r;refine⟨r,?_⟩;have nb:∀ (i k:Nat),ρ[i]?=some (Slot.obj k)->k < o1.length:=λi k y=>by
     have:=List.all_eq_true.mp hc.1 _ (qC y);exact yR this
    have ok2:=ok.make t hB z nb;refine q _ H' Wi ⟨_,_,_,ok2.pure (σ':=σ.set i (some (.ref x))) ?_ (.refl _)⟩ (s1.trans t.gr.ff);have:=Mq (i:=i) (k:=o1.length) ok2.S;rw[show (Hq.mk (Gz HB B') λj=>if j=o1.length then x else ad j).ad o1.length=x from yM rfl] at this;exact this
   ·cases hg
  ·cases hg
end
def lF(sb:aD B H)(hn:∀b o,B b=some o->HF b=none)(G:bh HF H Wi H'):u5 HF H B Wi H' B where
 gr:=⟨λb w z=>G.hh b w (dg z).1,G.ff,G.fh,λb w z=>(G.nw b w z).imp id λq=>by
  cases c:cut H B b with
  | none=>rfl
  | some y=>have:=(dg c).1;rw[q] at this;cases this⟩
 sb:=sb.trans G.hh
 nw:=λb w z=>⟨G.W0 (hn b w z) (sb b w z),o4 z⟩
def u5.hn(t:u5 HF H B Wi H' B'):∀b o,B' b=some o->Wi b=none:=λb o z=>(t.nw b o z).1
def kf(f g:Str)(x:Fd):∀st:Fs,g≠f->(dc f x st).lookup g=st.lookup g
 | [],h=>by
  show List.lookup g [(f,x)]=none;rw[yB];cases z:g == f with
  | true=>exact absurd (beq_iff_eq.mp z) h
  | false=>rfl
 | (k,y)::r,h=>by
  unfold dc;by_cases q:k=f
  ·rw[yM q,yB,yB];cases z:g == k with
   | true=>exact absurd ((beq_iff_eq.mp z).trans q) h
   | false=>rfl
  ·rw[yO q,yB,yB,kf f g x r h]
def eh:Str:="present"
def Oi(f g:Str)(st:Fs):Δ (D×Fs):=match st.lookup f with
 | some (.lst ds)=>match st.lookup g with
  | some (.lst es)=>match st.lookup eh with
   | some (.val q)=>match ds[ds.length - 1]? with
    | some (.tuple [w,p])=>if es.length < sizeLine/\st.length < 1000 then some (w,dc eh (.val p) (dc g (.lst (es++[.tuple [w,q]])) (dc f (.lst ds.dropLast) st))) else none
    | _=>none
   | _=>none
  | _=>none
 | _=>none
def AI{st:Fs}(h:Oi f g st=some (d,Wz)):∃ds es q p,st.lookup f=some (.lst ds)/\st.lookup g=some (.lst es)/\st.lookup eh=some (.val q)/\ds[ds.length - 1]?=some (.tuple [d,p])/\es.length < sizeLine/\st.length < 1000/\Wz=dc eh (.val p) (dc g (.lst (es++[.tuple [d,q]])) (dc f (.lst ds.dropLast) st)):=by
 unfold Oi at h;split at h
 ·rename_i ds e1;split at h
  ·rename_i es e2;split at h
   ·rename_i q e3;split at h
    ·rename_i w p e4;split at h
     ·rename_i e5;cases h;exact⟨ds,es,q,p,e1,e2,e3,e4,e5.1,e5.2,rfl⟩
     ·cases h
    ·cases h
   ·cases h
  ·cases h
 ·cases h
def KI(K:Φ)(C:Ψ)(f g:Str):Sp:=λvs H Q _=>∃HF B a st dx fs as b1 b2 d Wz,vs=[.ref a,.ref b1,.ref b2]/\aD HF H/\cD K HF/\aD B H/\(∀b o,B b=some o->HF b=none)/\B a=some (.ins C dx fs)/\B dx=some (.own a)/\fV K HF B st fs as/\as.Nodup /\
 fs.lookup f=some (.ref b1)/\fs.lookup g=some (.ref b2)/\Oi f g st=some (d,Wz)/\∀v H' Wi B',u5 HF H B Wi H' B'->DU K Wi B' C a Wz->Rep K Wi d v->Q v H'
section
variable {K:Φ}
def FX(r:aq K HF ds us)(h:ds[ds.length - 1]?=some d):∃v,us[us.length - 1]?=some v/\Rep K HF d v:=by
 let⟨v,hv,rv⟩:=r.getD h;exact⟨v,by rw[r.length];exact hv,rv⟩
def vy:∀ {ds:Γ D}{us:Γ V},aq K HF ds us->aq K HF ds.dropLast us.dropLast
 | [],us,r=>by rw[r.nil_inv];exact aq.nil
 | [d],us,r=>by
  let⟨v,vs,rfl,_,r2⟩:=r.cons_inv;rw[r2.nil_inv];exact aq.nil
 | d::d'::ds,us,r=>by
  let⟨v,vs,rfl,r1,r2⟩:=r.cons_inv;have ih:=vy r2;let⟨v',ZN,rfl,r3,r4⟩:=r2.cons_inv;exact aq.cons r1 ih
def Vu:TS:=λ_ _ _=>False
def QT(K:Φ)(ft:Dl.Env->Δ θ)(f0 f1 f2:Dl.Env->Δ D):TS :=
 Hb (QR (KF K ft) Vu Ax) (Hb (BF (Qn K "list" P0 (qm 1)) (rL 3)) (Hb (D5 (Tz K "list" yg (qm 2) (sj (PB (sj (tD K f0) (sj (Gy K (qm 0) eh) Fh))) Fh)))
  (Hb (Ou K (qm 0) (tD K f1) eh) (Pz (tD K f2)))))
def Oc{t:D}(tb:cD K HF)(r:Rep K HF t y):cw K HF [none,none,none,some t] [a,b,c,some y]:=⟨λi d' h=>by
 match i,h with
 | 3,h=>cases h;exact⟨y,rfl,r⟩,by simp,tb⟩
def UB{t:D}(tb:cD K HF)(r:Rep K HF t y):cw K HF [none,some t,none,none] [a,some y,b,c]:=⟨λi d' h=>by
 match i,h with
 | 1,h=>cases h;exact⟨y,rfl,r⟩
 | n+2,h=>rcases n with _|_|_<;>(cases h),by simp,tb⟩
def MP{st:Fs}{fs:Γ (Str×V)}{f0 f1 f2:Dl.Env->Δ D}
  (hft:∀ds:Γ D,ds≠[]->ft [none,some (.list ds),none,none]=some false) (hf0:∀w p:D,f0 [none,none,none,some (.tuple [w,p])]=some w) (hf1:∀w p:D,f1 [none,none,none,some (.tuple [w,p])]=some p) (hf2:∀w p:D,f2 [none,none,none,some (.tuple [w,p])]=some w)
  (cl:qw K C) (nf:bN K C eh) (ne:g≠f) (nfp:eh≠f) (ngp:eh≠g)
  (sm:aD HF H) (tb:cD K HF) (sb:aD B H) (hn:∀b o,B b=some o->HF b=none) (h1:B a=some (.ins C dx fs)) (h2:B dx=some (.own a)) (h3:fV K HF B st fs as) (h4:as.Nodup) (h5:fs.lookup f=some (.ref b1)) (h6:fs.lookup g=some (.ref b2)) (h7:Oi f g st=some (d,Wz))
  (q:∀v H' Wi B',u5 HF H B Wi H' B'->DU K Wi B' C a Wz->Rep K Wi d v->E.rt v H') :
  QT K ft f0 f1 f2 E [some (.ref a),some (.ref b1),some (.ref b2),none] H:=by
 let⟨ds,es,q0,p,e1,e2,e3,e4,e5,e6,rfl⟩:=AI h7;let⟨b1',Zn,g1,g2',g3,g4⟩:=iT h3 e1;rw[h5] at g1;cases g1;have hds:ds≠[]:=λz=>by rw[z] at e4;simp at e4
 refine⟨H,[none,some (.list ds),none,none],false,.refl _,UB (tb.mono sm) (by simp?[Rep];exact⟨b1,Zn,rfl,gN.of (sb _ _ g3),g4.mono sm⟩),hft ds hds,λH1 HFx G1=>qh ?_⟩;have t1:u5 HF H B HF H1 B:=lF sb hn ⟨G1.hh,.refl _,sm.trans G1.hh,λ_ _ z=>.inl z⟩;let⟨y,hy,ry⟩:=FX g4 e4;have Zy:H1 b1=some (.lst Zn):=t1.sb _ _ g3;refine⟨.ref b1,rfl,.inl ⟨rfl,Zn,gN.of Zy⟩,b1,Zn,y,rfl,rfl,Zy,hy,?_⟩;have t2:=t1.trans (l8 (u:=.lst Zn.dropLast) t1.sb t1.hn t1.gr.fh g3);have k1:upd B b1 (.lst Zn.dropLast) a=some (.ins C dx fs):=by rw[ak λz=>by rw[z,g3] at h1;cases h1];exact h1
 have k2:upd B b1 (.lst Zn.dropLast) dx=some (.own a):=by rw[ak λz=>by rw[z,g3] at h2;cases h2];exact h2
 have k3:=r8 (vy g4) h3 h4 e1 h5;have e2':(dc f (.lst ds.dropLast) st).lookup g=some (.lst es):=by rw[kf f g _ st ne];exact e2
 have e3':(dc f (.lst ds.dropLast) st).lookup eh=some (.val q0):=by rw[kf f eh _ st nfp];exact e3
 let⟨b2',us2,m1,m2,m3,m4⟩:=iT k3 e2';rw[h6] at m1;cases m1;let⟨vq,n1,n2⟩:=si k3 e3';have hb2:=t2.sb _ _ m3;refine⟨.ref b2,rfl,.inl ⟨rfl,us2,gN.of hb2⟩,?_⟩;refine⟨HF,[none,none,none,some (.tuple [d,p])],d,t2.gr.fh,Oc tb ry,hf0 d p,λv0 H3 WL G3 r0=>?_⟩;have t3:=t2.trans (lF t2.sb t2.hn G3);refine⟨.ref a,rfl,a,C,dx,fs,vq,rfl,t3.sb _ _ k1,cl,nf,n1,by show 2<=sizeLine;decide,λpn hpn=>?_⟩;have G4:bh WL H3 (upd WL pn (.tup [v0,vq])) (upd H3 pn (.tup [v0,vq])):=.new G3.fh hpn;have t4:=t3.trans (lF t3.sb t3.hn G4);refine⟨b2,us2,.ref pn,rfl,rfl,t4.sb _ _ m3,by rw[m4.length];exact e5,?_⟩;have t5:=t4.trans (l8 (u:=.lst (us2++[.ref pn])) t4.sb t4.hn t4.gr.fh m3);have rt:Rep K (upd WL pn (.tup [v0,vq])) (.tuple [d,q0]) (.ref pn):=by
  simp?[Rep];exact⟨pn,[v0,vq],rfl,.inl (.inl aw),aq.cons (r0.mono G4.ff) (aq.cons (n2.mono (G3.ff.trans G4.ff)) aq.nil)⟩
 have k1':upd (upd B b1 (.lst Zn.dropLast)) b2 (.lst (us2++[.ref pn])) a=some (.ins C dx fs):=by rw[ak λz=>by rw[z,m3] at k1;cases k1];exact k1
 have k2':upd (upd B b1 (.lst Zn.dropLast)) b2 (.lst (us2++[.ref pn])) dx=some (.own a):=by rw[ak λz=>by rw[z,m3] at k2;cases k2];exact k2
 have k3':=r8 (B:=upd B b1 (.lst Zn.dropLast)) ((m4.mono (G3.ff.trans G4.ff)).append (aq.cons rt aq.nil)) (k3.imp (G3.ff.trans G4.ff) λ_ _ _ z=>z) h4 e2' h6;refine⟨upd WL pn (.tup [v0,vq]),[none,none,none,some (.tuple [d,p])],p,t5.gr.fh,Oc (tb.mono (G3.ff.trans G4.ff)) (ry.mono (G3.ff.trans G4.ff)),hf1 d p,λv1 H6 HF6 G6 r1=>?_⟩;have t6:=t5.trans (lF t5.sb t5.hn G6);have hl:fs.length < 1000:=by rw[su h3];exact e6
 refine⟨.ref a,rfl,a,C,dx,fs,rfl,t6.sb _ _ k1',cl,nf,hl,?_⟩;have t7:=t6.trans (l8 (u:=.ins C dx (d9 eh v1 fs)) t6.sb t6.hn t6.gr.fh k1');let⟨XB,w1,w2,w3⟩:=z7 (f:=eh) r1 (k3'.imp G6.ff λ_ _ _ z=>z) h4;refine⟨HF6,[none,none,none,some (.tuple [d,p])],d,t7.gr.fh,Oc (tb.mono ((G3.ff.trans G4.ff).trans G6.ff)) (ry.mono ((G3.ff.trans G4.ff).trans G6.ff)),hf2 d p,λv2 H8 HF8 G8 r2=>?_⟩;refine q v2 H8 HF8 _ (t7.trans (lF t7.sb t7.hn G8)) ⟨dx,d9 eh v1 fs,XB,aw,?_,w1.imp G8.ff λb hb ws z=>?_,w2⟩ r2
 ·rw[ak λz=>by rw[z,k1'] at k2';cases k2'];exact k2'
 ·rw[ak λz'=>by rw[z',k1'] at z;cases z];exact z
end
def Q4{K:Φ}{st:Ω}{f0 f1 f2:Dl.Env->Δ D}(F:Dv K x qual st fa fd)(S:bE N ps (ao st))(hN:N.length=4)(hp:ps.length=3)
  (hft:∀ds:Γ D,ds≠[]->ft [none,some (.list ds),none,none]=some false) (hf0:∀w p:D,f0 [none,none,none,some (.tuple [w,p])]=some w) (hf1:∀w p:D,f1 [none,none,none,some (.tuple [w,p])]=some p) (hf2:∀w p:D,f2 [none,none,none,some (.tuple [w,p])]=some w)
  (cl:qw K C) (nf:bN K C eh) (ne:g≠f) (nfp:eh≠f) (ngp:eh≠g)
  (body:∀X:Cx,X.prog=P->X.w=w->X.K=K->X.mg=mg->X.base=base->Bk X N (ao st) k->X.env.code=fd.code->X.env.qual=qual++".<locals>."->zi X (aW st) (QT K ft f0 f1 f2)):eZ P w K mg base uS (k+1) fa fd ps (KI K C f g):=by
 sleep 24;refine CY lk WB S (λvs H Q E z=>by let⟨HF,B,a,st,dx,fs,as,b1,b2,d,Wz,h0,_⟩:=z;rw[h0,hp];rfl) λA outer s H vs Q E hr z=>?_;let⟨HF,B,a,st,dx,fs,as,b1,b2,d,Wz,h0,sm,tb,sb,hn,h1,h2,h3,h4,h5,h6,h7,q⟩:=z;refine⟨_,(body (xy uS P w K mg base N qual (ao _) fa WR A outer s H E).Zt rfl rfl rfl rfl rfl ⟨rfl,S.nd,λy kd hy=>.inl hy,rfl,λ_ _=>rfl,hr,rfl,S.kind⟩ rfl rfl).Zt,?_⟩;subst h0;have e:L2.start N [V.ref a,V.ref b1,V.ref b2]=[some (.ref a),some (.ref b1),some (.ref b2),none]:=by
  unfold L2.start;rw[hN];rfl
 rw[e];exact MP hft hf0 hf1 hf2 cl nf ne nfp ngp sm tb sb hn h1 h2 h3 h4 h5 h6 h7 q
section
variable {os Ws:Γ Oj}{st:Ω}{rest:Γ Ω}
def SQ(i:Nat)(C:Ψ)(m f g:Str):OF:=λρ os=>(obj i C ρ os).bind λy=>if (y.2.lookup m).isNone=true then (Oi f g y.2).map λw=>(w.1,os.set y.1 ⟨C,w.2⟩) else none
def RM{pl:Sem θ}(F:eZ X.prog X.w X.K X.mg X.base uS k fa fd ps (KI X.K C f g))(hm:wb X.K C m fa)(hb:Binds X.K fd ps [])(hr:cO k X.A)(hN:X.N[i]?=some x)(hv:rP X.env.scope x)(cl:qw X.K C)(n1:bN X.K C f)(n2:bN X.K C g)
  (Zy:attributeBase (.Name x px1) f X.env (eval (.Name x px1) X.env)=eval (.Name x px1) X.env:=by rfl) (hb2:attributeBase (.Name x ZC) g X.env (eval (.Name x ZC) X.env)=eval (.Name x ZC) X.env:=by rfl)
  (hd:(x == ("__debug__":Str))=false:=by decide) (WB:(x == ("__classdict__":Str))=false:=by decide)
  (X1:starEach [.Attribute (.Name x px1) f fp1,.Attribute (.Name x ZC) g Zl] X.env=(false,eval (.Attribute (.Name x px1) f fp1) X.env)::starEach [.Attribute (.Name x ZC) g Zl] X.env:=by rfl)
  (aeG:starEach [.Attribute (.Name x ZC) g Zl] X.env=(false,eval (.Attribute (.Name x ZC) g Zl) X.env)::starEach [] X.env:=by rfl)
  (WU:(backTo pos (starEach [.Attribute (.Name x ZC) g Zl] X.env)).any (·.1)=false:=by rfl)
  (ht:eval (.Call (.Attribute (.Name x px) m apos) [.Attribute (.Name x px1) f fp1,.Attribute (.Name x ZC) g Zl] [] pos) X.env=(do
   let ov <- eval (.Name x px) X.env
   standAt apos.atName
   let (f',first) <- holding [ov] (getMethod ov m pl)
   callWith pos f' first (backTo pos (starEach [.Attribute (.Name x px1) f fp1,.Attribute (.Name x ZC) g Zl] X.env)) (backToKw pos (keywordEach [] X.env))):=by rfl) :
  OE X Wg H₀ pa (.Call (.Attribute (.Name x px) m apos) [.Attribute (.Name x px1) f fp1,.Attribute (.Name x ZC) g Zl] [] pos) (SQ i C m f g) :=
 aL (Dj (E:=E0) (bA hN hv hd WB) cl hm F hr hb .nil u4 (bu (mS (bA hN hv hd WB) Zy) (bu (mS (bA hN hv hd WB) hb2) da aeG) X1) X1 WU ht) λσ H Q z=>by
  sleep 9;let⟨⟨k',st⟩,h1,hf⟩:=bs hf;let⟨e1,e2⟩:=obj_some h1;split at hf
  ·rename_i hl;let⟨⟨d2,X2⟩,h2,hf⟩:=ae hf;cases hf;let⟨ds,es,q0,p,l1,l2,l3,_⟩:=AI h2;let⟨HB,ad,Bs,ok⟩:=S;have kl:k' < os.length:=(List.getElem?_eq_some_iff.mp e2).1;let⟨dx,fs,as,f1,f2,f3,f4⟩:=(ok.at_ k' _ e2).ex;let⟨b1,Zn,g1,_⟩:=iT f3 l1;let⟨b2,us2,g2,_⟩:=iT f3 l2;have hH:=ok.S.gr.hh _ _ (ok.sb k' kl _ _ f1);refine⟨_,ok.S.ob i k' e1,ad k',dx,fs,rfl,hH,uY f3 (by cases z:st.lookup m with|none=>rfl|some _=>rw[z] at hl;cases hl),?_⟩;refine⟨_,ok.S.ob i k' e1,ad k',C,dx,fs,.ref b1,rfl,hH,cl,n1,g1,?_⟩;refine⟨_,ok.S.ob i k' e1,ad k',C,dx,fs,.ref b2,rfl,hH,cl,n2,g2,?_⟩;refine⟨HF,Bs k',ad k',st,dx,fs,as,b1,b2,d2,X2,rfl,ok.S.gr.fh,ok.S.tb,λb u z=>ok.S.gr.hh b u (ok.sb k' kl b u z),λb u z=>ok.nf kl z,f1,f2,f3,f4,g1,g2,h2,λv H' Wi B' t z r=>?_⟩;exact q v H' Wi ⟨_,_,_,ok.turn e2 t z⟩ t.gr.ff r
  ·cases hf
end
def GM(g:OG)(n:Nat)(args:Γ D):Δ D:=(g (args.map Slot.val++List.replicate (n - args.length) .Wh) []).map fun|.rt d _=>d|.nx _ _=>.none
def R6{K:Φ}{st:Ω}(F:Dv K x qual st f fd)(S:bE N ps (ao st))
  (body:∀X:Cx,X.prog=P->X.w=w->X.K=K->X.mg=mg->X.base=base->Bk X N (ao st) k->X.env.code=fd.code->X.env.qual=qual++".<locals>."->∀Wg H₀ pa,F8 X Wg H₀ pa (aW st) g):eZ P w K mg base uS (k+1) f fd ps (Rn K ps.length (GM g N.length)):=by
 let⟨oc,od,kV,doc,pm,an,WR,ct,Ye,rfl,lk,WB⟩:=F.ex;refine CY lk WB S (λvs H Q E z=>by let⟨HF,ds,d,h1,_,h2,h3,_⟩:=z;rw[h2.length,h3]) λA outer s H vs Q E hr z=>?_;let⟨HF,ds,d,sm,tb,rr,hl,hd,q⟩:=z;refine⟨_,(body (xy uS P w K mg base N qual (ao _) f WR A outer s H E).Zt rfl rfl rfl rfl rfl ⟨rfl,S.nd,λy kd hy=>.inl hy,rfl,λ_ _=>rfl,hr,rfl,S.kind⟩ rfl rfl HF H []).Zt,?_⟩;unfold GM at hd;let⟨o,ho,hd⟩:=ae hd;have go:∀ {Wi H':Hp}{os:Γ Oj},gT K HF H [] Wi H' [] os []->bh HF H Wi H':=λ{Wi H' os} ⟨HB,ad,Bs,ok⟩=>⟨λb u z=>ok.S.gr.hh b u (ok.h0 b u z),ok.S.gr.ff,ok.S.gr.fh,λb u z=>by
  rcases ok.S.gr.nw b u z with y|y
  ·exact .inl y
  ·refine .inr ?_;cases c:H b with
   | none=>rfl
   | some w=>have:=ok.h0 b w c;rw[show HB b=none from y] at this;cases this⟩
 refine⟨HF,_,_,o,⟨H,λ_=>0,λ_ _=>none,⟨Ex.HL sm tb rr,.refl _,λk o e=>by simp at e,λk hk=>by simp at hk,λk hk=>by simp at hk,λj k hj=>by simp at hj,yN _,λk a e=>by simp at e⟩⟩,ho,?_⟩;cases o with
 | rt d' os=>cases hd;exactλv H' Wi I r=>q v H' Wi (go I) r
 | nx ρ' os=>cases hd;exactλσ' H' Wi I _=>q .Wh H' Wi (go I.ends) (by simp[Rep])
def Ub{K:Φ}{st:Ω}(F:Dv K x qual st f fd)(S:bE N ps (ao st))(hb:Binds K fd ps [])(hm:wb K C m f)
  (body:∀X:Cx,X.prog=P->X.w=w->X.K=K->X.mg=mg->X.base=base->Bk X N (ao st) k->X.env.code=fd.code->X.env.qual=qual++".<locals>."->∀Wg H₀ pa,F8 X Wg H₀ pa (aW st) g):ML P w K mg base (k+1) C m ps.length (gP g C N.length):=⟨f,fd,ps,Nq F S body,hm,hb⟩
end Ob
namespace Og
open PySem L2 Dl Rf Ob PySem.Spec PyProof.Rows
abbrev MF:=Γ Dl.Slot->Fs->Δ (D×Fs)
structure Cg where
 cn:Str
 C:Ψ
 fl:Γ Str
 ms:Γ (Str×Nat×MF)
 YK:Δ (Nat×MF)
 mv:Δ Str
 mp:Γ (Str×Str)
structure mP(c:Cg)(X:Cx)(j:Nat):Prop where
 cl:qw X.K c.C
 na:∀f,c.fl.contains f=true->bN X.K c.C f
 ms:∀m n mm,c.ms.lookup m=some (n,mm)->ML X.prog X.w X.K X.mg X.base j c.C m n mm
 YK:∀n mi,c.YK=some (n,mi)->∃f fd ps,Mk X.K c.C f/\eZ X.prog X.w X.K X.mg X.base uS j f fd ps (Qj X.K c.C n mi)/\Binds X.K fd ps []/\X.mg c.cn=some (.ref c.C)
 mv:∀m,c.mv=some m->∀f g,c.mp.contains (f,g)=true->∃fa fd ps,eZ X.prog X.w X.K X.mg X.base uS j fa fd ps (KI X.K c.C f g)/\wb X.K c.C m fa/\Binds X.K fd ps []
def Ra(f:γ->Δ OF):Γ γ->Δ zh
 | []=>some di
 | e::es=>if isStar e=false then (f e).bind λx=>(Ra f es).map λy=>bP x y else none
def Tv(f:γ->Δ OF):Γ γ->Δ OF
 | []=>none
 | [a]=>f a
 | a::b::r=>(f a).bind λx=>(Tv f (b::r)).map λy=>FC x y
def Vh:CmpOp->Δ (D->D->Δ D)
 | .Eq=>some bC
 | .NotEq=>some dZ
 | _=>none
def lK(sc:ζ)(N:Γ Str)(x:Str):Δ Nat:=(N.idxOf? x).bind λi=>if mh N sc i x=true then some i else none
def RY(c:Cg)(sc:ζ)(N:Γ Str)(x m:Str)(args:Γ γ):Δ OF:=(l2 args).bind λu=>(Kd u.1).bind λy=>(Kd u.2).bind λz=>if (y.2.1 == x&&z.2.1 == x&&c.fl.contains y.1.2.1&&c.fl.contains z.1.2.1&&c.mp.contains (y.1.2.1,z.1.2.1))=true then (lK sc N x).map λi=>SQ i c.C m y.1.2.1 z.1.2.1 else none
def Vr(c:Cg)(sc:ζ)(N:Γ Str)(f:γ->Δ OF)(x m:Str)(args:Γ γ)(apos pos:Pos):Δ OF :=
 if (apos.endLine == pos.line&&decide (args.length < 20))=true then (if c.mv=some m then RY c sc N x m args else (c.ms.lookup m).bind λz=>(lK sc N x).bind λi=>(Ra f args).map λfs=>cA i c.C m z.1 z.2 fs) else none
def Vp(G:Sg)(sc:ζ)(f:γ->Δ OF)(x:Str)(args:Γ γ):Δ OF :=
 if (Bm sc x&&!(x == ("__debug__":Str))&&!args.isEmpty)=true then (G.fn.lookup x).bind λz=>(Ra f args).map λfs=>mD z.1 z.2 fs else none
def QK(f0:γ->Δ OF)(a:γ)(ops:Γ CmpOp)(cs:Γ γ):Δ OF:=(l1 ops).bind λop=>(l1 cs).bind λb=>if behindInMarks op b=false then (Vh op).bind λg=>(f0 a).bind λfa=>(f0 b).map λfb=>ud g fa fb else none
def SN(c:Cg)(G:Sg)(sc:ζ)(N:Γ Str)(f0:γ->Δ OF)(e:γ):Δ OF:=match e with
 | .Compare a ops cs _=>QK f0 a ops cs
 | .BoolOp .And es _=>Tv f0 es
 | .Tuple es _ _=>(Ra f0 es).map oTup
 | .Attribute o f _=>(dN o).bind λx=>if c.fl.contains f=true then (lK sc N x.1).map λi=>nq i c.C f else none
 | .Call ..=>(Qc e).elim ((RG e).bind λz=>Vr c sc N f0 z.1.2.1 z.1.1.2.1 z.2.1 z.1.1.2.2 z.2.2) λz=>Vp G sc f0 z.2.1 z.1.2.1
 | _=>none
def R7(c:Cg)(G:Sg)(sc:ζ)(N:Γ Str)(T:Tr):Nat->γ->Δ OF
 | 0,_=>none
 | n+1,e=>(T.e e).elim (SN c G sc N (R7 c G sc N T n) e) λf=>some (oD f)
section
variable {c:Cg}{G:Sg}{X:Cx}{N:Γ Str}{sc:ζ}{k j:Nat}{T:Tr}{pos p:Pos}{Wg H₀:Hp}{pa:Γ Ψ}
def js(C:Bk X N sc k)(h:lK sc N x=some i):X.N[i]?=some x/\rP X.env.scope x/\(x == ("__debug__":Str))=false/\(x == ("__classdict__":Str))=false:=by
 let⟨i',_,h⟩:=bs h;let⟨hv,h⟩:=aA h;cases h;exact C.YU hv
def sZ(hf:∀e g,f e=some g->OE X Wg H₀ pa e g):∀ {es:Γ γ}{fs:zh},Ra f es=some fs->OA X Wg H₀ pa es fs/\(es.all λe=>!isStar e)=true
 | [],fs,h=>by cases h;exact⟨QW,rfl⟩
 | e::es,fs,h=>by
  let⟨hs,h⟩:=aA h;sleep 13;sleep 16;have ih:=sZ hf hy;exact⟨MR (hf _ _ hx) ih.1 (aV hs),by rw[xU,hs,ih.2];rfl⟩
def Hg(hf:∀e g,f e=some g->OE X Wg H₀ pa e g):∀ {es:Γ γ}{g:OF},Tv f es=some g->OE X Wg H₀ pa (.BoolOp .And es pos) g
 | [],g,h=>by cases h
 | [a],g,h=>Qd (hf _ _ h)
 | a::b::r,g,h=>by
  unfold Tv at h;sleep 13;sleep 16;have ih:=Hg hf hy;exact PR (hf _ _ hx) ih
def Py(C:Bk X N sc k)(h:Vh op=some g):∃r,gO X (compareOp op) r/\ee X.K r g:=by
 cases op<;>cases h
 ·exact⟨_,Ci C.u64,lQ⟩
 ·exact⟨_,CH C.u64,lQ⟩
def Os(C:Bk X N sc k)(gk:CA G X j)(Wu:j<=k)(hf:∀e g,f e=some g->OE X Wg H₀ pa e g)(h:Vp G sc f x args=some g):OE X Wg H₀ pa (.Call (.Name x p) args [] pos) g:=by
 let⟨hg,h⟩:=aA h;simp?[zF,yQ] at hg;let⟨⟨n,m⟩,h1,h⟩:=bs h;let⟨fs,h2,rfl⟩:=ae h;let⟨h3,h4⟩:=sZ hf h2;cases args with
 | nil=>cases hg.2
 | cons e es =>
  rw[xU,zF,yQ] at h4;exact Mn (gk.fn x n m h1) (C.room.mono Wu) (C.gl hg.1.1) h3 hg.1.2 (aV h4.1) (cH h4.2)
end
def NK(hs:(args.all λe=>!isStar e)=true)(hl:args.length < 20)(Wt:(apos.endLine == pos.line)=true):∃pl:Sem θ,eval (.Call (.Attribute (.Name x px) m apos) args [] pos) env=(do
   let ov <- eval (.Name x px) env
   standAt apos.atName
   let (f,first) <- holding [ov] (getMethod ov m pl)
   callWith pos f first (backTo pos (starEach args env)) (backToKw pos (keywordEach [] env))):=by
 have acv:methodCallForm (args.length+([]:Γ Keyword).length) (backTo pos (starEach args env)) (backToKw pos (keywordEach [] env))=true:=yc hs hl;have XR:methodCallPos true (.Name x px) env apos pos=pure pos:=by unfold methodCallPos;simp[Wt]
 refine⟨(do return (<- importBound (.Name x px) env).getD true),?_⟩;rw[arm_eval_Call];unfold methodCall;rw[acv,XR];rfl
def Mb(Wt:(apos.endLine == pos.line)=true)(C:Bk X N sc k)(ck:mP c X j)(Wu:j<=k)(hm:c.mv=some m)(h:RY c sc N x m args=some g):OE X Wg H₀ pa (.Call (.Attribute (.Name x px) m apos) args [] pos) g:=by
 let⟨u,hu,h⟩:=bs h;let⟨y,hy,h⟩:=bs h;sleep 15;sleep 19;simp?[zF] at hc;obtain⟨⟨⟨⟨h4,h5⟩,h1⟩,h2⟩,h3⟩:=hc;let⟨i,hi,rfl⟩:=ae h;sleep 45;let⟨fa,fd,ps,F,M,B⟩:=ck.mv m hm _ _ h3;rw[qb hu,jo hy,jo hz,eq_of_beq h4,eq_of_beq h5];let⟨pl,ht⟩:=NK (x:=x) (m:=m) (px:=px) (apos:=apos) (pos:=pos) (env:=X.env) (args:=[.Attribute (.Name x y.2.2) y.1.2.1 y.1.2.2,.Attribute (.Name x z.2.2) z.1.2.1 z.1.2.2]) rfl (by simp) Wt;exact RM (pl:=pl) F M B (C.room.mono Wu) v1 v2 ck.cl (ck.na _ h1) (ck.na _ h2) rfl rfl v3 v4 rfl rfl rfl ht
def OY(C:Bk X N sc k)(ck:mP c X j)(Wu:j<=k)(hf:∀e g,f e=some g->OE X Wg H₀ pa e g)(h:Vr c sc N f x m args apos pos=some g):OE X Wg H₀ pa (.Call (.Attribute (.Name x px) m apos) args [] pos) g:=by
 sleep 19;rw[zF] at hc;have hlen:args.length < 20:=yR hc.2;rcases cQ h with ⟨hm,h⟩|⟨_,h⟩
 ·exact Mb hc.1 C ck Wu hm h
 ·let⟨⟨n,mm⟩,h1,h⟩:=bs h;sleep 44;let⟨fs,h2,rfl⟩:=ae h;sleep 45;let⟨h3,h4⟩:=sZ hf h2;let⟨pl,ht⟩:=NK (x:=x) (m:=m) (px:=px) (env:=X.env) h4 hlen hc.1;cases args with
  | nil =>
   cases h2;exact Hj (ck.ms m n mm h1) (C.room.mono Wu) v1 v2 ck.cl v3 v4 (pl:=pl) ht
  | cons e es =>
   rw[xU,zF,yQ] at h4;exact Mh (ck.ms m n mm h1) (C.room.mono Wu) v1 v2 ck.cl h3 v3 v4 (aV h4.1) (cH h4.2) (pl:=pl) ht
def Ee(C:Bk X N sc k)(ih:∀e g,f0 e=some g->OE X Wg H₀ pa e g)(h:QK f0 a ops cs=some g):OE X Wg H₀ pa (.Compare a ops cs q) g/\OT X Wg H₀ pa (.Compare a ops cs q) (oB g):=by
 let⟨op,ho,h⟩:=bs h;let⟨b,hb,h⟩:=bs h;let⟨hm,h⟩:=aA h;let⟨g',h1,h⟩:=bs h;let⟨fa,h2,h⟩:=bs h;let⟨fb,h3,rfl⟩:=ae h;let⟨r,o1,o2⟩:=Py C h1;rw[bY ho,bY hb];exact⟨Pk o1 o2 (ih _ _ h2) (ih _ _ h3) hm,Oz o1 o2 (ih _ _ h2) (ih _ _ h3) hm⟩
def Md(C:Bk X N sc k)(gk:CA G X j)(ck:mP c X j)(Wu:j<=k)(ih:∀e g,f0 e=some g->OE X Wg H₀ pa e g)(h:SN c G sc N f0 e=some g):OE X Wg H₀ pa e g:=by
 cases e with
 | Compare a ops cs q=>exact (Ee C ih h).1
 | BoolOp op es q =>
  cases op with
  | And=>exact Hg ih h
  | Or=>cases h
 | Tuple es a q =>
  let⟨fs,h1,rfl⟩:=ae h;exact Ov (sZ ih h1).1
 | Attribute o f q =>
  sleep 13;sleep 19;let⟨i,hi,rfl⟩:=ae h;sleep 45;rw[dP hx];exact Ql v1 v2 ck.cl (ck.na _ hc) rfl v3 v4
 | Call f args ks q =>
  sleep 2
  ·sleep 15;rw[yn hz];exact OY C ck Wu ih h
  ·rw[ll hz];exact Os C gk Wu ih h
 | _=>cases h
def xk(C:Bk X N sc k)(gk:CA G X j)(ck:mP c X j)(Wu:j<=k)(O:bJ X T):∀ (n:Nat) {e:γ}{g:OF},R7 c G sc N T n e=some g->OE X Wg H₀ pa e g
 | 0,e,g,h=>by cases h
 | n+1,e,g,h=>by
  rcases cf h with ⟨_,h⟩|⟨f,hf,h⟩
  ·exact Md C gk ck Wu (λe g z=>xk C gk ck Wu O n z) h
  ·cases h;exact L5 (O.e _ _ hf)
def PD(f:γ->Δ RF):Γ γ->Δ Km
 | []=>some Lg
 | e::es=>if isStar e=false then (f e).bind λx=>(PD f es).map λy=>pW x y else none
def Sq(c:Cg)(sc:ζ)(N:Γ Str)(f0:γ->Δ RF)(e:γ):Δ RF:=(dT e).elim
 ((Qc e).elim ((Kd e).bind λz=>if c.fl.contains z.1.2.1=true then (lK sc N z.2.1).map λi=>Ia i c.C z.1.2.1 else none) λy =>
  (l1 y.1.2.1).bind λa=>(Kd a).bind λz=>if (y.2.1 == ("len":Str)&&Bm sc y.2.1&&c.fl.contains z.1.2.1)=true then (lK sc N z.2.1).map λi=>vf i c.C z.1.2.1 else none)
 λz=>(PD f0 z.1).map FY
def TF(c:Cg)(sc:ζ)(N:Γ Str)(T:Tr):Nat->γ->Δ RF
 | 0,_=>none
 | n+1,e=>(T.e e).elim (Sq c sc N (TF c sc N T n) e) λf=>some (rD f)
def Sz(c:Cg)(G:Sg)(sc:ζ)(N:Γ Str)(T:Tr)(e:γ):Δ OF:=(R7 c G sc N T 20 e).elim ((TF c sc N T 20 e).map oR) some
def TL(f:γ->Δ uz):Γ γ->Δ uz
 | []=>none
 | [a]=>f a
 | a::b::r=>(f a).bind λx=>(TL f (b::r)).map λy=>uk x y
def RJ(f0:γ->Δ OF)(f1:γ->Δ uz)(e:γ):Δ uz:=match e with
 | .Compare a ops cs _=>(QK f0 a ops cs).map oB
 | .BoolOp .Or es _=>TL f1 es
 | .UnaryOp .Not a _=>(f1 a).map NN
 | .Call ..=>(f0 e).map oB
 | _=>none
def UZ(c:Cg)(G:Sg)(sc:ζ)(N:Γ Str)(T:Tr):Nat->γ->Δ uz
 | 0,_=>none
 | n+1,e=>(T.t e).elim (RJ (R7 c G sc N T 20) (UZ c G sc N T n) e) λf=>some (oT f)
section
variable {c:Cg}{G:Sg}{X:Cx}{N:Γ Str}{sc:ζ}{k j:Nat}{T:Tr}{pos p px apos:Pos}{Wg H₀:Hp}{pa:Γ Ψ}
def Ey(hf:∀e g,f e=some g->OR X Wg H₀ pa e g):∀ {es:Γ γ}{fs:Km},PD f es=some fs->Td X Wg H₀ pa es fs
 | [],fs,h=>by cases h;exact Kq
 | e::es,fs,h=>by
  let⟨hs,h⟩:=aA h;sleep 13;sleep 16;exact Je (hf _ _ hx) (Ey hf hy) (aV hs)
def Kl{f0:γ->Δ RF}(C:Bk X N sc k)(B:Bn X)(ck:mP c X j)(ih:∀e g,f0 e=some g->OR X Wg H₀ pa e g)(h:Sq c sc N f0 e=some g):OR X Wg H₀ pa e g:=by
 sleep 2
 ·rcases cf h with ⟨_,h⟩|⟨y,hy,h⟩
  ·sleep 15;sleep 19;let⟨i,hi,rfl⟩:=ae h;sleep 45;rw[jo hz];exact Oq v1 v2 ck.cl (ck.na _ hc) rfl v3 v4
  ·let⟨a,ha,h⟩:=bs h;sleep 15;sleep 19;simp?[zF] at hc;let⟨⟨hl,hg⟩,hc⟩:=hc;rw[eq_of_beq hl] at hg;let⟨i,hi,rfl⟩:=ae h;sleep 45;rw[ll hy,bY ha,jo hz,eq_of_beq hl];exact LO ⟨C.gl hg,B _ (by decide),PySem.boot_len⟩ v1 v2 ck.cl (ck.na _ hc) rfl v3 v4
 ·let⟨fs,h1,rfl⟩:=ae h;rw[Eh hz];exact QP (Ey ih h1)
def Cu(C:Bk X N sc k)(B:Bn X)(ck:mP c X j)(O:bJ X T):∀ (n:Nat) {e:γ}{g:RF},TF c sc N T n e=some g->OR X Wg H₀ pa e g
 | 0,e,g,h=>by cases h
 | n+1,e,g,h=>by
  rcases cf h with ⟨_,h⟩|⟨f,hf,h⟩
  ·exact Kl C B ck (λe g z=>Cu C B ck O n z) h
  ·cases h;exact La (O.e _ _ hf)
def xx(C:Bk X N sc k)(gk:CA G X j)(ck:mP c X j)(Wu:j<=k)(O:bJ X T)(h:Sz c G sc N T e=some g):OE X Wg H₀ pa e g:=by
 rcases cf h with ⟨_,h⟩|⟨f,hf,h⟩
 ·sleep 22;exact (Cu C gk.bn ck O 20 hf).oe
 ·cases h;exact xk C gk ck Wu O 20 hf
def Ig(hf:∀e g,f e=some g->OT X Wg H₀ pa e g):∀ {es:Γ γ}{g:uz},TL f es=some g->OW X Wg H₀ pa (.BoolOp .Or es pos) g
 | [],g,h=>by cases h
 | [a],g,h=>N4 (hf _ _ h)
 | a::b::r,g,h=>by
  unfold TL at h;sleep 13;sleep 16;have ih:=Ig hf hy;exact Sy (hf _ _ hx) ih
def Kp{f0:γ->Δ OF}{f1:γ->Δ uz}(C:Bk X N sc k)(ih:∀e g,f0 e=some g->OE X Wg H₀ pa e g)(it:∀e g,f1 e=some g->OT X Wg H₀ pa e g)(h:RJ f0 f1 e=some g):OT X Wg H₀ pa e g:=by
 cases e with
 | Compare a ops cs q=>let⟨f,h1,rfl⟩:=ae h;exact (Ee C ih h1).2
 | BoolOp op es q =>
  cases op with
  | And=>cases h
  | Or=>exact (Ig it h).ot
 | UnaryOp op a q =>
  cases op with
  | Not=>let⟨t,h1,rfl⟩:=ae h;exact Ow (it _ _ h1)
  | _=>cases h
 | Call a b d q=>let⟨f,h1,rfl⟩:=ae h;exact QX (ih _ _ h1)
 | _=>cases h
def Jy(C:Bk X N sc k)(gk:CA G X j)(ck:mP c X j)(Wu:j<=k)(O:bJ X T):∀ (n:Nat) {e:γ}{g:uz},UZ c G sc N T n e=some g->OT X Wg H₀ pa e g
 | 0,e,g,h=>by cases h
 | n+1,e,g,h=>by
  rcases cf h with ⟨_,h⟩|⟨f,hf,h⟩
  ·exact Kp C (λe g z=>xk C gk ck Wu O 20 z) (λe g z=>Jy C gk ck Wu O n z) h
  ·cases h;exact L6 (O.t _ _ hf)
end
def Vj:OG:=λ_ _=>none
def BB(f:Ω->Δ OG):Γ Ω->Δ OG
 | []=>some Kg
 | [s]=>f s
 | s::t::r=>(f s).bind λx=>(BB f (t::r)).map λy=>dM x y
def Ua(c:Cg)(e:γ):Δ (Γ γ×Pos×Pos):=(Qc e).bind λz=>if (z.2.1 == c.cn)=true then some (z.1.2.1,z.2.2,z.1.2.2.2) else none
def S8(c:Cg)(G:Sg)(sc:ζ)(N:Γ Str)(T:Tr)(x:Str)(args:Γ γ):Δ OG:=(N.idxOf? x).bind λi=>if (rA N sc i x&&Bm sc c.cn&&!(c.cn == ("__debug__":Str))&&!args.isEmpty)=true then c.YK.bind λz=>(Ra (R7 c G sc N T 20) args).map λfs=>u0 i c.C z.1 z.2 fs else none
def So(c:Cg)(G:Sg)(sc:ζ)(N:Γ Str)(T:Tr)(x:Str)(e:γ):Δ OG:=(N.idxOf? x).bind λi=>if (rA N sc i x&&!lr e)=true then (Sz c G sc N T e).map λf=>Ff i f else none
def Rp(e:γ):θ:=if h:e.ctorIdx=24 then Expr.List.elim e h λl _=>l.isEmpty else false
def M4(c:Cg)(G:Sg)(sc:ζ)(N:Γ Str)(T:Tr)(x f:Str)(e:γ):Δ OG:=if (c.fl.contains f&&!lr e)=true then (lK sc N x).bind λi=>if Rp e=true then (T.f e).map λfl=>so i c.C f fl else (Sz c G sc N T e).map λfe=>rK i c.C f fe else none
def Ry(c:Cg)(sc:ζ)(N:Γ Str)(T:Tr)(x f:Str)(e:γ)(apos pos:Pos):Δ OG:=if (c.fl.contains f&&!isStar e&&apos.endLine == pos.line)=true then (lK sc N x).bind λi=>(TF c sc N T 20 e).map λfe=>Ag i c.C f fe else none
def Si(e:γ):Δ ((((γ×Str×Pos)×Str×Pos)×Str×Pos)×γ×Pos):=(dC e).bind λy=>(dA y.1).bind λu=>(Kd u.1).bind λz=>(l1 y.2.1).bind λa=>if (y.2.2.1.isEmpty&&u.2.1 == ("append":Str))=true then some ((z,u.2),a,y.2.2.2) else none
def NM(c:Cg)(G:Sg)(sc:ζ)(N:Γ Str)(T:Tr)(x:Str)(px:Pos)(e:γ)(p:Pos):Δ OG:=(Ua c e).elim ((Ke sc N T 40 (.Assign [.Name x px] e p)).elim (So c G sc N T x e) λg=>some (j1 g)) λz=>S8 c G sc N T x z.1
def Ss(c:Cg)(G:Sg)(sc:ζ)(N:Γ Str)(T:Tr)(e:γ)(p:Pos):Δ OG:=(Si e).elim ((Ke sc N T 40 (.Expr e p)).elim (if lr e=false then (Sz c G sc N T e).map zr else none) λg=>some (j1 g)) λz=>Ry c sc N T z.1.1.2.1 z.1.1.1.2.1 z.2.1 z.1.2.2 z.2.2
def Uk(c:Cg)(G:Sg)(sc:ζ)(N:Γ Str)(T:Tr)(t e:γ)(p:Pos):Δ OG:=(dN t).elim ((Kd t).bind λz=>M4 c G sc N T z.2.1 z.1.2.1 e) λz=>NM c G sc N T z.1 z.2 e p
def Rb(c:Cg)(G:Sg)(sc:ζ)(N:Γ Str)(T:Tr):Nat->Ω->Δ OG
 | 0,_=>none
 | n+1,st=>match st with
  | .Return (some e) _=>(Sz c G sc N T e).map λf=>dU (List.range N.length) (jr f)
  | .If t a b _=>(UZ c G sc N T 20 t).bind λf=>(BB (Rb c G sc N T n) a).bind λx=>(BB (Rb c G sc N T n) b).map λy=>JL f x y
  | .Assign ts e p=>(l1 ts).bind λt=>Uk c G sc N T t e p
  | .For tg iter body es _=>if es.isEmpty=true then (TC sc T tg iter).bind λfi=>(UJ sc N tg).bind λt=>(BB (Rb c G sc N T n) body).map λg=>Ft (Ac N iter) fi t g else none
  | .Expr e p=>Ss c G sc N T e p
  | .Raise ..=>some Vj
  | _=>none
def S9{st:Ω}:OS X Wg H₀ pa st Vj:=λpins s σ H E I z=>by let⟨HF,ρ,os,o,S,hg,q⟩:=z;cases hg
def oC(H:∀s g,f s=some g->OS X Wg H₀ pa s g):∀ {l:Γ Ω}{g:OG},BB f l=some g->F8 X Wg H₀ pa l g
 | [],g,h=>by cases h;exact LP
 | [s],g,h=>LH (H _ _ h)
 | s::t::r,g,h=>by
  unfold BB at h;sleep 13;sleep 16;exact IA (H _ _ hx) (oC H hy)
def KE(C:Bk X N sc k)(gk:CA G X j)(ck:mP c X j)(Wu:j < k)(O:bJ X T)(h:S8 c G sc N T x args=some g):OS X Wg H₀ pa (.Assign [.Name x px] (.Call (.Name c.cn p') args [] cp) p) g:=by
 let⟨i,_,h⟩:=bs h;sleep 19;simp?[zF,yQ] at hc;let⟨⟨⟨h1,h2⟩,h3⟩,h4⟩:=hc;let⟨⟨n,mi⟩,h5,h⟩:=bs h;let⟨fs,h6,rfl⟩:=ae h;let⟨h7,h8⟩:=sZ (λe g z=>xk C gk ck (jT Wu) O 20 z) h6;let⟨f,fd,ps,M,F,B,hm⟩:=ck.YK n mi h5;let⟨z1,z2,z3,z4⟩:=C.loc h1;cases args with
 | nil=>cases h4
 | cons e es =>
  rw[xU,zF,yQ] at h8;exact MK M F (C.room.mono Wu) (C.gl h2) hm B h7 z1 z2 z3 h3 (aV h8.1) (cH h8.2) rfl z4
def HK(C:Bk X N sc k)(gk:CA G X j)(ck:mP c X j)(Wu:j < k)(O:bJ X T)(h:NM c G sc N T x px e p=some g):OS X Wg H₀ pa (.Assign [.Name x px] e p) g:=by
 have hle:=jT Wu;sleep 2
 ·rcases cf h with ⟨_,h⟩|⟨g',hg,h⟩
  ·let⟨i,_,h⟩:=bs h;sleep 19;simp?[zF,yQ] at hc;sleep 22;let⟨z1,z2,z3,z4⟩:=C.loc hc.1;exact Q2 i z1 z2 z3 (xx C gk ck hle O hf) (eH hc.2) z4
  ·cases h;exact Di λWW=>r9 C gk.bn O 40 hg
 ·let⟨y,hy,hz⟩:=bs hz;let⟨hx,hz⟩:=aA hz;cases hz;rw[ll hy,eq_of_beq hx];exact KE C gk ck Wu O h
def JH(C:Bk X N sc k)(gk:CA G X j)(ck:mP c X j)(hle:j<=k)(O:bJ X T)(h:M4 c G sc N T x f e=some g):OS X Wg H₀ pa (.Assign [.Attribute (.Name x px) f q] e p) g:=by
 sleep 19;simp?[zF,yQ] at hc;sleep 44;sleep 45;rcases cQ h with ⟨_,h⟩|⟨_,h⟩
 ·let⟨fl,hf,rfl⟩:=ae h;exact KB (O.f _ _ hf) v1 v2 ck.cl (ck.na _ hc.1) (eH hc.2) v3 v4
 ·let⟨fe,hf,rfl⟩:=ae h;exact Mz (xx C gk ck hle O hf) v1 v2 ck.cl (ck.na _ hc.1) (eH hc.2) v3 v4
def Mr(C:Bk X N sc k)(gk:CA G X j)(ck:mP c X j)(hle:j<=k)(O:bJ X T)(h:Ss c G sc N T e p=some g):OS X Wg H₀ pa (.Expr e p) g:=by
 sleep 2
 ·rcases cf h with ⟨_,h⟩|⟨g',hg,h⟩
  ·sleep 19;sleep 22;exact Qx (xx C gk ck hle O hf) (eH hc)
  ·cases h;exact Di λWW=>r9 C gk.bn O 40 hg
 ·let⟨y,hy,hz⟩:=bs hz;let⟨u,hu,hz⟩:=bs hz;let⟨w,hw,hz⟩:=bs hz;let⟨a,ha,hz⟩:=bs hz;let⟨hx,hz⟩:=aA hz;cases hz;rw[zF] at hx;rw[CP hy,IP hu,jo hw,bY ha,List.isEmpty_iff.mp hx.1,eq_of_beq hx.2];sleep 19;simp?[zF,yQ] at hc;let⟨⟨h1,h2⟩,h3⟩:=hc;sleep 44;let⟨fe,hf,rfl⟩:=ae h;sleep 45;exact Kv (Cu C gk.bn ck O 20 hf) v1 v2 ck.cl (ck.na _ h1) rfl v3 v4 rfl (Qs h2) h3 (aV h2) rfl
def Gs(C:Bk X N sc k)(gk:CA G X j)(ck:mP c X j)(Wu:j < k)(O:bJ X T):∀ (n:Nat) {st:Ω}{g:OG},Rb c G sc N T n st=some g->OS X Wg H₀ pa st g
 | 0,st,g,h=>by cases h
 | n+1,st,g,h=>by
  have ih:∀s g,Rb c G sc N T n s=some g->OS X Wg H₀ pa s g:=λs g z=>Gs C gk ck Wu O n z;have hle:=jT Wu;cases st with
  | Return e q =>
   cases e<;>try cases h
   sleep 22;exact Lx _ (Od (xx C gk ck hle O hf))
  | If t a b q =>
   let⟨f,h1,h⟩:=bs h;let⟨x,h2,h⟩:=bs h;let⟨y,h3,rfl⟩:=ae h;exact R4 (Jy C gk ck hle O 20 h1) (oC ih h2) (oC ih h3)
  | Assign ts e q =>
   let⟨t,ht,h⟩:=bs h;rw[bY ht];sleep 2
   ·sleep 15;rw[jo hz];exact JH C gk ck hle O h
   ·rw[dP hz];exact HK C gk ck Wu O h
  | For tg iter body els q =>
   let⟨he,h⟩:=aA h;rw[List.isEmpty_iff.mp he];let⟨fi,Xo,h⟩:=bs h;let⟨t,ht,h⟩:=bs h;let⟨b,hb,rfl⟩:=ae h;let⟨hd,Xa⟩:=BU C gk.bn O Xo;exact N6 _ C.pass C.calm hd (λ_=>IY C ht) (oC ih hb) Xa
  | Expr e q=>exact Mr C gk ck hle O h
  | Raise=>cases h;exact S9
  | _=>cases h
end Og
namespace Xp
open PySem L2 Dl Rf Ob Og PySem.Spec PyProof.Rows
structure oG(K:W.Frag)(C:Addr)(m:Str)(st:Stmt)(ps:List Str):Prop where
 ex:∃ (f:Ψ) (fd:η) (qual:Str),Dv K m qual st f fd/\wb K C m f/\Binds K fd ps []
def II{K:Φ}{st:Ω}{kV:Θ}(hb:dQ st ps)(a:W.findIn K (.ref C) m=some (some (.ref f)))(n:W.isFn K (.ref f)=true)(l:K.lookup f=some ⟨oc,od,.func (W.fnOf m qual (dO st) (aW st) (ao st) .none kV doc pm an WR ct),Ye⟩)
  (c:W.codeIn K WR qual=true) (k:W.keepIn K (.ref f)=true):oG K C m st ps:=⟨f,_,qual,pj (st:=st) l c k,⟨a,n,k⟩,(pj (st:=st) l c k).binds λkV doc pm an WR ct us h=>hb _ _ kV doc pm an WR ct us h⟩
structure Rm(P:Program)(w:World)(K:W.Frag)(mg:Str->Option Value)(base:Heap)(j:Nat)(c:Cg):Prop where
 cl:qw K c.C
 na:∀f,c.fl.contains f=true->bN K c.C f
 ms:∀m n mm,c.ms.lookup m=some (n,mm)->ML P w K mg base j c.C m n mm
 YK:∀n mi,c.YK=some (n,mi)->∃f fd ps,Mk K c.C f/\eZ P w K mg base uS j f fd ps (Qj K c.C n mi)/\Binds K fd ps []/\mg c.cn=some (.ref c.C)
 mv:∀m,c.mv=some m->∀f g,c.mp.contains (f,g)=true->∃fa fd ps,eZ P w K mg base uS j fa fd ps (KI K c.C f g)/\wb K c.C m fa/\Binds K fd ps []
section
variable {K:Φ}{st:Ω}
def Rm.ok(h:Rm X.prog X.w X.K X.mg X.base j c):mP c X j:=⟨h.cl,h.na,h.ms,h.YK,h.mv⟩
def Rm.mono(h:Rm P w K mg base i c)(e:i<=j):Rm P w K mg base j c:=⟨h.cl,h.na,λm n mm z=>(h.ms m n mm z).mono e,λn mi z=>let ⟨f,fd,ps,a,b,d⟩:=h.YK n mi z;⟨f,fd,ps,a,b.mono e,d⟩,λm z f g y=>let ⟨fa,fd,ps,a,b⟩:=h.mv m z f g y;⟨fa,fd,ps,a.mono e,b⟩⟩
structure Gb(P:Program)(w:World)(K:W.Frag)(mg:Str->Option Value)(base:Heap)(is:List (Str×Int))(j:Nat)(l:WE.FT)(c:Cg):Prop where
 ok:WE.Ok P w K mg base is j l
 ck:Rm P w K mg base j c
abbrev Sn(s:Ω)(N:Γ Str)(c:Cg)(S:Sg):Δ OG:=BB (Rb c S (ao s) N (tr S 40 none (ao s) N) 40) (aW s)
def Jz(C:Bk X N (ao st) (j+1))(B:Bn X)(hf:pQ X.prog X.w X.K X.mg X.base j l)(hi:lA X.mg is)(ck:mP c X j)(t:Sn st N c ⟨l,is⟩=some g):F8 X Wg H₀ pa (aW st) g :=
 oC (λs g h=>Gs C (G:=⟨l,is⟩) (j:=j) ⟨hf,hi,B⟩ ck (kO j) (Dr (G:=⟨l,is⟩) 40 C ⟨hf,hi,B⟩ (Nat.le_succ j) λq z=>by cases z) 40 h) t
def om(st:Ω)(D:oG K c.C m st (WE.uy st n))(h:Gb P w K mg base is j l c)(t:Sn st (WE.tj st) c ⟨l,is⟩=some g:=by kernel_rfl)(F:bE (WE.tj st) (WE.uy st n) (ao st):=by exact WE.fst)(e:(WE.uy st n).length=n:=by kernel_rfl)(e':(WE.tj st).length=k:=by kernel_rfl) :
  Gb P w K mg base is (j+2) l { c with ms:=(m,n,gP g c.C k)::c.ms }:=by
 let⟨f,fd,qual,Fu,M,B⟩:=D.ex;have fm:ML P w K mg base (j+2) c.C m (WE.uy st n).length (gP g c.C (WE.tj st).length):=Ub (k:=j+1) Fu F B M λX hP hw hK Xs XZ C _ _ HF H pa=>by
  subst hP;subst hw;subst hK;subst Xs;subst XZ;exact Jz C h.ok.ob h.ok.of h.ok.oi h.ck.ok t
 rw[e,e'] at fm;have ck:=h.ck.mono (jV j 2);refine⟨WE.up h.ok (jV j 2),ck.cl,ck.na,λm' n' mm z=>?_,ck.YK,ck.mv⟩;have z:List.lookup m' ((m,n,gP g c.C k)::c.ms)=some (n',mm):=z;rw[yB] at z;cases q:m' == m with
 | true=>rw[q] at z;cases z;rw[eq_of_beq q];exact fm
 | false=>rw[q] at z;exact ck.ms m' n' mm z
def oi(st:Ω)(D:oG K c.C "__init__" st (WE.uy st n))(hM:∀f,W.findIn K (.ref c.C) "__init__"=some (some (.ref f))->Mk K c.C f)(hc:mg c.cn=some (.ref c.C))(h:Gb P w K mg base is j l c)(t:Sn st (WE.tj st) c ⟨l,is⟩=some g:=by kernel_rfl)(F:bE (WE.tj st) (WE.uy st n) (ao st):=by exact WE.fst)(e:(WE.uy st n).length=n:=by kernel_rfl)(e':(WE.tj st).length=k:=by kernel_rfl) :
  Gb P w K mg base is (j+2) l { c with YK:=some (n,gP g c.C k) }:=by
 let⟨f,fd,qual,Fu,M,B⟩:=D.ex;have fm:eZ P w K mg base uS (j+2) f fd (WE.uy st n) (Qj K c.C (WE.uy st n).length (gP g c.C (WE.tj st).length)):=Nq (k:=j+1) Fu F λX hP hw hK Xs XZ C _ _ HF H pa=>by
  subst hP;subst hw;subst hK;subst Xs;subst XZ;exact Jz C h.ok.ob h.ok.of h.ok.oi h.ck.ok t
 rw[e,e'] at fm;have ck:=h.ck.mono (jV j 2);refine⟨WE.up h.ok (jV j 2),ck.cl,ck.na,ck.ms,λn' mi z=>?_,ck.mv⟩;have z:some (n,gP g c.C k)=some (n',mi):=z;cases z;exact⟨f,fd,_,hM f M.at_,fm,B,hc⟩
end
def sA(e:Ω):Δ (Γ γ×γ×Pos):=if h:e.ctorIdx=5 then Stmt.Assign.elim e h λx y p=>some (x,y,p) else none
def Nk{e:Ω}(h:sA e=some z):e=.Assign z.1 z.2.1 z.2.2:=Stmt.Assign.elim (motive_2:=λe=>sA e=some z->e=.Assign z.1 z.2.1 z.2.2) e (gC h) (λa b d h=>by cases h;rfl) h
def sI(e:Ω):Δ (γ×Γ Ω×Γ Ω×Pos):=if h:e.ctorIdx=12 then Stmt.If.elim e h λx y u p=>some (x,y,u,p) else none
def RK{e:Ω}(h:sI e=some z):e=.If z.1 z.2.1 z.2.2.1 z.2.2.2:=Stmt.If.elim (motive_2:=λe=>sI e=some z->e=.If z.1 z.2.1 z.2.2.1 z.2.2.2) e (gC h) (λa b d f h=>by cases h;rfl) h
def sE(e:Ω):Δ (γ×Pos):=if h:e.ctorIdx=24 then Stmt.Expr.elim e h λx p=>some (x,p) else none
def Sj{e:Ω}(h:sE e=some z):e=.Expr z.1 z.2:=Stmt.Expr.elim (motive_2:=λe=>sE e=some z->e=.Expr z.1 z.2) e (gC h) (λa b h=>by cases h;rfl) h
def sR(e:Ω):Δ (Δ γ×Pos):=if h:e.ctorIdx=3 then Stmt.Return.elim e h λx p=>some (x,p) else none
def Rr{e:Ω}(h:sR e=some z):e=.Return z.1 z.2:=Stmt.Return.elim (motive_2:=λe=>sR e=some z->e=.Return z.1 z.2) e (gC h) (λa b h=>by cases h;rfl) h
def Vm(T:Tr)(s:Ω):Δ (Dl.Env->Δ θ):=(sI s).bind λz=>if z.2.2.1.isEmpty=true then T.t z.1 else none
def N5(O:bJ X T)(h:Vm T s=some ft):PS X s (QR (KF X.K ft) Vu Ax):=by
 sleep 15;let⟨he,h⟩:=aA h;rw[RK hz,List.isEmpty_iff.mp he];exact EH (O.t _ _ h) (λpins s σ H E I z=>False.elim z) wY
def Th(sc:ζ)(N:Γ Str)(s:Ω):Δ Unit:=(sA s).bind λz=>(l1 z.1).bind λt=>(dN t).bind λx=>(RG z.2.1).bind λy=>if (rA N sc 3 x.1&&mh N sc 1 y.1.2.1&&y.1.1.2.1 == ("pop":Str)&&y.2.1.isEmpty&&y.1.1.2.2.endLine == y.2.2.line)=true then some () else none
def Mg(C:Bk X N sc k)(h:Th sc N s=some u):PS X s (BF (Qn X.K "list" P0 (qm 1)) (rL 3)):=by
 sleep 15;let⟨t,ht,h⟩:=bs h;sleep 13;let⟨y,hy,h⟩:=bs h;sleep 19;simp?[zF] at hc;obtain⟨⟨⟨⟨h1,h2⟩,h6⟩,h7⟩,h8⟩:=hc;let⟨z1,z2,z3,z4⟩:=C.loc h1;let⟨v1,v2,v3,v4⟩:=C.YU h2;rw[Nk hz,bY ht,dP hx,yn hy,List.isEmpty_iff.mp h7,eq_of_beq h6];exact pC z1 z2 z3 (OK qP PySem.F.slot_list_pop PySem.F.type_list_pop O8 (bA v1 v2 v3 v4) rfl h8) rfl z4
def Sh(T:Tr)(sc:ζ)(N:Γ Str)(s:Ω):Δ FE:=(sE s).bind λz=>(RG z.1).bind λy=>(l1 y.2.1).bind λa=>(dT a).bind λt=>(l2 t.1).bind λu=>(Kd u.2).bind λw =>
 if (mh N sc 2 y.1.2.1&&mh N sc 0 w.2.1&&y.1.1.2.1 == ("append":Str)&&w.1.2.1 == eh&&y.1.1.2.2.endLine == y.2.2.line&&!isStar u.1)=true then T.e u.1 else none
def Lu(C:Bk X N sc k)(O:bJ X T)(h:Sh T sc N s=some f):PS X s (D5 (Tz X.K "list" yg (qm 2) (sj (PB (sj (tD X.K f) (sj (Gy X.K (qm 0) eh) Fh))) Fh))):=by
 sleep 15;let⟨y,hy,h⟩:=bs h;let⟨a,ha,h⟩:=bs h;let⟨t,ht,h⟩:=bs h;let⟨u,hu,h⟩:=bs h;let⟨w,hw,h⟩:=bs h;sleep 19;simp?[zF,yQ] at hc;obtain⟨⟨⟨⟨⟨h1,h2⟩,h6⟩,h7⟩,h8⟩,h9⟩:=hc;let⟨w1,w2,w3,w4⟩:=C.YU h1;let⟨x1,x2,x3,x4⟩:=C.YU h2;rw[Sj hz,yn hy,bY ha,Eh ht,qb hu,jo hw,eq_of_beq h6,eq_of_beq h7];exact ji (tK qP PySem.F.slot_list_append PySem.F.type_list_append l7 (bA w1 w2 w3 w4) (bu (w6 (bu (O.e _ _ h) (bu (mS (bA x1 x2 x3 x4) rfl) da rfl) (aV h9))) da rfl) rfl (Qs rfl) h8 rfl rfl) rfl
def R1(T:Tr)(sc:ζ)(N:Γ Str)(s:Ω):Δ FE:=(sA s).bind λz=>(l1 z.1).bind λt=>(Kd t).bind λw=>if (mh N sc 0 w.2.1&&w.1.2.1 == eh&&!lr z.2.1)=true then T.e z.2.1 else none
def K0(C:Bk X N sc k)(O:bJ X T)(h:R1 T sc N s=some f):PS X s (Ou X.K (qm 0) (tD X.K f) eh):=by
 sleep 15;let⟨t,ht,h⟩:=bs h;let⟨w,hw,h⟩:=bs h;sleep 19;simp?[zF,yQ] at hc;let⟨y1,y2,y3,y4⟩:=C.YU hc.1.1;rw[Nk hz,bY ht,jo hw,eq_of_beq hc.1.2];exact Bz (bA y1 y2 y3 y4) (O.e _ _ h) (eH hc.2)
def Vs(T:Tr)(s:Ω):Δ FE:=(sR s).bind λz=>z.1.bind T.e
def Pi(O:bJ X T)(h:Vs T s=some f):PS X s (Pz (tD X.K f)):=by
 sleep 15;let⟨e,he,h⟩:=bs h;rw[Rr hz,he];exact BI (O.e _ _ h)
def UO(T:Tr)(sc:ζ)(N:Γ Str):Γ Ω->Δ ((Dl.Env->Δ θ)×FE×FE×FE)
 | [a,b,d,e,f]=>(Vm T a).bind λft=>(Th sc N b).bind λ_=>(Sh T sc N d).bind λf0=>(R1 T sc N e).bind λf1=>(Vs T f).map λf2=>(ft,f0,f1,f2)
 | _=>none
def P6{f0 f1 f2:FE}(C:Bk X N sc k)(O:bJ X T)(h:UO T sc N body=some (ft,f0,f1,f2)):zi X body (QT X.K ft f0 f1 f2):=by
 rcases body with _|⟨a,_|⟨b,_|⟨d,_|⟨e,_|⟨f,_|_⟩⟩⟩⟩⟩<;>try cases h
 let⟨_,k1,h⟩:=bs h;let⟨_,k2,h⟩:=bs h;let⟨_,k3,h⟩:=bs h;let⟨_,k4,h⟩:=bs h;let⟨_,k5,h⟩:=ae h;cases h;exact iy (N5 O k1) (iy (Mg C k2) (iy (Lu C O k3) (iy (K0 C O k4) (wz (Pi O k5)))))
section
variable {K:Φ}{st:Ω}{f0 f1 f2:FE}
def ov(st:Ω)(Dm:oG K c.C m st (WE.uy st 3))(h:Gb P w K mg base is j l c)(t:UO (tr ⟨l,is⟩ 40 none (ao st) (WE.tj st)) (ao st) (WE.tj st) (aW st)=some (ft,f0,f1,f2))
  (hft:∀ds:Γ D,ds≠[]->ft [none,some (.list ds),none,none]=some false) (hf0:∀w p:D,f0 [none,none,none,some (.tuple [w,p])]=some w) (hf1:∀w p:D,f1 [none,none,none,some (.tuple [w,p])]=some p) (hf2:∀w p:D,f2 [none,none,none,some (.tuple [w,p])]=some w)
  (np:bN K c.C eh) (hp:∀f g,c.mp.contains (f,g)=true->g≠f/\eh≠f/\eh≠g)
  (F:bE (WE.tj st) (WE.uy st 3) (ao st):=by exact WE.fst) (e:(WE.uy st 3).length=3:=by kernel_rfl) (e':(WE.tj st).length=4:=by kernel_rfl):Gb P w K mg base is (j+1) l { c with mv:=some m }:=by
 let⟨f,fd,qual,Fu,M,B⟩:=Dm.ex;have ck:=h.ck.mono (Nat.le_succ j);refine⟨WE.up h.ok (Nat.le_succ j),ck.cl,ck.na,ck.ms,ck.YK,λm' z f' g' y=>?_⟩;have z:some m=some m':=z;cases z;let⟨n1,n2,n3⟩:=hp f' g' y;refine⟨f,fd,_,Q4 (k:=j) Fu F e' e hft hf0 hf1 hf2 ck.cl np n1 n2 n3 λX hP hw hK Xs XZ C _ _=>?_,M,B⟩;subst hP;subst hw;subst hK;subst Xs;subst XZ;exact P6 C (Dr (G:=⟨l,is⟩) 40 C ⟨h.ok.of,h.ok.oi,h.ok.ob⟩ (yN j) λq z=>by cases z) t
end
section
variable {K:Φ}
def m1(q:Str)(f c:Ψ)(pm:Θ){st:Ω}(hb:dQ st ps:=by exactλ_ _ _ _ _ _ _ _ us hl=>Hd.xp (R:=λus=>bindArgs _ ⟨us,[]⟩=pure (List.zip _ us)) (λ_=>rfl) us hl)(a:W.findIn K (.ref C) m=some (some (.ref f)):=by kernel_rfl)(n:W.isFn K (.ref f)=true:=by kernel_rfl)(l:K.lookup f=some (Hd.TV m q st pm c):=by kernel_rfl)(d:W.codeIn K (.ref c) q=true:=by kernel_rfl)(k:W.keepIn K (.ref f)=true:=by kernel_rfl):oG K C m st ps:=II hb a n l d k
def m2(q:Str)(f c:Ψ)(pm:Θ){st:Ω}(hb:dQ st ps:=by exactλ_ _ _ _ _ _ _ _ us hl=>Hd.FD (R:=λus=>bindArgs _ ⟨us,[]⟩=pure (List.zip _ us)) (λ_ _=>rfl) us hl)(a:W.findIn K (.ref C) m=some (some (.ref f)):=by kernel_rfl)(n:W.isFn K (.ref f)=true:=by kernel_rfl)(l:K.lookup f=some (Hd.TV m q st pm c):=by kernel_rfl)(d:W.codeIn K (.ref c) q=true:=by kernel_rfl)(k:W.keepIn K (.ref f)=true:=by kernel_rfl):oG K C m st ps:=II hb a n l d k
def m3(q:Str)(f c:Ψ)(pm:Θ){st:Ω}(hb:dQ st ps:=by exactλ_ _ _ _ _ _ _ _ us hl=>Hd.CL (R:=λus=>bindArgs _ ⟨us,[]⟩=pure (List.zip _ us)) (λ_ _ _=>rfl) us hl)(a:W.findIn K (.ref C) m=some (some (.ref f)):=by kernel_rfl)(n:W.isFn K (.ref f)=true:=by kernel_rfl)(l:K.lookup f=some (Hd.TV m q st pm c):=by kernel_rfl)(d:W.codeIn K (.ref c) q=true:=by kernel_rfl)(k:W.keepIn K (.ref f)=true:=by kernel_rfl):oG K C m st ps:=II hb a n l d k
end
section
variable {K:Φ}{st:Ω}
def SI{fl:Γ Str}(na:(fl.all λf=>match W.findIn K (.ref C) f with|some none=>true|_=>false)=true)(hf:fl.contains f=true):bN K C f:=by
 have:=List.all_eq_true.mp na f (List.contains_iff_mem.mp hf);show W.findIn K (.ref C) f=some none;split at this
 ·assumption
 ·cases this
def VL(cl:qw K C)(na:(fl.all λf=>match W.findIn K (.ref C) f with|some none=>true|_=>false)=true)(h:WE.Ok P w K mg base is j l):Gb P w K mg base is j l ⟨cn,C,fl,[],none,none,mp⟩ :=
 { ok:=h,ck:={ cl:=cl,na:=λf hf=>SI na hf,ms:=λm n mm z=>(nomatch z),YK:=λn mi z=>(nomatch z),mv:=λm z=>(nomatch z) } }
def VI(f:Ψ)(st:Ω)(D:oG K c.C "__init__" st (WE.uy st n))(hM:Mk K c.C f)(hc:mg c.cn=some (.ref c.C))(h:Gb P w K mg base is j l c)(t:Sn st (WE.tj st) c ⟨l,is⟩=some g:=by kernel_rfl)(F:bE (WE.tj st) (WE.uy st n) (ao st):=by exact WE.fst)(e:(WE.uy st n).length=n:=by kernel_rfl)(e':(WE.tj st).length=k:=by kernel_rfl) :
  Gb P w K mg base is (j+2) l { c with YK:=some (n,gP g c.C k) }:=oi st D (λf' z=>by rw[hM.init] at z;cases z;exact hM) hc h t F e e'
abbrev _root_.zq0:=(aa (ab 1) ag)
abbrev _root_.zq1:=(bw bO zq0)
def mT:Dl.Env->Δ θ:=fB (f2 bC zq1 (fC (.int 0)))
def mE(k:Int):FE:=f2 ay (ab 3) (fC (.int k))
def Te(ds:Γ D)(h:ds≠[]):mT [none,some (.list ds),none,none]=some false:=by
 cases ds with
 | nil=>exact absurd rfl h
 | cons d ds=>rfl
def Wc(st:Ω)(Dm:oG K c.C m st (WE.uy st 3))(np:bN K c.C eh)(hp:∀z∈c.mp,z.2≠z.1/\eh≠z.1/\eh≠z.2)(h:Gb P w K mg base is j l c)(t:UO (tr ⟨l,is⟩ 40 none (ao st) (WE.tj st)) (ao st) (WE.tj st) (aW st)=some (mT,mE 0,mE 1,mE 0):=by kernel_rfl)
  (F:bE (WE.tj st) (WE.uy st 3) (ao st):=by exact WE.fst) (e:(WE.uy st 3).length=3:=by kernel_rfl) (e':(WE.tj st).length=4:=by kernel_rfl):Gb P w K mg base is (j+1) l { c with mv:=some m } :=
 ov st Dm h t Te (λw p=>rfl) (λw p=>rfl) (λw p=>rfl) np (λf g z=>hp _ (List.contains_iff_mem.mp z)) F e e'
end
end Xp
namespace Pg
open PySem L2 Dl PySem.Spec PyProof.Rows
def sk:aj->Δ Out:=(ax (j5 (Bq (cR (fB (Ny "int" (ab 0)))) (fB (Ny "bool" (ab 0)))) (aQ (fC (.bool false))) iJ) (aQ (lz EK EK (ab 1) (ab 0) (ab 2))))
def bM:Γ D->Δ D:=bb sk 3
def qf:aj->Δ Out:=(aQ (ah 3 bM (aa (ab 0) (aa (fC (.int 0)) (aa (f2 Dl.fW (ab 1) (fC (.int 1))) ag)))))
def cW:Γ D->Δ D:=bb qf 2
def uR:aj->Δ Out:=(aQ (mn (Ny "tuple" (ab 0)) (lz EK EK (ab 1) (bw bO (aa (ab 0) ag)) (ab 2))))
def bR:Γ D->Δ D:=bb uR 3
def pR:aj->Δ Out:=(ax (j5 (cR (fB (Ny "tuple" (ab 0)))) (aQ (fC (.bool false))) iJ) (ax (j5 (cR (fB (bw nL (aa (cU (au 1 [1] (aR (ab 0)) (fG 0) (λ_=>some true) (ah 2 cW (aa (ab 0) (aa (ab 1) ag))))) ag)))) (aQ (fC (.bool false))) iJ) (aQ (f2 bC (f1 l9 (ab 0)) (bw bO (aa (ab 0) ag))))))
def g8:Γ D->Δ D:=bb pR 2
def Av:aj->Δ Out:=(aQ (mn (ah 3 bR (aa (ab 0) (aa (fC (.int 2)) (aa (fC (.int 2)) ag)))) (mn (ah 3 bM (aa (f2 ay (ab 0) (fC (.int 0))) (aa (fC (.int 0)) (aa (fC (.int 9)) ag)))) (ah 2 g8 (aa (f2 ay (ab 0) (fC (.int 1))) (aa (ab 1) ag))))))
def gn:Γ D->Δ D:=bb Av 2
def AH:aj->Δ Out:=(ax (j5 (cR (fB (ah 3 bR (aa (ab 0) (aa (fC (.int 3)) (aa (fC (.int 3)) ag)))))) (aQ (fC (.bool false))) iJ) (aQ (mn (ah 2 cW (aa (f2 ay (ab 0) (fC (.int 0))) (aa (ab 1) ag))) (mn (ah 2 cW (aa (f2 ay (ab 0) (fC (.int 1))) (aa (ab 2) ag))) (ah 3 bM (aa (f2 ay (ab 0) (fC (.int 2))) (aa (fC (.int 1)) (aa (fC (.int 9)) ag))))))))
def lL:Γ D->Δ D:=bb AH 3
def p7:aj->Δ Out:=(ax (j5 (Bq (cR (fB (ah 3 bR (aa (ab 0) (aa (fC (.int 1)) (aa (fC (.int 4)) ag)))))) (cR (fB (ah 3 bR (aa (ab 1) (aa (fC (.int 1)) (aa (fC (.int 4)) ag))))))) (aQ (fC (.bool false))) iJ) (ax (j5 (cR (fB (bw nL (aa (cU (au 1 [1] (aR (ab 0)) (fG 0) (λ_=>some true) (ah 2 gn (aa (ab 0) (aa (bw bO (aa (ab 1) ag)) ag))))) ag)))) (aQ (fC (.bool false))) iJ) (ax (j5 (cR (fB (bw nL (aa (cU (au 1 [0] (aR (ab 1)) (fG 0) (λ_=>some true) (ah 2 gn (aa (ab 0) (aa (bw bO (aa (ab 1) ag)) ag))))) ag)))) (aQ (fC (.bool false))) iJ) (aQ (mn (Ny "tuple" (ab 2)) (bw nL (aa (cU (au 1 [0,1] (aR (ab 2)) (fG 0) (λ_=>some true) (ah 3 lL (aa (ab 0) (aa (bw bO (aa (ab 1) ag)) (aa (bw bO (aa (ab 2) ag)) ag)))))) ag)))))))
def hJ:Γ D->Δ D:=bb p7 3
def mC:aj->Δ Out:=(ax (aS 1 [] (iN ag)) (ax (e8 [0] (bq (aa (ab 0) ag)) (gy 2 3) (E3 1 [2,3] (au 1 [2] (aR (f2 ay (ab 3) (fC (.int 1)))) (fG 0) (λ_=>some true) (aK (aa (ab 1) (aa (ab 0) ag)))))) (aQ (ab 1))))
def bG:Γ D->Δ D:=bb mC 4
def jq:aj->Δ Out:=(ax (j5 (Bq (cR (fB (ah 3 bR (aa (ab 0) (aa (fC (.int 3)) (aa (fC (.int 3)) ag)))))) (cR (fB (ah 3 hJ (aa (f2 ay (ab 0) (fC (.int 0))) (aa (f2 ay (ab 0) (fC (.int 1))) (aa (f2 ay (ab 0) (fC (.int 2))) ag))))))) (aQ (fC (.bool false))) iJ) (ax (aS 1 [0] (au 1 [] (aR (f2 ay (ab 0) (fC (.int 2)))) (fG 0) (λ_=>some true) (aK (aa (f2 ay (ab 0) (fC (.int 0))) (aa (f2 ay (ab 0) (fC (.int 1))) ag))))) (ax (aS 2 [0] (uu gU (aa (ah 1 bG (aa (f2 ay (ab 0) (fC (.int 0))) ag)) ag))) (ax (aS 3 [0] (uu gU (aa (cU (au 2 [] (aR (ah 1 bG (aa (f2 ay (ab 0) (fC (.int 1))) ag))) (gM 0 1) (λ_=>some true) (aK (aa (ab 1) (aa (ab 0) ag))))) ag))) (aQ (mn (f2 bC (ab 1) (ab 2)) (f2 bC (ab 1) (ab 3))))))))
def dw:Γ D->Δ D:=bb jq 4
abbrev zq2:=(aa (ab 0) ag)
abbrev zq3:=(cR (fB (ah 1 dw zq2)))
def eL:aj->Δ Out:=(j5 zq3 Q9 iJ)
def eN:Γ D->Δ D:=bb eL 1
abbrev zq4:=(aa (ab 2) ag)
abbrev zq5:=(aa (ab 1) zq4)
abbrev zq6:=(aa (ab 0) zq5)
abbrev zq7:=(cR (fB (ah 3 bM zq6)))
def eK:aj->Δ Out:=(j5 zq7 Q9 iJ)
def iu:Γ D->Δ D:=bb eK 3
def dY:aj->Δ Out:=(rJ (ah 3 iu (aa (ab 0) (aa (fC (.int 0)) (aa (f2 Dl.fW (ab 1) (fC (.int 1))) ag)))))
def gx:Γ D->Δ D:=bb dY 2
def sH:aj->Δ Out:=(aQ (f2 aJ (f2 aJ (n6 gX (ab 0) nU (Dw (ab 1))) (aK zq4)) (n6 gX (ab 0) (Dw (f2 aJ (ab 1) (fC (.int 1)))) nU)))
def dB:Γ D->Δ D:=bb sH 3
abbrev EX:Γ Str:=["world","side","place","ways","likes","own"]
def oM:aj->Δ Out:=(ax (aF 3 [0] (f2 ay (ab 0) (fC (.int 2)))) (ax (aF 4 [0,1,2] (f2 ay (f2 ay (f2 ay (ab 0) (ab 1)) (ab 2)) (fC (.int 1)))) (ax (aS 5 [1,2,3] (au 2 [1,2] (bq (aa (ab 3) ag)) (gM 0 1) (fB (f2 bC (f2 ay (ab 1) (ab 2)) (ab 3))) (ab 0))) (aQ (cU (pf [1,3,4] (ab 5) (f2 qk (ab 3) (f2 ay (f2 ay (ab 2) (ab 0)) (f2 Dl.fW (fC (.int 1)) (ab 1))))))))))
def gc:Γ D->Δ D:=bb oM 6
def lO:aj->Δ Out:=(ax (aS 4 [0] (au 1 [] (aR (f2 ay (ab 0) (fC (.int 2)))) (fG 0) (λ_=>some true) (fC (.int 0)))) (ax (aF 5 [0,1,2] (f2 ay (f2 ay (f2 ay (ab 0) (ab 1)) (ab 2)) (fC (.int 0)))) (ax (e8 [0,1,2] (aR (ah 3 gc (aa (ab 0) (aa (ab 1) (aa (ab 2) ag))))) (vn 6) (ax (Ce 4 [0,3,5,6] (ab 6) (bw AO (aa (f2 ay (ab 3) (ab 6)) (aa (f2 ay (f2 ay (f2 ay (ab 0) (fC (.int 2))) (ab 6)) (fC (.int 2))) (aa (ab 5) ag))))) (aF 5 [4,5,6] (f2 Dl.fW (ab 5) (f2 ay (ab 4) (ab 6)))))) (aQ (bw bK (aa (ab 4) ag))))))
def fv:Γ D->Δ D:=bb lO 7
def fI:aj->Δ Out:=(ax (aS 3 [0] (au 1 [] (aR (f2 ay (ab 0) (fC (.int 2)))) (fG 0) (λ_=>some true) (fC (.int 0)))) (ax (e8 [0,1] (cB (aa (bw bO (aa (f2 ay (ab 0) (ab 1)) ag)) ag)) (vn 4) (ax (aF 5 [0,1,2,4] (ah 4 fv (aa (ab 0) (aa (ab 1) (aa (ab 4) (aa (ab 2) ag)))))) (aS 3 [3,5] (au 2 [] (fN (aa (ab 3) (aa (ab 5) ag))) (gM 0 1) (λ_=>some true) (f2 aJ (ab 0) (ab 1)))))) (aQ (bw bK (aa (ab 3) ag)))))
def bB:Γ D->Δ D:=bb fI 6
abbrev zq8:=(f2 ay (ab 0) (fC (.int 2)))
def Ay:aj->Δ Out:=(aQ (bw bK (aa (cU (au 1 [] (aR zq8) (fG 0) (λ_=>some true) zq8)) ag)))
def sr:Γ D->Δ D:=bb Ay 1
def uV:aj->Δ Out:=(aQ (ah 3 dB zq6))
def eI:Γ D->Δ D:=bb uV 3
def oW:aj->Δ Out:=(ax (aF 2 [0,1] (ah 3 bB (aa (ab 0) (aa (fC (.int 0)) (aa (ab 1) ag))))) (ax (aF 3 [0,2] (ah 3 bB (aa (ab 0) (aa (fC (.int 1)) (aa (ab 2) ag))))) (ax (e8 [3] (bq (aa (ab 3) ag)) (gy 4 5) (j5 (fB (f2 Ga (ab 5) (f2 ay (ab 2) (ab 4)))) (aQ (aK (aa (ab 4) (aa (ab 5) ag)))) iJ)) (aQ (fC .none)))))
def iG:Γ D->Δ D:=bb oW 6
abbrev zq9:=(iN ag)
abbrev ZZ:=(ah 1 sr zq2)
abbrev acz:=(aa (ab 0) zq4)
abbrev acA:=(ah 2 iG acz)
abbrev acB:=(aF 3 [0,2] acA)
abbrev acC:=(fB (f2 nc (ab 3) (fC .none)))
def yf:aj->Δ Out:=(ax (aS 1 [] zq9) (ax (aF 2 [0] ZZ) (ax acB (ax (BZ acC (ax (i6 1 [3] (ab 3)) (ax (aF 2 [2,3] (ah 3 eI (aa (ab 2) (aa (f2 ay (ab 3) (fC (.int 0))) (aa (f2 ay (ab 3) (fC (.int 1))) ag))))) acB)) Rf.turns) (aQ (ab 1))))))
def wu:Γ D->Δ D:=bb yf 4
abbrev aa6:=(aa (ab 4) ag)
abbrev aa7:=(ah 3 eI (aa (ab 2) (aa (ab 3) aa6)))
abbrev Yy:=(aQ (ab 2))
def tw:aj->Δ Out:=(ax (aF 2 [0] ZZ) (ax (e8 [1] (aR (ab 1)) (gy 3 4) (aF 2 [2,3,4] aa7)) Yy))
def rC:Γ D->Δ D:=bb tw 5
abbrev acD:=(rJ (ah 1 eN zq2))
def hV:aj->Δ Out:=(ax acD (aQ (ah 3 bB (aa (ab 0) (aa (fC (.int 0)) (aa (ah 2 rC (aa (ab 0) (aa (ah 1 wu zq2) ag))) ag))))))
def dh:Γ D->Δ D:=bb hV 1
def k6:aj->Δ Out:=(ax (j5 (fB (f2 bC (ab 0) (cU (iN ag)))) (aQ (f2 eA (fC (.int 7)) (ab 1))) iJ) (aQ (f2 aJ (f2 ay (ab 0) (f2 mq (ab 1) (bw bO (aa (ab 0) ag)))) (f2 eA (fC (.int 6553)) (f2 nj (ab 1) (bw bO (aa (ab 0) ag)))))))
def eX:Γ D->Δ D:=bb k6 2
def ny:aj->Δ Out:=(ax (aF 3 [0,1] (f2 mq (f2 aJ (f2 eA (f2 mq (ah 2 eX (aa (ab 0) (aa (ab 1) ag))) (fC (.int 2147483563))) (fC (.int 69069))) (f2 eA (fC (.int 104723)) (f2 aJ (ab 1) (fC (.int 1))))) (fC (.int 2147483563)))) (ax (aF 3 [3] (f2 mq (f2 aJ (f2 eA (ab 3) (ab 3)) (f2 nj (ab 3) (fC (.int 3)))) (fC (.int 2147483399)))) (aQ (f2 mq (f2 nj (f2 mq (f2 aJ (f2 eA (ab 3) (ab 3)) (f2 nj (ab 3) (fC (.int 7)))) (fC (.int 2147483647))) (fC (.int 11))) (ab 2)))))
def ar:Γ D->Δ D:=bb ny 4
def mz:aj->Δ Out:=(ax (aS 3 [] (iN ag)) (ax (e8 [2] (bq (aa (ab 2) ag)) (gy 4 5) (ax (aS 6 [] (iN ag)) (ax (e8 [5] (bq (aa (ab 5) ag)) (gy 7 8) (Gv 6 [8] (ah 3 ar (aa (ab 0) (aa (f2 aJ (f2 aJ (ab 1) (f2 eA (fC (.int 4)) (ab 4))) (ab 7)) (aa (f2 aJ (bw bO (aa (ab 6) ag)) (fC (.int 1))) ag)))) (ab 8))) (i6 3 [6] (bw bK (aa (ab 6) ag)))))) (aQ (ab 3))))
def bW:Γ D->Δ D:=bb mz 9
def fQ:aj->Δ Out:=(ax (j5 (qd (fB (f2 FA (ab 2) (fC (.int 3)))) (fB (f2 bC (ah 3 ar (aa (ab 0) (aa (f2 aJ (ab 1) (fC (.int 64))) (aa (fC (.int 4)) ag)))) (fC (.int 0))))) (ax (aF 3 [0,1] (f2 aJ (fC (.int 1)) (ah 3 ar (aa (ab 0) (aa (f2 aJ (ab 1) (fC (.int 65))) (aa (fC (.int 2)) ag)))))) (ax (aF 4 [3] (aK (aa (aK (aa (ab 3) (aa (aK (aa (fC (.int 1)) (aa (fC (.int 0)) ag))) ag))) (aa (aK (aa (ab 3) (aa (aK (aa (fC (.int 0)) (aa (fC (.int 1)) ag))) ag))) ag)))) (aQ (aK (aa (aK (aa (aK (aa (ab 3) (aa (aK (aa (fC (.int 0)) (aa (fC (.int 1)) ag))) ag))) (aa (aK (aa (ab 3) (aa (aK (aa (fC (.int 1)) (aa (fC (.int 0)) ag))) ag))) ag))) (aa (ab 4) (aa (aK (aa (aK (aa (fC (.int 0)) (aa (fC (.int 0)) (aa (fC (.int 2)) ag)))) (aa (aK (aa (fC (.int 0)) (aa (fC (.int 1)) (aa (fC (.int 2)) ag)))) (aa (aK (aa (fC (.int 1)) (aa (fC (.int 0)) (aa (fC (.int 2)) ag)))) (aa (aK (aa (fC (.int 1)) (aa (fC (.int 1)) (aa (fC (.int 2)) ag)))) ag))))) ag))))))) iJ) (ax (aF 5 [0,1] (f2 aJ (fC (.int 1)) (ah 3 ar (aa (ab 0) (aa (ab 1) (aa (fC (.int 3)) ag)))))) (ax (aF 6 [0,1] (f2 aJ (fC (.int 1)) (ah 3 ar (aa (ab 0) (aa (f2 aJ (ab 1) (fC (.int 1))) (aa (fC (.int 3)) ag)))))) (ax (aS 7 [] (iN ag)) (ax (e8 [5,6] (cB (aa (f2 eA (ab 5) (ab 6)) ag)) (vn 8) (j5 (qd (fB (f2 Ga (bw bO (aa (ab 7) ag)) (ab 2))) (fB (f2 FA (ah 3 ar (aa (ab 0) (aa (f2 aJ (f2 aJ (ab 1) (fC (.int 2))) (ab 8)) (aa (fC (.int 4)) ag)))) (fC (.int 0))))) (i6 7 [0,1,6,8] (aK (aa (f2 nj (ab 8) (ab 6)) (aa (f2 mq (ab 8) (ab 6)) (aa (f2 aJ (fC (.int 1)) (ah 3 ar (aa (ab 0) (aa (f2 aJ (f2 aJ (ab 1) (fC (.int 12))) (ab 8)) (aa (fC (.int 2)) ag))))) ag))))) iJ)) (ax (aF 9 [0,1,5,7] (ah 3 bW (aa (ab 0) (aa (f2 aJ (ab 1) (fC (.int 24))) (aa (cU (au 1 [7] (cB (aa (ab 5) ag)) (fG 0) (λ_=>some true) (cU (au 1 [0] (aR (ab 1)) (fG 0) (fB (f2 bC (f2 ay (ab 0) (fC (.int 0))) (ab 1))) (f2 ay (ab 0) (fC (.int 1))))))) ag))))) (ax (aF 10 [0,1,6,7] (ah 3 bW (aa (ab 0) (aa (f2 aJ (ab 1) (fC (.int 40))) (aa (cU (au 1 [7] (cB (aa (ab 6) ag)) (fG 0) (λ_=>some true) (cU (au 1 [0] (aR (ab 1)) (fG 0) (fB (f2 bC (f2 ay (ab 0) (fC (.int 1))) (ab 1))) (f2 ay (ab 0) (fC (.int 0))))))) ag))))) (ax (aF 11 [0,1,8,9] (bw bK (aa (cU (au 2 [0,1] (bq (aa (ab 9) ag)) (gM 0 1) (λ_=>some true) (aK (aa (ah 3 ar (aa (ab 2) (aa (f2 aJ (f2 aJ (ab 3) (fC (.int 56))) (ab 0)) (aa (fC (.int 4)) ag)))) (aa (ab 1) ag))))) ag))) (ax (aF 4 [0,1,8,10] (bw bK (aa (cU (au 2 [0,1] (bq (aa (ab 10) ag)) (gM 0 1) (λ_=>some true) (aK (aa (ah 3 ar (aa (ab 2) (aa (f2 aJ (f2 aJ (ab 3) (fC (.int 60))) (ab 0)) (aa (fC (.int 4)) ag)))) (aa (ab 1) ag))))) ag))) (aQ (aK (aa (ab 11) (aa (ab 4) (aa (bw bK (aa (ab 7) ag)) ag))))))))))))))
def cY:Γ D->Δ D:=bb fQ 12
def vo:aj->Δ Out:=(aQ (bw ug (aa (cU (au 2 [2,3] (fN (aa (f2 ay (ab 0) (fC (.int 2))) (aa (ab 1) ag))) (gM 0 1) (fB (f2 bC (f2 ay (ab 0) (ab 2)) (ab 3))) (ab 1))) ag)))
def dH:Γ D->Δ D:=bb vo 4
def j8:aj->Δ Out:=(aQ (bw nL (aa (cU (au 2 [0,1,2] (bq (aa (f2 ay (ab 0) (ab 2)) ag)) (gM 0 1) (λ_=>some true) (f2 EK (ah 4 dH (aa (ab 2) (aa (ab 3) (aa (ab 4) (aa (ab 0) ag))))) (f2 ay (ab 1) (fC (.int 0)))))) ag)))
def dq:Γ D->Δ D:=bb j8 3
def pH:aj->Δ Out:=(ax (aF 2 [0] (f2 ay (ab 0) (fC (.int 2)))) (ax (j5 (cR (fB (ah 3 bR (aa (ab 1) (aa (bw bO (aa (ab 2) ag)) (aa (bw bO (aa (ab 2) ag)) ag)))))) (aQ (fC (.bool false))) iJ) (ax (j5 (cR (fB (bw nL (aa (cU (au 2 [] (fN (aa (ab 2) (aa (ab 1) ag))) (gM 0 1) (λ_=>some true) (ah 3 bM (aa (ab 1) (aa (fC (.int 0)) (aa (f2 ay (ab 0) (fC (.int 2))) ag)))))) ag)))) (aQ (fC (.bool false))) iJ) (aQ (mn (ah 3 dq (aa (ab 0) (aa (ab 1) (aa (fC (.int 0)) ag)))) (ah 3 dq (aa (ab 0) (aa (ab 1) (aa (fC (.int 1)) ag)))))))))
def lU:Γ D->Δ D:=bb pH 3
abbrev Zo:=(aa (ab 0) zq0)
def fR:aj->Δ Out:=(ax acD (j5 (cR (fB (ah 2 lU Zo))) Q9 iJ))
def bS:Γ D->Δ D:=bb fR 2
abbrev tI:Γ Str:=["world","ways"]
def gq:aj->Δ Out:=(ax (aF 1 [0] (f2 ay (ab 0) (fC (.int 2)))) (aQ (cU (tM [1] (aa (bw bO (aa (ab 1) ag)) ag) (aK (aa (f2 ay (f2 ay (ab 1) (ab 0)) (fC (.int 1))) (aa (f2 ay (f2 ay (ab 1) (ab 0)) (fC (.int 0))) ag)))))))
def bj:Γ D->Δ D:=bb gq 2
def sy:aj->Δ Out:=(ax (rJ (ah 1 eN (aa (ab 0) ag))) (ax (aS 1 [0] (au 1 [0] (aR (ah 1 bj (aa (ab 0) ag))) (fG 0) (λ_=>some true) (f2 ay (f2 ay (ab 1) (fC (.int 2))) (ab 0)))) (aQ (aK (aa (f2 ay (ab 0) (fC (.int 1))) (aa (f2 ay (ab 0) (fC (.int 0))) (aa (bw bK (aa (cU (au 3 [] (aR (ab 1)) (Kj 0 1 2) (λ_=>some true) (aK (aa (ab 1) (aa (ab 0) (aa (ab 2) ag)))))) ag)) ag)))))))
def nr:Γ D->Δ D:=bb sy 2
def ib:aj->Δ Out:=(ax (rJ (ah 2 bS (aa (ab 0) (aa (ab 1) ag)))) (aQ (bw bK (aa (cU (au 1 [1] (aR (ah 1 bj (aa (ab 0) ag))) (fG 0) (λ_=>some true) (f2 ay (ab 1) (ab 0)))) ag))))
def iw:Γ D->Δ D:=bb ib 2
def ja:aj->Δ Out:=(ax (aF 4 [0,2,3] (f2 ay (f2 ay (f2 ay (ab 0) (fC (.int 2))) (ab 3)) (ab 2))) (ax (j5 (fB (f2 Ga (ah 4 dH (aa (ab 0) (aa (ab 1) (aa (ab 2) (aa (ab 4) ag))))) (f2 ay (f2 ay (f2 ay (ab 0) (ab 2)) (ab 4)) (fC (.int 0))))) (aQ (fC (.bool true))) iJ) (ax (aF 5 [0,2,4] (ah 3 gc (aa (ab 0) (aa (ab 2) (aa (ab 4) ag))))) (ax (aF 6 [3,5] (n6 gX (ab 5) (Dw (f2 aJ (f2 qk (ab 5) (ab 3)) (fC (.int 1)))) nU)) (aQ (bw Rf.J3 (aa (cU (au 1 [1] (aR (ab 6)) (fG 0) (λ_=>some true) (f2 FA (f2 ay (ab 1) (ab 0)) (fC (.int 0))))) ag)))))))
def fT:Γ D->Δ D:=bb ja 7
abbrev acE:=(f2 ay (ab 1) (ab 2))
abbrev aa8:=(f2 ay zq8 (ab 2))
abbrev aeI:=(f2 bC acE (f2 ay aa8 (fC (.int 2))))
abbrev acF:=(fB aeI)
abbrev aeJ:=(aa (ab 1) (aa (fC (.int 0)) zq4))
abbrev aeK:=(aa (ab 0) aeJ)
abbrev aeL:=(ah 4 fT aeK)
abbrev aeM:=(fB aeL)
abbrev acG:=(cR aeM)
abbrev aeN:=(aa (ab 1) (aa (fC (.int 1)) zq4))
abbrev aeO:=(aa (ab 0) aeN)
abbrev aeP:=(ah 4 fT aeO)
abbrev aeQ:=(fB aeP)
abbrev acH:=(cR aeQ)
def mY:aj->Δ Out:=(ax (j5 acF (aQ (fC (.str "full"))) iJ) (ax (j5 acG (aQ (fC (.str "giver"))) iJ) (ax (j5 acH (aQ (fC (.str "taker"))) iJ) (aQ (fC .none)))))
def jb:Γ D->Δ D:=bb mY 3
abbrev aa9:=(aa zq1 ag)
abbrev aba:=(cB aa9)
abbrev aeR:=(ah 3 jb zq6)
abbrev aeS:=(f2 yk aeR (fC .none))
abbrev abb:=(fB aeS)
def fJ:aj->Δ Out:=(ax (e8 [1] aba (vn 2) (j5 abb Yy iJ)) (aQ (fC .none)))
def bQ:Γ D->Δ D:=bb fJ 3
abbrev acI:=(ah 2 bQ Zo)
def mZ:aj->Δ Out:=(aQ (f2 yk acI (fC .none)))
def mU:Γ D->Δ D:=bb mZ 2
abbrev aeT:=(ah 2 bS Zo)
abbrev Zq:=(rJ aeT)
abbrev aeU:=(aa (ab 1) (aa (ab 2) zq2))
abbrev aeV:=(ah 3 jb aeU)
abbrev aeW:=(f2 yk aeV (fC .none))
abbrev acJ:=(fB aeW)
def pw:aj->Δ Out:=(ax Zq (aQ (cU (au 1 [0,1] aba (fG 0) acJ (ab 0)))))
def cx:Γ D->Δ D:=bb pw 2
def y8:aj->Δ Out:=(ax Zq (aQ (ah 2 mU Zo)))
def xj:Γ D->Δ D:=bb y8 2
abbrev abc:=(ah 1 dh zq0)
def ip:aj->Δ Out:=(ax (aF 1 [0] (ah 1 nr zq2)) (aQ (ah 2 iw (aa (ab 1) (aa abc ag)))))
def eJ:Γ D->Δ D:=bb ip 2
def p8:aj->Δ Out:=(aQ (bw ug (aa (cU (au 2 [2,3] (fN (aa (ab 1) (aa (f2 ay (ab 0) (fC (.int 2))) ag))) (gM 0 1) (fB (f2 bC (f2 ay (ab 1) (ab 2)) (ab 3))) (ab 0))) ag)))
def k7:Γ D->Δ D:=bb p8 4
abbrev aeX:=(f2 ay (ab 0) (ab 2))
abbrev acK:=(aa aeX ag)
abbrev aeY:=(bq acK)
abbrev aeZ:=(aa (ab 3) ag)
abbrev acL:=(aa (ab 2) aeZ)
abbrev ae0:=(aa (ab 1) acL)
abbrev ae1:=(aa (ab 0) ae0)
abbrev ae2:=(ah 4 k7 ae1)
abbrev ae3:=(f2 ay (ab 4) (fC (.int 0)))
abbrev ae4:=(f2 FA ae2 ae3)
abbrev abd:=(fB ae4)
abbrev acM:=(aQ (fC (.bool false)))
abbrev ae5:=(j5 abd acM iJ)
abbrev acN:=(e8 [0,2] aeY (gy 3 4) ae5)
def lR:aj->Δ Out:=(ax (e8 [] (cB (aa (fC (.int 2)) ag)) (vn 2) acN) (aQ (fC (.bool true))))
def dJ:Γ D->Δ D:=bb lR 5
abbrev ae6:=(f2 ay (ab 2) (fC (.int 2)))
abbrev abe:=(aa ae6 ag)
abbrev Z0:=(aa (fC (.int 0)) ag)
def ke:aj->Δ Out:=(ax (aF 3 [] (aK ag)) (ax (e8 [2] (bq abe) (gy 4 5) (ax (aF 6 [0,1,3,4,5] (f2 aJ (ab 3) (aK (aa (ah 3 ar (aa (ab 0) (aa (f2 aJ (ab 1) (ab 4)) (aa (f2 aJ (f2 ay (ab 5) (fC (.int 2))) (fC (.int 1))) ag)))) ag)))) (ax (aF 7 [2,6] (ah 2 dJ (aa (ab 2) (aa (f2 aJ (ab 6) (f2 eA (aK Z0) (f2 Dl.fW (bw bO abe) (bw bO (aa (ab 6) ag))))) ag)))) (aF 3 [3,6,7] (M8 (fB (ab 7)) (ab 6) (f2 aJ (ab 3) (aK Z0))))))) (aQ (ab 3))))
def gY:Γ D->Δ D:=bb ke 8
open PySem L2 Dl PySem.Spec PyProof.Rows Ex
abbrev ae7:=(aa (ab 0) acL)
abbrev ae8:=(ah 3 gc ae7)
abbrev acO:=(aR ae8)
abbrev ae9:=(f2 FA (f2 ay (ab 1) (ab 0)) (fC (.int 0)))
abbrev acP:=(fB ae9)
abbrev Zr:=(f1 NY (fC (.int 1)))
def dv:aj->Δ Out:=(aQ (f2 ay (cU (au 1 [1] acO (fG 0) acP (ab 0))) Zr))
def dD:Γ D->Δ D:=bb dv 4
abbrev afa:=(f2 aJ acE (fC (.int 1)))
abbrev afb:=(aa afa ag)
abbrev afc:=(aa (ab 2) afb)
abbrev acQ:=(aa (ab 1) afc)
abbrev afd:=(ah 3 dB acQ)
abbrev acR:=(aF 3 [1,2] afd)
abbrev afe:=(aa (fC (.int 0)) (aa (fC (.int 1)) ag))
abbrev aff:=(aK afe)
abbrev acS:=(aR aff)
abbrev afg:=(aF 5 [0,2,4] (f2 ay aa8 (ab 4)))
abbrev acT:=(aa (ab 5) ag)
abbrev afh:=(aa (ab 4) acT)
abbrev afi:=(aa (ab 1) afh)
abbrev acU:=(aa (ab 0) afi)
abbrev afj:=(ah 4 dH acU)
abbrev afk:=(f2 ay (ab 0) (ab 4))
abbrev afl:=(f2 ay afk (ab 5))
abbrev afm:=(f2 ay afl (fC (.int 0)))
abbrev acV:=(f2 bC afj afm)
abbrev afn:=(fB acV)
abbrev afo:=(ah 4 dD acU)
abbrev afp:=(aF 6 [0,1,4,5] afo)
abbrev afq:=(f2 ay (ab 3) (ab 6))
abbrev afr:=(f2 Dl.fW afq (fC (.int 1)))
abbrev afs:=(aa afr ag)
abbrev aft:=(aa (ab 6) afs)
abbrev acW:=(aa (ab 3) aft)
abbrev afu:=(ah 3 dB acW)
abbrev afv:=(aF 3 [3,6] afu)
abbrev afw:=(ax afp afv)
abbrev acX:=(j5 afn afw iJ)
abbrev aap:=(ax afg acX)
def zj:aj->Δ Out:=(ax acR (ax (e8 [] acS (vn 4) aap) (aQ (ab 3))))
def eY:Γ D->Δ D:=bb zj 7
def sC:aj->Δ Out:=(ax Zq (ax (rJ (ah 2 gx (aa (ab 2) aa9))) (ax (j5 (fB (f2 FI (ab 2) (ah 2 cx Zo))) Q9 iJ) (aQ (ah 3 eY zq6)))))
def lM:Γ D->Δ D:=bb sC 3
abbrev aaq:=(aF 4 [0,1] acI)
abbrev acY:=(f2 nc (ab 4) (fC .none))
abbrev Zs:=(fB acY)
abbrev acZ:=(f2 ay (ab 2) Zr)
abbrev ac0:=(aa acZ aa6)
abbrev aar:=(aa (ab 0) ac0)
abbrev aas:=(ah 3 eY aar)
abbrev aat:=(aF 5 [0,2,4] aas)
abbrev ac1:=(aa (ab 0) acT)
abbrev ac2:=(ah 2 bQ ac1)
abbrev aau:=(aF 4 [0,5] ac2)
def Ot:aj->Δ Out:=(ax Zq (ax (aS 2 [1] (iN zq0)) (ax (vt 3 1 (fC (.bool true))) (ax aaq (ax (BZ Zs (ax aat (ax (uK 5 3 Yy iJ) (ax (i6 2 [5] (ab 5)) (ax (rQ 3 5 (fC (.bool true))) aau)))) Rf.turns) Yy)))))
def mI:Γ D->Δ D:=bb Ot 6
open PySem L2 Dl PySem.Spec PyProof.Rows Ob Og
def ou(C:Ψ):Og.MF:=gP (dM (j1 (rJ (ah 2 bS zq5))) (dM (rK 0 C "ground" (oD (ab 1))) (dM (rK 0 C "present" (oD (ab 2))) (dM (so 0 C "done" zq9) (so 0 C "undone" zq9))))) C 3
def b8(C:Ψ):Og.MF:=gP (dM (Ag 0 C "done" (FY (pW (rD (ab 1)) (pW (Ia 0 C "present") Lg)))) (dM (so 0 C "undone" zq9) (rK 0 C "present" (oD (ab 2))))) C 3
def hU(C:Ψ):Og.MF:=gP (dM (zr (cA 0 C "step_to" 3 (b8 C) (bP (oD (fC (.str "push"))) (bP (mD 3 lM (bP (nq 0 C "ground") (bP (nq 0 C "present") (bP (oD (ab 1)) di)))) di)))) (dU (List.range 2) (jr (mD 2 cx (bP (nq 0 C "ground") (bP (nq 0 C "present") di)))))) C 2
def fS(C:Ψ):Og.MF:=gP (dM (zr (mD 2 bS (bP (nq 0 C "ground") (bP (oD (ab 1)) di)))) (dM (zr (cA 0 C "step_to" 3 (b8 C) (bP (oD (fC (.str "lay"))) (bP (oD (ab 1)) di)))) (dU (List.range 2) (jr (mD 2 cx (bP (nq 0 C "ground") (bP (nq 0 C "present") di))))))) C 2
def cK(C:Ψ):Og.MF:=gP (dM (Ff 1 (mD 2 mI (bP (nq 0 C "ground") (bP (nq 0 C "present") di)))) (dM (zr (cA 0 C "step_to" 3 (b8 C) (bP (oD (fC (.str "settle"))) (bP (oD (f2 ay (ab 1) Zr)) di)))) (dU (List.range 2) (jr (oD (f2 Dl.fW zq1 (fC (.int 1)))))))) C 2
def bH(C:Ψ):Og.MF:=gP (dU (List.range 1) (jr (nq 0 C "present"))) C 1
def eO(C:Ψ):Og.MF:=gP (dU (List.range 1) (jr (SQ 0 C "move" "done" "undone"))) C 1
def dk(C:Ψ):Og.MF:=gP (dU (List.range 1) (jr (oR (FY (pW (vf 0 C "done") (pW (vf 0 C "undone") Lg)))))) C 1
abbrev u6:Γ Str:=["_law_script","_law_world_here","_law_plan_here","_law_floor","_law_rows","_law_some","_law_there","_law_many","_law_other","_law_best"]
def kb(C:Ψ):OG:=(dM (Ff 5 (cA 3 C "push" 2 (hU C) (bP (oD (f2 ay (ab 5) (fC (.int 0)))) di))) (JL (uk (oB (ud dZ (cA 3 C "plan" 1 (bH C) di) (oD (ab 6)))) (oT (fB (f2 dZ (ab 5) (ah 2 cx (aa (ab 1) (aa (ab 6) ag))))))) (dU (List.range 10) (jr (oD (fC (.bool false))))) Kg))
def kj(C:Ψ):OG:=(JL (uk (oB (ud dZ (cA 3 C "lay" 2 (fS C) (bP (oD (ab 9)) di)) (oD (cU zq9)))) (uk (oB (ud dZ (cA 3 C "settle" 1 (cK C) di) (oD (fC (.int 0))))) (oB (ud dZ (cA 3 C "plan" 1 (bH C) di) (oD (ab 9)))))) (dU (List.range 10) (jr (oD (fC (.bool false))))) Kg)
def lZ(C:Ψ):OG:=(dM (j1 (aF 1 [0] (ah 3 cY (aa (ab 0) (aa (fC (.int 0)) (aa (fC (.int 9)) ag)))))) (dM (j1 (aF 2 [0,1] (ah 3 gY (aa (ab 0) (aa (fC (.int 70)) zq0))))) (dM (u0 3 C 3 (ou C) (bP (oD (ab 1)) (bP (oD (ab 2)) di))) (dM (j1 (aF 4 [1,2] (ah 2 mI zq5))) (dM (j1 (aF 5 [1,2] (ah 2 cx zq5))) (dM (Ft [4] (aR (n6 gX (ab 4) (Dw (fC (.int 1))) nU)) (vn 6) (kb C)) (dM (JL (oB (ud dZ (oD (f2 bC (ab 5) (cU zq9))) (mD 2 xj (bP (oD (ab 1)) (bP (cA 3 C "plan" 1 (bH C) di) di))))) (dU (List.range 10) (jr (oD (fC (.bool false))))) Kg) (dM (j1 (aF 7 [4] (f2 Dl.fW (bw bO aa6) (fC (.int 1))))) (dM (JL (oB (ud dZ (cA 3 C "counts" 1 (dk C) di) (oD (aK (aa (ab 7) Z0))))) (dU (List.range 10) (jr (oD (fC (.bool false))))) Kg) (dM (u0 8 C 3 (ou C) (bP (oD (ab 1)) (bP (oD (ab 2)) di))) (dM (JL (uk (oB (ud dZ (cA 8 C "settle" 1 (cK C) di) (oD (ab 7)))) (uk (oB (ud dZ (cA 8 C "plan" 1 (bH C) di) (oD (f2 ay (ab 4) Zr)))) (oB (ud dZ (cA 8 C "counts" 1 (dk C) di) (oD (aK (aa (fC (.int 1)) Z0))))))) (dU (List.range 10) (jr (oD (fC (.bool false))))) Kg) (dM (Ft [1] (aR (aK (aa abc (aa (ah 1 eJ zq0) ag)))) (vn 9) (kj C)) (dM (JL (uk (oB (ud dZ (cA 3 C "back" 1 (eO C) di) (oD (fC (.str "settle"))))) (oB (ud dZ (cA 3 C "back" 1 (eO C) di) (oD (fC (.str "lay")))))) (dU (List.range 10) (jr (oD (fC (.bool false))))) Kg) (dM (JL (oB (ud dZ (cA 3 C "plan" 1 (bH C) di) (oD abc))) (dU (List.range 10) (jr (oD (fC (.bool false))))) Kg) (dU (List.range 10) (jr (FC (ud bC (cA 3 C "lay" 2 (fS C) (bP (oD (ab 2)) di)) (oD (ah 2 cx zq5))) (FC (ud bC (cA 3 C "settle" 1 (cK C) di) (oD (ab 7))) (ud bC (cA 3 C "plan" 1 (bH C) di) (oD (f2 ay (ab 4) Zr)))))))))))))))))))))
def uT(C:Ψ):Γ D->Δ D:=GM (lZ C) 10
end Pg
namespace K73
open PySem L2 Dl PySem.Spec PyProof.Rows
open Pg Ob Og WE
abbrev gi:Γ (Str×Int):=[("MOST_PLACES",4),("MOST",9)]
abbrev Ls:FT:=("_law_plan",3,gY)::("_law_fits",2,dJ)::("_law_used",4,k7)::("_law_world",3,cY)::("_law_orders",3,bW)::("_law_drawn",3,ar)::("_law_cell",2,eX)::("takers_best",1,eJ)::("givers_best",1,dh)::("capped",2,rC)::("steps",1,wu)::("refused",2,iG)::("lowered",3,eI)::("limits",1,sr)::("chosen_by_all",3,bB)::("walk",2,mI)::("pushed",3,lM)::("pushed_on",3,eY)::("least_liked_used",4,dD)::("rests",2,xj)::("leaving",2,cx)::("is_still",2,mU)::("first_leaving",2,bQ)::("why_kept",3,jb)::("wants_more",4,fT)::("chosen_by",4,fv)::("ways_of",3,gc)::("turned_plan",2,iw)::("turned",1,nr)::("turned_order",1,bj)::("replaced",3,dB)::("check_number",2,gx)::("check_whole",3,iu)::("check_plan",2,bS)::("check_world",1,eN)::("is_plan",2,lU)::("keeps_amounts",3,dq)::("through",4,dH)::("is_world",1,dw)::("liked_pairs",1,bG)::("are_parts",3,hJ)::("is_way",3,lL)::("is_end",2,gn)::("are_likes",2,g8)::("is_long",3,bR)::("is_number",2,cW)::("is_whole",3,bM)::[]
abbrev c0:Cg:=⟨"Floor",dm,["ground","present","done","undone"],[],none,none,[("done","undone"),("undone","done")]⟩
abbrev c1:Cg:={ c0 with mv:=some "move" }
abbrev c2:Cg:={ c1 with YK:=some (3,ou dm) }
abbrev c3:Cg:={ c2 with ms:=("step_to",3,b8 dm)::c2.ms }
abbrev c4:Cg:={ c3 with ms:=("push",2,hU dm)::c3.ms }
abbrev c5:Cg:={ c4 with ms:=("lay",2,fS dm)::c4.ms }
abbrev c6:Cg:={ c5 with ms:=("settle",1,cK dm)::c5.ms }
abbrev c7:Cg:={ c6 with ms:=("plan",1,bH dm)::c6.ms }
abbrev c8:Cg:={ c7 with ms:=("back",1,eO dm)::c7.ms }
abbrev c9:Cg:={ c8 with ms:=("counts",1,dk dm)::c8.ms }
abbrev Ez:Γ D->Δ D:=uT dm
def RC:Xp.Sn (top 63) u6 c9 ⟨Ls,gi⟩=some (lZ dm):=by kernel_rfl
structure PZ(K:W.Frag)(mg:Str->Option Value):Prop where
 o:∀P w base,Xp.Gb P w K mg base gi 70 Ls c9
 c:KP K mg "law" (top 63) ["_law_script"]
def Q1{P:ε}{w:δ}{K:Φ}{mg:Str->Δ Θ}{fa:Ψ}(D:PZ K mg)(hfa:mg "law"=some (.ref fa)):∃fd:η,(∀ (s:Ξ) (v:Θ),BindsTo s fd ⟨[v],[]⟩ [("_law_script",v)])/\∀base:ι,K.In base->base.Ns mainGlobals mg->eZ P w K mg base uS 72 fa fd ["_law_script"] (Rn K 1 Ez):=by
 let⟨f,fd,hm,F,hb⟩:=D.c.ex;rw[hfa] at hm;cases hm;refine⟨fd,λs v=>?_,λbase _ _=>R6 F (Rf.Wa (N:=u6)) λX hP hw hK Xs XZ C _ _ HF H pa=>by subst hP;subst hw;subst hK;subst Xs;subst XZ;have o:=D.o X.prog X.w X.base;exact Xp.Jz C o.ok.ob o.ok.of o.ok.oi o.ck.ok RC⟩;sleep 24;exact .of_eq rfl
def walk{l:W.OpenLaw}{q:ε}{loose:Γ Str}{XP:(Str->Δ Θ)->ι->Prop}{YP:δ->ι->Prop}{d:DefRec}{K:Params->Φ}{ts:Γ Ψ}(hn:l.most=some 63)(hdf:d.params.defaults=[])(ac3:d.name="law")
  (hY:∀ (w:δ) (h:ι),YP w h->(K w.params).In h/\∀P∈ts,h.get? P=some (W.tabObj #[])) (ht:∀w:δ,oz (K w.params) ts=true) (hI:∀ (w:δ) {h:ι}{mg:Str->Δ Θ},(K w.params).In h->h.Ns mainGlobals mg->PZ (K w.params) mg) (main:∀ns:Γ Int,ns.length<=63->Ez [.list (ns.map PyData.int)]=some (.bool true)) :
  W.WalkO q loose XP YP l.row.toRowW d [] (λf vs=>PySem.call f vs) :=
 Jc (n:=63) (k:=72) (x:="_law_script") (CX:=λ_=>uS) (sp:=λw=>Rn (K w.params) 1 Ez) hn (by decide) hdf ⟨rfl,by decide,by decide⟩ hY ht (λw mg fa h KX G hmg=>Q1 (hI w KX G) (by rw[<- ac3];exact hmg)) (λ_ _ a ns hl hT hS=>BP hS hT (main ns hl)) λ_ _ _ _ _ z=>z
end K73
namespace Dl
open PySem L2 PySem.Spec PyProof.Rows
def zq:D->Prop|.none=>True|.bool _=>True|.int _=>True|.str x=>PyData.canLay0 (.str x)=true|_=>False
def iW(b:Nat):Nat->D->Prop
 | 0,d=>zq d
 | k+1,d=>zq d\/(∃xs,(d=.list xs\/d=.tuple xs)/\xs.length<=b/\∀x∈xs,iW b k x)
def iW.leaf(h:zq d):iW b k d:=by
 cases k with
 | zero=>exact h
 | succ k=>exact .inl h
def iW.tup(hb:xs.length<=b)(h:∀x∈xs,iW b k x):iW b (k+1) (.tuple xs):=.inr ⟨xs,.inr rfl,hb,h⟩
def iW.lst(hb:xs.length<=b)(h:∀x∈xs,iW b k x):iW b (k+1) (.list xs):=.inr ⟨xs,.inl rfl,hb,h⟩
def iW.WX(h:iW b k (.tuple xs)):∃j,k=j+1/\xs.length<=b/\∀x∈xs,iW b j x:=by
 cases k with
 | zero=>cases h
 | succ k =>
  rcases h with h|⟨ys,h|h,h1,h2⟩
  ·cases h
  ·cases h
  ·cases h;exact⟨k,rfl,h1,h2⟩
def iW.mono(hb:b<=b'):∀ {k k':Nat}{d:D},k<=k'->iW b k d->iW b' k' d
 | 0,k',d,_,h=>.leaf h
 | k+1,0,d,hk,h=>by lia
 | k+1,k'+1,d,hk,h=>by
  rcases h with h|⟨xs,h,h1,h2⟩
  ·exact .inl h
  ·exact .inr ⟨xs,h,yD h1 hb,λx hx=>(h2 x hx).mono hb (by lia)⟩
def Em{b:Nat}:∀ {xs:Γ D},(∀x∈xs,PyData.canLay0 x=true/\x.depth<=k)->PyData.canLayAll0 xs=true/\PyData.depthAll xs<=k
 | [],_=>⟨by simp[PyData.canLayAll0],by simp[PyData.depthAll]⟩
 | x::xs,h=>by
  let⟨a,c⟩:=Em (b:=b) (xs:=xs) λy hy=>h y (zC _ hy);let⟨a',c'⟩:=h x zE;exact⟨by simp[PyData.canLayAll0,a,a'],by simp[PyData.depthAll];lia⟩
def iW.lay:∀ {k:Nat}{d:D},iW b k d->PyData.canLay0 d=true/\d.depth<=k:=by
 have lf:∀ {k:Nat}{d:D},zq d->PyData.canLay0 d=true/\d.depth<=k:=λ{k d} h=>by
  cases d<;>simp?[zq] at h<;>first|exact⟨h,by simp[PyData.depth]⟩|exact⟨by simp[PyData.canLay0],by simp[PyData.depth]⟩
 intro k
 induction k with
 | zero=>exactλh=>lf h
 | succ k ih =>
  intro d h;rcases h with h|⟨xs,h,h1,h2⟩
  ·exact lf h
  ·let⟨a,c⟩:=Em (b:=b) (xs:=xs) λy hy=>ih (h2 y hy);rcases h with rfl|rfl
   ·exact⟨by simp[PyData.canLay0,a],by simp[PyData.depth];lia⟩
   ·exact⟨by simp[PyData.canLay0,a],by simp[PyData.depth];lia⟩
def iW.shaped(h:iW b k d)(hk:k<=64):SeqAt.shaped d=true:=by
 let⟨a,c⟩:=h.lay;simp[SeqAt.shaped,a];lia
def iW.noDict(h:iW b k d):∀kv,d≠.dict kv:=by
 rintro kv rfl;have:=h.lay.1;simp[PyData.canLay0] at this
def p9:D->θ|.dict _=>false|_=>true
def iW.nd(h:iW b k d):p9 d=true:=by
 cases d<;>first|rfl|exact absurd rfl (h.noDict _)
def Vv:D->θ|.int _=>true|.bool _=>true|_=>false
def Vi:D->θ|.bool _=>true|_=>false
def NT:D->θ|.tuple _=>true|_=>false
def kI(h:p9 d=true):xg (ij d) "int"=some (Vv d):=by cases d<;>first|cases h;done|exact MI _ (by simp[ij])
def kB(h:p9 d=true):xg (ij d) "bool"=some (Vi d):=by cases d<;>first|cases h;done|exact J0 _ (by simp[ij])
def kT(h:p9 d=true):xg (ij d) "tuple"=some (NT d):=by cases d<;>first|cases h;done|exact kit_tuple _ (by simp[ij])
def whole(a b:Int):D->θ|.int i=>decide (a<=i)&&decide (i<=b)|_=>false
def vv:∀ {ds:Γ D},(∀d∈ds,∃ρ',tgt ρ d=some ρ'/\te ρ'=some (h d))->cS tgt (λ_=>some true) te ρ ds=some (ds.map h)
 | [],_=>rfl
 | d::ds,hh=>by
  let⟨ρ',h1,h2⟩:=hh d zE;have ih:=vv (ds:=ds) λy hy=>hh y (zC _ hy);unfold cS;rw[h1];simp[h2,ih]
def nh:∀ {ds:Γ D},(∀d∈ds,∃ρ',tgt ρ d=some ρ'/\tt ρ'=some (p d)/\(p d=true->te ρ'=some (h d)))->cS tgt tt te ρ ds=some ((ds.filter p).map h)
 | [],_=>rfl
 | d::ds,hh=>by
  let⟨ρ',h1,h2,h3⟩:=hh d zE;have ih:=nh (ds:=ds) λy hy=>hh y (zC _ hy);unfold cS;rw[h1];simp?[zA,h2];cases hp:p d with
  | true=>rw[yM rfl,h3 hp];simp[ih,jX,hp]
  | false=>simp[ih,jX,hp]
def pM:∀ds:Γ D,boolsOf (ds.map λd=>.bool (p d))=some (ds.map p)
 | []=>rfl
 | d::ds=>by simp[boolsOf,pM ds]
def nJ(ds:Γ D):nL [.list (ds.map λd=>.bool (p d))]=some (.bool (ds.all p)):=by
 simp?[nL,oneOf,zA,pM,zB,List.all_map];rfl
def bo(h:ds.length<=4000):small ds=some ds:=yM (yD h (by decide))
def nC{ds:Γ D}{i:Nat}(h:i < ds.length):uh ds (i:Nat)=some (ds.getD i .none):=by
 have:=yr (xs:=ds) (j:=i) (v:=ds[i]) (List.getElem?_eq_some_iff.mpr ⟨h,rfl⟩);rw[this];simp[List.getD,h]
def DR{ds:Γ D}(h:0 < ds.length):uh ds 0=some (ds.getD 0 .none):=nC (i:=0) h
def An{ds:Γ D}(h:1 < ds.length):uh ds 1=some (ds.getD 1 .none):=nC (i:=1) h
def Na{ds:Γ D}(h:2 < ds.length):uh ds 2=some (ds.getD 2 .none):=nC (i:=2) h
end Dl
namespace Wm
open PySem L2 Dl PySem.Spec PyProof.Rows Pg
variable {cs:Γ Nat}{mo:Int}{i7 i5:Nat}{ks:Γ (Γ Int)}
def AJ(ha:fa ρ=some (.int a))(hb:fb ρ=some (.int i))(hc:fc ρ=some (.int b)):lz EK EK fa fb fc ρ=some (.bool (decide (a<=i)&&decide (i<=b))):=by
 simp?[lz,ha,hb,hc,zA,EK,zg,xI];by_cases h:a<=i<;>simp[h]
def ka(i j:Int):Dl.fW (.int i) (.int j)=some (.int (i - j)):=rfl
def iQ(i j:Int):Dl.aJ (.int i) (.int j)=some (.int (i+j)):=rfl
def xf(d:D):Slot.all (.val d)=some d:=rfl
def zf(ds:Γ D):Slot.all (.own ds)=some (.list ds):=rfl
def Ek:Slot.all .Wh=none:=rfl
def C4(d:D):Slot.WZ (.val d)=some d:=rfl
def Du(ds:Γ D):Slot.WZ (.own ds)=none:=rfl
def Es:Slot.WZ .Wh=none:=rfl
local macro_rules|`(tactic| simp! [$ts,*])=>`(tactic| simp only[bb,ax,j5,aQ,iJ,Bq,qd,cR,fB,gB,Ny,ab,fC,mn,V4,UL,SM,f1,f2,ka,iQ,aa,ag,ah,bw,uu,bO,et,oneOf,fM,aP,xf,zf,Ek,C4,Du,Es,aR,cU,bK,aK,iN,ay,  zI,yV,xG,xP,zL,xM,List.replicate,xR,yZ,qH,kN,zA,Option.bind_none,zB,Option.map_none,Nat.reduceAdd,Nat.reduceSub,jE,Nat.sub_self,xI,reduceIte,$ts,*])
def gH(h:p9 d=true)(a b:Int):bM [d,.int a,.int b]=some (.bool (whole a b d)):=by
 simp! [bM,sk,kI h,kB h];cases d<;>simp[Vv,Vi,whole];rw[AJ rfl rfl rfl]
def kn(h:p9 d=true)(n:Int):cW [d,.int n]=some (.bool (whole 0 (n - 1) d)):=by
 simp! [cW,qf,gH h]
def long(a b:Int):D->θ|.tuple ds=>decide (a<=(ds.length:Int))&&decide ((ds.length:Int)<=b)|_=>false
def eu(h:p9 d=true)(a b:Int):bR [d,.int a,.int b]=some (.bool (long a b d)):=by
 simp! [bR,uR,kT h];cases d<;>simp[NT,long];rw[AJ rfl (i:=_) rfl rfl]
def iY:D->Int|.int i=>i|_=>0
def f9(h:whole a b d=true):d=.int (iY d)/\a<=iY d/\iY d<=b:=by
 cases d<;>simp[whole] at h;exact⟨rfl,h⟩
def mO:∀ {ls:Γ D},ls.all (whole a b)=true->ls=(ls.map iY).map PyData.int
 | [],_=>rfl
 | d::ls,h=>by
  rw[xU,zF] at h;rw[zI,zI,<- (f9 h.1).1,<- mO h.2]
def iZ(n:Int):D->θ|.tuple ls=>ls.all (whole 0 (n - 1))&&decide ((ls.map iY).Nodup)|_=>false
def cX(i j:Int):bC (.int i) (.int j)=some (.bool (decide (i=j))):=by
 simp[bC,LJ,SeqAt.shaped,PyData.canLay0,PyData.depth,PyData.eqv];rfl
def F7(h:ls.all (whole a b)=true)(hl:ls.length<=1000):f2 bC (f1 l9 (λ_=>some (.tuple ls))) (bw bO (aa (λ_=>some (.tuple ls)) ag)) []=some (.bool (decide ((ls.map iY).Nodup))):=by
 have e:=mO h;have e1:l9 (.tuple ls)=some (.int (many (ls.map iY))):=by
  simp?[l9,ma]
  conv=>lhs;rw[e]
  rw[bL,zA,yM];rw[zD];exact jA (Nat.add_le_add_right hl 1) (by decide)
 simp! [e1,cX];have:=CK (ls.map iY);rw[zD] at this;simp?[<- this,Int.ofNat_inj,yL,PyData.bool.injEq]
def Rw(r:Dl.Env)(d:D):fG 0 (none::r) d=some (some d::r):=by simp[fG,isFree]
def b9(Xo:fi ρ=some ds)(hl:ds.length<=4000)(hh:∀d∈ds,te (some d::cs.map λj=>(ρ[j]?).getD none)=some (h d)):au 1 cs fi (fG 0) (λ_=>some true) te ρ=some (ds.map h):=by
 simp?[au,Xo,zA,fA,List.replicate,xG,xP];rw[vv (h:=h) λd hd=>⟨_,Rw _ d,hh d hd⟩,zA,bo (by rw[zD];exact hl)]
def m9(Xo:fi ρ=some ds)(hl:ds.length<=4000)
  (hp:∀d∈ds,tt (some d::cs.map λj=>(ρ[j]?).getD none)=some (p d)) (hh:∀d∈ds,p d=true->te (some d::cs.map λj=>(ρ[j]?).getD none)=some (h d)):au 1 cs fi (fG 0) tt te ρ=some ((ds.filter p).map h):=by
 simp?[au,Xo,zA,fA,List.replicate,xG,xP];rw[nh (p:=p) (h:=h) λd hd=>⟨_,Rw _ d,hp d hd,hh d hd⟩,zA,bo (by rw[zD];exact yD (xQ _ _) hl)]
def A1(h:iW b k d)(hb:b<=1000)(n:Int):g8 [d,.int n]=some (.bool (iZ n d)):=by
 simp! [g8,pR,kT h.nd];cases d<;>try (simp[NT,iZ];done)
 rename_i ls;let⟨j,rfl,hl,hf⟩:=h.WX;have c:=b9 (cs:=[1]) (fi:=aR (ab 0)) (te:=(ah 2 cW (aa (ab 0) (aa (ab 1) ag)))) (h:=λx=>.bool (whole 0 (n - 1) x)) (ρ:=[some (.tuple ls),some (.int n)]) rfl (by lia) λx hx=>by simp! [kn (hf x hx).nd]
 simp! [NT,xZ,yP,c,nJ];cases e:ls.all (whole 0 (n - 1)) with
 | false=>simp[iZ,e]
 | true =>
  have:=F7 e (yD hl hb);simp?[f2,f1,bw,aa,ag,zA,zB] at this;simp! [iZ,e,xZ,yP,jL];simp?[bO,et,oneOf,zA,fM,zB] at this;simp! [this]
def placeOk(n:Int):D->θ|.tuple ds=>decide (ds.length=2)&&(whole 0 9 (ds.getD 0 .none)&&iZ n (ds.getD 1 .none))|_=>false
def jx(g t:Int):D->θ|.tuple ds=>decide (ds.length=3)&&(whole 0 (g - 1) (ds.getD 0 .none)&&(whole 0 (t - 1) (ds.getD 1 .none)&&whole 1 9 (ds.getD 2 .none)))|_=>false
def wt(n:Nat)(ds:Γ D):long (n:Int) (n:Int) (.tuple ds)=decide (ds.length=n):=by
 simp?[long];by_cases h:ds.length=n
 ·simp[h]
 ·rw[zZ h,Bool.and_eq_false_iff,xC,xC];lia
def getD_mem{ds:Γ D}{i:Nat}(h:i < ds.length):ds.getD i .none∈ds:=by simp[List.getD,h]
def z9{b:Nat}(h:iW b k d)(hb:b<=1000)(n:Int):gn [d,.int n]=some (.bool (placeOk n d)):=by
 simp! [gn,Av,eu h.nd];cases d<;>try (simp[long,placeOk];done)
 rename_i ds;let⟨j,rfl,hl,hf⟩:=h.WX;rw[show long 2 2 (.tuple ds)=decide (ds.length=2) from wt 2 ds];by_cases e:ds.length=2
 ·have f0:=hf _ (getD_mem (i:=0) (by lia));have f1:=hf _ (getD_mem (i:=1) (by lia));simp! [e,jQ,DR (show 0 < ds.length by lia),An (show 1 < ds.length by lia),gH f0.nd,A1 f1 hb,placeOk];cases whole 0 9 (ds.getD 0 .none)<;>simp
 ·simp[e,placeOk]
def GR{b:Nat}(h:iW b k d)(hb:b<=1000)(g t:Int):lL [d,.int g,.int t]=some (.bool (jx g t d)):=by
 simp! [lL,AH,eu h.nd];cases d<;>try (simp[long,jx];done)
 rename_i ds;let⟨j,rfl,hl,hf⟩:=h.WX;rw[show long 3 3 (.tuple ds)=decide (ds.length=3) from wt 3 ds];by_cases e:ds.length=3
 ·have f0:=hf _ (getD_mem (i:=0) (by lia));have f1:=hf _ (getD_mem (i:=1) (by lia));have YT:=hf _ (getD_mem (i:=2) (by lia));simp! [e,jQ,xZ,yP,DR (show 0 < ds.length by lia),An (show 1 < ds.length by lia),Na (show 2 < ds.length by lia),gH YT.nd,kn f0.nd,kn f1.nd,jx];cases whole 0 (g - 1) (ds.getD 0 .none)<;>cases whole 0 (t - 1) (ds.getD 1 .none)<;>simp
 ·simp[e,jx]
def cT:D->Γ D|.tuple ds=>ds|_=>[]
def oV(d:D):θ:=long 1 4 d
def ju(g t w:D):θ:=oV g&&(oV t&&((cT g).all (placeOk (cT t).length)&&((cT t).all (placeOk (cT g).length)&&(NT w&&(cT w).all (jx (cT g).length (cT t).length)))))
def lx(h:long a b d=true):d=.tuple (cT d):=by cases d<;>first|rfl|cases h
def p5(hg:iW b k g)(ht:iW b k t)(hw:iW b k w)(hb:b<=1000):hJ [g,t,w]=some (.bool (ju g t w)):=by
 simp! [hJ,p7,eu hg.nd,eu ht.nd,kT hw.nd];unfold ju oV;cases e1:long 1 4 g with
 | false=>simp
 | true =>
  cases e2:long 1 4 t with
  | false=>simp
  | true =>
   obtain⟨gs,rfl⟩:∃gs,g=.tuple gs:=⟨_,lx e1⟩
   obtain⟨ts,rfl⟩:∃ts,t=.tuple ts:=⟨_,lx e2⟩
   let⟨j,rfl,hgl,hgf⟩:=hg.WX;let⟨j',hj,htl,htf⟩:=ht.WX;have c1:=b9 (cs:=[1]) (fi:=aR (ab 0)) (te:=(ah 2 gn (aa (ab 0) (aa (bw bO (aa (ab 1) ag)) ag)))) (h:=λx=>.bool (placeOk ts.length x)) (ρ:=[some (.tuple gs),some (.tuple ts),some w]) rfl (by lia) λx hx=>by simp! [z9 (hgf x hx) hb]
   have c2:=b9 (cs:=[0]) (fi:=aR (ab 1)) (te:=(ah 2 gn (aa (ab 0) (aa (bw bO (aa (ab 1) ag)) ag)))) (h:=λx=>.bool (placeOk gs.length x)) (ρ:=[some (.tuple gs),some (.tuple ts),some w]) rfl (by lia) λx hx=>by simp! [z9 (htf x hx) hb]
   simp! [xZ,yP,c1,nJ,cT,jL];cases e3:gs.all (placeOk ts.length) with
   | false=>simp
   | true =>
    simp! [xZ,yP,c2,nJ,jL];cases e4:ts.all (placeOk gs.length) with
    | false=>simp
    | true =>
     cases hT:NT w with
     | false=>simp! [xZ,yP,kT hw.nd,hT,vZ,Bool.and_false]
     | true =>
     obtain⟨ws,rfl⟩:∃ws,w=.tuple ws:=by cases w<;>first|exact⟨_,rfl⟩|cases hT
     let⟨j2,hj2,Y9,hwf⟩:=hw.WX;have c3:=b9 (cs:=[0,1]) (fi:=aR (ab 2)) (te:=(ah 3 lL (aa (ab 0) (aa (bw bO (aa (ab 1) ag)) (aa (bw bO (aa (ab 2) ag)) ag))))) (h:=λx=>.bool (jx gs.length ts.length x)) (ρ:=[some (.tuple gs),some (.tuple ts),some (.tuple ws)]) rfl (by lia) λx hx=>by simp! [GR (hwf x hx) hb]
     simp! [xZ,yP,c3,nJ,jL,kT hw.nd,NT]
def tV:∀ (a b:Γ Int),PyData.eqvAll (a.map PyData.int) (b.map PyData.int)=decide (a=b)
 | [],[]=>by simp[PyData.eqvAll]
 | [],_::_=>by simp[PyData.eqvAll]
 | _::_,[]=>by simp[PyData.eqvAll]
 | i::a,j::b=>by
  rw[zI,zI,PyData.eqvAll,tV a b];by_cases h:i=j
  ·subst h;simp[PyData.eqv]
  ·simp[PyData.eqv,h]
def Bc:∀ (a b:Γ (Γ Int)),PyData.eqvAll (a.map af) (b.map af)=decide (a=b)
 | [],[]=>by simp[PyData.eqvAll]
 | [],_::_=>by simp[PyData.eqvAll]
 | _::_,[]=>by simp[PyData.eqvAll]
 | x::a,y::b=>by
  rw[zI,zI,PyData.eqvAll,Bc a b,af,af,PyData.eqv,tV];by_cases h:x=y
  ·subst h;simp
  ·simp[h]
def gW(i:Int):iW b k (.int i):=.leaf trivial
def Dd(h:r.length<=b):iW b (k+1) (af r):=.tup (by rw[zD];exact h) λx hx=>by
 let⟨i,_,rfl⟩:=List.mem_map.mp hx;exact gW i
def Jv{b k:Nat}{a:Γ (Γ Int)}(h:a.length<=b)(hr:∀r∈a,r.length<=b):iW b (k+2) (.list (a.map af)):=.lst (by rw[zD];exact h) λx hx=>by
 let⟨r,X4,rfl⟩:=List.mem_map.mp hx;exact Dd (hr r X4)
def Fg(a:Γ (Γ Int)):∃b,a.length<=b/\∀r∈a,r.length<=b:=by
 induction a with
 | nil=>exact⟨0,yN _,λr h=>by cases h⟩
 | cons x a ih =>
  let⟨b,h1,h2⟩:=ih;refine⟨b+1+x.length,by rw[zL];lia,λr hr=>?_⟩;rcases List.mem_cons.mp hr with rfl|hr
  ·lia
  ·have:=h2 r hr;lia
def zv(a:Γ (Γ Int)):SeqAt.shaped (.list (a.map af))=true:=by
 let⟨b,h1,h2⟩:=Fg a;exact (Jv (b:=b) (k:=0) h1 h2).shaped (by decide)
def FG(a b:Γ (Γ Int)):bC (.list (a.map af)) (.list (b.map af))=some (.bool (decide (a=b))):=by
 simp?[bC,LJ,zv,jP,xI,PyData.eqv,Bc,zB]
def lD(d:D):Γ Int:=(cT ((cT d).getD 1 .none)).map iY
def jj(h:placeOk n d=true):∃a ds,d=.tuple ds/\ds.length=2/\ds.getD 0 .none=.int a/\0<=a/\a<=9/\ds.getD 1 .none=.tuple ((lD d).map PyData.int)/\(lD d).Nodup/\∀j∈lD d,0<=j/\j<=n - 1:=by
 cases d<;>simp?[placeOk] at h<;>try cases h
 rename_i ds;simp?[zF,zJ] at h;let⟨h1,h2,h3⟩:=h;have e:lD (.tuple ds)=(cT (ds.getD 1 .none)).map iY:=rfl;rw[e];generalize hl:ds.getD 1 .none=l at h3;cases l<;>simp?[iZ] at h3<;>try cases h3
 rename_i ls;simp?[zF,zJ] at h3;let⟨w1,w2,w3⟩:=f9 h2;refine⟨_,ds,rfl,h1,w1,w2,w3,?_,h3.2,λj hj=>?_⟩
 ·rw[show cT (.tuple ls)=ls from rfl,<- mO h3.1];exact hl
 ·let⟨x,hx,rfl⟩:=List.mem_map.mp hj;exact (f9 (List.all_eq_true.mp h3.1 x hx)).2
def m8(k:Nat):Γ D->Γ (Γ Int)|[]=>[]|p::ps=>(lD p).map (λj=>[((k:Nat):Int),j])++m8 (k+1) ps
def sv:∀ (n:Nat) {l:Γ Int},l.Nodup->(∀j∈l,0<=j/\j<=(n:Int) - 1)->l.length<=n:=by
 intro n l hn h;have hs:l.map Int.toNat ⊆ List.range n:=λx hx=>by
  let⟨j,hj,rfl⟩:=List.mem_map.mp hx;have:=h j hj;exact List.mem_range.mpr (by lia)
 have Ym:(l.map Int.toNat).Nodup:=by
  refine List.pairwise_map.mpr (hn.imp_of_mem λ{x y} hx hy WN e=>WN ?_);have:=h x hx;have:=h y hy;lia
 have:=List.Nodup.length_le_of_subset Ym hs;sleep 14
def xq{n:Nat}:∀ {ps:Γ D}{k:Nat},(∀p∈ps,placeOk n p=true)->(m8 k ps).length<=ps.length * n
 | [],k,_=>xW _
 | p::ps,k,h=>by
  let⟨_,_,_,_,_,_,_,_,hn,hr⟩:=jj (h p zE);have h1:=sv n hn hr;have h2:=xq (ps:=ps) (k:=k+1) λq hq=>h q (zC _ hq);rw[m8,zN,zD,zL,Nat.succ_mul];lia
def pB:aj->Δ Out:=E3 1 [2,3] (au 1 [2] (aR (f2 ay (ab 3) (fC (.int 1)))) (fG 0) (λ_=>some true) (aK (aa (ab 1) (aa (ab 0) ag))))
def ye{n:Nat}{p:D}{acc:Γ D}(hp:placeOk n p=true)(hn:n<=100)(ha:acc.length<=1000):pB [.val x,.own acc,.val (.int (k:Nat)),.val p]=some (.nx [.val x,.own (acc++((lD p).map λj=>af [((k:Nat):Int),j])),.val (.int (k:Nat)),.val p]):=by
 let⟨a,ds,rfl,hl,_,_,_,h1,Ym,hr⟩:=jj hp;have hb:=sv n Ym hr;generalize lD (.tuple ds)=ls at *;have c:=b9 (cs:=[2]) (fi:=aR (f2 ay (ab 3) (fC (.int 1)))) (te:=aK (aa (ab 1) (aa (ab 0) ag))) (h:=λy=>.tuple [.int (k:Nat),y]) (ρ:=[some x,none,some (.int (k:Nat)),some (.tuple ds)]) (ds:=ls.map PyData.int)
  (by simp! [An (show 1 < ds.length by lia),h1]) (by rw[zD];lia) λy hy=>by
   simp! [bo (show [PyData.int (k:Nat),y].length<=4000 by simp)]
 have hh:hand [2,3] 0 [Slot.val x,.own acc,.val (.int (k:Nat)),.val (.tuple ds)]=[Slot.val x,.own acc,.val (.int (k:Nat)),.val (.tuple ds)]:=rfl;simp?[pB,E3,hh,bg,zI,yV,Slot.WZ,c,zA,oA,yZ,xR];rw[yM]
 ·simp?[zB,yX,yW,zM];rfl
 ·simp?[zD];exact yD (show acc.length+ls.length<=1100 by lia) (by decide)
def v8{n:Nat}(hn:n<=100):∀ {ps:Γ D}{k:Nat}{acc:Γ D}{s2 s3:Slot},(∀p∈ps,placeOk n p=true)->acc.length+ps.length * n<=1000 ->
  ∃t2 t3,d6 (gy 2 3) pB (bF k ps) [.val x,.own acc,s2,s3]=some (.nx [.val x,.own (acc++(m8 k ps).map af),t2,t3])
 | [],k,acc,s2,s3,_,_=>⟨s2,s3,by simp[bF,d6,m8]⟩
 | p::ps,k,acc,s2,s3,h,hl=>by
  have hp:=h p zE;let⟨_,_,_,_,_,_,_,_,Ym,hr⟩:=jj hp;have hb:=sv n Ym hr;rw[zL,Nat.succ_mul] at hl;let⟨t2,t3,e⟩:=v8 hn (x:=x) (ps:=ps) (k:=k+1) (acc:=acc++((lD p).map λj=>af [((k:Nat):Int),j])) (s2:=.val (.int (k:Nat))) (s3:=.val p) (λq hq=>h q (zC _ hq)) (by rw[zN,zD];lia);refine⟨t2,t3,?_⟩;have hs:gy 2 3 [.val x,.own acc,s2,s3] (.tuple [.int (k:Nat),p])=some [.val x,.own acc,.val (.int (k:Nat)),.val p]:=rfl;simp?[bF,d6,hs,zA,ye hp hn (show acc.length<=1000 by lia)];rw[e];simp[m8,zM,wW]
def C5{n:Nat}{ps:Γ D}(h:∀p∈ps,placeOk n p=true)(hn:n<=100)(hl:ps.length * n<=1000):bG [.tuple ps]=some (.list ((m8 0 ps).map af)):=by
 let⟨t2,t3,e⟩:=v8 hn (x:=.tuple ps) (k:=0) (acc:=[]) (s2:=.Wh) (s3:=.Wh) h (by simpa using hl);have hs:aS 1 [] (iN ag) [Slot.val (.tuple ps),.Wh,.Wh,.Wh]=some (.nx [.val (.tuple ps),.own [],.Wh,.Wh]):=rfl;have hh:hand [0] 0 [Slot.val (.tuple ps),.own [],.Wh,.Wh]=[Slot.val (.tuple ps),.own [],.Wh,.Wh]:=rfl;have hf:bq (aa (ab 0) ag) (bg [Slot.val (.tuple ps),.own [],.Wh,.Wh])=some (bF 0 ps):=rfl;simp! [bG,mC,hs,e8,hh,hf];rw[show E3 1 [2,3] (au 1 [2] (aR (f2 ay (ab 3) (fC (.int 1)))) (fG 0) (λ_=>some true) (aK (aa (ab 1) (aa (ab 0) ag))))=pB from rfl,e];simp! []
def fK(d:D):Γ Int:=[iY ((cT d).getD 0 .none),iY ((cT d).getD 1 .none)]
def BV(h:jx g t d=true):∃ds c,d=.tuple ds/\ds.length=3/\ds.getD 0 .none=.int (iY (ds.getD 0 .none))/\ds.getD 1 .none=.int (iY (ds.getD 1 .none))/\ds.getD 2 .none=.int c/\1<=c/\c<=9 /\
  0<=iY (ds.getD 0 .none)/\iY (ds.getD 0 .none)<=g - 1/\0<=iY (ds.getD 1 .none)/\iY (ds.getD 1 .none)<=t - 1:=by
 cases d<;>simp?[jx] at h<;>try cases h
 rename_i ds;simp?[zF,zJ] at h;let⟨h1,h2,h3,h4⟩:=h;have a:=f9 h2;have b:=f9 h3;have c:=f9 h4;exact⟨ds,_,rfl,h1,a.1,b.1,c.1,c.2.1,c.2.2,a.2.1,a.2.2,b.2.1,b.2.2⟩
def Bu(g t w:D):θ:=decide ((cT w).map fK=ua (m8 0 (cT g)))&&decide ((cT w).map fK=ua ((m8 0 (cT t)).map List.reverse))
def T3(d:D):θ:=long 3 3 d&&(ju ((cT d).getD 0 .none) ((cT d).getD 1 .none) ((cT d).getD 2 .none)&&Bu ((cT d).getD 0 .none) ((cT d).getD 1 .none) ((cT d).getD 2 .none))
def md:∀ {ps:Γ D}{k:Nat},∀r∈m8 k ps,∃i j,r=[i,j]
 | [],k,r,h=>by cases h
 | p::ps,k,r,h=>by
  rcases List.mem_append.mp h with h|h
  ·let⟨j,_,rfl⟩:=List.mem_map.mp h;exact⟨_,_,rfl⟩
  ·exact md r h
def nO(h:∀r∈a,∃i j,r=[i,j])(hl:a.length < 64):gU [.list (a.map af)]=some ((ua a).map af):=by
 have:∀ns∈a,ns≠[]:=λns hn=>by let⟨i,j,rfl⟩:=h ns hn;exact List.cons_ne_nil _ _
 simp?[gU,oneOf,zA,mF this,yM hl]
def uO:∀ {a:Γ (Γ Int)},(∀r∈a,∃i j,r=[i,j])->cS (gM 0 1) (λ_=>some true) (aK (aa (ab 1) (aa (ab 0) ag))) [none,none] (a.map af)=some ((a.map List.reverse).map af)
 | [],_=>rfl
 | r::a,h=>by
  let⟨i,j,rfl⟩:=h r zE;have ih:=uO (a:=a) λq hq=>h q (zC _ hq);have e:gM 0 1 [none,none] (af [i,j])=some [some (.int i),some (.int j)]:=rfl;rw[zI,cS,e,zA,zA,yM rfl,ih];simp! [bo (show [PyData.int j,.int i].length<=4000 by simp)];rfl
def F0{a:Γ (Γ Int)}(Xo:fi ρ=some (a.map af))(hl:a.length<=4000)(h:∀r∈a,∃i j,r=[i,j]):au 2 [] fi (gM 0 1) (λ_=>some true) (aK (aa (ab 1) zq2)) ρ=some ((a.map List.reverse).map af):=by
 simp?[au,Xo,zA,fA,List.replicate,xG,xP,yV];rw[uO h,zA,bo (by rw[zD,zD];exact hl)]
def A3(h:ju g t w=true):∃gs ts ws,g=.tuple gs/\t=.tuple ts/\w=.tuple ws/\1<=gs.length/\gs.length<=4/\1<=ts.length/\ts.length<=4/\(∀p∈gs,placeOk ts.length p=true)/\(∀p∈ts,placeOk gs.length p=true)/\∀x∈ws,jx gs.length ts.length x=true:=by
 simp?[ju,oV,zF] at h;let⟨h1,h2,h3,h4,h5,h6⟩:=h;cases w<;>try cases h5
 rename_i ws;have e1:=lx h1;have e2:=lx h2;generalize cT g=gs at *;generalize cT t=ts at *;subst e1 e2;simp?[long,zF,zJ] at h1 h2;exact⟨gs,ts,ws,rfl,rfl,rfl,by lia,by lia,by lia,by lia,List.all_eq_true.mp h3,List.all_eq_true.mp h4,List.all_eq_true.mp h6⟩
def BS{b:Nat}(h:iW b k d)(hb:b<=1000):dw [d]=some (.bool (T3 d)):=by
 unfold T3;cases e1:long 3 3 d with
 | false=>simp! [dw,jq,eu h.nd,e1,Bool.not_false,vZ]
 | true =>
  obtain⟨ds,rfl⟩:∃ds,d=.tuple ds:=⟨_,lx e1⟩
  let⟨j,rfl,hl,hf⟩:=h.WX;rw[show long 3 3 (.tuple ds)=decide (ds.length=3) from wt 3 ds,zJ] at e1;have f0:=hf _ (getD_mem (i:=0) (by lia));have f1:=hf _ (getD_mem (i:=1) (by lia));have YT:=hf _ (getD_mem (i:=2) (by lia));have i0:=DR (show 0 < ds.length by lia);have i1:=An (show 1 < ds.length by lia);have i2:=Na (show 2 < ds.length by lia);have el:bR [.tuple ds,.int 3,.int 3]=some (.bool true):=by rw[eu rfl,show long 3 3 (.tuple ds)=decide (ds.length=3) from wt 3 ds,yA e1]
  rw[show cT (.tuple ds)=ds from rfl,jL];generalize hg:ds.getD 0 .none=g at *;generalize ht:ds.getD 1 .none=t at *;generalize hw:ds.getD 2 .none=w at *;cases e2:ju g t w with
  | false=>simp! [dw,jq,el,i0,i1,i2,p5 f0 f1 YT hb,e2,Bool.not_false,xZ,vZ]
  | true =>
   let⟨gs,ts,ws,rfl,rfl,rfl,g1,g4,t1,t4,hG,hT,hW⟩:=A3 e2;have hfw:=YT.WX;let⟨j2,_,Y9,_⟩:=hfw;have q1:=xq (k:=0) hG;have q2:=xq (k:=0) hT;have m1:gs.length * ts.length<=16:=vX g4 t4;have m2:ts.length * gs.length<=16:=vX t4 g4;have l1:=C5 hG (by lia) (by lia);have l2:=C5 hT (by lia) (by lia);have s1:=nO (a:=m8 0 gs) md (by lia);have s2:=nO (a:=(m8 0 ts).map List.reverse) (λr hr=>by
    let⟨q,hq,rfl⟩:=List.mem_map.mp hr;let⟨i,j,rfl⟩:=md q hq;exact⟨j,i,rfl⟩) (by rw[zD];lia)
   have c1:au 1 [] (aR (f2 ay (ab 0) (fC (.int 2)))) (fG 0) (λ_=>some true) (aK (aa (f2 ay (ab 0) (fC (.int 0))) (aa (f2 ay (ab 0) (fC (.int 1))) ag))) [some (.tuple ds),none,none,none]=some ((ws.map fK).map af):=by
    rw[b9 (ds:=ws) (h:=λx=>af (fK x)) (by simp! [i2]) (by lia) λx hx=>?_,zM]
    ·rfl
    ·let⟨vs,c,rfl,v3,v0,v1,_⟩:=BV (hW x hx);simp! [DR (show 0 < vs.length by lia),An (show 1 < vs.length by lia),bo (show [vs.getD 0 PyData.none,vs.getD 1 .none].length<=4000 by simp),af,fK,cT];rw[<- v0,<- v1]
   have c2:∀x y z,au 2 [] (aR (ah 1 bG (aa (f2 ay (ab 0) (fC (.int 1))) ag))) (gM 0 1) (λ_=>some true) (aK (aa (ab 1) (aa (ab 0) ag))) [some (.tuple ds),x,y,z]=some (((m8 0 ts).map List.reverse).map af):=λx y z =>
    F0 (by simp! [i1,l2]) (by lia) md
   have st1:aS 1 [0] (au 1 [] (aR (f2 ay (ab 0) (fC (.int 2)))) (fG 0) (λ_=>some true) (aK (aa (f2 ay (ab 0) (fC (.int 0))) (aa (f2 ay (ab 0) (fC (.int 1))) ag)))) [Slot.val (.tuple ds),.Wh,.Wh,.Wh]=some (.nx [.val (.tuple ds),.own ((ws.map fK).map af),.Wh,.Wh]):=by
    have hh:hand [0] 0 [Slot.val (.tuple ds),.Wh,.Wh,.Wh]=[Slot.val (.tuple ds),.Wh,.Wh,.Wh]:=rfl;simp?[aS,hh,bg,zI,yV,Slot.WZ,c1,zB,yX,yW]
   have X2:aS 2 [0] (uu gU (aa (ah 1 bG (aa (f2 ay (ab 0) (fC (.int 0))) ag)) ag)) [Slot.val (.tuple ds),.own ((ws.map fK).map af),.Wh,.Wh]=some (.nx [.val (.tuple ds),.own ((ws.map fK).map af),.own ((ua (m8 0 gs)).map af),.Wh]):=by
    have hh:hand [0] 0 [Slot.val (.tuple ds),.own ((ws.map fK).map af),.Wh,.Wh]=[Slot.val (.tuple ds),.own ((ws.map fK).map af),.Wh,.Wh]:=rfl;simp?[aS,hh,bg,zI,yV,Slot.WZ];simp! [i0,l1,s1,yX,yW]
   have ZF:aS 3 [0] (uu gU (aa (cU (au 2 [] (aR (ah 1 bG (aa (f2 ay (ab 0) (fC (.int 1))) ag))) (gM 0 1) (λ_=>some true) (aK (aa (ab 1) (aa (ab 0) ag))))) ag)) [Slot.val (.tuple ds),.own ((ws.map fK).map af),.own ((ua (m8 0 gs)).map af),.Wh]
      =some (.nx [.val (.tuple ds),.own ((ws.map fK).map af),.own ((ua (m8 0 gs)).map af),.own ((ua ((m8 0 ts).map List.reverse)).map af)]):=by
    have hh:hand [0] 0 [Slot.val (.tuple ds),.own ((ws.map fK).map af),.own ((ua (m8 0 gs)).map af),.Wh]=[Slot.val (.tuple ds),.own ((ws.map fK).map af),.own ((ua (m8 0 gs)).map af),.Wh]:=rfl;simp?[aS,hh,bg,zI,yV,Slot.WZ];simp! [c2,s2,yX,yW]
   simp! [dw,jq,el,i0,i1,i2,p5 f0 f1 YT hb,e2,xZ,yP,st1,X2,ZF,FG,Bu,cT,jL];by_cases hq:List.map fK ws=ua (m8 0 gs)<;>simp[hq]
def tY(xs:Γ D):PyData.eqvAll xs []=xs.isEmpty:=by cases xs<;>simp[PyData.eqvAll]
def Cw:SeqAt.shaped (.list [])=true:=by simp[SeqAt.shaped,PyData.canLay0,PyData.canLayAll0,PyData.depth,PyData.depthAll]
def IR(h:∀x∈xs,iW b k x)(hk:k<=60):bC (.list xs) (.list [])=some (.bool xs.isEmpty):=by
 have hs:SeqAt.shaped (.list xs)=true:=(iW.lst (b:=max b xs.length) (k:=k) (Nat.le_max_right _ _) λx hx=>(h x hx).mono (Nat.le_max_left _ _) (yN _)).shaped (by lia);simp?[bC,LJ,hs,Cw,jP,xI,PyData.eqv,tY,zB]
def iO:small []=some []:=rfl
def Gj(xs:Γ α)(k:Nat):cut xs none (some (k:Int))=xs.take k:=by
 simp?[cut,HT.Al,HT.DN,List.drop_zero,Nat.sub_zero];rw[List.take_eq_take_iff];lia
def AV(xs:Γ α)(k:Nat):cut xs (some (k:Int)) none=xs.drop k:=by
 simp?[cut,HT.Al,HT.DN];rw[kK (by rw[qJ];lia)];by_cases h:k<=xs.length
 ·rw[Nat.min_eq_left h]
 ·rw[Nat.min_eq_right (by lia),List.drop_of_length_le (yN _),List.drop_of_length_le (by lia)]
def g9(b:θ):gB (.bool b)=some b:=rfl
def Cq(a b:D):small [a,b]=some [a,b]:=rfl
def nZ:∀ (ρ:aj) (k:Nat),hand [] k ρ=ρ
 | [],k=>rfl
 | s::r,k=>by simp[hand,nZ r]
def rm:∀ {ps:Γ D}{k:Nat}{i j:Int},[i,j]∈m8 k ps↔∃m p,ps[m]?=some p/\i=((k+m:Nat):Int)/\j∈lD p
 | [],k,i,j=>by simp[m8]
 | p::ps,k,i,j=>by
  rw[m8,List.mem_append,rm (ps:=ps)];constructor
  ·rintro (h|⟨m,q,h1,h2,h3⟩)
   ·let⟨y,hy,e⟩:=List.mem_map.mp h;injection e with e1 e2
    injection e2 with e2 _
    exact⟨0,p,rfl,by simpa using e1.symm,e2 ▸ hy⟩
   ·exact⟨m+1,q,by simpa using h1,by rw[h2];congr 1;lia,h3⟩
  ·rintro⟨m,q,h1,h2,h3⟩;cases m with
   | zero =>
    simp at h1;subst h1;exact .inl (List.mem_map.mpr ⟨j,h3,by rw[h2];rfl⟩)
   | succ m=>exact .inr ⟨m,q,by simpa using h1,by rw[h2];congr 1;lia,h3⟩
def uL:∀ {ps:Γ D}{k:Nat},(∀p∈ps,(lD p).Nodup)->(m8 k ps).Nodup
 | [],k,_=>List.nodup_nil
 | p::ps,k,h=>by
  rw[m8,wV];refine⟨List.pairwise_map.mpr ((h p zE).imp λWN e=>WN ?_),uL λq hq=>h q (zC _ hq),?_⟩;rotate_left
  ·injection e with _ e2
   injection e2
  ·rintro a ha b hb rfl;let⟨y,hy,rfl⟩:=List.mem_map.mp ha;let⟨m,q,h1,h2,h3⟩:=rm.mp hb;lia
def SG(h:Dl.lexLt a b=true):lexLe a b=true:=by
 unfold lexLe;cases e:Dl.lexLt b a with
 | false=>rfl
 | true=>have:=eF h e;rw[gz] at this;cases this
def fx(h:uw i j):Dl.eA (.int i) (.int j)=some (.int (i * j)):=by
 simp?[Dl.eA,zg,yM h,Option.some_or]
def iH(h:0 < j):Dl.mq (.int i) (.int j)=some (.int (i % j)):=yM h
def kq(h:0 < j/\j < 1073741824):Dl.nj (.int i) (.int j)=some (.int (i / j)):=yM h
def fX(i j:Int):Dl.FA (.int i) (.int j)=some (.bool (decide (j < i))):=rfl
def n9(i j:Int):Dl.Ga (.int i) (.int j)=some (.bool (decide (i < j))):=rfl
def mJ(h:-(2 ^ 64) < i/\i < 2 ^ 64):uw i j:=.inl h
def Pq(h:-(2 ^ 64) < j/\j < 2 ^ 64):uw i j:=.inr h
def AW(i:Int):Dl.lj (.int i)=true:=rfl
def A5(i:Γ D):Dl.lj (.tuple i)=false:=rfl
def cM(ns:Γ Int):D:=.list (ns.map PyData.int)
def QD(k:Int)(hl:ns.length<=63):∃c,eX [cM ns,.int k]=some (.int c):=by
 have heq:bC (.list (ns.map PyData.int)) (.list [])=some (.bool ns.isEmpty):=by
  have:=IR (b:=0) (k:=0) (xs:=ns.map PyData.int) (λx hx=>by let⟨i,_,rfl⟩:=List.mem_map.mp hx;exact gW i) (by decide);rw[this];cases ns<;>rfl
 by_cases hn:ns=[]
 ·subst hn;refine⟨7 * k,?_⟩;rw[yV,List.isEmpty_nil] at heq;simp! [eX,k6,cM,iO,heq,List.isEmpty_nil,fx (mJ (i:=7) (j:=k) (by decide))]
 ·have XR:(0:Int) < (ns.length:Int):=by have:=List.length_pos_iff.mpr hn;lia
  have he:ns.isEmpty=false:=by cases ns<;>first|rfl|exact absurd rfl hn
  let⟨j,hj⟩:=vJ (vU k (show (ns.length:Int)≠0 by lia));have WK:=kZ k XR;have hx:uh (ns.map PyData.int) (k % (ns.length:Int))=some (.int (ns.getD j 0)):=by
   rw[hj];have:j < (ns.map PyData.int).length:=by rw[zD];lia
   rw[nC this,zG,zO,zG];rw[zK (by lia)];rfl
  refine⟨ns.getD j 0+6553 * (k / (ns.length:Int)),?_⟩;simp! [eX,k6,cM,iO,heq,he,yP,zD,iH XR,hx,kq (i:=k) (j:=(ns.length:Int)) ⟨XR,by lia⟩,fx (mJ (i:=6553) (j:=k / (ns.length:Int)) (by decide))]
def KJ(k many:Int)(hl:ns.length<=63)(hm:0 < many):∃r,ar [cM ns,.int k,.int many]=some (.int r)/\0<=r/\r < many:=by
 let⟨c,hc⟩:=QD k hl;have m1:∀i:Int,Dl.mq (.int i) (.int 2147483563)=some (.int (i % 2147483563)):=λi=>iH (by decide);have m2:∀i:Int,Dl.mq (.int i) (.int 2147483399)=some (.int (i % 2147483399)):=λi=>iH (by decide);have m3:∀i:Int,Dl.mq (.int i) (.int 2147483647)=some (.int (i % 2147483647)):=λi=>iH (by decide);have d1:∀i:Int,Dl.nj (.int i) (.int 3)=some (.int (i / 3)):=λi=>kq (by decide);have d2:∀i:Int,Dl.nj (.int i) (.int 7)=some (.int (i / 7)):=λi=>kq (by decide);have d3:∀i:Int,Dl.nj (.int i) (.int 11)=some (.int (i / 11)):=λi=>kq (by decide);have u1:∀i:Int,Dl.eA (.int i) (.int 69069)=some (.int (i * 69069)):=λi=>fx (Pq (by decide));have u2:∀i:Int,Dl.eA (.int 104723) (.int i)=some (.int (104723 * i)):=λi=>fx (mJ (by decide));have b1:∀x:Int,Dl.eA (.int (x % 2147483563)) (.int (x % 2147483563))=some (.int (x % 2147483563 * (x % 2147483563))):=λx=>fx (mJ (by
  have:=vU x (show (2147483563:Int)≠0 by decide);have:=kZ x (show (0:Int) < 2147483563 by decide);lia))
 have b2:∀x:Int,Dl.eA (.int (x % 2147483399)) (.int (x % 2147483399))=some (.int (x % 2147483399 * (x % 2147483399))):=λx=>fx (mJ (by
  have:=vU x (show (2147483399:Int)≠0 by decide);have:=kZ x (show (0:Int) < 2147483399 by decide);lia))
 suffices h:∃x,ar [cM ns,.int k,.int many]=some (.int (x % many)) by
  let⟨x,hx⟩:=h;exact⟨_,hx,vU x (show many≠0 by lia),kZ x hm⟩
 ·refine⟨(((((c % 2147483563 * 69069+104723 * (k+1)) % 2147483563) * ((c % 2147483563 * 69069+104723 * (k+1)) % 2147483563)+((c % 2147483563 * 69069+104723 * (k+1)) % 2147483563) / 3) % 2147483399) * ((((c % 2147483563 * 69069+104723 * (k+1)) % 2147483563) * ((c % 2147483563 * 69069+104723 * (k+1)) % 2147483563)+((c % 2147483563 * 69069+104723 * (k+1)) % 2147483563) / 3) % 2147483399)+((((c % 2147483563 * 69069+104723 * (k+1)) % 2147483563) * ((c % 2147483563 * 69069+104723 * (k+1)) % 2147483563)+((c % 2147483563 * 69069+104723 * (k+1)) % 2147483563) / 3) % 2147483399) / 7) % 2147483647 / 11,?_⟩;simp! [ar,ny,hc,m1,u1,u2,Dl.aF,AW,yX,yW,b1,d1,m2,b2,d2,m3,d3,iH (j:=many) hm]
def dr(ns:Γ Int)(k many:Int):Int:=iY ((ar [cM ns,.int k,.int many]).getD .none)
def gE(k many:Int)(hl:ns.length<=63)(hm:0 < many):ar [cM ns,.int k,.int many]=some (.int (dr ns k many))/\0<=dr ns k many/\dr ns k many < many:=by
 let⟨r,h1,h2⟩:=KJ k many hl hm;have:dr ns k many=r:=by simp?[dr,h1,qH,iY]
 rw[this];exact⟨h1,h2⟩
def vj(k many:Int)(hl:ns.length<=63)(hm:0 < many):ar [cM ns,.int k,.int many]=some (.int (dr ns k many)):=(gE k many hl hm).1
def NP(k many:Int)(hl:ns.length<=63)(hm:0 < many):0<=dr ns k many:=(gE k many hl hm).2.1
def NS(k many:Int)(hl:ns.length<=63)(hm:0 < many):dr ns k many < many:=(gE k many hl hm).2.2
def cy(r:Γ Int):D:=.list (r.map PyData.int)
def insI(ds:Γ Int)(k:Int)(d:Int):Γ Int:=let j:=if k < 0 then (k+(ds.length:Int)).toNat else min k.toNat ds.length;ds.take j++d::ds.drop j
def E8(ds:Γ Int)(k d:Int):Eu (ds.map PyData.int) k (.int d)=(insI ds k d).map PyData.int:=by
 simp?[Eu,insI,zD,jB,zI,List.map_take,List.map_drop]
def insI_perm(ds:Γ Int)(k d:Int):(insI ds k d).Perm (d::ds):=by
 simp?[insI];refine List.perm_middle.trans ?_;rw[List.take_append_drop]
def oB:aj->Δ Out:=(Gv 6 [8] (ah 3 ar (aa (ab 0) (aa (f2 aJ (f2 aJ (ab 1) (f2 eA (fC (.int 4)) (ab 4))) (ab 7)) (aa (f2 aJ (bw bO (aa (ab 6) ag)) (fC (.int 1))) ag)))) (ab 8))
def Pd{s3:Slot}(hl:ns.length<=63)(ho:order.length<=1000) :
  oB [.val (cM ns),.val (.int a),s2,s3,.val (.int k),s5,.own (order.map PyData.int),.val (.int j),.val (.int x)] =
   some (.nx [.val (cM ns),.val (.int a),s2,s3,.val (.int k),s5,.own ((insI order (dr ns (a+4 * k+j) ((order.length:Int)+1)) x).map PyData.int),.val (.int j),.val (.int x)]):=by
 have h4:Dl.eA (.int 4) (.int k)=some (.int (4 * k)):=fx (mJ (by decide));have hd:=gE (ns:=ns) (a+4 * k+j) ((order.length:Int)+1) hl (by lia);have hr:FK (dr ns (a+4 * k+j) ((order.length:Int)+1))=true:=by
  simp?[FK,zF,zJ];lia
 have hz:(order.map PyData.int).length < sizeLine:=by rw[zD];exact jA ho (by decide)
 simp! [oB,Gv,k8,AW,oA,zD,h4,hd.1];rw[zD] at hz;simp?[hr,hz,jP,xI,zB,E8,yX,yW]
def GK{s3:Slot}(hl:ns.length<=63):∀ {row order:Γ Int}{j:Nat}{s7 s8:Slot},order.length+row.length<=1000 ->
  ∃ (o:Γ Int) (t7 t8:Slot),d6 (gy 7 8) oB (bF j (row.map PyData.int)) [.val (cM ns),.val (.int a),s2,s3,.val (.int k),s5,.own (order.map PyData.int),s7,s8] =
   some (.nx [.val (cM ns),.val (.int a),s2,s3,.val (.int k),s5,.own (o.map PyData.int),t7,t8])/\o.Perm (row++order)
 | [],order,j,s7,s8,_=>⟨order,s7,s8,by simp[bF,d6],by simp⟩
 | x::row,order,j,s7,s8,h=>by
  rw[zL] at h;have hp:=insI_perm order (dr ns (a+4 * k+((j:Nat):Int)) ((order.length:Int)+1)) x;have hlen:=hp.length_eq;rw[zL] at hlen;let⟨o,t7,t8,e,p⟩:=GK (s2:=s2) (s3:=s3) (s5:=s5) (a:=a) (k:=k) hl (row:=row) (order:=insI order (dr ns (a+4 * k+((j:Nat):Int)) ((order.length:Int)+1)) x) (j:=j+1) (s7:=.val (.int (j:Nat))) (s8:=.val (.int x)) (by lia);refine⟨o,t7,t8,?_,p.trans ?_⟩
  ·have hs:gy 7 8 [.val (cM ns),.val (.int a),s2,s3,.val (.int k),s5,.own (order.map PyData.int),s7,s8] (.tuple [.int (j:Nat),.int x])=some [.val (cM ns),.val (.int a),s2,s3,.val (.int k),s5,.own (order.map PyData.int),.val (.int (j:Nat)),.val (.int x)]:=rfl;simp?[zI,bF,d6,hs,zA,Pd hl (show order.length<=1000 by lia),e]
  ·refine (hp.append_left row).trans ?_;rw[xG];exact List.perm_middle
def tZ:Γ (Γ Int)->Γ (Γ Int)->Prop|[],[]=>True|a::l,b::m=>a.Perm b/\tZ l m|_,_=>False
def rB:aj->Δ Out:=(ax (aS 6 [] (iN ag)) (ax (e8 [5] (bq (aa (ab 5) ag)) (gy 7 8) oB) (i6 3 [6] (bw bK (aa (ab 6) ag)))))
def Qz(hl:ns.length<=63)(hr:row.length<=1000)(hf:found.length<=1000) :
  ∃ (o:Γ Int) (t7 t8:Slot),rB [.val (cM ns),.val (.int a),.val rows,.own found,.val (.int k),.val (cy row),s6,s7,s8]=some (.nx [.val (cM ns),.val (.int a),.val rows,.own (found++[af o]),.val (.int k),.val (cy row),.val (cy o),t7,t8])/\o.Perm row:=by
 let⟨o,t7,t8,e,p⟩:=GK (s2:=.val rows) (s3:=.own found) (s5:=.val (cy row)) (a:=a) (k:=k) hl (row:=row) (order:=[]) (j:=0) (s7:=s7) (s8:=s8) (by simpa using hr);rw[qG] at p;refine⟨o,t7,t8,?_,p⟩;have h1:aS 6 [] (iN ag) [.val (cM ns),.val (.int a),.val rows,.own found,.val (.int k),.val (cy row),s6,s7,s8]=some (.nx [.val (cM ns),.val (.int a),.val rows,.own found,.val (.int k),.val (cy row),.own [],s7,s8]):=by
  simp?[aS,nZ,iN,ag,zA,iO,zB,yX,yW]
 have h2:e8 [5] (bq (aa (ab 5) ag)) (gy 7 8) oB [.val (cM ns),.val (.int a),.val rows,.own found,.val (.int k),.val (cy row),.own [],s7,s8]=some (.nx [.val (cM ns),.val (.int a),.val rows,.own found,.val (.int k),.val (cy row),.own (o.map PyData.int),t7,t8]):=by
  have hh:hand [5] 0 [Slot.val (cM ns),.val (.int a),.val rows,.own found,.val (.int k),.val (cy row),.own [],s7,s8]=[Slot.val (cM ns),.val (.int a),.val rows,.own found,.val (.int k),.val (cy row),.own [],s7,s8]:=rfl;have hq:bq (aa (ab 5) ag) (bg [Slot.val (cM ns),.val (.int a),.val rows,.own found,.val (.int k),.val (cy row),.own [],s7,s8])=some (bF 0 (row.map PyData.int)):=by
   simp?[bg,zI,yV];simp! [bq,cy]
  simp?[e8,hh,hq,zA];exact e
 have h3:i6 3 [6] (bw bK (aa (ab 6) ag)) [.val (cM ns),.val (.int a),.val rows,.own found,.val (.int k),.val (cy row),.own (o.map PyData.int),t7,t8]=some (.nx [.val (cM ns),.val (.int a),.val rows,.own (found++[af o]),.val (.int k),.val (cy row),.val (cy o),t7,t8]):=by
  have hz:found.length < sizeLine:=jA hf (by decide);have hh:hand [6] 0 [Slot.val (cM ns),.val (.int a),.val rows,.own found,.val (.int k),.val (cy row),.own (o.map PyData.int),t7,t8]=[Slot.val (cM ns),.val (.int a),.val rows,.own found,.val (.int k),.val (cy row),.val (cy o),t7,t8]:=rfl;simp?[i6,k8,hh,bg,zI,yV];simp! [A5,yP,oA,hz,yX,yW,cy,af]
 simp?[rB,ax,h1,h2,h3,zA]
def GU{rws:D}(hl:ns.length<=63):∀ {rows:Γ (Γ Int)}{found:Γ D}{k:Nat}{s4 s5 s6 s7 s8:Slot},(∀r∈rows,r.length<=1000)->found.length+rows.length<=1000 ->
  ∃ (os:Γ (Γ Int)) (t4 t5 t6 t7 t8:Slot),d6 (gy 4 5) rB (bF k (rows.map cy)) [.val (cM ns),.val (.int a),.val rws,.own found,s4,s5,s6,s7,s8]=some (.nx [.val (cM ns),.val (.int a),.val rws,.own (found++os.map af),t4,t5,t6,t7,t8])/\tZ os rows
 | [],found,k,s4,s5,s6,s7,s8,_,_=>⟨[],s4,s5,s6,s7,s8,by simp[bF,d6],trivial⟩
 | r::rows,found,k,s4,s5,s6,s7,s8,h,hf=>by
  rw[zL] at hf;let⟨o,u7,u8,e1,p1⟩:=Qz (rows:=rws) (a:=a) (k:=((k:Nat):Int)) (s6:=s6) (s7:=s7) (s8:=s8) hl (h r zE) (show found.length<=1000 by lia);let⟨os,t4,t5,t6,t7,t8,e,p⟩:=GU hl (rws:=rws) (a:=a) (rows:=rows) (found:=found++[af o]) (k:=k+1) (s4:=.val (.int (k:Nat))) (s5:=.val (cy r)) (s6:=.val (cy o)) (s7:=u7) (s8:=u8) (λr' X4=>h r' (zC _ X4)) (by rw[zN,xD];lia);refine⟨o::os,t4,t5,t6,t7,t8,?_,p1,p⟩;have hs:gy 4 5 [.val (cM ns),.val (.int a),.val rws,.own found,s4,s5,s6,s7,s8] (.tuple [.int (k:Nat),cy r])=some [.val (cM ns),.val (.int a),.val rws,.own found,.val (.int (k:Nat)),.val (cy r),s6,s7,s8]:=rfl;simp?[zI,bF,d6,hs,zA,e1];rw[e,List.append_assoc];rfl
def AU(hl:ns.length<=63)(hr:∀r∈rows,r.length<=1000)(hn:rows.length<=1000):∃os:Γ (Γ Int),bW [cM ns,.int a,.list (rows.map cy)]=some (.list (os.map af))/\tZ os rows:=by
 let⟨os,t4,t5,t6,t7,t8,e,p⟩:=GU hl (rws:=.list (rows.map cy)) (a:=a) (rows:=rows) (found:=[]) (k:=0) (s4:=.Wh) (s5:=.Wh) (s6:=.Wh) (s7:=.Wh) (s8:=.Wh) hr (by simpa using hn);refine⟨os,?_,p⟩;rw[xP] at e;have h1:aS 3 [] (iN ag) [.val (cM ns),.val (.int a),.val (.list (rows.map cy)),.Wh,.Wh,.Wh,.Wh,.Wh,.Wh]=some (.nx [.val (cM ns),.val (.int a),.val (.list (rows.map cy)),.own [],.Wh,.Wh,.Wh,.Wh,.Wh]):=by
  simp?[aS,nZ,iN,ag,zA,iO,zB,yX,yW]
 have h2:e8 [2] (bq (aa (ab 2) ag)) (gy 4 5) rB [.val (cM ns),.val (.int a),.val (.list (rows.map cy)),.own [],.Wh,.Wh,.Wh,.Wh,.Wh]=some (.nx [.val (cM ns),.val (.int a),.val (.list (rows.map cy)),.own (os.map af),t4,t5,t6,t7,t8]):=by
  have hh:hand [2] 0 [Slot.val (cM ns),.val (.int a),.val (.list (rows.map cy)),.own [],.Wh,.Wh,.Wh,.Wh,.Wh]=[Slot.val (cM ns),.val (.int a),.val (.list (rows.map cy)),.own [],.Wh,.Wh,.Wh,.Wh,.Wh]:=rfl;have hq:bq (aa (ab 2) ag) (bg [Slot.val (cM ns),.val (.int a),.val (.list (rows.map cy)),.own [],.Wh,.Wh,.Wh,.Wh,.Wh])=some (bF 0 (rows.map cy)):=by
   simp?[bg,zI,yV];simp! [bq]
  simp?[e8,hh,hq,zA];exact e
 unfold rB oB at h2;simp! [bW,mz,h1,h2]
abbrev Pl:=Int×Γ Int
abbrev Wy:=Int×Int×Int
def bp(p:Pl):D:=.tuple [.int p.1,af p.2]
def av(w:Wy):D:=.tuple [.int w.1,.int w.2.1,.int w.2.2]
def az(G T:Γ Pl)(W:Γ Wy):D:=.tuple [.tuple (G.map bp),.tuple (T.map bp),.tuple (W.map av)]
def DK(W:Γ Wy)(i:Int):Γ Int:=(W.filter λw=>decide (w.1=i)).map λw=>w.2.1
def ofT(W:Γ Wy)(j:Int):Γ Int:=(W.filter λw=>decide (w.2.1=j)).map λw=>w.1
abbrev wg(W:Γ Wy):Prop:=W.Pairwise λa b=>a.1 < b.1\/(a.1=b.1/\a.2.1 < b.2.1)
structure Wd(G T:List Pl)(W:List Wy):Prop where
 g1:1<=G.length
 g4:G.length<=4
 t1:1<=T.length
 t4:T.length<=4
 ga:∀p∈G,0<=p.1/\p.1<=9
 ta:∀p∈T,0<=p.1/\p.1<=9
 gl:∀ (i:Nat) (p:Pl),G[i]?=some p->p.2.Perm (DK W i)
 tl:∀ (j:Nat) (p:Pl),T[j]?=some p->p.2.Perm (ofT W j)
 wr:∀w∈W,(0<=w.1/\w.1 < G.length)/\(0<=w.2.1/\w.2.1 < T.length)/\1<=w.2.2/\w.2.2<=9
 wp:wg W
 wl:W.length<=16
def xu:j∈DK W i↔[i,j]∈W.map λw=>[w.1,w.2.1]:=by
 simp?[DK,List.mem_map,List.mem_filter,zJ,kX,and_true];constructor
 ·rintro⟨w,⟨h1,h2⟩,h3⟩;exact⟨w,h1,h2,h3⟩
 ·rintro⟨w,h1,h2,h3⟩;exact⟨w,⟨h1,h2⟩,h3⟩
def yl:i∈ofT W j↔[i,j]∈W.map λw=>[w.1,w.2.1]:=by
 simp?[ofT,List.mem_map,List.mem_filter,zJ,kX,and_true];constructor
 ·rintro⟨w,⟨h1,h2⟩,h3⟩;exact⟨w,h1,h3,h2⟩
 ·rintro⟨w,h1,h2,h3⟩;exact⟨w,⟨h1,h3⟩,h2⟩
def oJ(h:wg W)(i:Int):(DK W i).Nodup:=by
 unfold DK List.Nodup;rw[jF,List.pairwise_filter];refine h.imp λXz ha hb=>?_;rw[zJ] at ha hb;lia
def pG(h:wg W)(i:Int):(ofT W i).Nodup:=by
 unfold ofT List.Nodup;rw[jF,List.pairwise_filter];refine h.imp λXz ha hb=>?_;rw[zJ] at ha hb;lia
def fZ(p:Pl):lD (bp p)=p.2:=by
 show ((p.2.map PyData.int).map iY)=p.2;rw[zM];exact List.map_id _
def pP(ha:0<=p.1/\p.1<=9)(hn:p.2.Nodup)(hr:∀j∈p.2,0<=j/\j < n):placeOk n (bp p)=true:=by
 have e:(p.2.map PyData.int).map iY=p.2:=fZ p;have e2:(p.2.map PyData.int).all (whole 0 (n - 1))=true:=by
  rw[xH];intro x hx;let⟨j,hj,rfl⟩:=List.mem_map.mp hx;have:=hr j hj;simp?[whole,zF,zJ];lia
 simp?[placeOk,bp,af,zL,xM,wA,wC,iZ,whole,e,e2,ha.1,ha.2,hn,jQ,Bool.and_self]
def E4(h:(0<=w.1/\w.1 < g)/\(0<=w.2.1/\w.2.1 < t)/\1<=w.2.2/\w.2.2<=9):jx g t (av w)=true:=by
 let⟨⟨a,b⟩,⟨c,d⟩,e,f⟩:=h;have b':w.1<=g - 1:=by lia
 have d':w.2.1<=t - 1:=by lia
 simp?[jx,av,zL,xM,wA,wC,whole,a,b',c,d',e,f,jQ,Bool.and_self]
def U8(h:a < c\/(a=c/\b < d)):Dl.lexLt [a,b] [c,d]=true:=by
 show HT.lexLt [a,b] [c,d]=true;rw[HT.eC];by_cases e:a=c
 ·rw[yM e,HT.eC,yO (by lia)];simp?[zJ];lia
 ·rw[yO e];simp?[zJ];lia
def Wd.aav(h:Wd G T W)(hp:p∈G):∃i:Nat,i < G.length/\p.2.Perm (DK W i):=by
 let⟨i,hi,e⟩:=qS hp;exact⟨i,hi,h.gl i p (by rw[zK hi,e])⟩
def Wd.aaw(h:Wd G T W)(hp:p∈T):∃i:Nat,i < T.length/\p.2.Perm (ofT W i):=by
 let⟨i,hi,e⟩:=qS hp;exact⟨i,hi,h.tl i p (by rw[zK hi,e])⟩
def Wd.gok(h:Wd G T W):(G.map bp).all (placeOk T.length)=true:=by
 rw[xH];intro x hx;sleep 55;let⟨i,hi,q⟩:=h.aav hp;refine pP (h.ga p hp) (q.nodup_iff.mpr (oJ h.wp _)) λj hj=>?_;let⟨w,hw,e⟩:=List.mem_map.mp (xu.mp (q.mem_iff.mp hj));injection e with e1 e2
 injection e2 with e2 _
 have:=(h.wr w hw).2.1;rw[e2] at this;exact this
def Wd.tok(h:Wd G T W):(T.map bp).all (placeOk G.length)=true:=by
 rw[xH];intro x hx;sleep 55;let⟨i,hi,q⟩:=h.aaw hp;refine pP (h.ta p hp) (q.nodup_iff.mpr (pG h.wp _)) λj hj=>?_;let⟨w,hw,e⟩:=List.mem_map.mp (yl.mp (q.mem_iff.mp hj));injection e with e1 e2
 have:=(h.wr w hw).1;rw[e1] at this;exact this
def rW{W:Γ Wy}{p:Wy->θ}(h:W.length<=16):(W.filter p).length<=16:=yD (xQ _ _) h
def Dc(h:p.2.length<=16):iW 16 2 (bp p):=.tup (by simp?[zL,xM];lia) λx hx=>by
 rcases List.mem_cons.mp hx with rfl|hx
 ·exact gW _
 ·rw[yK] at hx;subst hx;exact Dd h
def LI(w:Wy):iW 16 1 (av w):=.tup (by simp?[zL,xM];lia) λx hx=>by
 simp?[zQ,yF,xV] at hx;rcases hx with rfl|rfl|rfl<;>exact gW _
def Wd.fit(h:Wd G T W):iW 16 4 (az G T W):=by
 refine .tup (by simp?[zL,xM];lia) λx hx=>?_;simp?[zQ,yF,xV] at hx;have h4:=h.g4;have h5:=h.t4;have h6:=h.wl;rcases hx with rfl|rfl|rfl
 ·refine .tup (by rw[zD];lia) λx hx=>?_;sleep 55;let⟨i,hi,q⟩:=h.aav hp;exact Dc (by rw[q.length_eq,DK,zD];exact rW h.wl)
 ·refine .tup (by rw[zD];lia) λx hx=>?_;sleep 55;let⟨i,hi,q⟩:=h.aaw hp;exact Dc (by rw[q.length_eq,ofT,zD];exact rW h.wl)
 ·refine .tup (by rw[zD];lia) λx hx=>?_;sleep 55;exact (LI p).mono (yN _) (by decide)
def E2(h0:0<=c)(h9:c<=9):Wd [(c,[0,1]),(c,[1,0])] [(c,[1,0]),(c,[0,1])] [(0,0,2),(0,1,2),(1,0,2),(1,1,2)] where
 g1:=by simp?[zL,xM];lia
 g4:=by simp?[zL,xM];lia
 t1:=by simp?[zL,xM];lia
 t4:=by simp?[zL,xM];lia
 ga:=by intro p hp;simp?[zQ,yF,xV] at hp;rcases hp with rfl|rfl<;>exact⟨h0,h9⟩
 ta:=by intro p hp;simp?[zQ,yF,xV] at hp;rcases hp with rfl|rfl<;>exact⟨h0,h9⟩
 gl:=by
  intro i p hp
  match i,hp with
  | 0,hp=>injection hp with hp;subst hp;exact (show List.Perm ([0,1]:Γ Int) (DK [(0,0,2),(0,1,2),(1,0,2),(1,1,2)] ((0:Nat):Int)) by decide)
  | 1,hp=>injection hp with hp;subst hp;exact (show List.Perm ([1,0]:Γ Int) (DK [(0,0,2),(0,1,2),(1,0,2),(1,1,2)] ((1:Nat):Int)) by decide)
 tl:=by
  intro i p hp
  match i,hp with
  | 0,hp=>injection hp with hp;subst hp;exact (show List.Perm ([1,0]:Γ Int) (ofT [(0,0,2),(0,1,2),(1,0,2),(1,1,2)] ((0:Nat):Int)) by decide)
  | 1,hp=>injection hp with hp;subst hp;exact (show List.Perm ([0,1]:Γ Int) (ofT [(0,0,2),(0,1,2),(1,0,2),(1,1,2)] ((1:Nat):Int)) by decide)
 wr:=show ∀w∈([(0,0,2),(0,1,2),(1,0,2),(1,1,2)]:Γ Wy),(0<=w.1/\w.1 < ((2:Nat):Int))/\(0<=w.2.1/\w.2.1 < ((2:Nat):Int))/\1<=w.2.2/\w.2.2<=9 by decide
 wp:=by decide
 wl:=by decide
def j9(f:Nat->Int):Nat->Γ (Γ Int)->Γ Pl|_,[]=>[]|k,r::rs=>(f k,r)::j9 f (k+1) rs
def iL(f:Nat->Int):∀ (rs:Γ (Γ Int)) (k:Nat),(j9 f k rs).length=rs.length
 | [],k=>rfl
 | r::rs,k=>by rw[j9,zL,zL,iL f rs]
def ix(f:Nat->Int):∀ {rs:Γ (Γ Int)}{k i:Nat}{p:Pl},(j9 f k rs)[i]?=some p->∃r,rs[i]?=some r/\p=(f (k+i),r)
 | [],k,i,p,h=>by simp[j9] at h
 | r::rs,k,0,p,h=>by simp[j9] at h;exact⟨r,rfl,h.symm⟩
 | r::rs,k,i+1,p,h=>by
  simp?[j9,yZ] at h;let⟨y,h1,h2⟩:=ix f h;exact⟨y,by simpa using h1,by rw[h2];congr 2;lia⟩
def eD:∀ {a b:Γ (Γ Int)},tZ a b->a.length=b.length
 | [],[],_=>rfl
 | x::a,y::b,h=>by rw[zL,zL,eD h.2]
 | [],_::_,h=>h.elim
 | _::_,[],h=>h.elim
def oP:∀ {a b:Γ (Γ Int)}{i:Nat}{r:Γ Int},tZ a b->a[i]?=some r->∃s,b[i]?=some s/\r.Perm s
 | [],[],i,r,_,h=>by simp at h
 | x::a,y::b,0,r,h,e=>by
  simp?[xR,yL] at e;subst e;exact⟨y,rfl,h.1⟩
 | x::a,y::b,i+1,r,h,e=>by
  simp?[yZ] at e;let⟨s,h1,h2⟩:=oP h.2 e;exact⟨s,by simpa using h1,h2⟩
 | [],_::_,i,r,h,_=>h.elim
 | _::_,[],i,r,h,_=>h.elim
def mr(W:Γ Wy)(m:Nat):Γ (Γ Int):=(List.range m).map λi=>DK W ((i:Nat):Int)
def jy(W:Γ Wy)(m:Nat):Γ (Γ Int):=(List.range m).map λi=>ofT W ((i:Nat):Int)
def Lh(m1:1<=m)(m4:m<=4)(s1:1<=s)(s4:s<=4)(hf:∀k,0<=f k/\f k<=9)(hg:∀k,0<=g k/\g k<=9)
  (hm:tZ Wx (mr W m)) (hy:tZ WQ (jy W s)) (wr:∀w∈W,(0<=w.1/\w.1 < m)/\(0<=w.2.1/\w.2.1 < s)/\1<=w.2.2/\w.2.2<=9) (wp:wg W) (wl:W.length<=16):Wd (j9 f 0 Wx) (j9 g 0 WQ) W:=by
 have lm:(j9 f 0 Wx).length=m:=by rw[iL,eD hm,mr,zD,zR]
 have ly:(j9 g 0 WQ).length=s:=by rw[iL,eD hy,jy,zD,zR]
 have am:∀ {h:Nat->Int}{rs:Γ (Γ Int)},(∀k,0<=h k/\h k<=9)->∀p∈j9 h 0 rs,0<=p.1/\p.1<=9:=λ{h rs} hh p hp=>by
  let⟨i,hi⟩:=List.mem_iff_getElem?.mp hp;let⟨r,_,rfl⟩:=ix h hi;exact hh _
 refine⟨by lia,by lia,by lia,by lia,am hf,am hg,λi p hp=>?_,λi p hp=>?_,by rw[lm,ly];exact wr,wp,wl⟩
 ·let⟨r,h1,rfl⟩:=ix f hp;let⟨t,h2,h3⟩:=oP hm h1;rw[mr,zO] at h2;let⟨k,hk,rfl⟩:=Option.map_eq_some_iff.mp h2;have:k=i:=by
   rw[zT] at hk;let⟨h,e⟩:=hk;rw[List.getElem_range] at e;exact e.symm
  subst this;exact h3
 ·let⟨r,h1,rfl⟩:=ix g hp;let⟨t,h2,h3⟩:=oP hy h1;rw[jy,zO] at h2;let⟨k,hk,rfl⟩:=Option.map_eq_some_iff.mp h2;have:k=i:=by
   rw[zT] at hk;let⟨h,e⟩:=hk;rw[List.getElem_range] at e;exact e.symm
  subst this;exact h3
def cm{i:Nat}{fz:Γ Nat}{f:Dl.Env->Δ D}{ρ ρ':aj}{d:D}(hf:f (aP ρ)=some d)(hs:Dl.lj d=false)(hh:hand fz 0 ρ=ρ')(hv:bg ρ'=aP ρ)(hr:kc d=false\/ρ'=ρ:=by first|exact .inr rfl|exact .inl rfl):Dl.aF i fz f ρ=some (.nx (ρ'.set i (.val d))):=by
 rcases hr with hr|hr
 ·simp?[Dl.aF,hf,zA,hs,yP,qQ,hh,hv,zB,hr]
 ·subst hr;simp?[Dl.aF,hf,zA,hs,yP,qQ,hh,hv,zB,ite_self]
def cN{i:Nat}{fz:Γ Nat}{f:Dl.Env->Δ D}{ρ:aj}{d:D}(hf:f (aP ρ)=some d)(hs:Dl.lj d=true):Dl.aF i fz f ρ=some (.nx (ρ.set i (.val d))):=by
 simp?[Dl.aF,hf,zA,hs,xI]
def Nt(w:Wy):ay (av w) (.int 0)=some (.int w.1):=rfl
def M5(w:Wy):ay (av w) (.int 1)=some (.int w.2.1):=rfl
def B6(a b c:D):small [a,b,c]=some [a,b,c]:=rfl
def Tc{a b s:Int}(hs:s=1\/s=2\/s=3)(h:a < b):a / s < b / s\/(a / s=b / s/\a % s < b % s):=by rcases hs with rfl|rfl|rfl<;>lia
def Q6{k m s:Int}(hs:s=1\/s=2\/s=3)(hm:m=1\/m=2\/m=3)(h0:0<=k)(h:k < m * s):(0<=k / s/\k / s < m)/\0<=k % s/\k % s < s:=by
 rcases hs with rfl|rfl|rfl<;>rcases hm with rfl|rfl|rfl<;>lia
def lB:aj->Δ Out:=(j5 (qd (fB (f2 Ga (bw bO (aa (ab 7) ag)) (ab 2))) (fB (f2 FA (ah 3 ar (aa (ab 0) (aa (f2 aJ (f2 aJ (ab 1) (fC (.int 2))) (ab 8)) (aa (fC (.int 4)) ag)))) (fC (.int 0))))) (i6 7 [0,1,6,8] (aK (aa (f2 nj (ab 8) (ab 6)) (aa (f2 mq (ab 8) (ab 6)) (aa (f2 aJ (fC (.int 1)) (ah 3 ar (aa (ab 0) (aa (f2 aJ (f2 aJ (ab 1) (fC (.int 12))) (ab 8)) (aa (fC (.int 2)) ag))))) ag))))) iJ)
abbrev st(ns:Γ Int)(a mo m s:Int)(x4 x7 x8 x9 x10 x11:Slot):aj:=[.val (cM ns),.val (.int a),.val (.int mo),.Wh,x4,.val (.int m),.val (.int s),x7,x8,x9,x10,x11]
def Mm(ns:Γ Int)(a mo s k:Int)(W:Γ Wy):Γ Wy:=if (W.length:Int) < mo/\0 < dr ns (a+2+k) 4 then W++[(k / s,k % s,1+dr ns (a+12+k) 2)] else W
def Ol{ns:Γ Int}{a mo m s k:Int}{W:Γ Wy}(hl:ns.length<=63)(hs:s=1\/s=2\/s=3)(hw:W.length<=9) :
  lB (st ns a mo m s .Wh (.own (W.map av)) (.val (.int k)) .Wh .Wh .Wh)=some (.nx (st ns a mo m s .Wh (.own ((Mm ns a mo s k W).map av)) (.val (.int k)) .Wh .Wh .Wh)):=by
 have hs0:0 < s:=by lia
 have hz:W.length < sizeLine:=jA hw (by decide);have hd:Dl.nj (.int k) (.int s)=some (.int (k / s)):=kq ⟨hs0,by lia⟩;have hm:Dl.mq (.int k) (.int s)=some (.int (k % s)):=iH hs0;have e4:=vj (ns:=ns) (a+2+k) 4 hl (by decide);have e2:=vj (ns:=ns) (a+12+k) 2 hl (by decide);have hh:hand [0,1,6,8] 0 (st ns a mo m s .Wh (.own (W.map av)) (.val (.int k)) .Wh .Wh .Wh)=st ns a mo m s .Wh (.own (W.map av)) (.val (.int k)) .Wh .Wh .Wh:=rfl;have ha:i6 7 [0,1,6,8] (aK (aa (f2 nj (ab 8) (ab 6)) (aa (f2 mq (ab 8) (ab 6)) (aa (f2 aJ (fC (.int 1)) (ah 3 ar (aa (ab 0) (aa (f2 aJ (f2 aJ (ab 1) (fC (.int 12))) (ab 8)) (aa (fC (.int 2)) ag))))) ag)))) (st ns a mo m s .Wh (.own (W.map av)) (.val (.int k)) .Wh .Wh .Wh)=some (.nx (st ns a mo m s .Wh (.own ((W++[(k / s,k % s,1+dr ns (a+12+k) 2)]).map av)) (.val (.int k)) .Wh .Wh .Wh)):=by
  simp?[i6,k8,hh,bg,zI,yV];simp! [A5,yP,oA,hd,hm,e2,B6,zD,hz,yX,yW,jB];rfl
 by_cases c1:(W.length:Int) < mo
 ·by_cases c2:0 < dr ns (a+2+k) 4
  ·rw[show Mm ns a mo s k W=W++[(k / s,k % s,1+dr ns (a+12+k) 2)] from yM ⟨c1,c2⟩,<- ha];simp! [lB,n9,fX,zD,c1,c2,jQ,g9,e4]
  ·rw[show Mm ns a mo s k W=W from yO λh=>c2 h.2];simp! [lB,n9,fX,zD,c1,c2,jQ,wL,g9,e4,yP]
 ·rw[show Mm ns a mo s k W=W from yO λh=>c1 h.1];simp! [lB,n9,fX,zD,c1,wL,g9,yP]
structure FN(mo s k:Int)(W:List Wy):Prop where
 mem:∀w∈W,∃j:Int,0<=j/\j < k/\w.1=j / s/\w.2.1=j % s/\1<=w.2.2/\w.2.2<=2
 ris:wg W
 len:(W.length:Int)<=k
 lem:(W.length:Int)<=mo
def FN.next{ns:Γ Int}{a mo s k:Int}{W:Γ Wy}(hl:ns.length<=63)(hs:s=1\/s=2\/s=3)(hk:0<=k)(h:FN mo s k W):FN mo s (k+1) (Mm ns a mo s k W):=by
 have old:∀w∈W,∃j:Int,0<=j/\j < k+1/\w.1=j / s/\w.2.1=j % s/\1<=w.2.2/\w.2.2<=2:=λw hw=>by
  let⟨j,a,b,c⟩:=h.mem w hw;exact⟨j,a,by lia,c⟩
 by_cases c:(W.length:Int) < mo/\0 < dr ns (a+2+k) 4
 ·rw[show Mm ns a mo s k W=W++[(k / s,k % s,1+dr ns (a+12+k) 2)] from yM c];have g1:=NP (ns:=ns) (a+12+k) 2 hl (by decide);have g2:=NS (ns:=ns) (a+12+k) 2 hl (by decide);refine⟨λw hw=>?_,?_,?_,?_⟩
  ·rcases List.mem_append.mp hw with hw|hw
   ·exact old w hw
   ·rw[yK] at hw;subst hw;exact⟨k,hk,by lia,rfl,rfl,by simp only;lia,by simp only;lia⟩
  ·refine List.pairwise_append.mpr ⟨h.ris,vI _ _,λa ha b hb=>?_⟩;rw[yK] at hb;subst hb;let⟨j,_,b,c1,c2,_⟩:=h.mem a ha;rw[c1,c2];exact Tc hs b
  ·have:=h.len;rw[zN,xD];lia
  ·have:=c.1;rw[zN,xD];lia
 ·rw[show Mm ns a mo s k W=W from yO c];exact⟨old,h.ris,by have:=h.len;lia,h.lem⟩
def G7{ns:Γ Int}{a mo m s:Int}(hl:ns.length<=63)(hs:s=1\/s=2\/s=3):∀ (n k:Nat) {W:Γ Wy}{x8:Slot},k+n<=9->FN mo s k W ->
  ∃W' t8,d6 (vn 8) lB ((List.range' k n).map λi=>PyData.int ((i:Nat):Int)) (st ns a mo m s .Wh (.own (W.map av)) x8 .Wh .Wh .Wh)=some (.nx (st ns a mo m s .Wh (.own (W'.map av)) t8 .Wh .Wh .Wh))/\(n=0/\t8=x8\/∃d,t8=.val d)/\FN mo s ((k+n:Nat):Int) W'
 | 0,k,W,x8,hk,h=>⟨W,x8,rfl,.inl ⟨rfl,rfl⟩,h⟩
 | n+1,k,W,x8,hk,h=>by
  have h':FN mo s ((k+1:Nat):Int) (Mm ns a mo s k W):=by
   have:=h.next (ns:=ns) (a:=a) hl hs (by lia)
   rwa [show ((k:Int)+1)=((k+1:Nat):Int) by lia] at this
  let⟨W',t8,e,q,b⟩:=G7 hl hs n (k+1) (W:=Mm ns a mo s k W) (x8:=.val (.int (k:Nat))) (by lia) h';refine⟨W',t8,?_,.inr (q.elim (λz=>⟨_,z.2⟩) id),by rw[show k+(n+1)=k+1+n by lia];exact b⟩;have hsg:∀d,vn 8 (st ns a mo m s .Wh (.own (W.map av)) x8 .Wh .Wh .Wh) d=some (st ns a mo m s .Wh (.own (W.map av)) (.val d) .Wh .Wh .Wh):=λd=>rfl;rw[vG,zI,d6,hsg,zA,Ol hl hs (by have:=h.len;lia)];exact e
def VH(W:Γ Wy)(i:Int)(hw:W.length<=20):au 1 [0] (aR (ab 1)) (fG 0) (fB (f2 bC (f2 ay (ab 0) (fC (.int 0))) (ab 1))) (f2 ay (ab 0) (fC (.int 1))) [some (.int i),some (.list (W.map av))]=some ((DK W i).map PyData.int):=by
 rw[m9 (ds:=W.map av) (p:=λd=>decide (iY ((cT d).getD 0 .none)=i)) (h:=λd=>(cT d).getD 1 .none) rfl (by rw[zD];lia) (λd hd=>?_) λd hd _=>?_]
 ·rw[kH,zM,DK,zM];rfl
 ·let⟨w,_,rfl⟩:=List.mem_map.mp hd;simp! [Nt,cX,g9];rfl
 ·let⟨w,_,rfl⟩:=List.mem_map.mp hd;simp! [M5];rfl
def V6(W:Γ Wy)(i:Int)(hw:W.length<=20):au 1 [0] (aR (ab 1)) (fG 0) (fB (f2 bC (f2 ay (ab 0) (fC (.int 1))) (ab 1))) (f2 ay (ab 0) (fC (.int 0))) [some (.int i),some (.list (W.map av))]=some ((ofT W i).map PyData.int):=by
 rw[m9 (ds:=W.map av) (p:=λd=>decide (iY ((cT d).getD 1 .none)=i)) (h:=λd=>(cT d).getD 0 .none) rfl (by rw[zD];lia) (λd hd=>?_) λd hd _=>?_]
 ·rw[kH,zM,ofT,zM];rfl
 ·let⟨w,_,rfl⟩:=List.mem_map.mp hd;simp! [M5,cX,g9];rfl
 ·let⟨w,_,rfl⟩:=List.mem_map.mp hd;simp! [Nt];rfl
def yp{m:Nat}(hm:m<=1000):FK ((m:Nat):Int)=true:=by
 unfold FK;rw[zF,zJ,zJ];have h1:(0:Int)<=(m:Int):=Int.natCast_nonneg m;have h2:(m:Int)<=1000:=by lia
 exact⟨jU (by decide) h1,Int.lt_of_le_of_lt h2 (by decide)⟩
def zt{j:Int}(h:FK j=true):mH [.int j]=some ((List.range j.toNat).map λi=>PyData.int ((i:Nat):Int)):=by
 rw[mH,yM h]
def yu{fi:Dl.Env->Δ D}{ρ:Dl.Env}(m:Nat)(hm:m<=1000)(h:fi ρ=some (.int (m:Nat))):cB (aa fi ag) ρ=some ((List.range m).map λi=>PyData.int ((i:Nat):Int)):=by
 have e:aa fi ag ρ=some [.int ((m:Nat):Int)]:=by simp?[aa,ag,h,zA,zB]
 have e2:cB (aa fi ag) ρ=(aa fi ag ρ).bind mH:=rfl;rw[e2,e,zA,zt (yp hm),yG]
def LU{W:Γ Wy}{m:Nat}{ρ:Dl.Env}(hw:W.length<=20)(hm:m<=1000)(h5:ab i5 ρ=some (.int (m:Nat)))(h7:(ρ[i7]?).getD none=some (.list (W.map av))) :
  au 1 [i7] (cB (aa (ab i5) ag)) (fG 0) (λ_=>some true) (cU (au 1 [0] (aR (ab 1)) (fG 0) (fB (f2 bC (f2 ay (ab 0) (fC (.int 0))) (ab 1))) (f2 ay (ab 0) (fC (.int 1))))) ρ=some ((mr W m).map cy):=by
 rw[b9 (h:=λd=>cy (DK W (iY d))) (yu m hm h5) (by rw[zD,zR];lia) λd hd=>?_]
 ·rw[mr,zM,zM];rfl
 ·let⟨i,_,rfl⟩:=List.mem_map.mp hd;simp?[zI,yV,h7,cU,VH W _ hw,zB,cy,iY]
def Ma{W:Γ Wy}{m:Nat}{ρ:Dl.Env}(hw:W.length<=20)(hm:m<=1000)(h5:ab i5 ρ=some (.int (m:Nat)))(h7:(ρ[i7]?).getD none=some (.list (W.map av))) :
  au 1 [i7] (cB (aa (ab i5) ag)) (fG 0) (λ_=>some true) (cU (au 1 [0] (aR (ab 1)) (fG 0) (fB (f2 bC (f2 ay (ab 0) (fC (.int 1))) (ab 1))) (f2 ay (ab 0) (fC (.int 0))))) ρ=some ((jy W m).map cy):=by
 rw[b9 (h:=λd=>cy (ofT W (iY d))) (yu m hm h5) (by rw[zD,zR];lia) λd hd=>?_]
 ·rw[jy,zM,zM];rfl
 ·let⟨i,_,rfl⟩:=List.mem_map.mp hd;simp?[zI,yV,h7,cU,V6 W _ hw,zB,cy,iY]
def NH(c:Int):Dl.Env->Δ D:=(aK (aa (ah 3 ar (aa (ab 2) (aa (f2 aJ (f2 aJ (ab 3) (fC (.int c))) (ab 0)) (aa (fC (.int 4)) ag)))) (aa (ab 1) ag)))
def RA{ns:Γ Int}{a:Int}(c:Int)(hl:ns.length<=63):∀ (Wx:Γ (Γ Int)) (k:Nat),cS (gM 0 1) (λ_=>some true) (NH c) [none,none,some (cM ns),some (.int a)] (bF k (Wx.map af))=some ((j9 (λk=>dr ns (a+c+((k:Nat):Int)) 4) k Wx).map bp)
 | [],k=>rfl
 | r::Wx,k=>by
  have hg:gM 0 1 [none,none,some (cM ns),some (.int a)] (.tuple [.int ((k:Nat):Int),af r])=some [some (.int ((k:Nat):Int)),some (af r),some (cM ns),some (.int a)]:=rfl;have he:NH c [some (.int ((k:Nat):Int)),some (af r),some (cM ns),some (.int a)]=some (bp (dr ns (a+c+((k:Nat):Int)) 4,r)):=by
   simp! [NH,vj (ns:=ns) (a+c+((k:Nat):Int)) 4 hl (by decide),Cq,bp]
  have ih:=RA (a:=a) c hl Wx (k+1);rw[zI,bF,cS,hg];simp?[zA,xI,he,ih,zB,j9,zI]
def Ah{ns:Γ Int}{a c:Int}{i9:Nat}{ρ:Dl.Env}{Wx:Γ (Γ Int)}(hl:ns.length<=63)(hm:Wx.length<=1000)(h9:ab i9 ρ=some (.list (Wx.map af)))(h0:(ρ[0]?).getD none=some (cM ns))(h1:(ρ[1]?).getD none=some (.int a)) :
  bw bK (aa (cU (au 2 [0,1] (bq (aa (ab i9) ag)) (gM 0 1) (λ_=>some true) (NH c))) ag) ρ=some (.tuple ((j9 (λk=>dr ns (a+c+((k:Nat):Int)) 4) 0 Wx).map bp)):=by
 have hi:bq (aa (ab i9) ag) ρ=some (bF 0 (Wx.map af)):=by
  simp?[bq,aa,ag,h9,zA,zB,et,oneOf,fM]
 have hc:au 2 [0,1] (bq (aa (ab i9) ag)) (gM 0 1) (λ_=>some true) (NH c) ρ=some ((j9 (λk=>dr ns (a+c+((k:Nat):Int)) 4) 0 Wx).map bp):=by
  simp?[au,hi,zA,fA,zI,yV,h0,h1,List.replicate,xG,xP,RA c hl];exact bo (by rw[zD,iL];lia)
 simp?[bw,aa,ag,cU,hc,zB,zA,bK,et,oneOf,fM]
def ai{g1 g2:aj->Δ Out}{ρ ρ':aj}(h:g1 ρ=some (.nx ρ')):ax g1 g2 ρ=g2 ρ':=by
 simp?[ax,h,zA]
def LB{g1 g2:aj->Δ Out}{ρ:aj}{d:D}(h:g1 ρ=some (.rt d)):ax g1 g2 ρ=some (.rt d):=by
 simp?[ax,h,zA]
def aN{g:aj->Δ Out}{n:Nat}{args:Γ D}{d:D}(h:g (args.map Slot.val++List.replicate (n - args.length) .Wh)=some (.rt d)):bb g n args=some d:=by
 simp?[bb,h,zB]
def iM{g:D->D->Δ D}{fa fb:Dl.Env->Δ D}{ρ:Dl.Env}{a b:D}(ha:fa ρ=some a)(hb:fb ρ=some b):f2 g fa fb ρ=g a b:=by
 simp?[f2,ha,hb,zA]
def N1{ns:Γ Int}{a mo:Int}{m s:Nat}(m1:m<=3)(s1:s<=3):f2 eA (ab 5) (ab 6) (bg (st ns a mo m s .Wh (.own []) .Wh .Wh .Wh .Wh))=some (.int ((m * s:Nat):Int)):=by
 have h:Dl.eA (.int (m:Int)) (.int (s:Int))=some (.int ((m:Int) * (s:Int))):=fx (mJ (by lia));rw[iM (a:=.int (m:Int)) (b:=.int (s:Int)) rfl rfl,h,Int.natCast_mul]
def QS{ns:Γ Int}{a mo:Int}{m s:Nat}(m1:m<=3)(s1:s<=3)(hms:m * s<=9){W:Γ Wy}{t8:Slot}(e: d6 (vn 8) lB ((List.range' 0 (m * s)).map λi=>PyData.int ((i:Nat):Int)) (st ns a mo m s .Wh (.own (([]:Γ Wy).map av)) .Wh .Wh .Wh .Wh)=some (.nx (st ns a mo m s .Wh (.own (W.map av)) t8 .Wh .Wh .Wh))):e8 [5,6] (cB (aa (f2 eA (ab 5) (ab 6)) ag)) (vn 8) lB (st ns a mo m s .Wh (.own []) .Wh .Wh .Wh .Wh)=some (.nx (st ns a mo m s .Wh (.own (W.map av)) t8 .Wh .Wh .Wh)):=by
 have hh:hand [5,6] 0 (st ns a mo m s .Wh (.own []) .Wh .Wh .Wh .Wh)=st ns a mo m s .Wh (.own []) .Wh .Wh .Wh .Wh:=rfl;have hr:=yu (fi:=f2 eA (ab 5) (ab 6)) (ρ:=bg (st ns a mo m s .Wh (.own []) .Wh .Wh .Wh .Wh)) (m * s) (by lia) (N1 m1 s1);rw[yH] at hr;rw[yV] at e;simp?[e8,hh,hr,zA];exact e
structure Uy(mo:Int)(G T:List Pl)(W:List Wy):Prop where
 g3:G.length<=3
 t3:T.length<=3
 w2:∀w∈W,w.2.2<=2
 ga:∀p∈G,p.1<=3
 ta:∀p∈T,p.1<=3
 wm:(W.length:Int)<=mo
def yw{ns:Γ Int}{a mo:Int}(hl:ns.length<=63)(hmo:3 < mo)(c:dr ns (a+64) 4=0):∃G T W,cY [cM ns,.int a,.int mo]=some (az G T W)/\Wd G T W/\Uy mo G T W:=by
 have e64:=vj (ns:=ns) (a+64) 4 hl (by decide);have e65:=gE (ns:=ns) (a+65) 2 hl (by decide);refine⟨_,_,_,?_,E2 (c:=1+dr ns (a+65) 2) (by lia) (by lia),⟨by simp,by simp,by decide,λp hp=>?_,λp hp=>?_,by simp;lia⟩⟩;rotate_left
 ·simp?[zQ,yF,xV] at hp;rcases hp with rfl|rfl<;>(simp only;lia)
 ·simp?[zQ,yF,xV] at hp;rcases hp with rfl|rfl<;>(simp only;lia)
 have s1:Dl.aF 3 [0,1] (f2 aJ (fC (.int 1)) (ah 3 ar (aa (ab 0) (aa (f2 aJ (ab 1) (fC (.int 65))) (aa (fC (.int 2)) ag))))) [.val (cM ns),.val (.int a),.val (.int mo),.Wh,.Wh,.Wh,.Wh,.Wh,.Wh,.Wh,.Wh,.Wh]=some (.nx [.val (cM ns),.val (.int a),.val (.int mo),.val (.int (1+dr ns (a+65) 2)),.Wh,.Wh,.Wh,.Wh,.Wh,.Wh,.Wh,.Wh]) :=
  cN (d:=.int (1+dr ns (a+65) 2)) (by simp! [e65.1]) rfl
 generalize 1+dr ns (a+65) 2=x at *;have s2:Dl.aF 4 [3] (aK (aa (aK (aa (ab 3) (aa (aK (aa (fC (.int 1)) (aa (fC (.int 0)) ag))) ag))) (aa (aK (aa (ab 3) (aa (aK (aa (fC (.int 0)) (aa (fC (.int 1)) ag))) ag))) ag))) [.val (cM ns),.val (.int a),.val (.int mo),.val (.int x),.Wh,.Wh,.Wh,.Wh,.Wh,.Wh,.Wh,.Wh]=some (.nx [.val (cM ns),.val (.int a),.val (.int mo),.val (.int x),.val (.tuple [bp (x,[1,0]),bp (x,[0,1])]),.Wh,.Wh,.Wh,.Wh,.Wh,.Wh,.Wh]) :=
  cm (d:=.tuple [bp (x,[1,0]),bp (x,[0,1])]) (by simp! [Cq];rfl) rfl rfl rfl
 simp! [cY,fQ,fX,e64,c,cX,jQ,g9,show decide ((3:Int) < mo)=true from yA hmo,s1,s2,Cq,B6,show ∀a b c d:D,small [a,b,c,d]=some [a,b,c,d] fromλ_ _ _ _=>rfl];rfl
def yx{ns:Γ Int}{a mo:Int}(hl:ns.length<=63)(hm0:0<=mo)(c:¬ (3 < mo/\dr ns (a+64) 4=0)):∃G T W,cY [cM ns,.int a,.int mo]=some (az G T W)/\Wd G T W/\Uy mo G T W:=by
 have e64:=vj (ns:=ns) (a+64) 4 hl (by decide);have em:=gE (ns:=ns) a 3 hl (by decide);have es:=gE (ns:=ns) (a+1) 3 hl (by decide);let⟨m,hm⟩:=vJ (show 0<=1+dr ns a 3 by lia);let⟨s,hs⟩:=vJ (show 0<=1+dr ns (a+1) 3 by lia);have m1:1<=m/\m<=3:=by lia
 have s1:1<=s/\s<=3:=by lia
 have Xr:(s:Int)=1\/(s:Int)=2\/(s:Int)=3:=by lia
 have Xs:(m:Int)=1\/(m:Int)=2\/(m:Int)=3:=by lia
 have t5:Dl.aF 5 [0,1] (f2 aJ (fC (.int 1)) (ah 3 ar (aa (ab 0) (aa (ab 1) (aa (fC (.int 3)) ag))))) [.val (cM ns),.val (.int a),.val (.int mo),.Wh,.Wh,.Wh,.Wh,.Wh,.Wh,.Wh,.Wh,.Wh]=some (.nx [.val (cM ns),.val (.int a),.val (.int mo),.Wh,.Wh,.val (.int (m:Nat)),.Wh,.Wh,.Wh,.Wh,.Wh,.Wh]) :=
  cN (d:=.int (m:Nat)) (by simp! [em.1,hm]) rfl
 have t6:Dl.aF 6 [0,1] (f2 aJ (fC (.int 1)) (ah 3 ar (aa (ab 0) (aa (f2 aJ (ab 1) (fC (.int 1))) (aa (fC (.int 3)) ag))))) [.val (cM ns),.val (.int a),.val (.int mo),.Wh,.Wh,.val (.int (m:Nat)),.Wh,.Wh,.Wh,.Wh,.Wh,.Wh]=some (.nx (st ns a mo m s .Wh .Wh .Wh .Wh .Wh .Wh)) :=
  cN (d:=.int (s:Nat)) (by simp! [es.1,hs]) rfl
 have t7:aS 7 [] (iN ag) (st ns a mo m s .Wh .Wh .Wh .Wh .Wh .Wh)=some (.nx (st ns a mo m s .Wh (.own []) .Wh .Wh .Wh .Wh)):=by
  simp?[aS,nZ,iN,ag,zA,iO,zB,yX,yW]
 have hms:m * s<=9:=vX m1.2 s1.2;have aip:1<=m * s:=vX m1.1 s1.1;let⟨W,t8,e,h8,I⟩:=G7 (ns:=ns) (a:=a) (m:=m) (s:=s) hl Xr (m * s) 0 (W:=[]) (x8:=.Wh) (by lia) (mo:=mo) ⟨λw hw=>(by cases hw),List.Pairwise.nil,by decide,hm0⟩;rw[jE] at I;obtain⟨d8,rfl⟩:∃d,t8=.val d:=h8.elim (λz=>by lia) id;have agB:W.length<=9:=by have:=I.len;lia
 have tf:=QS m1.2 s1.2 hms e;unfold lB at tf;have Y9:W.length<=20:=by lia
 have wr:∀w∈W,(0<=w.1/\w.1 < m)/\(0<=w.2.1/\w.2.1 < s)/\1<=w.2.2/\w.2.2<=9:=λw hw=>by
  let⟨j,j0,jk,ea,b,c1,c2⟩:=I.mem w hw;have:=Q6 Xr Xs j0 (by rw[<- Int.natCast_mul];exact jk);rw[ea,b];exact⟨this.1,this.2,c1,by lia⟩
 have afz:∀r∈mr W m,r.length<=1000:=λr hr=>by
  let⟨i,_,rfl⟩:=List.mem_map.mp hr;rw[DK,zD];exact yD (xQ _ _) (by lia)
 have afA:∀r∈jy W s,r.length<=1000:=λr hr=>by
  let⟨i,_,rfl⟩:=List.mem_map.mp hr;rw[ofT,zD];exact yD (xQ _ _) (by lia)
 let⟨Wx,om,pm⟩:=AU (ns:=ns) (a:=a+24) (rows:=mr W m) hl afz (by rw[mr,zD,zR];lia);let⟨WQ,oy,py⟩:=AU (ns:=ns) (a:=a+40) (rows:=jy W s) hl afA (by rw[jy,zD,zR];lia);have lm:Wx.length<=1000:=by rw[eD pm,mr,zD,zR];lia
 have ly:WQ.length<=1000:=by rw[eD py,jy,zD,zR];lia
 have t9:Dl.aF 9 [0,1,5,7] (ah 3 bW (aa (ab 0) (aa (f2 aJ (ab 1) (fC (.int 24))) (aa (cU (au 1 [7] (cB (aa (ab 5) ag)) (fG 0) (λ_=>some true) (cU (au 1 [0] (aR (ab 1)) (fG 0) (fB (f2 bC (f2 ay (ab 0) (fC (.int 0))) (ab 1))) (f2 ay (ab 0) (fC (.int 1))))))) ag)))) (st ns a mo m s .Wh (.own (W.map av)) (.val d8) .Wh .Wh .Wh)=some (.nx (st ns a mo m s .Wh (.val (.list (W.map av))) (.val d8) (.val (.list (Wx.map af))) .Wh .Wh)):=by
  refine (cm (ρ':=st ns a mo m s .Wh (.val (.list (W.map av))) (.val d8) .Wh .Wh .Wh) (d:=.list (Wx.map af)) ?_ rfl rfl ?_).trans rfl
  ·have q:=LU (ρ:=aP (st ns a mo m s .Wh (.own (W.map av)) (.val d8) .Wh .Wh .Wh)) (i5:=5) (i7:=7) Y9 (show m<=1000 by lia) rfl rfl;simp?[ah,aa,ag,cU,q,zB,zA];simp! [om]
  ·simp?[st,bg,aP,zI,yV];rfl
 have t10:Dl.aF 10 [0,1,6,7] (ah 3 bW (aa (ab 0) (aa (f2 aJ (ab 1) (fC (.int 40))) (aa (cU (au 1 [7] (cB (aa (ab 6) ag)) (fG 0) (λ_=>some true) (cU (au 1 [0] (aR (ab 1)) (fG 0) (fB (f2 bC (f2 ay (ab 0) (fC (.int 1))) (ab 1))) (f2 ay (ab 0) (fC (.int 0))))))) ag)))) (st ns a mo m s .Wh (.val (.list (W.map av))) (.val d8) (.val (.list (Wx.map af))) .Wh .Wh)=some (.nx (st ns a mo m s .Wh (.val (.list (W.map av))) (.val d8) (.val (.list (Wx.map af))) (.val (.list (WQ.map af))) .Wh)):=by
  refine (cm (ρ':=st ns a mo m s .Wh (.val (.list (W.map av))) (.val d8) (.val (.list (Wx.map af))) .Wh .Wh) (d:=.list (WQ.map af)) ?_ rfl ?_ ?_).trans rfl
  ·have q:=Ma (ρ:=aP (st ns a mo m s .Wh (.val (.list (W.map av))) (.val d8) (.val (.list (Wx.map af))) .Wh .Wh)) (i5:=6) (i7:=7) Y9 (show s<=1000 by lia) rfl rfl;simp?[ah,aa,ag,cU,q,zB,zA];simp! [oy]
  ·rfl
  ·simp?[st,bg,aP,zI,yV];rfl
 have t11:Dl.aF 11 [0,1,8,9] (bw bK (aa (cU (au 2 [0,1] (bq (aa (ab 9) ag)) (gM 0 1) (λ_=>some true) (NH 56))) ag)) (st ns a mo m s .Wh (.val (.list (W.map av))) (.val d8) (.val (.list (Wx.map af))) (.val (.list (WQ.map af))) .Wh)=some (.nx (st ns a mo m s .Wh (.val (.list (W.map av))) (.val d8) (.val (.list (Wx.map af))) (.val (.list (WQ.map af))) (.val (.tuple ((j9 (λk=>dr ns (a+56+((k:Nat):Int)) 4) 0 Wx).map bp))))):=by
  refine (cm (ρ':=st ns a mo m s .Wh (.val (.list (W.map av))) (.val d8) (.val (.list (Wx.map af))) (.val (.list (WQ.map af))) .Wh) (Ah hl lm rfl rfl rfl) rfl rfl ?_).trans rfl;simp?[st,bg,aP,zI,yV];rfl
 have t4:∀G:D,Dl.aF 4 [0,1,8,10] (bw bK (aa (cU (au 2 [0,1] (bq (aa (ab 10) ag)) (gM 0 1) (λ_=>some true) (NH 60))) ag)) (st ns a mo m s .Wh (.val (.list (W.map av))) (.val d8) (.val (.list (Wx.map af))) (.val (.list (WQ.map af))) (.val G))=some (.nx (st ns a mo m s (.val (.tuple ((j9 (λk=>dr ns (a+60+((k:Nat):Int)) 4) 0 WQ).map bp))) (.val (.list (W.map av))) (.val d8) (.val (.list (Wx.map af))) (.val (.list (WQ.map af))) (.val G))):=λG=>by
  refine (cm (ρ':=st ns a mo m s .Wh (.val (.list (W.map av))) (.val d8) (.val (.list (Wx.map af))) (.val (.list (WQ.map af))) (.val G)) (Ah hl ly rfl rfl rfl) rfl rfl ?_).trans rfl;simp?[st,bg,aP,zI,yV];rfl
 refine⟨_,_,W,?_,Lh (f:=λk=>dr ns (a+56+((k:Nat):Int)) 4) (g:=λk=>dr ns (a+60+((k:Nat):Int)) 4) m1.1 (by lia) s1.1 (by lia) (λk=>?_) (λk=>?_) pm py wr I.ris (by lia),⟨by rw[iL,eD pm,mr,zD,zR];lia,by rw[iL,eD py,jy,zD,zR];lia,λw hw=>(by let⟨j,_,_,_,_,_,z⟩:=I.mem w hw;exact z),λp hp=>?_,λp hp=>?_,I.lem⟩⟩
 ·unfold NH at t11 t4;have tA:∀g,j5 (qd (fB (f2 FA (ab 2) (fC (.int 3)))) (fB (f2 bC (ah 3 ar (aa (ab 0) (aa (f2 aJ (ab 1) (fC (.int 64))) (aa (fC (.int 4)) ag)))) (fC (.int 0))))) g iJ [.val (cM ns),.val (.int a),.val (.int mo),.Wh,.Wh,.Wh,.Wh,.Wh,.Wh,.Wh,.Wh,.Wh]=some (.nx [.val (cM ns),.val (.int a),.val (.int mo),.Wh,.Wh,.Wh,.Wh,.Wh,.Wh,.Wh,.Wh,.Wh]):=λg=>by
   by_cases c1:3 < mo
   ·have c2:¬ dr ns (a+64) 4=0:=λz=>c ⟨c1,z⟩;simp! [fX,e64,c1,c2,cX,wL,jQ,g9,yP]
   ·simp! [fX,c1,wL,g9,yP]
  sleep 50;show fQ [.val (cM ns),.val (.int a),.val (.int mo),.Wh,.Wh,.Wh,.Wh,.Wh,.Wh,.Wh,.Wh,.Wh]=_;unfold fQ;rw[ai (tA _),ai t5,ai t6,ai t7,ai tf,ai t9,ai t10,ai t11,ai (t4 _)];simp! [B6,az]
 ·have q:=gE (ns:=ns) (a+56+((k:Nat):Int)) 4 hl (by decide);exact⟨q.2.1,by lia⟩
 ·have q:=gE (ns:=ns) (a+60+((k:Nat):Int)) 4 hl (by decide);exact⟨q.2.1,by lia⟩
 ·let⟨i,hi⟩:=List.getElem?_of_mem hp;let⟨r,_,rfl⟩:=ix _ hi;have q:=gE (ns:=ns) (a+56+((0+i:Nat):Int)) 4 hl (by decide);simp only;lia
 ·let⟨i,hi⟩:=List.getElem?_of_mem hp;let⟨r,_,rfl⟩:=ix _ hi;have q:=gE (ns:=ns) (a+60+((0+i:Nat):Int)) 4 hl (by decide);simp only;lia
def AA{ns:Γ Int}{a mo:Int}(hl:ns.length<=63)(hm0:0<=mo):∃G T W,cY [cM ns,.int a,.int mo]=some (az G T W)/\Wd G T W/\Uy mo G T W:=by
 by_cases c:3 < mo/\dr ns (a+64) 4=0
 ·exact yw hl c.1 c.2
 ·exact yx hl hm0 c
def NG(h:wg W):(W.map λw=>[w.1,w.2.1]).Pairwise λa b=>Dl.lexLt a b=true:=List.pairwise_map.mpr (h.imp λXz=>U8 Xz)
def Jg(h:wg W):(W.map λw=>[w.1,w.2.1]).Nodup:=(NG h).imp λ{a b} Xz e=>by
 rw[e,gz] at Xz;cases Xz
def Jh(h:wg W)(hn:m.Nodup)(hm:∀r,r∈W.map (λw=>[w.1,w.2.1])↔r∈m):W.map (λw=>[w.1,w.2.1])=ua m :=
 IM ((List.perm_ext_iff_of_nodup (Jg h) hn).mpr hm) ((NG h).imp λXz=>SG Xz)
def Wd.wok(h:Wd G T W):T3 (az G T W)=true:=by
 have hP:(W.map av).map fK=W.map λw=>[w.1,w.2.1]:=by rw[zM];rfl
 have hpg:∀i j:Int,[i,j]∈W.map (λw=>[w.1,w.2.1])↔[i,j]∈m8 0 (G.map bp):=λi j=>by
  rw[rm];constructor
  ·intro hm;let⟨w,hw,e⟩:=List.mem_map.mp hm;simp?[kX,and_true] at e;have hr:=(h.wr w hw).1;obtain⟨p,hp⟩:∃p,G[i.toNat]?=some p:=⟨G[i.toNat]'(by lia),zK (by lia)⟩
   refine⟨i.toNat,bp p,by rw[zO,hp];rfl,by lia,?_⟩;rw[fZ,(h.gl _ p hp).mem_iff,xu,show ((i.toNat:Nat):Int)=i by lia];exact hm
  ·rintro⟨m,p,hp,rfl,hj⟩;rw[zO] at hp;let⟨p',ZQ,rfl⟩:=Option.map_eq_some_iff.mp hp;rw[fZ,(h.gl m p' ZQ).mem_iff,xu] at hj
   rwa [jE]
 have hpt:∀i j:Int,[i,j]∈W.map (λw=>[w.1,w.2.1])↔[j,i]∈m8 0 (T.map bp):=λi j=>by
  rw[rm];constructor
  ·intro hm;let⟨w,hw,e⟩:=List.mem_map.mp hm;simp?[kX,and_true] at e;have hr:=(h.wr w hw).2.1;obtain⟨p,hp⟩:∃p,T[j.toNat]?=some p:=⟨T[j.toNat]'(by lia),zK (by lia)⟩
   refine⟨j.toNat,bp p,by rw[zO,hp];rfl,by lia,?_⟩;rw[fZ,(h.tl _ p hp).mem_iff,yl,show ((j.toNat:Nat):Int)=j by lia];exact hm
  ·rintro⟨m,p,hp,rfl,hj⟩;rw[zO] at hp;let⟨p',ZQ,rfl⟩:=Option.map_eq_some_iff.mp hp;rw[fZ,(h.tl m p' ZQ).mem_iff,yl] at hj
   rwa [jE]
 have two:∀ {r:Γ Int},r∈W.map (λw=>[w.1,w.2.1])->∃i j,r=[i,j]:=λhr=>by
  let⟨w,_,rfl⟩:=List.mem_map.mp hr;exact⟨_,_,rfl⟩
 have ng:∀ (L:Γ Pl),(∀p∈L,p.2.Nodup)->(m8 0 (L.map bp)).Nodup:=λL hL=>uL λp hp=>by
  let⟨p',ZQ,rfl⟩:=List.mem_map.mp hp;rw[fZ];exact hL p' ZQ
 have e1:W.map (λw=>[w.1,w.2.1])=ua (m8 0 (G.map bp)):=Jh h.wp (ng G λp hp=>by
   let⟨i,hi,e⟩:=qS hp;exact (h.gl i p (by rw[zK hi,e])).nodup_iff.mpr (oJ h.wp i)) λr=>⟨λhr=>by
   let⟨i,j,rfl⟩:=two hr;exact (hpg i j).mp hr,λhr=>by
   let⟨i,j,rfl⟩:=md r hr;exact (hpg i j).mpr hr⟩
 have e2:W.map (λw=>[w.1,w.2.1])=ua ((m8 0 (T.map bp)).map List.reverse):=Jh h.wp (by
   exact List.pairwise_map.mpr (List.Pairwise.imp (λ{a b} WN e=>WN (List.reverse_inj.mp e)) (ng T λp hp=>by
    let⟨i,hi,e⟩:=qS hp;exact (h.tl i p (by rw[zK hi,e])).nodup_iff.mpr (pG h.wp i)))) λr=>⟨λhr=>by
   let⟨i,j,rfl⟩:=two hr;exact List.mem_map.mpr ⟨[j,i],(hpt i j).mp hr,rfl⟩,λhr=>by
   let⟨r',X4,rfl⟩:=List.mem_map.mp hr;let⟨i,j,rfl⟩:=md r' X4;exact (hpt j i).mpr X4⟩
 have hw:(W.map av).all (jx G.length T.length)=true:=by
  rw[xH];intro x hx;let⟨w,hw,rfl⟩:=List.mem_map.mp hx;exact E4 (h.wr w hw)
 have hs:∀ {L:Γ Pl},1<=L.length->L.length<=4->oV (.tuple (L.map bp))=true:=λ{L} a b=>by
  simp?[oV,long,zD,zF,zJ];lia
 have h3:long 3 3 (az G T W)=true:=rfl;have hg:=h.gok;have ht:=h.tok;unfold T3 Bu;rw[h3,jL];simp?[az,cT,wA,wC,hP,<- e1,<- e2,jQ,Bool.and_true,ju,hs h.g1 h.g4,hs h.t1 h.t4,zD,hg,ht,hw,NT]
def sI(b:θ):Int:=if b then 1 else 0
def ba(b:θ)(w:Wy):Int:=if b then w.2.1 else w.1
def bZ(b:θ)(w:Wy):Int:=ba (!b) w
def aX(b:θ)(G T:Γ Pl):Γ Pl:=if b then T else G
def nv(b:θ)(G T:Γ Pl)(W:Γ Wy):ay (az G T W) (.int (sI b))=some (.tuple ((aX b G T).map bp)):=by cases b<;>rfl
def qp(G T:Γ Pl)(W:Γ Wy):ay (az G T W) (.int 2)=some (.tuple (W.map av)):=rfl
def nY(b:θ)(w:Wy):ay (av w) (.int (sI b))=some (.int (ba b w)):=by cases b<;>rfl
def MY(b:θ)(w:Wy):ay (av w) (.int (1 - sI b))=some (.int (bZ b w)):=by cases b<;>rfl
def EL(w:Wy):ay (av w) (.int 2)=some (.int w.2.2):=rfl
def KM(p:Pl):ay (bp p) (.int 0)=some (.int p.1):=rfl
def LM(p:Pl):ay (bp p) (.int 1)=some (af p.2):=rfl
def sU(h:ds[i]?=some d):ay (.tuple ds) (.int ((i:Nat):Int))=some d:=by
 show uh ds (i:Nat)=_;exact yr h
def OU(h:ds[i]?=some d):ay (.list ds) (.int ((i:Nat):Int))=some d:=by
 show uh ds (i:Nat)=_;exact yr h
def lg{l:Γ α}(h:l[i]?=some x):ay (.tuple (l.map f)) (.int ((i:Nat):Int))=some (f x):=sU (by rw[zO,h];rfl)
def CW{l:Γ α}(h:l[i]?=some x):ay (.list (l.map f)) (.int ((i:Nat):Int))=some (f x):=OU (by rw[zO,h];rfl)
def Q8(b:θ)(W:Γ Wy)(p:Int):Γ Int:=(W.filter λw=>decide (ba b w=p)).map (bZ b)
def Wd.lik{G T:Γ Pl}{W:Γ Wy}(h:Wd G T W){b:θ}{i:Nat}{p:Pl}(e:(aX b G T)[i]?=some p):p.2.Perm (Q8 b W i):=by
 cases b
 ·exact h.gl i p e
 ·exact h.tl i p e
def Wd.nod(h:Wd G T W)(b:θ)(i:Int):(Q8 b W i).Nodup:=by
 cases b
 ·exact oJ h.wp i
 ·exact pG h.wp i
def tE{tt:Dl.Env->Δ θ}{te:Dl.Env->Δ D}{r:Γ (Δ D)}{p:Nat->D->θ}{h:Nat->D->D}:∀ {ds:Γ D}{k:Nat},
  (∀i d,ds[i]?=some d->tt (some (.int ((k+i:Nat):Int))::some d::r)=some (p (k+i) d)/\(p (k+i) d=true->te (some (.int ((k+i:Nat):Int))::some d::r)=some (h (k+i) d))) ->
  cS (gM 0 1) tt te (none::none::r) (bF k ds)=some (((ds.zipIdx k).filter λq=>p q.2 q.1).map λq=>h q.2 q.1)
 | [],k,_=>rfl
 | d::ds,k,hh=>by
  let⟨h1,h2⟩:=hh 0 d rfl;have ih:=tE (ds:=ds) (k:=k+1) λi x hx=>by
   have:=hh (i+1) x (by simpa using hx);rw[show k+1+i=k+(i+1) by lia];exact this
  have hg:gM 0 1 (none::none::r) (.tuple [.int ((k:Nat):Int),d])=some (some (.int ((k:Nat):Int))::some d::r):=by
   simp?[gM,isFree,xR,yZ,qH,wH,jP,xI,yW,yX]
  rw[bF,cS,hg,List.zipIdx_cons];simp?[Nat.add_zero] at h1 h2;simp?[zA,h1];cases hp:p k d with
  | true=>simp[h2 hp,ih,hp]
  | false=>simp[ih,hp]
def FU{fi:Dl.Env->Δ (Γ D)}{tt:Dl.Env->Δ θ}{te:Dl.Env->Δ D}{ρ:Dl.Env}{ds:Γ D}{p:Nat->D->θ}{h:Nat->D->D}(Xo:fi ρ=some (bF 0 ds))(hl:ds.length<=1000)
  (hh:∀i d,ds[i]?=some d->tt (some (.int ((i:Nat):Int))::some d::cs.map λj=>(ρ[j]?).getD none)=some (p i d)/\(p i d=true->te (some (.int ((i:Nat):Int))::some d::cs.map λj=>(ρ[j]?).getD none)=some (h i d))) :
  au 2 cs fi (gM 0 1) tt te ρ=some ((ds.zipIdx.filter λq=>p q.2 q.1).map λq=>h q.2 q.1):=by
 have:=tE (tt:=tt) (te:=te) (r:=cs.map λj=>(ρ[j]?).getD none) (p:=p) (h:=h) (ds:=ds) (k:=0) (by simpa using hh);simp?[au,Xo,zA,fA,List.replicate,xG,xP,this];refine bo ?_;rw[zD];refine yD (xQ _ _) ?_;rw[List.length_zipIdx];lia
def il(f:α->Int):∀ {l m:Γ α},l.Perm m->(l.Pairwise λa b=>f a<=f b)->(m.Pairwise λa b=>f a < f b)->l=m
 | l,[],hp,_,_=>hp.eq_nil
 | [],x::m,hp,_,_=>absurd hp.symm.eq_nil (by simp)
 | y::l,x::m,hp,h1,h2=>by
  rw[List.pairwise_cons] at h1 h2;have e:y=x:=by
   have hx:x∈y::l:=hp.mem_iff.mpr zE;rcases List.mem_cons.mp hx with z|hx
   ·exact z.symm
   ·have hy:y∈x::m:=hp.mem_iff.mp zE;rcases List.mem_cons.mp hy with z|hy
    ·exact z
    ·have:=h1.1 x hx;have:=h2.1 y hy;lia
  subst e;rw[il f ((List.perm_cons y).mp hp) h1.2 h2.2]
def tG(z:Nat->Int)(l:Γ α)(d:α)(f:α->Int)(h:∀i,i < l.length->z i=f (l.getD i d)):(rg z l d).Pairwise λa b=>f a<=f b:=by
 unfold rg;split
 ·rename_i hl
  match l,hl with
  | [],_=>exact List.Pairwise.nil
  | [a],_=>exact vI _ _
 ·rename_i hl;let⟨hp,hs⟩:=SP.gZ (z:=z) (n:=l.length) (by lia);rw[jF] at hs ⊢;refine hs.imp_of_mem λ{i j} hi hj Wo=>?_;have Xc:i < l.length:=by have:=hp.mem_iff.mp hi;sleep 14
  have Yh:j < l.length:=by have:=hp.mem_iff.mp hj;sleep 14
  rw[<- h i Xc,<- h j Yh];exact Wo
def aC(W:Γ Wy)(i:Nat):Wy:=W.getD i (0,0,0)
def ig(hk:k < W.length):W[k]=aC W k:=by simp[aC,hk]
def n5(hk:k < W.length):W[k]?=some (aC W k):=by rw[zK hk,ig hk]
def own(b:θ)(W:Γ Wy)(p:Int):Γ Nat:=(List.range W.length).filter λi=>decide (ba b (aC W i)=p)
def qa(b:θ)(W:Γ Wy)(p o:Int):Nat:=W.findIdx λw=>decide (ba b w=p)&&decide (bZ b w=o)
def fE(b:θ)(W:Γ Wy)(p:Int)(L:Γ Int):Γ Nat:=L.map (qa b W p)
def cG:i∈own b W p↔i < W.length/\ba b (aC W i)=p:=by simp[own]
def map_range(d:α)(f:α->β)(l:Γ α):(List.range l.length).map (λi=>f (l.getD i d))=l.map f:=by
 apply jI
 ·simp
 ·intro i h1 h2;have:i < l.length:=by simpa using h2
  simp[this]
def yt(d:α)(q:α->θ):∀ (l:Γ α),((List.range l.length).filter λi=>q (l.getD i d)).map (λi=>l.getD i d)=l.filter q:=by
 intro l;have e:l=(List.range l.length).map λi=>l.getD i d:=by
  have:=map_range d (λx=>x) l;simp at this;simpa using this.symm
 conv=>rhs;rw[e]
 rw[kH];rfl
def lX(b:θ)(W:Γ Wy)(p:Int):(own b W p).map (λi=>bZ b (aC W i))=Q8 b W p:=by
 unfold own Q8 aC;rw[<- yt (0,0,0) (λw=>decide (ba b w=p)) W,zM];rfl
def we(h:wg W)(hi:i < W.length)(hj:j < W.length)(h1:(aC W i).1=(aC W j).1)(h2:(aC W i).2.1=(aC W j).2.1):i=j:=by
 have e:∀k,k < W.length->W[k]?=some (aC W k):=λk hk=>by simp[aC,hk]
 rcases Nat.lt_trichotomy i j with z|z|z
 ·have:=List.pairwise_iff_getElem.mp h i j hi hj z;have a:=e i hi;have b:=e j hj;rw[zK hi] at a;rw[zK hj] at b;rw[xE a,xE b] at this;rcases this with z|z<;>lia
 ·exact z
 ·have:=List.pairwise_iff_getElem.mp h j i hj hi z;have a:=e i hi;have b:=e j hj;rw[zK hi] at a;rw[zK hj] at b;rw[xE a,xE b] at this;rcases this with z|z<;>lia
def tQ(h:wg W)(hi:i < W.length)(hj:j < W.length)(h1:ba b (aC W i)=ba b (aC W j))(h2:bZ b (aC W i)=bZ b (aC W j)):i=j:=by
 cases b
 ·exact we h hi hj h1 h2
 ·exact we h hi hj h2 h1
def v9(h:wg W)(hi:i∈own b W p):qa b W p (bZ b (aC W i))=i:=by
 let⟨hl,he⟩:=cG.mp hi;have hw:W[i]=aC W i:=by simp[aC,hl]
 unfold qa;have WK:W.findIdx (λw=>decide (ba b w=p)&&decide (bZ b w=bZ b (aC W i))) < W.length:=by
  apply kM;exact⟨W[i],qB _,by rw[hw];simp[he]⟩
 have hq:=List.findIdx_getElem (w:=WK);rw[zF,zJ,zJ] at hq;rw[ig WK] at hq;exact tQ h WK hl (by rw[hq.1,he]) hq.2
def fj{G T:Γ Pl}{W:Γ Wy}(h:Wd G T W){b:θ}{i:Nat}(e:(aX b G T)[i]?=some p):(fE b W i p.2).Perm (own b W i):=by
 have h1:=(h.lik e).map (qa b W i);rw[<- lX b W i,zM] at h1;have e2:(own b W i).map (qa b W i ∘ λj=>bZ b (aC W j))=own b W i:=by
  conv=>rhs;rw[<- List.map_id (own b W i)]
  exact yI λj hj=>v9 h.wp hj
 rw[e2] at h1;exact h1
def nE{G T:Γ Pl}{W:Γ Wy}(h:Wd G T W){b:θ}{i:Nat}{p:Pl}(e:(aX b G T)[i]?=some p){o:Int}(ho:o∈p.2):qa b W i o < W.length/\ba b (aC W (qa b W i o))=i/\bZ b (aC W (qa b W i o))=o:=by
 have hm:=(h.lik e).mem_iff.mp ho;rw[<- lX b W i] at hm;let⟨j,hj,rfl⟩:=List.mem_map.mp hm;rw[v9 h.wp hj];let⟨h1,h2⟩:=cG.mp hj;exact⟨h1,h2,rfl⟩
def kD(b:θ)(W:Γ Wy)(L:Γ Int)(d:D):Int:=(L.findIdx λo=>decide (o=bZ b (aC W (iY d).toNat)):Nat)
def pD:∀ {L:Γ Int}{x:Int},x∈L->Af x L=some (L.findIdx λo=>decide (o=x))
 | [],x,h=>by cases h
 | o::L,x,h=>by
  unfold Af;by_cases e:o=x
  ·simp[e,vC]
  ·rw[yO e];have hx:x∈L:=(List.mem_cons.mp h).resolve_left λz=>e z.symm;rw[pD hx];simp[vC,e]
def Ka{G T:Γ Pl}{W:Γ Wy}(h:Wd G T W){b:θ}{i:Nat}{p:Pl}(e:(aX b G T)[i]?=some p)(z:Nat->Int)(hz:∀j,j < (own b W i).length->z j=kD b W p.2 (((own b W i).map λn=>PyData.int ((n:Nat):Int)).getD j .none)) :
  rg z ((own b W i).map λn=>PyData.int ((n:Nat):Int)) .none=(fE b W i p.2).map λn=>PyData.int ((n:Nat):Int):=by
 refine il (kD b W p.2) ((gh _ _ _).trans ((fj h e).symm.map _)) (tG z _ _ _ λj hj=>hz j (by simpa using hj)) ?_;have hn:p.2.Nodup:=(h.lik e).nodup_iff.mpr (h.nod b i);unfold fE;rw[zM,jF];have key:∀k (hk:k < p.2.length),kD b W p.2 (PyData.int ((qa b W i p.2[k]:Nat):Int))=(k:Nat):=λk hk=>by
  let⟨_,_,e3⟩:=nE h e (qB hk);unfold kD;simp?[iY,yG,e3]
  congr 1
  rw[List.findIdx_eq (by exact hk)];refine⟨by simp,λj hj=>?_⟩;have:=List.pairwise_iff_getElem.mp hn j k (by lia) hk hj;sleep 14
 refine List.pairwise_iff_getElem.mpr λj k hj hk Wu=>?_;show kD b W p.2 (PyData.int ((qa b W i p.2[j]:Nat):Int)) < kD b W p.2 (PyData.int ((qa b W i p.2[k]:Nat):Int));rw[key j hj,key k hk];lia
abbrev nD(n:Nat):D:=.int ((n:Nat):Int)
def oZ:∀ {ds:Γ D},(∀d∈ds,te (ρ.set 0 (some d))=some (h d))->iV te ρ ds=some (ds.map h)
 | [],_=>rfl
 | d::ds,hh=>by
  unfold iV;rw[hh d zE,zA,oZ λx hx=>hh x (zC _ hx)];rfl
def xb(b:θ)(W:Γ Wy)(p:Int):(own b W p).length<=W.length:=by
 unfold own;refine yD (xQ _ _) ?_;rw[zR];exact yN _
def Cn(b:θ)(W:Γ Wy)(p:Int):(((W.map av).zipIdx.filter λq=>decide (ba b (aC W q.2)=p)).map λq=>nD q.2)=(own b W p).map nD:=by
 have e:(W.map av).zipIdx=(List.range W.length).map λi=>(av (aC W i),i):=by
  apply jI
  ·simp
  ·intro i h1 h2;have:i < W.length:=by simpa using h2
   simp[ig this]
 rw[e,kH,zM];rfl
def o6(h:Wd G T W)(e:(aX b G T)[i]?=some p):gc [az G T W,.int (sI b),nD i]=some (.list ((fE b W i p.2).map nD)):=by
 have hw:=h.wl;have ep:ay (.tuple ((aX b G T).map bp)) (nD i)=some (bp p):=lg e;have hl:=xb b W i;have t3:Dl.aF 3 [0] (f2 ay (ab 0) (fC (.int 2))) [.val (az G T W),.val (.int (sI b)),.val (nD i),.Wh,.Wh,.Wh]=some (.nx [.val (az G T W),.val (.int (sI b)),.val (nD i),.val (.tuple (W.map av)),.Wh,.Wh]) :=
  cm (d:=.tuple (W.map av)) rfl rfl rfl rfl
 have t4:Dl.aF 4 [0,1,2] (f2 ay (f2 ay (f2 ay (ab 0) (ab 1)) (ab 2)) (fC (.int 1))) [.val (az G T W),.val (.int (sI b)),.val (nD i),.val (.tuple (W.map av)),.Wh,.Wh]=some (.nx [.val (az G T W),.val (.int (sI b)),.val (nD i),.val (.tuple (W.map av)),.val (af p.2),.Wh]):=by
  refine cm (d:=af p.2) ?_ rfl rfl rfl;rw[iM (a:=bp p) (b:=.int 1) ?_ rfl,LM];rw[iM (a:=.tuple ((aX b G T).map bp)) (b:=nD i) ?_ rfl,ep];rw[iM (a:=az G T W) (b:=.int (sI b)) rfl rfl,nv]
 have c5:au 2 [1,2] (bq (aa (ab 3) ag)) (gM 0 1) (fB (f2 bC (f2 ay (ab 1) (ab 2)) (ab 3))) (ab 0) [some (az G T W),some (.int (sI b)),some (nD i),some (.tuple (W.map av)),some (af p.2),none]=some ((own b W i).map nD):=by
  rw[FU (ds:=W.map av) (p:=λj _=>decide (ba b (aC W j)=i)) (h:=λj _=>nD j) rfl (by rw[zD];lia) λj d hd=>?_,Cn];rw[zO] at hd;let⟨w,hw',rfl⟩:=Dl.ae hd;have hj:j < W.length:=(List.getElem?_eq_some_iff.mp hw').1;rw[n5 hj] at hw';cases hw';refine⟨?_,λ_=>rfl⟩;show fB (f2 bC (f2 ay (ab 1) (ab 2)) (ab 3)) [some (nD j),some (av (aC W j)),some (.int (sI b)),some (nD i)]=_;simp?[fB];rw[iM (a:=.int (ba b (aC W j))) (b:=nD i) (by rw[iM (a:=av (aC W j)) (b:=.int (sI b)) rfl rfl,nY]) rfl,cX];rfl
 have t5:aS 5 [1,2,3] (au 2 [1,2] (bq (aa (ab 3) ag)) (gM 0 1) (fB (f2 bC (f2 ay (ab 1) (ab 2)) (ab 3))) (ab 0)) [.val (az G T W),.val (.int (sI b)),.val (nD i),.val (.tuple (W.map av)),.val (af p.2),.Wh]=some (.nx [.val (az G T W),.val (.int (sI b)),.val (nD i),.val (.tuple (W.map av)),.val (af p.2),.own ((own b W i).map nD)]):=by
  have hh:hand [1,2,3] 0 [Slot.val (az G T W),.val (.int (sI b)),.val (nD i),.val (.tuple (W.map av)),.val (af p.2),.Wh]=[Slot.val (az G T W),.val (.int (sI b)),.val (nD i),.val (.tuple (W.map av)),.val (af p.2),.Wh]:=rfl;simp?[aS,hh,bg,zI,yV,Slot.WZ,c5,zB,yX,yW]
 have hk:iV (f2 qk (ab 3) (f2 ay (f2 ay (ab 2) (ab 0)) (f2 Dl.fW (fC (.int 1)) (ab 1)))) [none,some (.int (sI b)),some (.tuple (W.map av)),some (af p.2)] ((own b W i).map nD)=some (((own b W i).map nD).map λd=>.int (kD b W p.2 d)):=by
  refine oZ λd hd=>?_;let⟨j,hj,rfl⟩:=List.mem_map.mp hd;let⟨hjl,hje⟩:=cG.mp hj;show f2 qk (ab 3) (f2 ay (f2 ay (ab 2) (ab 0)) (f2 Dl.fW (fC (.int 1)) (ab 1))) [some (nD j),some (.int (sI b)),some (.tuple (W.map av)),some (af p.2)]=_;have ew:ay (.tuple (W.map av)) (nD j)=some (av (aC W j)):=lg (n5 hjl);rw[iM (a:=af p.2) (b:=.int (bZ b (aC W j))) rfl ?_]
  ·have hm:bZ b (aC W j)∈p.2:=(h.lik e).mem_iff.mpr (by rw[<- lX];exact List.mem_map.mpr ⟨j,hj,rfl⟩);simp?[qk,af,bL,zA,pD hm,zB,kD,iY,yG]
   all_goals first|rfl|(congr 3;funext o;congr)
  ·rw[iM (a:=av (aC W j)) (b:=.int (1 - sI b)) ?_ ?_,MY]
   ·rw[iM (a:=.tuple (W.map av)) (b:=nD j) rfl rfl,ew]
   ·rw[iM (a:=.int 1) (b:=.int (sI b)) rfl rfl,ka]
 have hi:intsOf (((own b W i).map nD).map λd=>PyData.int (kD b W p.2 d))=some (((own b W i).map nD).map (kD b W p.2)):=by
  rw[show (((own b W i).map nD).map λd=>PyData.int (kD b W p.2 d))=(((own b W i).map nD).map (kD b W p.2)).map PyData.int by simp?[zM];rfl,bL]
 have t6:aQ (cU (pf [1,3,4] (ab 5) (f2 qk (ab 3) (f2 ay (f2 ay (ab 2) (ab 0)) (f2 Dl.fW (fC (.int 1)) (ab 1)))))) [.val (az G T W),.val (.int (sI b)),.val (nD i),.val (.tuple (W.map av)),.val (af p.2),.own ((own b W i).map nD)]=some (.rt (.list ((fE b W i p.2).map nD))):=by
  have es:pf [1,3,4] (ab 5) (f2 qk (ab 3) (f2 ay (f2 ay (ab 2) (ab 0)) (f2 Dl.fW (fC (.int 1)) (ab 1)))) [some (az G T W),some (.int (sI b)),some (nD i),some (.tuple (W.map av)),some (af p.2),some (.list ((own b W i).map nD))]=some ((fE b W i p.2).map nD):=by
   unfold pf;show (iV _ [none,some (.int (sI b)),some (.tuple (W.map av)),some (af p.2)] ((own b W i).map nD)).bind _=_;rw[hk,zA,hi,zA,yM (by rw[zD];lia),Ka h e _ λj hj=>?_];simp[hj]
  simp?[aQ,aP,zI,yV,xf,zf,cU,es,zB]
 sleep 50;show oM [.val (az G T W),.val (.int (sI b)),.val (nD i),.Wh,.Wh,.Wh]=_;unfold oM;rw[ai t3,ai t4,ai t5,t6]
local macro_rules|`(tactic| dsimp! [$ts,*])=>`(tactic| simp only[ab,fC,f1,f2,aa,ag,ah,bw,uu,aR,fM,cU,fB,gB,cR,qd,Bq,bq,aP,bg,xf,zf,Ek,C4,Du,Es,zI,yV,xR,yZ,zA,zB,qH,zL,xM,Nat.reduceAdd,jE,reduceIte,yX,yW,$ts,*])
def nH(R:S->aj->Prop)(f:α->D)(st:S->α->S):∀ {l:Γ α}{s:S}{ρ:aj},
  (∀s ρ x,x∈l->R s ρ->∃ρ1 W9,tgt ρ (f x)=some ρ1/\gb ρ1=some (.nx W9)/\R (st s x) W9)->R s ρ->∃ρ',d6 tgt gb (l.map f) ρ=some (.nx ρ')/\R (l.foldl st s) ρ'
 | [],s,ρ,_,h=>⟨ρ,rfl,h⟩
 | d::ds,s,ρ,hh,h=>by
  let⟨ρ1,W9,e1,e2,h2⟩:=hh s ρ d zE h;let⟨ρ',e3,h3⟩:=nH R f st (λs ρ x hx=>hh s ρ x (zC _ hx)) h2;refine⟨ρ',?_,h3⟩;rw[zI,d6,e1,zA,e2];exact e3
def gp(R:aj->Prop)(f:α->D)(q:α->θ)(out:α->D):∀ {l:Γ α}{ρ:aj},
  (∀ρ x,x∈l->R ρ->∃ρ1,tgt ρ (f x)=some ρ1/\(q x=true->gb ρ1=some (.rt (out x)))/\(q x=false->∃W9,gb ρ1=some (.nx W9)/\R W9))->R ρ ->
  (∀x,l.find? q=some x->d6 tgt gb (l.map f) ρ=some (.rt (out x)))/\(l.find? q=none->∃ρ',d6 tgt gb (l.map f) ρ=some (.nx ρ')/\R ρ')
 | [],ρ,_,h=>⟨λx hx=>(by cases hx),λ_=>⟨ρ,rfl,h⟩⟩
 | x::l,ρ,hh,h=>by
  let⟨ρ1,e1,e2,e3⟩:=hh ρ x zE h;rw[zI,d6,e1,zA];cases hq:q x with
  | true =>
   rw[vO (by simpa using hq),e2 hq];exact⟨λy hy=>(by cases hy;rfl),λhn=>(by cases hn)⟩
  | false =>
   let⟨W9,e4,h2⟩:=e3 hq;rw[kL (by simp[hq]),e4];exact gp R f q out (λρ x hx=>hh ρ x (zC _ hx)) h2
def cP(h:d6 tgt gb ds ρ1=o)(hi:fi (bg ρ1)=some ds)(hh:hand fz 0 ρ=ρ1):e8 fz fi tgt gb ρ=o:=by
 simp?[e8,hh,hi,zA,h]
def yh(hh:hand fz 0 ρ=ρ')(hf:f (bg ρ')=some ds):aS i fz f ρ=some (.nx (ρ'.set i (.own ds))):=by
 simp?[aS,hh,hf,zB]
def l4(hf:f (bg ρ)=some ds)(hh:hand fz 0 ρ=ρ):aS i fz f ρ=some (.nx (ρ.set i (.own ds))):=yh hh hf
def jh(hh:hand fz 0 ρ=ρ')(hA:f (aP ρ)=some d)(hF:f (bg ρ')=some d)(hs:Dl.lj d=false)(hr:kc d=false\/ρ'=ρ:=by first|exact .inr rfl|exact .inl rfl):Dl.aF i fz f ρ=some (.nx (ρ'.set i (.val d))):=by
 rcases hr with hr|hr
 ·simp?[Dl.aF,hA,zA,hs,yP,qQ,hh,hF,zB,hr]
 ·subst hr;simp?[Dl.aF,hA,zA,hs,yP,qQ,hh,hF,zB,ite_self]
def call_of(h:m ds=some d)(hf:fs ρ=some ds)(hn:ds.length=n):ah n m fs ρ=some d:=by
 unfold ah;rw[hf,zA,yM hn,h]
def cons_of(h:f ρ=some d)(hs:fs ρ=some ds):aa f fs ρ=some (d::ds):=by
 unfold aa;rw[h,hs];rfl
def aO(hf:f (aP ρ)=some d):aQ f ρ=some (.rt d):=by
 simp?[aQ,hf,zB]
def gF(hf:f (aP ρ)=some d):rJ f ρ=some (.nx ρ):=by
 simp?[rJ,hf,zB]
def dX(h:t (aP ρ)=some false):j5 t g iJ ρ=some (.nx ρ):=by
 simp[j5,h,iJ]
def fU(h:t (aP ρ)=some true):j5 t g g2 ρ=g ρ:=by
 simp[j5,h]
def jn(h:g1 ρ=some (.rt d)):ax g1 g2 ρ=some (.rt d):=by
 simp?[ax,h,zA]
def Fv(hf:f (aP ρ)=some d)(hs:Dl.lj d=true)(hk:fk (aP ρ)=some (nD k))(ho:ρ[i]?=some (.own ds))(hl:k < ds.length):Ce i fz fk f ρ=some (.nx (ρ.set i (.own (ds.set k d)))):=by
 have hx:HZ ds.length ((k:Nat):Int)=some k:=by
  unfold HZ;rw[yM (Int.natCast_nonneg k),yM (by lia)];simp
 simp?[Ce,k8,hf,zA,hs,xI,hk,oA,ho,hx,zB]
def lp(cont:S->θ)(st:S->S):Nat->S->S
 | 0,s=>s
 | n+1,s=>if cont s=true then lp cont st n (st s) else s
def Ae(R:S->aj->Prop)(cont:S->θ)(st:S->S)(μ:S->Nat)
  (ht:∀s ρ,R s ρ->t (aP ρ)=some (cont s)) (hb:∀s ρ,R s ρ->cont s=true->∃ρ',gb ρ=some (.nx ρ')/\R (st s) ρ'/\μ (st s) < μ s) :
  ∀ (n:Nat) (s:S) (ρ:aj),μ s < n->R s ρ->∃ρ',BZ t gb n ρ=some (.nx ρ')/\R (lp cont st n s) ρ'/\cont (lp cont st n s)=false
 | 0,s,ρ,h,_=>absurd h (by lia)
 | n+1,s,ρ,h,r=>by
  rw[BZ,ht s ρ r,zA,lp];cases hc:cont s with
  | false=>exact⟨ρ,by simp,by simpa [hc] using r,by simpa [hc] using hc⟩
  | true =>
   let⟨ρ',e,r',hm⟩:=hb s ρ r hc;let⟨W9,e2,r2,c2⟩:=Ae R cont st μ ht hb n (st s) ρ' (by lia) r';refine⟨W9,?_,by simpa [hc] using r2,by simpa [hc] using c2⟩;simp?[xI,e,zA];exact e2
def kg{off:Γ Int}(h:i < off.length):ay (af off) (nD i)=some (.int (off.getD i 0)):=lg (f:=PyData.int) (l:=off) (by simp[h])
def PH{off:Γ Int}(h:i < off.length):ay (.list (off.map PyData.int)) (nD i)=some (.int (off.getD i 0)):=CW (f:=PyData.int) (l:=off) (by simp[h])
def sD(h:i < W.length):ay (.tuple (W.map av)) (nD i)=some (av (aC W i)):=lg (n5 h)
def Uh(a b c:Int):AO [.int a,.int b,.int c]=some (.int (min (min a b) c)):=rfl
def yj(l:Γ Int)(k:Nat)(v:Int):(l.map PyData.int).set k (.int v)=(l.set k v).map PyData.int:=by rw[List.map_set]
def MW(l:Γ Int):bK [.list (l.map PyData.int)]=some (af l):=rfl
def Ic(l:Γ D):bK [.list l]=some (.tuple l):=rfl
def EI(l:Γ D):bO [.tuple l]=some (nD l.length):=rfl
def Mc(l:Γ Int):bO [af l]=some (nD l.length):=by
 show some (PyData.int ((l.map PyData.int).length:Nat))=_;rw[zD]
def Fq(h:n<=1000):mH [nD n]=some ((List.range n).map nD):=by
 rw[zt (yp h),yG]
def yd(h:fs ρ=some [nD n])(hn:n<=1000):cB fs ρ=some ((List.range n).map nD):=by
 unfold cB;rw[h,zA,Fq hn]
def sub_int(i j:Int):Dl.fW (.int i) (.int j)=some (.int (i - j)):=ka i j
def zeros(Xo:fi ρ=some ds)(hl:ds.length<=1000):au 1 [] fi (fG 0) (λ_=>some true) (fC (.int 0)) ρ=some ((List.replicate ds.length (0:Int)).map PyData.int):=by
 rw[b9 (h:=λ_=>.int 0) Xo (by lia) λd hd=>rfl];simp[List.map_const']
def Nf:∀n,(List.replicate n [PyData.int 0]).flatten=(List.replicate n (0:Int)).map PyData.int
 | 0=>rfl
 | n+1=>by rw[xF,qN,Nf n,xF];rfl
def vp:∀ (a b:Γ Int),cS (gM 0 1) (λ_=>some true) (f2 aJ (ab 0) (ab 1)) (none::none::r) (iI (a.map PyData.int) (b.map PyData.int))=some ((List.zipWith (·+·) a b).map PyData.int)
 | [],b=>by cases b<;>rfl
 | x::a,[]=>rfl
 | x::a,y::b=>by
  have ih:=vp (r:=r) a b;have hg:gM 0 1 (none::none::r) (.tuple [.int x,.int y])=some (some (.int x)::some (.int y)::r):=by
   simp?[gM,isFree,xR,yZ,qH,wH,jP,xI,yW,yX]
  rw[zI,zI,iI,cS,hg,zA];dsimp! [iQ,ih,List.zipWith_cons_cons]
def GV(Xo:fi ρ=some (iI (a.map PyData.int) (b.map PyData.int)))(hl:a.length<=1000) :
  au 2 [] fi (gM 0 1) (λ_=>some true) (f2 aJ (ab 0) (ab 1)) ρ=some ((List.zipWith (·+·) a b).map PyData.int):=by
 have:=vp (r:=[]) a b;simp?[au,Xo,zA,fA,List.replicate,yV,qG,this];refine bo ?_;rw[zD,List.length_zipWith];lia
def cV(W:Γ Wy)(off:Γ Int)(left:Int)(i:Nat):Int:=min (min (off.getD i 0) (aC W i).2.2) left
def m5(W:Γ Wy)(off:Γ Int)(s:Int×Γ Int)(i:Nat):Int×Γ Int:=(s.1 - cV W off s.1 i,s.2.set i (cV W off s.1 i))
def uc(W:Γ Wy)(off:Γ Int)(amt:Int)(is:Γ Nat):Γ Int:=(is.foldl (m5 W off) (amt,List.replicate W.length 0)).2
def D8(W:Γ Wy)(off:Γ Int):∀ (is:Γ Nat) (s:Int×Γ Int),(is.foldl (m5 W off) s).2.length=s.2.length
 | [],s=>rfl
 | i::is,s=>by rw[yJ,D8 W off is];simp[m5]
def yo(W:Γ Wy)(off:Γ Int)(amt:Int)(is:Γ Nat):(uc W off amt is).length=W.length:=by rw[uc,D8];simp
def RP{W:Γ Wy}(e:(aX b G T)[i]?=some p):ay (.tuple ((aX b G T).map bp)) (nD i)=some (bp p):=lg e
def Qu{off:Γ Int}(hi:i < W.length)(ho:off.length=W.length)(hs:s.2.length=W.length) :
  (ax (Ce 4 [0,3,5,6] (ab 6) (bw AO (aa (f2 ay (ab 3) (ab 6)) (aa (f2 ay (f2 ay (f2 ay (ab 0) (fC (.int 2))) (ab 6)) (fC (.int 2))) (aa (ab 5) ag))))) (Dl.aF 5 [4,5,6] (f2 Dl.fW (ab 5) (f2 ay (ab 4) (ab 6))))) [.val (az G T W),.val d1,.val d2,.val (af off),.own (s.2.map PyData.int),.val (.int s.1),.val (nD i)]=some (.nx [.val (az G T W),.val d1,.val d2,.val (af off),.own ((m5 W off s i).2.map PyData.int),.val (.int (m5 W off s i).1),.val (nD i)]):=by
 have hv:(bw AO (aa (f2 ay (ab 3) (ab 6)) (aa (f2 ay (f2 ay (f2 ay (ab 0) (fC (.int 2))) (ab 6)) (fC (.int 2))) (aa (ab 5) ag)))) (aP [.val (az G T W),.val d1,.val d2,.val (af off),.own (s.2.map PyData.int),.val (.int s.1),.val (nD i)])=some (.int (cV W off s.1 i)):=by
  dsimp! [kg (show i < off.length by lia),qp,sD hi,EL,Uh,cV]
 have t1:=Fv (i:=4) (fz:=[0,3,5,6]) (fk:=ab 6) (k:=i) (ds:=s.2.map PyData.int) hv rfl rfl rfl (by rw[zD];lia);rw[yj] at t1;rw[ai t1];have hl:i < (s.2.set i (cV W off s.1 i)).length:=by rw[yC];lia
 have hg:(s.2.set i (cV W off s.1 i)).getD i 0=cV W off s.1 i:=by
  have:i < s.2.length:=by lia
  simp[this]
 have hv2:(f2 Dl.fW (ab 5) (f2 ay (ab 4) (ab 6))) (aP ([.val (az G T W),.val d1,.val d2,.val (af off),.own (s.2.map PyData.int),.val (.int s.1),.val (nD i)].set 4 (.own ((s.2.set i (cV W off s.1 i)).map PyData.int))))=some (.int (m5 W off s i).1):=by
  dsimp! [PH hl,sub_int,hg,m5]
 rw[cN hv2 rfl];rfl
def pL{off:Γ Int}(h:Wd G T W)(ho:off.length=W.length)(e:(aX b G T)[i]?=some p) :
  fv [az G T W,.int (sI b),nD i,af off]=some (af (uc W off p.1 (fE b W i p.2))):=by
 have hw:W.length<=16:=h.wl;have t4:aS 4 [0] (au 1 [] (aR (f2 ay (ab 0) (fC (.int 2)))) (fG 0) (λ_=>some true) (fC (.int 0))) [.val (az G T W),.val (.int (sI b)),.val (nD i),.val (af off),.Wh,.Wh,.Wh]=some (.nx [.val (az G T W),.val (.int (sI b)),.val (nD i),.val (af off),.own ((List.replicate W.length (0:Int)).map PyData.int),.Wh,.Wh]):=by
  have z:=zeros (fi:=aR (f2 ay (ab 0) (fC (.int 2)))) (ρ:=bg [.val (az G T W),.val (.int (sI b)),.val (nD i),.val (af off),.Wh,.Wh,.Wh]) (ds:=W.map av) rfl (by rw[zD];lia);rw[zD] at z;exact yh rfl z
 have t5:Dl.aF 5 [0,1,2] (f2 ay (f2 ay (f2 ay (ab 0) (ab 1)) (ab 2)) (fC (.int 0))) [.val (az G T W),.val (.int (sI b)),.val (nD i),.val (af off),.own ((List.replicate W.length (0:Int)).map PyData.int),.Wh,.Wh]=some (.nx [.val (az G T W),.val (.int (sI b)),.val (nD i),.val (af off),.own ((List.replicate W.length (0:Int)).map PyData.int),.val (.int p.1),.Wh]) :=
  cN (d:=.int p.1) (by dsimp! [nv,RP (W:=W) e,KM]) rfl
 let⟨ρ',e3,Xr,x,rfl⟩:=nH (tgt:=vn 6) (gb:=(ax (Ce 4 [0,3,5,6] (ab 6) (bw AO (aa (f2 ay (ab 3) (ab 6)) (aa (f2 ay (f2 ay (f2 ay (ab 0) (fC (.int 2))) (ab 6)) (fC (.int 2))) (aa (ab 5) ag))))) (Dl.aF 5 [4,5,6] (f2 Dl.fW (ab 5) (f2 ay (ab 4) (ab 6)))))) (R:=λs ρ=>s.2.length=W.length/\∃x,ρ=[.val (az G T W),.val (.int (sI b)),.val (nD i),.val (af off),.own (s.2.map PyData.int),.val (.int s.1),x]) nD (m5 W off)
  (l:=fE b W i p.2) (s:=(p.1,List.replicate W.length (0:Int))) (ρ:=[.val (az G T W),.val (.int (sI b)),.val (nD i),.val (af off),.own ((List.replicate W.length (0:Int)).map PyData.int),.val (.int p.1),.Wh])
  (λs ρ j hj z=>by
   let⟨hs,x,XU⟩:=z;subst XU;let⟨hjl,_⟩:=cG.mp ((fj h e).mem_iff.mp hj);refine⟨_,_,rfl,Qu hjl ho hs,?_,.val (nD j),rfl⟩;simp[m5,hs]) ⟨by simp,_,rfl⟩
 sleep 50;show lO [.val (az G T W),.val (.int (sI b)),.val (nD i),.val (af off),.Wh,.Wh,.Wh]=_;unfold lO;rw[ai t4,ai t5,ai (cP e3 (by dsimp! [o6 h e]) rfl)];exact aO rfl
def bT(b:θ)(G T:Γ Pl)(i:Nat):Pl:=(aX b G T).getD i (0,[])
def Aw(b:θ)(G T:Γ Pl)(W:Γ Wy)(off s:Γ Int)(i:Nat):Γ Int:=List.zipWith (·+·) s (uc W off (bT b G T i).1 (fE b W i (bT b G T i).2))
def cF(b:θ)(G T:Γ Pl)(W:Γ Wy)(off:Γ Int):Γ Int:=(List.range (aX b G T).length).foldl (Aw b G T W off) (List.replicate W.length 0)
def i4(h:i < (aX b G T).length):(aX b G T)[i]?=some (bT b G T i):=by simp[bT,h]
def qo{off:Γ Int}(h:s.length=W.length):(Aw b G T W off s i).length=W.length:=by
 unfold Aw;rw[List.length_zipWith,yo,h,Nat.min_self]
def mf(R:S->Prop):∀ {l:Γ α}{s:S},(∀s x,x∈l->R s->R (f s x))->R s->R (l.foldl f s)
 | [],s,_,h=>h
 | x::l,s,hh,h=>by
  rw[yJ];exact mf (l:=l) R (λs y hy=>hh s y (zC _ hy)) (hh s x zE h)
def oF(b:θ)(G T:Γ Pl)(W:Γ Wy)(off:Γ Int):(cF b G T W off).length=W.length :=
 mf (λs:Γ Int=>s.length=W.length) (λs i _ h=>qo h) (by simp)
def Wd.pl(h:Wd G T W)(b:θ):(aX b G T).length<=4:=by
 cases b
 ·exact h.g4
 ·exact h.t4
def VT:aj->Δ Out:=(ax (Dl.aF 5 [0,1,2,4] (ah 4 fv (aa (ab 0) (aa (ab 1) (aa (ab 4) (aa (ab 2) ag)))))) (aS 3 [3,5] (au 2 [] (fN (aa (ab 3) (aa (ab 5) ag))) (gM 0 1) (λ_=>some true) (f2 aJ (ab 0) (ab 1)))))
def fF{off:Γ Int}(h:Wd G T W)(ho:off.length=W.length)(b:θ) :
  bB [az G T W,.int (sI b),af off]=some (af (cF b G T W off)):=by
 have hw:W.length<=16:=h.wl;have hp:=h.pl b;have t3:aS 3 [0] (au 1 [] (aR (f2 ay (ab 0) (fC (.int 2)))) (fG 0) (λ_=>some true) (fC (.int 0))) [.val (az G T W),.val (.int (sI b)),.val (af off),.Wh,.Wh,.Wh]=some (.nx [.val (az G T W),.val (.int (sI b)),.val (af off),.own ((List.replicate W.length (0:Int)).map PyData.int),.Wh,.Wh]):=by
  have z:=zeros (fi:=aR (f2 ay (ab 0) (fC (.int 2)))) (ρ:=bg [.val (az G T W),.val (.int (sI b)),.val (af off),.Wh,.Wh,.Wh]) (ds:=W.map av) rfl (by rw[zD];lia);rw[zD] at z;exact l4 z rfl
 let⟨ρ',e3,Xr,x,y,rfl⟩:=nH (tgt:=vn 4) (gb:=VT) (R:=λs ρ=>s.length=W.length/\∃x y,ρ=[.val (az G T W),.val (.int (sI b)),.val (af off),.own (s.map PyData.int),x,y]) nD (Aw b G T W off)
  (l:=List.range (aX b G T).length) (s:=List.replicate W.length (0:Int)) (ρ:=[.val (az G T W),.val (.int (sI b)),.val (af off),.own ((List.replicate W.length (0:Int)).map PyData.int),.Wh,.Wh])
  (λs ρ i hi z=>by
   let⟨hs,x,y,XU⟩:=z;subst XU;have ei:=i4 (List.mem_range.mp hi);have t1:Dl.aF 5 [0,1,2,4] (ah 4 fv (aa (ab 0) (aa (ab 1) (aa (ab 4) (aa (ab 2) ag))))) [.val (az G T W),.val (.int (sI b)),.val (af off),.own (s.map PyData.int),.val (nD i),y]=some (.nx [.val (az G T W),.val (.int (sI b)),.val (af off),.own (s.map PyData.int),.val (nD i),.val (af (uc W off (bT b G T i).1 (fE b W i (bT b G T i).2)))]):=by
    refine jh (ρ':=[.val (az G T W),.val (.int (sI b)),.val (af off),.own (s.map PyData.int),.val (nD i),y]) rfl (d:=af (uc W off (bT b G T i).1 (fE b W i (bT b G T i).2))) ?_ ?_ rfl
    ·dsimp! [pL h ho ei]
    ·dsimp! [pL h ho ei]
   have t2:aS 3 [3,5] (au 2 [] (fN (aa (ab 3) (aa (ab 5) ag))) (gM 0 1) (λ_=>some true) (f2 aJ (ab 0) (ab 1))) [.val (az G T W),.val (.int (sI b)),.val (af off),.own (s.map PyData.int),.val (nD i),.val (af (uc W off (bT b G T i).1 (fE b W i (bT b G T i).2)))]=some (.nx [.val (az G T W),.val (.int (sI b)),.val (af off),.own ((Aw b G T W off s i).map PyData.int),.val (nD i),.val (af (uc W off (bT b G T i).1 (fE b W i (bT b G T i).2)))]):=by
    refine yh (ρ':=[.val (az G T W),.val (.int (sI b)),.val (af off),.val (.list (s.map PyData.int)),.val (nD i),.val (af (uc W off (bT b G T i).1 (fE b W i (bT b G T i).2)))]) rfl (ds:=(Aw b G T W off s i).map PyData.int) ?_;exact GV (a:=s) (b:=uc W off (bT b G T i).1 (fE b W i (bT b G T i).2)) rfl (by lia)
   exact⟨_,_,rfl,(ai t1).trans t2,qo hs,_,_,rfl⟩) ⟨by simp,_,_,rfl⟩
 sleep 50;show fI [.val (az G T W),.val (.int (sI b)),.val (af off),.Wh,.Wh,.Wh]=_;unfold fI;rw[ai t3];refine (ai (cP e3 (yd (by dsimp! [nv,EI,zD]) (by lia)) rfl)).trans ?_;exact aO rfl
def w8(h:(xs++ys).length<=4000):Dl.aJ (.tuple xs) (.tuple ys)=some (.tuple (xs++ys)):=by
 simp?[Dl.aJ,zg,MD,bo h,zB,Option.none_or,Option.some_or]
def MM(h:f ρ=some d):aK (aa f ag) ρ=some (.tuple [d]):=by
 simp?[aK,aa,ag,h,zA,zB];rw[bo (by simp),zB]
def UD(h:f ρ=some d)(h2:g ρ=some e):aK (aa f (aa g ag)) ρ=some (.tuple [d,e]):=by
 simp?[aK,aa,ag,h,h2,zA,zB];rw[bo (by simp),zB]
def aB(h:g a b=some c)(ha:fa ρ=some a)(hb:fb ρ=some b):f2 g fa fb ρ=some c:=by rw[iM ha hb,h]
def O4(h:f ρ=some (.tuple ds))(h2:g ρ=some (nD k)):n6 gX f nU (Dw g) ρ=some (.tuple (ds.take k)):=by
 simp?[n6,h,nU,Dw,h2,zA,gI,zB,gX,Gj]
def Qq(h:f ρ=some (.tuple ds))(h2:g ρ=some (nD k)):n6 gX f (Dw g) nU ρ=some (.tuple (ds.drop k)):=by
 simp?[n6,h,nU,Dw,h2,zA,gI,zB,gX,AV]
def Ve(d:D)(ds:Γ D):ay (.tuple (d::ds)) (.int 0)=some d:=sU (i:=0) rfl
def T8(c d:D)(ds:Γ D):ay (.tuple (c::d::ds)) (.int 1)=some d:=sU (i:=1) rfl
def CV(c:Γ Int)(i:Nat)(v:Int)(h:i < c.length):((c.map PyData.int).take i++[PyData.int v])++(c.map PyData.int).drop (i+1)=(c.set i v).map PyData.int:=by
 rw[List.set_eq_take_append_cons_drop,yM h];simp
def VG(i:Nat):Dl.aJ (nD i) (.int 1)=some (nD (i+1)):=by
 rw[iQ];rfl
def mL(h:i < c.length)(hl:c.length<=1000):dB [af c,nD i,.int v]=some (af (c.set i v)):=by
 sleep 50;show sH [.val (af c),.val (nD i),.val (.int v)]=_;refine aO ?_;refine aB (a:=.tuple ((c.map PyData.int).take i++[PyData.int v])) (b:=.tuple ((c.map PyData.int).drop (i+1))) ?_ (aB (a:=.tuple ((c.map PyData.int).take i)) (b:=.tuple [.int v]) (w8 ?_) (O4 rfl rfl) (MM rfl)) (Qq rfl (aB (VG i) rfl rfl))
 ·rw[w8,CV c i v h]
  ·rfl
  ·rw[CV c i v h];simp;lia
 ·simp;lia
def uI(h:i < c.length)(hl:c.length<=1000):eI [af c,nD i,.int v]=some (af (c.set i v)):=by
 sleep 50;show uV [.val (af c),.val (nD i),.val (.int v)]=_;exact aO (call_of (mL h hl) rfl rfl)
def dS(W:Γ Wy):Γ Int:=W.map λw=>w.2.2
def JO(h:Wd G T W)(hf:f ρ=some (az G T W)):(bw bK (aa (cU (au 1 [] (aR (f2 ay f (fC (.int 2)))) (fG 0) (λ_=>some true) zq8)) ag)) ρ=some (af (dS W)):=by
 have hw:=h.wl;have hs:(aR (f2 ay f (fC (.int 2)))) ρ=some (W.map av):=by
  unfold aR;rw[aB (qp G T W) hf rfl];rfl
 have e:au 1 [] (aR (f2 ay f (fC (.int 2)))) (fG 0) (λ_=>some true) zq8 ρ=some ((dS W).map PyData.int):=by
  rw[b9 (h:=λd=>.int (iY ((cT d).getD 2 .none))) hs (by rw[zD];lia) λd hd=>?_]
  ·rw[dS,zM,zM];rfl
  ·let⟨w,hw',rfl⟩:=List.mem_map.mp hd;rfl
 simp?[bw,aa,ag,cU,e,zB,zA,MW]
def nA(h:Wd G T W):sr [az G T W]=some (af (dS W)):=by
 sleep 50;show Ay [.val (az G T W)]=_;exact aO (JO h rfl)
def ox(W:Γ Wy):(dS W).length=W.length:=by simp[dS]
def lh(G T:Γ Pl)(W:Γ Wy)(c:Γ Int):Γ Int:=cF true G T W (cF false G T W c)
def qR(G T:Γ Pl)(W:Γ Wy)(c:Γ Int)(k:Nat):θ:=decide ((lh G T W c).getD k 0 < (cF false G T W c).getD k 0)
def ur(G T:Γ Pl)(W:Γ Wy)(c:Γ Int):Δ (Nat×Int):=((List.range W.length).find? (qR G T W c)).map λk=>(k,(lh G T W c).getD k 0)
def Cy:Δ (Nat×Int)->D
 | none=>.none
 | some p=>.tuple [nD p.1,.int p.2]
def enum_zip:∀ (ds:Γ D) (k:Nat),bF k ds=(ds.zipIdx k).map λq=>.tuple [nD q.2,q.1]
 | [],k=>rfl
 | d::ds,k=>by rw[bF,enum_zip ds (k+1),List.zipIdx_cons];rfl
def Fm(l:Γ Int):bF 0 (l.map PyData.int)=(List.range l.length).map λk=>.tuple [nD k,.int (l.getD k 0)]:=by
 rw[enum_zip];apply jI
 ·simp
 ·intro i h1 h2;have:i < l.length:=by simpa using h2
  simp[this]
def Of(G T:Γ Pl)(W:Γ Wy)(c:Γ Int):(lh G T W c).length=W.length:=oF _ _ _ _ _
def T9:aj->Δ Out:=(j5 (fB (f2 Ga (ab 5) (f2 ay (ab 2) (ab 4)))) (aQ (aK (aa (ab 4) (aa (ab 5) ag)))) iJ)
def lV(h:Wd G T W)(ho:c.length=W.length):iG [az G T W,af c]=some (Cy (ur G T W c)):=by
 have hw:W.length<=16:=h.wl;have t2:Dl.aF 2 [0,1] (ah 3 bB (aa (ab 0) (aa (fC (.int 0)) (aa (ab 1) ag)))) [.val (az G T W),.val (af c),.Wh,.Wh,.Wh,.Wh]=some (.nx [.val (az G T W),.val (af c),.val (af (cF false G T W c)),.Wh,.Wh,.Wh]) :=
  cm (call_of (fF h ho false) rfl rfl) rfl rfl rfl
 have t3:Dl.aF 3 [0,2] (ah 3 bB (aa (ab 0) (aa (fC (.int 1)) (aa (ab 2) ag)))) [.val (az G T W),.val (af c),.val (af (cF false G T W c)),.Wh,.Wh,.Wh]=some (.nx [.val (az G T W),.val (af c),.val (af (cF false G T W c)),.val (af (lh G T W c)),.Wh,.Wh]) :=
  cm (call_of (fF h (oF _ _ _ _ _) true) rfl rfl) rfl rfl rfl
 have hl:=gp (tgt:=gy 4 5) (gb:=T9) (R:=λρ=>∃x y,ρ=[.val (az G T W),.val (af c),.val (af (cF false G T W c)),.val (af (lh G T W c)),x,y]) (λk=>.tuple [nD k,.int ((lh G T W c).getD k 0)]) (qR G T W c) (λk=>.tuple [nD k,.int ((lh G T W c).getD k 0)])
  (l:=List.range W.length) (ρ:=[.val (az G T W),.val (af c),.val (af (cF false G T W c)),.val (af (lh G T W c)),.Wh,.Wh])
  (λρ k hk z=>by
   let⟨x,y,XU⟩:=z;subst XU;have WY:k < (cF false G T W c).length:=by rw[oF];exact List.mem_range.mp hk
   have hc:(fB (f2 Ga (ab 5) (f2 ay (ab 2) (ab 4)))) (aP [.val (az G T W),.val (af c),.val (af (cF false G T W c)),.val (af (lh G T W c)),.val (nD k),.val (.int ((lh G T W c).getD k 0))])=some (qR G T W c k):=by
    dsimp! [kg WY,n9,qR]
   refine⟨[.val (az G T W),.val (af c),.val (af (cF false G T W c)),.val (af (lh G T W c)),.val (nD k),.val (.int ((lh G T W c).getD k 0))],rfl,λhq=>?_,λhq=>?_⟩
   ·rw[hq] at hc;unfold T9;rw[fU hc];exact aO (UD rfl rfl)
   ·rw[hq] at hc;unfold T9;rw[dX hc];exact⟨_,rfl,_,_,rfl⟩) ⟨_,_,rfl⟩
 have hi:(bq (aa (ab 3) ag)) (bg [.val (az G T W),.val (af c),.val (af (cF false G T W c)),.val (af (lh G T W c)),.Wh,.Wh])=some ((List.range W.length).map λk=>.tuple [nD k,.int ((lh G T W c).getD k 0)]):=by
  have:=Fm (lh G T W c);rw[Of] at this;rw[<- this];rfl
 sleep 50;show oW [.val (az G T W),.val (af c),.Wh,.Wh,.Wh,.Wh]=_;unfold oW;rw[ai t2,ai t3];unfold ur;cases hq:(List.range W.length).find? (qR G T W c) with
 | some k =>
  exact jn (cP (hl.1 k hq) hi rfl)
 | none =>
  let⟨ρ',e,x,y,rfl⟩:=hl.2 hq;exact (ai (cP e hi rfl)).trans (aO rfl)
def cg(l:Γ Int)(k:Nat)(v:Int)(i:Nat):(l.set k v).getD i 0=if k=i/\i < l.length then v else l.getD i 0:=by
 simp?[zG,xJ];by_cases h:k=i
 ·subst h;by_cases h2:k < l.length
  ·simp[h2]
  ·simp[h2]
 ·simp[h]
def As{a b:Γ Int}{i:Nat}(ha:i < a.length)(hb:i < b.length):(List.zipWith (·+·) a b).getD i 0=a.getD i 0+b.getD i 0:=by
 rw[zG,zG,zG,List.getElem?_zipWith,zK ha,zK hb];rfl
def Off(off:Γ Int):Prop:=∀i,0<=off.getD i 0
def TB(W:Γ Wy):Prop:=∀i,0<=(aC W i).2.2
def Wd.lim{G T:Γ Pl}{W:Γ Wy}(h:Wd G T W):TB W:=λi=>by
 by_cases hi:i < W.length
 ·have:=h.wr (aC W i) (by rw[<- ig hi];exact qB hi);lia
 ·simp?[aC,zG];rw[jM (by lia)];simp
def Wd.amt{G T:Γ Pl}{W:Γ Wy}(h:Wd G T W)(b:θ)(i:Nat):0<=(bT b G T i).1:=by
 unfold bT;rw[zG];cases e:(aX b G T)[i]? with
 | none=>simp
 | some p =>
  have hm:=qC e;cases b
  ·exact (h.ga p hm).1
  ·exact (h.ta p hm).1
def QH{W:Γ Wy}{off:Γ Int}(ho:Off off)(hl:TB W){amt:Int}(ha:0<=amt)(is:Γ Nat)(i:Nat):0<=(uc W off amt is).getD i 0/\(uc W off amt is).getD i 0<=off.getD i 0:=by
 have:=mf (l:=is) (f:=m5 W off) (s:=(amt,List.replicate W.length 0)) (λs=>0<=s.1/\∀i,0<=s.2.getD i 0/\s.2.getD i 0<=off.getD i 0) (λs k _ z=>by
  let⟨h1,h2⟩:=z;have ok:=ho k;have lk:=hl k;have v0:0<=cV W off s.1 k:=by unfold cV;lia
  have v1:cV W off s.1 k<=off.getD k 0:=by unfold cV;lia
  have v2:cV W off s.1 k<=s.1:=by unfold cV;lia
  refine⟨by simp?[m5];lia,λi=>?_⟩;simp?[m5,cg];split
  ·rename_i z;rw[<- z.1];exact⟨v0,v1⟩
  ·exact h2 i) ⟨ha,λi=>by
   have:=ho i;have z:(List.replicate W.length (0:Int)).getD i 0=0:=by
    simp?[zG,yY];split<;>rfl
   simp?[z];lia⟩
 exact this.2 i
def Ea{W:Γ Wy}{off:Γ Int}{amt:Int}{is:Γ Nat}{i:Nat}(hi:i∉is):(uc W off amt is).getD i 0=0:=by
 refine mf (l:=is) (f:=m5 W off) (s:=(amt,List.replicate W.length 0)) (λs=>s.2.getD i 0=0) (λs k hk h=>?_) ?_
 ·simp?[m5,cg];have hki:¬ (k=i/\i < s.2.length):=λz=>hi (z.1 ▸ hk);rw[yO hki,h]
 ·simp?[zG,yY];split<;>rfl
def wy{G T:Γ Pl}{W:Γ Wy}(h:Wd G T W){off:Γ Int}(ho:Off off)(b:θ):∀ (n:Nat),n<=(aX b G T).length ->
  ((List.range n).foldl (Aw b G T W off) (List.replicate W.length 0)).length=W.length/\∀i,i < W.length->(0<=((List.range n).foldl (Aw b G T W off) (List.replicate W.length 0)).getD i 0/\((List.range n).foldl (Aw b G T W off) (List.replicate W.length 0)).getD i 0<=off.getD i 0)/\((n:Nat)<=ba b (aC W i)->((List.range n).foldl (Aw b G T W off) (List.replicate W.length 0)).getD i 0=0)
 | 0,_=>by
  refine⟨by simp,λi hi=>?_⟩;have:=ho i;have z:((List.range 0).foldl (Aw b G T W off) (List.replicate W.length 0)).getD i 0=0:=by simp[zG,hi]
  rw[z];exact⟨by lia,λ_=>rfl⟩
 | n+1,hn=>by
  let⟨h1,h2⟩:=wy h ho b n (by lia);rw[vR,vB,yJ,List.foldl_nil];generalize (List.range n).foldl (Aw b G T W off) (List.replicate W.length 0)=s at h1 h2;refine⟨qo h1,λi hi=>?_⟩;let⟨h3,h4⟩:=h2 i hi;have e:=i4 (b:=b) (G:=G) (T:=T) (i:=n) (by lia);have hc:=QH ho h.lim (h.amt b n) (fE b W n (bT b G T n).2) i;have hz:(Aw b G T W off s n).getD i 0=s.getD i 0+(uc W off (bT b G T n).1 (fE b W n (bT b G T n).2)).getD i 0:=As (by lia) (by rw[yo];exact hi);rw[hz];by_cases he:ba b (aC W i)=n
  ·rw[h4 (by lia)];exact⟨by lia,λz=>by lia⟩
  ·have hni:i∉fE b W n (bT b G T n).2:=λz=>he (cG.mp ((fj h e).mem_iff.mp z)).2;rw[Ea hni];exact⟨by lia,λz=>by rw[h4 (by lia)];rfl⟩
def tL{l:Γ Int}{i:Nat}(h:l.length<=i):l.getD i 0=0:=by simp[zG,h]
def i8{G T:Γ Pl}{W:Γ Wy}(h:Wd G T W){off:Γ Int}(ho:Off off)(b:θ):Off (cF b G T W off):=λi=>by
 by_cases hi:i < W.length
 ·exact ((wy h ho b _ (yN _)).2 i hi).1.1
 ·rw[tL (by rw[oF];lia)];exact qA 0
def Bw{G T:Γ Pl}{W:Γ Wy}(h:Wd G T W){off:Γ Int}(ho:Off off)(b:θ){i:Nat}(hi:i < W.length):(cF b G T W off).getD i 0<=off.getD i 0 :=
 ((wy h ho b _ (yN _)).2 i hi).1.2
def CU{G T:Γ Pl}{W:Γ Wy}(h:Wd G T W){c:Γ Int}(ho:Off c){p:Nat×Int}(e:ur G T W c=some p):p.1 < W.length/\0<=p.2/\p.2 < c.getD p.1 0:=by
 unfold ur at e;let⟨k,hk,rfl⟩:=Dl.ae e;have hm:=jY hk;have hq:=vT hk;have hi:=List.mem_range.mp hm;rw[qR,zJ] at hq;have a:=Bw h ho false hi;have b:=i8 h (i8 h ho false) true k;exact⟨hi,b,by simp only;lia⟩
def XI(c:Γ Int):Nat:=(c.map Int.toNat).sum
def DP:∀ {c:Γ Int}{k:Nat}{v:Int},0<=v->v < c.getD k 0->XI (c.set k v) < XI c
 | [],k,v,h0,h1=>by simp at h1;lia
 | x::c,0,v,h0,h1=>by
  simp at h1;simp?[XI,yW,zI,kE];lia
 | x::c,k+1,v,h0,h1=>by
  have:=DP (c:=c) (k:=k) h0 (by simpa using h1);simp?[XI,yX,zI,kE] at this ⊢;lia
def CQ:∀ {W:Γ Wy},(∀w∈W,w.2.2<=9)->XI (dS W)<=9 * W.length
 | [],_=>by simp[XI,dS]
 | w::W,h=>by
  have:=CQ (W:=W) λx hx=>h x (zC _ hx);have:=h w zE;simp?[XI,dS,zI,kE,zL] at *;lia
def MH{G T:Γ Pl}{W:Γ Wy}(h:Wd G T W):Off (dS W):=λi=>by
 have:=h.lim i;by_cases hi:i < W.length
 ·simpa [dS,aC,zG,hi] using this
 ·rw[tL (by rw[ox];lia)];exact qA 0
def Dk{c:Γ Int}(h:Off c){k:Nat}{v:Int}(hv:0<=v):Off (c.set k v):=λi=>by
 rw[cg];split
 ·exact hv
 ·exact h i
def sF(a:Γ Int):SeqAt.shaped (af a)=true :=
 (iW.tup (b:=a.length) (k:=0) (by simp) λx hx=>by let⟨i,_,rfl⟩:=List.mem_map.mp hx;exact gW _).shaped (by decide)
def og(a b:Γ Int):PyData.eqv (af a) (af b)=decide (a=b):=by
 rw[af,af,PyData.eqv,tV]
def cJ(h:f ρ=some (.bool b)):fB f ρ=some b:=by
 simp?[fB,h,zA,gB]
def gS(h:t ρ=some b):cR t ρ=some (!b):=by
 simp?[cR,h,zB]
def Hl(a b:Γ Int):dZ (af a) (af b)=some (.bool (!decide (a=b))):=by
 simp?[dZ,Oe,sF,jP,xI,og,zB]
def Jp(a b:Γ Int):bC (af a) (af b)=some (.bool (decide (a=b))):=by
 simp?[bC,LJ,sF,jP,xI,og,zB]
def gf(a:Γ Int):dZ (af a) (af a)=some (.bool false):=by rw[Hl];simp
def MB(x:Δ (Nat×Int)):nc (Cy x) .none=some (.bool x.isSome):=by cases x<;>rfl
def aZ(hA:f (aP ρ)=some d)(hF:f (bg ρ)=some d)(hh:hand fz 0 ρ=ρ):Dl.aF i fz f ρ=some (.nx (ρ.set i (.val d))):=by
 cases hs:Dl.lj d with
 | true=>exact cN hA hs
 | false=>exact jh hh hA hF hs (.inr rfl)
def Pa(hA:f (aP ρ)=some d)(hF:f (bg ρ)=some d)(hh:hand fz 0 ρ=ρ)(ho:ρ[i]?=some (.own ds))(hl:ds.length < 4000):i6 i fz f ρ=some (.nx (ρ.set i (.own (ds++[d])))):=by
 have hz:ds.length < sizeLine:=zP hl (by decide);have hi:k8 fz f ρ=some (d,ρ):=by
  unfold k8;rw[hA,zA,hh,hF];cases Dl.lj d<;>rfl
 simp?[i6,hi,zA,oA,ho,hz,xI,zB]
def ik(h:Wd G T W):eN [az G T W]=some .none:=by
 have hw:dw [az G T W]=some (.bool true):=by rw[BS h.fit (by decide),h.wok]
 have hc:zq3 (aP [.val (az G T W)])=some false:=gS (cJ (call_of hw rfl rfl));have:eL [.val (az G T W)]=some (.nx [.val (az G T W)]):=by
  unfold eL;rw[dX hc]
 show (eL [.val (az G T W)]).map _=_;rw[this];rfl
def uf(h1:a<=i)(h2:i<=b):iu [.int i,.int a,.int b]=some .none:=by
 have hw:bM [.int i,.int a,.int b]=some (.bool true):=by rw[gH rfl];simp[whole,h1,h2]
 have hc:zq7 (aP [.val (.int i),.val (.int a),.val (.int b)])=some false:=gS (cJ (call_of hw rfl rfl));have:eK [.val (.int i),.val (.int a),.val (.int b)]=some (.nx [.val (.int i),.val (.int a),.val (.int b)]):=by
  unfold eK;rw[dX hc]
 show (eK [.val (.int i),.val (.int a),.val (.int b)]).map _=_;rw[this];rfl
def sd(h1:0<=i)(h2:i<=n - 1):gx [.int i,.int n]=some .none:=by
 have:dY [.val (.int i),.val (.int n)]=some (.nx [.val (.int i),.val (.int n)]):=by
  unfold dY;exact gF (call_of (uf h1 h2) (cons_of rfl (cons_of rfl (cons_of (aB (sub_int n 1) rfl rfl) rfl))) rfl)
 show (dY [.val (.int i),.val (.int n)]).map _=_;rw[this];rfl
abbrev Sp:=Γ (Nat×Int)×Γ Int
def Qf(G T:Γ Pl)(W:Γ Wy)(s:Sp):θ:=(ur G T W s.2).isSome
def spS(G T:Γ Pl)(W:Γ Wy)(s:Sp):Sp:=match ur G T W s.2 with|some p=>(s.1++[p],s.2.set p.1 p.2)|none=>s
def low(c:Γ Int)(p:Nat×Int):Γ Int:=c.set p.1 p.2
structure DQ(W:List Wy)(s:Sp):Prop where
 len:s.2.length=W.length
 off:Off s.2
 eq:s.2=s.1.foldl low (dS W)
 bd:s.1.length+XI s.2<=XI (dS W)
 mem:∀p∈s.1,p.1 < W.length
def DQ.start(h:Wd G T W):DQ W ([],dS W):=⟨ox W,MH h,rfl,by simp,λp hp=>by cases hp⟩
def y0(e:ur G T W s.2=some p):spS G T W s=(s.1++[p],s.2.set p.1 p.2):=by
 unfold spS;rw[e]
def DQ.step(h:Wd G T W)(i:DQ W s)(e:ur G T W s.2=some p):DQ W (spS G T W s)/\XI (spS G T W s).2 < XI s.2:=by
 let⟨h1,h2,h3⟩:=CU h i.off e;have hm:=DP h2 h3;rw[y0 e];refine⟨⟨by simp[i.len],Dk i.off h2,?_,?_,λq hq=>?_⟩,hm⟩
 ·rw[vB,<- i.eq];rfl
 ·have:=i.bd;simp?[zN,xD];lia
 ·rcases List.mem_append.mp hq with z|z
  ·exact i.mem q z
  ·rw[yK] at z;rw[z];exact h1
def Wd.XI(h:Wd G T W):XI (dS W)<=144:=by
 have:=CQ (W:=W) λw hw=>(h.wr w hw).2.2.2;have:=h.wl;lia
def ub(r:Γ (Nat×Int)):Γ D:=(r.map λp=>[((p.1:Nat):Int),p.2]).map af
def L9(r:Γ (Nat×Int))(p:Nat×Int):ub (r++[p])=ub r++[Cy (some p)]:=by simp[ub];rfl
def LW(r:Γ (Nat×Int)):(ub r).length=r.length:=by simp[ub]
def fin(G T:Γ Pl)(W:Γ Wy):Sp:=lp (Qf G T W) (spS G T W) Rf.turns ([],dS W)
def Uc:aj->Δ Out:=(ax (i6 1 [3] (ab 3)) (ax (Dl.aF 2 [2,3] (ah 3 eI (aa (ab 2) (aa (f2 ay (ab 3) (fC (.int 0))) (aa (f2 ay (ab 3) (fC (.int 1))) ag))))) (Dl.aF 3 [0,2] (ah 2 iG (aa (ab 0) (aa (ab 2) ag))))))
def ND(G T:Γ Pl)(W:Γ Wy)(s:Sp):aj:=[.val (az G T W),.own (ub s.1),.val (af s.2),.val (Cy (ur G T W s.2))]
def Lq(h:Wd G T W)(i:DQ W s)(e:ur G T W s.2=some p):Uc (ND G T W s)=some (.nx (ND G T W (spS G T W s))):=by
 let⟨h1,h2,h3⟩:=CU h i.off e;let⟨i2,hm⟩:=i.step h e;have hb:=h.XI;have hbd:=i.bd;have hw:=h.wl;have t1:i6 1 [3] (ab 3) (ND G T W s)=some (.nx [.val (az G T W),.own (ub s.1++[Cy (some p)]),.val (af s.2),.val (Cy (some p))]):=by
  unfold ND;rw[e];exact Pa rfl rfl rfl rfl (by rw[LW];lia)
 have ac5:∀ρ:Dl.Env,ab 2 ρ=some (af s.2)->ab 3 ρ=some (Cy (some p))->(ah 3 eI (aa (ab 2) (aa (f2 ay (ab 3) (fC (.int 0))) (aa (f2 ay (ab 3) (fC (.int 1))) ag)))) ρ=some (af (s.2.set p.1 p.2)):=λρ a b =>
  call_of (uI (c:=s.2) (i:=p.1) (v:=p.2) (by rw[i.len];exact h1) (by rw[i.len];lia)) (cons_of a (cons_of (aB (Ve _ _) b rfl) (cons_of (aB (T8 _ _ _) b rfl) rfl))) rfl
 have t2:Dl.aF 2 [2,3] (ah 3 eI (aa (ab 2) (aa (f2 ay (ab 3) (fC (.int 0))) (aa (f2 ay (ab 3) (fC (.int 1))) ag)))) [.val (az G T W),.own (ub s.1++[Cy (some p)]),.val (af s.2),.val (Cy (some p))]=some (.nx [.val (az G T W),.own (ub s.1++[Cy (some p)]),.val (af (s.2.set p.1 p.2)),.val (Cy (some p))]) :=
  aZ (ac5 _ rfl rfl) (ac5 _ rfl rfl) rfl
 have hl2:(s.2.set p.1 p.2).length=W.length:=by rw[yC,i.len]
 have t3:Dl.aF 3 [0,2] (ah 2 iG (aa (ab 0) (aa (ab 2) ag))) [.val (az G T W),.own (ub s.1++[Cy (some p)]),.val (af (s.2.set p.1 p.2)),.val (Cy (some p))]=some (.nx [.val (az G T W),.own (ub s.1++[Cy (some p)]),.val (af (s.2.set p.1 p.2)),.val (Cy (ur G T W (s.2.set p.1 p.2)))]) :=
  aZ (call_of (lV h hl2) rfl rfl) (call_of (lV h hl2) rfl rfl) rfl
 unfold Uc;rw[ai t1,ai t2,t3,y0 e];unfold ND;rw[L9]
def tN(h:Qf G T W s=true):∃p,ur G T W s.2=some p:=Option.isSome_iff_exists.mp h
def K1(h:Wd G T W):wu [az G T W]=some (.list (ub (fin G T W).1))/\DQ W (fin G T W):=by
 have hb:=h.XI;have t1:aS 1 [] zq9 [.val (az G T W),.Wh,.Wh,.Wh]=some (.nx [.val (az G T W),.own [],.Wh,.Wh]):=l4 (f:=iN ag) (ds:=[]) (show small []=some [] from bo (by simp)) rfl;have t2:Dl.aF 2 [0] ZZ [.val (az G T W),.own [],.Wh,.Wh]=some (.nx [.val (az G T W),.own [],.val (af (dS W)),.Wh]) :=
  aZ (call_of (nA h) rfl rfl) (call_of (nA h) rfl rfl) rfl
 have t3:Dl.aF 3 [0,2] acA [.val (az G T W),.own [],.val (af (dS W)),.Wh]=some (.nx (ND G T W ([],dS W))) :=
  aZ (call_of (lV h (ox W)) rfl rfl) (call_of (lV h (ox W)) rfl rfl) rfl
 let⟨ρ',ew,⟨rfl,iv⟩,_⟩:=Ae (t:=acC) (gb:=Uc) (R:=λs ρ=>ρ=ND G T W s/\DQ W s) (Qf G T W) (spS G T W) (λs=>XI s.2)
  (λs ρ z=>by
   let⟨XU,i⟩:=z;subst XU;exact cJ (aB (MB _) rfl rfl))
  (λs ρ z hc=>by
   let⟨XU,i⟩:=z
   subst XU;let⟨p,e⟩:=tN hc;exact⟨_,Lq h i e,⟨rfl,(i.step h e).1⟩,(i.step h e).2⟩)
  Rf.turns ([],dS W) (ND G T W ([],dS W)) (jA hb (by decide)) ⟨rfl,DQ.start h⟩
 refine⟨?_,iv⟩;sleep 50;show yf [.val (az G T W),.Wh,.Wh,.Wh]=_;unfold yf;rw[ai t1,ai t2,ai t3];refine (ai ew).trans ?_;exact aO rfl
def LX(c:Γ Int)(p:Nat×Int):(low c p).length=c.length:=by simp[low]
def He(h:Wd G T W)(hr:∀p∈r,p.1 < W.length):rC [az G T W,.list (ub r)]=some (af (r.foldl low (dS W))):=by
 have hw:=h.wl;have t2:Dl.aF 2 [0] ZZ [.val (az G T W),.val (.list (ub r)),.Wh,.Wh,.Wh]=some (.nx [.val (az G T W),.val (.list (ub r)),.val (af (dS W)),.Wh,.Wh]) :=
  aZ (call_of (nA h) rfl rfl) (call_of (nA h) rfl rfl) rfl
 let⟨ρ',e3,Xr,x,y,rfl⟩:=nH (tgt:=gy 3 4) (gb:=Dl.aF 2 [2,3,4] aa7) (R:=λ(c:Γ Int) ρ=>c.length=W.length/\∃x y,ρ=[.val (az G T W),.val (.list (ub r)),.val (af c),x,y]) (λp:Nat×Int=>af [((p.1:Nat):Int),p.2]) low
  (l:=r) (s:=dS W) (ρ:=[.val (az G T W),.val (.list (ub r)),.val (af (dS W)),.Wh,.Wh])
  (λc ρ p hp z=>by
   let⟨hc,x,y,XU⟩:=z;subst XU;have el:=uI (c:=c) (i:=p.1) (v:=p.2) (by rw[hc];exact hr p hp) (by lia);have t:Dl.aF 2 [2,3,4] aa7 [.val (az G T W),.val (.list (ub r)),.val (af c),.val (nD p.1),.val (.int p.2)]=some (.nx [.val (az G T W),.val (.list (ub r)),.val (af (low c p)),.val (nD p.1),.val (.int p.2)]) :=
    aZ (call_of el rfl rfl) (call_of el rfl rfl) rfl
   exact⟨_,_,rfl,t,by rw[LX,hc],_,_,rfl⟩) ⟨ox W,_,_,rfl⟩
 sleep 50;show tw [.val (az G T W),.val (.list (ub r)),.Wh,.Wh,.Wh]=_;unfold tw;rw[ai t2];refine (ai (cP e3 ?_ rfl)).trans (aO rfl);show some (ub r)=_;rw[ub,zM];rfl
def ue(h:Wd G T W):dh [az G T W]=some (af (cF false G T W (fin G T W).2)):=by
 let⟨e1,i⟩:=K1 h;have e2:=He h i.mem;rw[<- i.eq] at e2;sleep 50;show hV [.val (az G T W)]=_;unfold hV;refine (ai (gF (call_of (ik h) rfl rfl))).trans ?_;exact aO (call_of (fF h i.len false) (cons_of rfl (cons_of rfl (cons_of (call_of e2 (cons_of rfl (cons_of (call_of e1 rfl rfl) rfl)) rfl) rfl))) rfl)
def AF(w:Wy):Wy:=(w.2.1,w.1,w.2.2)
structure Ord(W:List Wy)(π:List Nat):Prop where
 perm:π.Perm (List.range W.length)
 up:π.Pairwise λi j=>(aC W i).2.1 < (aC W j).2.1\/((aC W i).2.1=(aC W j).2.1/\(aC W i).1 < (aC W j).1)
def gL(W:Γ Wy)(π:Γ Nat):Γ Wy:=π.map λi=>AF (aC W i)
def Bi(P:Γ Int)(π:Γ Nat):Γ Int:=π.map λi=>P.getD i 0
def Ord.len(o:Ord W π):π.length=W.length:=by rw[o.perm.length_eq,zR]
def Ord.lt(o:Ord W π)(hk:k < W.length):π.getD k 0 < W.length:=by
 have h:k < π.length:=by rw[o.len];exact hk
 have:=o.perm.mem_iff.mp (qB h);rw[zG,zK h];sleep 14
def eQ(o:Ord W π):(gL W π).length=W.length:=by simp[gL,o.len]
def Mx(o:Ord W π):(Bi P π).length=W.length:=by simp[Bi,o.len]
def ie(o:Ord W π)(hk:k < W.length):aC (gL W π) k=AF (aC W (π.getD k 0)):=by
 have h:k < π.length:=by rw[o.len];exact hk
 simp[aC,gL,h,zG]
def yy(o:Ord W π)(hk:k < W.length):(Bi P π).getD k 0=P.getD (π.getD k 0) 0:=by
 have h:k < π.length:=by rw[o.len];exact hk
 simp[Bi,h,zG]
def ym(b:θ)(w:Wy):ba (!b) (AF w)=ba b w:=by cases b<;>rfl
def xa(b:θ)(w:Wy):bZ (!b) (AF w)=bZ b w:=by cases b<;>rfl
def Ord.ris(o:Ord W π):wg (gL W π):=by
 unfold wg gL;rw[jF];exact o.up
def NU(h:wg W)(hi:i < W.length)(hj:j < W.length)(e:(aC W i).1 < (aC W j).1\/((aC W i).1=(aC W j).1/\(aC W i).2.1 < (aC W j).2.1)):i < j:=by
 rcases Nat.lt_or_ge i j with q|q
 ·exact q
 ·exfalso;rcases Nat.eq_or_lt_of_le q with q|q
  ·subst q;lia
  ·have:=List.pairwise_iff_getElem.mp h j i hj hi q;rw[ig hi,ig hj] at this;lia
def Ca(p:l.Perm (List.range n))(h:l.Pairwise (· < ·)):l=List.range n:=by
 refine il (λi=>((i:Nat):Int)) p (h.imp λ{a b} q=>by lia) (List.pairwise_lt_range.imp λ{a b} q=>by lia)
def map_getD(l:Γ Nat):(List.range l.length).map (λk=>l.getD k 0)=l:=by
 apply jI
 ·simp
 ·intro i h1 h2;simp[h2]
def Ord.back(h:wg W)(o:Ord W π)(o':Ord (gL W π) π'):π'.map (λk=>π.getD k 0)=List.range W.length:=by
 sleep 29;refine Ca ?_ ?_
 ·have:=(o'.perm.map λk=>π.getD k 0)
  rw[hl,<- o.len,map_getD] at this;exact this.trans o.perm
 ·rw[jF];refine o'.up.imp_of_mem λ{i j} hi hj q=>?_;have Xc:i < W.length:=by have:=o'.perm.mem_iff.mp hi;rw[hl] at this;sleep 14
  have Yh:j < W.length:=by have:=o'.perm.mem_iff.mp hj;rw[hl] at this;sleep 14
  rw[ie o Xc,ie o Yh] at q;exact NU h (o.lt Xc) (o.lt Yh) q
def Ef(h:wg W)(o:Ord W π)(o':Ord (gL W π) π'):gL (gL W π) π'=W:=by
 sleep 29;have e:gL (gL W π) π'=(π'.map λk=>π.getD k 0).map λi=>aC W i:=by
  unfold gL;rw[zM];refine yI λk hk=>?_;have WY:k < W.length:=by have:=o'.perm.mem_iff.mp hk;rw[hl] at this;sleep 14
  have:=ie o WY;unfold gL at this;rw[this];rfl
 rw[e,o.back h o'];have:=map_range (0,0,0) (λw:Wy=>w) W;simpa [aC] using this
def Ie(o:Ord W π)(b:θ)(p:Int):((own (!b) (gL W π) p).map λk=>π.getD k 0).Perm (own b W p):=by
 sleep 29;have e:((own (!b) (gL W π) p).map λk=>π.getD k 0)=π.filter λi=>decide (ba b (aC W i)=p):=by
  conv=>rhs;rw[<- map_getD π,kH,o.len]
  unfold own;rw[hl]
  congr 1
  refine List.filter_congr λk hk=>?_;have WY:k < W.length:=by simpa using hk
  rw[ie o WY,ym];rfl
 rw[e];exact o.perm.filter _
def IW(o:Ord W π)(b:θ)(p:Int):(Q8 (!b) (gL W π) p).Perm (Q8 b W p):=by
 sleep 29;rw[<- lX,<- lX];have:=(Ie o b p).map λi=>bZ b (aC W i);rw[zM] at this;refine List.Perm.trans (List.Perm.of_eq ?_) this;refine yI λk hk=>?_;have WY:k < W.length:=by have:=(cG.mp hk).1;rwa [hl] at this
 show bZ (!b) (aC (gL W π) k)=bZ b (aC W (π.getD k 0));rw[ie o WY,xa]
def Ord.wd(h:Wd G T W)(o:Ord W π):Wd T G (gL W π) where
 g1:=h.t1
 g4:=h.t4
 t1:=h.g1
 t4:=h.g4
 ga:=h.ta
 ta:=h.ga
 gl:=λi p e=>(h.tl i p e).trans (IW o true i).symm
 tl:=λi p e=>(h.gl i p e).trans (IW o false i).symm
 wr:=λw hw=>by
  let⟨i,hi,rfl⟩:=List.mem_map.mp hw;have Xc:i < W.length:=by have:=o.perm.mem_iff.mp hi;sleep 14
  have:=h.wr (aC W i) (by rw[<- ig Xc];exact qB _);exact⟨this.2.1,this.1,this.2.2⟩
 wp:=o.ris
 wl:=by rw[eQ o];exact h.wl
def za(b:θ)(G T:Γ Pl):aX (!b) T G=aX b G T:=by cases b<;>rfl
def Js(b:θ)(G T:Γ Pl)(i:Nat):bT (!b) T G i=bT b G T i:=by unfold bT;rw[za]
def i3(b:θ)(W:Γ Wy)(P:Γ Int)(p:Int):Int:=((own b W p).map λi=>P.getD i 0).sum
def AS{l m:Γ Int}(p:l.Perm m):l.sum=m.sum:=by
 induction p with
 | nil=>rfl
 | cons x _ ih=>simp[ih]
 | swap x y l=>simp?[kE];lia
 | trans _ _ h1 h2=>exact h1.trans h2
def IF(o:Ord W π)(b:θ)(p:Int):i3 (!b) (gL W π) (Bi P π) p=i3 b W P p:=by
 sleep 29;have:=AS ((Ie o b p).map λi=>P.getD i 0);unfold i3;rw[<- this,zM]
 congr 1
 refine yI λk hk=>?_;have WY:k < W.length:=by have:=(cG.mp hk).1;rwa [hl] at this
 exact yy o WY
def P8(h:Wd G T W)(o:Ord W π){b:θ}{i:Nat}{p:Pl}(e:(aX b G T)[i]?=some p){x:Int}(hx:x∈p.2):qa (!b) (gL W π) i x < W.length/\π.getD (qa (!b) (gL W π) i x) 0=qa b W i x:=by
 have e':(aX (!b) T G)[i]?=some p:=by rw[za];exact e
 let⟨h1,h2,h3⟩:=nE (o.wd h) e' hx;let⟨g1,g2,g3⟩:=nE h e hx;rw[eQ o] at h1;rw[ie o h1,ym] at h2;rw[ie o h1,xa] at h3;exact⟨h1,tQ h.wp (o.lt h1) g1 (by rw[h2,g2]) (by rw[h3,g3])⟩
def uA(L:Γ Int)(x:Int):Nat:=L.findIdx λo=>decide (o=x)
def tm(b:θ)(G T:Γ Pl)(W:Γ Wy)(P:Γ Int)(k:Nat):θ :=
 decide (i3 b W P (ba b (aC W k)) < (bT b G T (ba b (aC W k)).toNat).1) ||
 ((bT b G T (ba b (aC W k)).toNat).2.drop (uA (bT b G T (ba b (aC W k)).toNat).2 (bZ b (aC W k))+1)).any λo=>decide (0 < P.getD (qa b W (ba b (aC W k)) o) 0)
def fg(G T:Γ Pl)(W:Γ Wy)(P:Γ Int)(k:Nat):Nat :=
 if P.getD k 0=(aC W k).2.2 then 0 else if tm false G T W P k=false then 1 else if tm true G T W P k=false then 2 else 3
def iC(G T:Γ Pl)(W:Γ Wy)(P:Γ Int):Γ Nat:=(List.range W.length).filter λk=>decide (fg G T W P k=3)
def Wd.WG(h:Wd G T W)(b:θ)(hk:k < W.length):0<=ba b (aC W k)/\(ba b (aC W k)).toNat < (aX b G T).length/\((ba b (aC W k)).toNat:Int)=ba b (aC W k):=by
 have:=h.wr (aC W k) (by rw[<- ig hk];exact qB _);cases b
 ·simp?[ba,aX,yP,qQ];lia
 ·simp?[ba,aX,xI];lia
def uW:∀ {l:Γ α},(∀x∈l,p x=q x)->l.any p=l.any q
 | [],_=>rfl
 | a::l,h=>by rw[vE,vE,h a zE,uW λx hx=>h x (zC _ hx)]
def Ji(h:Wd G T W)(o:Ord W π)(b:θ)(hk:k < W.length):tm (!b) T G (gL W π) (Bi P π) k=tm b G T W P (π.getD k 0):=by
 let⟨h1,h2,h3⟩:=h.WG b (o.lt hk);unfold tm;rw[ie o hk,ym,xa,Js,IF o]
 congr 1
 rw[<- h3];simp?[yG];refine uW λx hx=>?_;let⟨e1,e2⟩:=P8 h o (i4 h2) (List.mem_of_mem_drop hx);rw[yy o e1,e2]
def N7(h:Wd G T W)(o:Ord W π)(hk:k < W.length):(fg T G (gL W π) (Bi P π) k=3)↔(fg G T W P (π.getD k 0)=3):=by
 have e1:=Ji (P:=P) h o false hk;have e2:=Ji (P:=P) h o true hk;simp?[Bool.not_false,xZ] at e1 e2;unfold fg;rw[yy o hk,ie o hk,e1,e2];have:(AF (aC W (π.getD k 0))).2.2=(aC W (π.getD k 0)).2.2:=rfl;rw[this];cases tm false G T W P (π.getD k 0)<;>cases tm true G T W P (π.getD k 0)<;>simp<;>split<;>simp
def R8(h:Wd G T W)(o:Ord W π):((iC T G (gL W π) (Bi P π)).map λk=>π.getD k 0).Perm (iC G T W P):=by
 sleep 29;have e:((iC T G (gL W π) (Bi P π)).map λk=>π.getD k 0)=π.filter λi=>decide (fg G T W P i=3):=by
  conv=>rhs;rw[<- map_getD π,kH,o.len]
  unfold iC;rw[hl]
  congr 1
  refine List.filter_congr λk hk=>?_;have WY:k < W.length:=by simpa using hk
  exact decide_eq_decide.mpr (N7 h o WY)
 rw[e];exact o.perm.filter _
def O0(h:Wd G T W)(o:Ord W π):(iC T G (gL W π) (Bi P π)=[])↔(iC G T W P=[]):=by
 have:=(R8 (P:=P) h o).length_eq;rw[zD] at this;rw[<- List.length_eq_zero_iff,<- List.length_eq_zero_iff,this]
structure Pn(G T:List Pl)(W:List Wy)(P:List Int):Prop where
 len:P.length=W.length
 bd:∀k,k < W.length->0<=P.getD k 0/\P.getD k 0<=(aC W k).2.2
 am:∀ (b:θ) (i:Nat),i < (aX b G T).length->i3 b W P i<=(bT b G T i).1
def Pn.tu(h:Wd G T W)(o:Ord W π)(p:Pn G T W P):Pn T G (gL W π) (Bi P π) where
 len:=by rw[Mx o,eQ o]
 bd:=λk hk=>by
  rw[eQ o] at hk;rw[yy o hk,ie o hk];exact p.bd _ (o.lt hk)
 am:=λb i hi=>by
  have:=p.am (!b) i (by rw[<- za b T G] at hi;exact hi);rw[<- IF o (!b),<- Js (!b),Bool.not_not] at this;exact this
section
variable {off:Γ Int}
def DH(h:Wd G T W)(b:θ):∀ (n:Nat),n<=(aX b G T).length ->
  ((List.range n).foldl (Aw b G T W off) (List.replicate W.length 0)).length=W.length/\∀k,k < W.length ->
   ((List.range n).foldl (Aw b G T W off) (List.replicate W.length 0)).getD k 0=if ba b (aC W k) < n then (uc W off (bT b G T (ba b (aC W k)).toNat).1 (fE b W (ba b (aC W k)).toNat (bT b G T (ba b (aC W k)).toNat).2)).getD k 0 else 0
 | 0,_=>by
  refine⟨by simp,λk hk=>?_⟩;let⟨h1,_,_⟩:=h.WG b hk;rw[yO (by lia)];simp[zG,hk]
 | n+1,hn=>by
  let⟨h1,h2⟩:=DH h b n (by lia);rw[vR,vB,yJ,List.foldl_nil];generalize (List.range n).foldl (Aw b G T W off) (List.replicate W.length 0)=s at h1 h2;refine⟨qo h1,λk hk=>?_⟩;have hz:(Aw b G T W off s n).getD k 0=s.getD k 0+(uc W off (bT b G T n).1 (fE b W n (bT b G T n).2)).getD k 0:=As (by lia) (by rw[yo];exact hk);rw[hz,h2 k hk];let⟨g1,_,_⟩:=h.WG b hk;have e:=i4 (b:=b) (G:=G) (T:=T) (i:=n) (by lia);by_cases he:ba b (aC W k)=n
  ·have hn':(ba b (aC W k)).toNat=n:=by lia
   rw[yO (by lia),yM (by lia),hn'];lia
  ·have hni:k∉fE b W n (bT b G T n).2:=λz=>he (cG.mp ((fj h e).mem_iff.mp z)).2;rw[Ea hni];by_cases WK:ba b (aC W k) < n
   ·rw[yM WK,yM (by lia)];lia
   ·rw[yO WK,yO (by lia)];rfl
def GP(h:Wd G T W)(b:θ)(hk:k < W.length):(cF b G T W off).getD k 0=(uc W off (bT b G T (ba b (aC W k)).toNat).1 (fE b W (ba b (aC W k)).toNat (bT b G T (ba b (aC W k)).toNat).2)).getD k 0:=by
 have:=(DH (off:=off) h b _ (yN _)).2 k hk;let⟨_,h2,h3⟩:=h.WG b hk;rw[yM (by lia)] at this;exact this
def Dt{amt:Int}:∀ (is:Γ Nat) (s:Int×Γ Int),is.Nodup->(∀i∈is,i < s.2.length/\s.2.getD i 0=0) ->
  ((is.foldl (m5 W off) s).2.length=s.2.length)/\(is.map λi=>(is.foldl (m5 W off) s).2.getD i 0).sum=s.1 - (is.foldl (m5 W off) s).1/\∀j,j∉is->(is.foldl (m5 W off) s).2.getD j 0=s.2.getD j 0
 | [],s,_,_=>⟨rfl,by simp,λ_ _=>rfl⟩
 | i::is,s,hn,hz=>by
  rw[kW] at hn;let⟨hi,h0⟩:=hz i zE;have hs:∀j∈is,j < (m5 W off s i).2.length/\(m5 W off s i).2.getD j 0=0:=λj hj=>by
   let⟨a,b⟩:=hz j (zC _ hj);refine⟨by simpa [m5] using a,?_⟩;simp?[m5,cg];have WN:¬ (i=j/\j < s.2.length):=λz=>hn.1 (z.1 ▸ hj);rw[yO WN,b]
  let⟨r1,r2,r3⟩:=Dt (amt:=amt) is (m5 W off s i) hn.2 hs;rw[yJ];refine⟨by rw[r1];simp[m5],?_,λj hj=>?_⟩
  ·rw[zI,kE,r2,r3 i hn.1];simp?[m5,cg];rw[yM ⟨trivial,hi⟩];lia
  ·rw[r3 j λz=>hj (zC _ z)];simp?[m5,cg];have WN:¬ (i=j/\j < s.2.length):=λz=>hj (z.1 ▸ zE);rw[yO WN]
def AM(ho:Off off)(hl:TB W):∀ (is:Γ Nat) (s:Int×Γ Int),0<=s.1->0<=(is.foldl (m5 W off) s).1
 | [],s,h=>h
 | i::is,s,h=>by
  rw[yJ];refine AM ho hl is _ ?_;simp?[m5,cV];have:=ho i;have:=hl i;lia
def MS(h:Wd G T W)(ho:Off off)(hi:i < (aX b G T).length) :
  ((own b W i).map λk=>(uc W off (bT b G T i).1 (fE b W i (bT b G T i).2)).getD k 0).sum<=(bT b G T i).1:=by
 have e:=i4 hi;have pm:=fj h e;rw[<- AS (pm.map λk=>(uc W off (bT b G T i).1 (fE b W i (bT b G T i).2)).getD k 0)];have hn:(fE b W i (bT b G T i).2).Nodup:=pm.nodup_iff.mpr (List.nodup_range.filter _);let⟨_,r2,_⟩:=Dt (W:=W) (off:=off) (amt:=0) (fE b W i (bT b G T i).2) ((bT b G T i).1,List.replicate W.length 0) hn λk hk=>by
  have WY:=(cG.mp (pm.mem_iff.mp hk)).1;refine⟨by simpa using WY,by simp[zG,WY]⟩
 have:=AM ho h.lim (fE b W i (bT b G T i).2) ((bT b G T i).1,List.replicate W.length 0) (h.amt b i);unfold uc;rw[r2];show (bT b G T i).1 - _<=(bT b G T i).1;lia
def El(h:Wd G T W)(ho:Off off)(hi:i < (aX b G T).length):i3 b W (cF b G T W off) i<=(bT b G T i).1:=by
 refine jU (Int.le_of_eq ?_) (MS h ho hi);unfold i3
 congr 1
 refine yI λk hk=>?_;let⟨WY,he⟩:=cG.mp hk;have:=GP (off:=off) h b WY;rw[he,yG] at this;exact this
def oU(h:∀k,k < W.length->P.getD k 0=Q.getD k 0):i3 b W P p=i3 b W Q p:=by
 unfold i3
 congr 1
 exact yI λk hk=>h k (cG.mp hk).1
def LL(h:Wd G T W)(ho:Off c)(hc:∀k,k < W.length->c.getD k 0<=(aC W k).2.2)(e:ur G T W c=none):Pn G T W (cF false G T W c) where
 len:=oF _ _ _ _ _
 bd:=λk hk=>⟨i8 h ho false k,jU (Bw h ho false hk) (hc k hk)⟩
 am:=λb i hi=>by
  cases b
  ·exact El h ho hi
  ·have hke:∀k,k < W.length->(lh G T W c).getD k 0=(cF false G T W c).getD k 0:=λk hk=>by
    have h1:=Bw h (i8 h ho false) true hk;have h2:qR G T W c k=false:=by
     unfold ur at e;rw[Option.map_eq_none_iff] at e;have:=List.find?_eq_none.mp e k (by simpa using hk);sleep 14
    unfold qR at h2;have h3:=wG h2;unfold lh at h3 ⊢;lia
   rw[<- oU hke];exact El h (i8 h ho false) hi
end
def uj(G T:Γ Pl)(W:Γ Wy)(P:Γ Int):θ :=
 ((List.range G.length).all λi=>decide (i3 false W P i<=(bT false G T i).1))&&((List.range T.length).all λi=>decide (i3 true W P i<=(bT true G T i).1))
def zs(n:Nat):Γ Int:=List.replicate n 0
def m6(d:Nat->Int)(G T:Γ Pl)(W:Γ Wy):Nat->Γ Int
 | 0=>[]
 | k+1=>if uj G T W ((m6 d G T W k++[d k])++zs (W.length - (m6 d G T W k++[d k]).length))=true then m6 d G T W k++[d k] else m6 d G T W k++[0]
section
variable {W:Γ Wy}{G T:Γ Pl}{d:Nat->Int}
def iD:uj G T W P=true↔∀ (b:θ) (i:Nat),i < (aX b G T).length->i3 b W P i<=(bT b G T i).1:=by
 unfold uj;rw[zF,xH,xH];constructor
 ·rintro⟨h1,h2⟩ b i hi;cases b
  ·exact yR (h1 i (by simpa [aX] using hi))
  ·exact yR (h2 i (by simpa [aX] using hi))
 ·intro h;exact⟨λi hi=>yA (h false i (by simpa [aX] using hi)),λi hi=>yA (h true i (by simpa [aX] using hi))⟩
def nz:∀k,(m6 d G T W k).length=k
 | 0=>rfl
 | k+1=>by
  unfold m6;split<;>simp[nz k]
def Ii(h:∀k,P.getD k 0=0):i3 b W P p=0:=by
 unfold i3;have:((own b W p).map λi=>P.getD i 0)=(own b W p).map λ_=>(0:Int):=yI λk _=>h k;rw[this];generalize own b W p=l
 induction l with
 | nil=>rfl
 | cons a l ih=>simp[ih]
def Ng(n k:Nat):(zs n).getD k 0=0:=by
 simp?[zs,zG,yY];split<;>rfl
def Ho(l:Γ Int)(n k:Nat):(l++zs n).getD k 0=l.getD k 0:=by
 by_cases h:k < l.length
 ·simp[zG,yT h]
 ·have h':l.length<=k:=by lia
  have:=Ng n (k - l.length);simp?[zG] at this ⊢;rw[yU h',this];simp[h']
def U3(l:Γ Int)(k:Nat):(l++[0]).getD k 0=l.getD k 0:=Ho l 1 k
def C6(h:Wd G T W):∀k,uj G T W (m6 d G T W k)=true
 | 0=>iD.mpr λb i hi=>by
  rw[Ii λk=>by simp[m6]];exact h.amt b i
 | k+1=>by
  unfold m6;split
  ·rename_i e;refine iD.mpr λb i hi=>?_;have:=iD.mp e b i hi;rw[oU (Q:=m6 d G T W k++[d k]) λj _=>Ho _ _ _] at this;exact this
  ·refine iD.mpr λb i hi=>?_;rw[oU (Q:=m6 d G T W k) λj _=>U3 _ _];exact iD.mp (C6 h k) b i hi
def CI(hd:∀k,k < W.length->0<=d k/\d k<=(aC W k).2.2)(hl:TB W):∀k,k<=W.length->∀j,j < k->0<=(m6 d G T W k).getD j 0/\(m6 d G T W k).getD j 0<=(aC W j).2.2
 | 0,_,j,hj=>by lia
 | k+1,hk,j,hj=>by
  have ih:=CI hd hl k (by lia) j;have len:(m6 d G T W k).length=k:=nz k;have key:∀x,(0<=x/\x<=(aC W k).2.2)->0<=(m6 d G T W k++[x]).getD j 0/\(m6 d G T W k++[x]).getD j 0<=(aC W j).2.2:=λx hx=>by
   by_cases Wu:j < k
   ·rw[zG,yT (by lia),<- zG];exact ih Wu
   ·have:j=k:=by lia
    subst this;rw[zG,yU (by lia),len];simpa using hx
  unfold m6;split
  ·exact key _ (hd k (by lia))
  ·exact key _ ⟨by lia,hl k⟩
def Pr(h:Wd G T W)(hd:∀k,k < W.length->0<=d k/\d k<=(aC W k).2.2):Pn G T W (m6 d G T W W.length) where
 len:=nz _
 bd:=CI hd h.lim W.length (yN _)
 am:=iD.mp (C6 h _)
end
def uM{tt:Dl.Env->Δ θ}{te:Dl.Env->Δ D}{r:Γ (Δ D)}{x y h:Nat->D}{p:Nat->θ}:∀ (is:Γ Nat),
  (∀i∈is,tt (some (x i)::some (y i)::r)=some (p i)/\(p i=true->te (some (x i)::some (y i)::r)=some (h i))) ->
  cS (gM 0 1) tt te (none::none::r) (is.map λi=>.tuple [x i,y i])=some ((is.filter p).map h)
 | [],_=>rfl
 | i::is,hh=>by
  let⟨h1,h2⟩:=hh i zE;have ih:=uM is λj hj=>hh j (zC _ hj);have hg:gM 0 1 (none::none::r) (.tuple [x i,y i])=some (some (x i)::some (y i)::r):=by
   simp?[gM,isFree,xR,yZ,qH,wH,jP,xI,yW,yX]
  rw[zI,cS,hg];simp?[zA,h1];cases hp:p i with
  | true=>simp[h2 hp,ih,hp]
  | false=>simp[ih,hp]
def n8{fi:Dl.Env->Δ (Γ D)}{tt:Dl.Env->Δ θ}{te:Dl.Env->Δ D}{ρ:Dl.Env}{n:Nat}{x y h:Nat->D}{p:Nat->θ}(Xo:fi ρ=some ((List.range n).map λi=>.tuple [x i,y i]))(hl:n<=1000)
  (hh:∀i,i < n->tt (some (x i)::some (y i)::cs.map λj=>(ρ[j]?).getD none)=some (p i)/\(p i=true->te (some (x i)::some (y i)::cs.map λj=>(ρ[j]?).getD none)=some (h i))) :
  au 2 cs fi (gM 0 1) tt te ρ=some (((List.range n).filter p).map h):=by
 have:=uM (tt:=tt) (te:=te) (r:=cs.map λj=>(ρ[j]?).getD none) (p:=p) (h:=h) (List.range n) λi hi=>hh i (by simpa using hi);simp?[au,Xo,zA,fA,List.replicate,xG,xP,this];refine bo ?_;rw[zD];refine yD (xQ _ _) ?_;rw[zR];lia
def vb{W:Γ Wy}{P:Γ Int}(h:P.length=W.length):iI (W.map av) (P.map PyData.int)=(List.range W.length).map λi=>.tuple [av (aC W i),.int (P.getD i 0)]:=by
 apply List.ext_getElem?;intro i;by_cases hi:i < W.length
 ·have hz:i < (iI (W.map av) (P.map PyData.int)).length:=by rw[ow];simp[h];exact hi
  rw[zK hz];let⟨x,y,e1,e2,e3⟩:=rY (zK hz);rw[zO,n5 hi] at e1;rw[zO,zK (by lia)] at e2;cases e1;have e2:PyData.int P[i]=y:=by simpa using e2
  rw[e3,<- e2];have:i < P.length:=by lia
  simp[hi,this,zG]
 ·rw[jM (by rw[ow];simp;lia),jM (by simp;lia)]
def Sm(P:Γ Int):Prop:=∀k,-1000000<=P.getD k 0/\P.getD k 0<=1000000
def D0(hs:Sm P)(hw:W.length<=16)(b:θ)(p:Int):PJ ((own b W p).map λi=>P.getD i 0)=true:=by
 unfold PJ;rw[zF,zJ,xH];refine⟨?_,λx hx=>?_⟩
 ·have:=xb b W p;rw[zD];lia
 ·let⟨i,_,rfl⟩:=List.mem_map.mp hx;rw[zF,zJ,zJ];exact hs i
def pq(h:Wd G T W)(hp:P.length=W.length)(hs:Sm P)(b:θ)(p:Int):dH [az G T W,af P,.int (sI b),.int p]=some (.int (i3 b W P p)):=by
 have hw:=h.wl;sleep 50;show vo [.val (az G T W),.val (af P),.val (.int (sI b)),.val (.int p)]=_;have hz:fN (aa (f2 ay (ab 0) (fC (.int 2))) (aa (ab 1) ag)) [some (az G T W),some (af P),some (.int (sI b)),some (.int p)]=some ((List.range W.length).map λi=>.tuple [av (aC W i),.int (P.getD i 0)]):=by
  rw[<- vb hp];rfl
 have c:au 2 [2,3] (fN (aa (f2 ay (ab 0) (fC (.int 2))) (aa (ab 1) ag))) (gM 0 1) (fB (f2 bC (f2 ay (ab 0) (ab 2)) (ab 3))) (ab 1) [some (az G T W),some (af P),some (.int (sI b)),some (.int p)]=some ((own b W p).map λi=>.int (P.getD i 0)):=by
  rw[n8 (p:=λi=>decide (ba b (aC W i)=p)) (h:=λi=>.int (P.getD i 0)) hz (by lia) λi hi=>⟨?_,λ_=>rfl⟩]
  ·rfl
  ·show fB (f2 bC (f2 ay (ab 0) (ab 2)) (ab 3)) [some (av (aC W i)),some (.int (P.getD i 0)),some (.int (sI b)),some (.int p)]=_;exact cJ (by rw[iM (a:=.int (ba b (aC W i))) (b:=.int p) (aB (nY b _) rfl rfl) rfl,cX])
 refine aO ?_;have e:((own b W p).map λi=>PyData.int (P.getD i 0))=((own b W p).map λi=>P.getD i 0).map PyData.int:=by rw[zM];rfl
 show bw ug (aa (cU (au 2 [2,3] (fN (aa (f2 ay (ab 0) (fC (.int 2))) (aa (ab 1) ag))) (gM 0 1) (fB (f2 bC (f2 ay (ab 0) (ab 2)) (ab 3))) (ab 1))) ag) [some (az G T W),some (af P),some (.int (sI b)),some (.int p)]=_;rw[e] at c;simp?[bw,aa,ag,cU,c,zB,zA];show ug [.list (((own b W p).map λi=>P.getD i 0).map PyData.int)]=_;simp?[ug,et,oneOf,fM,zA,bL,D0 hs hw b p,xI];rfl
def sT(L:Γ Pl):bF 0 (L.map bp)=(List.range L.length).map λi=>.tuple [nD i,bp (L.getD i (0,[]))]:=by
 rw[enum_zip];apply jI
 ·simp
 ·intro i h1 h2;have:i < L.length:=by simpa using h2
  simp[this,zG]
def uZ(is:Γ Nat):nL [.list (is.map λi=>.bool (p i))]=some (.bool (is.all p)):=by
 have:∀is:Γ Nat,boolsOf (is.map λi=>PyData.bool (p i))=some (is.map p):=λis=>by
  induction is with
  | nil=>rfl
  | cons i is ih=>simp[boolsOf,ih]
 simp?[nL,oneOf,zA,this,zB,List.all_map];rfl
def D4(h:Wd G T W)(hp:P.length=W.length)(hs:Sm P)(b:θ):dq [az G T W,af P,.int (sI b)]=some (.bool ((List.range (aX b G T).length).all λi=>decide (i3 b W P i<=(bT b G T i).1))):=by
 have hl:=h.pl b;sleep 50;show j8 [.val (az G T W),.val (af P),.val (.int (sI b))]=_;have he:bq (aa (f2 ay (ab 0) (ab 2)) ag) [some (az G T W),some (af P),some (.int (sI b))]=some ((List.range (aX b G T).length).map λi=>.tuple [nD i,bp (bT b G T i)]):=by
  have:=sT (aX b G T);unfold bT;rw[<- this];cases b<;>rfl
 have c:=n8 (cs:=[0,1,2]) (tt:=λ_=>some true) (te:=f2 EK (ah 4 dH (aa (ab 2) (aa (ab 3) (aa (ab 4) (aa (ab 0) ag))))) (f2 ay (ab 1) (fC (.int 0)))) (p:=λ_=>true) (h:=λi=>.bool (decide (i3 b W P i<=(bT b G T i).1))) he (by lia) λi hi=>⟨rfl,λ_=>aB (a:=.int (i3 b W P i)) (b:=.int (bT b G T i).1) rfl (call_of (pq h hp hs b i) rfl rfl) rfl⟩
 refine aO ?_;show bw nL (aa (cU (au 2 [0,1,2] (bq (aa (f2 ay (ab 0) (ab 2)) ag)) (gM 0 1) (λ_=>some true) (f2 EK (ah 4 dH (aa (ab 2) (aa (ab 3) (aa (ab 4) (aa (ab 0) ag))))) (f2 ay (ab 1) (fC (.int 0)))))) ag) [some (az G T W),some (af P),some (.int (sI b))]=_;simp?[bw,aa,ag,cU,c,zB,zA];rw[show (List.range (aX b G T).length).filter (λ_=>true)=List.range (aX b G T).length by simp,uZ]
def JS(ha:fa ρ=some (.bool true))(hb:fb ρ=some d):mn fa fb ρ=some d:=by
 simp?[mn,ha,zA,hb]
def LZ(ha:fa ρ=some (.bool false)):mn fa fb ρ=some (.bool false):=by
 simp?[mn,ha,zA]
def Lj(ha:fa ρ=some (.bool a))(hb:fb ρ=some (.bool b)):mn fa fb ρ=some (.bool (a&&b)):=by
 cases a
 ·exact LZ ha
 ·exact JS ha hb
def Cs(h:f ρ=some d):bw g (aa f ag) ρ=g [d]:=by
 simp?[bw,aa,ag,h,zB,zA]
def wZ{l:Γ α}(h:f ρ=some (.tuple (l.map k))):bw bO (aa f ag) ρ=some (nD l.length):=by
 rw[Cs h,EI,zD]
def TH(W:Γ Wy)(P:Γ Int):θ:=(List.range W.length).all λk=>decide (0<=P.getD k 0)&&decide (P.getD k 0<=(aC W k).2.2)
def C8(b:θ)(G T:Γ Pl)(W:Γ Wy)(P:Γ Int):θ:=(List.range (aX b G T).length).all λi=>decide (i3 b W P i<=(bT b G T i).1)
def SW(G T:Γ Pl)(W:Γ Wy)(P:Γ Int):θ:=TH W P&&(C8 false G T W P&&C8 true G T W P)
def KS(hp:P.length=W.length):SW G T W P=true↔Pn G T W P:=by
 simp?[SW,TH,C8,zF,xH,zS,zJ];constructor
 ·rintro⟨h1,h2,h3⟩;exact⟨hp,h1,λb=>by cases b<;>assumption⟩
 ·intro p;exact⟨p.bd,p.am false,p.am true⟩
def PM(P:Γ Int):p9 (af P)=true:=rfl
def F6(h:Wd G T W)(hp:P.length=W.length)(hs:Sm P):lU [az G T W,af P]=some (.bool (SW G T W P)):=by
 have hw:=h.wl;have hlen:(P.map PyData.int).length=W.length:=by rw[zD,hp]
 sleep 50;show pH [.val (az G T W),.val (af P),.Wh]=_;unfold pH;have t1:Dl.aF 2 [0] (f2 ay (ab 0) (fC (.int 2))) [.val (az G T W),.val (af P),.Wh]=some (.nx [.val (az G T W),.val (af P),.val (.tuple (W.map av))]):=cm (d:=.tuple (W.map av)) rfl rfl rfl rfl;rw[ai t1];have el:bR [af P,nD W.length,nD W.length]=some (.bool true):=by
  rw[show nD W.length=.int ((W.length:Nat):Int) from rfl,eu (PM P)];simp[long,af,hp]
 have hl:∀ρ:Dl.Env,ab 2 ρ=some (.tuple (W.map av))->bw bO (aa (ab 2) ag) ρ=some (nD W.length):=λρ hr=>wZ hr;have c1:(cR (fB (ah 3 bR (aa (ab 1) (aa (bw bO (aa (ab 2) ag)) (aa (bw bO (aa (ab 2) ag)) ag)))))) (aP [.val (az G T W),.val (af P),.val (.tuple (W.map av))])=some false :=
  gS (cJ (call_of el (cons_of rfl (cons_of (hl _ rfl) (cons_of (hl _ rfl) rfl))) rfl))
 rw[ai (dX c1)];have hz:fN (aa (ab 2) (aa (ab 1) ag)) [some (az G T W),some (af P),some (.tuple (W.map av))]=some ((List.range W.length).map λi=>.tuple [av (aC W i),.int (P.getD i 0)]):=by
  rw[<- vb hp];rfl
 have c2:=n8 (cs:=[]) (tt:=λ_=>some true) (te:=ah 3 bM (aa (ab 1) (aa (fC (.int 0)) (aa (f2 ay (ab 0) (fC (.int 2))) ag)))) (p:=λ_=>true) (h:=λk=>.bool (decide (0<=P.getD k 0)&&decide (P.getD k 0<=(aC W k).2.2))) hz (by lia)
  λi hi=>⟨rfl,λ_=>call_of (gH (d:=.int (P.getD i 0)) rfl 0 (aC W i).2.2) rfl rfl⟩
 have YR:(fB (bw nL (aa (cU (au 2 [] (fN (aa (ab 2) (aa (ab 1) ag))) (gM 0 1) (λ_=>some true) (ah 3 bM (aa (ab 1) (aa (fC (.int 0)) (aa (f2 ay (ab 0) (fC (.int 2))) ag)))))) ag))) [some (az G T W),some (af P),some (.tuple (W.map av))]=some (TH W P):=by
  refine cJ ?_;simp?[bw,aa,ag,cU,c2,zB,zA];rw[show (List.range W.length).filter (λ_=>true)=List.range W.length by simp,uZ];rfl
 have k0:=D4 h hp hs false;have k1:=D4 h hp hs true;cases hb:TH W P with
 | false =>
  rw[hb] at YR;refine jn ((fU (gS YR)).trans ?_);rw[SW,hb];exact aO rfl
 | true =>
  rw[hb] at YR;rw[ai (dX (gS YR)),SW,hb,jL];exact aO (Lj (call_of k0 rfl rfl) (call_of k1 rfl rfl))
def tT(hk:k < W.length):aC W k∈W:=ig hk ▸ qB hk
def Pn.smP(h:Wd G T W)(p:Pn G T W P):Sm P:=λk=>by
 by_cases hk:k < W.length
 ·have:=p.bd k hk;have:=(h.wr _ (tT hk)).2.2.2;lia
 ·rw[zG,jM (by rw[p.len];lia)];simp
def um(h:Wd G T W)(p:Pn G T W P):lU [az G T W,af P]=some (.bool true):=by
 rw[F6 h p.len (p.smP h),(KS p.len).mpr p]
def bD(h:Wd G T W)(p:Pn G T W P):bS [az G T W,af P]=some .none:=by
 have:fR [.val (az G T W),.val (af P)]=some (.nx [.val (az G T W),.val (af P)]):=by
  unfold fR;refine (ai (gF (call_of (ik h) rfl rfl))).trans ?_;exact dX (gS (cJ (call_of (um h p) rfl rfl)))
 show (fR [.val (az G T W),.val (af P)]).map _=_;rw[this];rfl
def oh(W:Γ Wy)(i:Nat):Γ Int:=[(aC W i).2.1,(aC W i).1]
def gR(W:Γ Wy):Γ (Γ Int):=(List.range W.length).map (oh W)
def cZ(W:Γ Wy):Γ Nat:=rg (λi=>rk (gR W) ((gR W).getD i [])) (List.range W.length) 0
def Iw(z:Nat->Int)(n:Nat):rg z ((List.range n).map nD) .none=(rg z (List.range n) 0).map nD:=by
 unfold rg;rw[zD];split
 ·rfl
 ·rename_i h;rw[zM];let⟨hp,_⟩:=SP.gZ (z:=z) (n:=(List.range n).length) (by lia);refine yI λi hi=>?_;have Xc:i < (List.range n).length:=by have:=hp.mem_iff.mp hi;sleep 14
  rw[zR] at Xc;simp[Xc]
def G0(hi:i < W.length):(gR W).getD i []=oh W i:=by
 simp[gR,hi]
def gV(h:wg W):Ord W (cZ W) where
 perm:=gh _ _ _
 up:=by
  have hp:(cZ W).Perm (List.range W.length):=gh _ _ _;have hs:(cZ W).Pairwise λi j=>rk (gR W) (oh W i)<=rk (gR W) (oh W j):=by
   refine tG _ _ _ (λi=>rk (gR W) (oh W i)) λi hi=>?_;rw[zR] at hi;have e:(List.range W.length).getD i 0=i:=by simp[hi]
   show rk (gR W) ((gR W).getD i [])=rk (gR W) (oh W ((List.range W.length).getD i 0));rw[e,G0 hi]
  have hn:(cZ W).Nodup:=hp.nodup_iff.mpr List.nodup_range;refine (hs.and hn).imp_of_mem λ{i j} hi hj Wo=>?_;have Xc:i < W.length:=by have:=hp.mem_iff.mp hi;sleep 14
  have Yh:j < W.length:=by have:=hp.mem_iff.mp hj;sleep 14
  let⟨hle,WN⟩:=Wo;have mj:oh W j∈gR W:=List.mem_map.mpr ⟨j,by simpa using Yh,rfl⟩;have n1:Dl.lexLt (oh W j) (oh W i)=false:=by
   rw[DM mj,xC];lia
  simp?[oh,HT.lexLt] at n1;by_cases e1:(aC W j).2.1=(aC W i).2.1
  ·rw[yM e1] at n1;by_cases e2:(aC W j).1=(aC W i).1
   ·exact absurd (we h Yh Xc e2 e1).symm WN
   ·rw[yO e2,xC] at n1;exact .inr ⟨e1.symm,by lia⟩
  ·rw[yO e1,xC] at n1;exact .inl (by lia)
def tup_is(h:fs ρ=some ds)(hl:ds.length<=1000):aK fs ρ=some (.tuple ds):=by
 simp?[aK,h,zA,bo (show ds.length<=4000 by lia),zB]
def U5(w:Wy):ay (av w) (.int 0)=some (.int w.1):=rfl
def UF(w:Wy):ay (av w) (.int 1)=some (.int w.2.1):=rfl
def lb(h:Wd G T W):bj [az G T W]=some (.list ((cZ W).map nD)):=by
 have hw:=h.wl;have t1:Dl.aF 1 [0] (f2 ay (ab 0) (fC (.int 2))) [.val (az G T W),.Wh]=some (.nx [.val (az G T W),.val (.tuple (W.map av))]):=cm (d:=.tuple (W.map av)) rfl rfl rfl rfl;have hl:(bw bO (aa (ab 1) ag)) [some (az G T W),some (.tuple (W.map av))]=some (nD W.length):=wZ (l:=W) (k:=av) rfl;have hk:iV (aK (aa (f2 ay (f2 ay (ab 1) (ab 0)) (fC (.int 1))) (aa (f2 ay (f2 ay (ab 1) (ab 0)) (fC (.int 0))) ag))) [none,some (.tuple (W.map av))] ((List.range W.length).map nD)=some (((List.range W.length).map nD).map λd=>af (oh W (iY d).toNat)):=by
  refine oZ λd hd=>?_;let⟨j,hj,rfl⟩:=List.mem_map.mp hd;have Yh:j < W.length:=by simpa using hj
  have a:∀ρ:Dl.Env,ab 1 ρ=some (.tuple (W.map av))->ab 0 ρ=some (nD j)->(f2 ay (ab 1) (ab 0)) ρ=some (av (aC W j)):=λρ e1 e2=>aB (sD Yh) e1 e2;show aK (aa (f2 ay (f2 ay (ab 1) (ab 0)) (fC (.int 1))) (aa (f2 ay (f2 ay (ab 1) (ab 0)) (fC (.int 0))) ag)) [some (nD j),some (.tuple (W.map av))]=_;have c2:(aa (f2 ay (f2 ay (ab 1) (ab 0)) (fC (.int 1))) (aa (f2 ay (f2 ay (ab 1) (ab 0)) (fC (.int 0))) ag)) [some (nD j),some (.tuple (W.map av))]=some [.int (aC W j).2.1,.int (aC W j).1] :=
   cons_of (aB (UF (aC W j)) (a _ rfl rfl) rfl) (cons_of (aB (U5 (aC W j)) (a _ rfl rfl) rfl) rfl)
  rw[tup_is c2 (by simp)];simp[iY,oh,af]
 have hr:rowsOf (((List.range W.length).map nD).map λd=>af (oh W (iY d).toNat))=some (gR W):=by
  have e:(((List.range W.length).map nD).map λd=>af (oh W (iY d).toNat))=(gR W).map af:=by
   simp?[zM,gR];refine yI λj hj=>?_;simp[iY]
  rw[e,mF];intro ns YC;let⟨j,_,rfl⟩:=List.mem_map.mp YC;exact List.cons_ne_nil _ _
 sleep 50;show gq [.val (az G T W),.Wh]=_;unfold gq;rw[ai t1];refine aO ?_;have es:tM [1] (aa (bw bO (aa (ab 1) ag)) ag) (aK (aa (f2 ay (f2 ay (ab 1) (ab 0)) (fC (.int 1))) (aa (f2 ay (f2 ay (ab 1) (ab 0)) (fC (.int 0))) ag))) [some (az G T W),some (.tuple (W.map av))]=some ((cZ W).map nD):=by
  unfold tM;rw[cons_of hl rfl,zA];show (if (0:Int)<=((W.length:Nat):Int)/\((W.length:Nat):Int) < 64 then _ else none)=_;rw[yM ⟨by lia,by lia⟩,yG];show (iV _ [none,some (.tuple (W.map av))] ((List.range W.length).map nD)).bind _=_;rw[hk,zA,hr,zB];exact jD some (Iw _ _)
 show cU _ [some (az G T W),some (.tuple (W.map av))]=_;simp?[cU,es,zB]
def pF{fi:Dl.Env->Δ (Γ D)}{te:Dl.Env->Δ D}{ρ:Dl.Env}{is:Γ Nat}{f:Nat->D}(Xo:fi ρ=some (is.map nD))(hl:is.length<=1000)(hh:∀i∈is,te (some (nD i)::cs.map λj=>(ρ[j]?).getD none)=some (f i)):au 1 cs fi (fG 0) (λ_=>some true) te ρ=some (is.map f):=by
 rw[b9 (h:=λd=>f (iY d).toNat) Xo (by rw[zD];lia) λd hd=>?_]
 ·rw[zM];refine jD some (yI λi _=>?_);simp[iY]
 ·let⟨i,hi,rfl⟩:=List.mem_map.mp hd;rw[hh i hi];simp[iY]
def AE(h:m ds=some (.list es))(hf:fs ρ=some ds)(hn:ds.length=n):aR (ah n m fs) ρ=some es:=by
 simp?[aR,call_of h hf hn,zA,fM]
def Dh(h:wg W)(hi:i∈cZ W):i < W.length:=by
 have:=(gV h).perm.mem_iff.mp hi;sleep 14
def Aa(h:wg W):(cZ W).length=W.length:=(gV h).len
abbrev aax:=(aa (ab 1) acz)
def pN:∀ (l:Γ Wy),cS (Kj 0 1 2) (λ_=>some true) (aK aax) (none::none::none::r) (l.map av)=some ((l.map AF).map av)
 | []=>rfl
 | w::l=>by
  have ih:=pN (r:=r) l;have hg:Kj 0 1 2 (none::none::none::r) (av w)=some (some (.int w.1)::some (.int w.2.1)::some (.int w.2.2)::r):=rfl;rw[zI,cS,hg,zA];have e:aK aax (some (.int w.1)::some (.int w.2.1)::some (.int w.2.2)::r)=some (av (AF w)):=rfl;simp?[zA,xI,e,ih,zB,zI]
def A6(h:Wd G T W):nr [az G T W]=some (az T G (gL W (cZ W))):=by
 have hw:=h.wl;have hn:=Aa h.wp;sleep 50;show sy [.val (az G T W),.Wh]=_;unfold sy;refine (ai (gF (call_of (ik h) rfl rfl))).trans ?_;have c:au 1 [0] (aR (ah 1 bj (aa (ab 0) ag))) (fG 0) (λ_=>some true) (f2 ay (f2 ay (ab 1) (fC (.int 2))) (ab 0)) [some (az G T W),none]=some ((cZ W).map λi=>av (aC W i)) :=
  pF (AE (lb h) rfl rfl) (by lia) λi hi=>aB (sD (Dh h.wp hi)) rfl rfl
 have t2:aS 1 [0] (au 1 [0] (aR (ah 1 bj (aa (ab 0) ag))) (fG 0) (λ_=>some true) (f2 ay (f2 ay (ab 1) (fC (.int 2))) (ab 0))) [.val (az G T W),.Wh]=some (.nx [.val (az G T W),.own ((cZ W).map λi=>av (aC W i))]):=l4 c rfl;rw[ai t2];refine aO ?_;have e3:au 3 [] (aR (ab 1)) (Kj 0 1 2) (λ_=>some true) (aK (aa (ab 1) (aa (ab 0) (aa (ab 2) ag)))) [some (az G T W),some (.list ((cZ W).map λi=>av (aC W i)))]=some ((gL W (cZ W)).map av):=by
  have:=pN (r:=[]) ((cZ W).map λi=>aC W i);rw[zM,zM] at this;have hf:aR (ab 1) [some (az G T W),some (.list ((cZ W).map λi=>av (aC W i)))]=some ((cZ W).map λi=>av (aC W i)):=rfl;unfold au;rw[hf,zA];show (cS (Kj 0 1 2) (λ_=>some true) (aK (aa (ab 1) (aa (ab 0) (aa (ab 2) ag)))) [none,none,none] ((cZ W).map λi=>av (aC W i))).bind small=_;rw[show ((cZ W).map λi=>av (aC W i))=List.map (av ∘ λi=>aC W i) (cZ W) from rfl,this,zA];rw[bo (by simp;lia),gL];simp?[zM];rfl
 show aK (aa (f2 ay (ab 0) (fC (.int 1))) (aa (f2 ay (ab 0) (fC (.int 0))) (aa (bw bK (aa (cU (au 3 [] (aR (ab 1)) (Kj 0 1 2) (λ_=>some true) (aK (aa (ab 1) (aa (ab 0) (aa (ab 2) ag)))))) ag)) ag))) [some (az G T W),some (.list ((cZ W).map λi=>av (aC W i)))]=_;have e4:(bw bK (aa (cU (au 3 [] (aR (ab 1)) (Kj 0 1 2) (λ_=>some true) (aK (aa (ab 1) (aa (ab 0) (aa (ab 2) ag)))))) ag)) [some (az G T W),some (.list ((cZ W).map λi=>av (aC W i)))]=some (.tuple ((gL W (cZ W)).map av)):=by
  simp?[bw,aa,ag,cU,e3,zB,zA,Ic]
 exact tup_is (ds:=[.tuple (T.map bp),.tuple (G.map bp),.tuple ((gL W (cZ W)).map av)]) (cons_of (aB (a:=az G T W) (b:=.int 1) (c:=.tuple (T.map bp)) rfl rfl rfl) (cons_of (aB (a:=az G T W) (b:=.int 0) (c:=.tuple (G.map bp)) rfl rfl rfl) (cons_of e4 rfl))) (by simp)
def ui(h:Wd G T W)(p:Pn G T W P):iw [az G T W,af P]=some (af (Bi P (cZ W))):=by
 have hw:=h.wl;have hn:=Aa h.wp;sleep 50;show ib [.val (az G T W),.val (af P)]=_;unfold ib;sleep 40;have c:au 1 [1] (aR (ah 1 bj (aa (ab 0) ag))) (fG 0) (λ_=>some true) (f2 ay (ab 1) (ab 0)) [some (az G T W),some (af P)]=some ((cZ W).map λi=>.int (P.getD i 0)) :=
  pF (AE (lb h) rfl rfl) (by lia) λi hi=>aB (kg (by rw[p.len];exact Dh h.wp hi)) rfl rfl
 refine aO ?_;show bw bK (aa (cU (au 1 [1] (aR (ah 1 bj (aa (ab 0) ag))) (fG 0) (λ_=>some true) (f2 ay (ab 1) (ab 0)))) ag) [some (az G T W),some (af P)]=_;simp?[bw,aa,ag,cU,c,zB,zA,Ic];simp[af,Bi]
def Ds(h:f ρ=some (.list ds))(h2:g ρ=some (nD k)):n6 gX f (Dw g) nU ρ=some (.list (ds.drop k)):=by
 have:=AV ds k;simp?[n6,h,Dw,h2,nU,gI,gX,zA,zB,this]
def Fz(is:Γ Nat):Rf.J3 [.list (is.map λi=>.bool (p i))]=some (.bool (is.any p)):=by
 have:∀is:Γ Nat,boolsOf (is.map λi=>PyData.bool (p i))=some (is.map p):=λis=>by
  induction is with
  | nil=>rfl
  | cons i is ih=>simp[boolsOf,ih]
 simp?[Rf.J3,oneOf,zA,this,zB,wQ];rfl
def ni(f:α->β)(p:β->θ)(q:α->θ):∀ (l:Γ α),(∀x∈l,p (f x)=q x)->(l.map f).findIdx p=l.findIdx q
 | [],_=>rfl
 | x::l,h=>by
  rw[zI,vC,vC,h x zE,ni f p q l λy hy=>h y (zC _ hy)]
def Qm(h:Wd G T W){b:θ}{i:Nat}(e:(aX b G T)[i]?=some p){k:Nat}(hk:k < W.length)(he:ba b (aC W k)=i):qk (.list ((fE b W i p.2).map nD)) (nD k)=some (nD (uA p.2 (bZ b (aC W k)))):=by
 have ko:k∈own b W i:=cG.mpr ⟨hk,he⟩;have km:k∈fE b W i p.2:=(fj h e).mem_iff.mpr ko;have e1:(fE b W i p.2).map nD=((fE b W i p.2).map λj=>((j:Nat):Int)).map PyData.int:=by rw[zM];rfl
 have m1:((k:Nat):Int)∈(fE b W i p.2).map λj=>((j:Nat):Int):=List.mem_map.mpr ⟨k,km,rfl⟩;rw[e1];show (intsOf _).bind _=_;rw[bL,zA,pD m1,zB];have e2:((fE b W i p.2).map λj=>((j:Nat):Int)).findIdx (λo=>decide (o=((k:Nat):Int)))=uA p.2 (bZ b (aC W k)):=by
  unfold fE uA;rw[zM];refine ni _ _ _ _ λx hx=>?_;let⟨hl,h1,h2⟩:=nE h e hx;show decide (((qa b W i x:Nat):Int)=(k:Int))=decide (x=bZ b (aC W k));rw[decide_eq_decide];constructor
  ·intro z;have z:qa b W i x=k:=by lia
   rw[<- z,h2]
  ·intro z;rw[z,v9 h.wp ko]
 rw[e2]
def oE(h:Wd G T W)(hp:P.length=W.length)(hs:Sm P)(b:θ){k:Nat}(hk:k < W.length):fT [az G T W,af P,.int (sI b),nD k]=some (.bool (tm b G T W P k)):=by
 have hw:=h.wl;let⟨z1,z2,z3⟩:=h.WG b hk;have hx:(aX b G T)[(ba b (aC W k)).toNat]?=some (bT b G T (ba b (aC W k)).toNat):=by
  rw[zK z2];simp[bT,z2]
 have hL:∀x∈(bT b G T (ba b (aC W k)).toNat).2,_:=λx YV=>nE h hx YV;have hb:(bT b G T (ba b (aC W k)).toNat).2.length<=16:=by
  have:=(fj h hx).length_eq;have h2:=xb b W ((ba b (aC W k)).toNat:Int);unfold fE at this;rw[zD] at this;lia
 have ei:=Qm h hx hk z3.symm;have ew:=o6 h hx;generalize WU:bT b G T (ba b (aC W k)).toNat=pl at *;generalize hj:(ba b (aC W k)).toNat=j at *;have ez:PyData.int (ba b (aC W k))=nD j:=by rw[<- z3]
 sleep 50;show ja [.val (az G T W),.val (af P),.val (.int (sI b)),.val (nD k),.Wh,.Wh,.Wh]=_;unfold ja;have t4:Dl.aF 4 [0,2,3] (f2 ay (f2 ay (f2 ay (ab 0) (fC (.int 2))) (ab 3)) (ab 2)) [.val (az G T W),.val (af P),.val (.int (sI b)),.val (nD k),.Wh,.Wh,.Wh]=some (.nx [.val (az G T W),.val (af P),.val (.int (sI b)),.val (nD k),.val (nD j),.Wh,.Wh]):=by
  rw[<- ez];exact cN (d:=.int (ba b (aC W k))) (aB (nY b _) (aB (sD hk) rfl rfl) rfl) rfl
 rw[ai t4];have ep:ay (.tuple ((aX b G T).map bp)) (nD j)=some (bp pl):=lg hx;have ct:(fB (f2 Ga (ah 4 dH (aa (ab 0) (aa (ab 1) (aa (ab 2) (aa (ab 4) ag))))) (f2 ay (f2 ay (f2 ay (ab 0) (ab 2)) (ab 4)) (fC (.int 0))))) (aP [.val (az G T W),.val (af P),.val (.int (sI b)),.val (nD k),.val (nD j),.Wh,.Wh])=some (decide (i3 b W P j < pl.1)):=by
  refine cJ (aB (n9 _ _) (call_of (pq h hp hs b j) rfl rfl) ?_);refine aB (a:=bp pl) (b:=.int 0) rfl (aB ep (aB (nv b G T W) rfl rfl) rfl) rfl
 have hm:tm b G T W P k=(decide (i3 b W P j < pl.1)||(pl.2.drop (uA pl.2 (bZ b (aC W k))+1)).any λo=>decide (0 < P.getD (qa b W j o) 0)):=by
  unfold tm;rw[hj,WU,z3]
 rw[hm];cases hc:decide (i3 b W P j < pl.1) with
 | true =>
  rw[hc] at ct;exact jn ((fU ct).trans (aO rfl))
 | false =>
  rw[hc] at ct;rw[ai (dX ct),Bool.false_or];have t5:Dl.aF 5 [0,2,4] (ah 3 gc (aa (ab 0) (aa (ab 2) (aa (ab 4) ag)))) [.val (az G T W),.val (af P),.val (.int (sI b)),.val (nD k),.val (nD j),.Wh,.Wh]=some (.nx [.val (az G T W),.val (af P),.val (.int (sI b)),.val (nD k),.val (nD j),.val (.list ((fE b W j pl.2).map nD)),.Wh]) :=
   aZ (call_of ew rfl rfl) (call_of ew rfl rfl) rfl
  rw[ai t5];have cu:∀ρ:Dl.Env,ab 5 ρ=some (.list ((fE b W j pl.2).map nD))->ab 3 ρ=some (nD k)->(n6 gX (ab 5) (Dw (f2 aJ (f2 qk (ab 5) (ab 3)) (fC (.int 1)))) nU) ρ=some (.list (((fE b W j pl.2).map nD).drop (uA pl.2 (bZ b (aC W k))+1))):=λρ a c =>
   Ds a (aB (iQ _ _) (aB ei a c) rfl)
  have t6:Dl.aF 6 [3,5] (n6 gX (ab 5) (Dw (f2 aJ (f2 qk (ab 5) (ab 3)) (fC (.int 1)))) nU) [.val (az G T W),.val (af P),.val (.int (sI b)),.val (nD k),.val (nD j),.val (.list ((fE b W j pl.2).map nD)),.Wh]=some (.nx [.val (az G T W),.val (af P),.val (.int (sI b)),.val (nD k),.val (nD j),.val (.list ((fE b W j pl.2).map nD)),.val (.list (((fE b W j pl.2).drop (uA pl.2 (bZ b (aC W k))+1)).map nD))]):=by
   rw[List.map_drop];exact aZ (cu _ rfl rfl) (cu _ rfl rfl) rfl
  rw[ai t6];have c:au 1 [1] (aR (ab 6)) (fG 0) (λ_=>some true) (f2 FA (f2 ay (ab 1) (ab 0)) (fC (.int 0))) [some (az G T W),some (af P),some (.int (sI b)),some (nD k),some (nD j),some (.list ((fE b W j pl.2).map nD)),some (.list (((fE b W j pl.2).drop (uA pl.2 (bZ b (aC W k))+1)).map nD))]=some (((fE b W j pl.2).drop (uA pl.2 (bZ b (aC W k))+1)).map λi=>.bool (decide (0 < P.getD i 0))):=by
   refine pF rfl ?_ λi hi=>?_
   ·rw[qJ,fE,zD];lia
   ·have Xc:=List.mem_of_mem_drop hi;unfold fE at Xc;let⟨x,YV,rfl⟩:=List.mem_map.mp Xc;exact aB (fX _ _) (aB (kg (by rw[hp];exact (hL x YV).1)) rfl rfl) rfl
  refine aO ?_;show bw Rf.J3 (aa (cU (au 1 [1] (aR (ab 6)) (fG 0) (λ_=>some true) (f2 FA (f2 ay (ab 1) (ab 0)) (fC (.int 0))))) ag) [some (az G T W),some (af P),some (.int (sI b)),some (nD k),some (nD j),some (.list ((fE b W j pl.2).map nD)),some (.list (((fE b W j pl.2).drop (uA pl.2 (bZ b (aC W k))+1)).map nD))]=_;simp?[bw,aa,ag,cU,c,zB,zA,Fz];unfold fE;rw[<- List.map_drop,wQ];rfl
def Rx:Nat->D|0=>.str "full" | 1=>.str "giver" | 2=>.str "taker" | _=>.none
def rE(h:Wd G T W)(hp:P.length=W.length)(hs:Sm P)(hk:k < W.length):jb [az G T W,af P,nD k]=some (Rx (fg G T W P k)):=by
 sleep 50;show mY [.val (az G T W),.val (af P),.val (nD k)]=_;unfold mY fg;have c1:acF (aP [.val (az G T W),.val (af P),.val (nD k)])=some (decide (P.getD k 0=(aC W k).2.2)) :=
  cJ (aB (cX _ _) (aB (kg (by rw[hp];exact hk)) rfl rfl) (aB (a:=av (aC W k)) (b:=.int 2) rfl (aB (sD hk) rfl rfl) rfl))
 have w0:=oE h hp hs false hk;have w1:=oE h hp hs true hk;have c2:acG (aP [.val (az G T W),.val (af P),.val (nD k)])=some (!(tm false G T W P k)):=gS (cJ (call_of w0 rfl rfl));have c3:acH (aP [.val (az G T W),.val (af P),.val (nD k)])=some (!(tm true G T W P k)):=gS (cJ (call_of w1 rfl rfl));by_cases e1:P.getD k 0=(aC W k).2.2
 ·rw[yA e1] at c1;rw[yM e1];exact jn ((fU c1).trans (aO rfl))
 ·rw[zZ e1] at c1;rw[yO e1,ai (dX c1)];cases e2:tm false G T W P k with
  | false =>
   rw[e2] at c2;rw[yM rfl];exact jn ((fU c2).trans (aO rfl))
  | true =>
   rw[e2] at c2;rw[yO (by simp),ai (dX c2)];cases e3:tm true G T W P k with
   | false =>
    rw[e3] at c3;rw[yM rfl];exact jn ((fU c3).trans (aO rfl))
   | true =>
    rw[e3] at c3;rw[yO (by simp),ai (dX c3)];exact aO rfl
def Jt(G T:Γ Pl)(W:Γ Wy)(P:Γ Int)(k:Nat):fg G T W P k<=3:=by
 unfold fg;split
 ·lia
 ·split
  ·lia
  ·split<;>lia
def CT(n:Nat)(h:n<=3):yk (Rx n) .none=some (.bool (decide (n=3))):=by
 match n,h with
 | 0,_=>rfl
 | 1,_=>rfl
 | 2,_=>rfl
 | 3,_=>rfl
def sO{W:Γ Wy}{P:Γ Int}(hp:P.length=W.length)(hf:f ρ=some (af P)):(aa (bw bO (aa f ag)) ag) ρ=some [nD W.length]:=by
 have:=Mc P;rw[hp] at this;refine cons_of ?_ rfl;rw[Cs hf,this]
def jz(h:Wd G T W)(hp:P.length=W.length)(hs:Sm P):bQ [az G T W,af P]=some (match (List.range W.length).find? λk=>decide (fg G T W P k=3) with|some k=>nD k|none=>.none):=by
 have hw:=h.wl;sleep 50;show fJ [.val (az G T W),.val (af P),.Wh]=_;unfold fJ;let⟨f1,YT⟩:=gp (tgt:=vn 2) (gb:=j5 abb Yy iJ) (λρ=>∃x,ρ=[.val (az G T W),.val (af P),x]) nD (λk=>decide (fg G T W P k=3)) nD
  (l:=List.range W.length) (ρ:=[.val (az G T W),.val (af P),.Wh])
  (λρ k hk XU=>by
   let⟨x,rfl⟩:=XU;have WY:k < W.length:=by simpa using hk
   have c:abb (aP [.val (az G T W),.val (af P),.val (nD k)])=some (decide (fg G T W P k=3)) :=
    cJ (aB (CT _ (Jt G T W P k)) (call_of (rE h hp hs WY) rfl rfl) rfl)
   refine⟨_,rfl,λhq=>?_,λhq=>?_⟩
   ·show j5 _ _ _ [.val (az G T W),.val (af P),.val (nD k)]=_;rw[hq] at c;exact (fU c).trans (aO rfl)
   ·rw[hq] at c;exact⟨_,dX c,_,rfl⟩) ⟨_,rfl⟩
 have hr:cB aa9 [some (az G T W),some (af P),none]=some ((List.range W.length).map nD):=yd (sO hp rfl) (by lia);cases e:(List.range W.length).find? λk=>decide (fg G T W P k=3) with
 | some k=>exact jn (cP (f1 k e) hr rfl)
 | none =>
  let⟨ρ',e',x,rfl⟩:=YT e;exact (ai (cP e' hr rfl)).trans (aO rfl)
def BD(h:Wd G T W)(hp:P.length=W.length)(hs:Sm P):mU [az G T W,af P]=some (.bool (decide (iC G T W P=[]))):=by
 sleep 50;show mZ [.val (az G T W),.val (af P)]=_;unfold mZ;refine aO (aB ?_ (call_of (jz h hp hs) rfl rfl) rfl);cases e:(List.range W.length).find? λk=>decide (fg G T W P k=3) with
 | some k =>
  have:iC G T W P≠[]:=λz=>by
   have hm:=jY e;have hq:=vT e;have:k∈iC G T W P:=List.mem_filter.mpr ⟨hm,hq⟩;rw[z] at this;cases this
  rw[zZ this];rfl
 | none =>
  have:iC G T W P=[]:=by
   rw[wI] at e;exact List.filter_eq_nil_iff.mpr e
  rw[yA this];rfl
def LA(h:Wd G T W)(p:Pn G T W P):xj [az G T W,af P]=some (.bool (decide (iC G T W P=[]))):=by
 sleep 50;show y8 [.val (az G T W),.val (af P)]=_;unfold y8;sleep 40;exact aO (call_of (BD h p.len (p.smP h)) rfl rfl)
def qg:∀ (is:Γ Nat),(∀i∈is,tt (some (nD i)::r)=some (q i)/\(q i=true->te (some (nD i)::r)=some (f i)))->cS (fG 0) tt te (none::r) (is.map nD)=some ((is.filter q).map f)
 | [],_=>rfl
 | i::is,h=>by
  have ih:=qg (tt:=tt) (te:=te) (r:=r) (f:=f) (q:=q) is λj hj=>h j (zC _ hj);let⟨h1,h2⟩:=h i zE;have hg:fG 0 (none::r) (nD i)=some (some (nD i)::r):=rfl;rw[zI,cS,hg,zA,h1,zA,jX];cases e:q i with
  | true =>
   rw[yM rfl,yM rfl,h2 e,zA,ih];rfl
  | false =>
   rw[yO (by simp),yO (by simp),ih]
def sP{fi:Dl.Env->Δ (Γ D)}{tt:Dl.Env->Δ θ}{te:Dl.Env->Δ D}{ρ:Dl.Env}{is:Γ Nat}{f:Nat->D}{q:Nat->θ}(Xo:fi ρ=some (is.map nD))(hl:is.length<=1000)(hh:∀i∈is,tt (some (nD i)::cs.map λj=>(ρ[j]?).getD none)=some (q i)/\(q i=true->te (some (nD i)::cs.map λj=>(ρ[j]?).getD none)=some (f i))):au 1 cs fi (fG 0) tt te ρ=some ((is.filter q).map f):=by
 have:=qg is hh;simp?[au,Xo,zA,fA,List.replicate,xG,xP,this];refine bo ?_;rw[zD];refine yD (xQ _ _) ?_;lia
def iS(h:Wd G T W)(p:Pn G T W P):cx [az G T W,af P]=some (.list ((iC G T W P).map nD)):=by
 have hw:=h.wl;have hp:=p.len;sleep 50;show pw [.val (az G T W),.val (af P)]=_;unfold pw;sleep 40;have c:au 1 [0,1] aba (fG 0) acJ (ab 0) [some (az G T W),some (af P)]=some ((iC G T W P).map nD) :=
  sP (yd (sO hp rfl) (by lia)) (by rw[zR];lia) λk hk=>⟨cJ (aB (CT _ (Jt G T W P k)) (call_of (rE h hp (p.smP h) (by simpa using hk)) rfl rfl) rfl),λ_=>rfl⟩
 refine aO ?_;show cU _ [some (az G T W),some (af P)]=_;simp?[cU,c,zB]
def uv(h:Wd G T W)(hb:dh [az T G (gL W (cZ W))]=some (af c))(p:Pn T G (gL W (cZ W)) c):eJ [az G T W]=some (af (Bi c (cZ (gL W (cZ W))))):=by
 have o:=gV h.wp;have h':=o.wd h;sleep 50;show ip [.val (az G T W),.Wh]=_;unfold ip;have t1:Dl.aF 1 [0] (ah 1 nr zq2) [.val (az G T W),.Wh]=some (.nx [.val (az G T W),.val (az T G (gL W (cZ W)))]):=aZ (call_of (A6 h) rfl rfl) (call_of (A6 h) rfl rfl) rfl;rw[ai t1];exact aO (call_of (ui h' p) (cons_of rfl (cons_of (call_of hb rfl rfl) rfl)) rfl)
def C7(f:Nat->D)(R:Nat->aj->Prop):∀ (n k:Nat) (ρ:aj),
  (∀j ρ,k<=j->j < k+n->R j ρ->∃ρ1 W9,tgt ρ (f j)=some ρ1/\gb ρ1=some (.nx W9)/\R (j+1) W9)->R k ρ->∃ρ',d6 tgt gb ((List.range' k n).map f) ρ=some (.nx ρ')/\R (k+n) ρ'
 | 0,k,ρ,_,h=>⟨ρ,rfl,h⟩
 | n+1,k,ρ,hh,h=>by
  let⟨ρ1,W9,e1,e2,h2⟩:=hh k ρ (yN _) (by lia) h;let⟨ρ',e3,h3⟩:=C7 f R n (k+1) W9 (λj ρ a b=>hh j ρ (by lia) (by lia)) h2;refine⟨ρ',?_,by rw[show k+(n+1)=k+1+n by lia];exact h3⟩;rw[vG,zI,d6,e1,zA,e2];exact e3
def SV(hl:n<=1000):Dl.eA (.tuple [.int 0]) (nD n)=some (af (zs n)):=by
 have e:AL (.tuple [.int 0]) (nD n)=some (af (zs n)):=by
  show (if FK ((n:Nat):Int)=true/\[PyData.int 0].length * ((n:Nat):Int).toNat<=sizeLine then some (PyData.tuple (List.replicate ((n:Nat):Int).toNat [PyData.int 0]).flatten) else none)=_;have hz:[PyData.int 0].length * n<=sizeLine:=by
   rw[xD,Nat.one_mul];exact yD hl (by decide)
  rw[yG,yM ⟨yp hl,hz⟩,Nf];rfl
 show ((zg uw λi j=>PyData.int (i * j)) (.tuple [.int 0]) (nD n)).or (AL (.tuple [.int 0]) (nD n))=_;rw[e];rfl
def Bx{W:Γ Wy}{P:Γ Int}(h:P.length=W.length):iI (P.map PyData.int) (W.map av)=(List.range W.length).map λi=>.tuple [.int (P.getD i 0),av (aC W i)]:=by
 have:∀ (a:Γ Int) (l:Γ Wy),a.length=l.length->iI (a.map PyData.int) (l.map av)=(List.range l.length).map λi=>.tuple [.int (a.getD i 0),av (aC l i)]:=by
  intro a
  induction a with
  | nil=>intro l e;cases l with|nil=>rfl|cons _ _=>simp at e
  | cons x a ih =>
   intro l e;cases l with
   | nil=>simp at e
   | cons w l =>
    rw[zI,zI,iI,ih l (by simpa using e),zL,vM,zI,zM];rfl
 exact this P W h
def Br(h:Wd G T W)(hp:P.length=W.length)(hs:Sm P)(b:θ)(p:Int):k7 [az G T W,af P,.int (sI b),.int p]=some (.int (i3 b W P p)):=by
 have hw:=h.wl;sleep 50;show p8 [.val (az G T W),.val (af P),.val (.int (sI b)),.val (.int p)]=_;have hz:fN (aa (ab 1) (aa (f2 ay (ab 0) (fC (.int 2))) ag)) [some (az G T W),some (af P),some (.int (sI b)),some (.int p)]=some ((List.range W.length).map λi=>.tuple [.int (P.getD i 0),av (aC W i)]):=by
  rw[<- Bx hp];rfl
 have c:au 2 [2,3] (fN (aa (ab 1) (aa (f2 ay (ab 0) (fC (.int 2))) ag))) (gM 0 1) (fB (f2 bC (f2 ay (ab 1) (ab 2)) (ab 3))) (ab 0) [some (az G T W),some (af P),some (.int (sI b)),some (.int p)]=some ((own b W p).map λi=>.int (P.getD i 0)):=by
  rw[n8 (p:=λi=>decide (ba b (aC W i)=p)) (h:=λi=>.int (P.getD i 0)) hz (by lia) λi hi=>⟨?_,λ_=>rfl⟩]
  ·rfl
  ·show fB (f2 bC (f2 ay (ab 1) (ab 2)) (ab 3)) [some (.int (P.getD i 0)),some (av (aC W i)),some (.int (sI b)),some (.int p)]=_;exact cJ (by rw[iM (a:=.int (ba b (aC W i))) (b:=.int p) (aB (nY b _) rfl rfl) rfl,cX])
 refine aO ?_;have e:((own b W p).map λi=>PyData.int (P.getD i 0))=((own b W p).map λi=>P.getD i 0).map PyData.int:=by rw[zM];rfl
 show bw ug (aa (cU (au 2 [2,3] (fN (aa (ab 1) (aa (f2 ay (ab 0) (fC (.int 2))) ag))) (gM 0 1) (fB (f2 bC (f2 ay (ab 1) (ab 2)) (ab 3))) (ab 0))) ag) [some (az G T W),some (af P),some (.int (sI b)),some (.int p)]=_;rw[e] at c;simp?[bw,aa,ag,cU,c,zB,zA];show ug [.list (((own b W p).map λi=>P.getD i 0).map PyData.int)]=_;simp?[ug,et,oneOf,fM,zA,bL,D0 hs hw b p,xI];rfl
def U0:aj->Δ Out:=acN
def Me(h:Wd G T W)(hp:P.length=W.length)(hs:Sm P)(b:θ)(x y:Slot):(C8 b G T W P=false->U0 [.val (az G T W),.val (af P),.val (.int (sI b)),x,y]=some (.rt (.bool false)))/\(C8 b G T W P=true->∃x' y',U0 [.val (az G T W),.val (af P),.val (.int (sI b)),x,y]=some (.nx [.val (az G T W),.val (af P),.val (.int (sI b)),x',y'])):=by
 have hl:=h.pl b;let⟨f1,YT⟩:=gp (tgt:=gy 3 4) (gb:=j5 abd acM iJ)
  (λρ=>∃x y,ρ=[.val (az G T W),.val (af P),.val (.int (sI b)),x,y]) (λi:Nat=>.tuple [nD i,bp (bT b G T i)]) (λi=>decide ((bT b G T i).1 < i3 b W P i)) (λ_=>.bool false)
  (l:=List.range (aX b G T).length) (ρ:=[.val (az G T W),.val (af P),.val (.int (sI b)),x,y])
  (λρ i hi XU=>by
   let⟨x,y,rfl⟩:=XU;have c:abd (aP [.val (az G T W),.val (af P),.val (.int (sI b)),.val (nD i),.val (bp (bT b G T i))])=some (decide ((bT b G T i).1 < i3 b W P i)) :=
    cJ (aB (fX _ _) (call_of (Br h hp hs b i) rfl rfl) (aB (a:=bp (bT b G T i)) (b:=.int 0) rfl rfl rfl))
   refine⟨_,rfl,λhq=>?_,λhq=>?_⟩
   ·rw[hq] at c;exact (fU c).trans (aO rfl)
   ·rw[hq] at c;exact⟨_,dX c,_,_,rfl⟩) ⟨_,_,rfl⟩
 have he:bq acK (bg [.val (az G T W),.val (af P),.val (.int (sI b)),x,y])=some ((List.range (aX b G T).length).map λi=>.tuple [nD i,bp (bT b G T i)]):=by
  have:=sT (aX b G T);unfold bT;rw[<- this];cases b<;>rfl
 have hh:hand [0,2] 0 [Slot.val (az G T W),.val (af P),.val (.int (sI b)),x,y]=[Slot.val (az G T W),.val (af P),.val (.int (sI b)),x,y]:=rfl;unfold C8;constructor
 ·intro hk;cases e:(List.range (aX b G T).length).find? λi=>decide ((bT b G T i).1 < i3 b W P i) with
  | some i=>exact cP (f1 i e) he hh
  | none =>
   rw[wI] at e;rw[List.all_eq_false] at hk;let⟨i,hi,hn⟩:=hk;have:=e i hi;simp?[zJ] at this hn;lia
 ·intro hk;have e:(List.range (aX b G T).length).find? (λi=>decide ((bT b G T i).1 < i3 b W P i))=none:=by
   rw[wI];intro i hi;have:=List.all_eq_true.mp hk i hi;simp?[zJ] at this ⊢;lia
  let⟨ρ',e',x',y',rfl⟩:=YT e;exact⟨x',y',cP e' he hh⟩
def PY:uj G T W P=(C8 false G T W P&&C8 true G T W P):=rfl
def By(h:Wd G T W)(hp:P.length=W.length)(hs:Sm P):dJ [az G T W,af P]=some (.bool (uj G T W P)):=by
 let⟨f1,YT⟩:=gp (tgt:=vn 2) (gb:=U0)
  (λρ=>∃x y z,ρ=[.val (az G T W),.val (af P),x,y,z]) (λb:θ=>.int (sI b)) (λb=>!(C8 b G T W P)) (λ_=>.bool false)
  (l:=[false,true]) (ρ:=[.val (az G T W),.val (af P),.Wh,.Wh,.Wh])
  (λρ b _ XU=>by
   let⟨x,y,z,rfl⟩:=XU;let⟨r1,r2⟩:=Me h hp hs b y z;refine⟨_,rfl,λhq=>?_,λhq=>?_⟩
   ·exact r1 (by simpa using hq)
   ·let⟨x',y',e⟩:=r2 (by simpa using hq);exact⟨_,e,_,_,_,rfl⟩) ⟨_,_,_,rfl⟩
 have hr:cB (aa (fC (.int 2)) ag) (bg [.val (az G T W),.val (af P),.Wh,.Wh,.Wh])=some ([false,true].map λb=>.int (sI b)):=yd (n:=2) rfl (by lia);sleep 50;show lR [.val (az G T W),.val (af P),.Wh,.Wh,.Wh]=_;unfold lR;rw[PY];cases e0:C8 false G T W P with
 | false =>
  have e:[false,true].find? (λb=>!(C8 b G T W P))=some false:=by rw[vO (by simp[e0])]
  exact jn (cP (f1 _ e) hr rfl)
 | true =>
  cases e1:C8 true G T W P with
  | false =>
   have e:[false,true].find? (λb=>!(C8 b G T W P))=some true:=by rw[kL (by simp[e0]),vO (by simp[e1])]
   exact jn (cP (f1 _ e) hr rfl)
  | true =>
   have e:[false,true].find? (λb=>!(C8 b G T W P))=none:=by rw[kL (by simp[e0]),kL (by simp[e1])];rfl
   let⟨ρ',e',x,y,z,rfl⟩:=YT e;exact (ai (cP e' hr rfl)).trans (aO rfl)
def Sm.app(ha:Sm a)(hb:Sm b):Sm (a++b):=λk=>by
 by_cases hk:k < a.length
 ·have:=ha k
  rwa [show (a++b).getD k 0=a.getD k 0 by simp[yT hk]]
 ·have:=hb (k - a.length)
  rwa [show (a++b).getD k 0=b.getD (k - a.length) 0 by simp[yU (by lia:a.length<=k)]]
def QC(h1:-1000000<=x)(h2:x<=1000000):Sm [x]:=λk=>by
 cases k with
 | zero=>exact⟨h1,h2⟩
 | succ k=>simp
def Sw(n:Nat):Sm (zs n):=λk=>by rw[Ng];lia
def uq(ns:Γ Int)(at':Int)(W:Γ Wy)(k:Nat):Int:=dr ns (at'+(k:Nat)) ((aC W k).2.2+1)
def CG(hl:ns.length<=63)(h:Wd G T W)(hk:k < W.length):0<=uq ns at' W k/\uq ns at' W k<=(aC W k).2.2:=by
 have:=(h.wr _ (tT hk)).2.2;have h1:=NP (ns:=ns) (at'+(k:Nat)) ((aC W k).2.2+1) hl (by lia);have h2:=NS (ns:=ns) (at'+(k:Nat)) ((aC W k).2.2+1) hl (by lia);unfold uq;lia
def Vb:aj->Δ Out:=(ax (aF 6 [0,1,3,4,5] (f2 aJ (ab 3) (aK (aa (ah 3 ar (aa (ab 0) (aa (f2 aJ (ab 1) (ab 4)) (aa (f2 aJ (f2 ay (ab 5) (fC (.int 2))) (fC (.int 1))) ag)))) ag)))) (ax (aF 7 [2,6] (ah 2 dJ (aa (ab 2) (aa (f2 aJ (ab 6) (f2 eA (aK (aa (fC (.int 0)) ag)) (f2 Dl.fW (bw bO (aa (f2 ay (ab 2) (fC (.int 2))) ag)) (bw bO (aa (ab 6) ag))))) ag)))) (aF 3 [3,6,7] (M8 (fB (ab 7)) (ab 6) (f2 aJ (ab 3) (aK (aa (fC (.int 0)) ag)))))))
def xt(h:a.length+b.length<=1000):Dl.aJ (af a) (af b)=some (af (a++b)):=by
 unfold af;rw[w8 (by simp;lia),jB]
def D7(h:tc ρ=some true)(ha:fa ρ=some d):M8 tc fa fb ρ=some d:=by
 simp?[M8,h,zA,ha]
def JY(h:tc ρ=some false)(ha:fb ρ=some d):M8 tc fa fb ρ=some d:=by
 simp?[M8,h,zA,ha]
def PU(hl:ns.length<=63)(h:Wd G T W)(hk:k<=W.length):Sm (m6 (uq ns at' W) G T W k):=λj=>by
 by_cases hj:j < k
 ·have:=CI (d:=uq ns at' W) (G:=G) (T:=T) (W:=W) (λk hk=>CG hl h hk) h.lim k hk j hj;have:=(h.wr _ (tT (show j < W.length by lia))).2.2;lia
 ·rw[zG,jM (by rw[nz];lia)];simp
def KL(hl:ns.length<=63)(h:Wd G T W)(hk:k < W.length)(x y:Slot):∃x' y',Vb [.val (cM ns),.val (.int at'),.val (az G T W),.val (af (m6 (uq ns at' W) G T W k)),.val (nD k),.val (av (aC W k)),x,y]=some (.nx [.val (cM ns),.val (.int at'),.val (az G T W),.val (af (m6 (uq ns at' W) G T W (k+1))),.val (nD k),.val (av (aC W k)),x',y']):=by
 have hw:=h.wl;have hr:=(h.wr _ (tT hk)).2.2;have hsm:=PU (at':=at') hl h (jT hk);have Yg:=nz (d:=uq ns at' W) (G:=G) (T:=T) (W:=W) k;have Xx:=CG (at':=at') hl h hk;have e2:m6 (uq ns at' W) G T W (k+1)=if uj G T W ((m6 (uq ns at' W) G T W k++[uq ns at' W k])++zs (W.length - (m6 (uq ns at' W) G T W k++[uq ns at' W k]).length))=true then m6 (uq ns at' W) G T W k++[uq ns at' W k] else m6 (uq ns at' W) G T W k++[0]:=rfl
 rw[e2];clear e2;generalize hf:m6 (uq ns at' W) G T W k=f at hsm Yg ⊢;generalize hd:uq ns at' W k=d at Xx ⊢;have ed:∀ρ:Dl.Env,ab 0 ρ=some (cM ns)->ab 1 ρ=some (.int at')->ab 4 ρ=some (nD k)->ab 5 ρ=some (av (aC W k))->(ah 3 ar (aa (ab 0) (aa (f2 aJ (ab 1) (ab 4)) (aa (f2 aJ (f2 ay (ab 5) (fC (.int 2))) (fC (.int 1))) ag)))) ρ=some (.int d):=λρ a b c e=>by
  rw[<- hd];exact call_of (vj (at'+((k:Nat):Int)) ((aC W k).2.2+1) hl (by lia)) (cons_of a (cons_of (aB (iQ at' k) b c) (cons_of (aB (iQ (aC W k).2.2 1) (aB (EL _) e rfl) rfl) rfl))) rfl
 have em:∀ρ:Dl.Env,ab 0 ρ=some (cM ns)->ab 1 ρ=some (.int at')->ab 3 ρ=some (af f)->ab 4 ρ=some (nD k)->ab 5 ρ=some (av (aC W k))->(f2 aJ (ab 3) (aK (aa (ah 3 ar (aa (ab 0) (aa (f2 aJ (ab 1) (ab 4)) (aa (f2 aJ (f2 ay (ab 5) (fC (.int 2))) (fC (.int 1))) ag)))) ag))) ρ=some (af (f++[d])):=λρ a b z c e =>
  aB (xt (a:=f) (b:=[d]) (by simp;lia)) z (MM (ed ρ a b c e))
 have t6:Dl.aF 6 [0,1,3,4,5] (f2 aJ (ab 3) (aK (aa (ah 3 ar (aa (ab 0) (aa (f2 aJ (ab 1) (ab 4)) (aa (f2 aJ (f2 ay (ab 5) (fC (.int 2))) (fC (.int 1))) ag)))) ag))) [.val (cM ns),.val (.int at'),.val (az G T W),.val (af f),.val (nD k),.val (av (aC W k)),x,y]=some (.nx [.val (cM ns),.val (.int at'),.val (az G T W),.val (af f),.val (nD k),.val (av (aC W k)),.val (af (f++[d])),y]) :=
  aZ (em _ rfl rfl rfl rfl rfl) (em _ rfl rfl rfl rfl rfl) rfl
 have hlen:(f++[d]).length=k+1:=by simp[Yg]
 have Yr:((W.length:Nat):Int) - (((f++[d]).length:Nat):Int)=((W.length - (f++[d]).length:Nat):Int):=by lia
 have Y9:((f++[d])++zs (W.length - (f++[d]).length)).length=W.length:=by simp[zs,Yg];lia
 have YG:Sm ((f++[d])++zs (W.length - (f++[d]).length)):=(hsm.app (QC (by lia) (by lia))).app (Sw _);have ef:∀ρ:Dl.Env,ab 2 ρ=some (az G T W)->ab 6 ρ=some (af (f++[d]))->(ah 2 dJ (aa (ab 2) (aa (f2 aJ (ab 6) (f2 eA (aK (aa (fC (.int 0)) ag)) (f2 Dl.fW (bw bO (aa (f2 ay (ab 2) (fC (.int 2))) ag)) (bw bO (aa (ab 6) ag))))) ag))) ρ=some (.bool (uj G T W ((f++[d])++zs (W.length - (f++[d]).length)))):=λρ a b=>by
  refine call_of (By h Y9 YG) (cons_of a (cons_of (aB (xt ?_) b (aB (SV (n:=W.length - (f++[d]).length) (by lia)) (MM rfl) ?_)) rfl)) rfl
  ·rw[<- zN,Y9];lia
  ·rw[show nD (W.length - (f++[d]).length)=.int (((W.length:Nat):Int) - (((f++[d]).length:Nat):Int)) by rw[Yr]];exact aB (sub_int _ _) (wZ (l:=W) (k:=av) (aB (qp G T W) a rfl)) (wZ (l:=f++[d]) (k:=PyData.int) b)
 have t7:Dl.aF 7 [2,6] (ah 2 dJ (aa (ab 2) (aa (f2 aJ (ab 6) (f2 eA (aK (aa (fC (.int 0)) ag)) (f2 Dl.fW (bw bO (aa (f2 ay (ab 2) (fC (.int 2))) ag)) (bw bO (aa (ab 6) ag))))) ag))) [.val (cM ns),.val (.int at'),.val (az G T W),.val (af f),.val (nD k),.val (av (aC W k)),.val (af (f++[d])),y]=some (.nx [.val (cM ns),.val (.int at'),.val (az G T W),.val (af f),.val (nD k),.val (av (aC W k)),.val (af (f++[d])),.val (.bool (uj G T W ((f++[d])++zs (W.length - (f++[d]).length))))]) :=
  aZ (ef _ rfl rfl) (ef _ rfl rfl) rfl
 unfold Vb;rw[ai t6,ai t7];have h0:∀ρ:Dl.Env,ab 3 ρ=some (af f)->(f2 aJ (ab 3) (aK (aa (fC (.int 0)) ag))) ρ=some (af (f++[0])):=λρ z=>aB (xt (a:=f) (b:=[0]) (by simp;lia)) z (MM rfl);generalize uj G T W ((f++[d])++zs (W.length - (f++[d]).length))=fb;cases fb with
 | true =>
  rw[yM rfl];exact⟨_,_,aZ (D7 (cJ rfl) rfl) (D7 (cJ rfl) rfl) rfl⟩
 | false =>
  rw[yO (by simp)];exact⟨_,_,aZ (JY (cJ rfl) (h0 _ rfl)) (JY (cJ rfl) (h0 _ rfl)) rfl⟩
def FW(W:Γ Wy):bF 0 (W.map av)=(List.range' 0 W.length).map λi=>.tuple [nD i,av (aC W i)]:=by
 rw[<- yH,enum_zip];apply jI
 ·simp
 ·intro i h1 h2;have:i < W.length:=by simpa using h2
  simp[ig this]
def Bt(hl:ns.length<=63)(h:Wd G T W):gY [cM ns,.int at',az G T W]=some (af (m6 (uq ns at' W) G T W W.length)):=by
 have hw:=h.wl;let⟨ρ',e,x4,x5,x6,x7,rfl⟩:=C7 (tgt:=gy 4 5) (gb:=Vb) (λi=>.tuple [nD i,av (aC W i)]) (λk ρ=>∃x4 x5 x6 x7,ρ=[.val (cM ns),.val (.int at'),.val (az G T W),.val (af (m6 (uq ns at' W) G T W k)),x4,x5,x6,x7]) W.length 0 [.val (cM ns),.val (.int at'),.val (az G T W),.val (af []),.Wh,.Wh,.Wh,.Wh]
  (λj ρ _ hj XU=>by
   let⟨x4,x5,x6,x7,rfl⟩:=XU;let⟨x',y',e⟩:=KL (at':=at') hl h (show j < W.length by lia) x6 x7;exact⟨_,_,rfl,e,_,_,_,_,rfl⟩) ⟨_,_,_,_,rfl⟩
 sleep 50;show ke [.val (cM ns),.val (.int at'),.val (az G T W),.Wh,.Wh,.Wh,.Wh,.Wh]=_;unfold ke;have t3:Dl.aF 3 [] (aK ag) [.val (cM ns),.val (.int at'),.val (az G T W),.Wh,.Wh,.Wh,.Wh,.Wh]=some (.nx [.val (cM ns),.val (.int at'),.val (az G T W),.val (af []),.Wh,.Wh,.Wh,.Wh]) :=
  aZ (tup_is (ds:=[]) rfl (by simp)) (tup_is (ds:=[]) rfl (by simp)) rfl
 rw[ai t3];have he:bq abe (bg [.val (cM ns),.val (.int at'),.val (az G T W),.val (af []),.Wh,.Wh,.Wh,.Wh])=some ((List.range' 0 W.length).map λi=>.tuple [nD i,av (aC W i)]):=by
  rw[<- FW];rfl
 rw[jE] at e;exact (ai (cP e he rfl)).trans (aO rfl)
def Ko(hl:ns.length<=63)(h:Wd G T W):Pn G T W (m6 (uq ns at' W) G T W W.length):=Pr h λk hk=>CG hl h hk
def yv(cont:S->θ)(st:S->S)(μ:S->Nat)(I:S->Prop)(hb:∀s,I s->cont s=true->I (st s)/\μ (st s) < μ s):∀ (n:Nat) (s:S),μ s < n->I s->cont (lp cont st n s)=false/\I (lp cont st n s)
 | 0,s,h,_=>absurd h (by lia)
 | n+1,s,h,i=>by
  rw[lp];cases hc:cont s with
  | false=>exact⟨by simpa [hc] using hc,by simpa using i⟩
  | true =>
   let⟨i2,hm⟩:=hb s i hc;have:=yv cont st μ I hb n (st s) (by lia) i2;sleep 14
def HC(hk:k < W.length):(dS W).getD k 0=(aC W k).2.2:=by
 unfold dS;rw[zG,zO,n5 hk];rfl
def Dg(h:Wd G T W):ur G T W (fin G T W).2=none/\DQ W (fin G T W)/\∀k,k < W.length->(fin G T W).2.getD k 0<=(aC W k).2.2:=by
 have hb:=h.XI;let⟨h1,i,h2⟩:=yv (Qf G T W) (spS G T W) (λs=>XI s.2) (λs=>DQ W s/\∀k,k < W.length->s.2.getD k 0<=(aC W k).2.2)
  (λs z hc=>by
   let⟨i,l⟩:=z
   let⟨p,e⟩:=tN hc;let⟨a,b,c⟩:=CU h i.off e;let⟨i2,hm⟩:=i.step h e;refine⟨⟨i2,λk hk=>?_⟩,hm⟩;rw[y0 e];show (s.2.set p.1 p.2).getD k 0<=_;by_cases z:k=p.1
   ·subst z;have:=l p.1 a;have hl:p.1 < s.2.length:=by rw[i.len];exact a
    rw[show (s.2.set p.1 p.2).getD p.1 0=p.2 by simp[hl]];lia
   ·rw[show (s.2.set p.1 p.2).getD k 0=s.2.getD k 0 by simp[kU (jN z)]];exact l k hk) Rf.turns ([],dS W) (jA hb (by decide)) ⟨DQ.start h,λk hk=>by rw[HC hk];lia⟩
 refine⟨?_,i,h2⟩;have:Qf G T W (fin G T W)=false:=h1;unfold Qf at this;exact Option.isNone_iff_eq_none.mp (by simpa using this)
def Gc(G T:Γ Pl)(W:Γ Wy):Γ Int:=cF false G T W (fin G T W).2
def sS(h:Wd G T W):Pn G T W (Gc G T W):=by
 let⟨h1,i,h2⟩:=Dg h;exact LL h i.off h2 h1
def BA(h:Wd G T W):dh [az G T W]=some (af (Gc G T W)):=ue h
def pV:∀ {l:Γ D},(∀d∈l,PyData.eqv d d=true)->PyData.eqvAll l l=true
 | [],_=>by simp[PyData.eqvAll]
 | d::l,h=>by
  rw[PyData.eqvAll,h d zE,pV λx hx=>h x (zC _ hx)];rfl
def QE(a:Γ Int):PyData.eqv (af a) (af a)=true:=by rw[og];simp
def GQ(a:Int):PyData.eqv (.int a) (.int a)=true:=by
 have:=QE [a];rw[af,PyData.eqv,zI,yV,PyData.eqvAll] at this;simp?[zF] at this;exact this.1
def E5(a:θ):dZ (.bool a) (.bool a)=some (.bool false):=by cases a<;>simp[dZ,Oe,SeqAt.shaped,PyData.canLay0,PyData.depth,PyData.eqv]
def CZ(a:Int):dZ (.int a) (.int a)=some (.bool false):=by
 have hs:SeqAt.shaped (.int a)=true:=(gW (b:=1) (k:=0) a).shaped (by decide);simp?[dZ,Oe,hs,jP,xI,GQ,zB,xZ]
section
variable {P off:Γ Int}
def JU:∀ (xs:Γ Nat),(∀i∈xs,0<=off.getD i 0)->0<=(xs.map λi=>off.getD i 0).sum
 | [],_=>by simp
 | i::xs,h=>by
  have:=JU xs λj hj=>h j (zC _ hj);have:=h i zE;rw[zI,kE];lia
def DC:∀ (xs:Γ Nat),(∀i∈xs,0<=P.getD i 0)->(0 < (xs.map λi=>P.getD i 0).sum↔(xs.any λi=>decide (0 < P.getD i 0))=true)
 | [],_=>by simp
 | i::xs,h=>by
  have ih:=DC xs λj hj=>h j (zC _ hj);have h0:=JU (off:=P) xs λj hj=>h j (zC _ hj);have hi:=h i zE;rw[zI,kE,vE,jC,zJ,<- ih];lia
def Lv(h:Wd G T W){b:θ}(hk:k < W.length) :
  let i:=(ba b (aC W k)).toNat;let L:=(bT b G T i).2
  fE b W i L=(L.take (uA L (bZ b (aC W k)))).map (qa b W i)++k::(L.drop (uA L (bZ b (aC W k))+1)).map (qa b W i):=by
 intro i L;let⟨h1,h2,h3⟩:=h.WG b hk;have e:=i4 h2;have hm:bZ b (aC W k)∈L:=by
  rw[(h.lik e).mem_iff,<- lX];exact List.mem_map.mpr ⟨k,cG.mpr ⟨hk,h3.symm⟩,rfl⟩
 have WK:uA L (bZ b (aC W k)) < L.length:=by
  unfold uA;exact kM ⟨_,hm,by simp⟩
 have hg:L[uA L (bZ b (aC W k))]=bZ b (aC W k):=by
  have:=List.findIdx_getElem (w:=WK);exact yR this
 have hx:qa b W i (bZ b (aC W k))=k:=v9 h.wp (cG.mpr ⟨hk,h3.symm⟩);unfold fE
 conv=>lhs;rw[<- List.take_append_drop (uA L (bZ b (aC W k))) L,vA WK,hg,jB,zI,hx]
end
def sm(l:Γ Nat)(f:Nat->Int):Int:=(l.map f).sum
def bc(q:Nat)(l:Γ Nat)(f:Nat->Int):sm (q::l) f=f q+sm l f:=by simp[sm]
def JJ(l r:Γ Nat)(f:Nat->Int):sm (l++r) f=sm l f+sm r f:=by simp[sm]
def xo(q:Nat)(f:Nat->Int):sm [q] f=f q:=by simp[sm]
def iB:∀ {l:Γ Nat}{f g:Nat->Int},(∀q∈l,f q=g q)->sm l f=sm l g
 | [],_,_,_=>rfl
 | q::l,f,g,h=>by rw[bc,bc,h q zE,iB λx hx=>h x (zC _ hx)]
def Ao:∀ {l:Γ Nat}{f g:Nat->Int},(∀q∈l,f q<=g q)->sm l f<=sm l g
 | [],_,_,_=>qA _
 | q::l,f,g,h=>by
  have h1:=h q zE;have h2:=Ao (l:=l) λx hx=>h x (zC _ hx);rw[bc,bc];lia
def GH(h:∀q∈l,0<=f q):0<=sm l f:=by
 have:sm l (λ_=>0)=0:=by induction l with
  | nil=>rfl
  | cons q l ih=>rw[bc,ih λx hx=>h x (zC _ hx)];rfl
 rw[<- this];exact Ao h
def MT(p:l.Perm r)(f:Nat->Int):sm l f=sm r f:=by
 induction p with
 | nil=>rfl
 | cons x _ ih=>rw[bc,bc,ih]
 | swap x y l=>rw[bc,bc,bc,bc];lia
 | trans _ _ h1 h2=>rw[h1,h2]
def ch(m:Nat->Int):Int->Γ Nat->Nat->Int
 | _,[],_=>0
 | a,q::r,k=>if k=q then min (m q) a else ch m (a - min (m q) a) r k
def cE(m:Nat->Int)(a:Int)(q:Nat)(r:Γ Nat):ch m a (q::r) q=min (m q) a:=by simp[ch]
def cI(h:k≠q):ch m a (q::r) k=ch m (a - min (m q) a) r k:=by simp[ch,h]
def NR:∀ {a:Int}{l:Γ Nat},(∀q∈l,0<=m q)->0<=a->∀k,0<=ch m a l k/\ch m a l k<=a/\(k∈l->ch m a l k<=m k)
 | a,[],_,ha,k=>⟨qA _,ha,λh=>by cases h⟩
 | a,q::r,hm,ha,k=>by
  have h0:=hm q zE;by_cases e:k=q
  ·subst e;rw[cE];exact⟨by lia,by lia,λ_=>by lia⟩
  ·rw[cI e];let⟨h1,h2,h3⟩:=NR (m:=m) (a:=a - min (m q) a) (l:=r) (λx hx=>hm x (zC _ hx)) (by lia) k;refine⟨h1,by lia,λhk=>?_⟩;sleep 57
   ·exact absurd z e
   ·exact h3 z
def EF:∀ {a a':Int}{l:Γ Nat}{k:Nat},a<=a'->ch m a l k<=ch m a' l k
 | _,_,[],_,_=>qA _
 | a,a',q::r,k,h=>by
  by_cases e:k=q
  ·subst e;rw[cE,cE];lia
  ·rw[cI e,cI e];exact EF (by lia)
def sG:∀ {a:Int}{l:Γ Nat},(∀q∈l,m q=m' q)->∀k,ch m a l k=ch m' a l k
 | _,[],_,_=>rfl
 | a,q::r,h,k=>by
  have h0:=h q zE;by_cases e:k=q
  ·subst e;rw[cE,cE,h0]
  ·rw[cI e,cI e,h0];exact sG (λx hx=>h x (zC _ hx)) k
def up:Γ Nat->Nat->Γ Nat
 | [],_=>[]
 | q::r,k=>if k=q then [q] else q::up r k
def nG(q:Nat)(r:Γ Nat):up (q::r) q=[q]:=by simp[up]
def nK(h:k≠q):up (q::r) k=q::up r k:=by simp[up,h]
def kh:∀ {l:Γ Nat}{k q:Nat},q∈up l k->q∈l
 | [],_,_,h=>by cases h
 | x::l,k,q,h=>by
  by_cases e:k=x
  ·subst e;rw[nG,yK] at h;exact h ▸ zE
  ·rw[nK e] at h;rcases List.mem_cons.mp h with z|z
   ·exact z ▸ zE
   ·exact zC _ (kh z)
def EN:∀ {l:Γ Nat}{k:Nat},k∈l->k∈up l k
 | x::l,k,h=>by
  by_cases e:k=x
  ·subst e;rw[nG];exact zE
  ·rw[nK e];rcases List.mem_cons.mp h with z|z
   ·exact absurd z e
   ·exact zC _ (EN z)
def xr:∀ {xs ys:Γ Nat}{k:Nat},k∉xs->up (xs++k::ys) k=xs++[k]
 | [],ys,k,_=>nG _ _
 | x::xs,ys,k,h=>by
  rw[zQ,not_or] at h;rw[xG,nK h.1,xr h.2];rfl
def D9(hn:l.Nodup)(hk:k∈l):∃ys,l=up l k++ys/\(∀q∈ys,q∉up l k):=by
 let⟨xs,ys,rfl⟩:=List.append_of_mem hk;have hx:k∉xs:=λz=>by
  rw[wV] at hn;exact hn.2.2 k z k zE rfl
 refine⟨ys,by rw[xr hx];simp,λq hq X8=>?_⟩;rw[xr hx] at X8;rw[show xs++k::ys=(xs++[k])++ys by simp,wV] at hn;exact hn.2.2 q X8 q hq rfl
def CS:∀ {a:Int}{l:Γ Nat}{k:Nat},l.Nodup->k∈l->ch m a l k < m k->sm (up l k) (ch m a l)=a
 | a,q::r,k,hn,hk,h=>by
  rw[kW] at hn;by_cases e:k=q
  ·subst e;rw[cE] at h;rw[nG,xo,cE];lia
  ·rw[cI e] at h;have WY:k∈r:=by
    sleep 57
    ·exact absurd z e
    ·exact z
   have ih:=CS hn.2 WY h;rw[nK e,bc,cE,iB (g:=ch m (a - min (m q) a) r) λx hx=>cI λz=>hn.1 (z ▸ kh hx),ih];lia
def Nx:∀ {a:Int}{l:Γ Nat}{k:Nat},l.Nodup->(∀x∈l,0<=m x)->0<=a->k∈l->sm (up l k) (ch m a l)=min a (sm (up l k) m)
 | a,q::r,k,hn,hm,ha,hk=>by
  rw[kW] at hn;have h0:=hm q zE;have hr:∀y∈r,0<=m y:=λy hy=>hm y (zC _ hy);by_cases e:k=q
  ·subst e;rw[nG,xo,xo,cE];lia
  ·have WY:k∈r:=by
    sleep 57
    ·exact absurd z e
    ·exact z
   have ih:=Nx (m:=m) (a:=a - min (m q) a) hn.2 hr (by lia) WY;have hs:=GH (l:=up r k) λy hy=>hr y (kh hy);rw[nK e,bc,bc,cE,iB (g:=ch m (a - min (m q) a) r) λx hx=>cI λz=>hn.1 (z ▸ kh hx),ih];lia
def I0:∀ {a:Int}{l:Γ Nat},l.Nodup->(∀x∈l,x≠p->m' x=m x)->m' p<=ch m a l p->(∀k∈l,k≠p->ch m a l k<=ch m' a l k)/\(p∈l->ch m' a l p=m' p)
 | _,[],_,_,_=>⟨λ_ h=>absurd h yF,λh=>absurd h yF⟩
 | a,q::r,hn,h,hp=>by
  rw[kW] at hn;by_cases e:q=p
  ·subst e;rw[cE] at hp;have hs:∀x∈r,m' x=m x:=λx hx=>h x (zC _ hx) λz=>hn.1 (z ▸ hx);refine⟨λk hk WN=>?_,λ_=>?_⟩
   ·rw[cI WN,cI WN,sG (m:=m') (m':=m) hs];exact EF (by lia)
   ·rw[cE];lia
  ·have hq:=h q zE e;rw[cI (jN e)] at hp;let⟨i1,i2⟩:=I0 (m:=m) (m':=m') (p:=p) (a:=a - min (m q) a) hn.2 (λx hx=>h x (zC _ hx)) hp;refine⟨λk hk WN=>?_,λhk=>?_⟩
   ·by_cases e2:k=q
    ·subst e2;rw[cE,cE,hq];exact qA _
    ·rw[cI e2,cI e2,hq];sleep 57
     ·exact absurd z e2
     ·exact i1 k z WN
   ·rw[cI (jN e),hq];sleep 57
    ·exact absurd z.symm e
    ·exact i2 z
def bI(b:θ)(W:Γ Wy)(k:Nat):Nat:=(ba b (aC W k)).toNat
def lst(b:θ)(G T:Γ Pl)(W:Γ Wy)(i:Nat):Γ Nat:=fE b W i (bT b G T i).2
def amt(b:θ)(G T:Γ Pl)(i:Nat):Int:=(bT b G T i).1
def mm(W:Γ Wy)(off:Γ Int)(q:Nat):Int:=min (off.getD q 0) (aC W q).2.2
def vl(P:Γ Int)(q:Nat):Int:=P.getD q 0
section
variable {G T:Γ Pl}{W:Γ Wy}{P X c off:Γ Int}{b:θ}{i k q:Nat}
def ir(h:Wd G T W)(b:θ)(hk:k < W.length):bI b W k < (aX b G T).length:=(h.WG b hk).2.1
def nV(h:Wd G T W)(hi:i < (aX b G T).length):(lst b G T W i).Perm (own b W i):=fj h (i4 hi)
def dG(h:Wd G T W)(hi:i < (aX b G T).length):(lst b G T W i).Nodup:=(nV h hi).nodup_iff.mpr (List.nodup_range.filter _)
def eU(h:Wd G T W)(hi:i < (aX b G T).length):q∈lst b G T W i↔q < W.length/\bI b W q=i:=by
 rw[(nV h hi).mem_iff,cG];constructor
 ·rintro⟨h1,h2⟩;exact⟨h1,by unfold bI;rw[h2];simp⟩
 ·rintro⟨h1,h2⟩;have:=(h.WG b h1).2.2;unfold bI at h2;rw[h2] at this;exact⟨h1,this.symm⟩
def eW(h:Wd G T W)(b:θ)(hk:k < W.length):k∈lst b G T W (bI b W k):=(eU h (ir h b hk)).mpr ⟨hk,rfl⟩
def Nm(h:Wd G T W)(ho:Off off)(q:Nat):0<=mm W off q:=by
 have h1:=ho q;have h2:=h.lim q;unfold mm;lia
def Ib:∀ (is:Γ Nat) (a:Int) (l:Γ Int),is.Nodup->(∀i∈is,i < l.length)->∀k,(is.foldl (m5 W off) (a,l)).2.getD k 0=if k∈is then ch (mm W off) a is k else l.getD k 0
 | [],a,l,_,_,k=>by simp
 | q::is,a,l,hn,hl,k=>by
  rw[kW] at hn;have ih:=Ib is (a - cV W off a q) (l.set q (cV W off a q)) hn.2 (λi hi=>by rw[yC];exact hl i (zC _ hi)) k;rw[yJ];show (is.foldl (m5 W off) (a - cV W off a q,l.set q (cV W off a q))).2.getD k 0=_;rw[ih];have hq:=hl q zE;by_cases e:k=q
  ·subst e;rw[yO hn.1,yM zE,cE,cg,yM ⟨rfl,hq⟩];rfl
  ·rw[cI e];by_cases hk:k∈is
   ·rw[yM hk,yM (zC _ hk)];rfl
   ·rw[yO hk,yO (by rw[zQ,not_or];exact⟨e,hk⟩),cg,yO (λz=>e z.1.symm)]
def oO(h:Wd G T W)(b:θ)(off:Γ Int)(hk:k < W.length):(cF b G T W off).getD k 0=ch (mm W off) (amt b G T (bI b W k)) (lst b G T W (bI b W k)) k:=by
 have hi:=ir h b hk;rw[GP h b hk];show (uc W off (amt b G T (bI b W k)) (lst b G T W (bI b W k))).getD k 0=_;unfold uc;rw[Ib _ _ _ (dG h hi) (λj hj=>by rw[xN];exact ((eU h hi).mp hj).1),yM (eW h b hk)]
def Hm(h:Wd G T W)(b:θ)(i:Nat):0<=amt b G T i:=h.amt b i
def mM(h:Wd G T W)(hi:i < (aX b G T).length):i3 b W P i=sm (lst b G T W i) (vl P):=by
 unfold i3;rw[MT (nV h hi)];rfl
def Fl(b:θ)(G T:Γ Pl)(W:Γ Wy)(P:Γ Int)(k:Nat):Prop:=sm (up (lst b G T W (bI b W k)) k) (vl P)=amt b G T (bI b W k)
def Rs(G T:Γ Pl)(W:Γ Wy)(P:Γ Int):Prop:=∀k,k < W.length->P.getD k 0=(aC W k).2.2\/Fl false G T W P k\/Fl true G T W P k
def Pn.nn(p:Pn G T W P)(q:Nat):0<=vl P q:=by
 by_cases hq:q < W.length
 ·exact (p.bd q hq).1
 ·unfold vl;rw[tL (by rw[p.len];lia)];lia
def Pn.ac8(h:Wd G T W)(p:Pn G T W P)(hi:i < (aX b G T).length):sm (lst b G T W i) (vl P)<=amt b G T i:=by
 rw[<- mM h hi];exact p.am b i hi
def zz(h:Wd G T W)(p:Pn G T W P)(b:θ)(hk:k < W.length):tm b G T W P k=false↔Fl b G T W P k:=by
 let⟨z1,z2,z3⟩:=h.WG b hk;have hc:lst b G T W (bI b W k)=((bT b G T (bI b W k)).2.take (uA (bT b G T (bI b W k)).2 (bZ b (aC W k)))).map (qa b W (bI b W k))++k::((bT b G T (bI b W k)).2.drop (uA (bT b G T (bI b W k)).2 (bZ b (aC W k))+1)).map (qa b W (bI b W k)):=Lv h hk;have hn:=dG (b:=b) h z2;change (lst b G T W (bI b W k)).Nodup at hn;have hle:=p.ac8 h z2;change sm (lst b G T W (bI b W k)) (vl P)<=amt b G T (bI b W k) at hle;have hth:=mM (P:=P) h z2;have hy:tm b G T W P k=(decide (i3 b W P ((bI b W k:Nat):Int) < amt b G T (bI b W k))||(((bT b G T (bI b W k)).2.drop (uA (bT b G T (bI b W k)).2 (bZ b (aC W k))+1)).map (qa b W (bI b W k))).any λq=>decide (0 < vl P q)):=by
  unfold tm;rw[wQ];unfold bI amt;rw[z3];rfl
 change i3 b W P ((bI b W k:Nat):Int)=sm (lst b G T W (bI b W k)) (vl P) at hth;unfold Fl;rw[hy,hth];revert hc;generalize ((bT b G T (bI b W k)).2.take (uA (bT b G T (bI b W k)).2 (bZ b (aC W k)))).map (qa b W (bI b W k))=xs;generalize ((bT b G T (bI b W k)).2.drop (uA (bT b G T (bI b W k)).2 (bZ b (aC W k))+1)).map (qa b W (bI b W k))=ys;intro hc;have hx:k∉xs:=λz=>by
  rw[hc,wV] at hn;exact hn.2.2 k z k zE rfl
 rw[hc,xr hx];rw[hc] at hle;have e:sm (xs++k::ys) (vl P)=sm (xs++[k]) (vl P)+sm ys (vl P):=by
  rw[<- JJ];simp
 have hnn:=GH (l:=ys) λq _=>p.nn q;have XR:=DC (P:=P) ys λq _=>p.nn q;change (0 < sm ys (vl P)↔(ys.any λq=>decide (0 < vl P q))=true) at XR;rw[e] at hle ⊢;rw[Bool.or_eq_false_iff,xC];constructor
 ·rintro⟨h1,h2⟩;have:¬ 0 < sm ys (vl P):=λz=>by rw[XR.mp z] at h2;cases h2
  lia
 ·intro h1;refine⟨by lia,?_⟩;cases hh:(ys.any λq=>decide (0 < vl P q)) with
  | false=>rfl
  | true=>have:=XR.mpr hh;lia
def nN(h:Wd G T W)(p:Pn G T W P):iC G T W P=[]↔Rs G T W P:=by
 unfold iC;rw[List.filter_eq_nil_iff];constructor
 ·intro hh k hk;have:=hh k (by simpa using hk);rw[zJ] at this;unfold fg at this;by_cases e1:P.getD k 0=(aC W k).2.2
  ·exact .inl e1
  ·rw[yO e1] at this;by_cases e2:tm false G T W P k=false
   ·exact .inr (.inl ((zz h p false hk).mp e2))
   ·rw[yO e2] at this;by_cases e3:tm true G T W P k=false
    ·exact .inr (.inr ((zz h p true hk).mp e3))
    ·rw[yO e3] at this;exact absurd rfl this
 ·intro hh k hk;rw[zJ];unfold fg;rcases hh k (by simpa using hk) with e|e|e
  ·rw[yM e];lia
  ·rw[yM ((zz h p false (by simpa using hk)).mpr e)];split<;>lia
  ·rw[yM ((zz h p true (by simpa using hk)).mpr e)];split
   ·lia
   ·split<;>lia
def Eo(e:ur G T W c=some (k,q')):k < W.length/\q'=(lh G T W c).getD k 0/\(lh G T W c).getD k 0 < (cF false G T W c).getD k 0:=by
 unfold ur at e;let⟨j,hj,e2⟩:=Dl.ae e;cases e2;have hm:=jY hj;have hq:=vT hj;rw[qR,zJ] at hq;exact⟨List.mem_range.mp hm,rfl,hq⟩
def M1(e:ur G T W c=none)(hk:k < W.length):(cF false G T W c).getD k 0<=(lh G T W c).getD k 0:=by
 unfold ur at e;rw[Option.map_eq_none_iff] at e;have:=List.find?_eq_none.mp e k (by simpa using hk);rw[qR,zJ] at this;lia
end
section
variable {P X c off:Γ Int}
def IT(h:Wd G T W)(hk:k < W.length)(hq:q∈lst b G T W (bI b W k)):q < W.length/\bI b W q=bI b W k:=(eU h (ir h b hk)).mp hq
def BY(h:Wd G T W)(hi:i < (aX b G T).length)(hq:q∈lst b G T W i):vl (cF b G T W off) q=ch (mm W off) (amt b G T i) (lst b G T W i) q:=by
 let⟨h1,h2⟩:=(eU h hi).mp hq;have:=oO h b off h1;rw[h2] at this;exact this
def P2(h:Wd G T W)(ho:Off off)(b:θ)(hk:k < W.length):sm (up (lst b G T W (bI b W k)) k) (vl (cF b G T W off))=min (amt b G T (bI b W k)) (sm (up (lst b G T W (bI b W k)) k) (mm W off)):=by
 have hi:=ir h b hk;rw[iB λq hq=>BY h hi (kh hq)];exact Nx (dG h hi) (λq _=>Nm h ho q) (Hm h b _) (eW h b hk)
def Am(h:Wd G T W)(b:θ)(hk:k < W.length)(e:(cF b G T W off).getD k 0 < mm W off k):Fl b G T W (cF b G T W off) k:=by
 have hi:=ir h b hk;rw[oO h b off hk] at e;unfold Fl;rw[iB λq hq=>BY h hi (kh hq)];exact CS (dG h hi) (eW h b hk) e
def BC(h:Wd G T W)(ho:Off off)(b:θ)(hk:k < W.length):0<=(cF b G T W off).getD k 0/\(cF b G T W off).getD k 0<=mm W off k:=by
 have hi:=ir h b hk;rw[oO h b off hk];have:=NR (m:=mm W off) (a:=amt b G T (bI b W k)) (l:=lst b G T W (bI b W k)) (λq _=>Nm h ho q) (Hm h b _) k;exact⟨this.1,this.2.2 (eW h b hk)⟩
end
section
variable {P X c off:Γ Int}
def uH(h:Wd G T W)(ho:Off c)(hk:k < W.length):0<=(lh G T W c).getD k 0/\(lh G T W c).getD k 0<=(cF false G T W c).getD k 0/\(cF false G T W c).getD k 0<=c.getD k 0/\(cF false G T W c).getD k 0<=(aC W k).2.2/\mm W (cF false G T W c) k=(cF false G T W c).getD k 0:=by
 have h1:=BC h ho false hk;have h2:=BC h (i8 h ho false) true hk;change 0<=(lh G T W c).getD k 0/\(lh G T W c).getD k 0<=_ at h2;unfold mm at h1 h2 ⊢;lia
def Jn(G T:Γ Pl)(W:Γ Wy)(c:Γ Int):Prop:=∀k,k < W.length->c.getD k 0 < (aC W k).2.2->Fl true G T W (lh G T W c) k
def OZ(h:Wd G T W)(ho:Off c)(hl:c.length=W.length)(e:ur G T W c=some (k,v))(hq:q < W.length):(lh G T W c).getD q 0<=(cF false G T W (c.set k v)).getD q 0:=by
 let⟨hk,rfl,WK⟩:=Eo e;let⟨b0,b1,b2,b3,b4⟩:=uH h ho hk;let⟨d0,d1,d2,d3,d4⟩:=uH h ho hq;have hi:=ir h false hq;have hm:∀x,x≠k->mm W (c.set k ((lh G T W c).getD k 0)) x=mm W c x:=λx hx=>by
  unfold mm;rw[cg,yO (λz=>hx z.1.symm)]
 have hmk:mm W (c.set k ((lh G T W c).getD k 0)) k=(lh G T W c).getD k 0:=by
  unfold mm;rw[cg,yM ⟨rfl,by rw[hl];exact hk⟩];lia
 rw[oO h false _ hq];by_cases z:bI false W q=bI false W k
 ·have hkL:k∈lst false G T W (bI false W q):=by rw[z];exact eW h false hk
  have hA:vl (cF false G T W c) k=ch (mm W c) (amt false G T (bI false W q)) (lst false G T W (bI false W q)) k:=BY h hi hkL;unfold vl at hA;let⟨l1,l2⟩:=I0 (m:=mm W c) (m':=mm W (c.set k ((lh G T W c).getD k 0))) (p:=k) (a:=amt false G T (bI false W q)) (l:=lst false G T W (bI false W q)) (dG h hi) (λx _ hx=>hm x hx) (by rw[hmk,<- hA];exact b1);by_cases y:q=k
  ·subst y;rw[l2 hkL,hmk];exact qA _
  ·have:=l1 q (eW h false hq) y;rw[<- oO h false c hq] at this;lia
 ·rw[sG (m:=mm W (c.set k ((lh G T W c).getD k 0))) (m':=mm W c) λx hx=>hm x λw=>by
   subst w;exact z ((eU h hi).mp hx).2.symm]
  rw[<- oO h false c hq];exact d1
def Jn.step(h:Wd G T W)(ho:Off c)(hl:c.length=W.length)(j:Jn G T W c)(e:ur G T W c=some (k,v)):Jn G T W (c.set k v):=λq hq Zg=>by
 have XD:Off (c.set k v):=Dk ho (CU h ho e).2.1;have fq:Fl true G T W (lh G T W c) q:=by
  let⟨hk,rfl,WK⟩:=Eo e;by_cases z:q=k
  ·subst z;exact Am h true hq (by rw[(uH h ho hq).2.2.2.2];exact WK)
  ·rw[cg,yO (λw=>z w.1.symm)] at Zg;exact j q hq Zg
 have hu:=P2 h (i8 h XD false) true hq;change sm _ (vl (lh G T W (c.set k v)))=_ at hu;unfold Fl at fq ⊢;have hs:sm (up (lst true G T W (bI true W q)) q) (vl (lh G T W c))<=sm (up (lst true G T W (bI true W q)) q) (mm W (cF false G T W (c.set k v))):=Ao λx hx=>by
  have YV:=(IT h hq (kh hx)).1;have h1:=OZ h ho hl e YV;have h2:=uH h ho YV;unfold vl mm;lia
 rw[hu];lia
def S7(h:Wd G T W):Jn G T W (fin G T W).2:=by
 have hb:=h.XI;let⟨_,_,h2⟩:=yv (Qf G T W) (spS G T W) (λs=>XI s.2) (λs=>DQ W s/\Jn G T W s.2)
  (λs z hc=>by
   let⟨i,j⟩:=z
   let⟨⟨k,v⟩,e⟩:=tN hc;let⟨i2,hm⟩:=i.step h e;refine⟨⟨i2,?_⟩,hm⟩;rw[y0 e];exact j.step h i.off i.len e) Rf.turns ([],dS W) (jA hb (by decide)) ⟨DQ.start h,λk hk hl=>by rw[HC hk] at hl;lia⟩
 exact h2
def G9(h:Wd G T W):Rs G T W (Gc G T W):=λk hk=>by
 let⟨ac9,i,Zg⟩:=Dg h;have j:=S7 h;have heq:∀q,q < W.length->(Gc G T W).getD q 0=(lh G T W (fin G T W).2).getD q 0:=λq hq=>by
  have h1:=M1 ac9 hq;have h2:=(uH h i.off hq).2.1;unfold Gc;lia
 let⟨d0,d1,d2,d3,d4⟩:=uH h i.off hk;by_cases e:(Gc G T W).getD k 0=(aC W k).2.2
 ·exact .inl e
 ·by_cases e2:(Gc G T W).getD k 0 < mm W (fin G T W).2 k
  ·exact .inr (.inl (Am h false hk e2))
  ·have h3:=(BC h i.off false hk).2;have:(fin G T W).2.getD k 0 < (aC W k).2.2:=by
    unfold Gc at e e2;unfold mm at e2 h3;lia
   have f:=j k hk this;refine .inr (.inr ?_);unfold Fl at f ⊢;rw[<- f];exact iB λq hq=>heq q (IT h hk (kh hq)).1
end
section
variable {P X c off:Γ Int}
def Rs.tu(h:Wd G T W)(o:Ord W π)(p:Pn G T W P)(r:Rs G T W P):Rs T G (gL W π) (Bi P π):=(nN (o.wd h) (p.tu h o)).mp ((O0 h o).mpr ((nN h p).mpr r))
def JP(G T:Γ Pl)(W:Γ Wy):Γ Int:=Bi (Gc T G (gL W (cZ W))) (cZ (gL W (cZ W)))
def NA(h:Wd G T W):Pn G T W (JP G T W):=by
 have o:=gV h.wp;have h':=o.wd h;have o':=gV h'.wp;have:=(sS h').tu h' o'
 rwa [Ef h.wp o o'] at this
def Sf(h:Wd G T W):Rs G T W (JP G T W):=by
 have o:=gV h.wp;have h':=o.wd h;have o':=gV h'.wp;have:=(G9 h').tu h' o' (sS h')
 rwa [Ef h.wp o o'] at this
end
def Lb(h:Wd G T W):eJ [az G T W]=some (af (JP G T W)):=by
 have h':=(gV h.wp).wd h;exact uv h (BA h') (sS h')
def KQ(h:f ρ=some (.tuple ds)):aR f ρ=some ds:=by
 simp?[aR,h,zA,fM]
def C9(h:f ρ=some (.list ds)):aR f ρ=some ds:=by
 simp?[aR,h,zA,fM]
def zl(l:Γ Nat):PyData.eqvAll (l.map nD) (l.map nD)=true:=pV λd hd=>by
 let⟨i,_,rfl⟩:=List.mem_map.mp hd;exact GQ _
def fu{l:Γ Nat}:SeqAt.shaped (.list (l.map nD))=true :=
 (iW.lst (b:=l.length) (k:=0) (by simp) λx hx=>by let⟨i,_,rfl⟩:=List.mem_map.mp hx;exact gW _).shaped (by decide)
def uC(l:Γ Nat):dZ (.list (l.map nD)) (.list (l.map nD))=some (.bool false):=by
 simp?[dZ,Oe,fu,jP,xI,PyData.eqv,zl,zB,xZ]
def F1(l:Γ Nat):bC (.list (l.map nD)) (.list [])=some (.bool (decide (l=[]))):=by
 have h0:SeqAt.shaped (.list [])=true:=fu (l:=[]);have e:(l.map nD).isEmpty=decide (l=[]):=by cases l<;>rfl
 simp?[bC,LJ,fu,h0,jP,xI,PyData.eqv,tY,e,zB]
structure Wk(G T G' T':List Pl):Prop where
 len:∀b,(aX b G' T').length=(aX b G T).length
 lik:∀b i,(bT b G' T' i).2=(bT b G T i).2
 gv:∀i,amt false G' T' i<=amt false G T i
 tk:∀i,amt true G T i<=amt true G' T' i
def sA(L:Γ Pl)(i:Nat)(a:Int):Γ Pl:=L.set i (a,(L.getD i (0,[])).2)
section
variable {P X off:Γ Int}
end
def ext(l:Int)(r:Γ Int):Γ (Γ Int):=(List.range (l+1).toNat).map λm=>r++[((m:Nat):Int)]
def GY(l:Γ Nat)(k:Int):((l.map nD).any λz=>PyData.eqv z (.int k))=decide (∃i∈l,((i:Nat):Int)=k):=by
 induction l with
 | nil=>simp
 | cons i l ih =>
  have e:PyData.eqv (nD i) (.int k)=decide (((i:Nat):Int)=k):=by
   have:=og [((i:Nat):Int)] [k];rw[af,af,PyData.eqv] at this;simpa [PyData.eqvAll] using this
  rw[zI,vE,ih,e];simp
def Fi(l:Γ Nat)(k:Int):FI (.int k) (.list (l.map nD))=some (.bool (!decide (∃i∈l,((i:Nat):Int)=k))):=by
 have hs:SeqAt.shaped (.int k)=true:=(gW (b:=1) (k:=0) k).shaped (by decide);simp?[FI,Tu,hs,fu,jP,xI,GY,zB]
def sh(k q:Nat):Nat:=if q < k then q else q+1
def nk(k:Nat):Nat->θ:=λq=>!decide (q=k)
section
variable {G T:Γ Pl}{W:Γ Wy}{P X:Γ Int}{b:θ}{i k q:Nat}
end
section
open Ex
structure Wf(m:List D->Option D)(x:List D->Option Str)(ds:List D):Prop where
 n:m ds=some .none
 x:x ds=none
section
variable {m:Γ D->Δ D}{x:Γ D->Δ Str}{ds:Γ D}{c:Str}{n:Nat}{fs:Dl.Env->Δ (Γ D)}{ρ:aj}
end
section
variable {G T:Γ Pl}{W:Γ Wy}{P X:Γ Int}{b:θ}{i:Nat}
end
end
section
variable {G T:Γ Pl}{W:Γ Wy}{P X:Γ Int}{b k n:Nat}{d:D}{c:Str}
end
section
variable {G T:Γ Pl}{W:Γ Wy}{P X:Γ Int}{b:θ}{i j k:Nat}{w d:D}{c:Str}
def uU{tgt:aj->D->Δ aj}{gb:aj->Δ Out}{ρ ρ1 W9:aj}{d:D}{ds:Γ D}(h1:tgt ρ d=some ρ1)(h2:gb ρ1=some (.nx W9)):d6 tgt gb (d::ds) ρ=d6 tgt gb ds W9:=by
 rw[d6,h1,zA,h2];rfl
end
section
variable {G T:Γ Pl}{W:Γ Wy}{P X c:Γ Int}
def Aj{f:Dl.Env->Δ D}{ρ:Dl.Env}{α:Type}{g:α->D}{r:Γ α}(h:f ρ=some (.list (r.map g))):bw bO (aa f ag) ρ=some (nD r.length):=by
 rw[Cs h];show some (PyData.int ((r.map g).length:Nat))=_;rw[zD]
end
def Ki(b:θ)(G T:Γ Pl)(W:Γ Wy)(P:Γ Int)(i:Nat):Δ Nat:=((lst b G T W i).filter λq=>decide (0 < vl P q)).getLast?
def F9(b:θ)(G T:Γ Pl)(W:Γ Wy)(P:Γ Int)(i:Nat):Δ Nat:=if i3 b W P i < amt b G T i then none else Ki b G T W P i
def dec(o:Δ Nat)(P:Γ Int):Γ Int:=match o with
 | none=>P
 | some g=>P.set g (P.getD g 0 - 1)
def ml(G T:Γ Pl)(W:Γ Wy)(P:Γ Int)(k:Nat):Γ Int:=dec (F9 true G T W P (bI true W k)) (dec (F9 false G T W P (bI false W k)) (P.set k (P.getD k 0+1)))
section
variable {G T:Γ Pl}{W:Γ Wy}{P:Γ Int}{b:θ}{i k q g:Nat}{o:Δ Nat}
def RT:∀l:Γ Nat,sm l (λ_=>0)=0
 | []=>rfl
 | q::l=>by rw[bc,RT l];rfl
def qv:(dec o P).length=P.length:=by cases o<;>simp[dec]
def Hx:(dec o P).getD q 0=P.getD q 0 - (if o=some q/\q < P.length then 1 else 0):=by
 cases o with
 | none=>simp[dec]
 | some g =>
  show (P.set g _).getD q 0=_;rw[cg];by_cases e:g=q
  ·subst e;by_cases hl:g < P.length
   ·rw[yM ⟨rfl,hl⟩,yM ⟨rfl,hl⟩]
   ·rw[yO (λz=>hl z.2),yO (λz=>hl z.2)];lia
  ·rw[yO (λz=>e z.1),yO (λz=>e (xE z.1))];lia
def Pt:(P.set k (P.getD k 0+1)).getD q 0=P.getD q 0+(if k=q/\q < P.length then 1 else 0):=by
 rw[cg];by_cases e:k=q/\q < P.length
 ·rw[yM e,yM e,e.1]
 ·rw[yO e,yO e];lia
def Aq(h:Ki b G T W P i=some g):g∈lst b G T W i/\0 < vl P g:=by
 have:=List.mem_of_getLast? h;rw[List.mem_filter,zJ] at this;exact this
def JD(h:Ki b G T W P i=none):∀q∈lst b G T W i,vl P q<=0:=λq hq=>by
 unfold Ki at h;rw[List.getLast?_eq_none_iff,List.filter_eq_nil_iff] at h;have:=h q hq;rw[zJ] at this;lia
def IK(h:Wd G T W)(hi:i < (aX b G T).length)(e:Ki b G T W P i=some g)(hq:q∈lst b G T W i)(hp:0 < vl P q):q∈up (lst b G T W i) g:=by
 have hn:=dG (b:=b) h hi;unfold Ki at e;let⟨ys,hys⟩:=List.getLast?_eq_some_iff.mp e;refine Classical.byContradiction λz=>?_;have hg:=(Aq (b:=b) (G:=G) (T:=T) (W:=W) (P:=P) (i:=i) e).1;let⟨zs,e1,e2⟩:=D9 hn hg;have hqz:q∈zs:=by
  rw[e1] at hq;rcases List.mem_append.mp hq with w|w
  ·exact absurd w z
  ·exact w
 have Yr:(up (lst b G T W i) g).filter (λq=>decide (0 < vl P q))++zs.filter (λq=>decide (0 < vl P q))=ys++[g]:=by
  rw[<- List.filter_append,<- e1];exact hys
 have WN:zs.filter (λq=>decide (0 < vl P q))≠[]:=λw=>by
  have:q∈zs.filter (λq=>decide (0 < vl P q)):=List.mem_filter.mpr ⟨hqz,yA hp⟩;rw[w] at this;cases this
 let⟨us,u,hu⟩:=List.eq_nil_or_concat (zs.filter λq=>decide (0 < vl P q)) |>.resolve_left WN |> λ⟨a,c,e⟩=>(⟨a,c,by simpa using e⟩:∃us u,zs.filter (λq=>decide (0 < vl P q))=us++[u])
 rw[hu,<- List.append_assoc] at Yr;have hug:u=g:=by
  have:=jD List.getLast? Yr;sleep 14
 subst hug;have:u∈zs:=(List.mem_filter.mp (show u∈zs.filter (λq=>decide (0 < vl P q)) by rw[hu];simp)).1;exact e2 u this (EN hg)
def Bv(h:Wd G T W)(p:Pn G T W P)(hk:k < W.length)(e:tm b G T W P k=true) :
  (i3 b W P (bI b W k) < amt b G T (bI b W k)/\F9 b G T W P (bI b W k)=none)\/(i3 b W P (bI b W k)=amt b G T (bI b W k)/\∃g,F9 b G T W P (bI b W k)=some g/\g∈lst b G T W (bI b W k)/\0 < vl P g/\g≠k):=by
 have hi:=ir h b hk;have hle:=p.am b _ hi;by_cases c:i3 b W P (bI b W k) < amt b G T (bI b W k)
 ·exact .inl ⟨c,by unfold F9;rw[yM c]⟩
 ·refine .inr ⟨?_,?_⟩
  ·have:i3 b W P (bI b W k)<=amt b G T (bI b W k):=hle;lia
  ·have nf:¬ Fl b G T W P k:=λz=>by rw[(zz h p b hk).mpr z] at e;cases e
   have heq:sm (lst b G T W (bI b W k)) (vl P)=amt b G T (bI b W k):=by
    rw[<- mM h hi];have:i3 b W P (bI b W k)<=amt b G T (bI b W k):=hle;lia
   have hn:=dG (b:=b) h hi;let⟨ys,e1,e2⟩:=D9 hn (eW h b hk);have hs:sm (lst b G T W (bI b W k)) (vl P)=sm (up (lst b G T W (bI b W k)) k) (vl P)+sm ys (vl P):=by
    rw[<- JJ,<- e1]
   have hy:0 < sm ys (vl P):=by
    have h1:=GH (l:=ys) λq _=>p.nn q;refine Classical.byContradiction λz=>nf ?_;unfold Fl;lia
   obtain⟨q,hq,hp⟩:∃q∈ys,0 < vl P q:=Classical.byContradiction λz=>by
    have:=Ao (l:=ys) (f:=vl P) (g:=λ_=>0) λq hq=>Classical.byContradiction λw=>z ⟨q,hq,by lia⟩;have e0:=RT ys;lia
   have hql:q∈lst b G T W (bI b W k):=by rw[e1];exact yE _ hq
   cases hg:Ki b G T W P (bI b W k) with
   | none=>have:=JD hg q hql;lia
   | some g =>
    let⟨g1,g2⟩:=Aq hg;refine⟨g,by unfold F9;rw[yO c,hg],g1,g2,λz=>?_⟩;subst z;exact e2 q hq (IK h hi hg hql hp)
def sg(h:Wd G T W)(p:Pn G T W P)(hk:k < W.length)(e:fg G T W P k=3):P.getD k 0 < (aC W k).2.2/\∀b,tm b G T W P k=true:=by
 have hb:=(p.bd k hk).2;unfold fg at e;by_cases e1:P.getD k 0=(aC W k).2.2
 ·rw[yM e1] at e;cases e
 ·rw[yO e1] at e;by_cases e2:tm false G T W P k=false
  ·rw[yM e2] at e;cases e
  ·rw[yO e2] at e;by_cases e3:tm true G T W P k=false
   ·rw[yM e3] at e;cases e
   ·exact⟨by lia,λb=>by
    cases b
    ·exact Bool.not_eq_false _ |>.mp e2
    ·exact Bool.not_eq_false _ |>.mp e3⟩
def rq(o:Δ Nat)(q:Nat):Int:=if o=some q then 1 else 0
def Jb(hn:l.Nodup):sm l (rq o)=match o with|some g=>if g∈l then 1 else 0|none=>0:=by
 induction l with
 | nil=>cases o<;>rfl
 | cons x l ih =>
  rw[kW] at hn;rw[bc,ih hn.2];cases o with
  | none=>rfl
  | some g =>
   show (if some g=some x then (1:Int) else 0)+(if g∈l then 1 else 0)=if g∈x::l then 1 else 0
   by_cases e:g=x
   ·subst e;rw[yM rfl,yO hn.1,yM zE];rfl
   ·rw[yO (λz=>e (xE z))];by_cases e2:g∈l
    ·rw[yM e2,yM (zC _ e2)];rfl
    ·rw[yO e2,yO (by rw[zQ,not_or];exact⟨e,e2⟩)];rfl
def Qh(l:Γ Nat)(f g:Nat->Int):sm l (λq=>f q+g q)=sm l f+sm l g:=by
 induction l with
 | nil=>rfl
 | cons x l ih=>rw[bc,bc,bc,ih];lia
def P3(l:Γ Nat)(f g:Nat->Int):sm l (λq=>f q - g q)=sm l f - sm l g:=by
 induction l with
 | nil=>rfl
 | cons x l ih=>rw[bc,bc,bc,ih];lia
abbrev g0(b:θ)(G T:Γ Pl)(W:Γ Wy)(P:Γ Int)(k:Nat):Δ Nat:=F9 b G T W P (bI b W k)
def K3:(ml G T W P k).length=P.length:=by unfold ml;rw[qv,qv,yC]
def Qo(hq:q < P.length):(ml G T W P k).getD q 0=P.getD q 0+rq (some k) q - rq (g0 false G T W P k) q - rq (g0 true G T W P k) q:=by
 unfold ml rq;rw[Hx,Hx,Pt,qv,yC];simp?[hq,and_true,yL]
def sX:0<=rq o q:=by unfold rq;split<;>lia
def Oo:rq o q<=1:=by unfold rq;split<;>lia
def oI(h:Wd G T W)(p:Pn G T W P)(hk:k < W.length)(e:fg G T W P k=3)(b:θ){g:Nat}(hg:g0 b G T W P k=some g):g < W.length/\bI b W g=bI b W k/\0 < vl P g/\g≠k:=by
 rcases Bv h p hk ((sg h p hk e).2 b) with ⟨_,z⟩|⟨_,g',z,h1,h2,h3⟩
 ·rw[show F9 b G T W P (bI b W k)=some g from hg] at z;cases z
 ·rw[show F9 b G T W P (bI b W k)=some g from hg] at z;cases z;let⟨a1,a2⟩:=(eU h (ir h b hk)).mp h1;exact⟨a1,a2,h2,h3⟩
def Mw(h:Wd G T W)(hk:k < W.length)(hg:g < W.length)(b:θ)(e1:bI b W g=bI b W k)(e2:bI (!b) W g=bI (!b) W k):g=k:=by
 have z:∀c,ba c (aC W g)=ba c (aC W k)↔bI c W g=bI c W k:=λc=>by
  have h1:=(h.WG c hg).2.2;have h2:=(h.WG c hk).2.2;unfold bI;lia
 refine tQ (b:=b) h.wp hg hk ((z b).mpr e1) ?_;have:=(z (!b)).mpr e2;cases b<;>exact this
def Tq(h:Wd G T W)(p:Pn G T W P)(hk:k < W.length)(e:fg G T W P k=3)(hg:g0 b G T W P k=some g):bI (!b) W g≠bI (!b) W k:=λz=>by
 let⟨a1,a2,_,a4⟩:=oI h p hk e b hg;exact a4 (Mw h hk a1 b a2 z)
def Jm(h:Wd G T W)(p:Pn G T W P)(hk:k < W.length)(e:fg G T W P k=3):Pn G T W (ml G T W P k):=by
 let⟨f1,f2⟩:=sg h p hk e;have at':∀q,q < W.length->(ml G T W P k).getD q 0=P.getD q 0+rq (some k) q - rq (g0 false G T W P k) q - rq (g0 true G T W P k) q:=λq hq=>Qo (by rw[p.len];exact hq);refine⟨by rw[K3,p.len],λq hq=>?_,λb i hi=>?_⟩
 ·rw[at' q hq];have hb:=p.bd q hq;have n0:=sX (o:=g0 false G T W P k) (q:=q);have n1:=sX (o:=g0 true G T W P k) (q:=q);have n2:=sX (o:=some k) (q:=q);constructor
  ·have one:∀b,g0 b G T W P k=some q->g0 (!b) G T W P k≠some q:=λb z1 z2=>by
    have:=Tq h p hk e z1;exact this (oI h p hk e (!b) z2).2.1
   unfold rq at n0 n1 ⊢;by_cases c0:g0 false G T W P k=some q
   ·have:=(oI h p hk e false c0).2.2.1;rw[yM c0,yO (show ¬ g0 true G T W P k=some q from one false c0)];have:0 < P.getD q 0:=this;split<;>lia
   ·rw[yO c0];by_cases c1:g0 true G T W P k=some q
    ·have:=(oI h p hk e true c1).2.2.1;have:0 < P.getD q 0:=this;rw[yM c1];split<;>lia
    ·rw[yO c1];split<;>lia
  ·by_cases c:k=q
   ·subst c;have:=Oo (o:=some k) (q:=k);lia
   ·have:rq (some k) q=0:=by unfold rq;rw[yO (λz=>c (xE z))]
    lia
 ·have hn:=dG (b:=b) h hi;rw[mM h hi];have hle:sm (lst b G T W i) (vl (ml G T W P k))<=sm (lst b G T W i) (λq=>vl P q+rq (some k) q - rq (g0 b G T W P k) q):=Ao λq hq=>by
   have hqW:=((eU h hi).mp hq).1;show (ml G T W P k).getD q 0<=_;rw[at' q hqW];have n0:=sX (o:=g0 false G T W P k) (q:=q);have n1:=sX (o:=g0 true G T W P k) (q:=q);show _<=P.getD q 0+rq (some k) q - rq (g0 b G T W P k) q;cases b<;>lia
  have e1:sm (lst b G T W i) (λq=>vl P q+rq (some k) q - rq (g0 b G T W P k) q)=sm (lst b G T W i) (vl P)+sm (lst b G T W i) (rq (some k)) - sm (lst b G T W i) (rq (g0 b G T W P k)):=by
   rw[P3,Qh]
  rw[e1,Jb hn,Jb hn] at hle;have ha:=p.am b i hi;rw[mM h hi] at ha;have hA:(bT b G T i).1=amt b G T i:=rfl;by_cases c:bI b W k=i
  ·subst c;have hkl:=eW h b hk;rcases Bv h p hk (f2 b) with ⟨z1,z2⟩|⟨z1,g,z2,z3,_,_⟩
   ·rw[show g0 b G T W P k=none from z2] at hle;rw[mM h hi] at z1;simp?[hkl,xI] at hle;lia
   ·rw[show g0 b G T W P k=some g from z2] at hle;rw[mM h hi] at z1;simp?[hkl,z3,xI] at hle;lia
  ·have hkl:¬ k∈lst b G T W i:=λz=>c ((eU h hi).mp z).2;simp?[hkl,qQ] at hle;have:0<=(match g0 b G T W P k with|some g=>if g∈lst b G T W i then (1:Int) else 0|none=>0):=by
    split
    ·split<;>lia
    ·lia
   lia
end
section
variable {G T:Γ Pl}{W:Γ Wy}{P c:Γ Int}{b:θ}{i k g:Nat}
def Vz{l:Γ D}{x:D}(h:l.getLast?=some x):ay (.list l) (.int (-1))=some x:=by
 have hn:0 < l.length:=by
  cases l with
  | nil=>cases h
  | cons _ _=>simp
 show uh l (-1)=_;unfold uh HZ;rw[yO (by lia),yM (by lia),zA,show ((-1:Int)+(l.length:Int)).toNat=l.length - 1 by lia,<- List.getLast?_eq_getElem?];exact h
def Kn(h:Wd G T W)(hi:i < (aX b G T).length):(lst b G T W i).length<=16:=by
 have hw:=h.wl;rw[(nV h hi).length_eq];refine yD (xQ _ _) ?_;rw[zR];exact hw
def MG(h:Wd G T W)(hp:P.length=W.length)(hi:i < (aX b G T).length)(hg:Ki b G T W P i=some g):dD [az G T W,af P,.int (sI b),nD i]=some (nD g):=by
 have hll:=Kn h hi;sleep 50;show dv [.val (az G T W),.val (af P),.val (.int (sI b)),.val (nD i)]=_;unfold dv;have c:au 1 [1] acO (fG 0) acP (ab 0) [some (az G T W),some (af P),some (.int (sI b)),some (nD i)]=some (((lst b G T W i).filter λq=>decide (0 < vl P q)).map nD) :=
  sP (C9 (call_of (o6 h (i4 hi)) rfl rfl)) (by show (lst b G T W i).length<=1000;lia) λq hq=>⟨cJ (aB (fX _ _) (aB (kg (by rw[hp];exact ((eU h hi).mp hq).1)) rfl rfl) rfl),λ_=>rfl⟩
 refine aO (aB (a:=.list (((lst b G T W i).filter λq=>decide (0 < vl P q)).map nD)) (b:=.int (-1)) (Vz ?_) ?_ rfl)
 ·rw[List.getLast?_map];unfold Ki at hg;rw[hg];rfl
 ·show cU _ [some (az G T W),some (af P),some (.int (sI b)),some (nD i)]=_;simp?[cU,c,zB]
def Lc(h:Wd G T W)(hk:k < W.length)(b:θ):ay (av (aC W k)) (.int (sI b))=some (nD (bI b W k)):=by
 rw[nY,<- (h.WG b hk).2.2];rfl
def Pj(h:Wd G T W)(hi:i < (aX b G T).length){fw fb fi:Dl.Env->Δ D}{ρ:Dl.Env}(hw:fw ρ=some (az G T W))(hb:fb ρ=some (.int (sI b)))(hf:fi ρ=some (nD i)):f2 ay (f2 ay (f2 ay fw fb) fi) (fC (.int 0)) ρ=some (.int (amt b G T i)) :=
 aB (a:=bp (bT b G T i)) (b:=.int 0) rfl (aB (lg (f:=bp) (l:=aX b G T) (i4 hi)) (aB (nv b G T W) hw hb) hf) rfl
def U9:aj->Δ Out:=aap
abbrev QG(G T:Γ Pl)(W:Γ Wy)(P:Γ Int)(k:Nat)(c:Γ Int)(x4 x5 x6:Slot):aj:=[.val (az G T W),.val (af P),.val (nD k),.val (af c),x4,x5,x6]
def DB(h:Wd G T W)(p:Pn G T W P)(hk:k < W.length)(e:fg G T W P k=3)(b:θ)(hc:c.length=W.length){x5 x6:Slot}:∃y5 y6,U9 (QG G T W P k c (.val (.int (sI b))) x5 x6)=some (.nx (QG G T W P k (dec (g0 b G T W P k) c) (.val (.int (sI b))) y5 y6)):=by
 have hw:=h.wl;have hi:=ir h b hk;have hs:=p.smP h;unfold U9;have s1:∀ρ:Dl.Env,ab 0 ρ=some (az G T W)->ab 2 ρ=some (nD k)->ab 4 ρ=some (.int (sI b))->f2 ay aa8 (ab 4) ρ=some (nD (bI b W k)):=λρ a0 a2 a4 =>
  aB (Lc h hk b) (aB (lg (f:=av) (l:=W) (by simp[aC,hk])) (aB (qp G T W) a0 rfl) a2) a4
 have t:∀ρ:Dl.Env,ab 0 ρ=some (az G T W)->ab 1 ρ=some (af P)->ab 4 ρ=some (.int (sI b))->ab 5 ρ=some (nD (bI b W k))->fB acV ρ=some (decide (i3 b W P (bI b W k)=amt b G T (bI b W k))):=λρ a0 a1 a4 a5 =>
  cJ (aB (cX _ _) (call_of (pq h p.len hs b _) (cons_of a0 (cons_of a1 (cons_of a4 (cons_of a5 rfl)))) rfl) (Pj h hi a0 a4 a5))
 rcases Bv h p hk ((sg h p hk e).2 b) with ⟨z1,z2⟩|⟨z1,g,z2,z3,_,_⟩
 ·refine⟨.val (nD (bI b W k)),x6,(ai (aZ (s1 _ rfl rfl rfl) (s1 _ rfl rfl rfl) rfl)).trans ?_⟩;refine (dX ((t _ rfl rfl rfl rfl).trans (by rw[zZ (by lia)]))).trans ?_;show _=some (Out.nx (QG G T W P k (dec (F9 b G T W P (bI b W k)) c) _ _ x6));rw[z2];rfl
 ·refine⟨.val (nD (bI b W k)),.val (nD g),(ai (aZ (s1 _ rfl rfl rfl) (s1 _ rfl rfl rfl) rfl)).trans ?_⟩;refine (fU ((t _ rfl rfl rfl rfl).trans (by rw[yA z1]))).trans ?_;have hg:Ki b G T W P (bI b W k)=some g:=by
   unfold F9 at z2;rw[yO (by lia)] at z2;exact z2
  have hgW:=((eU h hi).mp z3).1;have e6:=MG h p.len hi hg;refine (ai (aZ (call_of e6 rfl rfl) (call_of e6 rfl rfl) rfl)).trans ?_;have e3:∀ρ:Dl.Env,ab 3 ρ=some (af c)->ab 6 ρ=some (nD g)->ah 3 dB acW ρ=some (af (c.set g (c.getD g 0 - 1))):=λρ a3 a6 =>
   call_of (mL (by lia) (by lia)) (cons_of a3 (cons_of a6 (cons_of (aB (sub_int _ _) (aB (kg (by lia)) a3 a6) rfl) rfl))) rfl
  refine (aZ (e3 _ rfl rfl) (e3 _ rfl rfl) rfl).trans ?_;show _=some (Out.nx (QG G T W P k (dec (F9 b G T W P (bI b W k)) c) _ _ (.val (nD g))));rw[z2];rfl
def p6(h:Wd G T W)(p:Pn G T W P)(hk:k < W.length)(e:fg G T W P k=3):eY [az G T W,af P,nD k]=some (af (ml G T W P k)):=by
 have hw:=h.wl;have hp:=p.len;sleep 50;show (ax acR (ax (e8 [] acS (vn 4) U9) (aQ (ab 3)))) (QG G T W P k P .Wh .Wh .Wh |>.set 3 .Wh)=_;have e0:∀ρ:Dl.Env,ab 1 ρ=some (af P)->ab 2 ρ=some (nD k)->ah 3 dB acQ ρ=some (af (P.set k (P.getD k 0+1))):=λρ a1 a2 =>
  call_of (mL (by lia) (by lia)) (cons_of a1 (cons_of a2 (cons_of (aB (a:=.int (P.getD k 0)) (b:=.int 1) rfl (aB (kg (by lia)) a1 a2) rfl) rfl))) rfl
 refine (ai (aZ (e0 _ rfl rfl) (e0 _ rfl rfl) rfl)).trans ?_;let⟨y5,y6,q1⟩:=DB (c:=P.set k (P.getD k 0+1)) (x5:=.Wh) (x6:=.Wh) h p hk e false (by rw[yC];exact hp);let⟨z5,z6,q2⟩:=DB (c:=dec (g0 false G T W P k) (P.set k (P.getD k 0+1))) (x5:=y5) (x6:=y6) h p hk e true (by rw[qv,yC];exact hp);refine (ai (cP (ds:=[.int 0,.int 1]) ((uU (ρ1:=QG G T W P k (P.set k (P.getD k 0+1)) (.val (.int (sI false))) .Wh .Wh) rfl q1).trans ((uU (ρ1:=QG G T W P k (dec (g0 false G T W P k) (P.set k (P.getD k 0+1))) (.val (.int (sI true))) y5 y6) rfl q2).trans rfl)) rfl rfl)).trans ?_;exact aO rfl
end
section
variable {G T:Γ Pl}{W:Γ Wy}{P c:Γ Int}{b:θ}{i k g:Nat}
def Ik(G T:Γ Pl)(W:Γ Wy)(s:Γ (Γ Int)):Δ (Γ (Γ Int)):=match s.getLast? with
 | none=>none
 | some P=>match (iC G T W P).head? with
  | none=>none
  | some k=>if ml G T W P k∈s then none else some (s++[ml G T W P k])
def Iy(G T:Γ Pl)(W:Γ Wy):Nat->Γ (Γ Int)->Γ (Γ Int)
 | 0,s=>s
 | n+1,s=>match Ik G T W s with
  | none=>s
  | some s'=>Iy G T W n s'
abbrev GA(G T:Γ Pl)(W:Γ Wy)(P:Γ Int):Γ (Γ Int):=Iy G T W Rf.turns [P]
def rZ{S:Type}{t:Dl.Env->Δ θ}{gb:aj->Δ Out}{f:Dl.Env->Δ D}(Rel:S->aj->Prop)(nx:S->Δ S)(wl:Nat->S->S)(fin:S->D)(μ:S->Nat)(w0:∀s n,nx s=none->wl (n+1) s=s)(w1:∀s n s',nx s=some s'->wl (n+1) s=wl n s')
  (hA:∀s ρ,Rel s ρ->nx s=none->(t (aP ρ)=some false/\f (aP ρ)=some (fin s))\/(t (aP ρ)=some true/\gb ρ=some (.rt (fin s))))
  (hB:∀s ρ s',Rel s ρ->nx s=some s'->t (aP ρ)=some true/\(∃ρ',gb ρ=some (.nx ρ')/\Rel s' ρ')/\μ s' < μ s) :
  ∀ (n:Nat) (s:S) (ρ:aj),Rel s ρ->μ s < n->ax (BZ t gb n) (aQ f) ρ=some (.rt (fin (wl n s)))
 | 0,_,_,_,h=>absurd h (vQ _)
 | n+1,s,ρ,hr,hm=>by
  cases e:nx s with
  | none =>
   rw[w0 s n e];rcases hA s ρ hr e with ⟨h1,h2⟩|⟨h1,h2⟩
   ·unfold ax;rw[BZ,h1,zA,yO (by simp),zA];exact aO h2
   ·unfold ax;rw[BZ,h1,zA,yM rfl,h2];rfl
  | some s' =>
   let⟨h1,⟨ρ',h2,h3⟩,h4⟩:=hB s ρ s' hr e;rw[w1 s n s' e,<- rZ Rel nx wl fin μ w0 w1 hA hB n s' ρ' h3 (by lia)];unfold ax;rw[BZ,h1,zA,yM rfl,h2];rfl
def EE{s:Γ (Γ Int)}{n:Nat}(h:Ik G T W s=none):Iy G T W (n+1) s=s:=by rw[Iy,h]
def GL{s s':Γ (Γ Int)}{n:Nat}(h:Ik G T W s=some s'):Iy G T W (n+1) s=Iy G T W n s':=by rw[Iy,h]
def AR:∀ {L l:Γ (Γ Int)},l.Nodup->(∀x∈l,x∈L)->l.length<=L.length
 | _,[],_,_=>xW _
 | L,x::l,hn,h=>by
  rw[kW] at hn;have hx:=h x zE;have:=AR (L:=L.erase x) (l:=l) hn.2 λy hy=>(List.mem_erase_of_ne (show y≠x fromλz=>hn.1 (z ▸ hy))).mpr (h y (zC _ hy));rw[List.length_erase_of_mem hx] at this;have:0 < L.length:=List.length_pos_of_mem hx;rw[zL];lia
def Rk:Nat->Γ (Γ Int)
 | 0=>[[]]
 | n+1=>(Rk n).flatMap λr=>[0::r,1::r,2::r]
def Dp:∀n,(Rk n).length=3 ^ n
 | 0=>rfl
 | n+1=>by
  rw[Rk,List.length_flatMap];simp?[zL,xM];rw[List.map_const',List.sum_replicate_nat,Dp n,Nat.pow_succ]
def Eg:∀ {r:Γ Int},(∀x∈r,0<=x/\x<=2)->r∈Rk r.length
 | [],_=>List.mem_singleton.mpr rfl
 | x::r,h=>by
  have ih:=Eg (r:=r) λy hy=>h y (zC _ hy);have hx:=h x zE;rw[zL,Rk,List.mem_flatMap];refine⟨r,ih,?_⟩;simp?[zQ,kX,and_true,yF,xV];lia
structure Ge(G T:List Pl)(W:List Wy)(s:List (List Int)):Prop where
 ne:s≠[]
 pn:∀P∈s,Pn G T W P
 nd:s.Nodup
def Ge.few(f:Ge G T W s)(h2:∀w∈W,w.2.2<=2)(hw:W.length<=9):s.length<=19683:=by
 have:=AR (L:=Rk W.length) f.nd λP hP=>by
  have p:=f.pn P hP;rw[<- p.len];refine Eg λx hx=>?_;let⟨q,hq,rfl⟩:=qS hx;have hqW:q < W.length:=by rw[<- p.len];exact hq
  have hb:=p.bd q hqW;have hl:=h2 _ (tT hqW);rw[zG,zK hq,qH] at hb;lia
 rw[Dp] at this;refine yD this ?_;exact Nat.pow_le_pow_right (by lia) hw
def qq(e:(iC G T W P).head?=some k):k < W.length/\fg G T W P k=3:=by
 have:=List.mem_of_mem_head? e;unfold iC at this;rw[List.mem_filter,zS,zJ] at this;exact this
def wq(h:Wd G T W)(f:Ge G T W s)(e:Ik G T W s=some s'):∃P k,s.getLast?=some P/\Pn G T W P/\(iC G T W P).head?=some k/\¬ ml G T W P k∈s/\s'=s++[ml G T W P k]/\Ge G T W s':=by
 unfold Ik at e;cases e1:s.getLast? with
 | none=>rw[e1] at e;cases e
 | some P =>
  rw[e1] at e;have p:=f.pn P (List.mem_of_getLast? e1);simp only at e;cases e2:(iC G T W P).head? with
  | none=>rw[e2] at e;cases e
  | some k =>
   rw[e2] at e;simp only at e;by_cases c:ml G T W P k∈s
   ·rw[yM c] at e;cases e
   ·rw[yO c] at e;cases e;let⟨hk,hy⟩:=qq e2;refine⟨P,k,rfl,p,e2,c,rfl,by simp,λX hX=>?_,?_⟩
    ·rcases List.mem_append.mp hX with z|z
     ·exact f.pn X z
     ·rw[List.mem_singleton.mp z];exact Jm h p hk hy
    ·rw[wV];exact⟨f.nd,by simp,λa ha b hb z=>c (by rw[List.mem_singleton.mp hb] at z;exact z ▸ ha)⟩
def KH(f:Ge G T W s)(e:Ik G T W s=none):∃P,s.getLast?=some P/\Pn G T W P/\((iC G T W P).head?=none\/∃k,(iC G T W P).head?=some k/\ml G T W P k∈s):=by
 unfold Ik at e;cases e1:s.getLast? with
 | none=>exact absurd (List.getLast?_eq_none_iff.mp e1) f.ne
 | some P =>
  rw[e1] at e;have p:=f.pn P (List.mem_of_getLast? e1);refine⟨P,rfl,p,?_⟩;simp only at e;cases e2:(iC G T W P).head? with
  | none=>exact .inl rfl
  | some k =>
   rw[e2] at e;simp only at e;by_cases c:ml G T W P k∈s
   ·exact .inr ⟨k,rfl,c⟩
   ·rw[yO c] at e;cases e
def GI(h:Wd G T W):∀ (n:Nat) {s:Γ (Γ Int)},Ge G T W s->Ge G T W (Iy G T W n s)
 | 0,s,f=>f
 | n+1,s,f=>by
  cases e:Ik G T W s with
  | none=>rw[EE e];exact f
  | some s' =>
   let⟨_,_,_,_,_,_,_,f'⟩:=wq h f e;rw[GL e];exact GI h n f'
def Ph(o:Δ Nat):D:=match o with
 | some k=>nD k
 | none=>.none
def LF(h:Wd G T W)(p:Pn G T W P):bQ [az G T W,af P]=some (Ph (iC G T W P).head?):=by
 rw[jz h p.len (p.smP h)];unfold iC;rw[List.head?_filter];rfl
def Ew(o:Δ Nat):nc (Ph o) .none=some (.bool o.isSome):=by cases o<;>rfl
def oo{l:Γ (Γ Int)}{P:Γ Int}(h:l.getLast?=some P):ay (.list (l.map af)) (.int (-1))=some (af P):=Vz (by rw[List.getLast?_map,h];rfl)
def zu{i:Nat}{fz:Γ Nat}{f:Dl.Env->Δ D}{ρ:aj}{l:Γ Int}(hA:f (aP ρ)=some (af l))(hF:f (bg (hand fz 0 ρ))=some (af l)):Dl.aF i fz f ρ=some (.nx (ρ.set i (.val (af l)))):=by
 have hn:kc (af l)=true:=by
  show rT (l.map PyData.int)=true;clear hA hF
  induction l with
  | nil=>rfl
  | cons x l ih=>exact ih
 simp?[Dl.aF,hA,zA,show Dl.lj (af l)=false from rfl,yP,qQ,hF,zB,hn,xI]
end
section
variable {G T:Γ Pl}{W:Γ Wy}{P c:Γ Int}{b:θ}{i k g:Nat}{s:Γ (Γ Int)}
def K8{i:Nat}{fz:Γ Nat}{f:Dl.Env->Δ D}{ρ:aj}{d:D}{ds:Γ D}(hA:f (aP ρ)=some d)(hF:f (bg (hand fz 0 ρ))=some d)(hh:hand fz 0 ρ=ρ)(ho:ρ[i]?=some (.own ds))(hl:ds.length < sizeLine):i6 i fz f ρ=some (.nx (ρ.set i (.own (ds++[d])))):=by
 rw[hh] at hF;unfold i6 k8;rw[hA,zA];split
 ·simp?[zA,oA,ho,yM hl,zB]
 ·simp?[hh,hF,zB,zA,oA,ho,yM hl]
def EG{i j:Nat}{g1 g2:aj->Δ Out}{ρ:aj}{r:Γ Int}(h1:ρ[i]?=some (.val (af r)))(h2:ρ[j]?=some (.tab ks)):uK i j g1 g2 ρ=if ks.contains r=true then g1 ρ else g2 ρ:=by
 unfold uK;rw[h1,h2,show BO (some (.val (af r)))=some r from bL r,show tabS (some (.tab ks))=some ks from rfl];rfl
def L3{j i:Nat}{f:Dl.Env->Δ D}{ρ:aj}{r:Γ Int}{d:D}(h1:ρ[i]?=some (.val (af r)))(h2:ρ[j]?=some (.tab ks))(hf:f (aP ρ)=some d)(hs:Dl.lj d=true)(hl:ks.length < sizeLine)(hn:ks.contains r=false):rQ j i f ρ=some (.nx (ρ.set j (.tab (ks++[r])))):=by
 unfold rQ;rw[h1,h2,show BO (some (.val (af r)))=some r from bL r,show tabS (some (.tab ks))=some ks from rfl,zA,zA,hf,zA,hs,yA hl,hn];rfl
def DD(o:Δ Nat):Dl.lj (Ph o)=true:=by cases o<;>rfl
def iK{l:Γ (Γ Int)}{r:Γ Int}(h:¬ r∈l):l.contains r=false:=by
 rw[Bool.eq_false_iff];exactλz=>h (List.contains_iff_mem.mp z)
def Kc(G T:Γ Pl)(W:Γ Wy)(s:Γ (Γ Int)):Δ Nat:=s.getLast?.bind λP=>(iC G T W P).head?
def UT:aj->Δ Out:=(ax aat (ax (uK 5 3 Yy iJ) (ax (i6 2 [5] (ab 5)) (ax (rQ 3 5 (fC (.bool true))) aau))))
abbrev Tb(G T:Γ Pl)(W:Γ Wy)(P:Γ Int)(s:Γ (Γ Int))(x4 x5:Slot):aj:=[.val (az G T W),.val (af P),.own (s.map af),.tab s,x4,x5]
def Hi:19683 < sizeLine:=by rw[qV];decide
def De(h:Wd G T W){X:Γ Int}(p:Pn G T W X)(e1:s.getLast?=some X)(e2:(iC G T W X).head?=some k){x5:Slot}:Dl.aF 5 [0,2,4] aas (Tb G T W P s (.val (nD k)) x5)=some (.nx (Tb G T W P s (.val (nD k)) (.val (af (ml G T W X k))))):=by
 let⟨hk,hy⟩:=qq e2;have hc:∀ρ:Dl.Env,ab 0 ρ=some (az G T W)->ab 2 ρ=some (.list (s.map af))->ab 4 ρ=some (nD k)->ah 3 eY aar ρ=some (af (ml G T W X k)):=λρ a0 a2 a4 =>
  call_of (p6 h p hk hy) (cons_of a0 (cons_of (aB (b:=.int (-1)) (oo e1) a2 rfl) (cons_of a4 rfl))) rfl
 exact zu (hc _ rfl rfl rfl) (hc _ rfl rfl rfl)
def HI(h:Wd G T W)(p:Pn G T W P)(h2:∀w∈W,w.2.2<=2)(hw:W.length<=9):mI [az G T W,af P]=some (.list ((GA G T W P).map af)):=by
 sleep 50;show (ax Zq (ax (aS 2 [1] (iN zq0)) (ax (vt 3 1 (fC (.bool true))) (ax aaq (ax (BZ Zs UT Rf.turns) Yy))))) [.val (az G T W),.val (af P),.Wh,.Wh,.Wh,.Wh]=_;sleep 40;refine (ai (l4 (ds:=[af P]) rfl rfl)).trans ?_;have e3:vt 3 1 (fC (.bool true)) [.val (az G T W),.val (af P),.own [af P],.Wh,.Wh,.Wh]=some (.nx [.val (az G T W),.val (af P),.own [af P],.tab [P],.Wh,.Wh]):=by
  unfold vt;rw[show BO ([Slot.val (az G T W),Slot.val (af P),Slot.own [af P],Slot.Wh,Slot.Wh,Slot.Wh][1]?)=some P from bL P];rfl
 refine (ai e3).trans ?_;have e4:∀X,Pn G T W X->∀ρ:Dl.Env,∀f:Dl.Env->Δ D,ab 0 ρ=some (az G T W)->f ρ=some (af X)->ah 2 bQ (aa (ab 0) (aa f ag)) ρ=some (Ph (iC G T W X).head?):=λX hX ρ f a0 a1=>call_of (LF h hX) (cons_of a0 (cons_of a1 rfl)) rfl;refine (ai (cN (e4 P p _ _ rfl rfl) (DD _))).trans ?_;have f0:Ge G T W [P]:=⟨by simp,λX hX=>by rw[List.mem_singleton.mp hX];exact p,by simp⟩
 refine rZ (S:=Γ (Γ Int)) (λs ρ=>Ge G T W s/\∃x5,ρ=Tb G T W P s (.val (Ph (Kc G T W s))) x5) (Ik G T W) (Iy G T W) (λs=>.list (s.map af)) (λs=>19684 - s.length) (λs n=>EE) (λs n s'=>GL) ?_ ?_ Rf.turns [P] _ ⟨f0,.Wh,rfl⟩ (by show 19684 - 1 < 1000000;lia)
 ·rintro s ρ ⟨f,x5,rfl⟩ e;let⟨X,e1,hX,e2⟩:=KH f e;have hd:Kc G T W s=(iC G T W X).head?:=by unfold Kc;rw[e1];rfl
  have t:∀x5,Zs (aP (Tb G T W P s (.val (Ph (Kc G T W s))) x5))=some (Kc G T W s).isSome:=λx5=>cJ (aB (Ew _) rfl rfl);rcases e2 with e2|⟨k,e2,hm⟩
  ·exact .inl ⟨(t x5).trans (by rw[hd,e2];rfl),rfl⟩
  ·refine .inr ⟨(t x5).trans (by rw[hd,e2];rfl),?_⟩;rw[hd,e2];unfold UT;refine (ai (De h hX e1 e2)).trans (LB ?_);rw[EG (r:=ml G T W X k) (ks:=s) rfl rfl,yM (List.contains_iff_mem.mpr hm)];exact aO rfl
 ·rintro s ρ s' ⟨f,x5,rfl⟩ e;let⟨X,k,e1,hX,e2,hm,rfl,f'⟩:=wq h f e;have hd:Kc G T W s=some k:=by unfold Kc;rw[e1];exact e2
  have hl:=f'.few h2 hw;rw[zN,xD] at hl;have hb:=Hi;let⟨hk,hy⟩:=qq e2;refine⟨(cJ (aB (Ew _) rfl rfl)).trans (by rw[hd];rfl),⟨Tb G T W P (s++[ml G T W X k]) (.val (Ph (Kc G T W (s++[ml G T W X k])))) (.val (af (ml G T W X k))),?_,f',_,rfl⟩,by rw[zN,xD];lia⟩;rw[hd];unfold UT;refine (ai (De h hX e1 e2)).trans ?_;refine (ai ((EG (r:=ml G T W X k) (ks:=s) rfl rfl).trans (by rw[yO (by rw[iK hm];simp)];rfl))).trans ?_;refine (ai (K8 (ds:=s.map af) (d:=af (ml G T W X k)) rfl rfl rfl rfl (by rw[zD];lia))).trans ?_;refine (ai (L3 (r:=ml G T W X k) (ks:=s) (d:=.bool true) rfl rfl rfl rfl (by lia) (iK hm))).trans ?_;refine (cN (e4 _ (Jm h hX hk hy) _ _ rfl rfl) (DD _)).trans ?_;have e5:Kc G T W (s++[ml G T W X k])=(iC G T W (ml G T W X k)).head?:=by unfold Kc;rw[List.getLast?_concat];rfl
  rw[e5];show some (Out.nx [_,_,Slot.own (s.map af++[af (ml G T W X k)]),_,_,_])=some (Out.nx [_,_,Slot.own ((s++[ml G T W X k]).map af),_,_,_]);rw[jB];rfl
end
open Ob Og
section
variable {os Ws Xq Yb:Γ Oj}{fs:zh}{st st1 X2:Fs}
def aU(h:g1 ρ os=some (.nx ρ' Ws)):dM g1 g2 ρ os=g2 ρ' Ws:=by unfold dM;rw[h];rfl
def iz{g:aj->Δ Out}(h:g ρ=some (.nx ρ')):j1 g ρ os=some (.nx ρ' os):=by unfold j1;rw[h];rfl
def qu(h:f ρ os=some (d,Ws)):zr f ρ os=some (.nx ρ Ws):=by unfold zr;rw[h];rfl
def EC(h:f ρ os=some (d,Ws)):Ff i f ρ os=some (.nx (ρ.set i (.val d)) Ws):=by unfold Ff;rw[h];rfl
def jc(h:f (hand fz 0 ρ) os=some (d,Ws)):dU fz (jr f) ρ os=some (.rt d Ws):=by unfold dU jr;rw[h];rfl
def mQ(h:ta ρ os=some (false,Ws)):JL ta g1 g2 ρ os=g2 ρ Ws:=by unfold JL;rw[h];rfl
def RX:Kg ρ os=some (.nx ρ os):=rfl
def br{f:Dl.Env->Δ D}(h:f (bg ρ)=some d):oD f ρ os=some (d,os):=by unfold oD;rw[h]
def SO{f:Dl.Env->Δ θ}{c:θ}(h:f (aP ρ)=some c):oT f ρ os=some (c,os):=by unfold oT;rw[h];rfl
def du{g:D->D->Δ D}(hg:g a b=some d)(h1:fa ρ os=some (a,Xq))(h2:fb ρ Xq=some (b,Yb)):ud g fa fb ρ os=some (d,Yb):=by
 unfold ud;rw[h1,zA];show ((fb ρ Xq).bind λy=>(g a y.1).map (·,y.2))=_;rw[h2,zA];show (g a b).map _=_;rw[hg];rfl
def j7(h:f ρ os=some (.bool c,Ws)):Ob.oB f ρ os=some (c,Ws):=by unfold Ob.oB;rw[h];rfl
def pJ(h1:ta ρ os=some (false,Xq))(h2:tb ρ Xq=some (c,Yb)):uk ta tb ρ os=some (c,Yb):=by unfold uk;rw[h1];exact h2
def IV(h1:fa ρ os=some (.bool true,Xq))(h2:fb ρ Xq=some (d,Yb)):FC fa fb ρ os=some (d,Yb):=by unfold FC;rw[h1];exact h2
def aM{gs:zh}(h1:f ρ os=some (d,Xq))(h2:gs ρ Xq=some (ds,Yb)):bP f gs ρ os=some (d::ds,Yb):=by
 unfold bP;rw[h1,zA];show (gs ρ Xq).map _=_;rw[h2];rfl
def cC:di ρ os=some ([],os):=rfl
def iU{m:Γ D->Δ D}(hm:m ds=some d)(h:fs ρ os=some (ds,Ws))(hn:ds.length=n):mD n m fs ρ os=some (d,Ws):=by
 unfold mD;rw[h,zA];show (if ds.length=n then (m ds).map (·,Ws) else none)=_;rw[yM hn,hm];rfl
def aI(h1:ρ[i]?=some (.obj k))(h2:os[k]?=some ⟨C,st⟩):obj i C ρ os=some (k,st):=by
 unfold obj;rw[h1];show (match os[k]? with|some o=>if o.C=C then some (k,o.st) else none|none=>none)=_;rw[h2];exact yM rfl
def eM(h:obj i C ρ os=some (k,st))(hf:st.lookup x=some (.val d)):nq i C x ρ os=some (d,os):=by
 unfold nq;rw[h,zA];show (match st.lookup x with|some (.val d)=>some (d,os)|_=>none)=_;rw[hf]
def Mt(h:obj i C ρ os=some (k,st))(hf:st.lookup x=some (.val d)):Ia i C x ρ os=some d:=by
 unfold Ia;rw[h,zA];show (match st.lookup x with|some (.val d)=>some d|_=>none)=_;rw[hf]
def C0(h:obj i C ρ os=some (k,st))(hf:st.lookup x=some (.lst ds)):vf i C x ρ os=some (.int ds.length):=by
 unfold vf;rw[h,zA];show (match st.lookup x with|some (.lst ds)=>some (PyData.int ds.length)|_=>none)=_;rw[hf]
def nQ(h1:r ρ os=some d)(h2:rs ρ os=some ds):pW r rs ρ os=some (d::ds):=by unfold pW;rw[h1,h2];rfl
def D6(h:rs ρ os=some ds)(hl:ds.length<=1000):FY rs ρ os=some (.tuple ds):=by
 unfold FY small;rw[h,zA,yM (yD hl (by rw[qV];decide))];rfl
def Sx(h:r ρ os=some d):oR r ρ os=some (d,os):=by unfold oR;rw[h];rfl
def gw{mm:Γ Slot->Fs->Δ (D×Fs)}(h:obj i C ρ os=some (k,st))(hn:(st.lookup m).isNone=true)(ha:fs ρ os=some (ds,Xq))(h1:obj i C ρ Xq=some (k,st1))(hl:ds.length+1=n)(hm:mm (.obj 0::ds.map Slot.val) st1=some (d,X2)):cA i C m n mm fs ρ os=some (d,Xq.set k ⟨C,X2⟩):=by
 unfold cA;rw[h,zA];show (if (st.lookup m).isNone=true then (fs ρ os).bind _ else none)=_;rw[yM hn,ha,zA];show ((obj i C ρ Xq).bind _)=_;rw[h1,zA];show (if ds.length+1=n then (mm (.obj 0::ds.map Slot.val) st1).map _ else none)=_;rw[yM hl,hm];rfl
def rz(h:f ρ os=some (d,Xq))(h1:obj i C ρ Xq=some (k,st))(hl:st.length < 1000):rK i C x f ρ os=some (.nx ρ (Xq.set k ⟨C,dc x (.val d) st⟩)):=by
 unfold rK;rw[h,zA];show ((obj i C ρ Xq).bind _)=_;rw[h1,zA];exact yM hl
def td(h:fl (bg ρ)=some ds)(h1:obj i C ρ os=some (k,st))(hl:st.length < 1000):so i C x fl ρ os=some (.nx ρ (os.set k ⟨C,dc x (.lst ds) st⟩)):=by
 unfold so;rw[h,zA,h1,zA];exact yM hl
def JB(h:obj i C ρ os=some (k,st))(hf:st.lookup x=some (.lst ds))(hr:r ρ os=some d)(hl:ds.length < sizeLine):Ag i C x r ρ os=some (.nx ρ (os.set k ⟨C,dc x (.lst (ds++[d])) st⟩)):=by
 unfold Ag;rw[h,zA];show (match st.lookup x with|some (.lst ds)=>(r ρ os).bind λd=>if ds.length < sizeLine then some (N2.nx ρ (os.set k ⟨C,dc x (.lst (ds++[d])) st⟩)) else none|_=>none)=_;rw[hf];show ((r ρ os).bind _)=_;rw[hr,zA];exact yM hl
def AC(ha:fs ρ os=some (ds,Xq))(hb:ρ.all (below Xq.length)=true)(hl:ds.length+1=n)(hm:mi (.obj 0::ds.map Slot.val) []=some (.none,st)):u0 i C n mi fs ρ os=some (.nx (ρ.set i (.obj Xq.length)) (Xq++[⟨C,st⟩])):=by
 unfold u0;rw[ha,zA];show (if ρ.all (below Xq.length)=true/\ds.length+1=n then (mi (.obj 0::ds.map Slot.val) []).bind _ else none)=_;rw[yM ⟨hb,hl⟩,hm];rfl
def PL(h:obj i C ρ os=some (k,st))(hn:(st.lookup m).isNone=true)(hm:Oi y z st=some (d,st1)):SQ i C m y z ρ os=some (d,os.set k ⟨C,st1⟩):=by
 unfold SQ;rw[h,zA];show (if (st.lookup m).isNone=true then (Oi y z st).map _ else none)=_;rw[yM hn,hm];rfl
def l6(h:g (ρ++List.replicate (n - ρ.length) .Wh) [⟨C,st⟩]=some (.rt d [⟨C,st1⟩])):gP g C n ρ st=some (d,st1):=by
 unfold gP;rw[h];exact yM rfl
def Eb(h:g (ρ++List.replicate (n - ρ.length) .Wh) [⟨C,st⟩]=some (.nx ρ' [⟨C,st1⟩])):gP g C n ρ st=some (.none,st1):=by
 unfold gP;rw[h];exact yM rfl
def L0(h:g (ds.map Slot.val++List.replicate (n - ds.length) .Wh) []=some (.rt d os)):GM g n ds=some d:=by
 unfold GM;rw[h];rfl
def EM(h1:fi (bg (hand fz 0 ρ))=some ds)(h2:mw tgt g ds (hand fz 0 ρ) os=some o):Ft fz fi tgt g ρ os=some o:=by
 unfold Ft;rw[h1,zA];exact h2
end
def PQ(hk:k < W.length):(∃i∈iC G T W P,((i:Nat):Int)=((k:Nat):Int))↔fg G T W P k=3:=by
 constructor
 ·rintro⟨i,hi,e⟩;obtain rfl:i=k:=by lia
  unfold iC at hi;rw[List.mem_filter,zJ] at hi;exact hi.2
 ·exactλe=>⟨k,by unfold iC;rw[List.mem_filter,zS,zJ];exact⟨hk,e⟩,rfl⟩
def Hr(h:Wd G T W)(q:Pn G T W P)(hk:k < W.length)(e:fg G T W P k=3):lM [az G T W,af P,nD k]=some (af (ml G T W P k)):=by
 sleep 50;show sC [.val (az G T W),.val (af P),.val (nD k)]=_;unfold sC;refine (ai (gF (call_of (bD h q) rfl rfl))).trans ?_;refine (ai (gF (call_of (sd (i:=((k:Nat):Int)) (n:=((W.length:Nat):Int)) (by lia) (by lia)) (cons_of rfl (sO q.len rfl)) rfl))).trans ?_;refine (ai (dX (cJ (aB (a:=nD k) (b:=.list ((iC G T W P).map nD)) ((Fi _ _).trans (by rw[decide_eq_decide.mpr (PQ (G:=G) (T:=T) (P:=P) hk),yA e];rfl)) rfl (call_of (iS h q) rfl rfl))))).trans ?_;exact aO (call_of (p6 h q hk e) rfl rfl)
abbrev qr(w p:D)(ds us:Γ D):Fs:=[("ground",.val w),("present",.val p),("done",.lst ds),("undone",.lst us)]
def DJ(h:bS [w,p]=some .none):ou C [.obj 0,.val w,.val p] []=some (.none,qr w p [] []):=by
 refine Eb (ρ':=[.obj 0,.val w,.val p]) ?_;refine (aU (iz (gF (call_of h rfl rfl)))).trans ?_;refine (aU (rz (br rfl) (aI rfl rfl) (Nat.le_of_ble_eq_true rfl))).trans ?_;refine (aU (rz (br rfl) (aI rfl rfl) (Nat.le_of_ble_eq_true rfl))).trans ?_;refine (aU (td (ds:=[]) rfl (aI rfl rfl) (Nat.le_of_ble_eq_true rfl))).trans ?_;exact (td (ds:=[]) rfl (aI rfl rfl) (Nat.le_of_ble_eq_true rfl)).trans rfl
def xh(hl:ds.length < sizeLine):b8 C [.obj 0,.val v,.val q] (qr w p ds us)=some (.none,qr w q (ds++[.tuple [v,p]]) []):=by
 refine Eb (ρ':=[.obj 0,.val v,.val q]) ?_;refine (aU (JB (aI rfl rfl) rfl (D6 (nQ rfl (nQ (Mt (aI rfl rfl) rfl) rfl)) (by simp)) hl)).trans ?_;refine (aU (td (ds:=[]) rfl (aI rfl rfl) (Nat.le_of_ble_eq_true rfl))).trans ?_;exact (rz (br rfl) (aI rfl rfl) (Nat.le_of_ble_eq_true rfl)).trans rfl
def K2(hl:ds.length < sizeLine)(h1:lM [w,p,d]=some q)(h2:cx [w,q]=some v):hU C [.obj 0,.val d] (qr w p ds us)=some (v,qr w q (ds++[.tuple [.str "push",p]]) []):=by
 refine l6 ?_;refine (aU (qu (gw (aI rfl rfl) rfl (aM (br rfl) (aM (iU h1 (aM (eM (aI rfl rfl) rfl) (aM (eM (aI rfl rfl) rfl) (aM (br rfl) cC))) rfl) cC)) (aI rfl rfl) rfl (xh hl)))).trans ?_;exact jc (iU h2 (aM (eM (aI rfl rfl) rfl) (aM (eM (aI rfl rfl) rfl) cC)) rfl)
def Ih(hl:ds.length < sizeLine)(h1:bS [w,q]=some .none)(h2:cx [w,q]=some v):fS C [.obj 0,.val q] (qr w p ds us)=some (v,qr w q (ds++[.tuple [.str "lay",p]]) []):=by
 refine l6 ?_;refine (aU (qu (iU h1 (aM (eM (aI rfl rfl) rfl) (aM (br rfl) cC)) rfl))).trans ?_;refine (aU (qu (gw (aI rfl rfl) rfl (aM (br rfl) (aM (br rfl) cC)) (aI rfl rfl) rfl (xh hl)))).trans ?_;exact jc (iU h2 (aM (eM (aI rfl rfl) rfl) (aM (eM (aI rfl rfl) rfl) cC)) rfl)
def o5{rs:Γ (Γ Int)}(hl:ds.length < sizeLine)(h1:mI [w,p]=some (.list (rs.map af)))(h2:rs.getLast?=some X):cK C [.obj 0] (qr w p ds us)=some (.int ((rs.length:Nat) - 1:Int),qr w (af X) (ds++[.tuple [.str "settle",p]]) []):=by
 refine l6 ?_;refine (aU (EC (iU h1 (aM (eM (aI rfl rfl) rfl) (aM (eM (aI rfl rfl) rfl) cC)) rfl))).trans ?_;refine (aU (qu (gw (aI rfl rfl) rfl (aM (br rfl) (aM (br (aB (b:=.int (-1)) (oo h2) rfl rfl)) cC)) (aI rfl rfl) rfl (xh hl)))).trans ?_;exact jc (br (aB (ka ((rs.length:Nat):Int) 1) (Aj (r:=rs) (g:=af) rfl) rfl))
def lS:bH C [.obj 0] (qr w p ds us)=some (p,qr w p ds us):=l6 (jc (eM (aI rfl rfl) rfl))
def uQ:dk C [.obj 0] (qr w p ds us)=some (.tuple [.int ds.length,.int us.length],qr w p ds us):=l6 (jc (Sx (D6 (nQ (C0 (aI rfl rfl) rfl) (nQ (C0 (aI rfl rfl) rfl) rfl)) (by simp))))
def Ej(hl:us.length < sizeLine):eO C [.obj 0] (qr w p (ds++[.tuple [v,q]]) us)=some (v,qr w q ds (us++[.tuple [v,p]])):=by
 refine l6 (jc ((PL (d:=v) (st1:=qr w q ds (us++[.tuple [v,p]])) (aI rfl rfl) rfl ?_).trans rfl));have e:(ds++[PyData.tuple [v,q]])[(ds++[PyData.tuple [v,q]]).length - 1]?=some (.tuple [v,q]):=by simp
 have e2:(ds++[PyData.tuple [v,q]]).dropLast=ds:=by simp
 show (match (ds++[PyData.tuple [v,q]])[(ds++[PyData.tuple [v,q]]).length - 1]? with
    | some (.tuple [w',p'])=>if us.length < sizeLine/\(qr w p (ds++[PyData.tuple [v,q]]) us).length < 1000 then some (w',dc eh (.val p') (dc "undone" (.lst (us++[PyData.tuple [w',p]])) (dc "done" (.lst (ds++[PyData.tuple [v,q]]).dropLast) (qr w p (ds++[PyData.tuple [v,q]]) us)))) else none
    | _=>none)=_
 rw[e,e2];show (if us.length < sizeLine/\4 < 1000 then _ else _)=_;rw[yM ⟨hl,by decide⟩];rfl
def N9(G T:Γ Pl)(W:Γ Wy):Γ Int->Γ (Γ Int)->Prop
 | _,[]=>True
 | X,Y::r=>(∃k,(iC G T W X).head?=some k/\Y=ml G T W X k)/\N9 G T W Y r
def iE:Γ Int->Γ (Γ Int)->Γ Int
 | X,[]=>X
 | _,Y::r=>iE Y r
def lT:∀ (X:Γ Int) (r:Γ (Γ Int)),(X::r).getLast?=some (iE X r)
 | X,[]=>rfl
 | X,Y::r=>by rw[List.getLast?_cons_cons];exact lT Y r
def EA:∀ {X:Γ Int}{r:Γ (Γ Int)},N9 G T W X r->(iC G T W (iE X r)).head?=some k->N9 G T W X (r++[ml G T W (iE X r) k])
 | X,[],_,h=>⟨⟨k,h,rfl⟩,trivial⟩
 | X,Y::r,c,h=>⟨c.1,EA c.2 h⟩
def DZ(h:Wd G T W):∀ (n:Nat) {r:Γ (Γ Int)},Ge G T W (P::r)->N9 G T W P r->∃r',Iy G T W n (P::r)=P::r'/\N9 G T W P r'
 | 0,r,_,c=>⟨r,rfl,c⟩
 | n+1,r,f,c=>by
  cases e:Ik G T W (P::r) with
  | none=>rw[EE e];exact⟨r,rfl,c⟩
  | some s' =>
   let⟨X,k,e1,_,e2,_,rfl,f'⟩:=wq h f e;rw[GL e];rw[lT] at e1;cases e1;exact DZ h n (r:=r++[ml G T W (iE P r) k]) f' (EA c e2)
def GO(h:Wd G T W)(p:Pn G T W P):∃r,GA G T W P=P::r/\N9 G T W P r/\Ge G T W (P::r):=by
 have f0:Ge G T W [P]:=⟨by simp,λX hX=>by rw[List.mem_singleton.mp hX];exact p,by simp⟩
 let⟨r,e,c⟩:=DZ h Rf.turns f0 trivial;exact⟨r,e,c,by rw[<- e];exact GI h _ f0⟩
def FB(e:iC G T W X=[]):GA G T W X=[X]:=by
 show Iy G T W 1000000 [X]=[X]
 refine EE (n:=999999) ?_;unfold Ik;show (match (iC G T W X).head? with|none=>none|some k=>_)=none;rw[e];rfl
def Fj(l:Γ Nat):bC (.list (l.map nD)) (.list (l.map nD))=some (.bool true):=by
 simp?[bC,LJ,fu,jP,xI,PyData.eqv,zl,zB]
namespace K73M
abbrev st(ns:Γ Int)(G T:Γ Pl)(W:Γ Wy)(P:Γ Int)(x4 x5 x6 x7 x8 x9:Slot):aj:=[.val (cM ns),.val (az G T W),.val (af P),.obj 0,x4,x5,x6,x7,x8,x9]
abbrev lv(G T:Γ Pl)(W:Γ Wy)(X:Γ Int):Slot:=.val (.list ((iC G T W X).map nD))
def ask{mm:Γ Slot->Fs->Δ (D×Fs)}{os:Γ Oj}(h:obj i C ρ os=some (k,s1))(hm:mm [.obj 0] s1=some (d,s2))(hn:(s1.lookup m).isNone=true:=by rfl):cA i C m 1 mm di ρ os=some (d,os.set k ⟨C,s2⟩):=gw h hn cC h rfl hm
def mX{os:Γ Oj}(h1:tgt ρ d=some ρ1)(h2:gb ρ1 os=some (.nx W9 Yb)):mw tgt gb (d::ds) ρ os=mw tgt gb ds W9 Yb:=by
 rw[mw,h1,zA,h2];rfl
def plain(x:Slot):Prop:=x=.Wh\/∃d,x=.val d
def KC{os:Γ Oj}(hh:hand fz 0 ρ=ρ)(h:f ρ os=some (d,Ws)):dU fz (jr f) ρ os=some (.rt d Ws):=jc (by rw[hh];exact h)
def Ur:20000 < sizeLine:=by rw[qV];decide
def ye(h:Wd G T W):∀ {r:Γ (Γ Int)}{X:Γ Int}{ds:Γ D}{x4 x6:Slot},N9 G T W X r->(∀Y∈X::r,Pn G T W Y)->ds.length+r.length < sizeLine->plain x6->∃y6 YF,plain y6/\mw (vn 6) (kb C) (r.map af) (st ns G T W P x4 (lv G T W X) x6 .Wh .Wh .Wh) [⟨C,qr (az G T W) (af X) ds []⟩]=some (.nx (st ns G T W P x4 (lv G T W (iE X r)) y6 .Wh .Wh .Wh) [⟨C,qr (az G T W) (af (iE X r)) YF []⟩])/\YF.length=ds.length+r.length
 | [],X,ds,x4,x6,_,_,_,h6=>⟨x6,ds,h6,rfl,rfl⟩
 | Y::r,X,ds,x4,x6,⟨⟨k,hk,hy⟩,c⟩,hp,hl,_=>by
  have pX:=hp X zE;have pY:=hp Y (zC _ zE);let⟨k1,k2⟩:=qq hk;rw[zL] at hl;let⟨y6,YF,h6,e,hd⟩:=ye h (r:=r) (X:=Y) (ds:=ds++[.tuple [.str "push",af X]]) (x4:=x4) (x6:=.val (af Y)) c (λZ hZ=>hp Z (zC _ hZ)) (by rw[zN,xD];lia) (.inr ⟨_,rfl⟩);refine⟨y6,YF,h6,?_,by rw[hd,zN,xD,zL];lia⟩;refine (mX (ρ1:=st ns G T W P x4 (lv G T W X) (.val (af Y)) .Wh .Wh .Wh) rfl ?_).trans e;unfold kb;have l1:ds.length < sizeLine:=by lia
  have ep:lM [az G T W,af X,nD k]=some (af Y):=by rw[hy];exact Hr h pX k1 k2
  refine (aU (EC (gw (aI rfl rfl) rfl (aM (br (aB (a:=.list ((iC G T W X).map nD)) (b:=.int 0) (CW (i:=0) (x:=k) (by rw[<- List.head?_eq_getElem?];exact hk)) rfl rfl)) cC) (aI rfl rfl) rfl (K2 l1 ep (iS h pY))))).trans ?_;exact (mQ (pJ (j7 (du (gf Y) (ask (aI rfl rfl) lS) (br rfl))) (SO (cJ (aB (uC _) rfl (call_of (iS h pY) rfl rfl)))))).trans rfl
def Hh(h:Wd G T W)(hX:Pn G T W X)(e0:iC G T W X=[])(h2:∀w∈W,w.2.2<=2)(hw:W.length<=9)(hl:ds.length+1 < sizeLine):kj C (st ns G T W P x4 x5 x6 x7 x8 (.val (af X))) [⟨C,qr (az G T W) p ds us⟩,o]=some (.nx (st ns G T W P x4 x5 x6 x7 x8 (.val (af X))) [⟨C,qr (az G T W) (af X) (ds++[.tuple [.str "lay",p]]++[.tuple [.str "settle",af X]]) []⟩,o]):=by
 unfold kj;have e1:cx [az G T W,af X]=some (.list (([]:Γ Nat).map nD)):=by rw[<- e0];exact iS h hX
 have e2:mI [az G T W,af X]=some (.list ([X].map af)):=by rw[<- FB e0];exact HI h hX h2 hw
 have l1:ds.length < sizeLine:=by lia
 have l2:(ds++[PyData.tuple [.str "lay",p]]).length < sizeLine:=by rw[zN,xD];lia
 refine (mQ (pJ (j7 (du (uC []) (gw (aI rfl rfl) rfl (aM (br rfl) cC) (aI rfl rfl) rfl (Ih l1 (bD h hX) e1)) (br rfl))) (pJ (j7 (du (CZ 0) (ask (aI rfl rfl) (o5 (X:=X) l2 e2 rfl)) (br rfl))) (j7 (du (gf X) (ask (aI rfl rfl) lS) (br rfl)))))).trans rfl
def main(C:Ψ)(ns:Γ Int)(hl:ns.length<=63):uT C [.list (ns.map PyData.int)]=some (.bool true):=by
 let⟨G,T,W,ew,h,f⟩:=AA (ns:=ns) (a:=0) (mo:=9) hl (by decide);have hw:W.length<=9:=by have:=f.wm;lia
 have h2:=f.w2;obtain⟨P,eP,q⟩:∃P,gY [cM ns,.int 70,az G T W]=some (af P)/\Pn G T W P:=⟨_,Bt hl h,Ko hl h⟩
 let⟨r,eR,c,F⟩:=GO h q;have hr:=F.few h2 hw;rw[zL] at hr;have hb:=Ur;have e4:mI [az G T W,af P]=some (.list ((P::r).map af)):=by rw[<- eR];exact HI h q h2 hw
 have e5:=iS h q;have pE:Pn G T W (iE P r):=F.pn _ (List.mem_of_getLast? (lT P r));let⟨y6,ds,h6,f6,hd⟩:=ye (ns:=ns) (C:=C) (P:=P) h (ds:=[]) (x4:=.val (.list ((P::r).map af))) (x6:=.Wh) c F.pn (by rw[xM];lia) (.inl rfl);have hd:ds.length=r.length:=by rw[hd,xM,jE]
 apply L0;show lZ C [.val (cM ns),.Wh,.Wh,.Wh,.Wh,.Wh,.Wh,.Wh,.Wh,.Wh] []=_;unfold lZ;refine (aU (iz (aZ (call_of ew rfl rfl) (call_of ew rfl rfl) rfl))).trans ?_;refine (aU (iz (zu (call_of eP rfl rfl) (call_of eP rfl rfl)))).trans ?_;refine (aU (AC (aM (br rfl) (aM (br rfl) cC)) rfl rfl (DJ (bD h q)))).trans ?_;refine (aU (iz (jh rfl (call_of e4 rfl rfl) (call_of e4 rfl rfl) rfl))).trans ?_;refine (aU (iz (jh rfl (call_of e5 rfl rfl) (call_of e5 rfl rfl) rfl))).trans ?_;refine (aU (EM (C9 (Ds (k:=1) rfl rfl)) f6)).trans ?_;refine (aU ((mQ (j7 (du (E5 _) (br (aB (F1 _) rfl rfl)) (iU (LA h pE) (aM (br rfl) (aM (ask (aI rfl rfl) lS) cC)) rfl)))).trans RX)).trans ?_;have e7:(((P::r).length:Nat):Int) - 1=((r.length:Nat):Int):=by rw[zL];lia
 refine (aU (iz (cN (d:=.int ((r.length:Nat):Int)) (aB ((ka (((P::r).length:Nat):Int) 1).trans (by rw[e7])) (Aj (r:=P::r) (g:=af) rfl) rfl) rfl))).trans ?_;refine (aU ((mQ (j7 (du (gf [((r.length:Nat):Int),0]) (ask (aI rfl rfl) (uQ.trans (by rw[hd];rfl))) (br rfl)))).trans RX)).trans ?_;have hB:(st ns G T W P (.val (.list ((P::r).map af))) (lv G T W (iE P r)) y6 (.val (.int ((r.length:Nat):Int))) .Wh .Wh).all (below 1)=true:=by
  rcases h6 with rfl|⟨d,rfl⟩<;>rfl
 refine (aU (AC (aM (br rfl) (aM (br rfl) cC)) hB rfl (DJ (bD h q)))).trans ?_;have eS:=lT P r;refine (aU ((mQ (pJ (j7 (du (CZ ((r.length:Nat):Int)) (ask (aI rfl rfl) ((o5 (by rw[xM];lia) e4 eS).trans (by rw[e7]))) (br rfl))) (pJ (j7 (du (gf (iE P r)) (ask (aI rfl rfl) lS) (br (aB (b:=.int (-1)) (oo eS) rfl rfl)))) (j7 (du (gf [1,0]) (ask (aI rfl rfl) uQ) (br rfl)))))).trans RX)).trans ?_;have s1:=Hh (ns:=ns) (C:=C) (P:=P) (ds:=ds) (us:=[]) (p:=af (iE P r)) h (sS h) ((nN h (sS h)).mpr (G9 h)) h2 hw (by lia) (o:=⟨C,qr (az G T W) (af (iE P r)) ([]++[.tuple [.str "settle",af P]]) []⟩) (x4:=.val (.list ((P::r).map af))) (x5:=lv G T W (iE P r)) (x6:=y6) (x7:=.val (.int ((r.length:Nat):Int))) (x8:=.obj 1);have s2:=Hh (ns:=ns) (C:=C) (P:=P) (ds:=ds++[.tuple [.str "lay",af (iE P r)]]++[.tuple [.str "settle",af (Gc G T W)]]) (us:=[]) (p:=af (Gc G T W)) h (NA h) ((nN h (NA h)).mpr (Sf h)) h2 hw (by simp?[zN,xD];lia) (o:=⟨C,qr (az G T W) (af (iE P r)) ([]++[.tuple [.str "settle",af P]]) []⟩) (x4:=.val (.list ((P::r).map af))) (x5:=lv G T W (iE P r)) (x6:=y6) (x7:=.val (.int ((r.length:Nat):Int))) (x8:=.obj 1);refine (aU (EM (KQ (tup_is (cons_of (call_of (BA h) rfl rfl) (cons_of (call_of (Lb h) rfl rfl) rfl)) (by simp))) ((mX rfl s1).trans ((mX rfl s2).trans rfl)))).trans ?_;have n1:dZ (.str "settle") (.str "settle")=some (.bool false):=by kernel_rfl
 have n2:dZ (.str "lay") (.str "lay")=some (.bool false):=by kernel_rfl
 have z0:([]:Γ D).length < sizeLine:=by rw[xM];lia
 refine (aU ((mQ (pJ (j7 (du n1 (ask (aI rfl rfl) (Ej z0)) (br rfl))) (j7 (du n2 (ask (aI rfl rfl) (Ej (by show 1 < sizeLine;lia))) (br rfl))))).trans RX)).trans ?_;refine (aU ((mQ (j7 (du (gf (Gc G T W)) (ask (aI rfl rfl) lS) (br (call_of (BA h) rfl rfl))))).trans RX)).trans ?_;have hh:hand (List.range 10) 0 (st ns G T W P (.val (.list ((P::r).map af))) (lv G T W (iE P r)) y6 (.val (.int ((r.length:Nat):Int))) (.obj 1) (.val (af (JP G T W))))=st ns G T W P (.val (.list ((P::r).map af))) (lv G T W (iE P r)) y6 (.val (.int ((r.length:Nat):Int))) (.obj 1) (.val (af (JP G T W))):=by
  rcases h6 with rfl|⟨d,rfl⟩<;>rfl
 exact KC hh (IV (du (Fj _) (gw (aI rfl rfl) rfl (aM (br rfl) cC) (aI rfl rfl) rfl (Ih (by simp?[zN,xD];lia) (bD h q) e5)) (br (call_of e5 rfl rfl))) (IV (du ((cX _ _).trans (by rw[yA e7])) (ask (aI rfl rfl) (o5 (by simp?[zN,xD];lia) e4 eS)) (br rfl)) (du ((Jp (iE P r) (iE P r)).trans (by rw[yA rfl])) (ask (aI rfl rfl) lS) (br (aB (b:=.int (-1)) (oo eS) rfl rfl)))))
end K73M
end Wm
namespace K73
open PySem L2 Dl PySem.Spec PyProof.Rows Pg Hd PySem.W WE
def main(ns:Γ Int)(h:ns.length<=63):Ez [.list (ns.map PyData.int)]=some (.bool true):=Wm.K73M.main dm ns h
def ins(P:Params){h:ι}{mg:Str->Δ Θ}(X:(Kf P).In h)(G:h.Ns mainGlobals mg):PZ (Kf P) mg:=⟨λ_ _ _=>by
 have B:∀x∈dR,mg x=none:=λx hx=>mg_none_of X G (Dl.OQ (by kernel_rfl) x hx);refine Xp.om (c:=c8) (bz 9) (Xp.m1 "Floor.counts" 355 354 vd) ?_;refine Xp.om (c:=c7) (bz 7) (Xp.m1 "Floor.back" 341 340 vd) ?_;refine Xp.om (c:=c6) (bz 5) (Xp.m1 "Floor.plan" 327 326 vd) ?_;refine Xp.om (c:=c5) (bz 4) (Xp.m1 "Floor.settle" 320 319 vd) ?_;refine Xp.om (c:=c4) (bz 3) (Xp.m2 "Floor.lay" 313 312 vd) ?_;refine Xp.om (c:=c3) (bz 2) (Xp.m2 "Floor.push" 306 305 vd) ?_;refine Xp.om (c:=c2) (bz 1) (Xp.m3 "Floor.step_to" 299 298 vd) ?_;refine Xp.VI (c:=c1) 292 (bz 0) (Xp.m3 "Floor.__init__" 292 291 vd) ⟨by kernel_rfl,by kernel_rfl,by kernel_rfl,by kernel_rfl⟩ (mg_of X G (by kernel_rfl)) ?_;refine Xp.Wc (c:=c0) (bz 6) (Xp.m3 "Floor.move" 334 333 vd) (by unfold bN;kernel_rfl) (by decide +kernel) ?_;refine Xp.VL ⟨by kernel_rfl,by kernel_rfl,by kernel_rfl,by kernel_rfl⟩ (by kernel_rfl) ?_;refine on (top 62) (f3 466 465 Bj) ?_;refine on (top 61) (f2 459 458 Bj) ?_;refine on (top 60) (f4 452 451 Bj) ?_;refine on (top 59) (f3 447 446 Bj) ?_;refine on (top 58) (f3 442 441 Bj) ?_;refine on (top 57) (f3 435 434 Bj) ?_;refine on (top 56) (f2 428 427 Bj) ?_;refine on (top 54) (f1 421 420 Bf) ?_;refine on (top 53) (f1 414 413 Bf) ?_;refine on (top 52) (f2 407 406 Bf) ?_;refine on (top 51) (f1 400 399 Bf) ?_;refine on (top 50) (f2 393 392 Bf) ?_;refine on (top 49) (f3 386 385 Bf) ?_;refine on (top 48) (f1 379 378 Bf) ?_;refine on (top 47) (f3 374 373 Bf) ?_;refine on (top 43) (f2 278 277 Nw) ?_;refine on (top 42) (f3 271 270 Nw) ?_;refine on (top 41) (f3 264 263 Nw) ?_;refine on (top 40) (f4 257 256 Nw) ?_;refine on (top 38) (f2 252 251 Bh) ?_;refine on (top 37) (f2 245 244 Bh) ?_;refine on (top 36) (f2 240 239 Bh) ?_;refine on (top 35) (f2 233 232 Bh) ?_;refine on (top 34) (f3 226 225 Bh) ?_;refine on (top 33) (f4 219 218 Bh) ?_;refine on (top 32) (f4 214 213 Bh) ?_;refine ol (top 31) EX "ways_of.<locals>.<lambda>" (l3 209 208 Bh) ?_;refine on (top 29) (f2 204 203 iX) ?_;refine on (top 28) (f1 199 198 iX) ?_;refine ol (top 27) tI "turned_order.<locals>.<lambda>" (l1 194 193 iX) ?_;refine on (top 26) (f3 187 186 iX) ?_;refine on (top 25) (f2 180 179 iX) ?_;refine on (top 24) (f3 173 172 iX) ?_;refine on (top 23) (f2 166 165 iX) ?_;refine on (top 22) (f1 159 158 iX) ?_;refine on (top 21) (f2 152 151 iX) ?_;refine on (top 20) (f3 147 146 iX) ?_;refine on (top 19) (f4 142 141 iX) ?_;refine on (top 18) (f1 137 136 iX) ?_;refine on (top 17) (f1 132 131 iX) ?_;refine on (top 16) (f3 127 126 iX) ?_;refine on (top 15) (f3 122 121 iX) ?_;refine on (top 14) (f2 115 114 iX) ?_;refine on (top 13) (f2 108 107 iX) ?_;refine on (top 12) (f3 103 102 iX) ?_;refine on (top 11) (f2 96 95 iX) ?_;refine on (top 10) (f3 89 88 iX) ?_;exact⟨Rf.Um,(Rf.Nc ⟨280,mg_of X G (by kernel_rfl)⟩ (Rf.Nc ⟨282,mg_of X G (by kernel_rfl)⟩ Rf.UP)),B,⟨_,X,G⟩⟩,ku.mg (f1 473 472 Bj) X G⟩
def VY(w:δ):oz (Kf w.params) [189,206]=true:=by kernel_rfl
end K73
open PySem PySem.W PyProof.Rows
theorem PySem.Challenge.cw_stillflow_k73_whole_floors_holds : PySem.Challenge.rw_stillflow_k73_whole_floors.Holds := by
 refine holds_law K73.Ul λk1=>?_
 refine holds_open (XP:=XL K73.vw []) (YP:=K73.hk.says) K73.left K73.hk.of K73.hk.keeps (λs e=>xl_of s (Bool.and_eq_true_iff.mp e).1) XL.keeps (by rfl) (by rfl) (by rfl) (λs e=>recFacts_of (Bool.and_eq_true_iff.mp e).2) (by rfl) k1 (by decide +kernel) ⟨rfl,rfl,rfl,rfl,rfl,by decide +kernel⟩ ?hw ?hc
 case hw=>w_witness2
 case hc=>exact K73.walk (l:=PySem.Challenge.rw_stillflow_k73_whole_floors) (K:=K73.Kf) (ts:=[189,206]) rfl rfl rfl (λw h Y=>⟨Y.1,Y.2⟩) K73.VY (λw=>K73.ins w.params) K73.main
