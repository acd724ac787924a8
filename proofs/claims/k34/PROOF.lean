import PyProof.Rows.All
import Wide.All
import OpenK.AllK
import Wide.FinOn
import PyProof.EqAt
import PyProof.EqKinds
import PyProof.TupleCall
import Lean
import PyProof.Draws
import PyProof.ListRange
import KE.KIsAll
import PySem.Challenge.RW_stillflow_k34_costs
set_option Elab.async false
set_option linter.all false
set_option maxRecDepth 100000
set_option maxHeartbeats 4000000
abbrev _root_.zA:=@Option.bind_some
abbrev _root_.zB:=@Option.map_some
abbrev _root_.zC:=@List.mem_cons_of_mem
abbrev _root_.zD:=@List.length_map
abbrev _root_.zE:=@List.mem_cons_self
abbrev _root_.zF:=@Bool.and_eq_true
abbrev _root_.zG:=@List.getD_eq_getElem?_getD
abbrev _root_.zH:=@List.size_toArray
abbrev _root_.zI:=@List.map_cons
abbrev _root_.zJ:=@decide_eq_true_eq
abbrev _root_.zK:=@List.getElem?_eq_getElem
abbrev _root_.zL:=@List.length_cons
abbrev _root_.zM:=@List.map_map
abbrev _root_.zN:=@List.length_append
abbrev _root_.zO:=@List.getElem?_map
abbrev _root_.zP:=@Nat.lt_of_lt_of_le
abbrev _root_.zQ:=@List.mem_cons
abbrev _root_.zR:=@List.length_range
abbrev _root_.zS:=@List.mem_range
abbrev _root_.zT:=@List.getElem?_eq_some_iff
abbrev _root_.zU:=@PySem.Heap.get?_push_of_some
abbrev _root_.zV:=@PySem.wpAny_bind
abbrev _root_.zW:=@PySem.wpAny_pure
abbrev _root_.zX:=@PySem.Heap.get?_push_size
abbrev _root_.zY:=@PySem.Heap.lt_size
abbrev _root_.zZ:=@decide_eq_false
abbrev _root_.yA:=@decide_eq_true
abbrev _root_.yB:=@List.lookup_cons
abbrev _root_.yC:=@List.length_set
abbrev _root_.yD:=@Nat.le_trans
abbrev _root_.yE:=@List.mem_append_right
abbrev _root_.yF:=@List.not_mem_nil
abbrev _root_.yG:=@Int.toNat_natCast
abbrev _root_.yH:=@List.range_eq_range'
abbrev _root_.yI:=@List.map_congr_left
abbrev _root_.yJ:=@List.foldl_cons
abbrev _root_.yK:=@List.mem_singleton
abbrev _root_.yL:=@Option.some.injEq
abbrev _root_.yM:=@if_pos
abbrev _root_.yN:=@Nat.le_refl
abbrev _root_.yO:=@if_neg
abbrev _root_.yP:=@Bool.false_eq_true
abbrev _root_.yQ:=@Bool.not_eq_true'
abbrev _root_.yR:=@of_decide_eq_true
abbrev _root_.yS:=@Nat.ne_of_lt
abbrev _root_.yT:=@List.getElem?_append_left
abbrev _root_.yU:=@List.getElem?_append_right
abbrev _root_.yV:=@List.map_nil
abbrev _root_.yW:=@List.set_cons_zero
abbrev _root_.yX:=@List.set_cons_succ
abbrev _root_.yY:=@List.getElem?_replicate
abbrev _root_.yZ:=@List.getElem?_cons_succ
abbrev _root_.xA:=@Bool.false_ne_true
abbrev _root_.xB:=@PySem.wpAny_mono
abbrev _root_.xC:=@decide_eq_false_iff_not
abbrev _root_.xD:=@List.length_singleton
abbrev _root_.xE:=@Option.some.inj
abbrev _root_.xF:=@List.replicate_succ
abbrev _root_.xG:=@List.cons_append
abbrev _root_.xH:=@List.all_eq_true
abbrev _root_.xI:=@if_true
abbrev _root_.xJ:=@List.getElem?_set
abbrev _root_.xK:=@PySem.Heap.size_push
abbrev _root_.xM:=@List.length_nil
abbrev _root_.xN:=@List.length_replicate
abbrev _root_.xO:=@PySem.Heap.get?_update_other
abbrev _root_.xP:=@List.nil_append
abbrev _root_.xQ:=@List.length_filter_le
abbrev _root_.xR:=@List.getElem?_cons_zero
abbrev _root_.xS:=@PySem.wpAny_pyIter_tuple
abbrev _root_.xU:=@List.all_cons
abbrev _root_.xV:=@or_false
abbrev _root_.xW:=@Nat.zero_le
abbrev _root_.xX:=@PySem.wpAny_truthy_bool
abbrev _root_.xY:=@PySem.wpAny_holding
abbrev _root_.xZ:=@Bool.not_true
abbrev _root_.qA:=@Int.le_refl
abbrev _root_.qB:=@List.getElem_mem
abbrev _root_.qC:=@List.mem_of_getElem?
abbrev _root_.qD:=@PySem.wpAny_callSpecial?_slot
abbrev _root_.qE:=@Array.getD_eq_getD_getElem?
abbrev _root_.qF:=@Nat.lt_irrefl
abbrev _root_.qG:=@List.append_nil
abbrev _root_.qH:=@Option.getD_some
abbrev _root_.qJ:=@List.length_drop
abbrev _root_.qK:=@List.mem_append_left
abbrev _root_.qL:=@PySem.wpAny_pyIter_list
abbrev _root_.qM:=@PySem.wpAny_newObj_type
abbrev _root_.qN:=@List.flatten_cons
abbrev _root_.qP:=@PySem.F.plainAttrs_list
abbrev _root_.qQ:=@if_false
abbrev _root_.qS:=@List.getElem_of_mem
abbrev _root_.qT:=@PyProof.Rows.callWith_type1
abbrev _root_.qU:=@PySem.wpAny_field
abbrev _root_.qV:=@PySem.sizeLine_eq
abbrev _root_.qX:=@PySem.wpAny_call_entry
abbrev _root_.qY:=@PySem.call_meets
abbrev _root_.qZ:=@PySem.wpAny_Call_Name_kw
abbrev _root_.jA:=@Nat.lt_of_le_of_lt
abbrev _root_.jB:=@List.map_append
abbrev _root_.jC:=@Bool.or_eq_true
abbrev _root_.jD:=@congrArg
abbrev _root_.jE:=@Nat.zero_add
abbrev _root_.jF:=@List.pairwise_map
abbrev _root_.jG:=@PyProof.Rows.slot_tuple_getitem
abbrev _root_.jH:=@List.filterMap_cons
abbrev _root_.jI:=@List.ext_getElem
abbrev _root_.jJ:=@Nat.ne_of_gt
abbrev _root_.jK:=@PySem.Calls.spliced_cons
abbrev _root_.jL:=@PySem.wpAny_passesOwn
abbrev _root_.jM:=@Bool.true_and
abbrev _root_.jN:=@List.getElem?_eq_none
abbrev _root_.jO:=@Ne.symm
abbrev _root_.jP:=@Nat.lt_succ_of_lt
abbrev _root_.jQ:=@and_self
abbrev _root_.jR:=@decide_true
abbrev _root_.jS:=@PySem.F.slot_tuple_iterator_next
abbrev _root_.jT:=@PySem.codeAny_mono
abbrev _root_.jU:=@Nat.le_of_lt
abbrev _root_.jV:=@Int.le_trans
abbrev _root_.jW:=@Nat.le_add_right
abbrev _root_.jX:=@List.length_take
abbrev _root_.jY:=@List.filter_cons
abbrev _root_.jZ:=@List.mem_of_find?_eq_some
abbrev _root_.kA:=@Array.getElem?_eq_getElem
abbrev _root_.kC:=@PySem.mem_of_lookup
abbrev _root_.kE:=@PyProof.Rows.listUpdate_at
abbrev _root_.kF:=@List.sum_cons
abbrev _root_.kG:=@PyProof.Rows.get?_update_seq
abbrev _root_.kH:=@PySem.codeAny_builtin
abbrev _root_.kJ:=@List.filter_map
abbrev _root_.kK:=@PySem.wpAny_seqItems
abbrev _root_.kL:=@PySem.Calls.spliced_nil
abbrev _root_.kM:=@PySem.SeqAt.canLay_of_shaped
abbrev _root_.kN:=@List.take_of_length_le
abbrev _root_.kO:=@List.find?_cons_of_neg
abbrev _root_.kP:=@List.findIdx_lt_length_of_exists
abbrev _root_.kR:=@Option.getD_none
abbrev _root_.kU:=@Nat.lt_succ_self
abbrev _root_.kW:=@PySem.wpAny_newList
abbrev _root_.kX:=@PySem.wpAny_attempt
abbrev _root_.kY:=@List.getElem?_set_ne
abbrev _root_.kZ:=@List.nodup_cons
abbrev _root_.vA:=@List.cons.injEq
abbrev _root_.vB:=@Bool.eq_iff_iff
abbrev _root_.vC:=@Bool.and_false
abbrev _root_.vD:=@PySem.wpAny_setField_rec
abbrev _root_.vE:=@Int.emod_lt_of_pos
abbrev _root_.vF:=@List.drop_eq_getElem_cons
abbrev _root_.vG:=@List.foldl_append
abbrev _root_.vH:=@List.findIdx_cons
abbrev _root_.vI:=@PySem.wpAny_standAt
abbrev _root_.vJ:=@PySem.F.args_tuple_add_2
abbrev _root_.vK:=@PySem.wpAny_execs_cons
abbrev _root_.vL:=@List.range'_succ
abbrev _root_.vM:=@PySem.F.entry_tuple_add
abbrev _root_.vN:=@List.pairwise_singleton
abbrev _root_.vO:=@Int.eq_ofNat_of_zero_le
abbrev _root_.vP:=@PySem.wpAny_call
abbrev _root_.vQ:=@beq_iff_eq
abbrev _root_.vR:=@PyProof.Rows.listItems_at
abbrev _root_.vS:=@PySem.F.slot_tuple_add
abbrev _root_.vT:=@List.range_succ_eq_map
abbrev _root_.vU:=@List.getElem?_set_self
abbrev _root_.vV:=@List.find?_cons_of_pos
abbrev _root_.vW:=@PySem.wpAny_execs_nil
abbrev _root_.vX:=@Nat.not_lt_zero
abbrev _root_.vY:=@List.range_succ
abbrev _root_.vZ:=@List.of_mem_zip
abbrev _root_.wA:=@List.find?_some
abbrev _root_.wC:=@Int.emod_nonneg
abbrev _root_.wD:=@PySem.F.slot_zip_next
abbrev _root_.wF:=@PySem.F.slot_int_rmul
abbrev _root_.wG:=@List.getElem?_toArray
abbrev _root_.wH:=@Nat.mul_le_mul
abbrev _root_.wI:=@PyProof.Rows.IntsAre.length
abbrev _root_.wJ:=@Bool.false_and
abbrev _root_.wK:=@PySem.wpAny_loadName_local
abbrev _root_.wL:=@PySem.codeAny_call_builtin
abbrev _root_.wM:=@List.findIdx_getElem
abbrev _root_.wN:=@List.getD_cons_zero
abbrev _root_.wQ:=@List.getD_cons_succ
abbrev _root_.wR:=@Array.length_toList
abbrev _root_.wU:=@PySem.wpAny_rule
abbrev _root_.wV:=@PySem.wpAny_Name
abbrev _root_.wW:=@PySem.typeIs_int
abbrev _root_.wX:=@of_decide_eq_false
abbrev _root_.wY:=@List.find?_eq_none
abbrev _root_.wZ:=@PySem.F.args_tuple_mul_2
abbrev _root_.Za:=@PySem.Code.quiet_builtin
abbrev _root_.Zb:=@PySem.Calls.Constant_str
abbrev _root_.Zc:=@PySem.wpAny_typeOf
abbrev _root_.Zd:=@decide_false
abbrev _root_.Ze:=@PySem.concat_meets
abbrev _root_.Zf:=@Nat.lt_trans
abbrev _root_.Zg:=@List.any_map
abbrev _root_.Zh:=@PySem.wpAny_pyIter_enum
abbrev _root_.Zi:=@List.nodup_append
abbrev _root_.Zj:=@Function.comp_def
abbrev _root_.Zk:=@PySem.F.entry_tuple_mul
local macro_rules|`(tactic|lia)=>`(tactic|omega)
local macro_rules|`(def $i:declId $s:optDeclSig $v:declVal)=>`(noncomputable def $i:declId $s:optDeclSig $v:declVal)
local macro_rules|`(abbrev $i:declId $s:optDeclSig $v:declVal)=>`(noncomputable abbrev $i:declId $s:optDeclSig $v:declVal)
namespace L2
open PySem
def iL(s:Stmt):Arguments:=match s with
 | .FunctionDef _ a _ _ _ _ _ _ _ _=>a
 | _=>{ posonlyargs:=[],args:=[],vararg:=none,kwonlyargs:=[],kw_defaults:=[],kwarg:=none,defaults:=[] }
def bG(s:Stmt):List Stmt:=match s with
 | .FunctionDef _ _ b _ _ _ _ _ _ _=>b
 | _=>[]
def aj(s:Stmt):Scope:=match s with
 | .FunctionDef _ _ _ _ _ _ sc _ _ _=>sc
 | _=>{ kind:=.function,names:=[],isGenerator:=false,isCoroutine:=false }
end L2
namespace Hd
open PySem L2 PySem.Spec PyProof.Rows
def en(P:Params)(x:String)(t:Nat)(v:Value):DictEntry:=⟨PyData.keyHash P (Str.ofString x),.str (Str.ofString x) t,v⟩
def fo(x:Str)(st:Stmt)(pm:Value)(c:Addr):Obj:=⟨.type "function",none,.func (W.fnOf x x (iL st) (bG st) (aj st) .none .none .none pm none (.ref c) .none),#[]⟩
def co(vs:List Value):Obj:=⟨.type "code",none,.fields vs.toArray,#[]⟩
def R0(n:Nat):Value:=if n=0 then .none else .ref n
def gH(x:Str)(t l n a b c d e f u:Nat):Obj:=co [.str x t,.str x (t+1),.str "/claim/cut.py" (t+2),.int l 0,.int n 0,.int 0 0,.int 0 0,.int 3 0,R0 a,.bool true,.int 181 0,R0 b,R0 c,R0 d,R0 e,R0 f,.int u 0,.int l 0,.str "/claim/cut.py" (u+1)]
def Si(x:Str)(C ns m t u:Nat)(bs up subs:List Value):Obj:=⟨.type "type",none,.cls { name:=x,bases:=bs,mro:=.ref C::(up++[.type "ValueError",.type "Exception",.type "BaseException",.type "object"]),ns:=ns,qualname:=x,subclasses:=subs },#[some (.ref m),none,some (.str x t),some (.str x u),some (.builtin "ValueError.__new__"),some (.bool true)]⟩
def QW{S A B C D E F J O:Type}{x:Option S}{f:S->A×B×C×D×E×F×J}{o:S->O}{g:A×B×C×D×E×F×J}{v:O}(h0:x.map (λs=>(f s).1)=some g.1)(h1:x.map (λs=>(f s).2.1)=some g.2.1)(h2:x.map (λs=>(f s).2.2.1)=some g.2.2.1)(h3:x.map (λs=>((f s).2.2.2.1,(f s).2.2.2.2.1))=some (g.2.2.2.1,g.2.2.2.2.1))(h4:x.map (λs=>(f s).2.2.2.2.2.1)=some g.2.2.2.2.2.1)(h5:x.map (λs=>(f s).2.2.2.2.2.2)=some g.2.2.2.2.2.2)(h6:x.map o=some v):x.map (λs=>(f s,o s))=some (g,v):=by
 obtain⟨a,b,c,d,e,i,j⟩:=g;cases x with
 | none=>cases h0
 | some s =>
  simp only[zB,yL,Prod.mk.injEq] at h0 h1 h2 h3 h4 h5 h6 ⊢;refine⟨?_,h6⟩;generalize f s=t at *;obtain⟨a',b',c',d',e',i',j'⟩:=t;dsimp only at *;obtain⟨h3,h3'⟩:=h3;subst h0 h1 h2 h3 h3' h4 h5;rfl
end Hd
namespace K34
open PySem L2 PySem.Spec PyProof.Rows Hd PySem.W
abbrev top(i:Nat):Stmt:=PySem.Challenge.pw_stillflow_k34_costs.main.body.getD i (.Pass ⟨0,0,0,0⟩)
def vw:Program:=W.view PySem.Challenge.pw_stillflow_k34_costs [1,2,3,4,5,7,8,9,10,11,12,13,14,15,16,17,18,19,20,21,22,23,24,25,26,28,29,30,31,32,34,36,37,38,39,40,42,43,44,45,46,47,49,50,51,52,53,54,55,56,57,58,59,60,61,62,63,64]
abbrev VE:Addr:=24
abbrev VW:List (Str×Addr):=[("NoWorld",37),("NoPlan",49),("NoPlace",61),("TooMany",73)]
def lJ:Value:=(.str "stillflow.worlds" 271)
def Mm:Value:=(.str "stillflow.flows" 410)
def Vp:Value:=(.str "stillflow.comparing" 450)
def OJ:Value:=(.str "stillflow.listing" 458)
def Jb:Value:=(.str "stillflow.costs" 489)
def nj:Value:=(.str "law_stillflow_k34_costs" 539)
def Kf(P:Params):W.Frag:=[(3,⟨.type "dict",none,.dict #[en P "__name__" 165 (.str "law_stillflow_k34_costs" 539),en P "__doc__" 166 .none,en P "__package__" 167 .none,en P "__loader__" 168 (.builtin "__main__.__loader__#opaque"),en P "__spec__" 169 .none,en P "__annotations__" 170 (.ref 6),en P "__builtins__" 171 (.ref 4),en P "__file__" 173 (.str "/claim/cut.py" 172),en P "__cached__" 174 .none,en P "FlowError" 206 (.ref 24),en P "NoWorld" 222 (.ref 37),en P "NoPlan" 238 (.ref 49),en P "NoPlace" 254 (.ref 61),en P "TooMany" 270 (.ref 73),en P "MOST_PLACES" 274 (.int 4 273),en P "MOST" 276 (.int 9 275),en P "is_whole" 285 (.ref 82),en P "is_number" 293 (.ref 89),en P "is_long" 302 (.ref 96),en P "are_likes" 308 (.ref 101),en P "is_end" 316 (.ref 108),en P "is_way" 325 (.ref 115),en P "are_parts" 331 (.ref 120),en P "liked_pairs" 337 (.ref 125),en P "is_world" 343 (.ref 130),en P "through" 349 (.ref 135),en P "keeps_amounts" 355 (.ref 140),en P "is_plan" 361 (.ref 145),en P "check_world" 368 (.ref 152),en P "check_plan" 376 (.ref 159),en P "check_whole" 385 (.ref 166),en P "check_number" 393 (.ref 173),en P "check_side" 400 (.ref 180),en P "check_place" 409 (.ref 187),en P "ways_of" 417 (.ref 192),en P "wants_more" 423 (.ref 197),en P "why_kept" 432 (.ref 204),en P "first_leaving" 441 (.ref 211),en P "is_still" 449 (.ref 218),en P "on_ways_of" 457 (.ref 223),en P "MOST_LISTED" 461 (.int 3000 460),en P "check_many" 470 (.ref 230),en P "within_limits" 476 (.ref 235),en P "all_plans" 482 (.ref 240),en P "all_rests" 488 (.ref 245),en P "cost_of_place" 496 (.ref 250),en P "cost_of_side" 502 (.ref 255),en P "cost" 512 (.ref 262),en P "costs" 520 (.ref 269),en P "unfairness" 530 (.ref 276),en P "fairest" 538 (.ref 283),en P "_law_cell" 548 (.ref 290),en P "_law_drawn" 558 (.ref 297),en P "_law_orders" 573 (.ref 304),en P "_law_world" 579 (.ref 309),en P "_law_used" 585 (.ref 314),en P "_law_fits" 596 (.ref 321),en P "_law_plans" 602 (.ref 326),en P "_law_plan" 616 (.ref 333),en P "_law_wants" 630 (.ref 340),en P "_law_why" 642 (.ref 347),en P "_law_rests" 648 (.ref 352),en P "_law_cost" 662 (.ref 359),en P "_law_both" 668 (.ref 364),en P "_law_refused" 676 (.ref 371),en P "_law_told" 687 (.ref 378),en P "law" 693 (.ref 383)] 67,#[]⟩),
 (23,⟨.type "dict",none,.dict #[en P "__module__" 196 (.str "stillflow.errors" 187),en P "__firstlineno__" 200 (.int 2 199),en P "__static_attributes__" 201 (.ref 22),en P "__weakref__" 203 (.ref 25),en P "__doc__" 204 .none] 3,#[]⟩),
 (24,Si "FlowError" 24 23 15 189 197 [(.type "ValueError")] [] [(.ref 37),(.ref 49),(.ref 61),(.ref 73)]),
 (36,⟨.type "dict",none,.dict #[en P "__module__" 214 (.str "stillflow.errors" 187),en P "__firstlineno__" 218 (.int 4 217),en P "__static_attributes__" 219 (.ref 35),en P "__doc__" 220 .none] 2,#[]⟩),
 (37,Si "NoWorld" 37 36 28 207 215 [(.ref 24)] [(.ref 24)] []),
 (48,⟨.type "dict",none,.dict #[en P "__module__" 230 (.str "stillflow.errors" 187),en P "__firstlineno__" 234 (.int 6 233),en P "__static_attributes__" 235 (.ref 47),en P "__doc__" 236 .none] 2,#[]⟩),
 (49,Si "NoPlan" 49 48 40 223 231 [(.ref 24)] [(.ref 24)] []),
 (60,⟨.type "dict",none,.dict #[en P "__module__" 246 (.str "stillflow.errors" 187),en P "__firstlineno__" 250 (.int 8 249),en P "__static_attributes__" 251 (.ref 59),en P "__doc__" 252 .none] 2,#[]⟩),
 (61,Si "NoPlace" 61 60 52 239 247 [(.ref 24)] [(.ref 24)] []),
 (72,⟨.type "dict",none,.dict #[en P "__module__" 262 (.str "stillflow.errors" 187),en P "__firstlineno__" 266 (.int 10 265),en P "__static_attributes__" 267 (.ref 71),en P "__doc__" 268 .none] 2,#[]⟩),
 (73,Si "TooMany" 73 72 64 255 263 [(.ref 24)] [(.ref 24)] []),
 (81,gH "is_whole" 277 15 3 76 77 0 78 79 80 283),
 (82,fo "is_whole" (top 9) lJ 81),
 (88,gH "is_number" 286 19 2 83 84 0 85 86 87 291),
 (89,fo "is_number" (top 10) lJ 88),
 (95,gH "is_long" 294 21 3 90 91 0 92 93 94 300),
 (96,fo "is_long" (top 11) lJ 95),
 (100,gH "are_likes" 303 23 2 97 98 0 0 0 99 306),
 (101,fo "are_likes" (top 12) lJ 100),
 (107,gH "is_end" 309 29 2 102 103 0 104 105 106 314),
 (108,fo "is_end" (top 13) lJ 107),
 (114,gH "is_way" 317 31 3 109 110 0 111 112 113 323),
 (115,fo "is_way" (top 14) lJ 114),
 (119,gH "are_parts" 326 35 3 116 117 0 0 0 118 329),
 (120,fo "are_parts" (top 15) lJ 119),
 (124,gH "liked_pairs" 332 43 1 121 122 0 0 0 123 335),
 (125,fo "liked_pairs" (top 16) lJ 124),
 (129,gH "is_world" 338 48 1 126 127 0 0 0 128 341),
 (130,fo "is_world" (top 17) lJ 129),
 (134,gH "through" 344 55 4 131 132 0 0 0 133 347),
 (135,fo "through" (top 18) lJ 134),
 (139,gH "keeps_amounts" 350 57 3 136 137 0 0 0 138 353),
 (140,fo "keeps_amounts" (top 19) lJ 139),
 (144,gH "is_plan" 356 59 2 141 142 0 0 0 143 359),
 (145,fo "is_plan" (top 20) lJ 144),
 (151,gH "check_world" 362 66 1 146 147 0 148 149 150 366),
 (152,fo "check_world" (top 21) lJ 151),
 (158,gH "check_plan" 369 69 2 153 154 0 155 156 157 374),
 (159,fo "check_plan" (top 22) lJ 158),
 (165,gH "check_whole" 377 73 3 160 161 0 162 163 164 383),
 (166,fo "check_whole" (top 23) lJ 165),
 (172,gH "check_number" 386 76 2 167 168 0 169 170 171 391),
 (173,fo "check_number" (top 24) lJ 172),
 (179,gH "check_side" 394 78 1 174 175 0 176 177 178 398),
 (180,fo "check_side" (top 25) lJ 179),
 (186,gH "check_place" 401 80 3 181 182 0 183 184 185 407),
 (187,fo "check_place" (top 26) lJ 186),
 (191,gH "ways_of" 412 84 3 188 189 0 0 0 190 415),
 (192,fo "ways_of" (top 28) Mm 191),
 (196,gH "wants_more" 418 89 4 193 194 0 0 0 195 421),
 (197,fo "wants_more" (top 29) Mm 196),
 (203,gH "why_kept" 424 96 3 198 199 0 200 201 202 430),
 (204,fo "why_kept" (top 30) Mm 203),
 (210,gH "first_leaving" 433 104 2 205 206 0 207 208 209 439),
 (211,fo "first_leaving" (top 31) Mm 210),
 (217,gH "is_still" 442 109 2 212 213 0 214 215 216 447),
 (218,fo "is_still" (top 32) Mm 217),
 (222,gH "on_ways_of" 452 112 4 219 220 0 0 0 221 455),
 (223,fo "on_ways_of" (top 34) Vp 222),
 (229,gH "check_many" 462 116 1 224 225 0 226 227 228 468),
 (230,fo "check_many" (top 37) OJ 229),
 (234,gH "within_limits" 471 122 1 231 232 0 0 0 233 474),
 (235,fo "within_limits" (top 38) OJ 234),
 (239,gH "all_plans" 477 130 1 236 237 0 0 0 238 480),
 (240,fo "all_plans" (top 39) OJ 239),
 (244,gH "all_rests" 483 134 1 241 242 0 0 0 243 486),
 (245,fo "all_rests" (top 40) OJ 244),
 (249,gH "cost_of_place" 491 137 4 246 247 0 0 0 248 494),
 (250,fo "cost_of_place" (top 42) Jb 249),
 (254,gH "cost_of_side" 497 141 3 251 252 0 0 0 253 500),
 (255,fo "cost_of_side" (top 43) Jb 254),
 (261,gH "cost" 503 143 4 256 257 0 258 259 260 510),
 (262,fo "cost" (top 44) Jb 261),
 (268,gH "costs" 513 147 2 263 264 0 265 266 267 518),
 (269,fo "costs" (top 45) Jb 268),
 (275,gH "unfairness" 521 150 2 270 271 0 272 273 274 528),
 (276,fo "unfairness" (top 46) Jb 275),
 (282,gH "fairest" 531 154 1 277 278 0 279 280 281 536),
 (283,fo "fairest" (top 47) Jb 282),
 (289,gH "_law_cell" 541 157 2 284 285 0 286 287 288 546),
 (290,fo "_law_cell" (top 49) nj 289),
 (296,gH "_law_drawn" 549 161 3 291 292 0 293 294 295 556),
 (297,fo "_law_drawn" (top 50) nj 296),
 (303,gH "_law_orders" 559 165 3 298 299 0 300 301 302 571),
 (304,fo "_law_orders" (top 51) nj 303),
 (308,gH "_law_world" 574 173 3 305 306 0 0 0 307 577),
 (309,fo "_law_world" (top 52) nj 308),
 (313,gH "_law_used" 580 189 4 310 311 0 0 0 312 583),
 (314,fo "_law_used" (top 53) nj 313),
 (320,gH "_law_fits" 586 191 2 315 316 0 317 318 319 594),
 (321,fo "_law_fits" (top 54) nj 320),
 (325,gH "_law_plans" 597 197 1 322 323 0 0 0 324 600),
 (326,fo "_law_plans" (top 55) nj 325),
 (332,gH "_law_plan" 603 205 3 327 328 0 329 330 331 614),
 (333,fo "_law_plan" (top 56) nj 332),
 (339,gH "_law_wants" 617 212 5 334 335 0 336 337 338 628),
 (340,fo "_law_wants" (top 57) nj 339),
 (346,gH "_law_why" 631 220 3 341 342 0 343 344 345 640),
 (347,fo "_law_why" (top 58) nj 346),
 (351,gH "_law_rests" 643 227 2 348 349 0 0 0 350 646),
 (352,fo "_law_rests" (top 59) nj 351),
 (358,gH "_law_cost" 649 229 4 353 354 0 355 356 357 660),
 (359,fo "_law_cost" (top 60) nj 358),
 (363,gH "_law_both" 663 236 2 360 361 0 0 0 362 666),
 (364,fo "_law_both" (top 61) nj 363),
 (370,gH "_law_refused" 669 241 1 365 366 0 367 368 369 674),
 (371,fo "_law_refused" (top 62) nj 370),
 (377,gH "_law_told" 677 247 4 372 373 0 374 375 376 685),
 (378,fo "_law_told" (top 63) nj 377),
 (382,gH "law" 688 254 1 379 380 0 0 0 381 691),
 (383,fo "law" (top 64) nj 382)]
def hk:W.Hook:=W.kmHook Kf [3,23,24,36,37,48,49,60,61,72,73,81,82,88,89,95,96,100,101,107,108,114,115,119,120,124,125,129,130,134,135,139,140,144,145,151,152,158,159,165,166,172,173,179,180,186,187,191,192,196,197,203,204,210,211,217,218,222,223,229,230,234,235,239,240,244,245,249,250,254,255,261,262,268,269,275,276,282,283,289,290,296,297,303,304,308,309,313,314,320,321,325,326,332,333,339,340,346,347,351,352,358,359,363,364,370,371,377,378,382,383] (λ_=>rfl) [189,278]
abbrev rn(w:World):=openEnds treeTable PySem.Challenge.pw_stillflow_k34_costs w 6000
abbrev sn(s:Shared):=openSeen vw [] (importedModules PySem.Challenge.pw_stillflow_k34_costs.main.body) (λs=>xlAt vw [] s&&recOk [] s) true s
abbrev gd:=openGood vw []
def VC(w:World):(rn w).map (λs=>(sn s).1)=some (gd.1):=by kernel_rfl
def VV(w:World):(rn w).map (λs=>(sn s).2.1)=some (gd.2.1):=by kernel_rfl
def VM(w:World):(rn w).map (λs=>(sn s).2.2.1)=some (gd.2.2.1):=by kernel_rfl
def VO(w:World):(rn w).map (λs=>((sn s).2.2.2.1,(sn s).2.2.2.2.1))=some ((gd.2.2.2.1,gd.2.2.2.2.1)):=by kernel_rfl
def VP(w:World):(rn w).map (λs=>(sn s).2.2.2.2.2.1)=some (gd.2.2.2.2.2.1):=by kernel_rfl
def VI(w:World):(rn w).map (λs=>(sn s).2.2.2.2.2.2)=some (gd.2.2.2.2.2.2):=by kernel_rfl
def VT(w:World):(rn w).map (λs=>hk.obs s)=some (hk.val w):=by kernel_rfl
def left:LeftO PySem.Challenge.pw_stillflow_k34_costs vw [] (λs=>xlAt vw [] s&&recOk [] s) hk.obs hk.val 6000:=λw=>QW (VC w) (VV w) (VM w) (VO w) (VP w) (VI w) (VT w)
def Uo:PySem.Challenge.rw_stillflow_k34_costs.wellSaid=true:=by kernel_rfl
end K34
namespace L2
open PySem PySem.Spec PyProof.Rows
abbrev DH:=Sum Int Str
def Pi:DH->Value->Bool
 | .inl k,v=>Value.isInt k v
 | .inr x,v=>Value.isStrOf x v
def UD(w:World):DH->Int
 | .inl k=>hashInt k
 | .inr x=>hashStr w x
def cA:∀ {k:DH}{v:Value},Pi k v=true->(∃i t,k=Sum.inl i/\v=Value.int i t)\/(∃x t,k=Sum.inr x/\v=Value.str x t)
 | .inl i,v,h=>by
  obtain⟨t,e⟩:=Value.isInt_shape (k:=i) (v:=v) h;exact .inl ⟨i,t,rfl,e⟩
 | .inr x,v,h=>by
  obtain⟨t,e⟩:=Value.isStrOf_shape (x:=x) (v:=v) h;exact .inr ⟨x,t,rfl,e⟩
def P2(a b:Int):decide ((Sum.inl a:DH)=Sum.inl b)=(a == b):=by
 by_cases e:a=b
 ·subst e;simp
 ·have h:¬ (Sum.inl a:DH)=Sum.inl b:=λq=>e (Sum.inl.inj q);rw[zZ h];exact (beq_eq_false_iff_ne.mpr e).symm
def P7(a b:Str):decide ((Sum.inr a:DH)=Sum.inr b)=decide (a=b):=by
 by_cases e:a=b
 ·subst e;simp
 ·have h:¬ (Sum.inr a:DH)=Sum.inr b:=λq=>e (Sum.inr.inj q);rw[zZ h,zZ e]
def QY(a:Int)(b:Str):decide ((Sum.inl a:DH)=Sum.inr b)=false:=zZ (λq=>nomatch q)
def Qa(a:Str)(b:Int):decide ((Sum.inr a:DH)=Sum.inl b)=false:=zZ (λq=>nomatch q)
def FN(prog:Program)(w:World):PySem.KeyKind prog w DH where
 is:=Pi
 hash:=UD w
 inj:=λv a b ha hb=>by
  rcases cA ha with ⟨i,t,rfl,rfl⟩|⟨x,t,rfl,rfl⟩
  ·rcases cA hb with ⟨j,u,rfl,e⟩|⟨y,u,rfl,e⟩
   ·injection e with e1 _;rw[e1]
   ·exact nomatch e
  ·rcases cA hb with ⟨j,u,rfl,e⟩|⟨y,u,rfl,e⟩
   ·exact nomatch e
   ·injection e with e1 _;rw[e1]
 byValue:=λk v h=>by
  rcases cA h with ⟨i,t,rfl,rfl⟩|⟨x,t,rfl,rfl⟩<;>rfl
 pyHash:=λhv h=>by
  rcases cA hv with ⟨i,t,rfl,rfl⟩|⟨x,t,rfl,rfl⟩
  ·exact wpAny_pyHash_int h
  ·exact wpAny_pyHash_str h
 eqBool:=λhu hv h=>by
  rcases cA hu with ⟨i,t,rfl,rfl⟩|⟨x,t,rfl,rfl⟩
  ·rcases cA hv with ⟨j,u,rfl,rfl⟩|⟨y,u,rfl,rfl⟩
   ·rw[P2] at h;exact wpAny_eqBool_int h
   ·rw[QY] at h;exact SeqAt.EqAt.int_str i t y u _ _ _ _ h
  ·rcases cA hv with ⟨j,u,rfl,rfl⟩|⟨y,u,rfl,rfl⟩
   ·rw[Qa] at h;exact SeqAt.EqAt.str_int x t j u _ _ _ _ h
   ·rw[P7] at h;exact wpAny_eqBool_str h
 «strs»:=λk x t v h=>by
  rcases cA h with ⟨i,u,rfl,e⟩|⟨y,u,rfl,e⟩
  ·exact nomatch e
  ·injection e with e1 _
   subst e1;cases v<;>rfl
inductive V where
 | V6|bl (b:Bool)|int (i:Int)|str (x:Str)|ZQ (b:Array UInt8)|flt (b:UInt64)|ref (a:Addr)|ty (n:String)
 deriving DecidableEq
def RelV:V->Value->Prop
 | .V6,u=>u=Value.none
 | .bl b,u=>u=Value.bool b
 | .int i,u=>∃t,u=Value.int i t
 | .str x,u=>∃t,u=Value.str x t
 | .ZQ b,u=>∃t,u=Value.bytes b t
 | .flt b,u=>∃t,u=Value.float b t
 | .ref a,u=>u=Value.ref a
 | .ty n,u=>u=Value.type n
abbrev aQ:List V->List Value->Prop:=Paired RelV
def aQ.length(r:aQ xs us):xs.length=us.length:=Paired.length r
def aQ.get:∀ {xs:List V}{us:List Value}{i:Nat}{x:V},aQ xs us->xs[i]?=some x->∃u,us[i]?=some u/\RelV x u
 | _,_,_,_,.nil,e=>by simp at e
 | _,_,0,_,.cons r _,e=>by simp at e;subst e;exact⟨_,rfl,r⟩
 | _,_,i+1,x,.cons _ t,e=>by
  obtain⟨u,h1,h2⟩:=aQ.get (i:=i) (x:=x) t (by simpa using e);exact⟨u,by simpa using h1,h2⟩
def aQ.set(r:RelV x u):∀ {xs:List V}{us:List Value}(i:Nat),aQ xs us->aQ (xs.set i x) (us.set i u)
 | _,_,_,.nil=>.nil
 | _,_,0,.cons _ t=>.cons r t
 | _,_,i+1,.cons q t=>.cons q (aQ.set r i t)
def aQ.append:∀ {xs ys:List V}{us ws:List Value},aQ xs us->aQ ys ws->aQ (xs++ys) (us++ws)
 | _,_,_,_,.nil,s=>s
 | _,_,_,_,.cons r t,s=>.cons r (aQ.append t s)
def aQ.take:∀ {xs:List V}{us:List Value}(n:Nat),aQ xs us->aQ (xs.take n) (us.take n)
 | _,_,0,_=>.nil
 | _,_,_+1,.nil=>.nil
 | _,_,n+1,.cons r t=>.cons r (aQ.take n t)
def aQ.drop:∀ {xs:List V}{us:List Value}(n:Nat),aQ xs us->aQ (xs.drop n) (us.drop n)
 | _,_,0,r=>r
 | _,_,_+1,.nil=>.nil
 | _,_,n+1,.cons _ t=>aQ.drop n t
def Sj:Option V->Option Value->Prop
 | some v,some u=>RelV v u
 | none,none=>True
 | _,_=>False
def KV:List (κ×V)->List (κ×Value)->Prop:=Paired λ(p:κ×V) (q:κ×Value)=>p.1=q.1/\RelV p.2 q.2
def kV:DH->V
 | .inl i=>.int i
 | .inr x=>.str x
inductive HO where
  | lst (xs:List V)
  | tup (xs:List V)
  | dK (WW:List (DH×V))|dT (WW:List (List DH×V))
  | set (S:Int->Bool) (n:Nat)
  | ins (C dx:Addr) (fs:List (Str×V))
  | own (x:Addr)
  | xd (fs:List (Str×V))
  | met (f x:Addr)
  | rng (lo hi:Int)
  | WX (o:Obj) (u:HO)
  | tab (q:Str)
 | Yw (q:Str)
  | ext (φ:Heap->Prop)
abbrev Hp:=Addr->Option HO
def upd(H:Hp)(a:Addr)(o:HO):Hp:=λb=>if b=a then some o else H b
def aF:upd H a o a=some o:=by unfold upd;rw[yM rfl]
def aB(h:b≠a):upd H a o b=H b:=by unfold upd;rw[yO h]
def aU{H:Hp}{a b:Addr}{o:HO}(h:H a=some o)(h':H b=none):a≠b:=by
 intro e;subst e;rw[h] at h';cases h'
def uI(h:Heap)(a:Addr)(its:Array Value):Prop:=IsTup h a its/\∃o,h.get? a=some o/\o.dict=none
def uI.new(h:Heap)(its:Array Value):uI (h.push { cls:=.type "tuple",data:=.seq its }) h.objs.size its:=⟨IsTup.new _ _,_,zX _ rfl,rfl⟩
section
variable (P:Program) (w:World)
def fw(H:Hp)(h:Heap)(a:Addr):HO->Prop
 | .lst xs=>xs.length<=sizeLine/\∃ (its:List Value) (n:Nat),aQ xs its/\h.get? a=some { cls:=.type "list",data:=.seq its.toArray n }
 | .tup xs=>xs.length<=sizeLine/\∃its:List Value,aQ xs its/\uI h a its.toArray
 | .dK WW=>WW.length<=sizeLine/\(a == sysModules)=false/\∃vs,KV WW vs/\h.DictOf (FN P w) a vs
 | .dT WW=>WW.length<=sizeLine/\(a == sysModules)=false/\∃xs:List (List DH×Addr×Value),
   Paired (λ(p:List DH×V) (q:List DH×Addr×Value)=>p.1=q.1/\H q.2.1=some (.tup (p.1.map kV))/\RelV p.2 q.2.2) WW xs /\
   ∃o es ep,h.get? a=some o/\o.ExactDict/\o.data=.dict es ep/\es.toList=xs.map (entryOfKey (tupleKind (FN P w)))/\(xs.map (·.1)).Nodup
 | .set S n=>h.SetOf (intKind P w) a S n
 | .ins C dx fs=>H dx=some (.own a)/\fs.length<=1000/\dx≠a/\h.get? a=some (W.instObj C dx) /\
   ∃mA,h.Ns1 dx mA/\(∀f,Sj (fs.lookup f) (mA f))/\PySem.Within mA (fs.map (·.1))
 | .own _=>∃o,h.get? a=some o
 | .xd fs=>∃mA,h.Ns1 a mA/\∀f,Sj (fs.lookup f) (mA f)
 | .rng lo hi=>∃t u v,h.get? a=some { cls:=.type "range",data:=.fields #[.int lo t,.int hi u,.int 1 v] }
 | .WX o u=>h.get? a=some o/\fw H h a u
 | .tab q=>∃ps:Array Value,h.get? a=some { cls:=.none,data:=.fields ps }/\TriplesOk ps.toList/\∀pos v,codeAmong pos ps.toList=some v->∃c,v=.ref c/\H c=some (.Yw q)
 | .Yw q=>h.CodeRec (.ref a) q
 | .met f x=>h.get? a=some (W.methodObj (.ref f) (.ref x))
 | .ext φ=>φ h/\(∃o,h.get? a=some o)/\∀h1 h2:Heap,φ h1->(∀o,h1.get? a=some o->h2.get? a=some o)->φ h2
def pU(H:Hp)(h:Heap):Prop:=∀a o,H a=some o->fw P w H h a o
end
section
def fw.lt(x:fw P w H h a o):a < h.objs.size:=by
 cases o with
 | lst xs=>obtain⟨_,_,_,_,e⟩:=x;exact zY e
 | tup xs=>obtain⟨_,_,_,p⟩:=x;exact p.1.lt
 | dK WW=>obtain⟨_,_,_,_,o,_,_,e,_⟩:=x;exact zY e
 | dT WW=>obtain⟨_,_,_,_,o,_,_,e,_⟩:=x;exact zY e
 | set S n=>obtain⟨o,_,_,_,e,_⟩:=x;exact zY e
 | ins C dx fs=>obtain⟨_,_,_,e,_⟩:=x;exact zY e
 | own y=>obtain⟨_,e⟩:=x;exact zY e
 | xd fs=>obtain⟨_,⟨_,_,_,e,_⟩,_⟩:=x;exact zY e
 | rng lo hi=>obtain⟨_,_,_,e⟩:=x;exact zY e
 | WX ob u=>obtain⟨e,_⟩:=x;exact zY e
 | tab q=>obtain⟨_,e,_⟩:=x;exact zY e
 | Yw q=>obtain⟨_,_,_,_,e0,e,_⟩:=x;cases e0;exact zY e
 | met f y=>exact zY (show h.get? a=some _ from x)
 | ext φ=>obtain⟨_,⟨_,e⟩,_⟩:=x;exact zY e
def Paired.Y0:∀ {abG:List α}{abH:List β},Paired F abG abH->(∀a b,F a b->G a b)->Paired G abG abH
 | _,_,.nil,_=>.nil
 | _,_,.cons r t,f=>.cons (f _ _ r) (Paired.Y0 t f)
def Vv:HO->Prop
 | .tup _=>True
 | .Yw _=>True
 | _=>False
def fw.WQ(x:fw P w H h a o)(k:∀b u,(b=a\/H b=some (.own a))->h.get? b=some u->h'.get? b=some u)
  (ho:∀b,H b=some (.own a)->H' b=some (.own a)) (ht:∀b u,H b=some u->Vv u->H' b=some u):fw P w H' h' a o:=by
 induction o with
 | lst xs=>obtain⟨z,its,n,r,e⟩:=x;exact⟨z,its,n,r,k _ _ (.inl rfl) e⟩
 | tup xs=>obtain⟨z,its,r,⟨ob,e,c⟩,o2,e2,d2⟩:=x;exact⟨z,its,r,⟨ob,k _ _ (.inl rfl) e,c⟩,o2,k _ _ (.inl rfl) e2,d2⟩
 | dK WW=>obtain⟨z,y,vs,r,ob,es,ep,e,c⟩:=x;exact⟨z,y,vs,r,ob,es,ep,k _ _ (.inl rfl) e,c⟩
 | dT WW =>
  obtain⟨z,y,xs,r,ob,es,ep,e,c⟩:=x;exact⟨z,y,xs,Paired.Y0 r λp q z=>⟨z.1,ht _ _ z.2.1 trivial,z.2.2⟩,ob,es,ep,k _ _ (.inl rfl) e,c⟩
 | set S n=>obtain⟨ob,es,ep,t,e,c⟩:=x;exact⟨ob,es,ep,t,k _ _ (.inl rfl) e,c⟩
 | ins C dx fs =>
  obtain⟨d,z,ne,e,mA,⟨od,es,ep,e2,c⟩,r⟩:=x;exact⟨ho _ d,z,ne,k _ _ (.inl rfl) e,mA,⟨od,es,ep,k _ _ (.inr d) e2,c⟩,r⟩
 | own y=>obtain⟨ob,e⟩:=x;exact⟨ob,k _ _ (.inl rfl) e⟩
 | xd fs=>obtain⟨mA,⟨od,es,ep,e,c⟩,r⟩:=x;exact⟨mA,⟨od,es,ep,k _ _ (.inl rfl) e,c⟩,r⟩
 | rng lo hi=>obtain⟨t,u,v,e⟩:=x;exact⟨t,u,v,k _ _ (.inl rfl) e⟩
 | WX ob u ih=>obtain⟨e,q⟩:=x;exact⟨k _ _ (.inl rfl) e,ih q⟩
 | tab q=>obtain⟨ps,e,t,c⟩:=x;exact⟨ps,k a _ (.inl rfl) e,t,λpos v z=>let ⟨c0,z1,z2⟩:=c pos v z;⟨c0,z1,ht _ _ z2 trivial⟩⟩
 | Yw q=>obtain⟨c,oc,vs,t,e0,e,r⟩:=x;cases e0;exact⟨_,oc,vs,t,rfl,k _ _ (.inl rfl) e,r⟩
 | met f y =>
  have e:h.get? a=some (W.methodObj (.ref f) (.ref y)):=x;show h'.get? a=some (W.methodObj (.ref f) (.ref y));exact k a _ (.inl rfl) e
 | ext φ=>obtain⟨p,⟨o,e⟩,st⟩:=x;exact⟨st _ _ p λo q=>k _ _ (.inl rfl) q,⟨o,k _ _ (.inl rfl) e⟩,st⟩
def pU.lt(x:pU P w H h)(e:H a=some o):a < h.objs.size:=(x a o e).lt
def pU.fresh(x:pU P w H h)(e:h.objs.size<=a):H a=none:=by
 cases q:H a with
 | none=>rfl
 | some u=>exact absurd (zP (x.lt q) e) (qF _)
def pU.kept(x:pU P w H h)(k:∀b u,h.get? b=some u->h'.get? b=some u):pU P w H h':=λa o e =>
 (x a o e).WQ (λb u _ q=>k b u q) (λ_ q=>q) λ_ _ q _=>q
def pU.laid(x:pU P w H h)(k:∀b u,h.get? b=some u->h'.get? b=some u)(hp:h.objs.size<=a)(new:fw P w (upd H a o) h' a o):pU P w (upd H a o) h':=λb u e=>by
 have hn:=x.fresh hp;by_cases hb:b=a
 ·subst hb;rw[aF] at e;cases e;exact new
 ·rw[aB hb] at e;exact (x b u e).WQ (λc v _ q=>k c v q) (λc q=>by rw[aB (aU q hn)];exact q) λc xs q _=>by rw[aB (aU q hn)];exact q
end
def Rd(H:Hp)(a:Addr)(u:HO):Prop:=H a=some u\/∃o,H a=some (.WX o u)
def Rd.ok(r:Rd H a u)(x:pU P w H h):fw P w H h a u:=by
 rcases r with r|⟨o,r⟩
 ·exact x a u r
 ·obtain⟨_,q⟩:=x a _ r;exact q
def Sy:Option HO->Prop
 | some (.lst _)=>True
 | some (.dK _)=>True
 | some (.dT _)=>True
 | some (.set _ _)=>True
 | some (.ins _ _ _)=>True
 | some (.ext _)=>True
 | _=>False
section
def pU.write(ok:pU P w H h)(mu:Sy (H x))(he:e=x\/H e=some (.own x))(k:∀b u,b≠e->h.get? b=some u->h'.get? b=some u)(heo:∃u,h'.get? e=some u)
  (new:fw P w (upd H x o') h' x o'):pU P w (upd H x o') h':=λb u q=>by
 have abI:∀c y,H c=some (.own y)->c≠x:=λc y r z=>by subst z;rw[r] at mu;exact mu
 have adg:∀c u,H c=some u->Vv u->c≠x:=λc u r hr z=>by subst z;rw[r] at mu;cases u<;>first|exact mu|exact hr
 by_cases hb:b=x
 ·subst hb;rw[aF] at q;cases q;exact new
 ·rw[aB hb] at q;by_cases hbe:b=e
  ·have q':H b=some (.own x):=by
    rcases he with z|z
    ·exact absurd (hbe.trans z) hb
    ·rw[hbe];exact z
   rw[q] at q';cases q';obtain⟨v,hv⟩:=heo;exact⟨v,by rw[hbe];exact hv⟩
  ·refine (ok b u q).WQ (λc v hc r=>k c v ?_ r) (λc r=>by rw[aB (abI c b r)];exact r) λc xs r hr=>by rw[aB (adg c xs r hr)];exact r
   rcases hc with rfl|hc
   ·exact hbe
   ·rintro rfl;rcases he with z|z
    ·exact abI c b hc z
    ·rw[hc] at z;cases z;exact hb rfl
end
def TV:HO->Prop
 | .tab _=>True
 | .Yw _=>True
 | _=>False
def TV.ZR(h:TV u):¬ Sy (some u):=by cases u<;>first|exactλz=>z|exact h.elim
structure OY(H H':Hp)(h h':Heap):Prop where
 st:∀b u,H b=some u->TV u->H' b=some u
 gr:∀b q ps,H b=some (.tab q)->h.get? b=some { cls:=.none,data:=.fields ps }->∃more:Array Value,h'.get? b=some { cls:=.none,data:=.fields (ps++more) }
def OY.kept(k:∀b u,(∃q,H b=some (.tab q))->h.get? b=some u->h'.get? b=some u)(st:∀b u,H b=some u->TV u->H' b=some u):OY H H' h h' :=
 ⟨st,λb q ps e z=>⟨#[],by rw[Array.append_empty];exact k b _ ⟨q,e⟩ z⟩⟩
def OY.trans(a:OY H H1 h h1)(b:OY H1 H2 h1 h2):OY H H2 h h2 :=
 ⟨λc u q t=>b.st c u (a.st c u q t) t,λc q ps e z=>by
  obtain⟨m1,z1⟩:=a.gr c q ps e z;obtain⟨m2,z2⟩:=b.gr c q _ (a.st c _ e trivial) z1;exact⟨m1++m2,by rw[z2,Array.append_assoc]⟩⟩
structure Un(fs ex:List Addr)(H H':Hp)(h h':Heap):Prop where
 keep:∀b o,h.get? b=some o->H b=none->b∉fs->b∉ex->h'.get? b=some o
 slot:∀b o,h.get? b=some o->H b=none->b∈fs->b∉ex->∃sl,h'.get? b=some { o with slots:=sl }
 free:∀b o,h.get? b=some o->H b=none->b∉ex->H' b=none
 there:∀b o,h.get? b=some o->b∉ex->∃o',h'.get? b=some o'
 Xb:∀b xs,H b=some (.tup xs)->H' b=some (.tup xs)
 WZ:∀b o u,H b=some (.WX o u)->H' b=some (.WX o u)
 WR:OY H H' h h'
section
def Un.any(u:Un fs ex H H1 h h1)(q:h.get? b=some ob)(n:H b=none)(hx:b∉ex):∃sl,h1.get? b=some { ob with slots:=sl }:=by
 by_cases hb:b∈fs
 ·exact u.slot b ob q n hb hx
 ·exact⟨ob.slots,u.keep b ob q n hb hx⟩
def Un.kept(k:∀b u,h.get? b=some u->h'.get? b=some u):Un fs ex H H h h' :=
 ⟨λb ob q _ _ _=>k b ob q,λb ob q _ _ _=>⟨ob.slots,k b ob q⟩,λ_ _ _ n _=>n,λb ob q _=>⟨ob,k b ob q⟩,λ_ _ q=>q,λ_ _ _ q=>q,.kept (λb u _ e=>k b u e) λ_ _ e _=>e⟩
def Un.refl:Un fs ex H H h h:=Un.kept λ_ _ q=>q
def Un.laid(k:∀b u,h.get? b=some u->h'.get? b=some u)(hp:h.objs.size<=a)(hn:H a=none):Un fs ex H (upd H a o) h h' where
 keep:=λb u q _ _ _=>k b u q
 slot:=λb u q _ _ _=>⟨u.slots,k b u q⟩
 free:=λb u q n _=>by rw[aB (yS (zP (zY q) hp))];exact n
 there:=λb u q _=>⟨u,k b u q⟩
 Xb:=λb xs q=>by rw[aB (aU q hn)];exact q
 WZ:=λb u xs q=>by rw[aB (aU q hn)];exact q
 WR:=.kept (λb u _ e=>k b u e) λb u q _=>by rw[aB (aU q hn)];exact q
def Un.write(mu:Sy (H x))(he:e=x\/H e=some (.own x))(k:∀b u,b≠e->h.get? b=some u->h'.get? b=some u)(heo:∃u,h'.get? e=some u):Un fs ex H (upd H x o) h h':=by
 have hx:∀b,H b=none->b≠x:=λb n z=>by subst z;rw[n] at mu;exact mu
 have hb:∀b,H b=none->b≠e:=λb n z=>by
  subst z;rcases he with r|r
  ·exact hx b n r
  ·rw[n] at r;cases r
 have hm:∀b u,H b=some u->¬ Sy (some u)->b≠x:=λb u q nm z=>by subst z;rw[q] at mu;exact nm mu
 refine⟨λb u q n _ _=>k b u (hb b n) q,λb u q n _ _=>⟨u.slots,k b u (hb b n) q⟩,λb u q n _=>by rw[aB (hx b n)];exact n,λb u q _=>?_,
  λb xs q=>by rw[aB (hm b _ q λz=>z)];exact q,λb u xs q=>by rw[aB (hm b _ q λz=>z)];exact q,.kept (λb u z e=>k b u (λr=>by subst r;rcases he with r|r<;>first|(subst r;rcases z with ⟨q,z⟩;rw[z] at mu;exact mu)|(rcases z with ⟨q,z⟩;rw[z] at r;cases r)) e) λb u q nm=>by rw[aB (hm b _ q (nm.ZR))];exact q⟩
 by_cases hbe:b=e
 ·subst hbe;exact heo
 ·exact⟨u,k b u hbe q⟩
end
def Mp(h:Heap)(H:Hp):List Addr:=(List.range h.objs.size).filter λa=>(H a).isSome
def Ai(h:Heap)(H:Hp):Heap:=W.hideAll h (Mp h H)
def Hm(h:Heap)(H:Hp):(Ai h H).objs.size=h.objs.size:=W.hideAll_size _ _
def Lw(e:h.get? b=some o)(n:H b=none):(Ai h H).get? b=some o :=
 W.hideAll_get _ e λhm=>by
  have q:(H b).isSome=true:=(List.mem_filter.mp hm).2;rw[n] at q;simp at q
def N9(e:(Ai h H).get? b=some o):h.get? b=some o/\H b=none:=by
 have e':h.get? b=some o:=W.of_hideAll (Mp h H) e;refine⟨e',?_⟩;cases q:H b with
 | none=>rfl
 | some x =>
  have hm:b∈Mp h H:=List.mem_filter.mpr ⟨List.mem_range.mpr (zY e'),by simp[q]⟩;have z:(Ai h H).get? b=none:=W.hideAll_none (Mp h H) hm;rw[z] at e;cases e
def TK(mg:Str->Option Value)(base:Heap):Prop:=∃bm o,mg "__builtins__"=some (.ref bm)/\bm≠builtinsNs/\bm≠mainGlobals/\base.get? bm=some o/\o.cls=.type "module"/\o.dict=some builtinsNs/\o.data=.plain
structure Mod(K:W.Frag)(mg:Str->Option Value)(base:Heap):Prop where
 kin:K.In base
 glob:base.Ns mainGlobals mg
 blt:∃mb,base.Ns builtinsNs mb/\∀x:Str,x≠"__name__"->mb x=bootBuiltins x
 nolimit:base.NoLimit
 bmd:TK mg base
structure Cx where
 prog:Program
 w:World
 K:W.Frag
 mg:Str->Option Value
 base:Heap
 A:Around
 N:List Str
 Wf:Shared
 V8:Hp
 env:Env
 outer:List Env
 stack:List Env
 ex:List Addr
 fn:Str->Bool
 calm:Bool
 pn:List (Addr×Obj)
 xe:Value->Shared->Prop
def jb(l:List Env):List Addr:=l.filterMap (·.frame)
abbrev Cx.fs(X:Cx):List Addr:=jb X.outer
def NT(sc:Scope)(x:Str):Prop:=sc.names.lookup x=some .local \/ sc.names.lookup x=some .cell\/sc.names.lookup x=some .free
def Loc(sc:Scope)(x:Str):Prop:=sc.names.lookup x=some .local \/ sc.names.lookup x=some .cell
def Look(env:Env)(h:Heap)(m:Str->Option Value)(x:Str)(u:Value):Prop :=
 (env.kindOf x=some .local /\ m x=some u)\/((env.kindOf x=some .cell\/env.kindOf x=some .free)/\∃c,env.cells.lookup x=some c/\h.IsCell c (some u))
structure Cx.Ok(X:Cx):Prop where
 mod:Mod X.K X.mg X.base
 kind:X.env.scope.kind=.function
 glob:X.env.globals=mainGlobals
 blt:X.env.builtins=builtinsNs
 above:X.Wf.heap.objs.size<=X.env.locals
 inj:∀x y c,X.env.cells.lookup x=some c->X.env.cells.lookup y=some c->x=y
 has:∀x,(X.env.kindOf x=some .cell\/X.env.kindOf x=some .free)->∃c,X.env.cells.lookup x=some c
 cab:∀x c,X.fn x=true->X.env.cells.lookup x=some c->X.Wf.heap.objs.size<=c
 hd:X.calm=true->X.A.handled=none
 frames:X.A.frames=some X.stack
 Y1:X.stack=X.outer\/(X.stack=X.env::X.outer/\X.env.frame=some X.env.locals)
 exf:∀b∈X.ex,b≠X.env.locals/\∀x c,X.env.cells.lookup x=some c->c≠b
 bs:∀b o,X.base.get? b=some o->X.Wf.heap.get? b=some o/\X.V8 b=none
 Y2:X.base.objs.size<=X.Wf.heap.objs.size
 XY:∀b o,X.base.get? b=some o->b∉X.ex
 Ye:∀b∈X.ex,b∉X.fs
 W0:X.Wf.heap.FunFrames X.base X.outer
 ZT:∀b∈X.fs,X.V8 b=none
structure Inv(X:Cx)(pins:List (Addr×Obj))(σ:List (Option V))(H:Hp)(s:Shared):Prop where
 ok:X.Ok
 os:s.os=X.Wf.os
 bare:AllBare s.gens
 base:Un X.fs X.ex X.V8 H X.Wf.heap s.heap
 loc:∃m,s.heap.Ns X.env.locals m/\∀ (i:Nat) (x:Str) (v:V),X.N[i]?=some x->σ[i]?=some (some v)->NT X.env.scope x->∃u,RelV v u/\Look X.env s.heap m x u
 cell:∀x c,X.env.cells.lookup x=some c->∃v,s.heap.IsCell c v
 free:H X.env.locals=none
 Wh:∀x c,X.env.cells.lookup x=some c->H c=none
 pin:∀p∈X.pn++pins,s.heap.get? p.1=some p.2/\H p.1=none/\p.1≠X.env.locals/\p.1∉X.fs/\∀v,p.2.data≠.cell v
 Wb:pU X.prog X.w H s.heap
 len:σ.length=X.N.length
section
def Cx.Ok.adh{X:Cx}(ok:X.Ok)(e:X.base.get? b=some o):b∉X.fs:=λhb=>by
 have:=(ok.W0.mem hb).1;rw[e] at this;cases this
def Inv.bs{X:Cx}{s:Shared}(I:Inv X pins σ H s):∀b o,X.base.get? b=some o->s.heap.get? b=some o/\H b=none:=λb o e =>
 ⟨I.base.keep b o (I.ok.bs b o e).1 (I.ok.bs b o e).2 (I.ok.adh e) (I.ok.XY b o e),I.base.free b o (I.ok.bs b o e).1 (I.ok.bs b o e).2 (I.ok.XY b o e)⟩
def Inv.bk(I:Inv X pins σ H s):∀b o,X.base.get? b=some o->s.heap.get? b=some o:=λb o e=>(I.bs b o e).1
def Inv.mod(I:Inv X pins σ H s):Mod X.K X.mg X.base:=I.ok.mod
def Inv.XZ(I:Inv X pins σ H s):X.K.In s.heap:=I.ok.mod.kin.keeps I.bk
def Inv.nolimit(I:Inv X pins σ H s):s.heap.NoLimit:=I.ok.mod.nolimit.keeps I.bk
def Inv.lt(I:Inv X pins σ H s):X.env.locals < s.heap.objs.size:=let ⟨_,hn,_⟩:=I.loc;hn.lt
def Inv.sz(I:Inv X pins σ H s):X.Wf.heap.objs.size<=s.heap.objs.size:=yD I.ok.above (jU I.lt)
def Inv.adi(I:Inv X pins σ H s)(h:s.heap.objs.size<=a):a∉X.fs:=λhb=>by
 obtain⟨_,o,ho,_⟩:=I.ok.W0.mem hb;exact absurd (zP (zY ho) (yD I.sz h)) (qF _)
def Inv.cne(I:Inv X pins σ H s):∀x c,X.env.cells.lookup x=some c->c≠X.env.locals:=λx c e z=>by
 obtain⟨v,o,ho,hd⟩:=I.cell x c e;obtain⟨m,⟨o',es,ep,XA,ZU,_⟩,_⟩:=I.loc;rw[z,XA] at ho;cases ho;rw[ZU] at hd;cases hd
def Inv.W0(I:Inv X pins σ H s):s.heap.FunFrames X.base X.outer:=by
 have all:∀ (l:List Env),(∀b∈jb l,b∈X.fs)->X.Wf.heap.FunFrames X.base l->s.heap.FunFrames X.base l:=by
  intro l
  induction l with
  | nil=>intro _ _;trivial
  | cons env r ih =>
   intro hs hl;obtain⟨hk,⟨L,o,hf,hn,ho,hd⟩,hr⟩:=hl;have hL:L∈X.fs:=hs L (by unfold jb;rw[jH,hf];exact zE);obtain⟨sl,e⟩:=I.base.slot L o ho (I.ok.ZT L hL) hL λz=>I.ok.Ye L z hL;exact⟨hk,⟨L,_,hf,hn,e,hd⟩,ih (λb hb=>hs b (by unfold jb;rw[jH,hf];exact zC _ hb)) hr⟩
 exact all X.outer (λ_ hb=>hb) I.ok.W0
def Inv.stack(I:Inv X pins σ H s):s.heap.FunFrames X.base X.stack:=by
 rcases I.ok.Y1 with e|⟨e,hf⟩
 ·rw[e];exact I.W0
 ·rw[e];obtain⟨m,hn,_⟩:=I.loc;refine .cons (by rw[I.ok.kind];decide) hf hn ?_ I.W0;exact Heap.get?_none_of_le (yD I.ok.Y2 I.ok.above)
def Inv.Yf(I:Inv X pins σ H s):∀b∈jb X.stack,b∈X.env.locals::X.fs:=λb hb=>by
 rcases I.ok.Y1 with e|⟨e,hf⟩
 ·rw[e] at hb;exact zC _ hb
 ·rw[e] at hb;unfold jb at hb;rw[jH,hf] at hb;exact hb
def Inv.W2(I:Inv X pins σ H s):∀b∈jb X.stack,H b=none:=λb hb=>by
 rcases List.mem_cons.mp (I.Yf b hb) with e|hb
 ·rw[e];exact I.free
 ·obtain⟨_,o,ho,_⟩:=I.ok.W0.mem hb;exact I.base.free b o ho (I.ok.ZT b hb) λz=>I.ok.Ye b z hb
def Inv.step{g':Array GenState}{t':Nat}{d':Drawn}{ch:List Addr}(I:Inv X pins σ H s)
  (XQ:∀b∈ch,(b∈X.ex\/X.Wf.heap.objs.size<=b)/\b≠X.env.locals/\(∀x c,X.env.cells.lookup x=some c->c≠b)/\∀p∈X.pn++pins,p.1≠b)
  (keep:∀b o,b≠X.env.locals->b∉X.fs->b∉ch->s.heap.get? b=some o->H b=none->h'.get? b=some o)
  (slot:∀b o,b≠X.env.locals->b∈X.fs->b∉ch->s.heap.get? b=some o->H b=none->∃sl,h'.get? b=some { o with slots:=sl }) (free:∀b o,b∉ch->s.heap.get? b=some o->H b=none->H' b=none)
  (there:∀b o,b∉ch->s.heap.get? b=some o->∃o',h'.get? b=some o')
  (Xb:∀b xs,H b=some (.tup xs)->H' b=some (.tup xs)) (WZ:∀b o u,H b=some (.WX o u)->H' b=some (.WX o u)) (WR:OY H H' s.heap h')
  (ns:∀m,s.heap.Ns X.env.locals m->h'.Ns X.env.locals m) (Wb:pU X.prog X.w H' h') (hg:AllBare g') :
  Inv X pins σ H' { s with heap:=h',gens:=g',drawn:=d',toks:=t' }:=by
 have ZV:∀b o,X.Wf.heap.get? b=some o->b≠X.env.locals:=λb o e=>yS (zP (zY e) I.ok.above);have neC:∀b o,X.Wf.heap.get? b=some o->b∉X.ex->b∉ch:=λb o e hx hb=>by
  rcases (XQ b hb).1 with z|z
  ·exact hx z
  ·exact absurd (zP (zY e) z) (qF _)
 have cellK:∀x c,X.env.cells.lookup x=some c->∀v,s.heap.IsCell c v->h'.IsCell c v:=λx c e v ⟨o,ho,hd⟩=>by
  have YI:c∉ch:=λz=>(XQ c z).2.2.1 x c e rfl;by_cases hc:c∈X.fs
  ·obtain⟨sl,q⟩:=slot c o (I.cne x c e) hc YI ho (I.Wh x c e);exact⟨_,q,hd⟩
  ·exact⟨o,keep c o (I.cne x c e) hc YI ho (I.Wh x c e),hd⟩
 refine⟨I.ok,I.os,hg,⟨λb o e n hb hx=>?_,λb o e n hb hx=>?_,λb o e n hx=>?_,λb o e hx=>?_,λb xs e=>Xb b xs (I.base.Xb b xs e),λb o xs e=>WZ b o xs (I.base.WZ b o xs e),I.base.WR.trans WR⟩,?_,λx c e=>?_,?_,λx c e=>?_,λp hp=>?_,Wb,I.len⟩
 ·exact keep b o (ZV b o e) hb (neC b o e hx) (I.base.keep b o e n hb hx) (I.base.free b o e n hx)
 ·obtain⟨sl,e1⟩:=I.base.slot b o e n hb hx;obtain⟨sl',e2⟩:=slot b _ (ZV b o e) hb (neC b o e hx) e1 (I.base.free b o e n hx);exact⟨sl',e2⟩
 ·obtain⟨o',e1⟩:=I.base.there b o e hx;exact free b o' (neC b o e hx) e1 (I.base.free b o e n hx)
 ·obtain⟨o',e1⟩:=I.base.there b o e hx;exact there b o' (neC b o e hx) e1
 ·obtain⟨m,hn,hl⟩:=I.loc;refine⟨m,ns m hn,λi x v e1 e2 e3=>?_⟩;obtain⟨u,r,l⟩:=hl i x v e1 e2 e3;refine⟨u,r,?_⟩;rcases l with l|⟨k,c,e,z⟩
  ·exact .inl l
  ·exact .inr ⟨k,c,e,cellK x c e _ z⟩
 ·obtain⟨v,z⟩:=I.cell x c e;exact⟨v,cellK x c e v z⟩
 ·obtain⟨m,⟨o,_,_,ho,_⟩,_⟩:=I.loc;exact free _ o (λz=>(XQ _ z).2.1 rfl) ho I.free
 ·obtain⟨v,o,ho,hd⟩:=I.cell x c e;exact free c o (λz=>(XQ c z).2.2.1 x c e rfl) ho (I.Wh x c e)
 ·obtain⟨e,n,ne,nf,d⟩:=I.pin p hp;have YI:p.1∉ch:=λz=>(XQ p.1 z).2.2.2 p hp rfl;exact⟨keep p.1 p.2 ne nf YI e n,free p.1 p.2 YI e n,ne,nf,d⟩
def Inv.un{t':Nat}(I:Inv X pins σ H s)(u:Un X.fs [] H H' s.heap h')(Wb:pU X.prog X.w H' h'):Inv X pins σ H' { s with heap:=h',toks:=t' }:=by
 obtain⟨m,⟨o,es,ep,ho,r⟩,_⟩:=id I.loc;obtain⟨sl,hL⟩:=u.any ho I.free (by simp);exact I.step (g':=s.gens) (d':=s.drawn) (ch:=[]) (λ_ z=>nomatch z) (λb o _ hb _ e n=>u.keep b o e n hb (by simp)) (λb o _ hb _ e n=>u.slot b o e n hb (by simp)) (λb o _ e n=>u.free b o e n (by simp)) (λb o _ e=>u.there b o e (by simp)) u.Xb u.WZ u.WR (λm' hm=>by
  obtain⟨o',es',ep',XA,r'⟩:=hm;rw[ho] at XA;cases XA;exact⟨_,es',ep',hL,r'⟩) Wb I.bare
def Inv.call{t':Nat}{d':Drawn}{ch:List Addr}(I:Inv X pins σ H s)(u:Un (jb X.stack) ch H H' s.heap h')(Wb:pU X.prog X.w H' h')(hg:AllBare g')
  (XQ:∀b∈ch,(b∈X.ex\/X.Wf.heap.objs.size<=b)/\b≠X.env.locals/\(∀x c,X.env.cells.lookup x=some c->c≠b)/\∀p∈X.pn++pins,p.1≠b) :
  Inv X pins σ H' { s with heap:=h',gens:=g',drawn:=d',toks:=t' }:=by
 obtain⟨m,⟨o,es,ep,ho,r⟩,_⟩:=id I.loc;obtain⟨sl,hL⟩:=u.any ho I.free λz=>(XQ _ z).2.1 rfl;exact I.step (ch:=ch) XQ (λb o hL hb hc e n=>u.keep b o e n (λz=>(List.mem_cons.mp (I.Yf b z)).elim hL hb) hc) (λb o _ _ hc e n=>u.any e n hc) (λb o hc e n=>u.free b o e n hc) (λb o hc e=>u.there b o e hc) u.Xb u.WZ u.WR (λm' hm=>by
  obtain⟨o',es',ep',XA,r'⟩:=hm;rw[ho] at XA;cases XA;exact⟨_,es',ep',hL,r'⟩) Wb hg
def Inv.turned{t':Nat}(I:Inv X pins σ H s)(k:∀b o,b≠it->s.heap.get? b=some o->h'.get? b=some o)(hn:H it=none)(hL:it≠X.env.locals)
  (h1:it∈X.ex\/X.Wf.heap.objs.size<=it) (h2:∀x c,X.env.cells.lookup x=some c->c≠it) (h3:∀p∈X.pn++pins,p.1≠it):Inv X pins σ H { s with heap:=h',toks:=t' }:=by
 have nit:∀b u,H b=some u->b≠it:=λb u e z=>by rw[z,hn] at e;cases e
 refine I.step (g':=s.gens) (d':=s.drawn) (ch:=[it]) (λb hb=>?_) (λb o _ _ hc e _=>k b o (λz=>hc (by simp[z])) e) (λb o _ _ hc e _=>⟨o.slots,k b o (λz=>hc (by simp[z])) e⟩) (λ_ _ _ _ n=>n)
  (λb o hc e=>⟨o,k b o (λz=>hc (by simp[z])) e⟩) (λ_ _ e=>e) (λ_ _ _ e=>e) (.kept (λb u z e=>k b u (λr=>by subst r;rcases z with ⟨q,z⟩;rw[hn] at z;cases z) e) λ_ _ e _=>e) (λm hm=>?_) (λb u e=>?_) I.bare
 ·have e:b=it:=by simpa using hb
  subst e;exact⟨h1,hL,h2,h3⟩
 ·obtain⟨o,es,ep,ho,r⟩:=hm;exact⟨o,es,ep,k _ o (jO hL) ho,r⟩
 ·refine (I.Wb b u e).WQ (λc v hc q=>k c v ?_ q) (λ_ q=>q) λ_ _ q _=>q;rcases hc with z|z
  ·rw[z];exact nit b u e
  ·exact nit c _ z
def Inv.tok(I:Inv X pins σ H s)(t:Nat):Inv X pins σ H { s with toks:=t }:=I.un (h':=s.heap) (t':=t) Un.refl I.Wb
def Inv.kept{t':Nat}(I:Inv X pins σ H s)(k:∀b u,s.heap.get? b=some u->h'.get? b=some u):Inv X pins σ H { s with heap:=h',toks:=t' }:=I.un (Un.kept k) (I.Wb.kept k)
def Inv.laid{t':Nat}(I:Inv X pins σ H s)(k:∀b u,s.heap.get? b=some u->h'.get? b=some u)(hp:s.heap.objs.size<=a)(new:fw X.prog X.w (upd H a o) h' a o) :
  Inv X pins σ (upd H a o) { s with heap:=h',toks:=t' }:=I.un (Un.laid k hp (I.Wb.fresh hp)) (I.Wb.laid k hp new)
def Inv.write{t':Nat}(I:Inv X pins σ H s)(mu:Sy (H x))(he:e=x\/H e=some (.own x))(k:∀b u,b≠e->s.heap.get? b=some u->h'.get? b=some u)(heo:∃u,h'.get? e=some u)
  (new:fw X.prog X.w (upd H x o) h' x o):Inv X pins σ (upd H x o) { s with heap:=h',toks:=t' }:=I.un (Un.write mu he k heo) (I.Wb.write mu he k heo new)
def Inv.XI(I:Inv X pins σ H s)(h:∀p∈pins',s.heap.get? p.1=some p.2/\H p.1=none/\p.1≠X.env.locals/\p.1∉X.fs/\∀v,p.2.data≠.cell v):Inv X pins' σ H s :=
 ⟨I.ok,I.os,I.bare,I.base,I.loc,I.cell,I.free,I.Wh,λp hp=>(List.mem_append.mp hp).elim (λz=>I.pin p (qK _ z)) (h p),I.Wb,I.len⟩
def C8{N:List Str}(hN:N.Nodup){i j:Nat}(a:N[i]?=some x)(b:N[j]?=some x):i=j:=by
 obtain⟨h1,e1⟩:=List.getElem?_eq_some_iff.mp a;obtain⟨h2,e2⟩:=List.getElem?_eq_some_iff.mp b;exact (List.getElem_inj hN).mp (e1.trans e2.symm)
def qs{M:Model}{A:Around}{E:Value->Shared->Prop}{i:Nat}{Q:Unit->Shared->Prop}(I:Inv X pins σ H s)(hN:X.N.Nodup)(hi:X.N[i]?=some x)(hx:Loc X.env.scope x)(r:RelV v u)
  (h:∀s',Inv X pins (σ.set i (some v)) H s'->(∃a,Heap.SameBut a s.heap s'.heap/\(a=X.env.locals\/X.env.cells.lookup x=some a))->Q () s') (hf:X.fn x=true\/X.env.scope.names.lookup x=some .local:=by first|exact .inl rfl|exact .inr rfl|assumption):wpAny M A (storeName X.env x u) Q E s:=by
 obtain⟨m,hn,hl⟩:=id I.loc;have X0:(X.env.scope.kind == .class||(X.env.scope.kind == .module&&X.env.locals != X.env.globals))=false:=by rw[I.ok.kind];rfl
 have abJ:i < σ.length:=by rw[I.len];exact (List.getElem?_eq_some_iff.mp hi).1
 have cne:=I.cne;have tracked:∀ {a:Addr}{h':Heap},(∃o,s.heap.get? a=some o/\H a=none)->Heap.SameBut a s.heap h'->pU X.prog X.w H h':=λ{a h'} ha hs b ob e=>by
  obtain⟨_,_,W3⟩:=ha;refine (I.Wb b ob e).WQ (λc w' hc q=>(hs.2 c ?_).trans q) (λ_ q=>q) λ_ _ q _=>q;rintro rfl;rcases hc with rfl|hc
  ·rw[W3] at e;cases e
  ·rw[W3] at hc;cases hc
 rcases hx with hk|hk
 ·refine wpAny_storeName_local hk hn (λh' hn' hs=>?_) X0;obtain⟨oL,_,_,hoL,_⟩:=id hn;refine h _ ⟨I.ok,I.os,I.bare,⟨λb o e n hb hx=>?_,λb o e n hb hx=>?_,I.base.free,λb o e hx=>?_,I.base.Xb,I.base.WZ,I.base.WR.trans (.kept (λb u z e=>(hs.2 b (λr=>by rcases z with ⟨q,z⟩;rw[r,I.free] at z;cases z)).trans e) λ_ _ e _=>e)⟩,⟨_,hn',λj y v' e1 e2 e3=>?_⟩,λy c e=>?_,I.free,I.Wh,λp hp=>?_,tracked ⟨oL,hoL,I.free⟩ hs,by simpa using I.len⟩ ⟨_,hs,.inl rfl⟩
  ·exact (hs.2 b (yS (zP (zY e) I.ok.above))).trans (I.base.keep b o e n hb hx)
  ·obtain⟨sl,e1⟩:=I.base.slot b o e n hb hx;exact⟨sl,(hs.2 b (yS (zP (zY e) I.ok.above))).trans e1⟩
  ·obtain⟨o',e1⟩:=I.base.there b o e hx;exact⟨o',(hs.2 b (yS (zP (zY e) I.ok.above))).trans e1⟩
  ·by_cases hj:j=i
   ·subst hj;rw[hi] at e1;cases e1;rw[vU abJ] at e2;cases e2;exact⟨u,r,.inl ⟨hk,by simp⟩⟩
   ·rw[kY (jO hj)] at e2;obtain⟨u',r',q⟩:=hl j y v' e1 e2 e3;refine⟨u',r',?_⟩;rcases q with ⟨k,e⟩|⟨k,c,e,z⟩
    ·refine .inl ⟨k,?_⟩;have:y≠x:=λe=>hj (C8 hN e1 (e ▸ hi));simp[this,e]
    ·exact .inr ⟨k,c,e,z.sameBut hs (cne y c e)⟩
  ·obtain⟨w',z⟩:=I.cell y c e;exact⟨w',z.sameBut hs (cne y c e)⟩
  ·obtain⟨e,n,ne,nf,d⟩:=I.pin p hp;exact⟨(hs.2 p.1 ne).trans e,n,ne,nf,d⟩
 ·have Y3:X.fn x=true:=by
   rcases hf with z|z
   ·exact z
   ·rw[z] at hk;cases hk
  obtain⟨c,hc⟩:=I.ok.has x (.inl hk);obtain⟨w',z⟩:=I.cell x c hc;refine wpAny_storeName_cell I.ok.kind hk hc z (λh' Xj hs=>?_);obtain⟨oc,hoc,adm⟩:=id z;refine h { s with heap:=h' } ⟨I.ok,I.os,I.bare,⟨λb o e n hb hx=>?_,λb o e n hb hx=>?_,I.base.free,λb o e hx=>?_,I.base.Xb,I.base.WZ,I.base.WR.trans (.kept (λb u z e=>(hs.2 b (λr=>by rcases z with ⟨q,z⟩;rw[r,I.Wh x c hc] at z;cases z)).trans e) λ_ _ e _=>e)⟩,⟨m,hn.sameBut hs (jO (cne x c hc)),λj y v' e1 e2 e3=>?_⟩,λy c' e=>?_,I.free,I.Wh,λp hp=>?_,tracked ⟨oc,hoc,I.Wh x c hc⟩ hs,by simpa using I.len⟩ ⟨c,hs,.inr hc⟩
  ·exact (hs.2 b (yS (zP (zY e) (I.ok.cab x c Y3 hc)))).trans (I.base.keep b o e n hb hx)
  ·obtain⟨sl,e1⟩:=I.base.slot b o e n hb hx;exact⟨sl,(hs.2 b (yS (zP (zY e) (I.ok.cab x c Y3 hc)))).trans e1⟩
  ·obtain⟨o',e1⟩:=I.base.there b o e hx;exact⟨o',(hs.2 b (yS (zP (zY e) (I.ok.cab x c Y3 hc)))).trans e1⟩
  ·by_cases hj:j=i
   ·subst hj;rw[hi] at e1;cases e1;rw[vU abJ] at e2;cases e2;exact⟨u,r,.inr ⟨.inl hk,c,hc,Xj⟩⟩
   ·rw[kY (jO hj)] at e2;obtain⟨u',r',q⟩:=hl j y v' e1 e2 e3;refine⟨u',r',?_⟩;rcases q with q|⟨k,c',e,z'⟩
    ·exact .inl q
    ·refine .inr ⟨k,c',e,z'.sameBut hs ?_⟩;rintro rfl;exact hj (C8 hN e1 (I.ok.inj _ _ _ e hc ▸ hi))
  ·by_cases hcc:c'=c
   ·subst hcc;exact⟨_,Xj⟩
   ·obtain⟨w2,z2⟩:=I.cell y c' e;exact⟨w2,z2.sameBut hs hcc⟩
  ·obtain⟨e,n,ne,nf,d⟩:=I.pin p hp;refine⟨(hs.2 p.1 ?_).trans e,n,ne,nf,d⟩;intro q;rw[q,hoc] at e;have q':oc=p.2:=xE e;exact d w' (by rw[<- q'];exact adm)
def B6{M:Model}{A:Around}{E:Value->Shared->Prop}(I:Inv X pins σ H s)(hN:X.N.Nodup)(hi:X.N[i]?=some x)(hx:Loc X.env.scope x)(r:RelV v u)
  (h:∀s',Inv X pins (σ.set i (some v)) H s'->Q () s') (hf:X.fn x=true\/X.env.scope.names.lookup x=some .local:=by first|exact .inl rfl|exact .inr rfl|assumption):wpAny M A (storeName X.env x u) Q E s :=
 qs I hN hi hx r (λs' I' _=>h s' I') hf
def Inv.Y4{ch:List Addr}(I:Inv X pins σ H s)(ho:s'.os=s.os)(u:Un (jb X.stack) ch H H' s.heap s'.heap)(Wb:pU X.prog X.w H' s'.heap)(hg:AllBare s'.gens)
  (XQ:∀b∈ch,(b∈X.ex\/X.Wf.heap.objs.size<=b)/\b≠X.env.locals/\(∀x c,X.env.cells.lookup x=some c->c≠b)/\∀p∈X.pn++pins,p.1≠b):Inv X pins σ H' s':=by
 obtain⟨h',g',d',t',o'⟩:=s';have e:o'=s.os:=ho;subst e;exact I.call (g':=g') (t':=t') (d':=d') u Wb hg XQ
end
abbrev XK:=Value->Option Addr->Hp->Prop
abbrev St:=List (Option V)
abbrev VK:=V->Hp->Prop
abbrev TE:=St->Hp->VK->Prop
abbrev TT:=St->Hp->(Bool->Hp->Prop)->Prop
abbrev TA:=St->Hp->(List V->Hp->Prop)->Prop
structure Ends where
 nx:St->Hp->Prop
 rt:VK
 bk:St->Hp->Prop:=λ_ _=>False
 ct:St->Hp->Prop:=λ_ _=>False
abbrev TS:=Ends->St->Hp->Prop
def EP(X:Cx)(pins:List (Addr×Obj))(σ:St)(Q:VK)(u:Value)(s':Shared):Prop:=∃v H',Inv X pins σ H' s'/\RelV v u/\Q v H'
def TP(X:Cx)(pins:List (Addr×Obj))(σ:St)(Q:Bool->Hp->Prop)(b:Bool)(s':Shared):Prop:=∃H',Inv X pins σ H' s'/\Q b H'
def AP(X:Cx)(pins:List (Addr×Obj))(σ:St)(Q:List V->Hp->Prop)(us:List Value)(s':Shared):Prop:=∃vs H',Inv X pins σ H' s'/\aQ vs us/\Q vs H'
def SP(X:Cx)(pins:List (Addr×Obj))(D:Ends)(f:Flow)(s':Shared):Prop :=
 match f with
 | .next=>∃σ' H',Inv X pins σ' H' s'/\D.nx σ' H'
 | .brk=>∃σ' H',Inv X pins σ' H' s'/\D.bk σ' H'
 | .cont=>∃σ' H',Inv X pins σ' H' s'/\D.ct σ' H'
 | .ret u=>∃v σ' H',Inv X pins σ' H' s'/\RelV v u/\D.rt v H'
def PE(X:Cx)(e:Expr)(t:TE):Prop :=
 ∀ (pins:List (Addr×Obj)) (s:Shared) (σ:St) (H:Hp) (Q:VK),Inv X pins σ H s->t σ H Q->wpAny (model X.prog X.w) X.A (eval e X.env) (EP X pins σ Q) X.xe s
def PT(X:Cx)(e:Expr)(t:TT):Prop :=
 ∀ (pins:List (Addr×Obj)) (s:Shared) (σ:St) (H:Hp) (Q:Bool->Hp->Prop),Inv X pins σ H s->t σ H Q->wpAny (model X.prog X.w) X.A (isTrue e X.env (eval e X.env)) (TP X pins σ Q) X.xe s
def PW(X:Cx)(e:Expr)(t:TT):Prop :=
 ∀ (whole:Sem Value) (pins:List (Addr×Obj)) (s:Shared) (σ:St) (H:Hp) (Q:Bool->Hp->Prop),Inv X pins σ H s->t σ H Q->wpAny (model X.prog X.w) X.A (isTrue e X.env whole) (TP X pins σ Q) X.xe s
def PW.pt(h:PW X e t):PT X e t:=h _
def PA(X:Cx)(es:List Expr)(t:TA):Prop :=
 ∀ (pos:Pos) (pins:List (Addr×Obj)) (s:Shared) (σ:St) (H:Hp) (Q:List V->Hp->Prop),Inv X pins σ H s->t σ H Q->wpAny (model X.prog X.w) X.A (spliced (backTo pos (starEach es X.env))) (AP X pins σ Q) X.xe s
def PS(X:Cx)(st:Stmt)(t:TS):Prop :=
 ∀ (pins:List (Addr×Obj)) (s:Shared) (σ:St) (H:Hp) (D:Ends),Inv X pins σ H s->t D σ H->wpAny (model X.prog X.w) X.A (exec st X.env) (SP X pins D) X.xe s
def AH(X:Cx)(st:List Stmt)(t:TS):Prop :=
 ∀ (pins:List (Addr×Obj)) (s:Shared) (σ:St) (H:Hp) (D:Ends),Inv X pins σ H s->t D σ H->wpAny (model X.prog X.w) X.A (execs st X.env) (SP X pins D) X.xe s
def cM(h:wpAny M A t Q E s)(hQ:∀a s,Q a s->Q' a s):wpAny M A t Q' E s:=xB h hQ λ_ _ x=>x
section
def Vf(i:Nat):TE:=λσ H Q=>∃v,σ[i]?=some (some v)/\Q v H
def tC(v:V):TE:=λ_ H Q=>Q v H
def l4(hN:X.N[i]?=some x)(hv:NT X.env.scope x)(hd:(x == ("__debug__":Str))=false:=by decide)(WS:(x == ("__classdict__":Str))=false:=by decide):PE X (.Name x pos) (Vf i):=by
 intro pins s σ H Q I h;obtain⟨v,e,h⟩:=h;obtain⟨m,hn,hl⟩:=I.loc;obtain⟨u,r,l⟩:=hl i x v hN e hv;have fin:EP X pins σ Q u s:=⟨v,H,I,r,h⟩
 rcases l with ⟨hk,hm⟩|⟨hk,c,hc,aan⟩
 ·exact wV (wK I.ok.kind hk hn hm fin) hd
 ·rcases hk with hk|hk
  ·exact wV (wpAny_loadName_cell I.ok.kind hk hc aan fin) hd
  ·exact wV (wpAny_loadName_free I.ok.kind hk hc aan fin WS) hd
def K1{i j pos}:PE X (.Constant (.int i) j pos) (tC (.int i)):=λ_ _ _ H _ I h=>wpAny_Constant_int ⟨.int i,H,I.tok _,⟨_,rfl⟩,h⟩
def JM{b j pos}:PE X (.Constant (.bool b) j pos) (tC (.bl b)):=λ_ _ _ H _ I h=>Constant_bool ⟨.bl b,H,I,rfl,h⟩
def P8{j pos}:PE X (.Constant .none j pos) (tC .V6):=λ_ _ _ H _ I h=>Constant_none ⟨.V6,H,I,rfl,h⟩
def Ji{x j pos}:PE X (.Constant (.str x) j pos) (tC (.str x)):=λ_ _ _ H _ I h=>Zb ⟨.str x,H,I.tok _,⟨_,rfl⟩,h⟩
def Gl(X:Cx)(x:Str):Prop:=X.env.kindOf x=some .globalImplicit
def mX{E:Value->Shared->Prop}{pos:Pos}(I:Inv X pins σ H s)(hg:Gl X x)(hm:X.mg x=some u)(h:Q u s)
  (hd:(x == ("__debug__":Str))=false:=by decide):wpAny (model X.prog X.w) X.A (eval (.Name x pos) X.env) Q E s :=
 Calls.Name_function_global I.ok.kind hg (Calls.loadGlobal_global (by rw[I.ok.glob];exact I.mod.glob.keeps I.bk) hm h) hd
def ix{E:Value->Shared->Prop}{pos:Pos}(I:Inv X pins σ H s)(hg:Gl X x)(hm:X.mg x=none)(hv:bootBuiltins x=some u)(h:Q u s)
  (hn:x≠"__name__":=by decide) (hd:(x == ("__debug__":Str))=false:=by decide):wpAny (model X.prog X.w) X.A (eval (.Name x pos) X.env) Q E s:=by
 obtain⟨mb,h1,h2⟩:=I.mod.blt;exact Calls.Name_function_global I.ok.kind hg (Calls.loadGlobal_builtin (by rw[I.ok.glob];exact I.mod.glob.keeps I.bk) hm (by rw[I.ok.blt];exact h1.keeps I.bk) ((h2 x hn).trans hv) h) hd
def NW(hg:Gl X x)(hm:X.mg x=some u)(r:RelV v u)(hd:(x == ("__debug__":Str))=false:=by decide):PE X (.Name x pos) (tC v) :=
 λ_ _ _ H _ I h=>mX I hg hm ⟨v,H,I,r,h⟩ hd
def N7(hg:Gl X x)(hm:X.mg x=none)(hv:bootBuiltins x=some u)(r:RelV v u)(hn:x≠"__name__":=by decide)(hd:(x == ("__debug__":Str))=false:=by decide):PE X (.Name x pos) (tC v) :=
 λ_ _ _ H _ I h=>ix I hg hm hv ⟨v,H,I,r,h⟩ hn hd
def K9(b:Expr)(h:op≠.In)(h2:op≠.NotIn):behindInMarks op b=false:=by
 have e1:(op == CmpOp.In)=false:=by cases op<;>first|rfl|exact absurd rfl h
 have e2:(op == CmpOp.NotIn)=false:=by cases op<;>first|rfl|exact absurd rfl h2
 cases b<;>simp[behindInMarks,e1,e2]
def tB(t:TE):TT:=λσ H Q=>t σ H λx H1=>∃c,x=.bl c/\Q c H1
def Jd(h:PE X e t)(he:∀whole,isTrue e X.env whole=(do let v <- whole;standAt e.pos;holding [v] (truthy v)):=by intro _;rfl):PT X e (tB t):=by
 intro pins s σ H Q I hw;refine isTrue_plain (cM (h pins s σ H _ I hw) λv s1 ⟨x,H1,I1,r1,q1⟩=>?_) (he _);obtain⟨d,rfl,q⟩:=q1;cases r1;exact xX ⟨H1,I1,q⟩
variable {rest:List Expr}
def Ul(t u:TT):TT:=λσ H Q=>t σ H λc H1=>if c=true then u σ H1 Q else Q false H1
def V1(t u:TT):TT:=λσ H Q=>t σ H λc H1=>if c=true then Q true H1 else u σ H1 Q
def Uy(t:TT):TT:=λσ H Q=>t σ H λc H1=>Q (!c) H1
def Oi(ha:PT X a tA):PW X (.BoolOp .And [a] pos) tA:=by
 intro wh pins s σ H Q I h;refine isTrue_and (cM (ha pins s σ H Q I h) λc s1 e=>?_);cases c with
 | true=>exact isTrue_and_nil e
 | false=>exact e
def Kj(ha:PT X a tA):PW X (.BoolOp .Or [a] pos) tA:=by
 intro wh pins s σ H Q I h;refine isTrue_or (cM (ha pins s σ H Q I h) λc s1 e=>?_);cases c with
 | false=>exact isTrue_or_nil e
 | true=>exact e
def Rj(ha:PT X a tA)(hb:PW X (.BoolOp .And (b::rest) pos) tB'):PW X (.BoolOp .And (a::b::rest) pos) (Ul tA tB'):=by
 intro wh pins s σ H Q I h;refine isTrue_and (cM (ha pins s σ H _ I h) λc s1 ⟨H1,I1,q1⟩=>?_);cases c with
 | true=>exact hb wh pins s1 σ H1 Q I1 q1
 | false=>exact⟨H1,I1,q1⟩
def OT(ha:PT X a tA)(hb:PW X (.BoolOp .Or (b::rest) pos) tB'):PW X (.BoolOp .Or (a::b::rest) pos) (V1 tA tB'):=by
 intro wh pins s σ H Q I h;refine isTrue_or (cM (ha pins s σ H _ I h) λc s1 ⟨H1,I1,q1⟩=>?_);cases c with
 | true=>exact⟨H1,I1,q1⟩
 | false=>exact hb wh pins s1 σ H1 Q I1 q1
def LJ(ha:PT X a tA):PT X (.UnaryOp .Not a pos) (Uy tA):=by
 intro pins s σ H Q I h;exact isTrue_not (ha pins s σ H (λc H1=>Q (!c) H1) I h)
def Ts(ta tb:TE):TE:=λσ H Q=>ta σ H λx H1=>∃c,x=.bl c/\if c=true then tb σ H1 Q else Q (.bl false) H1
def UZ(ta tb:TE):TE:=λσ H Q=>ta σ H λx H1=>∃c,x=.bl c/\if c=true then Q (.bl true) H1 else tb σ H1 Q
def S9(ta:TE):TE:=λσ H Q=>ta σ H λx H1=>∃c,x=.bl c/\Q (.bl (!c)) H1
def Qf{op}(h:PE X a t):PE X (.BoolOp op [a] pos) t:=λpins s σ H Q I hw=>BoolOp_one (h pins s σ H Q I hw)
def Rv(ha:PE X a ta)(hb:PE X (.BoolOp .And (b::rest) pos) tb):PE X (.BoolOp .And (a::b::rest) pos) (Ts ta tb):=by
 intro pins s σ H Q I h;refine BoolOp_and (cM (ha pins s σ H _ I h) λv s1 ⟨x,H1,I1,r1,q1⟩=>?_);obtain⟨c,rfl,q1⟩:=q1;cases r1;refine xX ?_;cases c with
 | true=>exact hb pins s1 σ H1 Q I1 q1
 | false=>exact⟨.bl false,H1,I1,rfl,q1⟩
def L6(ha:PE X a ta)(hb:PE X (.BoolOp .Or (b::rest) pos) tb):PE X (.BoolOp .Or (a::b::rest) pos) (UZ ta tb):=by
 intro pins s σ H Q I h;refine BoolOp_or (cM (ha pins s σ H _ I h) λv s1 ⟨x,H1,I1,r1,q1⟩=>?_);obtain⟨c,rfl,q1⟩:=q1;cases r1;refine xX ?_;cases c with
 | false=>exact hb pins s1 σ H1 Q I1 q1
 | true=>exact⟨.bl true,H1,I1,rfl,q1⟩
def QO(ha:PE X a ta):PE X (.UnaryOp .Not a pos) (S9 ta):=by
 intro pins s σ H Q I h;refine UnaryOp_ (cM (ha pins s σ H _ I h) λv s1 ⟨x,H1,I1,r1,q1⟩=>?_);obtain⟨c,rfl,q1⟩:=q1;cases r1;exact not_of (xX ⟨.bl (!c),H1,I1,rfl,q1⟩)
def VX(t:TT)(ta tb:TE):TE:=λσ H Q=>t σ H λc H1=>if c=true then ta σ H1 Q else tb σ H1 Q
def B3(hc:PT X c tA)(ha:PE X a ta)(hb:PE X b tb):PE X (.IfExp c a b pos) (VX tA ta tb):=by
 intro pins s σ H Q I h;refine wpAny_IfExp (cM (hc pins s σ H _ I h) λd s1 ⟨H1,I1,q1⟩=>?_);cases d with
 | true=>exact ha pins s1 σ H1 Q I1 q1
 | false=>exact hb pins s1 σ H1 Q I1 q1
end
def iw(K:W.Frag)(H:Hp)(a:Addr)(xs:List V):Prop :=
 Rd H a (.lst xs) \/
  ∃ (o:Obj) (its:Array Value) (n:Nat),K.lookup a=some o/\o.cls=.type "list"/\o.dict=none/\o.data=.seq its n/\its.size<=sizeLine/\aQ xs its.toList
def j5(K:W.Frag)(H:Hp)(a:Addr)(xs:List V):Prop :=
 Rd H a (.tup xs) \/
  ∃ (o:Obj) (its:Array Value) (n:Nat),K.lookup a=some o/\o.cls=.type "tuple"/\o.dict=none/\o.data=.seq its n/\its.size<=sizeLine/\aQ xs its.toList
def Vh:Value->Option V
 | .none=>some .V6
 | .bool b=>some (.bl b)
 | .int i _=>some (.int i)
 | .str x _=>some (.str x)
 | .bytes b _=>some (.ZQ b)
 | .float b _=>some (.flt b)
 | .ref a=>some (.ref a)
 | .type n=>some (.ty n)
 | _=>none
def RelV.abs(r:RelV x u):Vh u=some x:=by
 cases x with
 | V6=>cases r;rfl
 | bl _=>cases r;rfl
 | int _=>obtain⟨t,rfl⟩:=r;rfl
 | str _=>obtain⟨t,rfl⟩:=r;rfl
 | ZQ _=>obtain⟨t,rfl⟩:=r;rfl
 | flt _=>obtain⟨t,rfl⟩:=r;rfl
 | ref _=>cases r;rfl
 | ty _=>cases r;rfl
def RelV.inj(r:RelV x u)(q:RelV y u):x=y:=xE (r.abs.symm.trans q.abs)
def aQ.inj:∀ {xs ys:List V}{us:List Value},aQ xs us->aQ ys us->xs=ys
 | _,_,_,.nil,.nil=>rfl
 | _,_,_,.cons r t,.cons r' t'=>by rw[r.inj r',aQ.inj t t']
section
def iw.of{K:W.Frag}(h:H a=some (.lst xs)):iw K H a xs:=.inl (.inl h)
def Inv.list(I:Inv X pins σ H s)(h:iw X.K H a xs):∃its:List Value,aQ xs its/\PlainL s.heap a its.toArray/\xs.length<=sizeLine:=by
 rcases h with h|⟨o,its,n,hk,hc,hd,hs,hz,r⟩
 ·obtain⟨z,its,n,r,e⟩:=h.ok I.Wb;exact⟨its,r,⟨_,n,e,rfl,rfl,rfl⟩,z⟩
 ·refine⟨its.toList,r,⟨o,n,I.XZ a o hk,hc,hd,by simpa using hs⟩,?_⟩;have e:=r.length;simp only[wR] at e;lia
def Inv.tuple(I:Inv X pins σ H s)(h:j5 X.K H a xs):∃its:List Value,aQ xs its/\IsTup s.heap a its.toArray/\xs.length<=sizeLine:=by
 rcases h with h|⟨o,its,n,hk,hc,_,hs,hz,r⟩
 ·obtain⟨z,its,r,p⟩:=h.ok I.Wb;exact⟨its,r,p.1,z⟩
 ·refine⟨its.toList,r,⟨o,I.XZ a o hk,hc,n,by simpa using hs⟩,?_⟩;have e:=r.length;simp only[wR] at e;lia
def Inv.X1(I:Inv X pins σ H s)(h:iw X.K H a xs)(h':iw X.K H a ys):xs=ys:=by
 obtain⟨its,r,⟨o,n,e,_,_,d⟩,_⟩:=I.list h;obtain⟨its',r',⟨o',n',e',_,_,d'⟩,_⟩:=I.list h';rw[e] at e';cases e';rw[d] at d';injection d' with d1 _
 have:its=its':=by simpa using jD Array.toList d1
 subst this;exact r.inj r'
def Inv.XB(I:Inv X pins σ H s)(h:j5 X.K H a xs)(h':j5 X.K H a ys):xs=ys:=by
 obtain⟨its,r,⟨o,e,_,n,d⟩,_⟩:=I.tuple h;obtain⟨its',r',⟨o',e',_,n',d'⟩,_⟩:=I.tuple h';rw[e] at e';cases e';rw[d] at d';injection d' with d1 _
 have:its=its':=by simpa using jD Array.toList d1
 subst this;exact r.inj r'
end
abbrev Cx.W4(X:Cx)(E:Value->Shared->Prop):Cx:={ X with xe:=E }
abbrev Cx.WD(X:Cx):Cx:=X.W4 λ_ _=>False
def Cx.Ok.W4{X:Cx}(ok:X.Ok)(E:Value->Shared->Prop):(X.W4 E).Ok :=
 ⟨ok.mod,ok.kind,ok.glob,ok.blt,ok.above,ok.inj,ok.has,ok.cab,ok.hd,ok.frames,ok.Y1,ok.exf,ok.bs,ok.Y2,ok.XY,ok.Ye,ok.W0,ok.ZT⟩
def Cx.Ok.Wq{X:Cx}{E:Value->Shared->Prop}(ok:(X.W4 E).Ok):X.Ok :=
 ⟨ok.mod,ok.kind,ok.glob,ok.blt,ok.above,ok.inj,ok.has,ok.cab,ok.hd,ok.frames,ok.Y1,ok.exf,ok.bs,ok.Y2,ok.XY,ok.Ye,ok.W0,ok.ZT⟩
section
def Inv.W4(I:Inv X pins σ H s)(E:Value->Shared->Prop):Inv (X.W4 E) pins σ H s:=⟨I.ok.W4 E,I.os,I.bare,I.base,I.loc,I.cell,I.free,I.Wh,I.pin,I.Wb,I.len⟩
def Inv.Wq(I:Inv (X.W4 E) pins σ H s):Inv X pins σ H s:=⟨I.ok.Wq,I.os,I.bare,I.base,I.loc,I.cell,I.free,I.Wh,I.pin,I.Wb,I.len⟩
def SP.Wq{D:Ends}(h:SP (X.W4 E) pins D f s'):SP X pins D f s':=by
 cases f with
 | next=>obtain⟨σ',H',I,q⟩:=h;exact⟨σ',H',I.Wq,q⟩
 | brk=>obtain⟨σ',H',I,q⟩:=h;exact⟨σ',H',I.Wq,q⟩
 | cont=>obtain⟨σ',H',I,q⟩:=h;exact⟨σ',H',I.Wq,q⟩
 | ret u=>obtain⟨v,σ',H',I,r,q⟩:=h;exact⟨v,σ',H',I.Wq,r,q⟩
def PT.WD(h:PT X.WD e t):PT X e t:=λpins s σ H Q I hw =>
 xB (h pins s σ H Q (I.W4 _) hw) (λ_ _ ⟨H',I',q⟩=>⟨H',I'.Wq,q⟩) λ_ _ z=>False.elim z
def AH.WD{st:List Stmt}(h:AH X.WD st t):AH X st t:=λpins s σ H D I hw =>
 xB (h pins s σ H D (I.W4 _) hw) (λ_ _ q=>q.Wq) λ_ _ z=>False.elim z
end
section
variable {st:Stmt}{rest:List Stmt}
def JN:TS:=λD σ H=>D.nx σ H
def Ui(t u:TS):TS:=λD σ H=>t { D with nx:=u D } σ H
def AR:AH X [] JN:=λ_ _ σ H _ I h=>vW ⟨σ,H,I,h⟩
def jm(h1:PS X st t)(h2:AH X rest u):AH X (st::rest) (Ui t u):=by
 intro pins s σ H D I h;refine vK (cM (h1 pins s σ H { D with nx:=u D } I h) λf s1 q=>?_);cases f with
 | next =>
  obtain⟨σ',H',I',q⟩:=q;exact h2 pins s1 σ' H' D I' q
 | ret v=>exact q
 | brk=>exact q
 | cont=>exact q
def Od(h1:PS X st t):AH X [st] t:=by
 intro pins s σ H D I h;refine vK (cM (h1 pins s σ H D I h) λf s1 q=>?_);cases f with
 | next=>exact vW q
 | ret v=>exact q
 | brk=>exact q
 | cont=>exact q
def Ng:PS X (.Pass pos) JN:=λ_ _ σ H _ I h=>wpAny_Pass ⟨σ,H,I,h⟩
def Inv.quiet(I:Inv X pins σ H s):interactive X.env=false:=by simp[interactive,I.ok.kind]
def Q6{x j pos pos'}:PS X (.Expr (.Constant (.str x) j pos) pos') JN:=λ_ s σ H _ I h=>wpAny_Expr (Zb (show SP X _ _ .next { s with toks:=s.toks+1 } from ⟨σ,H,I.tok _,h⟩)) I.quiet
def Tf(te:TE):TS:=λD σ H=>te σ H λ_ H1=>D.nx σ H1
def pD(he:PE X e te)(hs:swapsWith e none pos.line X.env=pure false:=by rfl):PS X (.Expr e pos) (Tf te):=by
 intro pins s σ H D I h;exact wpAny_Expr_any (cM (he pins s σ H _ I h) λv s1 ⟨x,H1,I1,r1,q1⟩=>⟨σ,H1,I1,q1⟩) I.quiet hs
def UB(te:TE):TS:=λD σ H=>te σ H D.rt
def Ez(he:PE X e te):PS X (.Return (some e) pos) (UB te):=by
 intro pins s σ H D I h;exact wpAny_Return_some (cM (he pins s σ H _ I h) λv s1 ⟨x,H1,I1,r1,q1⟩=>⟨x,σ,H1,I1,r1,q1⟩)
def U5(c:TT)(t u:TS):TS:=λD σ H=>c σ H λb H1=>if b=true then t D σ H1 else u D σ H1
def LZ(hc:PT X c tc)(ha:AH X a t)(hb:AH X b u):PS X (.If c a b pos) (U5 tc t u):=by
 intro pins s σ H D I h;refine wpAny_If (cM (hc pins s σ H _ I h) λd s1 ⟨H1,I1,q1⟩=>?_);cases d with
 | true=>exact ha pins s1 σ H1 D I1 q1
 | false=>exact hb pins s1 σ H1 D I1 q1
end
abbrev TG:=V->St->Hp->(St->Hp->Prop)->Prop
abbrev Ti:=List V->St->Hp->(St->Hp->Prop)->Prop
def PG(X:Cx)(target:Expr)(t:TG):Prop :=
 ∀ (pins:List (Addr×Obj)) (s:Shared) (σ:St) (H:Hp) (v:V) (u:Value) (Q:St->Hp->Prop),Inv X pins σ H s->RelV v u->t v σ H Q ->
  wpAny (model X.prog X.w) X.A (assign target X.env u) (λ_ s'=>∃σ' H',Inv X pins σ' H' s'/\Q σ' H') X.xe s
def T9(X:Cx)(ts:List Expr)(t:Ti):Prop :=
 ∀ (pins:List (Addr×Obj)) (s:Shared) (σ:St) (H:Hp) (vs:List V) (us:List Value) (Q:St->Hp->Prop),Inv X pins σ H s->aQ vs us->t vs σ H Q ->
  wpAny (model X.prog X.w) X.A (assignInOrder ((assignEach ts X.env).map (·.2)) us) (λ_ s'=>∃σ' H',Inv X pins σ' H' s'/\Q σ' H') X.xe s
abbrev Sr:=V->V->V->Hp->(Hp->Prop)->Prop
def R5(X:Cx)(t:Sr):Prop :=
 ∀ (pins:List (Addr×Obj)) (s:Shared) (σ:St) (H:Hp) (o i v:V) (ov iv u:Value) (Q:Hp->Prop),Inv X pins σ H s->RelV o ov->RelV i iv->RelV v u->t o i v H Q ->
  wpAny (model X.prog X.w) X.A (setItem ov iv u) (λ_ s'=>∃H',Inv X pins σ H' s'/\Q H') X.xe s
section
def BQ(i:Nat):TG:=λv σ H Q=>Q (σ.set i (some v)) H
def dm(hN:X.N.Nodup)(hi:X.N[i]?=some x)(hx:Loc X.env.scope x)(hf:X.fn x=true\/X.env.scope.names.lookup x=some .local:=by first|exact .inl rfl|exact .inr rfl|assumption):PG X (.Name x pos) (BQ i):=by
 intro pins s σ H v u Q I r h;exact wpAny_assign_Name (B6 I hN hi hx r (λs' I'=>⟨_,H,I',h⟩) hf)
def Vk:Ti:=λvs σ H Q=>vs=[]/\Q σ H
def Sa(t:TG)(u:Ti):Ti:=λvs σ H Q=>∃v r,vs=v::r/\t v σ H λσ' H'=>u r σ' H' Q
def pI:T9 X [] Vk:=by
 intro pins s σ H vs us Q I r h;obtain⟨e,h⟩:=h;subst e;cases r;exact assignInOrder_nil ⟨σ,H,I,h⟩
def cY(h1:PG X e t)(h2:T9 X es u)
  (hs:(assignEach (e::es) X.env).map (·.2)=assign e X.env::(assignEach es X.env).map (·.2):=by rfl):T9 X (e::es) (Sa t u):=by
 intro pins s σ H vs us Q I r h;obtain⟨v,vr,e1,h⟩:=h;subst e1;cases r with
 | cons r rr =>
  rw[hs];refine assignInOrder_cons (cM (h1 pins s σ H _ _ _ I r h) λ_ s1 ⟨σ1,H1,I1,q1⟩=>?_);exact h2 pins s1 σ1 H1 _ _ Q I1 rr q1
def Uw(K:W.Frag)(n:Nat)(t:Ti):TG:=λv σ H Q=>∃a xs,v=.ref a/\j5 K H a xs/\xs.length=n/\t xs σ H Q
def tN{k:Nat}(hc:X.calm=true)(h:T9 X es t)
  (hn:(assignEach es X.env).length=n:=by rfl) (Xa:(assignEach es X.env).findIdx? (·.1)=none:=by rfl):PG X (.Tuple es k pos) (Uw X.K n t):=by
 intro pins s σ H v u Q I r hw;obtain⟨a,xs,e1,hq,hl,hw⟩:=hw;subst e1;cases r;obtain⟨its,rv,ht,hz⟩:=I.tuple hq;refine assign_Tuple_tuple (I.ok.hd hc) ht (by simp[hn,<- hl,rv.length]) Xa λh' hx=>?_;have I1:Inv X pins σ H { s with heap:=h' }:=I.kept (t':=s.toks) λb o e=>hx b o (yS (zY e)) e;exact h pins _ σ H xs _ Q I1 (by simpa using rv) hw
def dJ(to ti:TE)(t:Sr):TG:=λv σ H Q=>to σ H λo H1=>ti σ H1 λi H2=>t o i v H2 λH3=>Q σ H3
def Rt(ho:PE X o to)(hi:PE X i ti)(hs:R5 X t)
  (ha:∀v,assign (.Subscript o i pos) X.env v=(do
   let ov <- holding [v] (eval o X.env)
   let iv <- holding [v,ov] (eval i X.env)
   standAt pos
   holding [v,ov,iv] (setItem ov iv v)
   release [v,ov,iv] []):=by intro _;rfl):PG X (.Subscript o i pos) (dJ to ti t):=by
 intro pins s σ H v u Q I r h;rw[ha];refine zV (xY (cM (ho pins s σ H _ I h) λov s1 ⟨x,H1,I1,r1,q1⟩=>?_));refine zV (xY (cM (hi pins s1 σ H1 _ I1 q1) λiv s2 ⟨y,H2,I2,r2,q2⟩=>?_));refine zV (vI (zV (xY (cM (hs pins s2 σ H2 x y v ov iv u _ I2 r1 r2 r q2) λ_ s3 ⟨H3,I3,q3⟩=>?_))));exact wpAny_release ⟨σ,H3,I3,q3⟩
def KN(te:TE)(g:TG):TS:=λD σ H=>te σ H λx H1=>g x σ H1 D.nx
def EH(he:PE X e te)(hg:PG X tg g)(hs:swapsWithSole [tg] e pos.line X.env=pure false:=by rfl)(hw:swappedStores [tg] e X.env=pure none:=by rfl)
  (h1:(assignEach [tg] X.env).map (·.2)=[assign tg X.env]:=by rfl):PS X (.Assign [tg] e pos) (KN te g):=by
 intro pins s σ H D I h;refine wpAny_Assign_stores (cM (he pins s σ H _ I h) λv s1 ⟨x,H1,I1,r1,q1⟩=>?_) hs hw;rw[h1];exact cM (hg pins s1 σ H1 x v _ I1 r1 q1) λ_ s2 q=>q
def uo(hN:X.N.Nodup)(hi:X.N[i]?=some x)(hx:Loc X.env.scope x)(he:PE X e te)(hs:swapsWith e (some (.Name x pos')) pos.line X.env=pure false:=by rfl)(hf:X.fn x=true\/X.env.scope.names.lookup x=some .local:=by first|exact .inl rfl|exact .inr rfl|assumption) :
  PS X (.Assign [.Name x pos'] e pos) (KN te (BQ i)):=by
 intro pins s σ H D I h;refine wpAny_Assign_Name (cM (he pins s σ H _ I h) λv s1 ⟨y,H1,I1,r1,q1⟩=>?_) hs;exact B6 I1 hN hi hx r1 (λs2 I2=>⟨_,H1,I2,q1⟩) hf
end
section
def Rg(c:TT)(tb:TS):TS:=λD σ H=>∃W:Nat->St->Hp->Prop,(∃m,W m σ H)/\∀m σ H,W m σ H ->
 c σ H λb H1=>if b=true then ∃N:St->Hp->Prop,(∀σ' H',N σ' H'->∃m',m' < m/\W m' σ' H')/\tb { D with nx:=N,ct:=N,bk:=D.nx } σ H1 else D.nx σ H1
def J7(hp:PassesOwn (model X.prog X.w) X.A X.env X.xe)(hc:PT X c tc)(hb:AH X body tb):PS X (.While c body [] pos) (Rg tc tb):=by
 intro pins s σ H D I h;obtain⟨W,⟨m0,w0⟩,turn⟩:=h;refine wpAny_While (codeAny_whileLoop (λn s'=>∃σ' H',Inv X pins σ' H' s'/\W n σ' H') ?_ m0 ⟨σ,H,I,w0⟩);rintro n s1 ⟨σ1,H1,I1,w1⟩;refine jL hp (cM (hc pins s1 σ1 H1 _ I1 (turn n σ1 H1 w1)) λb s2 ⟨H2,I2,q2⟩=>?_);cases b with
 | true =>
  obtain⟨N,hN,q2⟩:=q2;rw[yM rfl];refine jL hp (cM (hb pins s2 σ1 H2 _ I2 q2) λf s3 q3=>?_);cases f with
  | next =>
   obtain⟨Yg,H3,I3,n3⟩:=q3;obtain⟨m',hm,w3⟩:=hN Yg H3 n3;exact⟨m',hm,Yg,H3,I3,w3⟩
  | cont =>
   obtain⟨Yg,H3,I3,n3⟩:=q3;obtain⟨m',hm,w3⟩:=hN Yg H3 n3;exact⟨m',hm,Yg,H3,I3,w3⟩
  | brk=>exact q3
  | ret v=>exact q3
 | false =>
  rw[yO xA];exact vW ⟨σ1,H2,I2,q2⟩
end
structure It where
 go:Nat->Hp->Prop
 yld:Nat->Hp->V->Hp->Prop
 stop:Nat->Hp->Prop
def bZ(X:Cx)(pins:List (Addr×Obj))(H:Hp)(b:Addr):Prop :=
 H b=none/\b≠X.env.locals/\b∉X.fs/\(b∈X.ex\/X.Wf.heap.objs.size<=b)/\(∀x c,X.env.cells.lookup x=some c->c≠b)/\∀p∈X.pn++pins,p.1≠b
def Inv.Xc(I:Inv X pins σ H s)(hb:s.heap.objs.size<=b)(hn:H' b=none):bZ X pins H' b:=by
 refine⟨hn,jJ (zP I.lt hb),I.adi hb,.inr (yD I.sz hb),λx c e z=>?_,λp hp z=>?_⟩
 ·obtain⟨v,q⟩:=I.cell x c e;exact absurd (zP q.lt (by rw[z];exact hb)) (qF _)
 ·exact absurd (zP (zY (I.pin p hp).1) (by rw[z];exact hb)) (qF _)
structure Turn(P:Program)(w:World)(K:W.Frag)(tg:Expr)(J:It)(fp:List Addr)(it:Addr)(tn:Nat->Heap->Prop):Prop where
 mem:it∈fp
 obj:∀i h,tn i h->∀b∈fp,∃o,h.get? b=some o/\∀v,o.data≠.cell v
 keep:∀i h h',tn i h->(∀b∈fp,∀o,h.get? b=some o->h'.get? b=some o)->tn i h'
 item:∀ (X:Cx),X.prog=P->X.w=w->X.K=K->X.calm=true->∀ (i:Nat) (pins:List (Addr×Obj)) (s:Shared) (σ:St) (H:Hp) (E:Value->Shared->Prop),Inv X pins σ H s->(∀b∈fp,bZ X pins H b)->tn i s.heap->J.go i H ->
  wpAny (model P w) X.A (pyNext (.ref it)) (λr s1=>∃u,r=some u /\
   wpAny (model P w) X.A (letOwnedTupleGo tg (.ref it) u) (λ_ s2=>∃x H',Inv X pins σ H' s2/\RelV x u/\J.yld i H x H'/\tn (i+1) s2.heap/\∀b∈fp,H' b=none) E s1) E s
 done:∀ (X:Cx),X.prog=P->X.w=w->X.K=K->X.calm=true->∀ (i:Nat) (pins:List (Addr×Obj)) (s:Shared) (σ:St) (H:Hp) (E:Value->Shared->Prop),Inv X pins σ H s->(∀b∈fp,bZ X pins H b)->tn i s.heap->J.stop i H ->
  wpAny (model P w) X.A (pyNext (.ref it)) (λr s1=>r=none/\Inv X pins σ H s1) E s
 self:∀ (A:Around) (i:Nat) (s:Shared) (Q:Value->Shared->Prop) (E:Value->Shared->Prop),tn i s.heap->Q (.ref it) s->wpAny (model P w) A (pyIter (.ref it)) Q E s
abbrev TI:=St->Hp->(It->Hp->Prop)->Prop
def Vr(X:Cx)(pins:List (Addr×Obj))(σ:St)(tg:Expr)(R:It->Hp->Prop)(itv:Value)(s2:Shared):Prop :=
 ∃ (it:Addr) (fp:List Addr) (tn:Nat->Heap->Prop) (J:It) (H':Hp),itv=.ref it/\Inv X pins σ H' s2/\Turn X.prog X.w X.K tg J fp it tn/\tn 0 s2.heap/\(∀b∈fp,bZ X pins H' b)/\R J H'
def PI(X:Cx)(tg iter:Expr)(wi:TI):Prop :=
 ∀ (pins:List (Addr×Obj)) (s:Shared) (σ:St) (H:Hp) (R:It->Hp->Prop),Inv X pins σ H s->wi σ H R ->
  wpAny (model X.prog X.w) X.A (eval iter X.env) (λv s1=>wpAny (model X.prog X.w) X.A (pyIter v) (Vr X pins σ tg R) X.xe s1) X.xe s
def L5(ho:s.heap.get? it=some o)(hc:o.cls=.type n)(hd:o.data=.fields vs)
  (hn:["enumerate","zip","dict_itemiterator","dict_reverseitemiterator","odict_iterator","itertools.zip_longest","itertools.pairwise"].contains n=false) (hQ:Q () s):wpAny M A (letOwnedTupleGo tg (.ref it) u) Q E s:=by
 unfold letOwnedTupleGo;cases tg<;>first
  | exact zW hQ
  | (cases u<;>first
    | exact zW hQ
    | (refine zV (wpAny_load ho ?_)
       rw[hc,hd];show wpAny M A (if (["enumerate","zip","dict_itemiterator","dict_reverseitemiterator","odict_iterator","itertools.zip_longest","itertools.pairwise"].contains n&&vs[0]? == some (rawInt _))=true then _ else _) Q E s;rw[yO (by intro h;rw[hn,wJ] at h;cases h)];exact zW hQ))
def Uu(K:W.Frag)(a:Addr):It :=
 ⟨λi H=>∃xs x,iw K H a xs/\xs[i]?=some x,λi H x H'=>H'=H/\∀xs,iw K H a xs->xs[i]?=some x,λi H=>∃xs,iw K H a xs/\xs.length<=i⟩
def U9(K:W.Frag)(a:Addr):It :=
 ⟨λi H=>∃xs x,j5 K H a xs/\xs[i]?=some x,λi H x H'=>H'=H/\∀xs,j5 K H a xs->xs[i]?=some x,λi H=>∃xs,j5 K H a xs/\xs.length<=i⟩
def T2(lo:Int)(n:Nat):It:=⟨λi _=>i < n,λi H x H'=>H'=H/\x=.int (lo+i),λi _=>n<=i⟩
def Ia{K:W.Frag}(a it:Addr):Turn P w K tg (Uu K a) [it] it (λi h=>h.IsListIter it a i) where
 mem:=by simp
 obj:=λi h st b hb=>by
  have e:b=it:=by simpa using hb
  subst e;obtain⟨o,e,c,d⟩:=st;exact⟨o,e,λv z=>by rw[d] at z;cases z⟩
 keep:=λi h h' st k=>st.at λo e=>k it (by simp) o e
 item:=by
  intro X hP hw hK hc i pins s σ H E I hf st hg;subst hP hw hK;obtain⟨xs,x,hq,hx⟩:=hg;obtain⟨its,rv,p,hz⟩:=I.list hq;obtain⟨u,hu,ru⟩:=rv.get hx;obtain⟨f0,f1,f2,f3,f4,f5⟩:=hf it (by simp);refine wpAny_pyNext_list_item st p.isList (x:=u) (by simpa using hu) λh' WT sb=>?_;have I1:Inv X pins σ H { s with heap:=h' }:=I.turned (t':=s.toks) (λb o hb e=>(sb.2 b hb).trans e) f0 f1 f3 f4 f5;obtain⟨o,e,c,d⟩:=id WT;exact⟨u,rfl,L5 (s:={ s with heap:=h' }) e c d (by decide) ⟨x,H,I1,ru,⟨rfl,λys hy=>by rw[I.X1 hy hq];exact hx⟩,WT,λb hb=>(hf b hb).1⟩⟩
 done:=by
  intro X hP hw hK hc i pins s σ H E I hf st hg;subst hP hw hK;obtain⟨xs,hq,hx⟩:=hg;obtain⟨its,rv,p,hz⟩:=I.list hq;obtain⟨f0,f1,f2,f3,f4,f5⟩:=hf it (by simp);have hl:=rv.length;exact wpAny_pyNext_list_end (I.ok.hd hc) st p.isList (by simp;lia) λh' eb=>⟨rfl,I.turned (t':=s.toks) (λb o hb e=>eb b o hb e) f0 f1 f3 f4 f5⟩
 self:=λ_ _ _ _ _ st h=>wpAny_pyIter_listiter st h
def Em{K:W.Frag}(a it:Addr):Turn P w K tg (U9 K a) [it] it (λi h=>h.IsTupleIter it a i) where
 mem:=by simp
 obj:=λi h st b hb=>by
  have e:b=it:=by simpa using hb
  subst e;obtain⟨o,e,c,d⟩:=st;exact⟨o,e,λv z=>by rw[d] at z;cases z⟩
 keep:=λi h h' st k=>st.at λo e=>k it (by simp) o e
 item:=by
  intro X hP hw hK hc i pins s σ H E I hf st hg;subst hP hw hK;obtain⟨xs,x,hq,hx⟩:=hg;obtain⟨its,rv,p,hz⟩:=I.tuple hq;obtain⟨u,hu,ru⟩:=rv.get hx;obtain⟨f0,f1,f2,f3,f4,f5⟩:=hf it (by simp);refine wpAny_pyNext_tuple_item st (show s.heap.IsTuple a its.toArray from p) (x:=u) (by simpa using hu) λh' WT sb=>?_;have I1:Inv X pins σ H { s with heap:=h' }:=I.turned (t':=s.toks) (λb o hb e=>(sb.2 b hb).trans e) f0 f1 f3 f4 f5;obtain⟨o,e,c,d⟩:=id WT;exact⟨u,rfl,L5 (s:={ s with heap:=h' }) e c d (by decide) ⟨x,H,I1,ru,⟨rfl,λys hy=>by rw[I.XB hy hq];exact hx⟩,WT,λb hb=>(hf b hb).1⟩⟩
 done:=by
  intro X hP hw hK hc i pins s σ H E I hf st hg;subst hP hw hK;obtain⟨xs,hq,hx⟩:=hg;obtain⟨its,rv,p,hz⟩:=I.tuple hq;obtain⟨f0,f1,f2,f3,f4,f5⟩:=hf it (by simp);have hl:=rv.length;exact wpAny_pyNext_tuple_end (I.ok.hd hc) st (show s.heap.IsTuple a its.toArray from p) (by simp;lia) λh' eb=>⟨rfl,I.turned (t':=s.toks) (λb o hb e=>eb b o hb e) f0 f1 f3 f4 f5⟩
 self:=λ_ _ _ _ _ st h=>wpAny_pyIter_tupleiter st h
def Eh{K:W.Frag}(it:Addr)(lo:Int)(n:Nat):Turn P w K tg (T2 lo n) [it] it (λi h=>IsRangeIter h it (lo+(i:Nat) * 1) ((n:Int) - (i:Nat)) 1) where
 mem:=by simp
 obj:=λi h st b hb=>by
  have e:b=it:=by simpa using hb
  subst e;exact⟨_,st,λv z=>by
   have z':Data.fields _=Data.cell v:=z;cases z'⟩
 keep:=λi h h' st k=>k it (by simp) _ st
 item:=by
  intro X hP hw hK hc i pins s σ H E I hf st hg;subst hP hw hK;obtain⟨f0,f1,f2,f3,f4,f5⟩:=hf it (by simp);have W:=Walks.range (prog:=X.prog) (w:=X.w) (I.ok.hd hc) it lo 1 n;refine W.item i s _ _ hg st λv h' tk hv WT kk=>?_;obtain⟨t,rfl⟩:=hv;have I1:Inv X pins σ H { s with heap:=h',toks:=tk }:=I.turned (λb o hb e=>kk b o (by simpa using hb) e) f0 f1 f3 f4 f5;refine⟨_,rfl,L5 (s:={ s with heap:=h',toks:=tk }) (n:="range_iterator") WT rfl rfl (by decide) ⟨.int (lo+i),H,I1,⟨t,?_⟩,⟨rfl,rfl⟩,WT,λb hb=>(hf b hb).1⟩⟩;rw[Int.mul_one]
 done:=by
  intro X hP hw hK hc i pins s σ H E I hf st hg;subst hP hw hK;obtain⟨f0,f1,f2,f3,f4,f5⟩:=hf it (by simp);exact wpAny_pyNext_range_end (I.ok.hd hc) st (by have:n<=i:=hg;lia) λh' eb=>⟨rfl,I.turned (t':=s.toks) (λb o hb e=>eb b o hb e) f0 f1 f3 f4 f5⟩
 self:=λ_ _ _ _ _ st h=>wpAny_pyIter_rangeiter st h
section
def Lj{lo:Int}{t u v:Tok}{tk:Nat}(I:Inv X pins σ H s)(h1:-(2 ^ 62)<=lo)(h2:lo < 2 ^ 62)(h3:-(2 ^ 62)<=hi)(h4:hi < 2 ^ 62)
  (q:R (T2 lo (hi - lo).toNat) H):wpAny (model X.prog X.w) X.A (pyIter (.ref s.heap.objs.size)) (Vr X pins σ tg R) E { s with heap:=s.heap.push { cls:=.type "range",data:=.fields #[.int lo t,.int hi u,.int 1 v] },toks:=tk }:=by
 refine wpAny_pyIter_range (IsRange.new ..) (small_one h1 h2 h3 h4) ?_;have I1:Inv X pins σ H { s with heap:=s.heap.push { cls:=.type "range",data:=.fields #[.int lo t,.int hi u,.int 1 v] },toks:=tk }:=I.kept λb o e=>zU _ e;refine⟨(s.heap.push { cls:=.type "range",data:=.fields #[.int lo t,.int hi u,.int 1 v] }).objs.size,[(s.heap.push { cls:=.type "range",data:=.fields #[.int lo t,.int hi u,.int 1 v] }).objs.size],_,_,H,rfl,
  I1.kept (t':=tk) λb o e=>zU _ e,Eh _ lo (hi - lo).toNat,?_,λb hb=>?_,q⟩
 ·have e1:lo+((0:Nat):Int) * 1=lo:=by simp
  have e2:(((hi - lo).toNat:Nat):Int) - ((0:Nat):Int)=Builtin.Range.rangeSize lo hi 1:=by rw[rangeSize_one];split<;>lia
  show IsRangeIter _ _ (lo+((0:Nat):Int) * 1) ((((hi - lo).toNat:Nat):Int) - ((0:Nat):Int)) 1;rw[e1,e2];exact zX _ rfl
 ·have e:b=(s.heap.push { cls:=.type "range",data:=.fields #[.int lo t,.int hi u,.int 1 v] }).objs.size:=by simpa using hb
  subst e;exact I1.Xc (yN _) (I1.Wb.fresh (yN _))
def SM(ta:TA):TI:=λσ H R=>ta σ H λvs H1=>∃j:Int,vs=[.int j]/\-(2 ^ 62)<=j/\j < 2 ^ 62/\R (T2 0 j.toNat) H1
def Hf(hg:Gl X "range")(hm:X.mg "range"=none)(ha:PA X [a] ta)(hs:starEach [a] X.env=[(false,eval a X.env)]:=by rfl):PI X tg (.Call (.Name "range" p) [a] [] pos) (SM ta):=by
 intro pins s σ H R I h;refine Call_ (ix I hg hm boot_range (qT (cM (ha pos pins s σ H _ I h) λus s1 ⟨vs,H1,I1,r1,q1⟩=>?_) hs rfl));obtain⟨j,e,q1,q2,q⟩:=q1;subst e;cases r1 with
 | cons r rr =>
  cases rr;obtain⟨t,rfl⟩:=r;exact call_range_1 (Lj I1 (by lia) (by lia) q1 q2 (by simpa using q))
def Vj(wi:TI)(g:TG)(tb:TS):TS:=λD σ H=>wi σ H λJ H1=>∃W:Nat->Nat->St->Hp->Prop,(∃m,W 0 m σ H1)/\∀i m σ H,W i m σ H ->
 (J.stop i H/\D.nx σ H)\/(J.go i H/\∃N:St->Hp->Prop,(∀σ' H',N σ' H'->∃m',m' < m/\W (i+1) m' σ' H')/\∀x H',J.yld i H x H'->g x σ H' λYx H2=>tb { D with nx:=N,ct:=N,bk:=D.nx } Yx H2)
def qd(fp:List Addr)(h:Heap):List (Addr×Obj):=fp.filterMap λb=>(h.get? b).map λo=>(b,o)
def ej(hb:b∈fp)(e:h.get? b=some o):(b,o)∈qd fp h:=List.mem_filterMap.mpr ⟨b,hb,by rw[e];rfl⟩
def Hw(hp:p∈qd fp h):p.1∈fp/\h.get? p.1=some p.2:=by
 obtain⟨b,hb,e⟩:=List.mem_filterMap.mp hp;cases q:h.get? b with
 | none=>rw[q] at e;cases e
 | some o =>
  rw[q] at e;have e':(b,o)=p:=xE e;subst e';exact⟨hb,q⟩
def Inv.pinned(I:Inv X pins σ H s)(hf:∀b∈fp,bZ X pins H b)(ho:∀b∈fp,∃o,s.heap.get? b=some o/\∀v,o.data≠.cell v):Inv X (pins++qd fp s.heap) σ H s :=
 I.XI λp hp=>(List.mem_append.mp hp).elim (λz=>I.pin p (yE _ z)) λz=>by
  obtain⟨hb,e⟩:=Hw z;obtain⟨f0,f1,f2,_⟩:=hf p.1 hb;obtain⟨o,e',d⟩:=ho p.1 hb;rw[e] at e';cases e';exact⟨e,f0,f1,f2,d⟩
def Inv.Wi(I:Inv X (pins++pl) σ H s):Inv X pins σ H s:=I.XI λp hp=>I.pin p (yE _ (qK _ hp))
def Py{pos:Pos}(hp:PassesOwn (model X.prog X.w) X.A X.env X.xe)(hc:X.calm=true)(hi:PI X tg iter wi)(hg:PG X tg g)(hb:AH X body tb)
  (hs:∀x,foldedSetIterable iter X.env x=pure x:=by intro _;rfl):PS X (.For tg iter body [] pos) (Vj wi g tb):=by
 intro pins s σ H D I h;refine wpAny_For (cM (hi pins s σ H _ I h) λv s1 h1=>cM h1 λitv s2 h2=>?_) hs;obtain⟨it,fp,tn,J,H2,e,I2,T,Yh,f2,W,⟨m0,w0⟩,turn⟩:=h2;subst e;have aaL:∀ {H':Hp},(∀b∈fp,H' b=none)->∀b∈fp,bZ X pins H' b:=λhn b hb=>⟨hn b hb,(f2 b hb).2⟩
 refine codeAny_forLoop_any (λn s'=>∃i σ' H',Inv X pins σ' H' s'/\tn i s'.heap/\(∀b∈fp,H' b=none)/\W i n σ' H') ?_ m0 ⟨0,σ,H2,I2,Yh,λb hb=>(f2 b hb).1,w0⟩;rintro n s3 ⟨i,Yg,H3,I3,st3,fr3,w3⟩;rcases turn i n Yg H3 w3 with ⟨stop,qn⟩|⟨go,N,hN,step⟩
 ·refine jL hp (cM (T.done X rfl rfl rfl hc i pins s3 Yg H3 X.xe I3 (aaL fr3) st3 stop) λr s4 ⟨hr,I4⟩=>?_);subst hr;exact vW ⟨Yg,H3,I4,qn⟩
 ·refine jL hp (cM (T.item X rfl rfl rfl hc i pins s3 Yg H3 X.xe I3 (aaL fr3) st3 go) λr s4 ⟨u,hr,h4⟩=>?_);subst hr;refine jL hp (cM h4 λ_ s5 ⟨x,H5,I5,r5,y5,st5,fr5⟩=>?_);have I5':=I5.pinned (aaL fr5) (T.obj _ _ st5);refine jL hp (cM (hg _ s5 Yg H5 x u _ I5' r5 (step x H5 y5)) λ_ s6 ⟨σ6,H6,I6,q6⟩=>?_);refine jL hp (cM (hb _ s6 σ6 H6 _ I6 q6) λf s7 q7=>?_);have again:∀ {Y5:St}{H7:Hp},Inv X (pins++qd fp s5.heap) Y5 H7 s7->N Y5 H7->∃m,m < n/\∃i σ' H',Inv X pins σ' H' s7/\tn i s7.heap/\(∀b∈fp,H' b=none)/\W i m σ' H':=λ{Y5 H7} I7 n7=>by
   obtain⟨m',hm,w7⟩:=hN Y5 H7 n7;refine⟨m',hm,i+1,Y5,H7,I7.Wi,T.keep _ _ _ st5 λb hb o e=>(I7.pin (b,o) (yE _ (yE _ (ej hb e)))).1,λb hb=>?_,w7⟩;obtain⟨o,e,d⟩:=T.obj _ _ st5 b hb;exact (I7.pin (b,o) (yE _ (yE _ (ej hb e)))).2.1
  cases f with
  | next=>obtain⟨Y5,H7,I7,n7⟩:=q7;exact again I7 n7
  | cont=>obtain⟨Y5,H7,I7,n7⟩:=q7;exact again I7 n7
  | brk=>obtain⟨Y5,H7,I7,q7⟩:=q7;exact⟨Y5,H7,I7.Wi,q7⟩
  | ret v=>obtain⟨x7,Y5,H7,I7,r7,q7⟩:=q7;exact⟨x7,Y5,H7,I7.Wi,r7,q7⟩
end
abbrev R2:=V->V->Hp->VK->Prop
def jc(X:Cx)(f:Value->Value->Sem Value)(r:R2):Prop :=
 ∀ (pins:List (Addr×Obj)) (s:Shared) (σ:St) (H:Hp) (x y:V) (v u:Value) (Q:VK),Inv X pins σ H s->RelV x v->RelV y u->r x y H Q ->
  wpAny (model X.prog X.w) X.A (f v u) (EP X pins σ Q) X.xe s
def Vg(X:Cx)(f:Value->Sem Value)(r:V->Hp->VK->Prop):Prop :=
 ∀ (pins:List (Addr×Obj)) (s:Shared) (σ:St) (H:Hp) (x:V) (v:Value) (Q:VK),Inv X pins σ H s->RelV x v->r x H Q ->
  wpAny (model X.prog X.w) X.A (f v) (EP X pins σ Q) X.xe s
def ft(X:Cx)(f:Value)(r:List V->Hp->VK->Prop):Prop :=
 ∀ (pins:List (Addr×Obj)) (s:Shared) (σ:St) (H:Hp) (xs:List V) (us:List Value) (Q:VK),Inv X pins σ H s->aQ xs us->r xs H Q ->
  wpAny (model X.prog X.w) X.A (call f us) (EP X pins σ Q) X.xe s
def Tp(r:R2)(ta tb:TE):TE:=λσ H Q=>ta σ H λx H1=>tb σ H1 λy H2=>r x y H2 Q
def V5(r:V->Hp->VK->Prop)(ta:TE):TE:=λσ H Q=>ta σ H λx H1=>r x H1 Q
def rI(C:Int->Int->Prop)(g:Int->Int->V):R2:=λx y H Q=>∃i j,x=.int i/\y=.int j/\C i j/\Q (g i j) H
def Mi(g:Int->Int->V):R2:=λx y H Q=>∃i j,x=.int i/\y=.int j/\Q (g i j) H
def rU(g:Int->V):V->Hp->VK->Prop:=λx H Q=>∃i,x=.int i/\Q (g i) H
section
def PN(ha:PE X a ta)(hb:PE X b tb){pins:List (Addr×Obj)}{σ:St}{R:V->V->Hp->Prop}(I:Inv X pins σ H s)
  (h:ta σ H λx H1=>tb σ H1 λy H2=>R x y H2) {Q:Value->Shared->Prop}{f:Value->Value->Sem Value}
  (hf:∀v u s2 x y H2,Inv X pins σ H2 s2->RelV x v->RelV y u->R x y H2->wpAny (model X.prog X.w) X.A (f v u) Q X.xe s2) :
  wpAny (model X.prog X.w) X.A (eval a X.env) (λv We=>wpAny (model X.prog X.w) X.A (eval b X.env) (λu ZW=>wpAny (model X.prog X.w) X.A (f v u) Q X.xe ZW) X.xe We) X.xe s:=by
 refine cM (ha pins s σ H _ I h) λv s1 ⟨x,H1,I1,r1,q1⟩=>?_;refine cM (hb pins s1 σ H1 _ I1 q1) λu s2 ⟨y,H2,I2,r2,q2⟩=>?_;exact hf v u s2 x y H2 I2 r1 r2 q2
def FW(ho:jc X (binaryOp op) r)(ha:PE X a ta)(hb:PE X b tb):PE X (.BinOp a op b pos) (Tp r ta tb):=by
 intro pins s σ H Q I h;exact wpAny_BinOp (PN ha hb I h λv u s2 x y H2 I2 rx ry q=>ho pins s2 σ H2 x y v u Q I2 rx ry q)
def Td(ho:Vg X (unaryOp op) r)(ha:PE X a ta):PE X (.UnaryOp op a pos) (V5 r ta):=by
 intro pins s σ H Q I h;exact UnaryOp_ (cM (ha pins s σ H _ I h) λv s1 ⟨x,H1,I1,r1,q1⟩=>ho pins s1 σ H1 x v Q I1 r1 q1)
def UV{f:Value->Value->Sem Value}{C:Int->Int->Prop}{g:Int->Int->Int}
  (rule:∀ (i j:Int) (t u:Tok) (s:Shared) (Q:Value->Shared->Prop) (E:Value->Shared->Prop),C i j->Q (.int (g i j) s.toks) { s with toks:=s.toks+1 }->wpAny (model X.prog X.w) X.A (f (.int i t) (.int j u)) Q E s) :
  jc X f (rI C λi j=>.int (g i j)):=by
 intro pins s σ H x y v u Q I rx ry h;obtain⟨i,j,rfl,rfl,hc,q⟩:=h;obtain⟨t,rfl⟩:=rx;obtain⟨t',rfl⟩:=ry;exact rule i j t t' s _ _ hc ⟨.int (g i j),H,I.tok _,⟨_,rfl⟩,q⟩
def SF{f:Value->Value->Sem Value}{g:Int->Int->Int}
  (rule:∀ (i j:Int) (t u:Tok) (s:Shared) (Q:Value->Shared->Prop) (E:Value->Shared->Prop),Q (.int (g i j) s.toks) { s with toks:=s.toks+1 }->wpAny (model X.prog X.w) X.A (f (.int i t) (.int j u)) Q E s) :
  jc X f (Mi λi j=>.int (g i j)):=by
 intro pins s σ H x y v u Q I rx ry h;obtain⟨i,j,rfl,rfl,q⟩:=h;obtain⟨t,rfl⟩:=rx;obtain⟨t',rfl⟩:=ry;exact rule i j t t' s _ _ ⟨.int (g i j),H,I.tok _,⟨_,rfl⟩,q⟩
def Nt{f:Value->Value->Sem Value}{g:Int->Int->Bool}
  (rule:∀ (i j:Int) (t u:Tok) (s:Shared) (Q:Value->Shared->Prop) (E:Value->Shared->Prop),Q (.bool (g i j)) s->wpAny (model X.prog X.w) X.A (f (.int i t) (.int j u)) Q E s) :
  jc X f (Mi λi j=>.bl (g i j)):=by
 intro pins s σ H x y v u Q I rx ry h;obtain⟨i,j,rfl,rfl,q⟩:=h;obtain⟨t,rfl⟩:=rx;obtain⟨t',rfl⟩:=ry;exact rule i j t t' s _ _ ⟨.bl (g i j),H,I,rfl,q⟩
def Nu(i j:Int):Prop:=0 < j/\j < 1073741824
def ub(i j:Int):Prop:=(-(2 ^ 64) < i/\i < 2 ^ 64)\/(-(2 ^ 64) < j/\j < 2 ^ 64)
def ub.ok(h:ub i j):IntMulOk i j:=by
 rcases h with ⟨h1,h2⟩|⟨h1,h2⟩
 ·exact .of_left (intBits_le_64 h1 h2)
 ·exact .of_right (intBits_le_64 h1 h2)
def Re:jc X (binaryOp .Add) (Mi λi j=>.int (i+j)):=SF λ_ _ _ _ _ _ _ q=>add_int q
def Rw:jc X (binaryOp .Sub) (Mi λi j=>.int (i - j)):=SF λ_ _ _ _ _ _ _ q=>sub_int q
def Q3:jc X (binaryOp .Mult) (rI ub λi j=>.int (i * j)):=UV λ_ _ _ _ _ _ _ hc q=>mul_int q hc.ok
def MP:jc X (binaryOp .FloorDiv) (rI Nu λi j=>.int (i / j)):=UV λi j _ _ _ _ _ hc q=>by
 have h1:(0:Int) < j:=hc.1;have h2:j < 1073741824:=hc.2;exact floordiv_int (by lia) (by rw[Int.fdiv_eq_ediv_of_nonneg i (by lia)];exact q) (.inl (PyProof.noPylong_small (by lia)))
def QG:jc X (binaryOp .Mod) (rI (λ_ j=>0 < j) λi j=>.int (i % j)):=UV λi j _ _ _ _ _ hc q=>by
 have h1:(0:Int) < j:=hc;exact mod_int' (by lia) (by rw[Int.fmod_eq_emod_of_nonneg i (by lia)];exact q)
def VU{f:Value->Sem Value}{g:Int->Int}
  (rule:∀ (i:Int) (t:Tok) (s:Shared) (Q:Value->Shared->Prop) (E:Value->Shared->Prop),Q (.int (g i) s.toks) { s with toks:=s.toks+1 }->wpAny (model X.prog X.w) X.A (f (.int i t)) Q E s) :
  Vg X f (rU λi=>.int (g i)):=by
 intro pins s σ H x v Q I rx h;obtain⟨i,rfl,q⟩:=h;obtain⟨t,rfl⟩:=rx;exact rule i t s _ _ ⟨.int (g i),H,I.tok _,⟨_,rfl⟩,q⟩
def PZ:Vg X (unaryOp .USub) (rU λi=>.int (-i)):=VU λ_ _ _ _ _ q=>neg_int q
end
def sT:V->V->Bool
 | .V6,.V6=>true|.V6,.int _=>true|.int _,.V6=>true|.V6,.bl _=>true|.bl _,.V6=>true|.V6,.str _=>true|.str _,.V6=>true
 | .int _,.int _=>true|.bl _,.bl _=>true|.str _,.str _=>true|.ZQ _,.ZQ _=>true
 | .int _,.str _=>true|.str _,.int _=>true|.bl _,.str _=>true|.str _,.bl _=>true
 | _,_=>false
def VL:R2:=λx y H Q=>sT x y=true/\Q (.bl (!decide (x=y))) H
def MQ:decide (V.int i=V.int j)=(i == j):=by
 rw[vB];simp
def RB:decide (V.bl i=V.bl j)=(i == j):=by
 rw[vB];simp
def Nw:decide (V.str i=V.str j)=(i == j):=by
 rw[vB];simp
def Ni:decide (V.ZQ i=V.ZQ j)=(i.toList == j.toList):=by
 rw[vB];cases i;cases j;simp
section
def dy(I:Inv X pins σ H s)(q:Q (.bl k) H)(e:k=k'):EP X pins σ Q (.bool k') s:=by
 subst e;exact⟨.bl k,H,I,rfl,q⟩
def Th:jc X (compareOp .NotEq) VL:=by
 intro pins s σ H x y v u Q I rx ry h;obtain⟨hs,q⟩:=h;cases x with
 | V6 =>
  cases rx;cases y with
  | V6=>cases ry;exact PySem.EqNone.ne_none_none (dy I q (by simp))
  | bl j=>cases ry;exact PySem.EqNone.ne_none_bool (dy I q (by simp))
  | int j=>obtain⟨t',rfl⟩:=ry;exact PySem.EqNone.ne_none_int (dy I q (by simp))
  | str j=>obtain⟨t',rfl⟩:=ry;exact PySem.EqNone.ne_none_str (dy I q (by simp))
  | _=>exact absurd (show false=true from hs) xA
 | bl i =>
  cases rx;cases y with
  | V6=>cases ry;exact PySem.EqNone.ne_bool_none (dy I q (by simp))
  | bl j=>cases ry;exact ne_bool (dy I q (jD not RB))
  | str j=>obtain⟨t',rfl⟩:=ry;exact PySem.EqMixed.ne_bool_str (dy I q (by simp))
  | _=>exact absurd (show false=true from hs) xA
 | int i =>
  obtain⟨t,rfl⟩:=rx;cases y with
  | V6=>cases ry;exact PySem.EqNone.ne_int_none (dy I q (by simp))
  | int j=>obtain⟨t',rfl⟩:=ry;exact ne_int (dy I q (jD not MQ))
  | str j=>obtain⟨t',rfl⟩:=ry;exact PySem.EqMixed.ne_int_str (dy I q (by simp))
  | _=>exact absurd (show false=true from hs) xA
 | str i =>
  obtain⟨t,rfl⟩:=rx;cases y with
  | V6=>cases ry;exact PySem.EqNone.ne_str_none (dy I q (by simp))
  | bl j=>cases ry;exact PySem.EqMixed.ne_str_bool (dy I q (by simp))
  | int j=>obtain⟨t',rfl⟩:=ry;exact PySem.EqMixed.ne_str_int (dy I q (by simp))
  | str j=>obtain⟨t',rfl⟩:=ry;exact ne_str (dy I q (jD not Nw))
  | _=>exact absurd (show false=true from hs) xA
 | ZQ i =>
  obtain⟨t,rfl⟩:=rx;cases y with
  | ZQ j=>obtain⟨t',rfl⟩:=ry;exact W.ne_bytes (dy I q (jD not Ni))
  | _=>exact absurd (show false=true from hs) xA
 | _=>cases y<;>exact absurd (show false=true from hs) xA
def LR:jc X (compareOp .Lt) (Mi λi j=>.bl (decide (i < j))):=Nt λ_ _ _ _ _ _ _ q=>lt_int q
def Jz:jc X (compareOp .LtE) (Mi λi j=>.bl (decide (i<=j))):=Nt λ_ _ _ _ _ _ _ q=>le_int q
def OG:jc X (compareOp .Gt) (Mi λi j=>.bl (decide (j < i))):=Nt λ_ _ _ _ _ _ _ q=>gt_int q
def OI:jc X (compareOp .GtE) (Mi λi j=>.bl (decide (j<=i))):=Nt λ_ _ _ _ _ _ _ q=>ge_int q
def Ln:jc X (compareOp .Is) (λx y H Q=>y=.V6/\Q (.bl (decide (x=.V6))) H):=by
 intro pins s σ H x y v u Q I rx ry h;obtain⟨rfl,q⟩:=h;cases ry;refine is_none_gen (dy I q ?_);cases x<;>first
  | (cases rx;rfl)
  | (obtain⟨t,rfl⟩:=rx;rfl)
def FC:jc X (compareOp .IsNot) (λx y H Q=>y=.V6/\Q (.bl (!decide (x=.V6))) H):=by
 intro pins s σ H x y v u Q I rx ry h;obtain⟨rfl,q⟩:=h;cases ry;refine isnot_none_gen (dy I q ?_);cases x<;>first
  | (cases rx;rfl)
  | (obtain⟨t,rfl⟩:=rx;rfl)
def isObj:HO->Bool
 | .lst _=>true
 | .ins _ _ _=>true
 | _=>false
def w8(I:Inv X pins σ H s)(h:H a=some o)(p:isObj o=true):∃ob,s.heap.get? a=some ob/\ob.cls≠.type "tuple":=by
 cases o with
 | lst xs =>
  obtain⟨_,its,n,_,e⟩:xs.length<=sizeLine/\∃ (its:List Value) (n:Nat),aQ xs its/\s.heap.get? a=some { cls:=.type "list",data:=.seq its.toArray n }:=I.Wb a _ h;exact⟨_,e,(by show Value.type "list"≠.type "tuple";decide +kernel)⟩
 | ins C dx fs =>
  have x:=I.Wb a _ h;obtain⟨_,_,_,e,_⟩:=x;exact⟨_,e,(by show Value.ref C≠.type "tuple";exactλz=>by cases z)⟩
 | _=>exact absurd (show false=true from p) xA
def jc.or(h:jc X f r)(h':jc X f r'):jc X f (λx y H Q=>r x y H Q\/r' x y H Q):=by
 intro pins s σ H x y v u Q I rx ry q;rcases q with q|q
 ·exact h pins s σ H x y v u Q I rx ry q
 ·exact h' pins s σ H x y v u Q I rx ry q
def dN(b:Expr)(h:op≠.In:=by decide)(h2:op≠.NotIn:=by decide):behindInMarks op b=false:=by
 have e1:(op == CmpOp.In)=false:=by cases op<;>first|rfl|exact absurd rfl h
 have e2:(op == CmpOp.NotIn)=false:=by cases op<;>first|rfl|exact absurd rfl h2
 cases b<;>simp[behindInMarks,e1,e2]
def NY(ho:jc X (compareOp op) r)(ha:PE X a ta)(hb:PE X b tb)(hm:behindInMarks op b=false):PE X (.Compare a [op] [b] pos) (Tp r ta tb):=by
 intro pins s σ H Q I h;exact wpAny_Compare1 (PN ha hb I h λv u s2 x y H2 I2 rx ry q=>ho pins s2 σ H2 x y v u Q I2 rx ry q) hm
def Pe(t:TE):TT:=λσ H Q=>t σ H λx H'=>∃k,x=.bl k/\Q k H'
def FH(ho:jc X (compareOp op) r)(ha:PE X a ta)(hb:PE X b tb)(hm:behindInMarks op b=false):PT X (.Compare a [op] [b] pos) (Pe (Tp r ta tb)):=by
 intro pins s σ H Q I h;refine wpAny_isTrue_Compare1 (cM (ha pins s σ H _ I h) λv s1 ⟨x,H1,I1,r1,q1⟩=>cM (hb pins s1 σ H1 _ I1 q1) λu s2 ⟨y,H2,I2,r2,q2⟩ =>
  cM (ho pins s2 σ H2 x y v u _ I2 r1 r2 q2) λc s3 ⟨z,H3,I3,r3,k,e,q3⟩=>?_) hm
 subst e;cases r3;exact xX ⟨H3,I3,q3⟩
def Fw(r r':R2)(ta tb tc:TE):TE:=λσ H Q=>ta σ H λx H1=>tb σ H1 λy H2=>r x y H2 λz H3=>∃k,z=.bl k /\
 (if k=true then tc σ H3 λw' H4=>r' y w' H4 Q else Q (.bl false) H3)
def Lb(ho:jc X (compareOp op) r)(XA:jc X (compareOp Yy) r')(ha:PE X a ta)(hb:PE X b tb)(hc:PE X c tc)
  (hm:lastMarks [op,Yy] [b,c]=false:=by with_unfolding_all rfl):PE X (.Compare a [op,Yy] [b,c] pos) (Fw r r' ta tb tc):=by
 intro pins s σ H Q I h;refine Compare_chain (cM (ha pins s σ H _ I h) λv s1 ⟨x,H1,I1,r1,q1⟩=>chain_link (cM (hb pins s1 σ H1 _ I1 q1) λu s2 ⟨y,H2,I2,r2,q2⟩ =>
  cM (ho pins s2 σ H2 x y v u _ I2 r1 r2 q2) λd s3 ⟨z,H3,I3,r3,k,e,q3⟩=>?_)) hm
 subst e;cases r3;refine xX ?_;cases k with
 | false=>exact ite_ff ⟨.bl false,H3,I3,rfl,q3⟩
 | true=>exact ite_tt (chain_last (cM (hc pins s3 σ H3 _ I3 q3) λw' s4 ⟨z',H4,I4,r4,q4⟩=>XA pins s4 σ H4 y z' u w' Q I4 r2 r4 q4))
def Mb(ho:jc X (compareOp op) r)(XA:jc X (compareOp Yy) r')(ha:PE X a ta)(hb:PE X b tb)(hc:PE X c tc)
  (hm:lastMarks [op,Yy] [b,c]=false:=by with_unfolding_all rfl):PT X (.Compare a [op,Yy] [b,c] pos) (Pe (Fw r r' ta tb tc)):=by
 intro pins s σ H Q I h;refine isTrue_chain (cM (ha pins s σ H _ I h) λv s1 ⟨x,H1,I1,r1,q1⟩=>test_link (cM (hb pins s1 σ H1 _ I1 q1) λu s2 ⟨y,H2,I2,r2,q2⟩ =>
  cM (ho pins s2 σ H2 x y v u _ I2 r1 r2 q2) λd s3 ⟨z,H3,I3,r3,k,e,q3⟩=>?_)) hm
 subst e;cases r3;refine xX ?_;cases k with
 | false =>
  obtain⟨k',e',q'⟩:=q3;cases e';exact ite_ff ⟨H3,I3,q'⟩
 | true =>
  refine ite_tt (test_last (cM (hc pins s3 σ H3 _ I3 q3) λw' s4 ⟨z',H4,I4,r4,q4⟩=>cM (XA pins s4 σ H4 y z' u w' _ I4 r2 r4 q4) λd' s5 ⟨z2,H5,I5,r5,k2,e2,q5⟩=>?_));subst e2;cases r5;exact xX ⟨H5,I5,q5⟩
def uk:(sizeLine:Nat) < 2 ^ 63:=by rw[qV];decide
def vals1(r:aQ [x] us):∃u,us=[u]/\RelV x u:=by
 cases r with
 | cons r1 r2=>cases r2;exact⟨_,rfl,r1⟩
def vals2(r:aQ [x,y] us):∃u w',us=[u,w']/\RelV x u/\RelV y w':=by
 cases r with
 | cons r1 r2 =>
  cases r2 with
  | cons r3 r4=>cases r4;exact⟨_,_,rfl,r1,r3⟩
def C2:ft X (.builtin "abs") (λxs H Q=>∃i,xs=[.int i]/\Q (.int (if i < 0 then -i else i)) H):=by
 intro pins s σ H xs us Q I r h;obtain⟨i,rfl,q⟩:=h;obtain⟨u,rfl,t,rfl⟩:=vals1 r;exact call_abs_int λu tk=>⟨.int (if i < 0 then -i else i),H,I.tok _,⟨_,rfl⟩,q⟩
end
section
variable {K:W.Frag}
end
section
end
section
end
section
end
section
end
structure eR(k:Nat)(A:Around):Prop where
 hd:A.handled=none
 dp:A.depth+3 * k+5 < recursionLimit
 un:A.units+16 * k+200 < cLine
def eR.mono(r:eR k A)(h:j<=k):eR j A:=⟨r.hd,by have:=r.dp;lia,by have:=r.un;lia⟩
def eR.deeper(r:eR (k+1) A)(env:Env):eR k (A.deeper env) :=
 ⟨r.hd,by have:=r.dp;show A.depth+1+3 * k+5 < _;lia,by have:=r.un;show A.units+3+16 * k+200 < _;lia⟩
def eR.in1(r:eR (k+1) A):eR k A.in1 :=
 ⟨r.hd,by have:=r.dp;show A.depth+3 * k+5 < _;lia,by have:=r.un;show A.units+1+16 * k+200 < _;lia⟩
def eR.depth(r:eR k A):A.depth < recursionLimit:=by have:=r.dp;lia
def eR.units(r:eR k A):A.units+64 < cLine:=by have:=r.un;lia
def eR.Y6(r:eR k A):A.units < cLine:=by have:=r.un;lia
def UH:TA:=λ_ H Q=>Q [] H
def SL(ta:TE)(tr:TA):TA:=λσ H Q=>ta σ H λx H1=>tr σ H1 λxs H2=>Q (x::xs) H2
section
def fT:PA X [] UH:=λ_ _ _ _ H Q I h=>kL ⟨[],H,I,.nil,h⟩
def cK(ha:PE X e te)(hr:PA X es t)(hs:starEach (e::es) X.env=(false,eval e X.env)::starEach es X.env:=by rfl):PA X (e::es) (SL te t):=by
 intro pos pins s σ H Q I h;rw[hs];show wpAny _ _ (spliced ((false,eval e X.env)::backTo pos (starEach es X.env))) _ _ s;refine jK (cM (ha pins s σ H _ I h) λu s1 ⟨x,H1,I1,r1,q1⟩=>?_);exact cM (hr pos pins s1 σ H1 _ I1 q1) λus s2 ⟨xs,H2,I2,r2,q2⟩=>⟨x::xs,H2,I2,.cons r1 r2,q2⟩
def UC(t:TA):TE:=λσ H Q=>t σ H λxs H1=>xs.length<=sizeLine/\∀p,H1 p=none->Q (.ref p) (upd H1 p (.tup xs))
def UI(t:TA):TE:=λσ H Q=>t σ H λxs H1=>xs.length<=sizeLine/\∀p,H1 p=none->Q (.ref p) (upd H1 p (.lst xs))
def Jh{x1}(h:PA X es t):PE X (.Tuple es x1 pos) (UC t):=by
 intro pins s σ H Q I hq;refine wpAny_Tuple_spliced (cM (h pos pins s σ H _ I hq) λus s1 ⟨xs,H1,I1,r,z,q⟩=>⟨by rw[<- r.length];exact z,?_⟩);have hf:H1 s1.heap.objs.size=none:=I1.Wb.fresh (yN _);refine⟨.ref s1.heap.objs.size,upd H1 s1.heap.objs.size (.tup xs),I1.laid (t':=s1.toks) (λb u e=>zU _ e) (yN _) ?_,rfl,q _ hf⟩;exact⟨z,us,r,⟨_,zX _ rfl,rfl,_,rfl⟩,_,zX _ rfl,rfl⟩
def Fc(h:PA X es t):PE X (.List es pos) (UI t):=by
 intro pins s σ H Q I hq;refine wpAny_List_spliced (cM (h pos pins s σ H _ I hq) λus s1 ⟨xs,H1,I1,r,z,q⟩=>⟨by rw[<- r.length];exact z,?_⟩);have hf:H1 s1.heap.objs.size=none:=I1.Wb.fresh (yN _);refine⟨.ref s1.heap.objs.size,upd H1 s1.heap.objs.size (.lst xs),I1.laid (t':=s1.toks) (λb u e=>zU _ e) (yN _) ?_,rfl,q _ hf⟩;exact⟨z,us,0,r,zX _ rfl⟩
end
abbrev Sp:=List V->Hp->VK->XK->Prop
abbrev MZ:=List Env->Hp->Shared->XK->Value->Shared->Prop
structure DY(P:Program)(w:World)(K:W.Frag)(mg:Str->Option Value)(base:Heap)(A:Around)(outer:List Env)(s:Shared)(H:Hp):Prop where
 frames:A.frames=some outer
 mod:Mod K mg base
 bs:∀b o,base.get? b=some o->s.heap.get? b=some o/\H b=none
 Y2:base.objs.size<=s.heap.objs.size
 W0:s.heap.FunFrames base outer
 ZT:∀b∈jb outer,H b=none
 Wb:pU P w H s.heap
 bare:AllBare s.gens
def CE(outer:List Env)(P:Program)(w:World)(H:Hp)(s:Shared)(Q:VK)(u:Value)(s':Shared):Prop :=
 ∃v H',s'.os=s.os/\AllBare s'.gens/\Un (jb outer) [] H H' s.heap s'.heap/\pU P w H' s'.heap/\RelV v u/\Q v H'
def CR(CX:MZ)(outer:List Env)(P:Program)(w:World)(H:Hp)(s:Shared)(Q:VK)(E:XK)(r:Result)(s':Shared):Prop :=
 match r with
 | .ok (.ret u)=>CE outer P w H s Q u s'
 | .ok _=>False
 | .error e=>CX outer H s E e s'
structure sJ(P:Program)(w:World)(K:W.Frag)(mg:Str->Option Value)(base:Heap)(CX:MZ)(k:Nat)(f:Addr)(fd:FuncData)(ps:List Str)(sp:Sp):Prop where
 len:∀vs H Q E,sp vs H Q E->vs.length=ps.length
 run:∀ (A:Around) (outer:List Env) (s:Shared) (H:Hp) (args:Args) (us:List Value) (vs:List V) (Q:VK) (E:XK),eR k A->DY P w K mg base A outer s H->BindsTo s fd args (ps.zip us)->aQ vs us->sp vs H Q E ->
  codeAny (model P w) A (.call (.ref f) args) (CR CX outer P w H s Q E) s
def sJ.mono{K:W.Frag}(F:sJ P w K mg base CX j f fd ps sp)(h:j<=k) :
  sJ P w K mg base CX k f fd ps sp:=⟨F.len,λA outer s H args us vs Q E hr=>F.run A outer s H args us vs Q E (hr.mono h)⟩
section
def Inv.abK(I:Inv X pins σ H s):DY X.prog X.w X.K X.mg X.base X.A X.stack s H :=
 ⟨I.ok.frames,I.ok.mod,I.bs,yD I.ok.Y2 I.sz,I.stack,I.W2,I.Wb,I.bare⟩
def Inv.after(I:Inv X pins σ H s)(h:CE X.stack X.prog X.w H s Q u s'):EP X pins σ Q u s':=by
 obtain⟨v,H',os,bare,un,Wb,r,q⟩:=h;obtain⟨hh,g,d,t,os'⟩:=s';obtain rfl:os'=s.os:=os;exact⟨v,H',I.call (h':=hh) (g':=g) (d':=d) (t':=t) (ch:=[]) un Wb bare (λb z=>absurd z (by simp)),r,q⟩
end
def SA(sp:Sp)(dvs:List V)(E:XK)(t:TA):TE:=λσ H Q=>t σ H λvs H1=>sp (vs++dvs) H1 Q E
def Binds(K:W.Frag)(fd:FuncData)(ps:List Str)(ds:List Value):Prop :=
 ∀ (s:Shared) (us:List Value),K.In s.heap->(us++ds).length=ps.length->BindsTo s fd ⟨us,[]⟩ (ps.zip (us++ds))
def Binds.all{K:W.Frag}(h:∀us:List Value,us.length=ps.length->bindArgs fd ⟨us,[]⟩=pure (ps.zip us)):Binds K fd ps []:=λs us _ hl=>by
 rw[qG] at hl ⊢;exact .of_eq (h us hl)
def gq(CX:MZ)(X:Cx)(E:XK):Prop:=∀ (pins:List (Addr×Obj)) (σ:St) (H:Hp) (s:Shared) (e:Value) (s':Shared),Inv X pins σ H s->CX X.stack H s E e s'->X.xe e s'
section
def Pu(F:sJ X.prog X.w X.K X.mg X.base CX k f fd ps sp)(hr:eR k X.A)(hb:Binds X.K fd ps ds)(hd:aQ dvs ds)(hx:gq CX X E)
  (I:Inv X pins σ H s) (r:aQ vs us) (h:sp (vs++dvs) H Q E):wpAny (model X.prog X.w) X.A (call (.ref f) us) (EP X pins σ Q) X.xe s:=by
 have r2:aQ (vs++dvs) (us++ds):=r.append hd;have hl:(us++ds).length=ps.length:=by rw[<- r2.length];exact F.len _ _ _ _ h
 refine vP (jT (F.run X.A X.stack s H ⟨us,[]⟩ (us++ds) (vs++dvs) Q E hr I.abK (hb s us I.XZ hl) r2 h) λr s' hq=>?_);cases r with
 | error e=>exact hx pins σ H s e s' I hq
 | ok fl =>
  cases fl with
  | ret u=>exact I.after hq
  | next=>exact False.elim hq
  | brk=>exact False.elim hq
  | cont=>exact False.elim hq
def Gr(F:sJ X.prog X.w X.K X.mg X.base CX k f fd ps sp)(hr:eR k X.A)(hg:Gl X x)(hm:X.mg x=some (.ref f))(hk:W.keepIn X.K (.ref f)=true)(hb:Binds X.K fd ps ds)(hd:aQ dvs ds)(hx:gq CX X E)
  (ha:PA X (e::es) t) (WI:(x == ("__debug__":Str))=false:=by decide) (he:starEach (e::es) X.env=(false,eval e X.env)::starEach es X.env:=by rfl) (W5:(backTo pos (starEach es X.env)).any (·.1)=false:=by rfl) :
  PE X (.Call (.Name x p) (e::es) [] pos) (SA sp dvs E t):=by
 intro pins s σ H Q I h;refine qZ (mX I hg hm ?_ WI);refine W.callWith_K (h₀:=X.base) I.ok.mod.kin hk (cM (ha pos pins s σ H _ I h) λus s1 ⟨vs,H1,I1,r,q⟩=>⟨I1.XZ,?_⟩) he W5;exact Pu F hr hb hd hx I1 r q
end
section
end
structure dk(N P:List Str)(sc:Scope):Prop where
 kind:sc.kind=.function
 co:sc.isCoroutine=false
 gen:sc.isGenerator=false
 nd:N.Nodup
 pre:N.take P.length=P
 par:∀x∈P,sc.names.lookup x=some .local \/ sc.names.lookup x=some .cell
 aaO:∀y∈sc.names,y.2≠.free
def zc{kindOf:Str->Option NameKind}:∀ {binds:List (Str×Value)}{m:Str->Option Value},(∀v,(x,v)∉binds)->bindL kindOf binds m x=m x
 | [],_,_=>rfl
 | (n,v)::r,m,h=>by
  unfold bindL;rw[zc λw hw=>h w (zC _ hw)];split
  ·have:x≠n:=by rintro rfl;exact h v zE
   simp[this]
  ·rfl
def xn{kindOf:Str->Option NameKind}:∀ {binds:List (Str×Value)}{m:Str->Option Value},(∀v,(x,v)∉binds)->bindC kindOf binds m x=m x
 | [],_,_=>rfl
 | (n,v)::r,m,h=>by
  unfold bindC;rw[xn λw hw=>h w (zC _ hw)];split
  ·rfl
  ·have:x≠n:=by rintro rfl;exact h v zE
   simp[this]
def xt{kindOf:Str->Option NameKind}:∀ {P:List Str}{vs:List Value}{i:Nat}{m:Str->Option Value},P.Nodup->P[i]?=some x->vs[i]?=some v->kindOf x=some .local ->
  bindL kindOf (P.zip vs) m x=some v
 | [],_,_,_,_,h,_,_=>by simp at h
 | _::_,[],_,_,_,_,h,_=>by simp at h
 | p::P,w::vs,0,m,nd,h1,h2,hk=>by
  simp at h1 h2;subst h1;subst h2;show bindL kindOf ((p,w)::P.zip vs) m p=_;unfold bindL;rw[zc λv hv=>(List.nodup_cons.mp nd).1 (vZ hv).1,yM hk];simp
 | p::P,w::vs,i+1,m,nd,h1,h2,hk=>by
  show bindL kindOf ((p,w)::P.zip vs) m x=_;unfold bindL;exact xt (i:=i) (List.nodup_cons.mp nd).2 (by simpa using h1) (by simpa using h2) hk
def yt{kindOf:Str->Option NameKind}:∀ {P:List Str}{vs:List Value}{i:Nat}{m:Str->Option Value},P.Nodup->P[i]?=some x->vs[i]?=some v->kindOf x≠some .local ->
  bindC kindOf (P.zip vs) m x=some v
 | [],_,_,_,_,h,_,_=>by simp at h
 | _::_,[],_,_,_,_,h,_=>by simp at h
 | p::P,w::vs,0,m,nd,h1,h2,hk=>by
  simp at h1 h2;subst h1;subst h2;show bindC kindOf ((p,w)::P.zip vs) m p=_;unfold bindC;rw[xn λv hv=>(List.nodup_cons.mp nd).1 (vZ hv).1,yO hk];simp
 | p::P,w::vs,i+1,m,nd,h1,h2,hk=>by
  show bindC kindOf ((p,w)::P.zip vs) m x=_;unfold bindC;exact yt (i:=i) (List.nodup_cons.mp nd).2 (by simpa using h1) (by simpa using h2) hk
def start(N:List Str)(vs:List V):St:=vs.map some++List.replicate (N.length - vs.length) none
def uR(CX:MZ)(P:Program)(w:World)(K:W.Frag)(mg:Str->Option Value)(base:Heap)(N:List Str)(qual:Str)(scope:Scope)(f:Addr)(cd:Value)(A:Around)(outer:List Env)(s:Shared)(H:Hp)(E:XK):Cx where
 prog:=P
 w:=w
 K:=K
 mg:=mg
 base:=base
 A:=A.deeper (envOfC qual scope s.heap.objs.size f cd)
 N:=N
 Wf:=s
 V8:=H
 env:=envOfC qual scope s.heap.objs.size f cd
 outer:=outer
 stack:=envOfC qual scope s.heap.objs.size f cd::outer
 ex:=[]
 calm:=true
 fn:=λ_=>true
 pn:=[]
 xe:=λe s'=>wpAny (model P w) (A.deeper (envOfC qual scope s.heap.objs.size f cd)) (leaving (envOfC qual scope s.heap.objs.size f cd) e) (λ_ Xr=>CX outer H s E e Xr) (λe' Xr=>CX outer H s E e' Xr) s'
def uQ{sc:Scope}{n:Nat}(h:sc.names.lookup x=some .cell):∃c,(cellsFrom n sc.names []).lookup x=some c:=by
 have q:=W.cellsFrom_some sc.names n [] (.inl h);exact Option.isSome_iff_exists.mp q
def xw{CX:MZ}{K:W.Frag}{mg:Str->Option Value}{ps:List Str}{scope:Scope}{cd:Value}{A:Around}{outer:List Env}{s:Shared}{E:XK}{us:List Value}{vs:List V}
  (S:dk N ps scope) (hd:A.handled=none) (e0:DY P w K mg base A outer s H) (hl:vs.length=ps.length) (r:aQ vs us)
  (x:InCallC s s.heap.objs.size (bindL (envOfC qual scope s.heap.objs.size f cd).kindOf (ps.zip us) λ_=>none) (cellsFrom (s.heap.objs.size+1) scope.names []) (bindC (envOfC qual scope s.heap.objs.size f cd).kindOf (ps.zip us) λ_=>none) s1) :
  Inv (uR CX P w K mg base N qual scope f cd A outer s H E) [] (start N vs) H s1:=by
 have W5:ps.length<=N.length:=by have:=jD List.length S.pre;rw[jX] at this;lia
 obtain⟨h1,tk,rfl,hk⟩:=x.done;have ZI:∀b:Addr,b∉(uR CX P w K mg base N qual scope f cd A outer s H E).ex:=λb z=>absurd (show b∈([]:List Addr) from z) (by simp);refine⟨⟨e0.mod,S.kind,rfl,rfl,yN _,λy z c h1 h2=>?_,λy hy=>?_,λy c _ h=>?_,λ_=>hd,Around.frames_deeper e0.frames,.inr ⟨rfl,rfl⟩,λb z=>absurd z (ZI b),e0.bs,e0.Y2,λb _ _=>ZI b,λb z=>absurd z (ZI b),e0.W0,e0.ZT⟩,
  rfl,e0.bare,Un.kept hk,⟨_,x.toInCall.ns,λi y v h1 h2 h3=>?_⟩,λy c h=>⟨_,x.cell y c h⟩,e0.Wb.fresh (yN _),λy c h=>?_,λp hp=>absurd (show p∈([]:List (Addr×Obj)) from hp) (by simp),e0.Wb.kept hk,?_⟩
 ·exact name_of_addr x.apart (kC h1) (kC h2)
 ·have hy:scope.names.lookup y=some .cell\/scope.names.lookup y=some .free:=hy;rcases hy with hy|hy
  ·exact uQ hy
  ·exact absurd rfl (S.aaO _ (kC hy))
 ·exact jU (x.above y c (kC h))
 ·have hi:i < vs.length:=by
   unfold start at h2;by_cases hi:i < vs.length
   ·exact hi
   ·rw[yU (by simpa using hi)] at h2;rw[yY] at h2;split at h2<;>cases h2
  have ha:vs[i]?=some v:=by
   unfold start at h2;rw[yT (by simpa using hi),zO] at h2;cases e:vs[i]? with
   | none=>rw[e] at h2;cases h2
   | some a=>rw[e] at h2;cases h2;rfl
  obtain⟨u,hu,rv⟩:=r.get ha;have hp:ps[i]?=some y:=by
   rw[<- S.pre,List.getElem?_take_of_lt (by lia)];exact h1
  have ndP:ps.Nodup:=by rw[<- S.pre];exact S.nd.sublist (List.take_sublist _ _)
  refine⟨u,rv,?_⟩;rcases S.par y (qC hp) with k|k
  ·exact .inl ⟨k,xt ndP hp hu k⟩
  ·obtain⟨c,e⟩:=uQ (n:=s.heap.objs.size+1) k;refine .inr ⟨.inl k,c,e,?_⟩;have q:=x.cell y c e;rw[yt ndP hp hu (by show scope.names.lookup y≠_;rw[k];decide)] at q;exact q
 ·exact e0.Wb.fresh (jU (x.above y c (kC h)))
 ·unfold start;show _=N.length;rw[zN,zD,xN];lia
def LY{K:W.Frag}{kV:Value}
  {Yi:Array (Option Value)}{N ps:List Str}{sp:Sp}(lk:K.lookup f=some ⟨oc,od,.func (W.fnOf name qual params body scope dV kV doc pm an Wt ct),Yi⟩) (WS:W.codeIn K Wt qual=true) (S:dk N ps scope)
  (len:∀vs H Q E,sp vs H Q E->vs.length=ps.length)
  (abL:∀ (A:Around) (outer:List Env) (s:Shared) (H:Hp) (vs:List V) (Q:VK) (E:XK),eR k (A.deeper (envOfC qual scope s.heap.objs.size f Wt))->sp vs H Q E ->
   ∃t,AH (uR CX P w K mg base N qual scope f Wt A outer s H E) body t/\t { nx:=λ_ H'=>Q .V6 H',rt:=Q } (start N vs) H) :
  sJ P w K mg base CX (k+1) f (W.fnOf name qual params body scope dV kV doc pm an Wt ct) ps sp:=by
 refine⟨len,λA outer s H args us vs Q E hr e0 hb r hsp=>?_⟩;have hl:=len _ _ _ _ hsp;have KX:K.In s.heap:=e0.mod.kin.keeps λb o e=>(e0.bs b o e).1;have lim:s.heap.NoLimit:=e0.mod.nolimit.keeps λb o e=>(e0.bs b o e).1;have Y7:∀y∈ps.zip us,scope.names.lookup y.1=some .local \/ (scope.names.lookup y.1=some .cell/\((cellsFrom (s.heap.objs.size+1) scope.names []).lookup y.1).isSome=true):=λ⟨n,v⟩ hy=>by
  rcases S.par n (vZ hy).1 with q|q
  ·exact .inl q
  ·exact .inr ⟨q,W.cellsFrom_some _ _ _ (.inl q)⟩
 refine codeAny_call_function hr.depth (KX _ _ lk) rfl S.co S.gen rfl (W.codeRec_of KX WS) (hb _ _ _ _ ?_);refine wpAny_newFunctionEnv_cells S.kind Y7 λenv he s1 x=>?_;subst he;refine⟨lim.keeps x.toInCall.keep,codeAny_func ?_⟩;obtain⟨t,ht,hq⟩:=abL A outer s H vs Q E (hr.deeper _) hsp;have I:Inv (uR CX P w K mg base N qual scope f Wt A outer s H E) [] (start N vs) H s1:=xw S hr.hd e0 hl r x;refine xB (ht [] s1 (start N vs) H _ I hq) (λfl s' hs=>?_) λe s' hs=>hs;have fin:∀ {σ':St}{H':Hp}{v:V}{u:Value},Inv (uR CX P w K mg base N qual scope f Wt A outer s H E) [] σ' H' s'->RelV v u->Q v H'->CE outer P w H s Q u s' :=
  λ{σ' H' v u} J rv q=>⟨v,H',J.os,J.bare,J.base,J.Wb,rv,q⟩
 cases fl with
 | ret u =>
  obtain⟨v,σ',H',J,rv,q⟩:=hs;exact fin J rv q
 | next =>
  obtain⟨σ',H',J,q⟩:=hs;exact fin (v:=V.V6) (u:=Value.none) J rfl q
 | brk =>
  obtain⟨_,_,_,q⟩:=hs;exact False.elim q
 | cont =>
  obtain⟨_,_,_,q⟩:=hs;exact False.elim q
section
variable {id T:String}
def T7(r:List V->Hp->VK->Prop)(t:TA):TE:=λσ H Q=>t σ H λvs H1=>r vs H1 Q
def o6(hc:ft X (.builtin id) r)(hg:Gl X x)(hm:X.mg x=none)(hv:bootBuiltins x=some (.builtin id))(ha:PA X (e::es) t)(hn:x≠"__name__":=by decide)(WI:(x == ("__debug__":Str))=false:=by decide)
  (he:starEach (e::es) X.env=(false,eval e X.env)::starEach es X.env:=by rfl) (W5:(backTo pos (starEach es X.env)).any (·.1)=false:=by rfl):PE X (.Call (.Name x p) (e::es) [] pos) (T7 r t):=by
 intro pins s σ H Q I h;refine qZ (ix I hg hm hv ?_ hn WI);exact PyProof.Rows.callWith_builtin1 (cM (ha pos pins s σ H _ I h) λus s1 ⟨vs,H1,I1,r1,q1⟩=>hc pins s1 σ H1 vs us Q I1 r1 q1) he W5
def qf(hc:ft X (.type T) r)(hg:Gl X x)(hm:X.mg x=none)(hv:bootBuiltins x=some (.type T))(ha:PA X (e::es) t)(hn:x≠"__name__":=by decide)(WI:(x == ("__debug__":Str))=false:=by decide)
  (he:starEach (e::es) X.env=(false,eval e X.env)::starEach es X.env:=by rfl) (W5:(backTo pos (starEach es X.env)).any (·.1)=false:=by rfl):PE X (.Call (.Name x p) (e::es) [] pos) (T7 r t):=by
 intro pins s σ H Q I h;refine qZ (ix I hg hm hv ?_ hn WI);exact qT (cM (ha pos pins s σ H _ I h) λus s1 ⟨vs,H1,I1,r1,q1⟩=>hc pins s1 σ H1 vs us Q I1 r1 q1) he W5
end
end L2
namespace HT
open PySem PyProof.Rows
def lexLt:List Int->List Int->Bool
 | [],[]=>false
 | [],_::_=>true
 | _::_,[]=>false
 | x::xs,y::ys=>if x=y then lexLt xs ys else decide (x < y)
def bg(x y:Int)(xs ys:List Int):lexLt (x::xs) (y::ys)=if x=y then lexLt xs ys else decide (x < y):=rfl
def iW:lexLt [] []=false:=rfl
def mw(y:Int)(ys:List Int):lexLt [] (y::ys)=true:=rfl
def mj(x:Int)(xs:List Int):lexLt (x::xs) []=false:=rfl
def BU(A:Around)(s:Shared)(a:Int)(t:Tok)(c:Int)(u:Tok):∃e,SeqAt.EqAt A s (.int a t) (.int c u) e/\(e=true↔a=c) :=
 ⟨(a == c),SeqAt.EqAt.int_int a t c u,by simp⟩
def B9(A:Around)(s:Shared)(a:Int)(t:Tok)(c:Int)(u:Tok)(prog:Program)(w:World)(E:Value->Shared->Prop)(Q:Value->Shared->Prop)(h:Q (.bool (decide (a < c))) s) :
  wpAny (model prog w) A (richCompare .Lt (.int a t) (.int c u)) Q E s :=
 (PyProof.Rows.lt_int h:wpAny (model prog w) A (compareOp .Lt (.int a t) (.int c u)) Q E s)
section
open PySem.SeqAt
open PySem.AutoSeq1 (wpAny_loadPart')
open PySem.MeetsSeq PySem.MeetsSeq2 PySem.MeetsSeq3
def vq(l b:Addr)(items Wc:Array Value)(n n2:Nat)(dd XR:Option Addr)(sl XC:Array (Option Value))(ns ms:List Int)(hi:IntsAre items.toList ns)(hj:IntsAre Wc.toList ms) :
  Meets (Builtin.«tuple.__lt__» ⟨[.ref l,.ref b],[]⟩)
   (λ_ R s=>s.heap.get? l=some { cls:=.type "tuple",dict:=dd,data:=.seq items n,slots:=sl }/\s.heap.get? b=some { cls:=.type "tuple",dict:=XR,data:=.seq Wc n2,slots:=XC } /\
    R (.ok (.ret (.bool (lexLt ns ms)))) s) :=
 .of_wp λprog w A R s h=>by
  obtain⟨hp,g,d,tk,os⟩:=s;obtain⟨hl,hb,h⟩:=h;have f2:=AutoSeq1.sub_tuple_tuple;have z1:items.size=ns.length:=by rw[<- hi.length];simp
  have z2:Wc.size=ms.length:=by rw[<- hj.length];simp
  wp_walk using wpAny_loadPart' hl,wpAny_loadPart' hb,wpAny_forIn_list _ (λrest b s'=>b.1=none/\s'=⟨hp,g,d,tk,os⟩/\∃ (vs ws:List Value) (Yj YA:List Int),rest=vs.zip ws /\
   IntsAre vs Yj/\IntsAre ws YA/\Yj.length+Wc.size=YA.length+items.size/\R (.ok (.ret (.bool (lexLt Yj YA)))) ⟨hp,g,d,tk,os⟩) _
  case turn =>
   rintro⟨y,x⟩ rest b s' ⟨W6,rfl,vs,ws,Yj,YA,hz,hvi,ZX,hlen,hR⟩;cases hvi with
   | nil=>rw[List.zip_nil_left] at hz;cases hz
   | cons a t aaQ =>
    cases ZX with
    | nil=>rw[List.zip_nil_right] at hz;cases hz
    | cons c u aaR =>
     rw[List.zip_cons_cons] at hz;injection hz with hyx XD
     injection hyx with hy hx
     subst hy hx;rw[bg] at hR;simp only[zL] at hlen;obtain⟨e,he,Y8⟩:=BU A.in1 ⟨hp,g,d,tk,os⟩ a t c u;refine zV (he prog w _ _ ?_);cases e with
     | true =>
      rw[yM (Y8.mp rfl)] at hR
      wp_walk
      exact⟨rfl,rfl,_,_,_,_,XD,aaQ,aaR,by lia,hR⟩
     | false =>
      rw[yO (λq=>absurd (Y8.mpr q) xA)] at hR;have hri:=B9 A.in1 ⟨hp,g,d,tk,os⟩ a t c u prog w
      wp_walk using hri
      exact⟨_,rfl,by simpa using hR⟩
  case fin =>
   rintro⟨b1,b2⟩ s' ⟨W6,rfl,vs,ws,Yj,YA,hz,hvi,ZX,hlen,hR⟩;simp only at W6;subst W6;have hv:lexLt Yj YA=decide (items.size < Wc.size):=by
    cases hvi with
    | nil =>
     cases ZX with
     | nil =>
      simp only[xM] at hlen;rw[iW];exact (zZ (by lia)).symm
     | cons c u hw =>
      simp only[xM,zL] at hlen;rw[mw];exact (yA (by lia)).symm
    | cons a t hv =>
     cases ZX with
     | nil =>
      simp only[xM,zL] at hlen;rw[mj];exact (zZ (by lia)).symm
     | cons c u hw =>
      rw[List.zip_cons_cons] at hz;cases hz
   rw[hv] at hR
   wp_walk
   exact⟨_,rfl,by simpa [Builtin.Tuple.tupleCompareSizes] using hR⟩
  case h =>
   exact⟨rfl,rfl,items.toList,Wc.toList,ns,ms,rfl,hi,hj,by lia,h⟩
end
section
def EA{items:Array Value}(hl:IsTup s.heap l items)(hb:IsTup s.heap b Wc)(hi:IntsAre items.toList ns)(hj:IntsAre Wc.toList ms)
  (hu:A.units < cLine) (h:Q (.bool (lexLt ns ms)) s):wpAny (model prog w) A (compareOp .Lt (.ref l) (.ref b)) Q E s:=by
 obtain⟨⟨cls,dd,data,sl⟩,ho,hc,n,hd⟩:=id hl;obtain⟨⟨Y9,XR,data2,XC⟩,XJ,Xs,n2,hd2⟩:=id hb;simp only at hc hd Xs hd2;subst hc hd Xs hd2;exact richCompare_meets_room (op:=.Lt) ⟨_,ho,rfl⟩ ⟨_,XJ,rfl⟩ PySem.F.slot_tuple_lt PySem.F.entry_tuple_lt (PySem.F.args_tuple_lt_2 _ _) (vq l b items Wc n n2 dd XR sl XC ns ms hi hj)
  ⟨ho,XJ,show Value.bool (lexLt ns ms)≠Value.notImplemented/\Q (.bool (lexLt ns ms)) s from ⟨(λx=>nomatch x),h⟩⟩ hu
def Ov(ht:IsTup s.heap t vs.toArray)(hb:IsTup s.heap b ws.toArray)(hv:vs≠[])
  (h1:ws=[]->Q (.ref t) s) (h2:ws≠[]->Q (.ref s.heap.objs.size) { s with heap:=s.heap.push { cls:=.type "tuple",data:=.seq (vs++ws).toArray } })
  (YB:vs.length+ws.length<=sizeLine):wpAny (model prog w) A (binaryOp .Add (.ref t) (.ref b)) Q E s:=by
 obtain⟨⟨cls,dd,data,sl⟩,ho,hc,n,hd⟩:=id ht;obtain⟨⟨Y9,XR,data2,XC⟩,XJ,Xs,n2,hd2⟩:=id hb;simp only at hc hd Xs hd2;subst hc hd Xs hd2;have e:vs.toArray++ws.toArray=(vs++ws).toArray:=by simp
 by_cases hw:ws=[]
 ·exact Ze ⟨_,ho,rfl⟩ ⟨_,XJ,rfl⟩ noFill_tuple_add seq_tuple_add vS vM (vJ _ _)
   (tuple_addW1 t b vs.toArray ws.toArray n n2 dd XR sl XC (by simpa using hv) (by simp[hw])) ⟨ho,XJ,h1 hw⟩
 ·refine Ze ⟨_,ho,rfl⟩ ⟨_,XJ,rfl⟩ noFill_tuple_add seq_tuple_add vS vM (vJ _ _)
   (tuple_addW2 t b vs.toArray ws.toArray n n2 dd XR sl XC (by simpa using hv) (by simpa using hw) (by rw[zH,zH];exact YB)) ⟨ho,XJ,?_⟩
  rw[e];exact h2 hw
def eD(n d:Nat):Option Int->Nat
 | none=>d
 | some v=>if v < 0 then (v+(n:Int)).toNat else min v.toNat n
def Mg(n d:Nat):eD n d none=d:=rfl
def MY(n d k:Nat):eD n d (some (k:Int))=min k n:=by
 show (if (k:Int) < 0 then ((k:Int)+(n:Int)).toNat else min (k:Int).toNat n)=min k n;rw[yO (by lia),yG]
def Qv(n d:Nat)(hd:d<=n)(o:Option Int):eD n d o<=n:=by
 cases o with
 | none=>exact hd
 | some v =>
  show (if v < 0 then (v+(n:Int)).toNat else min v.toNat n)<=n;by_cases hv:v < 0
  ·rw[yM hv];lia
  ·rw[yO hv];exact Nat.min_le_right _ _
def Gc(v:Int)(n d:Nat):(if v < 0 then max (v+(n:Int)) 0 else min v (n:Int))=((eD n d (some v):Nat):Int):=by
 show (if v < 0 then max (v+(n:Int)) 0 else min v (n:Int))=(((if v < 0 then (v+(n:Int)).toNat else min v.toNat n):Nat):Int)
 by_cases hv:v < 0
 ·simp only[yM hv];lia
 ·simp only[yO hv];lia
def DN(lo hi:Option Int)(n:Nat):Builtin.Slice.sliceAdjust lo hi 1 (n:Int)=(((eD n 0 lo:Nat):Int),((eD n n hi:Nat):Int)):=by
 have h1:¬ ((1:Int) < 0):=by lia
 unfold Builtin.Slice.sliceAdjust;simp only[h1,qQ];refine Prod.ext ?_ ?_
 ·cases lo with
  | none=>rfl
  | some v=>exact Gc v n 0
 ·cases hi with
  | none=>rfl
  | some v=>exact Gc v n n
def DP(i j:Nat):Builtin.Slice.slicePlaces (i:Int) (j:Int) 1=j - i:=by
 unfold Builtin.Slice.slicePlaces;have h1:(1:Int) > 0:=by lia
 simp only[h1,xI,Int.ediv_one];split<;>lia
def tT(p:IsPart v o)(h:Q o s):wpAny (model prog w) A (Builtin.Slice.slicePartIndex v) Q E s:=by
 cases p with
 | none=>exact slicePart_none h
 | int i t=>exact slicePart_int h
def jy{vl:Value}{lo hi:Option Int}{n:Nat}{Q:Int×Int×Nat->Shared->Prop}(hs:s.heap.IsSliceOf sl vl vu .none)(pl:IsPart vl lo)(pu:IsPart vu hi)
  (h:Q (((eD n 0 lo:Nat):Int),1,eD n n hi - eD n 0 lo) s):wpAny (model prog w) A (Builtin.Slice.sliceApplied (.ref sl) (pure (n:Int))) Q E s:=by
 obtain⟨os,ZY,hcs,hds⟩:=id hs;unfold Builtin.Slice.sliceApplied Builtin.Slice.sliceFields;refine zV (zV (qU ZY hds (x:=vl) rfl (zV (qU ZY hds (x:=vu) rfl (zV (qU ZY hds (x:=.none) rfl (zW ?_)))))));refine zV (slicePart_none ?_);show wpAny _ _ (if ((1:Int) == 0)=true then _ else _) _ _ s;rw[yO (by decide)];refine zV (tT pl (zV (tT pu (zV (zW ?_)))));show wpAny _ _ (match Builtin.Slice.sliceAdjust lo hi 1 (n:Int) with|(lo,hi)=>pure (lo,(1:Int),Builtin.Slice.slicePlaces lo hi 1)) _ _ s;rw[DN lo hi n];show wpAny _ _ (pure (((eD n 0 lo:Nat):Int),(1:Int),Builtin.Slice.slicePlaces ((eD n 0 lo:Nat):Int) ((eD n n hi:Nat):Int) 1)) _ _ s;rw[DP];exact zW h
def JY(xs:Array Value)(i k:Nat):((List.range k).filterMap λ(m:Nat)=>xs[((i:Int)+(m:Int) * 1).toNat]?).toArray=((xs.toList.drop i).take k).toArray:=by
 have e:(λ(m:Nat)=>xs[((i:Int)+(m:Int) * 1).toNat]?)=λm=>xs[i+m]?:=by
  funext m;have:((i:Int)+(m:Int) * 1).toNat=i+m:=by lia
  rw[this]
 rw[e];have:=pick_run xs i k;rw[List.filterMap_map] at this;have e2:((λx=>xs[x]?) ∘ λx=>i+x)=λm=>xs[i+m]?:=rfl;rw[e2] at this;rw[this]
def pP{items:Array Value}{vl:Value}{lo:Option Int}(ht:IsTup s.heap t items)(hs:s.heap.IsSliceOf sl vl vu .none)(pl:IsPart vl lo)(pu:IsPart vu hi)
  (hw:¬ (eD items.size 0 lo=0/\eD items.size items.size hi=items.size))
  (h:Q (.ref s.heap.objs.size) { s with heap:=s.heap.push { cls:=.type "tuple",data:=.seq ((items.toList.drop (eD items.size 0 lo)).take (eD items.size items.size hi - eD items.size 0 lo)).toArray } })
  (YB:items.size<=sizeLine):wpAny (model prog w) A (getItem (.ref t) (.ref sl)) Q E s:=by
 have YC:sizeOk (.seq ((items.toList.drop (eD items.size 0 lo)).take (eD items.size items.size hi - eD items.size 0 lo)).toArray):=by
  show ((items.toList.drop (eD items.size 0 lo)).take (eD items.size items.size hi - eD items.size 0 lo)).toArray.size<=sizeLine;rw[zH,jX,qJ,wR];lia
 have hj:eD items.size items.size hi<=items.size:=Qv _ _ (yN _) hi;obtain⟨os,ZY,hcs,hds⟩:=id hs;have hTs:s.TypeIs (.ref sl) "slice":=⟨os,ZY,hcs⟩
 unfold getItem
 try with_reducible refine xY ?_
 first|refine zV (zW ?_)|skip
 refine zV (wpAny_sequenceKey ht.typeIs (by decide) ?_);refine zV (qD (name:=Str.ofString "__getitem__") ht.typeIs jG
  (qX jG ht.typeIs entry_tuple_getitem ?_ (args_tuple_getitem _ _)))
 show wpAny _ _ (Builtin.Tuple.tupleItemsOf (.ref t) >>= _) _ _ s;refine zV (tupleItemsOf_ ht ?_);refine zV (Zc hTs ?_);rw[yM (by decide)];refine zV (jy hs pl pu ?_);have ZZ:¬ ((((eD items.size 0 lo:Nat):Int) == 0&&(1:Int) == 1&&(eD items.size items.size hi - eD items.size 0 lo) == items.size)=true):=by
  intro q;rw[zF,zF] at q;have q1:((eD items.size 0 lo:Nat):Int)=0:=eq_of_beq q.1.1;have q2:eD items.size items.size hi - eD items.size 0 lo=items.size:=eq_of_beq q.2;exact hw ⟨by lia,by lia⟩
 show wpAny _ _ (if (((eD items.size 0 lo:Nat):Int) == 0&&(1:Int) == 1&&(eD items.size items.size hi - eD items.size 0 lo) == items.size)=true then _ else _) _ _ s;rw[yO ZZ,JY]
 first
  | exact zV (m:=Builtin.Tuple.tupleExact _) (qM (zW ⟨_,rfl,zW h⟩) YC)
  | exact zV (m:=Builtin.Tuple.tupleExact _) (qM (zV (zW (zW ⟨_,rfl,zW h⟩))) YC)
  | exact zV (zV (m:=Builtin.Tuple.tupleExact _) (qM (zW (zW ⟨_,rfl,zW h⟩)) YC))
  | exact zV (zV (m:=Builtin.Tuple.tupleExact _) (qM (zW ⟨_,rfl,zW h⟩) YC))
end
end HT
namespace L2
open PySem PySem.Spec PyProof.Rows
abbrev TO:=St->Hp->(Option Int->Hp->Prop)->Prop
def PO(X:Cx)(e:Option Expr)(t:TO):Prop :=
 ∀ (pins:List (Addr×Obj)) (s:Shared) (σ:St) (H:Hp) (Q:Option Int->Hp->Prop),Inv X pins σ H s->t σ H Q ->
  wpAny (model X.prog X.w) X.A (evalPart e X.env) (λu s'=>∃o H',Inv X pins σ H' s'/\IsPart u o/\Q o H') X.xe s
def ME:TO:=λ_ H Q=>Q none H
def Sw(t:TE):TO:=λσ H Q=>t σ H λx H1=>∃i,x=.int i/\Q (some i) H1
def intsAre_of:∀ {us:List Value},aQ (ns.map V.int) us->IntsAre us ns:=by
 induction ns with
 | nil=>intro us r;rw[yV] at r;cases r;exact .nil
 | cons n ns ih =>
  intro us r;rw[zI] at r;cases r with
  | cons r1 r2 =>
   obtain⟨t,e⟩:=r1;subst e;exact .cons n t (ih r2)
section
variable {lo hi:Option Expr}
def Mx:PO X none ME:=by
 intro pins s σ H Q I h;rw[evalPart_none];exact zW ⟨none,H,I,.none,h⟩
def MU(h:PE X e te):PO X (some e) (Sw te):=by
 intro pins s σ H Q I hw;rw[evalPart_some];refine cM (h pins s σ H _ I hw) λu s1 ⟨x,H1,I1,r1,q1⟩=>?_;obtain⟨i,rfl,q⟩:=q1;obtain⟨t,rfl⟩:=r1;exact⟨some i,H1,I1,.int i t,q⟩
def OH(X:Cx)(r:V->Option Int->Option Int->Hp->VK->Prop):Prop :=
 ∀ (pins:List (Addr×Obj)) (s:Shared) (σ:St) (H:Hp) (x:V) (v vl vu:Value) (lo hi:Option Int) (sl:Addr) (Q:VK),Inv X pins σ H s->RelV x v->s.heap.IsSliceOf sl vl vu .none->IsPart vl lo->IsPart vu hi->r x lo hi H Q ->
  ∃T id,typeLookup (.type T) "__getitem__"=pure (some (.builtin id))/\s.TypeIs v T/\wpAny (model X.prog X.w) X.A (getItem v (.ref sl)) (EP X pins σ Q) X.xe s
def OH.or(h:OH X r)(h':OH X r'):OH X (λx lo hi H Q=>r x lo hi H Q\/r' x lo hi H Q):=by
 intro pins s σ H x v vl vu lo hi sl Q I rx hs pl pu q;rcases q with q|q
 ·exact h pins s σ H x v vl vu lo hi sl Q I rx hs pl pu q
 ·exact h' pins s σ H x v vl vu lo hi sl Q I rx hs pl pu q
def VF(r:V->Option Int->Option Int->Hp->VK->Prop)(te:TE)(tl th:TO):TE:=λσ H Q=>te σ H λx H1=>tl σ H1 λl H2=>th σ H2 λu H3=>r x l u H3 Q
def Kq(hr:OH X r)(he:PE X e te)(hl:PO X lo tl)(hu:PO X hi th):PE X (.Subscript e (.Slice lo hi none p2) pos) (VF r te tl th):=by
 intro pins s σ H Q I h;refine Subscript_ (cM (he pins s σ H _ I h) λv s1 ⟨x,H1,I1,r1,q1⟩=>?_);refine wpAny_Slice (cM (hl pins s1 σ H1 _ I1 q1) λvl s2 ⟨l,H2,I2,pl,q2⟩=>cM (hu pins s2 σ H2 _ I2 q2) λvu s3 ⟨u,H3,I3,pu,q3⟩=>?_);rw[evalPart_none];refine zW ?_;have I4:Inv X pins σ H3 { s3 with heap:=s3.heap.push { cls:=.type "slice",data:=.fields #[vl,vu,.none] } }:=I3.kept (t':=s3.toks) λb ob q=>zU _ q;obtain⟨T,id,hT,ht,hg⟩:=hr pins { s3 with heap:=s3.heap.push { cls:=.type "slice",data:=.fields #[vl,vu,.none] } } σ H3 x v vl vu l u s3.heap.objs.size Q I4 r1 (Heap.IsSliceOf.new ..) pl pu q3;show wpAny (model X.prog X.w) X.A (subscriptTail e (.Slice lo hi none p2) v (.ref s3.heap.objs.size)) (EP X pins σ Q) X.xe { s3 with heap:=s3.heap.push { cls:=.type "slice",data:=.fields #[vl,vu,.none] } };exact tail_any (ops:=[.ref s3.heap.objs.size,v]) ht hT hg (by with_unfolding_all rfl)
def NJ(xs:List V)(lo hi:Option Int):List V:=(xs.drop (HT.eD xs.length 0 lo)).take (HT.eD xs.length xs.length hi - HT.eD xs.length 0 lo)
def Cj(xs:List V)(lo hi:Option Int):(NJ xs lo hi).length<=xs.length:=by
 unfold NJ;rw[jX,qJ];lia
def Uq(K:W.Frag):V->Option Int->Option Int->Hp->VK->Prop:=λx lo hi H Q=>∃a xs,x=.ref a/\j5 K H a xs /\
 ¬ (HT.eD xs.length 0 lo=0/\HT.eD xs.length xs.length hi=xs.length)/\∀p,H p=none->Q (.ref p) (upd H p (.tup (NJ xs lo hi)))
def RH:OH X (Uq X.K):=by
 intro pins s σ H x v vl vu lo hi sl Q I rx hs pl pu h;obtain⟨a,xs,rfl,hx,hw,q⟩:=h;cases rx;obtain⟨its,r,ht,hz⟩:=I.tuple hx;have hlen:its.toArray.size=xs.length:=by rw[zH];exact r.length.symm
 refine⟨"tuple",_,PyProof.Rows.slot_tuple_getitem.lookup,ht.typeIs,?_⟩;refine HT.pP ht hs pl pu (by rw[hlen];exact hw) ?_ (by rw[hlen];exact hz);rw[hlen];refine⟨.ref s.heap.objs.size,_,I.laid (t':=s.toks) (o:=.tup (NJ xs lo hi)) (λb ob q=>zU _ q) (yN _) ?_,rfl,q _ (I.Wb.fresh (yN _))⟩;exact⟨yD (Cj xs lo hi) hz,_,(r.drop (HT.eD xs.length 0 lo)).take (HT.eD xs.length xs.length hi - HT.eD xs.length 0 lo),uI.new _ _⟩
def TH(K:W.Frag):R2:=λx y H Q=>∃a b xs ys,x=.ref a/\y=.ref b/\j5 K H a xs/\j5 K H b ys/\xs≠[]/\xs.length+ys.length<=sizeLine /\
 (ys=[]->Q (.ref a) H)/\(ys≠[]->∀p,H p=none->Q (.ref p) (upd H p (.tup (xs++ys))))
def aQ.Xl(r:aQ xs us):us=[]↔xs=[]:=by
 cases r with
 | nil=>simp
 | cons _ _=>simp
def N2:jc X (binaryOp .Add) (TH X.K):=by
 intro pins s σ H x y v u Q I rx ry h;obtain⟨a,b,xs,ys,rfl,rfl,ha,hb,hx,hz,q1,q2⟩:=h;cases rx;cases ry;obtain⟨its,r1,p1,_⟩:=I.tuple ha;obtain⟨WU,r2,p2,_⟩:=I.tuple hb;refine HT.Ov p1 p2 (λz=>hx (r1.Xl.mp z)) (λz=>⟨.ref a,H,I,rfl,q1 (r2.Xl.mp z)⟩) (λz=>?_) (by rw[<- r1.length,<- r2.length];exact hz);refine⟨.ref s.heap.objs.size,_,I.laid (t':=s.toks) (o:=.tup (xs++ys)) (λb ob q=>zU _ q) (yN _) ?_,rfl,q2 (λw=>z (r2.Xl.mpr w)) _ (I.Wb.fresh (yN _))⟩;exact⟨by rw[zN];exact hz,_,r1.append r2,uI.new _ _⟩
end
def OC(n:Nat)(i:Int):Option Nat:=if 0<=i then (if i < n then some i.toNat else none) else if -(n:Int)<=i then some (i+n).toNat else none
def Bv(xs:List α)(i:Int):Option α:=(OC xs.length i).bind λj=>xs[j]?
def FL(h:OC n i=some j):seqIndex? i n=some j/\j < n/\-(n:Int)<=i/\i < n:=by
 unfold OC at h;by_cases h0:0<=i
 ·rw[yM h0] at h;by_cases h1:i < n
  ·rw[yM h1] at h;have e:i.toNat=j:=xE h;exact⟨by rw[seqIndex_of h0 h1,e],by lia,by lia,h1⟩
  ·rw[yO h1] at h;cases h
 ·rw[yO h0] at h;by_cases h1:-(n:Int)<=i
  ·rw[yM h1] at h;have e:(i+n).toNat=j:=xE h;exact⟨by rw[seqIndex_neg (by lia) h1,e],by lia,h1,by lia⟩
  ·rw[yO h1] at h;cases h
def Ae(h:Bv xs i=some v):∃j,seqIndex? i xs.length=some j/\xs[j]?=some v/\j < xs.length/\-(xs.length:Int)<=i/\i < xs.length:=by
 unfold Bv at h;cases e:OC xs.length i with
 | none=>rw[e] at h;cases h
 | some j =>
  rw[e] at h;obtain⟨h1,h2,h3,h4⟩:=FL e;exact⟨j,h1,h,h2,h3,h4⟩
def FP{α:Type}{xs:List α}{j:Nat}{v:α}(h:xs[j]?=some v):Bv xs (j:Int)=some v:=by
 have hj:j < xs.length:=(List.getElem?_eq_some_iff.mp h).1;have e:OC xs.length (j:Int)=some j:=by
  unfold OC;rw[yM (by lia),yM (by lia)];simp
 unfold Bv;rw[e];exact h
def zr(b:Expr):Prop:=∀o i,subscripted b false o i=operate [o,i] (getItem o i)
def Os(X:Cx)(r:R2):Prop :=
 ∀ (value slice:Expr) (pins:List (Addr×Obj)) (s:Shared) (σ:St) (H:Hp) (x y:V) (v u:Value) (Q:VK),Inv X pins σ H s->RelV x v->RelV y u->r x y H Q ->
  subscripted slice false v u=operate [v,u] (getItem v u)->wpAny (model X.prog X.w) X.A (subscriptTail value slice v u) (EP X pins σ Q) X.xe s
def Vx(X:Cx)(id:String)(r:V->List V->Hp->VK->Prop):Prop :=
 ∀ (pins:List (Addr×Obj)) (s:Shared) (σ:St) (H:Hp) (x:V) (xs:List V) (v:Value) (us:List Value) (Q:VK),Inv X pins σ H s->RelV x v->aQ xs us->r x xs H Q ->
  wpAny (model X.prog X.w) X.A (call (.builtin id) (v::us)) (EP X pins σ Q) X.xe s
section
def Os.or(h:Os X r)(h':Os X r'):Os X (λx y H Q=>r x y H Q\/r' x y H Q):=by
 intro value slice pins s σ H x y v u Q I rx ry q hs;rcases q with q|q
 ·exact h value slice pins s σ H x y v u Q I rx ry q hs
 ·exact h' value slice pins s σ H x y v u Q I rx ry q hs
def S5(hr:Os X r)(ha:PE X a ta)(hb:PE X b tb)(hs:zr b):PE X (.Subscript a b pos) (Tp r ta tb):=by
 intro pins s σ H Q I h;exact Subscript_ (PN ha hb I h λv u s2 x y H2 I2 rx ry q=>hr a b pins s2 σ H2 x y v u Q I2 rx ry q (hs _ _))
def TC(K:W.Frag):R2:=λx y H Q=>∃p xs i v,x=.ref p/\y=.int i/\iw K H p xs/\Bv xs i=some v/\Q v H
def SD(K:W.Frag):R2:=λx y H Q=>∃p xs i v,x=.ref p/\y=.int i/\j5 K H p xs/\Bv xs i=some v/\Q v H
def SK:R2:=λx y H Q=>∃z i c,x=.str z/\y=.int i/\z.length<=sizeLine/\Bv z.cps.toList i=some c/\Q (.str ⟨#[c]⟩) H
def MH:Os X (TC X.K):=by
 intro value slice pins s σ H x y v u Q I rx ry h hs;obtain⟨p,xs,i,z,rfl,rfl,hq,he,q⟩:=h;cases rx;obtain⟨t,rfl⟩:=ry;obtain⟨its,r,pl,hz⟩:=I.list hq;obtain⟨j,h1,h2,h3,h4,h5⟩:=Ae he;obtain⟨w,ew,YJ⟩:=r.get h2;have hl:=r.length;have hn:=uk;have fin:EP X pins σ Q w s:=⟨z,H,I,YJ,q⟩
 by_cases h0:0<=i
 ·have hj:i.toNat=j:=by
   rw[seqIndex_of h0 h5] at h1;exact xE h1
  exact item_listR pl.isList h0 (by lia) (by rw[hj];simpa using ew) fin hs
 ·have hj:(i+(its.toArray.size:Int)).toNat=j:=by
   rw[seqIndex_neg (by lia) h4] at h1;rw[zH,<- hl];exact xE h1
  exact subscriptTail_builtinR (x:=w) pl.isList.typeIs slot_list_getitem.lookup
   (wpAny_getItem_list_neg (Q:=λr s'=>r=w/\EP X pins σ Q r s') pl.isList (by lia) (by rw[zH]<;>lia) (by lia) (by rw[hj];simpa using ew) ⟨rfl,fin⟩) hs
def Ep:Os X (SD X.K):=by
 intro value slice pins s σ H x y v u Q I rx ry h hs;obtain⟨p,xs,i,z,rfl,rfl,hq,he,q⟩:=h;cases rx;obtain⟨t,rfl⟩:=ry;obtain⟨its,r,pl,hz⟩:=I.tuple hq;obtain⟨j,h1,h2,h3,h4,h5⟩:=Ae he;obtain⟨w,ew,YJ⟩:=r.get h2;have hl:=r.length;have hn:=uk;have fin:EP X pins σ Q w s:=⟨z,H,I,YJ,q⟩
 exact subscriptTail_builtinR (x:=w) pl.typeIs slot_tuple_getitem.lookup
  (getItem_tuple (j:=j) (Q:=λr s'=>r=w/\EP X pins σ Q r s') pl (by lia) (by lia) (by rw[zH,<- hl];exact h1) (by simpa using ew) ⟨rfl,fin⟩) hs
def PD:Os X SK:=by
 intro value slice pins s σ H x y v u Q I rx ry h hs;obtain⟨z,i,c,rfl,rfl,hz,he,q⟩:=h;obtain⟨t,rfl⟩:=rx;obtain⟨t',rfl⟩:=ry;obtain⟨j,h1,h2,h3,h4,h5⟩:=Ae he;have hl:z.cps.toList.length=z.length:=by simp[Str.length]
 rw[hl] at h1 h4 h5;have hn:=uk;exact tail_any (typeIs_str s z t) slot_str_getitem.lookup (getItem_str (c:=c) (by
  have e1:decide (i < -(2 ^ 63:Int))=false:=zZ (by lia);have e2:decide (i >= 2 ^ 63)=false:=zZ (by lia);rw[e1,e2,Bool.or_false]) (by rw[h1];simpa using h2) ⟨.str ⟨#[c]⟩,H,I.tok _,⟨_,rfl⟩,q⟩) hs
def Vm(K:W.Frag):R2:=λx y H Q=>TC K x y H Q\/SD K x y H Q\/SK x y H Q
def Q2:Os X (Vm X.K):=MH.or (Ep.or PD)
def Fq(its:List Value)(n j:Nat)(u:Value):Obj.mapSeq (·.setIfInBounds j u) { cls:=.type "list",data:=.seq its.toArray n }={ cls:=.type "list",data:=.seq (its.set j u).toArray n }:=by
 simp[Obj.mapSeq]
def Inv.lst(I:Inv X pins σ H s)(h:H p=some (.lst xs)) :
  ∃ (its:List Value) (n:Nat),aQ xs its/\s.heap.get? p=some { cls:=.type "list",data:=.seq its.toArray n }/\xs.length<=sizeLine:=by
 obtain⟨z,its,n,r,e⟩:=I.Wb p _ h;exact⟨its,n,r,e,z⟩
def Inv.aaU{ys:List V}{its its':List Value}{n n':Nat}{f:Obj->Obj}(I:Inv X pins σ H s)(h:H p=some (.lst xs))
  (ho:s.heap.get? p=some { cls:=.type "list",data:=.seq its.toArray n }) (hf:f { cls:=.type "list",data:=.seq its.toArray n }={ cls:=.type "list",data:=.seq its'.toArray n' }) (r:aQ ys its') (hz:ys.length<=sizeLine) (t:Nat) :
  Inv X pins σ (upd H p (.lst ys)) { s with heap:=s.heap.update p f,toks:=t }:=by
 have e:(s.heap.update p f).get? p=some { cls:=.type "list",data:=.seq its'.toArray n' }:=by
  rw[Heap.get?_update_self f ho (by rw[hf]<;>rfl),hf]
 refine I.write (x:=p) (e:=p) (by rw[h];trivial) (.inl rfl) (λb u hb q=>(xO _ _ (jO hb)).trans q) ⟨_,e⟩ ?_;exact⟨hz,its',n',r,e⟩
def SJ:V->V->V->Hp->(Hp->Prop)->Prop:=λo i v H Q=>∃p xs k j,o=.ref p/\i=.int k/\H p=some (.lst xs)/\OC xs.length k=some j/\Q (upd H p (.lst (xs.set j v)))
def set_list:R5 X SJ:=by
 intro pins s σ H o i v ov iv u Q I ro ri rv h;obtain⟨p,xs,k,j,rfl,rfl,hp,hj,q⟩:=h;cases ro;obtain⟨t,rfl⟩:=ri;obtain⟨its,n,r,ho,hz⟩:=I.lst hp;obtain⟨h1,h2,h3,h4⟩:=FL hj;have hl:=r.length;have hn:=uk;have I':Inv X pins σ (upd H p (.lst (xs.set j v))) { s with heap:=s.heap.update p (Obj.mapSeq (·.setIfInBounds j u)) } :=
  I.aaU hp ho (Fq its n j u) (r.set rv j) (by rw[yC];exact hz) s.toks
 by_cases h0:0<=k
 ·have hk:k.toNat=j:=by
   rw[seqIndex_of h0 h4] at h1;exact xE h1
  exact W.ki_setAt ho h0 (by lia) (by rw[zH,<- hl];exact h4) (by rw[hk];exact⟨_,I',q⟩)
 ·have hk:(k+(its.toArray.size:Int)).toNat=j:=by
   rw[seqIndex_neg (by lia) h3] at h1;rw[zH,<- hl];exact xE h1
  exact W.ki_setBack ho (by lia) (by rw[zH,<- hl];exact h3) (by lia) (by rw[hk];exact⟨_,I',q⟩)
def Ag:ft X (.builtin "len") (λxs H Q=>∃p ys,xs=[.ref p]/\(iw X.K H p ys\/j5 X.K H p ys)/\Q (.int ys.length) H):=by
 intro pins s σ H xs us Q I r h;obtain⟨p,ys,rfl,hq,q⟩:=h;obtain⟨u,rfl,rx⟩:=vals1 r;cases rx;have hn:=uk;rcases hq with hq|hq
 ·obtain⟨its,r',pl,hz⟩:=I.list hq;have hlen:=r'.length;exact Calls.call_len_list pl.isList (by simp only[zH]<;>lia) ⟨.int ys.length,H,I.tok _,⟨s.toks+1,by rw[zH,hlen]⟩,q⟩
 ·obtain⟨its,r',pl,hz⟩:=I.tuple hq;have hlen:=r'.length;exact len_tuple pl (by simp only[zH]<;>lia) ⟨.int ys.length,H,I.tok _,⟨s.toks+1,by rw[zH,hlen]⟩,q⟩
def Bo:ft X (.type "list") (λxs H Q=>∃p ys,xs=[.ref p]/\(iw X.K H p ys\/j5 X.K H p ys)/\∀l,H l=none->Q (.ref l) (upd H l (.lst ys))):=by
 intro pins s σ H xs us Q I r h;obtain⟨p,ys,rfl,hq,q⟩:=h;obtain⟨u,rfl,rx⟩:=vals1 r;cases rx;have fin:∀ (its:List Value),aQ ys its->ys.length<=sizeLine->∀ (h':Heap) (c':Nat),(∀b o',s.heap.get? b=some o'->h'.get? b=some o') ->
   h'.get? s.heap.objs.size=some { cls:=.type "list",dict:=none,data:=.seq its.toArray c',slots:=#[] }->EP X pins σ Q (.ref s.heap.objs.size) { s with heap:=h' }:=λits r' hz h' c' kp e =>
  ⟨.ref s.heap.objs.size,_,I.laid (t':=s.toks) kp (yN _) (show fw X.prog X.w _ h' _ (.lst ys) from ⟨hz,its,c',r',e⟩),rfl,q _ (I.Wb.fresh (yN _))⟩
 rcases hq with hq|hq
 ·obtain⟨its,r',pl,hz⟩:=I.list hq;have hlen:=r'.length;obtain⟨o,ho,hc,n,hd⟩:=pl.isList;exact call_list_seq p (.inl rfl) ho hc hd (λh' c' kp e=>fin its r' hz h' c' kp e) (by simp only[zH]<;>lia)
 ·obtain⟨its,r',pl,hz⟩:=I.tuple hq;have hlen:=r'.length;obtain⟨o,ho,hc,n,hd⟩:=pl;exact call_list_seq p (.inr rfl) ho hc hd (λh' c' kp e=>fin its r' hz h' c' kp e) (by simp only[zH]<;>lia)
def vz:ft X (.type "tuple") (λxs H Q=>∃p ys,xs=[.ref p]/\((iw X.K H p ys/\∀l,H l=none->Q (.ref l) (upd H l (.tup ys)))\/(j5 X.K H p ys/\Q (.ref p) H))):=by
 intro pins s σ H xs us Q I r h;obtain⟨p,ys,rfl,h⟩:=h;obtain⟨u,rfl,rx⟩:=vals1 r;cases rx;rcases h with ⟨hq,q⟩|⟨hq,q⟩
 ·obtain⟨its,r',pl,hz⟩:=I.list hq;have hlen:=r'.length;refine call_tuple_list pl.isList (λh' kp=>?_) (by simp only[zH]<;>lia);have I1:Inv X pins σ H { s with heap:=h' }:=I.kept (t':=s.toks) kp;have I2:Inv X pins σ (upd H h'.objs.size (.tup ys)) { s with heap:=h'.push { cls:=.type "tuple",data:=.seq its.toArray } } :=
   I1.laid (t':=s.toks) (λb o e=>zU _ e) (yN _) (show fw X.prog X.w _ _ _ (.tup ys) from ⟨hz,its,r',uI.new _ _⟩)
  exact⟨.ref h'.objs.size,_,I2,rfl,q _ (I1.Wb.fresh (yN _))⟩
 ·obtain⟨its,r',pl,hz⟩:=I.tuple hq;exact call_tuple_same pl ⟨.ref p,H,I,rfl,q⟩
def Vn(K:W.Frag)(T:String)(x:V)(H:Hp):Prop:=match x with
 | .str _=>T="str"
 | .int _=>T="int"
 | .ref p=>(T="list"/\∃xs,iw K H p xs)\/(T="tuple"/\∃xs,j5 K H p xs) \/
   (T="dict"/\((∃WW,H p=some (.dK WW))\/∃WW,H p=some (.dT WW)))\/(T="set"/\∃S n,H p=some (.set S n))
 | _=>False
def QS(I:Inv X pins σ H s)(r:RelV x v)(ty:Vn X.K T x H) :
  s.TypeIs v T/\∀a,v=.ref a->∃ob,s.heap.get? a=some ob/\ob.dict=none:=by
 cases x with
 | str z =>
  obtain⟨t,rfl⟩:=r;cases (show T="str" from ty);exact⟨typeIs_str s z t,λ_ e=>nomatch e⟩
 | int i =>
  obtain⟨t,rfl⟩:=r;cases (show T="int" from ty);exact⟨wW s i t,λ_ e=>nomatch e⟩
 | ref p =>
  cases r;rcases ty with ⟨rfl,xs,hq⟩|⟨rfl,xs,hq⟩|⟨rfl,hk⟩|⟨rfl,S,n,hk⟩
  ·obtain⟨its,_,pl,_⟩:=I.list hq;refine⟨pl.isList.typeIs,λa e=>?_⟩;cases e;obtain⟨o,n,e,c,hd,_⟩:=pl;exact⟨o,e,hd⟩
  ·rcases hq with hq|⟨o,its,n,hk,hc,hd,_⟩
   ·obtain⟨_,_,_,⟨o,e1,e2,_⟩,o2,e3,e4⟩:=hq.ok I.Wb;exact⟨⟨o,e1,e2⟩,λa e=>by cases e;exact⟨o2,e3,e4⟩⟩
   ·exact⟨⟨o,I.XZ p o hk,hc⟩,λa e=>by cases e;exact⟨o,I.XZ _ o hk,hd⟩⟩
  ·have z:∃o,s.heap.get? p=some o/\o.ExactDict:=by
    rcases hk with ⟨WW,hk⟩|⟨WW,hk⟩
    ·obtain⟨_,_,_,_,o,_,_,e,ex,_⟩:=I.Wb p _ hk;exact⟨o,e,ex⟩
    ·obtain⟨_,_,_,_,o,_,_,e,ex,_⟩:=I.Wb p _ hk;exact⟨o,e,ex⟩
   obtain⟨o,e,ex⟩:=z;refine⟨⟨o,e,ex.1⟩,λa e2=>?_⟩;cases e2;exact⟨o,e,ex.2.1⟩
  ·obtain⟨o,_,_,_,e,ex,_⟩:=I.Wb p _ hk;refine⟨⟨o,e,ex.1⟩,λa e2=>?_⟩;cases e2;exact⟨o,e,ex.2.1⟩
 | _=>exact False.elim ty
def V0(K:W.Frag)(T:String)(r:V->List V->Hp->VK->Prop)(to:TE)(t:TA):TE:=λσ H Q=>to σ H λx H1=>Vn K T x H1/\t σ H1 λxs H2=>r x xs H2 Q
variable {T id:String}
def uV(pa:PlainAttrs T)(slot:Slot T name id)(hty:typeOf (.builtin id)=pure (.type "method_descriptor"))(hm:Vx X id r)(ho:PE X o to)(ha:PA X (e::es) t)
  (XF:attributeBase o name X.env (eval o X.env)=eval o X.env:=by rfl)
  (Xg:((backTo cpos (starEach (e::es) X.env)).all (λx=>!x.1)&&(backToKw cpos (keywordEach [] X.env)).all (λx=>x.1.isSome)
   &&decide ((e::es).length+([]:List Keyword).length+(if ([]:List Keyword).isEmpty then 0 else 1) < 30))=true:=by rfl)
  (Wr:(apos.endLine == cpos.line)=true:=by rfl) (hs:starEach (e::es) X.env=(false,eval e X.env)::starEach es X.env:=by rfl) (aaV:(backTo cpos (starEach es X.env)).any (·.1)=false:=by rfl) :
  PE X (.Call (.Attribute o name apos) (e::es) [] cpos) (V0 X.K T r to t):=by
 intro pins s σ H Q I h;refine wpAny_Call_method_late XF Xg Wr rfl (cM (ho pins s σ H _ I h) λv s1 ⟨x,H1,I1,r1,ty,q1⟩=>?_);obtain⟨h1,h2⟩:=QS I1 r1 ty;refine⟨T,id,pa,slot,hty,h1,h2,?_⟩;have hA:=ha cpos pins s1 σ H1 _ I1 q1;rw[hs] at hA ⊢;refine Calls.callWith_builtin (by show (false||(backTo cpos (starEach es X.env)).any (·.1))=false;rw[aaV]<;>rfl) (Calls.evalArgs_plain ?_);exact cM hA λus s2 ⟨vs,H2,I2,r2,q2⟩=>hm pins s2 σ H2 x vs v us Q I2 r1 r2 q2
/- xs.append(e),list.index on a abM tuple .. are Vx facts of 06m -/
end
def Qd(X:Cx)(id:String)(r:V->List V->Hp->VK->Prop):Prop :=
 ∀ (pins:List (Addr×Obj)) (s:Shared) (σ:St) (H:Hp) (x:V) (xs:List V) (v:Value) (us:List Value) (Q:VK),Inv X pins σ H s->RelV x v->aQ xs us->r x xs H Q ->
  wpAny (model X.prog X.w) X.A (call (.builtin id) (v::us)) (EP X pins σ Q) X.xe s
def aQ.one:∀ {x:V}{us:List Value},aQ [x] us->∃u,us=[u]/\RelV x u
 | _,_,.cons r .nil=>⟨_,rfl,r⟩
def aQ.two:∀ {x y:V}{us:List Value},aQ [x,y] us->∃u v,us=[u,v]/\RelV x u/\RelV y v
 | _,_,_,.cons r (.cons q .nil)=>⟨_,_,rfl,r,q⟩
def aQ.rep(h:aQ xs us):∀k:Nat,aQ (List.replicate k xs).flatten (List.replicate k us).flatten
 | 0=>.nil
 | k+1=>by
  rw[xF,xF,qN,qN];exact aQ.append h (aQ.rep h k)
def foldl_rep(its:List Value):∀ (k:Nat) (acc:List Value),
  List.foldl (λx1 x2=>x1++x2) acc.toArray (List.replicate k its.toArray)=(acc++(List.replicate k its).flatten).toArray
 | 0,acc=>by simp
 | k+1,acc=>by
  have e:acc.toArray++its.toArray=(acc++its).toArray:=by simp
  have e2:(acc++its)++(List.replicate k its).flatten=acc++(List.replicate (k+1) its).flatten:=by
   rw[xF,qN,List.append_assoc]
  rw[<- e2,<- foldl_rep its k (acc++its),<- e,xF,yJ]
section
variable {xs ys zs:List V}
def Inv.aaW{its its':List Value}{n:Nat}{f:Array Value->Array Value}{t':Nat}(I:Inv X pins σ H s)(hH:H l=some (.lst xs))
  (e:s.heap.get? l=some { cls:=.type "list",data:=.seq its.toArray n }) (hf:f its.toArray=its'.toArray) (hv:aQ ys its') (hz:ys.length<=sizeLine) :
  Inv X pins σ (upd H l (.lst ys)) { s with heap:=s.heap.update l (Obj.mapSeq f),toks:=t' }:=by
 have q:=PySem.IsL.update e f;rw[hf] at q;refine I.write (x:=l) (e:=l) (by rw[hH];exact trivial) (.inl rfl) (λb' u hb hu=>(xO s.heap (Obj.mapSeq f) (jO hb)).trans hu) ⟨_,q⟩ ?_;exact⟨hz,its',_,hv,q⟩
def Inv.Z0{t':Nat}(I:Inv X pins σ H s)(hv:aQ ys its)(hz:ys.length<=sizeLine) :
  Inv X pins σ (upd H s.heap.objs.size (.lst ys)) { s with heap:=s.heap.push { cls:=.type "list",data:=.seq its.toArray },toks:=t' } :=
 I.laid (λ_ _ q=>zU _ q) (yN _) ⟨hz,its,0,hv,zX _ rfl⟩
def Inv.fresh(I:Inv X pins σ H s):H s.heap.objs.size=none:=I.Wb.fresh (yN _)
def Inv.Zl(I:Inv X pins σ H s)(hH:H l=some (.lst xs)):xs.length<=sizeLine/\∃ (its:List Value) (n:Nat),aQ xs its/\xs.length=its.length/\s.heap.get? l=some { cls:=.type "list",data:=.seq its.toArray n }:=by
 obtain⟨z,its,n,r,e⟩:=I.Wb l _ hH;exact⟨z,its,n,r,r.length,e⟩
def Bx(h:n<=sizeLine):Builtin.List.listTooLong n=false:=by
 unfold Builtin.List.listTooLong;exact zZ (by lia)
end
section
def Nz:V->List V->Hp->VK->Prop:=λx vs H Q=>∃l xs y,x=.ref l/\vs=[y]/\H l=some (.lst xs)/\xs.length < sizeLine/\Q .V6 (upd H l (.lst (xs++[y])))
def yp:Qd X "list.append" Nz:=by
 intro pins s σ H x vs v us Q I rx rv h;obtain⟨l,xs,y,rfl,rfl,hH,hz,q⟩:=h;cases rx;obtain⟨u,rfl,ru⟩:=rv.one;obtain⟨z,its,n,r,hl,e⟩:=I.Zl hH;refine qY F.slot_list_append ⟨_,e,rfl⟩ F.entry_list_append (F.args_list_append_2 _ _) (PySem.list_append l its.toArray n u (by rw[zH];lia)) ⟨e,?_⟩;refine⟨.V6,_,I.aaW (its':=its++[u]) hH e (by simp) (r.append (.cons ru .nil)) ?_,rfl,q⟩;rw[zN,xD];lia
def Of:V->List V->Hp->VK->Prop:=λx vs H Q=>∃l b xs zs,x=.ref l/\vs=[.ref b]/\H l=some (.lst xs)/\H b=some (.lst zs)/\xs.length+zs.length<=sizeLine/\Q .V6 (upd H l (.lst (xs++zs)))
def Ig:Qd X "list.extend" Of:=by
 intro pins s σ H x vs v us Q I rx rv h;obtain⟨l,b,xs,zs,rfl,rfl,hH,hB,hz,q⟩:=h;cases rx;obtain⟨u,rfl,ru⟩:=rv.one;cases ru;obtain⟨z,its,n,r,hl,e⟩:=I.Zl hH;obtain⟨z2,WU,n2,r2,hl2,e2⟩:=I.Zl hB;have YB:its.toArray.size+WU.toArray.size<=sizeLine:=by rw[zH,zH];lia
 have Zm:¬ (!its.toArray.isEmpty&&Builtin.List.listTooLong (its.toArray.size+WU.toArray.size))=true:=by
  rw[Bx YB,vC];exact xA
 refine qY F.slot_list_extend ⟨_,e,rfl⟩ F.entry_list_extend (F.args_list_extend_2 _ _)
  (AutoSeq1.list_extend_list_list_0 l its.toArray n b WU.toArray n2 Zm (by rw[zH];lia) (by lia)) ⟨e,e2,?_⟩
 refine⟨.V6,_,I.aaW (its':=its++WU) hH e (by simp) (r.append r2) ?_,rfl,q⟩;rw[zN];lia
def U8:R2:=λx y H Q=>∃l k xs,x=.ref l/\y=.int k/\H l=some (.lst xs)/\-(2 ^ 63)<=k/\k < 2 ^ 63/\xs.length * k.toNat<=sizeLine /\
 ∀p,H p=none->Q (.ref p) (upd H p (.lst (List.replicate k.toNat xs).flatten))
def len_rep(xs:List α)(k:Nat):(List.replicate k xs).flatten.length=k * xs.length:=by
 induction k with
 | zero=>simp
 | succ k ih=>rw[xF,qN,zN,ih,Nat.succ_mul,Nat.add_comm]
def Po:jc X (binaryOp .Mult) U8:=by
 intro pins s σ H x y v u Q I rx ry h;obtain⟨l,k,xs,rfl,rfl,hH,h1,h2,hz,q⟩:=h;cases rx;obtain⟨t,rfl⟩:=ry;obtain⟨z,its,n,r,hl,e⟩:=I.Zl hH;have hlen:its.toArray.size * k.toNat<=sizeLine:=by rw[zH,<- hl];exact hz
 have Zn:¬ its.toArray.size * k.toNat > (2 ^ 63 - 1) / 8:=by
  have:(sizeLine:Nat)<=(2 ^ 63 - 1) / 8:=by decide
  lia
 have Yk:¬ (!Builtin.List.listFitsIndex k)=true:=by
  rw[fitsIndex_both h1 h2];exact xA
 have Zm:¬ Builtin.List.listTooLong (its.toArray.size * k.toNat)=true:=by
  rw[Bx hlen];exact xA
 have ads:List.foldl (λx1 x2=>x1++x2) #[] (List.replicate (if its.toArray.isEmpty=true then 0 else k.toNat) its.toArray)=(List.replicate k.toNat its).flatten.toArray:=by
  have f0:∀m:Nat,List.foldl (λx1 x2=>x1++x2) #[] (List.replicate m its.toArray)=(List.replicate m its).flatten.toArray:=λm=>by
   have:=foldl_rep its m [];rw[xP] at this;exact this
  rw[f0];cases its with
  | nil=>simp
  | cons a r'=>rw[yO (by simp)]
 refine wpAny_binaryOp_repeat_ref (T:="list") (U:="int") (by decide) ⟨_,e,rfl⟩ (λs'=>wW s' k t) noFill_list_mul F.fills_int_mul wF repeat_list F.slot_int_index.lookup
  (qY wF (wW s k t) F.entry_int_rmul (F.args_int_rmul_2 _ _) (int___rmul___int_list k t l its.toArray n)
   ⟨e,rfl,⟨_,e,rfl⟩,qY F.slot_list_mul ⟨_,e,rfl⟩ F.entry_list_mul (F.args_list_mul_2 _ _) (AutoListH.list___mul___list_int_3 l its.toArray n k t Yk Zn Zm) ⟨e,?_⟩⟩)
 rw[ads];exact⟨.ref _,_,I.Z0 (t':=s.toks) (r.rep k.toNat) (by rw[len_rep,Nat.mul_comm];exact hz),rfl,q _ I.fresh⟩
end
section
end
section
end
end L2
namespace Att
open PySem PySem.W PySem.Calls PyProof.Rows
variable {n:Nat}
def Xh:∀ (ns:List Int) (vs:List Value),WellAll P h vs (ns.map WData.int)->IntsAre vs ns:=by
 intro ns
 induction ns with
 | nil =>
  intro vs w;rw[yV] at w;cases w;exact .nil
 | cons n ns ih =>
  intro vs w;rw[zI] at w;cases w with
  | cons a b =>
   cases a;exact .cons _ _ (ih _ b)
def YK{l:OpenLaw}(hn:l.most=some n){P:Params}{h:Heap}{args:List WData}{vals:List Value}
  (Z6:l.row.toRowW.claim.pre args=true) (YL:WellAll P h vals args) :
  ∃a vs ns,vals=[Value.ref a]/\args=[WData.list (ns.map WData.int)]/\h.get? a=some { cls:=.type "list",data:=.seq vs.toArray }/\IntsAre vs ns/\ns.length<=n:=by
 have hsh:WShape.hasAll [] args [.list .int]=true:=(pre_splitW Z6).1;have hc:l.pre.holds [] { args:=args }=true:=(pre_splitW Z6).2;obtain⟨d,r,rfl,h1,h2⟩:=hasAllW_cons hsh;obtain rfl:=hasAllW_nil h2;obtain⟨xs,rfl,h3⟩:=hasW_list h1;obtain⟨ns,rfl⟩:=items_int h3;have hlen:ns.length<=n:=by
  unfold OpenLaw.pre at hc;have h4:(WTm.not (.lt (.lit (.int (n:Int))) (.len (.arg 0)))).holds [] { args:=[.list (ns.map .int)] }=true:=by
   have h4:=(holds_andW hc).1;rw[hn] at h4;exact h4
  have h5:=condW_of h4 (w_not (w_lt w_lit (w_len_list (w_arg rfl))));rw[zD] at h5;refine Nat.le_of_not_lt λq=>?_;have q':(n:Int) < ((ns.length:Nat):Int):=by lia
  first
   | (rw[yA q'] at h5;exact absurd h5 (by decide))
   | (simp at h5;lia)
 cases YL with
 | cons w1 w2 =>
  cases w2;cases w1 with
  | list ho XM=>exact⟨_,_,ns,rfl,rfl,ho,Xh ns _ XM,hlen⟩
def YM(l:OpenLaw)(args:List WData):l.row.toRowW.claim.post args (.bool true) args=true :=
 postW_of (r:=l.row.toRowW) (X:=(true == true))
  (show WShape.has [] (.bool true) .bool=true by first|rfl|decide|simp[WShape.has,WShape.arms,WShape.armsAll])
  (show (WTm.eq .res (.lit (.bool true))).value [] { args:=args,res:=some (.bool true),after:=args }=some (.bool (true == true)) from w_eq_bool (w_res rfl) w_lit) rfl
def X2{l:OpenLaw}{q:Program}{loose:List Str}{XP:(Str->Option Value)->Heap->Prop}{YP:World->Heap->Prop}{d:DefRec}
  (hn:l.most=some n) (hdf:d.params.defaults=[])
  (call:∀ (w:World) (Wf We:Shared) (mg mb:Str->Option Value) (fa:Addr) (o:Obj) (pm cd doc:Value) (a:Addr) (vs:List Value) (ns:List Int),
   Ground q loose [] XP w Wf mg mb We.heap->YP w We.heap ->
   We.heap.get? fa=some o->o.data=.func (docDef d.name d.params d.body d.scope pm cd doc)->We.heap.CodeRec cd d.name->mg d.name=some (.ref fa) ->
   We.heap.get? a=some { cls:=.type "list",data:=.seq vs.toArray }->IntsAre vs ns->ns.length<=n->We.gens=#[] ->
   codeAny (model l.prog w) callerA (.call (.ref fa) ⟨[.ref a],[]⟩) (λr s'=>r=.ok (.ret (.bool true))/\OldK We.heap s'.heap/\s'.os=We.os/\AllBare s'.gens) We) :
  WalkO q loose XP YP l.row.toRowW d [] (λf vs=>PySem.call f vs):=by
 intro w Wf We mg mb G Y fa o pm cd doc dV kV ho hd WS hD hmg hg args vals as Z6 afW hrd YL hlo;obtain rfl:dV=.none:=Dflts.none hD hdf;obtain rfl:kV=.none:=Dflts.noKw hD;obtain⟨a,vs,ns,rfl,rfl,aaX,hints,hlen⟩:=YK hn Z6 YL;refine enter_call (jT (call w Wf We mg mb fa o pm cd doc a vs ns G Y ho (fd_plain hd) WS hmg aaX hints hlen hg) λr s' hq=>?_);obtain⟨rfl,h2,h3,h4⟩:=hq;exact⟨.inl ⟨.bool true,.bool true,[],rfl,λ_=>rfl,.bool true,YM l _,λ_=>⟨List.Pairwise.nil,λ_ hm=>(nomatch hm)⟩⟩,h2,h3,h4⟩
section
variable {K:Frag}
end
end Att
namespace L2
open PySem PySem.Spec PyProof.Rows
variable {B:Prop}
def xv:∀ {vs:List Value}{ns:List Int},IntsAre vs ns->aQ (ns.map V.int) vs
 | _,_,.nil=>.nil
 | _,_,.cons n t h=>.cons ⟨t,rfl⟩ (xv h)
abbrev Ml:MZ:=λ_ _ _ _ _ _=>False
abbrev E0:XK:=λ_ _ _=>False
def SO:gq Ml X E0:=λ_ _ _ _ _ _ _ h=>h.elim
structure JO(K:W.Frag)(x qual:Str)(st:Stmt)(f:Addr)(fd:FuncData):Prop where
 ex:∃ (oc:Value) (od:Option Addr) (kV doc pm:Value) (an:Option Addr) (Wt ct:Value) (Yi:Array (Option Value)),
  fd=W.fnOf x qual (iL st) (bG st) (aj st) .none kV doc pm an Wt ct/\K.lookup f=some ⟨oc,od,.func fd,Yi⟩/\W.codeIn K Wt qual=true
 kp:W.keepIn K (.ref f)=true
section
variable {K:W.Frag}
def JO.binds{st:Stmt}(F:JO K x qual st f fd)
  (h:∀ (kV doc pm:Value) (an:Option Addr) (Wt ct:Value) (us:List Value),us.length=ps.length->bindArgs (W.fnOf x qual (iL st) (bG st) (aj st) .none kV doc pm an Wt ct) ⟨us,[]⟩=pure (ps.zip us)):Binds K fd ps []:=by
 obtain⟨oc,od,kV,doc,pm,an,Wt,ct,Yi,rfl,lk,WS⟩:=F.ex;exact .all (h kV doc pm an Wt ct)
def A2{st:Stmt}{kV:Value}(l:K.lookup f=some ⟨oc,od,.func (W.fnOf x qual (iL st) (bG st) (aj st) .none kV doc pm an Wt ct),Yi⟩)
  (c:W.codeIn K Wt qual=true) (k:W.keepIn K (.ref f)=true):JO K x qual st f (W.fnOf x qual (iL st) (bG st) (aj st) .none kV doc pm an Wt ct):=⟨⟨oc,od,kV,doc,pm,an,Wt,ct,Yi,rfl,l,c⟩,k⟩
end
section
end
def sH{A B:Prop}(h:B):if false=true then A else B:=by
 rw[yO xA];exact h
def wc{A B:Prop}(h:A):if true=true then A else B:=by
 rw[yM rfl];exact h
def aS(H H':Hp):Prop:=∀b o,H b=some o->H' b=some o
def aS.refl(H:Hp):aS H H:=λ_ _ h=>h
def aS.trans(a:aS H H1)(b:aS H1 H2):aS H H2:=λc o h=>b c o (a c o h)
def aS.free(e:aS H H')(h:H' l=Option.none):H l=Option.none:=by
 cases q:H l with
 | none=>rfl
 | some o =>
  rw[e l o q] at h;cases h
def aS.seq{K:W.Frag}(e:aS H H')(h:iw K H a xs):iw K H' a xs:=by
 rcases h with (h|⟨o,h⟩)|h
 ·exact .inl (.inl (e _ _ h))
 ·exact .inl (.inr ⟨o,e _ _ h⟩)
 ·exact .inr h
def cD:∀ (names:List (Str×NameKind)) (n:Nat) (acc:List (Str×Addr)),cellsFrom n names acc=cellsFrom n names []++acc
 | [],_,_=>rfl
 | (name,kind)::r,n,acc=>by
  unfold cellsFrom;split
  ·rw[cD r (n+1) ((name,n)::acc),cD r (n+1) [(name,n)]];simp
  ·exact cD r n acc
def lz:∀ {l m:List (Str×α)},(l++m).lookup x=some c->l.lookup x=some c\/(l.lookup x=none/\m.lookup x=some c)
 | [],_,h=>.inr ⟨rfl,h⟩
 | (k,v)::r,m,h=>by
  have ih:=@lz α x c r m;rw[xG,yB] at h;rw[yB];cases e:x == k with
  | true=>rw[e] at h;exact .inl h
  | false=>rw[e] at h;exact ih h
def lj:∀ {l m:List (Str×α)},l.lookup x=some c->(l++m).lookup x=some c
 | [],_,h=>by cases h
 | (k,v)::r,m,h=>by
  have ih:=@lj α x c r m;rw[yB] at h;rw[xG,yB];cases e:x == k with
  | true=>rw[e] at h;exact h
  | false=>rw[e] at h;exact ih h
def jq:∀ {l m:List (Str×α)},l.lookup x=none->(l++m).lookup x=m.lookup x
 | [],_,_=>rfl
 | (k,v)::r,m,h=>by
  have ih:=@jq α x r m;rw[yB] at h;rw[xG,yB];cases e:x == k with
  | true=>rw[e] at h;cases h
  | false=>rw[e] at h;exact ih h
def ir:∀ (names:List (Str×NameKind)) (n:Nat) (x:Str) (c:Addr),(x,c)∈cellsFrom n names []->(x,NameKind.cell)∈names
 | [],_,_,_,h=>by cases h
 | (name,kind)::r,n,x,c,h=>by
  unfold cellsFrom at h;split at h
  ·rename_i hk;rw[cD] at h;rcases List.mem_append.mp h with h|h
   ·exact zC _ (ir r _ x c h)
   ·have:(x,c)=(name,n):=by simpa using h
    cases this;have:kind=.cell:=by simpa using hk
    subst this;exact zE
  ·exact zC _ (ir r n x c h)
def fQ(env:Env):List (Str×NameKind)->List (Str×Addr)->List (Str×Addr)
 | [],acc=>acc
 | (n,k)::r,acc=>if k == .free then fQ env r ((n,(env.cells.lookup n).getD 0)::acc) else fQ env r acc
def oa(env:Env):∀ (names:List (Str×NameKind)) (acc:List (Str×Addr)),(∀x∈names,x.2=.free->∃c,env.cells.lookup x.1=some c) ->
  (forIn names acc (λ(p:Str×NameKind) (cs:List (Str×Addr))=>(if p.2 == .free then (do let a <- cellOf env p.1;pure (.yield ((p.1,a)::cs))) else pure (.yield cs):Sem (ForInStep (List (Str×Addr))))))=pure (fQ env names acc)
 | [],acc,_=>rfl
 | (n,k)::r,acc,h=>by
  rw[List.forIn_cons];have hr:=λx hx=>h x (zC _ hx);unfold fQ;by_cases hk:k=.free
  ·obtain⟨c,hc⟩:=h (n,k) zE hk;subst hk;have e1:cellOf env n=pure c:=by
    have Xj:env.cells.lookup n=some c:=hc;unfold cellOf;rw[Xj]
   have Xj:env.cells.lookup n=some c:=hc;simp only[beq_self_eq_true,xI,e1,pure_bind,Xj,qH];exact oa env r _ hr
  ·have hb:(k == NameKind.free)=false:=by simpa using hk
   simp only[hb,yP,qQ,pure_bind];exact oa env r _ hr
def kg{env:Env}(h:∀x∈scope.names,x.2=.free->∃c,env.cells.lookup x.1=some c):closureFor scope env=pure (fQ env scope.names []):=by
 have:=oa env scope.names [] h;unfold closureFor;exact (bind_pure _).trans this
def mK{env:Env}:∀ {names:List (Str×NameKind)}{acc:List (Str×Addr)},(∀x∈names,x.2=.free->∃c,env.cells.lookup x.1=some c)->(∀x c,(x,c)∈acc->env.cells.lookup x=some c) ->
  ∀x c,(x,c)∈fQ env names acc->env.cells.lookup x=some c
 | [],acc,_,ha,x,c,hm=>ha x c hm
 | (n,k)::r,acc,h,ha,x,c,hm=>by
  unfold fQ at hm;have hr:=λx hx=>h x (zC _ hx);split at hm
  ·rename_i hk;have Ww:k=.free:=by simpa using hk
   obtain⟨c',hc⟩:=h (n,k) zE Ww;have hc:env.cells.lookup n=some c':=hc;refine mK hr (λy d hy=>?_) x c hm;rcases List.mem_cons.mp hy with e|hy
   ·cases e;rw[hc];rfl
   ·exact ha y d hy
  ·exact mK hr ha x c hm
def iq{env:Env}:∀ {names:List (Str×NameKind)}{acc:List (Str×Addr)}{x:Str},(names.lookup x=some .free\/∃c,acc.lookup x=some c)->∃c,(fQ env names acc).lookup x=some c
 | [],acc,x,h=>by
  rcases h with h|h
  ·cases h
  ·exact h
 | (n,k)::r,acc,x,h=>by
  unfold fQ;split
  ·rename_i hk;refine iq ?_;rcases h with h|⟨c,h⟩
   ·rw[yB] at h;cases e:x == n with
    | true=>exact .inr ⟨_,by rw[yB,e]⟩
    | false=>rw[e] at h;exact .inl h
   ·refine .inr ?_;rw[yB];cases e:x == n with
    | true=>exact⟨_,rfl⟩
    | false=>exact⟨c,h⟩
  ·rename_i hk;refine iq ?_;rcases h with h|h
   ·rw[yB] at h;cases e:x == n with
    | true =>
     rw[e] at h;cases h;exact absurd rfl hk
    | false=>rw[e] at h;exact .inl h
   ·exact .inr h
def oW{env:Env}:∀ {names:List (Str×NameKind)}{x:Str}{k:NameKind},names.lookup x=some k ->
  (names.map λ(n,k)=>if (k == NameKind.free&&env.scope.kind == .function&&env.kindOf n == some .cell) then (n,NameKind.cell) else (n,k)).lookup x=some (if (k == NameKind.free&&env.scope.kind == .function&&env.kindOf x == some .cell) then NameKind.cell else k)
 | [],_,_,h=>by cases h
 | (n,k)::r,x,k',h=>by
  have ih:=@oW env r x k';rw[zI];dsimp only;cases hx:x == n with
  | true =>
   have e:x=n:=by simpa using hx
   subst e;rw[yB,hx] at h;cases h;split<;>simp[yB, *]
  | false =>
   rw[yB,hx] at h;have ih:=ih h;split
   ·rw[yB,hx];exact ih
   ·rw[yB,hx];exact ih
def r9{env:Env}:∀ {names:List (Str×NameKind)}{x:Str},names.lookup x=none ->
  (names.map λ(n,k)=>if (k == NameKind.free&&env.scope.kind == .function&&env.kindOf n == some .cell) then (n,NameKind.cell) else (n,k)).lookup x=none
 | [],_,h=>rfl
 | (n,k)::r,x,h=>by
  have ih:=@r9 env r x;rw[zI];dsimp only;cases hx:x == n with
  | true=>rw[yB,hx] at h;cases h
  | false =>
   rw[yB,hx] at h;split
   ·rw[yB,hx];exact ih h
   ·rw[yB,hx];exact ih h
def gg(X:Cx)(scope:Scope)(C:Addr):Env :=
 { scope:=relabel scope X.env,locals:=C,globals:=X.env.globals,cells:=cellsFrom (C+1) scope.names (fQ X.env scope.names []),qual:=X.env.qual,func:=none,code:=X.env.code,frame:=X.env.frame,builtins:=X.env.builtins }
def bb(X:Cx)(scope:Scope)(N:List Str)(fp:List Addr)(s:Shared)(H:Hp):Cx :=
 { X with N:=N,Wf:=s,V8:=H,env:=gg X scope s.heap.objs.size,outer:=X.stack,ex:=fp,fn:=λx=>decide (scope.names.lookup x=some .cell),pn:=[],xe:=λ_ _=>False }
def Ey{M:Model}{A:Around}{E:Value->Shared->Prop}{globals:Addr}{cl:List (Str×Addr)}{qual:Str}{env:Env}
  (hQ:∀h',h'.Ns s.heap.objs.size (λ_=>none)->(∀b o,s.heap.get? b=some o->h'.get? b=some o)->CellsOk h' (s.heap.objs.size+1) (cellsFrom (s.heap.objs.size+1) scope.names []) ->
   Q { scope:=scope,locals:=s.heap.objs.size,globals:=globals,cells:=cellsFrom (s.heap.objs.size+1) scope.names cl,qual:=qual,func:=none,code:=env.code,frame:=env.frame,builtins:=env.builtins } { s with heap:=h' }) :
  wpAny M A (newFunctionEnv scope globals cl [] qual none .none (some env)) Q E s:=by
 simp only[newFunctionEnv,Option.isSome_some,xI];refine zV (wpAny_alloc ?_);refine zV (wpAny_layCells _ (λname kind cells=>by cases hkc:kind == NameKind.cell<;>simp[hkc]) _ _ _ _ ?_);have ok:=cellsFrom_ok scope.names (s.heap.push { cls:=.type "dict",data:=.dict #[] }) (s.heap.objs.size+1) [] ⟨λ_ _ hm=>(nomatch hm),List.Pairwise.nil⟩ (by rw[xK];exact yN _);rw[xK] at ok;rw[show ({ s with heap:=s.heap.push { cls:=.type "dict",data:=.dict #[] } }:Shared).heap.objs.size=s.heap.objs.size+1 from xK ..];rw[List.forIn_nil];refine zV (zW (zW ?_));exact hQ _ ((Heap.Ns.new s.heap (.type "dict")).keeps (pushCells_keeps _ _)) (λb o e=>pushCells_keeps _ _ b o (zU _ e)) ok
section
variable {X:Cx}{pins:List (Addr×Obj)}{σ σ':St}{H:Hp}{s:Shared}{fp:List Addr}{scope:Scope}{N:List Str}{h4:Heap}
def jx(ok:X.Ok)(W3:∀x∈scope.names,x.2=.free->X.env.kindOf x.1=some .cell\/X.env.kindOf x.1=some .free):∀x∈scope.names,x.2=.free->∃c,X.env.cells.lookup x.1=some c :=
 λx hx hk=>ok.has x.1 (W3 x hx hk)
def qb(h:scope.names.lookup x=some k):(gg X scope C).kindOf x=some k\/(k=.free/\(gg X scope C).kindOf x=some .cell):=by
 have q:=oW (env:=X.env) h;have q':(gg X scope C).kindOf x=some (if (k == NameKind.free&&X.env.scope.kind == .function&&X.env.kindOf x == some .cell) then NameKind.cell else k):=q;rw[q'];split
 ·rename_i hc;have:k=.free:=by
   simp only[zF,vQ] at hc;exact hc.1.1
  exact .inr ⟨this,rfl⟩
 ·exact .inl rfl
def nv(h:(gg X scope C).kindOf x=some k):scope.names.lookup x=some k\/(k=.cell/\scope.names.lookup x=some .free):=by
 cases e:scope.names.lookup x with
 | none =>
  have q:(gg X scope C).kindOf x=none:=r9 (env:=X.env) e;rw[q] at h;cases h
 | some k' =>
  rcases qb (X:=X) (C:=C) e with q|⟨q,q'⟩
  ·rw[q] at h;cases h;exact .inl rfl
  ·rw[q'] at h;cases h;subst q;exact .inr ⟨rfl,rfl⟩
def L3(I:Inv X pins σ H s)(hf:∀b∈fp,bZ X pins H b)(WV:∀b∈fp,b < s.heap.objs.size)(hk:scope.kind=.function)
  (W3:∀x∈scope.names,x.2=.free->X.env.kindOf x.1=some .cell\/X.env.kindOf x.1=some .free)
  (XU:h4.Ns s.heap.objs.size (λ_=>none)) (W7:∀b o,s.heap.get? b=some o->h4.get? b=some o) (YD:CellsOk h4 (s.heap.objs.size+1) (cellsFrom (s.heap.objs.size+1) scope.names []))
  (aaY:∀ {x:Str},(x,NameKind.cell)∈scope.names->(x,NameKind.free)∈scope.names->False) (Zn:∀ (i:Nat) (x:Str) (v:V),N[i]?=some x->σ'[i]?=some (some v)->scope.names.lookup x=some .free/\∃j:Nat,X.N[j]?=some x/\σ[j]?=some (some v)) (hlen:σ'.length=N.length) (t':Nat) :
  Inv (bb X scope N fp s H) [] σ' H { s with heap:=h4,toks:=t' }:=by
 have W8:=jx I.ok W3;have clx:∀x c,(fQ X.env scope.names []).lookup x=some c->X.env.cells.lookup x=some c:=λx c e=>mK W8 (λ_ _ z=>by cases z) x c (mem_of_lookup e);have look:∀x c,(gg X scope s.heap.objs.size).cells.lookup x=some c->(x,c)∈cellsFrom (s.heap.objs.size+1) scope.names []\/X.env.cells.lookup x=some c:=λx c e=>by
  have e:(cellsFrom (s.heap.objs.size+1) scope.names (fQ X.env scope.names [])).lookup x=some c:=e;rw[cD] at e;rcases lz e with q|⟨_,q⟩
  ·exact .inl (mem_of_lookup q)
  ·exact .inr (clx x c q)
 have old:∀x c,X.env.cells.lookup x=some c->c < s.heap.objs.size:=λx c e=>let ⟨_,q⟩:=I.cell x c e;q.lt;have new:∀x c,(x,c)∈cellsFrom (s.heap.objs.size+1) scope.names []->s.heap.objs.size < c:=λx c e=>(YD.empty x c e).2;refine⟨⟨I.ok.mod,?_,I.ok.glob,I.ok.blt,yN _,?_,?_,?_,I.ok.hd,I.ok.frames,.inl rfl,?_,I.bs,yD I.ok.Y2 I.sz,?_,?_,I.stack,I.W2⟩,rfl,I.bare,Un.kept W7,⟨_,XU,?_⟩,?_,I.Wb.fresh (yN _),?_,
  λp hp=>absurd (show p∈([]:List (Addr×Obj)) from hp) (by simp),I.Wb.kept W7,hlen⟩
 ·show (relabel scope X.env).kind=_;exact hk
 ·intro x y c e1 e2;rcases look x c e1 with a|a<;>rcases look y c e2 with b|b
  ·exact name_of_addr YD.apart a b
  ·exact absurd (Zf (new x c a) (old y c b)) (qF _)
  ·exact absurd (Zf (new y c b) (old x c a)) (qF _)
  ·exact I.ok.inj x y c a b
 ·intro x hx;show ∃c,(cellsFrom (s.heap.objs.size+1) scope.names (fQ X.env scope.names [])).lookup x=some c;refine Option.isSome_iff_exists.mp (W.cellsFrom_some _ _ _ ?_);rcases hx with hx|hx
  ·rcases nv hx with q|⟨_,q⟩
   ·exact .inl q
   ·exact .inr (Option.isSome_iff_exists.mpr (iq (.inl q)))
  ·rcases nv hx with q|⟨q,_⟩
   ·exact .inr (Option.isSome_iff_exists.mpr (iq (.inl q)))
   ·cases q
 ·intro x c Y3 e;have Y3:scope.names.lookup x=some .cell:=yR Y3;have e:(cellsFrom (s.heap.objs.size+1) scope.names (fQ X.env scope.names [])).lookup x=some c:=e;obtain⟨c',Xj⟩:=uQ (n:=s.heap.objs.size+1) Y3;rw[cD,lj Xj] at e;cases e;exact jU (new x c (mem_of_lookup Xj))
 ·intro b hb;refine⟨yS (WV b hb),λx c e z=>?_⟩;rcases look x c e with a|a
  ·exact absurd (Zf (new x c a) (by rw[z];exact WV b hb)) (qF _)
  ·exact (hf b hb).2.2.2.2.1 x c a z
 ·intro b o e hb;obtain⟨f0,f1,f2,f3,f4,f5⟩:=hf b hb;rcases f3 with z|z
  ·exact I.ok.XY b o e z
  ·exact absurd (zP (zY (I.ok.bs b o e).1) z) (qF _)
 ·intro b hb hz;obtain⟨f0,f1,f2,f3,f4,f5⟩:=hf b hb;rcases List.mem_cons.mp (I.Yf b hz) with z|z
  ·exact f1 z
  ·exact f2 z
 ·intro i x v e1 e2 e3;obtain⟨YX,j,hj,hv⟩:=Zn i x v e1 e2;have hm:(x,NameKind.free)∈scope.names:=mem_of_lookup YX;obtain⟨m,hn,hl⟩:=I.loc;have kx:=W3 _ hm rfl;obtain⟨u,ru,lk⟩:=hl j x v hj hv (kx.elim (λk=>.inr (.inl k)) λk=>.inr (.inr k));refine⟨u,ru,.inr ⟨?_,?_⟩⟩
  ·rcases qb (X:=X) (C:=s.heap.objs.size) YX with q|⟨_,q⟩
   ·exact .inr q
   ·exact .inl q
  ·rcases lk with ⟨k,_⟩|⟨_,c,ec,ic⟩
   ·have k:X.env.kindOf x=some .local:=k;rcases kx with k'|k'<;>· rw[k] at k';cases k'
   ·obtain⟨c',Xj⟩:=iq (env:=X.env) (acc:=[]) (.inl YX);have e':=clx x c' Xj;rw[ec] at e';cases e';refine⟨c,?_,ic.keeps W7⟩;show (cellsFrom (s.heap.objs.size+1) scope.names (fQ X.env scope.names [])).lookup x=some c;rw[cD];cases eo:(cellsFrom (s.heap.objs.size+1) scope.names []).lookup x with
    | none=>rw[jq eo];exact Xj
    | some d =>
     have hcm:=ir _ _ _ _ (mem_of_lookup eo);exact (aaY hcm hm).elim
 ·intro x c e;rcases look x c e with a|a
  ·exact⟨_,(YD.empty x c a).1⟩
  ·obtain⟨v,q⟩:=I.cell x c a;exact⟨v,q.keeps W7⟩
 ·intro x c e;rcases look x c e with a|a
  ·exact I.Wb.fresh (jU (new x c a))
  ·exact I.Wh x c a
end
abbrev Cr(ifs:List Expr)(env:Env):Sem Bool:=forIn ifs true λc r=>if r=true then do let ok <- isTrue c env (eval c env);pure (ForInStep.yield ok) else pure (ForInStep.yield r)
def RU(X:Cx)(ifs:List Expr)(t:TT):Prop :=
 ∀ (pins:List (Addr×Obj)) (s:Shared) (σ:St) (H:Hp) (Q:Bool->Hp->Prop),Inv X pins σ H s->t σ H Q->wpAny (model X.prog X.w) X.A (Cr ifs X.env) (TP X pins σ Q) X.xe s
def Oy:RU X [] (λ_ H Q=>Q true H):=λ_ _ _ H _ I h=>wpAny_tests_nil ⟨H,I,h⟩
def MI(h:PT X c t):RU X [c] t:=λpins s σ H Q I q=>wpAny_tests_one (h pins s σ H Q I q)
def Bl{R:Result->Shared->Prop}{elt target iter:Expr}{ifs:List Expr}{scope:Scope}{pos:Pos}{acc:Value}{env:Env}(I:Nat->Shared->Prop)
  (turn:∀n s,I n s->wpAny (model prog w) A (pyNext it) (λr We=>match r with
   | none=>R (.ok .next) We
   | some v=>wpAny (model prog w) A (letOwnedTupleGo target it v) (λ_ aar=>wpAny (model prog w) A (assign target env v) (λ_ ZW =>
     wpAny (model prog w) A (Cr ifs env) (λok Zo =>
      if ok=true then wpAny (model prog w) A (eval elt env) (λx Z7 =>
       wpAny (model prog w) A (call (.builtin "list.append") [acc,x]) (λ_ abP=>∃m,m < n/\I m abP) (λ_ _=>False) Z7) (λ_ _=>False) Zo
      else ∃m,m < n/\I m Zo) (λ_ _=>False) ZW) (λ_ _=>False) aar) (λ_ _=>False) We) (λ_ _=>False) s)
  (n:Nat) (h:I n s) :
  codeAny (model prog w) A (.compLoop (.ListComp elt [⟨target,iter,ifs,0⟩] scope pos) 0 it acc env) R s:=by
 refine codeAny_loop rfl I (λn s hI=>?_) n h;show wpAny _ A ((compTurn (.ListComp elt [⟨target,iter,ifs,0⟩] scope pos) 0 it acc env).onRaise (λx=>do noteFrame x env;theTreesLotGoes x)) _ _ s;refine wpAny_noted ?_;rw[compTurn_list];refine zV (vI (zV (xB (turn n s hI) (λr We abQ=>?_) λ_ _ h'=>h'.elim)));cases r with
 | none=>exact zW abQ
 | some v =>
  refine zV (xB abQ (λ_ aar abR=>?_) λ_ _ h'=>h'.elim);refine zV (xB abR (λ_ ZW adu=>zV (xB adu (λok Zo abS=>?_) λ_ _ h'=>h'.elim)) λ_ _ h'=>h'.elim);cases ok with
  | false=>exact zW ⟨rfl,abS⟩
  | true =>
   exact zV (zV (xB abS (λx Z7 adv=>zV (xB adv (λ_ abP adw=>zW (zW ⟨rfl,adw⟩)) λ_ _ h'=>h'.elim)) λ_ _ h'=>h'.elim))
def FU(X:Cx)(pins:List (Addr×Obj))(σ:St)(Q:VK)(acc:Value)(C:Addr)(r:Result)(s5:Shared):Prop :=
 ∃ (D:Addr) (H5:Hp) (m:Str->Option Value),acc=.ref D/\r=.ok .next/\Inv X pins σ H5 s5/\s5.heap.Ns C m/\bZ X pins H5 C/\Q (.ref D) H5
def Jt(J:It)(g:TG)(tt:TT)(te:TE)(D:Addr)(σ0:St)(H0:Hp)(Q:VK):Prop :=
 ∃W:Nat->Nat->St->Hp->Prop,(∃m,W 0 m σ0 H0)/\∀i m σ H,W i m σ H ->
  (J.stop i H/\Q (.ref D) H)\/(J.go i H/\∀x H',J.yld i H x H'->g x σ H' λYx H2=>tt Yx H2 λb H3 =>
   if b=true then te Yx H3 λv H4=>∃ys,H4 D=some (.lst ys)/\ys.length < sizeLine/\∃m',m' < m/\W (i+1) m' Yx (upd H4 D (.lst (ys++[v])))
   else ∃m',m' < m/\W (i+1) m' Yx H3)
section
variable {X:Cx}{pins:List (Addr×Obj)}{σ σ':St}{H:Hp}{s:Shared}{scope:Scope}{N:List Str}
 {tg iter elt:Expr}{ifs:List Expr}{pos:Pos}{g:TG}{tt:TT}{te:TE}
def ze(hc:X.calm=true)(I:Inv X pins σ H s)(T:Turn X.prog X.w X.K tg J fp it tn)(st:tn 0 s.heap)(hf:∀b∈fp,bZ X pins H b)(hk:scope.kind=.function)
  (W3:∀x∈scope.names,x.2=.free->X.env.kindOf x.1=some .cell\/X.env.kindOf x.1=some .free) (aaY:∀ {x:Str},(x,NameKind.cell)∈scope.names->(x,NameKind.free)∈scope.names->False)
  (Zn:∀ (i:Nat) (x:Str) (v:V),N[i]?=some x->σ'[i]?=some (some v)->scope.names.lookup x=some .free/\∃j:Nat,X.N[j]?=some x/\σ[j]?=some (some v)) (hlen:σ'.length=N.length)
  (hY:∀fp s H,PG (bb X scope N fp s H) tg g/\RU (bb X scope N fp s H) ifs tt/\PE (bb X scope N fp s H) elt te)
  (hrd:∀D,H D=none->Jt J g tt te D σ' (upd H D (.lst [])) Q) {E:Value->Shared->Prop} :
  wpAny (model X.prog X.w) X.A (newList []) (λacc Zo=>wpAny (model X.prog X.w) X.A (newFunctionEnv scope X.env.globals (fQ X.env scope.names []) [] X.env.qual none .none (some X.env)) (λZq Z7 =>
   codeAny (model X.prog X.w) X.A (.compStart (.ListComp elt [⟨tg,iter,ifs,0⟩] scope pos) 0 (.ref it) acc { Zq with scope:=relabel scope X.env }) (FU X pins σ Q acc Zq.locals) Z7) E Zo) E s:=by
 refine qM ?_;have WV:∀b∈fp,b < s.heap.objs.size:=λb hb=>let ⟨o,e,_⟩:=T.obj _ _ st b hb;zY e;have I3:=I.Z0 (ys:=[]) (its:=[]) (t':=s.toks) .nil (xW _);have hD:H s.heap.objs.size=none:=I.fresh;obtain⟨W,⟨m0,w0⟩,turn⟩:=hrd _ hD;generalize e3:({ s with heap:=s.heap.push { cls:=.type "list",data:=.seq ([]:List Value).toArray },toks:=s.toks }:Shared)=s3 at I3;have e3h:s3.heap=s.heap.push { cls:=.type "list",data:=.seq ([]:List Value).toArray }:=by rw[<- e3]
 generalize hH3:upd H s.heap.objs.size (.lst [])=H3 at I3 w0 turn;have Wg:s.heap.objs.size < s3.heap.objs.size:=by rw[e3h,xK];exact kU _
 have hk3:∀b o,s.heap.get? b=some o->s3.heap.get? b=some o:=λb o e=>by rw[e3h];exact zU _ e
 generalize s.heap.objs.size=D at *;have f3:∀b∈fp,bZ X pins H3 b:=λb hb=>by
  obtain⟨f0,f⟩:=hf b hb;refine⟨?_,f⟩;rw[<- hH3,aB (yS (WV b hb))];exact f0
 have st3:tn 0 s3.heap:=T.keep _ _ _ st λb _ o e=>hk3 b o e;refine Ey λh4 XU hkp YD=>?_;dsimp only;have I4:=L3 (N:=N) (σ':=σ') (fp:=fp) I3 f3 (λb hb=>Zf (WV b hb) Wg) hk W3 XU hkp YD aaY Zn hlen s3.toks;have fC:∀H',H' s3.heap.objs.size=none->bZ X pins H' s3.heap.objs.size:=λH' hn=>I3.Xc (yN _) hn;obtain⟨hg,htt,Z8⟩:=hY fp s3 H3;have efp:∀b∈fp,∀H':Hp,H' b=none->bZ (bb X scope N fp s3 H3) [] H' b:=λb hb H' hn=>by
  refine⟨hn,(I4.ok.exf b hb).1,I4.ok.Ye b hb,.inl hb,(I4.ok.exf b hb).2,λp hp=>?_⟩;cases hp
 have loop:codeAny (model X.prog X.w) X.A (.compLoop (.ListComp elt [⟨tg,iter,ifs,0⟩] scope pos) 0 (.ref it) (.ref D) (gg X scope s3.heap.objs.size)) (FU X pins σ Q (.ref D) s3.heap.objs.size) { s3 with heap:=h4 }:=by
  refine Bl (λn s'=>∃i σ' H',Inv (bb X scope N fp s3 H3) [] σ' H' s'/\tn i s'.heap/\(∀b∈fp,H' b=none)/\W i n σ' H') ?_ m0
   ⟨0,σ',H3,I4,T.keep _ _ _ st3 λb _ o e=>hkp b o e,λb hb=>(f3 b hb).1,w0⟩
  rintro n s5 ⟨i,σ5,H5,I5,st5,fr5,w5⟩;rcases turn i n σ5 H5 w5 with ⟨stop,q⟩|⟨go,step⟩
  ·refine cM (T.done (bb X scope N fp s3 H3) rfl rfl rfl hc i [] s5 σ5 H5 _ I5 (λb hb=>efp b hb H5 (fr5 b hb)) st5 stop) λr s6 ⟨hr,I6⟩=>?_;subst hr;obtain⟨m,hn6,_⟩:=I6.loc;refine⟨D,H5,m,rfl,rfl,I3.Y4 I6.os I6.base I6.Wb I6.bare (λb hb=>?_),hn6,fC H5 I6.free,q⟩;obtain⟨f0,f1,f2,f4,f5,f6⟩:=f3 b hb;exact⟨f4,f1,f5,f6⟩
  ·refine cM (T.item (bb X scope N fp s3 H3) rfl rfl rfl hc i [] s5 σ5 H5 _ I5 (λb hb=>efp b hb H5 (fr5 b hb)) st5 go) λr s6 ⟨u,hr,h6⟩=>?_;subst hr;refine cM h6 λ_ s7 ⟨x,H7,I7,r7,y7,st7,fr7⟩=>?_;have I7':=I7.pinned (λb hb=>efp b hb H7 (fr7 b hb)) (T.obj _ _ st7);have again:∀ {pl:List (Addr×Obj)}{σ9:St}{H9:Hp}{s9:Shared}{n':Nat},Inv (bb X scope N fp s3 H3) ([]++qd fp s7.heap) σ9 H9 s9->W (i+1) n' σ9 H9->∃i σ' H',Inv (bb X scope N fp s3 H3) [] σ' H' s9/\tn i s9.heap/\(∀b∈fp,H' b=none)/\W i n' σ' H':=λ{pl σ9 H9 s9 n'} I9 w9=>by
    refine⟨i+1,σ9,H9,I9.Wi,T.keep _ _ _ st7 λb hb o e=>(I9.pin (b,o) (yE _ (yE _ (ej hb e)))).1,λb hb=>?_,w9⟩;obtain⟨o,e,d⟩:=T.obj _ _ st7 b hb;exact (I9.pin (b,o) (yE _ (yE _ (ej hb e)))).2.1
   refine cM (hg _ s7 σ5 H7 x u _ I7' r7 (step x H7 y7)) λ_ s8 ⟨σ8,H8,I8,q8⟩=>?_;refine cM (htt _ s8 σ8 H8 _ I8 q8) λok s9 ⟨H9,I9,q9⟩=>?_;cases ok with
   | false =>
    rw[yO (by decide)] at q9;rw[yO (by decide)];obtain⟨m',hm,w9⟩:=q9;exact⟨m',hm,again (pl:=[]) I9 w9⟩
   | true =>
    rw[yM rfl] at q9;rw[yM rfl];refine cM (Z8 _ s9 σ8 H9 _ I9 q9) λy s10 ⟨v,H10,I10,r10,ys,adA,hz,m',hm,w10⟩=>?_;refine cM (yp (X:=bb X scope N fp s3 H3) _ s10 σ8 H10 (.ref D) [v] (.ref D) [y] (λ_ H'=>W (i+1) m' σ8 H') I10 rfl (.cons r10 .nil) ⟨D,ys,v,rfl,rfl,adA,hz,w10⟩) λ_ s11 ⟨_,H11,I11,_,w11⟩=>?_;exact⟨m',hm,again (pl:=[]) I11 w11⟩
 exact codeAny_compStart_list loop (T.self _ 0 _ _ _ (T.keep _ _ _ st3 λb _ o e=>hkp b o e) loop)
end
def Lg(wi:TI)(g:TG)(tt:TT)(te:TE)(WE:St->St):TE:=λσ H Q=>wi σ H λJ H1=>∀D,H1 D=none->Jt J g tt te D (WE σ) (upd H1 D (.lst [])) Q
structure iX(X:Cx)(scope:Scope)(N:List Str)(WE:St->St):Prop where
 kind:scope.kind=.function
 free:∀x∈scope.names,x.2=.free->X.env.kindOf x.1=some .cell\/X.env.kindOf x.1=some .free
 dup:∀ {x:Str},(x,NameKind.cell)∈scope.names->(x,NameKind.free)∈scope.names->False
 loc:∀x∈scope.names,x.2=.local -> scope.names.lookup x.1=some .local
 cap:∀ (σ:St) (i:Nat) (x:Str) (v:V),N[i]?=some x->(WE σ)[i]?=some (some v)->scope.names.lookup x=some .free/\∃j:Nat,X.N[j]?=some x/\σ[j]?=some (some v)
 len:∀σ:St,(WE σ).length=N.length
section
variable {X:Cx}{scope:Scope}{N:List Str}{WE:St->St}{tg iter elt:Expr}{ifs:List Expr}{pos:Pos}{wi:TI}{g:TG}{tt:TT}{te:TE}
def ML(hc:X.calm=true)(S:iX X scope N WE)(hi:PI X tg iter wi)
  (hY:∀fp s H,PG (bb X scope N fp s H) tg g/\RU (bb X scope N fp s H) ifs tt/\PE (bb X scope N fp s H) elt te)
  (hs:∀x,foldedSetIterable iter X.env x=pure x:=by intro _;rfl):PE X (.ListComp elt [⟨tg,iter,ifs,0⟩] scope pos) (Lg wi g tt te WE):=by
 intro pins s σ H Q I h;rw[eval_ListComp];refine wpAny_comprehension_free (use:=none) rfl hs (kg (jx I.ok S.free)) S.kind S.loc (cM (hi pins s σ H _ I h) λv s1 h1=>cM h1 λitv s2 h2=>?_);obtain⟨it,fp,tn,J,H2,e,I2,T,Yh,f2,rd⟩:=h2;subst e;refine cM (ze (iter:=iter) (pos:=pos) (E:=X.xe) hc I2 T Yh f2 S.kind S.free S.dup (S.cap σ) (S.len σ) hY rd) λacc s3 h3=>cM h3 λZq s4 h4=>?_;refine jT h4 λr s5 h5=>?_;obtain⟨D,H5,m,rfl,rfl,I5,hn,fC,q⟩:=h5;refine⟨m,hn,λh' sb=>?_⟩;obtain⟨f0,f1,XW,f3,f4,f5⟩:=fC;exact⟨.ref D,H5,I5.turned (t':=s5.toks) (λb o hb e=>(sb.2 b hb).trans e) f0 f1 f3 f4 f5,rfl,q⟩
def Oh(hc:X.calm=true)(S:iX X scope N WE)(hi:PI X tg iter wi)
  (hY:∀fp s H,PG (bb X scope N fp s H) tg g/\RU (bb X scope N fp s H) ifs tt/\PE (bb X scope N fp s H) elt te)
  (hN:X.N.Nodup) (hiy:X.N[i]?=some y) (hy:X.env.scope.names.lookup y=some .local)
  (hsw:swapsWith (.ListComp elt [⟨tg,iter,ifs,0⟩] scope pos) (some (.Name y py)) Xo.line X.env=pure true)
  (hs:∀x,foldedSetIterable iter X.env x=pure x:=by intro _;rfl):PS X (.Assign [.Name y py] (.ListComp elt [⟨tg,iter,ifs,0⟩] scope pos) Xo) (KN (Lg wi g tt te WE) (BQ i)):=by
 intro pins s σ H D I h;rw[exec_Assign_Name_used _ _ _ _ hsw];refine zV (vI (zV ?_));show wpAny _ X.A (do let _ <- comprehension (.ListComp elt [⟨tg,iter,ifs,0⟩] scope pos) scope X.env _ (newList []) false (eval iter X.env) (some (assign (.Name y py) X.env))) _ _ s;refine zV (xB (wpAny_comprehension_free (use:=some (assign (.Name y py) X.env)) (Q:=λ_ s'=>SP X pins D .next s') rfl hs (kg (jx I.ok S.free)) S.kind S.loc
  (cM (hi pins s σ H _ I h) λv s1 h1=>cM h1 λitv s2 h2=>?_)) (λ_ s' hq=>zW (zW hq)) λ_ _ e=>e)
 obtain⟨it,fp,tn,J,H2,e,I2,T,Yh,f2,rd⟩:=h2;subst e;refine cM (ze (iter:=iter) (pos:=pos) (E:=X.xe) hc I2 T Yh f2 S.kind S.free S.dup (S.cap σ) (S.len σ) hY rd) λacc s3 h3=>cM h3 λZq s4 h4=>?_;refine jT h4 λr s5 h5=>?_;obtain⟨D',H5,m,rfl,rfl,I5,hn,fC,q⟩:=h5;show wpAny _ X.A (assign (.Name y py) X.env (.ref D')) _ _ _;refine wpAny_assign_Name (qs (v:=.ref D') I5 hN hiy (.inl hy) rfl (λs6 I6 ⟨a,sa,ha⟩=>?_) (.inr hy));obtain⟨f0,f1,XW,f3,f4,f5⟩:=fC;have Wz:Zq.locals≠a:=by
  rcases ha with z|z
  ·rw[z];exact f1
  ·exactλw=>f4 y a z w.symm
 refine⟨m,hn.sameBut sa Wz,λh' sb=>?_⟩;exact⟨_,H5,I6.turned (t':=s6.toks) (λb o hb e=>(sb.2 b hb).trans e) f0 f1 f3 f4 f5,q⟩
end
abbrev Ur(X:Cx)(qual:Str)(scope:Scope)(f c L:Addr):Env:=W.envX qual scope L f (.ref c) (fQ X.env scope.names [])
def gE(X:Cx)(A:Around)(qual:Str)(scope:Scope)(N:List Str)(f c:Addr)(s:Shared)(H:Hp):Cx where
 prog:=X.prog
 w:=X.w
 K:=X.K
 mg:=X.mg
 base:=X.base
 A:=A.deeper (Ur X qual scope f c s.heap.objs.size)
 N:=N
 Wf:=s
 V8:=H
 env:=Ur X qual scope f c s.heap.objs.size
 outer:=X.stack
 stack:=Ur X qual scope f c s.heap.objs.size::X.stack
 ex:=[]
 fn:=λ_=>false
 calm:=true
 pn:=[]
 xe:=λ_ _=>False
section
def Om(I:Inv X pins σ H s)(hd:A.handled=none)(hA:A.frames=some X.stack)(S:iX X scope N WE)(ZJ:∀x∈scope.names,x.2≠.cell)(hN0:N[0]?=some p)(hp:scope.names.lookup p=some .local)(hNd:N.Nodup)(r:RelV v u)
  (XU:h1.Ns s.heap.objs.size (λx=>[(p,u)].reverse.lookup x)) (W7:∀b o,s.heap.get? b=some o->h1.get? b=some o) (t':Nat) :
  Inv (gE X A qual scope N f c s H) [] ((WE σ).set 0 (some v)) H { s with heap:=h1,toks:=t' }:=by
 have W8:=jx I.ok S.free;have clx:∀x c,(fQ X.env scope.names []).lookup x=some c->X.env.cells.lookup x=some c:=λx c e=>mK W8 (λ_ _ z=>by cases z) x c (mem_of_lookup e);have ZI:∀b:Addr,b∉(gE X A qual scope N f c s H).ex:=λb z=>absurd (show b∈([]:List Addr) from z) (by simp);refine⟨⟨I.ok.mod,S.kind,rfl,rfl,yN _,λx y d e1 e2=>I.ok.inj x y d (clx x d e1) (clx y d e2),λx hx=>?_,λx d z=>?_,λ_=>hd,Around.frames_deeper hA,.inr ⟨rfl,rfl⟩,λb z=>absurd z (ZI b),I.bs,yD I.ok.Y2 I.sz,λb _ _=>ZI b,λb z=>absurd z (ZI b),I.stack,I.W2⟩,
  rfl,I.bare,Un.kept W7,⟨_,XU,λi x w e1 e2 e3=>?_⟩,λx d e=>?_,I.Wb.fresh (yN _),λx d e=>I.Wh x d (clx x d e),λq hq=>absurd (show q∈([]:List (Addr×Obj)) from hq) (by simp),I.Wb.kept W7,?_⟩
 ·rcases hx with hx|hx
  ·exact absurd rfl (ZJ _ (mem_of_lookup (show scope.names.lookup x=some .cell from hx)))
  ·exact iq (.inl hx)
 ·cases z
 ·cases i with
  | zero =>
   have e1:N[0]?=some x:=e1;rw[hN0] at e1;cases e1;have hl:0 < (WE σ).length:=by rw[S.len];exact (List.getElem?_eq_some_iff.mp hN0).1
   rw[vU hl] at e2;cases e2;exact⟨u,r,.inl ⟨hp,by simp⟩⟩
  | succ i =>
   have e2':(WE σ)[i+1]?=some (some w):=by
    rw[kY (by lia)] at e2;exact e2
   obtain⟨YX,j,hj,hv⟩:=S.cap σ (i+1) x w e1 e2';have hm:(x,NameKind.free)∈scope.names:=mem_of_lookup YX;obtain⟨m,hn,hl⟩:=I.loc;have kx:=S.free _ hm rfl;obtain⟨u',ru,lk⟩:=hl j x w hj hv (kx.elim (λk=>.inr (.inl k)) λk=>.inr (.inr k));refine⟨u',ru,.inr ⟨.inr YX,?_⟩⟩;rcases lk with ⟨k,_⟩|⟨_,c',ec,ic⟩
   ·have k:X.env.kindOf x=some .local:=k;rcases kx with k'|k'<;>· rw[k] at k';cases k'
   ·obtain⟨c'',Xj⟩:=iq (env:=X.env) (acc:=[]) (.inl YX);have e':=clx x c'' Xj;rw[ec] at e';cases e';exact⟨c',Xj,ic.keeps W7⟩
 ·obtain⟨w,q⟩:=I.cell x d (clx x d e);exact⟨w,q.keeps W7⟩
 ·rw[yC];exact S.len σ
def CH(I:Inv X pins σ H s)(hr:eR (k+1) A)(hA:A.frames=some X.stack)(S:iX X scope N WE)(ZJ:∀x∈scope.names,x.2≠.cell)
  (hN0:N[0]?=some p) (hp:scope.names.lookup p=some .local) (hNd:N.Nodup) (YD:scope.isCoroutine=false) (Zr:scope.isGenerator=false)
  (hf:s.heap.get? f=some (W.kla_obj name qual params body scope (fQ X.env scope.names []) pm c Xv)) (Zs:H c=some (.Yw qual)) (hb:bindArgs (W.kla_fn name qual params body scope (fQ X.env scope.names []) pm (.ref c) Xv) ⟨[u],[]⟩=pure [(p,u)])
  (r:RelV v u) (hY:PE (gE X A qual scope N f c s H) body te) (q:te ((WE σ).set 0 (some v)) H Q) :
  wpAny (model X.prog X.w) A (call (.ref f) [u]) (EP X pins σ Q) (λ_ _=>False) s:=by
 have WS:s.heap.CodeRec (.ref c) qual:=I.Wb c _ Zs;refine vP (W.kla_callFunE hr.depth hf rfl YD Zr rfl WS ?_);rw[hb];refine zW (wpAny_newFunctionEnv ZJ (λy hy=>?_) (λh1 XU hsb=>⟨?_,?_⟩) S.kind)
 ·rw[List.mem_singleton.mp hy];exact hp
 ·exact I.nolimit.fresh _ hsb
 ·have hk1:∀b o,s.heap.get? b=some o->h1.get? b=some o:=λb o e=>hsb.extBut b o (yS (zY e)) (zU _ e);have I1:=Om (qual:=qual) (f:=f) (c:=c) I hr.hd hA S ZJ hN0 hp hNd r XU hk1 (s.toks+[(p,u)].length);refine W.kla_codeExpr (xB (hY [] _ _ H Q I1 q) (λw s' ⟨v',H',I',r',q'⟩=>?_) λe s' h=>False.elim h);exact⟨v',H',I.Y4 I'.os I'.base I'.Wb I'.bare (λb z=>absurd (show b∈([]:List Addr) from z) (by simp)),r',q'⟩
end
def EJ{pos:Pos}(l:List Value)(h:TriplesOk l)(e:codeAmong pos' (l++[rawInt pos.line,rawInt pos.col,c])=some v):codeAmong pos' l=some v\/v=c:=by
 fun_induction TriplesOk l with
 | case1 =>
  simp only[xP,codeAmong,rawInt] at e;split at e
  ·cases e;exact .inr rfl
  ·cases e
 | case2 a t b u x rest ih =>
  simp only[xG,codeAmong] at e ⊢;split at e
  ·rename_i hc;rw[yM hc];exact .inl e
  ·rename_i hc;rw[yO hc];exact ih h e
 | case3 l h1 h2=>exact h.elim
section
def CK(I:Inv X pins σ H s)(S:iX X scope N WE)(hq:X.env.qual++"<lambda>"=qual)(XG:X.env.code=.ref c)(C:W.CodeHd X.base c P)(hT:H P=some (.tab qual))(hB:TK X.mg X.base)
  (Zt:defaultsOf params X.env=([],[]))
  (h:∀ (f c':Addr) (pm Xv:Value) (s':Shared) (H':Hp),Inv X pins σ H' s'->s'.heap.get? f=some (W.kla_obj "<lambda>" qual params body scope (fQ X.env scope.names []) pm c' Xv)->H' f=none->H' c'=some (.Yw qual)->aS H H'->bZ X pins H' f->(∀b,H' b≠none->H b≠none\/H' b=some (.Yw qual))->Q (.ref f) s') :
  wpAny (model X.prog X.w) X.A (eval (.Lambda params body scope WK) X.env) Q X.xe s:=by
 have W8:=kg (jx I.ok S.free);have hCs:=C.keeps I.bk;have hg:s.heap.Ns mainGlobals X.mg:=by
  obtain⟨o,es,ep,e,r⟩:=I.ok.mod.glob;exact⟨o,es,ep,I.bk _ _ e,r⟩
 have hPn:X.base.get? P=none:=by
  cases e:X.base.get? P with
  | none=>rfl
  | some o=>rw[(I.bs P o e).2] at hT;cases hT
 obtain⟨ps,hP,ht,YD⟩:=I.Wb P _ hT;have hb:s.heap.BuiltinsAt X.mg P:=by
  obtain⟨bm,o,b1,b2,b3,b4,b5⟩:=hB;exact⟨bm,o,b1,b2,b3,(λz=>by rw[z,hPn] at b4;cases b4),I.bk _ _ b4,b5⟩
 refine W.kla_eval Zt ?_;rw[hq];cases hf:codeAmong WK ps.toList with
 | some cv =>
  obtain⟨c',rfl,Xj⟩:=YD WK cv hf;refine W.kla_makeFunctionHit W8 I.ok.glob hg XG hCs hP ht hf hb λXv h' tk kp hz=>?_;have kp2:∀b o,s.heap.get? b=some o->(h'.push (W.kla_obj "<lambda>" qual params body scope (fQ X.env scope.names []) ((X.mg "__name__").getD .none) c' Xv)).get? b=some o:=λb o e=>zU _ (kp b o e);have hn:H h'.objs.size=none:=I.Wb.fresh hz;exact h _ c' _ Xv _ H (I.kept (t':=tk) kp2) (zX _ rfl) hn Xj (.refl _) (I.Xc hz hn) λb z=>.inl z
 | none =>
  have hgP:mainGlobals≠P:=λz=>by
   obtain⟨o,es,ep,e,r⟩:=I.ok.mod.glob;rw[z,hPn] at e;cases e
  refine W.kla_makeFunction W8 I.ok.glob hg XG hCs hP ht hf hgP hb λc' Xv h' tk hx hc1 Xs hcr Z9=>?_;have hn:H c'=none:=I.Wb.fresh hc1;have hz:s.heap.objs.size<=h'.objs.size:=jU (jA hc1 Xs);have nP:∀ {b:Addr}{u:HO},H b=some u->(∀q,u≠.tab q)->b≠P:=λ{b u} e Wz z=>by subst z;rw[hT] at e;cases e;exact Wz _ rfl
  have kp:∀b o,b≠P->s.heap.get? b=some o->(h'.push (W.kla_obj "<lambda>" qual params body scope (fQ X.env scope.names []) ((X.mg "__name__").getD .none) c' Xv)).get? b=some o:=λb o hb e=>zU _ (hx b o hb e);have hPc:P≠c':=λz=>by rw[<- z,hT] at hn;cases hn
  have up:∀b u,H b=some u->upd H c' (.Yw qual) b=some u:=λb u e=>by rw[aB (aU e hn)];exact e
  have un:Un X.fs [] H (upd H c' (.Yw qual)) s.heap (h'.push (W.kla_obj "<lambda>" qual params body scope (fQ X.env scope.names []) ((X.mg "__name__").getD .none) c' Xv)):=by
   refine⟨λb o e n _ _=>kp b o (λz=>by rw[z,hT] at n;cases n) e,λb o e n _ _=>⟨o.slots,kp b o (λz=>by rw[z,hT] at n;cases n) e⟩,λb o e n _=>?_,λb o e _=>?_,λb xs e=>up b _ e,λb o u e=>up b _ e,⟨λb u e _=>up b u e,λb q ps' e z=>?_⟩⟩
   ·rw[aB (yS (zP (zY e) hc1))];exact n
   ·by_cases hb:b=P
    ·subst hb;exact⟨_,zU _ Z9⟩
    ·exact⟨o,kp b o hb e⟩
   ·by_cases hb:b=P
    ·subst hb;rw[hP] at z;cases z;exact⟨_,zU _ Z9⟩
    ·exact⟨#[],by rw[Array.append_empty];exact kp b _ hb z⟩
  have Wb:pU X.prog X.w (upd H c' (.Yw qual)) (h'.push (W.kla_obj "<lambda>" qual params body scope (fQ X.env scope.names []) ((X.mg "__name__").getD .none) c' Xv)):=by
   intro b u e;by_cases hbc:b=c'
   ·subst hbc;rw[aF] at e;cases e;obtain⟨c0,oc,vs,t,e0,e1,r⟩:=hcr;exact⟨c0,oc,vs,t,e0,zU _ e1,r⟩
   ·rw[aB hbc] at e;by_cases hb:b=P
    ·subst hb;rw[hT] at e;cases e;refine⟨_,zU _ Z9,?_,λpos v hv=>?_⟩
     ·have:=TriplesOk_snoc WK.line WK.col (.ref c') ps.toList ht;simpa using this
     ·have hv':codeAmong pos (ps.toList++[rawInt WK.line,rawInt WK.col,.ref c'])=some v:=by simpa using hv
      rcases EJ ps.toList ht hv' with z|z
      ·obtain⟨c0,z1,z2⟩:=YD pos v z;exact⟨c0,z1,up _ _ z2⟩
      ·exact⟨c',z,aF⟩
    ·exact (I.Wb b u e).WQ (λd o hd eo=>kp d o (by
      rcases hd with rfl|hd
      ·exact hb
      ·exact nP hd λq z=>by cases z) eo) (λd hd=>up d _ hd) λd o hd _=>up d _ hd
  have I':=I.un (t':=tk) un Wb;have hnf:upd H c' (.Yw qual) h'.objs.size=none:=by
   rw[aB (jJ Xs)];exact I.Wb.fresh hz
  refine h _ c' _ Xv _ _ I' (zX _ rfl) hnf aF up (I.Xc hz hnf) λb z=>?_;by_cases hbc:b=c'
  ·subst hbc;exact .inr aF
  ·rw[aB hbc] at z;exact .inl z
end
end L2
namespace Dl
open PySem L2 PySem.Spec PyProof.Rows
variable {gi:Int->Int->Int}
abbrev D:=PyData
mutual
def Rep(K:W.Frag)(H:Hp):D->V->Prop
 | .none,v=>v=.V6
 | .bool b,v=>v=.bl b
 | .int i,v=>v=.int i
 | .str x,v=>v=.str x
 | .tuple ds,v=>∃a vs,v=.ref a/\j5 K H a vs/\ax K H ds vs
 | .list ds,v=>∃a vs,v=.ref a/\iw K H a vs/\ax K H ds vs
 | .dict _,_=>False
def ax(K:W.Frag)(H:Hp):List D->List V->Prop
 | [],vs=>vs=[]
 | d::ds,vs=>∃v r,vs=v::r/\Rep K H d v/\ax K H ds r
end
def aG{K:W.Frag}(e:aS H H')(h:j5 K H a xs):j5 K H' a xs:=by
 rcases h with (h|⟨o,h⟩)|h
 ·exact .inl (.inl (e _ _ h))
 ·exact .inl (.inr ⟨o,e _ _ h⟩)
 ·exact .inr h
mutual
theorem Rep.mono{K:W.Frag}{H H':Hp}(e:aS H H'):∀ {d:D}{v:V},Rep K H d v->Rep K H' d v
 | .none,_,h=>h
 | .bool _,_,h=>h
 | .int _,_,h=>h
 | .str _,_,h=>h
 | .tuple ds,_,h=>by
  simp only[Rep] at h ⊢;obtain⟨a,vs,rfl,q,r⟩:=h;exact⟨a,vs,rfl,aG e q,ax.mono e r⟩
 | .list ds,_,h=>by
  simp only[Rep] at h ⊢;obtain⟨a,vs,rfl,q,r⟩:=h;exact⟨a,vs,rfl,e.seq q,ax.mono e r⟩
 | .dict _,_,h=>h
theorem ax.mono{K:W.Frag}{H H':Hp}(e:aS H H'):∀ {ds:List D}{vs:List V},ax K H ds vs->ax K H' ds vs
 | [],_,h=>h
 | d::ds,_,h=>by
  simp only[ax] at h ⊢;obtain⟨v,r,rfl,a,b⟩:=h;exact⟨v,r,rfl,Rep.mono e a,ax.mono e b⟩
end
section
variable {K:W.Frag}
def ax.nil:ax K H [] []:=by simp[ax]
def ax.cons(a:Rep K H d v)(b:ax K H ds vs):ax K H (d::ds) (v::vs):=by
 simp only[ax];exact⟨v,vs,rfl,a,b⟩
def ax.cons_inv(h:ax K H (d::ds) vs):∃v r,vs=v::r/\Rep K H d v/\ax K H ds r:=by simpa only[ax] using h
def ax.nil_inv(h:ax K H [] vs):vs=[]:=by simpa only[ax] using h
def ax.length:∀ {ds:List D}{vs:List V},ax K H ds vs->vs.length=ds.length
 | [],_,h=>by rw[h.nil_inv];rfl
 | d::ds,_,h=>by obtain⟨v,r,rfl,_,b⟩:=h.cons_inv;simp[ax.length b]
def ax.get:∀ {ds:List D}{vs:List V}{i:Nat}{v:V},ax K H ds vs->vs[i]?=some v->∃d,ds[i]?=some d/\Rep K H d v
 | [],_,i,v,h,e=>by rw[h.nil_inv] at e;simp at e
 | d::ds,_,i,v,h,e=>by
  obtain⟨v',r,rfl,a,b⟩:=h.cons_inv;cases i with
  | zero=>simp at e;subst e;exact⟨d,rfl,a⟩
  | succ i=>simp at e;obtain⟨d',h1,h2⟩:=ax.get b e;exact⟨d',by simpa using h1,h2⟩
def ax.getD:∀ {ds:List D}{vs:List V}{i:Nat}{d:D},ax K H ds vs->ds[i]?=some d->∃v,vs[i]?=some v/\Rep K H d v
 | [],_,i,d,h,e=>by simp at e
 | d::ds,_,i,d',h,e=>by
  obtain⟨v',r,rfl,a,b⟩:=h.cons_inv;cases i with
  | zero=>simp at e;subst e;exact⟨v',rfl,a⟩
  | succ i=>simp at e;obtain⟨v,h1,h2⟩:=ax.getD b e;exact⟨v,by simpa using h1,h2⟩
def ax.append:∀ {ds es:List D}{vs us:List V},ax K H ds vs->ax K H es us->ax K H (ds++es) (vs++us)
 | [],_,_,_,h,g=>by rw[h.nil_inv];exact g
 | d::ds,_,_,_,h,g=>by obtain⟨v,r,rfl,a,b⟩:=h.cons_inv;exact ax.cons a (ax.append b g)
def ax.take:∀ {ds:List D}{vs:List V}(n:Nat),ax K H ds vs->ax K H (ds.take n) (vs.take n)
 | [],_,n,h=>by rw[h.nil_inv];simp[ax]
 | d::ds,_,0,h=>by simp[ax]
 | d::ds,_,n+1,h=>by obtain⟨v,r,rfl,a,b⟩:=h.cons_inv;exact ax.cons a (ax.take n b)
def ax.drop:∀ {ds:List D}{vs:List V}(n:Nat),ax K H ds vs->ax K H (ds.drop n) (vs.drop n)
 | [],_,n,h=>by rw[h.nil_inv];simp[ax]
 | d::ds,_,0,h=>h
 | d::ds,_,n+1,h=>by obtain⟨v,r,rfl,a,b⟩:=h.cons_inv;exact ax.drop n b
end
structure bX(HF H V9 H':Hp):Prop where
 hh:aS H H'
 ff:aS HF V9
 fh:aS V9 H'
 nw:∀a o,V9 a=some o->HF a=some o\/H a=none
def bX.refl(s:aS HF H):bX HF H HF H:=⟨.refl _,.refl _,s,λ_ _ e=>.inl e⟩
def bX.trans(a:bX HF H Wa H1)(b:bX Wa H1 Wu H2):bX HF H Wu H2 :=
 ⟨a.hh.trans b.hh,a.ff.trans b.ff,b.fh,λx o e=>(b.nw x o e).elim (λz=>a.nw x o z) λz=>.inr (a.hh.free z)⟩
def eJ(h:H p=none):aS H (upd H p o):=λb u e=>by rw[aB (aU e h)];exact e
def bX.new(s:aS HF H)(h:H p=none):bX HF H (upd HF p o) (upd H p o):=by
 have hf:HF p=none:=s.free h;refine⟨eJ h,eJ hf,λb u e=>?_,λb u e=>?_⟩
 ·by_cases hb:b=p
  ·subst hb;rw[aF] at e ⊢;exact e
  ·rw[aB hb] at e ⊢;exact s b u e
 ·by_cases hb:b=p
  ·subst hb;exact .inr h
  ·rw[aB hb] at e;exact .inl e
def bX.own(s:aS HF H)(h:H p=none):bX HF H HF (upd H p o) :=
 ⟨eJ h,.refl _,λb u e=>by rw[aB (aU (s b u e) h)];exact s b u e,λ_ _ e=>.inl e⟩
def bX.freeze(g:bX HF H Wa H1)(h:H p=none)(h1:H1 p=some o)(hf:Wa p=none):bX HF H (upd Wa p o) H1 :=
 ⟨g.hh,g.ff.trans (eJ hf),λb u e=>by
  by_cases hb:b=p
  ·subst hb;rw[aF] at e;rw[h1,<- e]
  ·rw[aB hb] at e;exact g.fh b u e,λb u e=>by
  by_cases hb:b=p
  ·subst hb;exact .inr h
  ·rw[aB hb] at e;exact g.nw b u e⟩
def lW:List Str:=["ways_of","turned_order","fairest"]
def fK(K:W.Frag)(HF:Hp):Prop:=∀ (f:Addr) (oc:Value) (od:Option Addr) (fd:FuncData) (sl:Array (Option Value)) (c P:Addr),K.lookup f=some ⟨oc,od,.func fd,sl⟩->fd.qualname∈lW->fd.code=.ref c->W.codeHdIn K c P=true->HF P=some (.tab (fd.qualname++".<locals>."++"<lambda>"))
def fK.mono{K:W.Frag}(h:fK K HF)(e:aS HF V9):fK K V9:=λf oc od fd sl c P a b d q=>e _ _ (h f oc od fd sl c P a b d q)
abbrev Env:=List (Option D)
structure dq(K:W.Frag)(HF:Hp)(ρ:Env)(σ:L2.St):Prop where
 get:∀ (i:Nat) (d:D),ρ[i]?=some (some d)->∃v,σ[i]?=some (some v)/\Rep K HF d v
 len:ρ.length<=σ.length
 tb:fK K HF
def dq.mono{K:W.Frag}(h:dq K HF ρ σ)(e:aS HF V9):dq K V9 ρ σ:=⟨λi d q=>let ⟨v,a,b⟩:=h.get i d q;⟨v,a,b.mono e⟩,h.len,h.tb.mono e⟩
def tD(K:W.Frag)(f:Env->Option D):TE:=λσ H Q=>∃HF ρ d,aS HF H/\dq K HF ρ σ/\f ρ=some d/\∀v H' V9,bX HF H V9 H'->Rep K V9 d v->Q v H'
def DE(X:Cx)(e:Expr)(f:Env->Option D):Prop:=PE X e (tD X.K f)
def tF(K:W.Frag)(f:Env->Option (List D)):TE:=λσ H Q=>∃HF ρ ds,aS HF H/\dq K HF ρ σ/\f ρ=some ds /\
 ∀a vs H' V9,bX HF H V9 H'->H a=none->V9 a=none->H' a=some (.lst vs)->ax K V9 ds vs->Q (.ref a) H'
def DF(X:Cx)(e:Expr)(f:Env->Option (List D)):Prop:=PE X e (tF X.K f)
def RO(K:W.Frag)(f:Env->Option Bool):TT:=λσ H Q=>∃HF ρ b,aS HF H/\dq K HF ρ σ/\f ρ=some b/\∀H' V9,bX HF H V9 H'->Q b H'
def DT(X:Cx)(e:Expr)(f:Env->Option Bool):Prop:=PT X e (RO X.K f)
def U3(K:W.Frag)(f:Env->Option (List D)):TA:=λσ H Q=>∃HF ρ ds,aS HF H/\dq K HF ρ σ/\f ρ=some ds/\∀vs H' V9,bX HF H V9 H'->ax K V9 ds vs->Q vs H'
def DA(X:Cx)(es:List Expr)(f:Env->Option (List D)):Prop:=PA X es (U3 X.K f)
section
def bf(h:PE X e t)(i:∀σ H Q,t' σ H Q->t σ H Q):PE X e t':=λpins s σ H Q I q=>h pins s σ H Q I (i σ H Q q)
def AB(h:PT X e t)(i:∀σ H Q,t' σ H Q->t σ H Q):PT X e t':=λpins s σ H Q I q=>h pins s σ H Q I (i σ H Q q)
def Ft(h:PA X e t)(i:∀σ H Q,t' σ H Q->t σ H Q):PA X e t':=λpos pins s σ H Q I q=>h pos pins s σ H Q I (i σ H Q q)
def bs(h:x.bind f=some b):∃a,x=some a/\f a=some b:=by
 cases x with
 | none=>cases h
 | some a=>exact⟨a,rfl,h⟩
def DF.de(h:DF X e f):DE X e (λρ=>(f ρ).map PyData.list):=bf h λσ H Q ⟨HF,ρ,d,sm,eo,hf,q⟩=>by
 have hf:(f ρ).map PyData.list=some d:=hf;cases e1:f ρ with
 | none=>rw[e1] at hf;cases hf
 | some ds =>
  rw[e1] at hf;obtain rfl:PyData.list ds=d:=xE hf;refine⟨HF,ρ,ds,sm,eo,e1,λa vs H' V9 g ha ZK h' r=>q _ _ (upd V9 a (.lst vs)) (g.freeze ha h' ZK) ?_⟩;simp only[Rep];exact⟨a,vs,rfl,.inl (.inl aF),r.mono (eJ ZK)⟩
def ae(i:Nat):Env->Option D:=λρ=>(ρ[i]?).getD none
def QV(i:Nat)(hN:X.N[i]?=some x)(hv:NT X.env.scope x)(hd:(x == ("__debug__":Str))=false:=by decide)(WS:(x == ("__classdict__":Str))=false:=by decide):DE X (.Name x pos) (ae i) :=
 bf (l4 hN hv hd WS) λσ H Q ⟨HF,ρ,d,sm,eo,hf,q⟩=>by
  have hf:(ρ[i]?).getD none=some d:=hf;cases e:ρ[i]? with
  | none=>rw[e] at hf;cases hf
  | some o =>
   rw[e] at hf;have hf:o=some d:=hf;subst hf;obtain⟨v,a,b⟩:=eo.get i d e;exact⟨v,a,q v H HF (.refl sm) b⟩
def fC(d:D):Env->Option D:=λ_=>some d
def QA{i j pos}:DE X (.Constant (.int i) j pos) (fC (.int i)):=bf K1 λσ H Q ⟨HF,ρ,d,sm,eo,hf,q⟩=>by cases hf;exact q _ H HF (.refl sm) (by simp[Rep])
def Se{b j pos}:DE X (.Constant (.bool b) j pos) (fC (.bool b)):=bf JM λσ H Q ⟨HF,ρ,d,sm,eo,hf,q⟩=>by cases hf;exact q _ H HF (.refl sm) (by simp[Rep])
def QJ{j pos}:DE X (.Constant .none j pos) (fC .none):=bf P8 λσ H Q ⟨HF,ρ,d,sm,eo,hf,q⟩=>by cases hf;exact q _ H HF (.refl sm) (by simp[Rep])
def Rh{x j pos}:DE X (.Constant (.str x) j pos) (fC (.str x)):=bf Ji λσ H Q ⟨HF,ρ,d,sm,eo,hf,q⟩=>by cases hf;exact q _ H HF (.refl sm) (by simp[Rep])
def NS(hg:Gl X x)(hm:X.mg x=some (.int i t))(hd:(x == ("__debug__":Str))=false:=by decide):DE X (.Name x pos) (fC (.int i)) :=
 bf (NW (v:=.int i) hg hm ⟨t,rfl⟩ hd) λσ H Q ⟨HF,ρ,d,sm,eo,hf,q⟩=>by cases hf;exact q _ H HF (.refl sm) (by simp[Rep])
def gO(K:W.Frag)(r:R2)(g:D->D->Option D):Prop:=∀HF H x y v1 v2 d Q,aS HF H->Rep K HF x v1->Rep K HF y v2->g x y=some d->(∀v H' V9,bX HF H V9 H'->Rep K V9 d v->Q v H')->r v1 v2 H Q
def f2(g:D->D->Option D)(f1 f2:Env->Option D):Env->Option D:=λρ=>(f1 ρ).bind λx=>(f2 ρ).bind λy=>g x y
def N6{X:Cx}{fa fb:Env->Option D}(hr:gO X.K r g):∀σ H Q,tD X.K (f2 g fa fb) σ H Q->Tp r (tD X.K fa) (tD X.K fb) σ H Q:=λσ H Q ⟨HF,ρ,d,sm,eo,hf,q⟩=>by
 obtain⟨x,hx,hf⟩:=bs hf;obtain⟨y,hy,hg⟩:=bs hf;exact⟨HF,ρ,x,sm,eo,hx,λv1 H1 Wa g1 r1=>⟨Wa,ρ,y,g1.fh,eo.mono g1.ff,hy,λv2 H2 Wu g2 r2=>hr Wu H2 x y v1 v2 d Q g2.fh (r1.mono g2.ff) r2 hg λv H' V9 g3 r3=>q v H' V9 ((g1.trans g2).trans g3) r3⟩⟩
def CN(ho:jc X (binaryOp op) r)(hr:gO X.K r g)(ha:DE X a fa)(hb:DE X b fb):DE X (.BinOp a op b pos) (f2 g fa fb):=bf (FW ho ha hb) (N6 hr)
def mF(ho:jc X (compareOp op) r)(hr:gO X.K r g)(ha:DE X a fa)(hb:DE X b fb)(hm:behindInMarks op b=false):DE X (.Compare a [op] [b] pos) (f2 g fa fb):=bf (NY ho ha hb hm) (N6 hr)
def xu(C:Int->Int->Prop)[∀i j,Decidable (C i j)](g:Int->Int->D):D->D->Option D
 | .int i,.int j=>if C i j then some (g i j) else none
 | _,_=>none
def Mf{K:W.Frag}{C:Int->Int->Prop}[∀i j,Decidable (C i j)]:gO K (rI C λi j=>.int (gi i j)) (xu C λi j=>.int (gi i j)):=by
 intro HF H x y v1 v2 d Q sm r1 r2 hg q;cases x<;>cases y<;>simp only[xu] at hg<;>try cases hg
 rename_i i j;simp only[Rep] at r1 r2;by_cases hc:C i j
 ·rw[yM hc] at hg;cases hg;exact⟨i,j,r1,r2,hc,q _ H HF (.refl sm) (by simp[Rep])⟩
 ·rw[yO hc] at hg;cases hg
def KU{K:W.Frag}:gO K (Mi λi j=>.int (gi i j)) (xu (λ_ _=>True) λi j=>.int (gi i j)):=by
 intro HF H x y v1 v2 d Q sm r1 r2 hg q;cases x<;>cases y<;>simp only[xu] at hg<;>try cases hg
 rename_i i j;simp only[Rep] at r1 r2;exact⟨i,j,r1,r2,q _ H HF (.refl sm) (by simp[Rep])⟩
def iP{K:W.Frag}{gi:Int->Int->Bool}:gO K (Mi λi j=>.bl (gi i j)) (xu (λ_ _=>True) λi j=>.bool (gi i j)):=by
 intro HF H x y v1 v2 d Q sm r1 r2 hg q;cases x<;>cases y<;>simp only[xu] at hg<;>try cases hg
 rename_i i j;simp only[Rep] at r1 r2;exact⟨i,j,r1,r2,q _ H HF (.refl sm) (by simp[Rep])⟩
noncomputable instance (i j:Int):Decidable (ub i j):=by unfold ub;infer_instance
noncomputable instance (i j:Int):Decidable (Nu i j):=by unfold Nu;infer_instance
end
section
variable {X:Cx}{a b c:Expr}{fa fb fc:Env->Option D}{pos:Pos}{rest:List Expr}
def m9(fa fb:Env->Option D):Env->Option D:=λρ=>(fa ρ).bind fun|.bool true=>fb ρ|.bool false=>some (.bool false)|_=>none
def UW(fa fb:Env->Option D):Env->Option D:=λρ=>(fa ρ).bind fun|.bool true=>some (.bool true)|.bool false=>fb ρ|_=>none
def S7:D->Option D|.bool b=>some (.bool (!b))|_=>none
def QI(fa:Env->Option D):Env->Option D:=λρ=>(fa ρ).bind S7
def P0{op}(h:DE X a fa):DE X (.BoolOp op [a] pos) fa:=Qf h
def Qh(ha:DE X a fa)(hb:DE X (.BoolOp .And (b::rest) pos) fb):DE X (.BoolOp .And (a::b::rest) pos) (m9 fa fb):=bf (Rv ha hb) λσ H Q ⟨HF,ρ,d,sm,eo,hf,q⟩=>by
 obtain⟨x,hx,hf⟩:=bs hf;refine⟨HF,ρ,x,sm,eo,hx,λv1 H1 Wa g1 r1=>?_⟩;cases x<;>try cases hf
 rename_i k;simp only[Rep] at r1;refine⟨k,r1,?_⟩;cases k with
 | true=>exact wc ⟨Wa,ρ,d,g1.fh,eo.mono g1.ff,hf,λv H' V9 g r=>q v H' V9 (g1.trans g) r⟩
 | false=>cases hf;exact sH (q _ H1 Wa g1 (by simp[Rep]))
def SR(ha:DE X a fa)(hb:DE X (.BoolOp .Or (b::rest) pos) fb):DE X (.BoolOp .Or (a::b::rest) pos) (UW fa fb):=bf (L6 ha hb) λσ H Q ⟨HF,ρ,d,sm,eo,hf,q⟩=>by
 obtain⟨x,hx,hf⟩:=bs hf;refine⟨HF,ρ,x,sm,eo,hx,λv1 H1 Wa g1 r1=>?_⟩;cases x<;>try cases hf
 rename_i k;simp only[Rep] at r1;refine⟨k,r1,?_⟩;cases k with
 | false=>exact sH ⟨Wa,ρ,d,g1.fh,eo.mono g1.ff,hf,λv H' V9 g r=>q v H' V9 (g1.trans g) r⟩
 | true=>cases hf;exact wc (q _ H1 Wa g1 (by simp[Rep]))
def Q4(ha:DE X a fa):DE X (.UnaryOp .Not a pos) (QI fa):=bf (QO ha) λσ H Q ⟨HF,ρ,d,sm,eo,hf,q⟩=>by
 obtain⟨x,hx,hf⟩:=bs hf;refine⟨HF,ρ,x,sm,eo,hx,λv1 H1 Wa g1 r1=>?_⟩;cases x<;>try cases hf
 rename_i k;simp only[Rep] at r1;exact⟨k,r1,q _ H1 Wa g1 (by simp[Rep])⟩
def gB:D->Option Bool|.bool b=>some b|_=>none
def fB(f:Env->Option D):Env->Option Bool:=λρ=>(f ρ).bind gB
def Eg:∀σ H (Q:Bool->Hp->Prop),RO X.K (fB f) σ H Q->tD X.K f σ H λx H1=>∃c,x=.bl c/\Q c H1:=λσ H Q ⟨HF,ρ,k,sm,eo,hf,q⟩=>by
 obtain⟨x,hx,hf⟩:=bs hf;refine⟨HF,ρ,x,sm,eo,hx,λv1 H1 Wa g1 r1=>?_⟩;cases x<;>try cases hf
 simp only[Rep] at r1;exact⟨_,r1,q H1 Wa g1⟩
def QZ(h:DE X a f)(he:∀whole,isTrue a X.env whole=(do let v <- whole;standAt a.pos;holding [v] (truthy v)):=by intro _;rfl):DT X a (fB f):=AB (Jd h he) Eg
def l6(ho:jc X (compareOp op) r)(hr:gO X.K r g)(ha:DE X a fa)(hb:DE X b fb)(hm:behindInMarks op b=false):DT X (.Compare a [op] [b] pos) (fB (f2 g fa fb)) :=
 AB (FH ho ha hb hm) λσ H Q h=>N6 hr σ H _ (Eg σ H Q h)
def eV(fa fb:Env->Option Bool):Env->Option Bool:=λρ=>(fa ρ).bind fun|true=>fb ρ|false=>some false
def E6(fa fb:Env->Option Bool):Env->Option Bool:=λρ=>(fa ρ).bind fun|true=>some true|false=>fb ρ
def bH(fa:Env->Option Bool):Env->Option Bool:=λρ=>(fa ρ).map (!·)
variable {ta tb:Env->Option Bool}
def DW(X:Cx)(e:Expr)(f:Env->Option Bool):Prop:=PW X e (RO X.K f)
def Kl(h:PW X e t)(i:∀σ H Q,t' σ H Q->t σ H Q):PW X e t':=λwh pins s σ H Q I q=>h wh pins s σ H Q I (i σ H Q q)
def DW.dt(h:DW X a ta):DT X a ta:=PW.pt h
def Nj(ha:DT X a ta):DW X (.BoolOp .And [a] pos) ta:=Oi ha
def QE(ha:DT X a ta):DW X (.BoolOp .Or [a] pos) ta:=Kj ha
def RN(ha:DT X a ta)(hb:DW X (.BoolOp .And (b::rest) pos) tb):DW X (.BoolOp .And (a::b::rest) pos) (eV ta tb):=Kl (Rj ha hb) λσ H Q ⟨HF,ρ,d,sm,eo,hf,q⟩=>by
 obtain⟨x,hx,hf⟩:=bs hf;refine⟨HF,ρ,x,sm,eo,hx,λH1 Wa g1=>?_⟩;cases x with
 | true=>exact wc ⟨Wa,ρ,d,g1.fh,eo.mono g1.ff,hf,λH' V9 g=>q H' V9 (g1.trans g)⟩
 | false=>cases hf;exact sH (q H1 Wa g1)
def Sb(ha:DT X a ta)(hb:DW X (.BoolOp .Or (b::rest) pos) tb):DW X (.BoolOp .Or (a::b::rest) pos) (E6 ta tb):=Kl (OT ha hb) λσ H Q ⟨HF,ρ,d,sm,eo,hf,q⟩=>by
 obtain⟨x,hx,hf⟩:=bs hf;refine⟨HF,ρ,x,sm,eo,hx,λH1 Wa g1=>?_⟩;cases x with
 | false=>exact sH ⟨Wa,ρ,d,g1.fh,eo.mono g1.ff,hf,λH' V9 g=>q H' V9 (g1.trans g)⟩
 | true=>cases hf;exact wc (q H1 Wa g1)
def P6(ha:DT X a ta):DT X (.UnaryOp .Not a pos) (bH ta):=AB (LJ ha) λσ H Q ⟨HF,ρ,d,sm,eo,hf,q⟩=>by
 have hf:(ta ρ).map (!·)=some d:=hf;cases e:ta ρ with
 | none=>rw[e] at hf;cases hf
 | some k=>rw[e] at hf;cases hf;exact⟨HF,ρ,k,sm,eo,e,λH1 Wa g1=>q H1 Wa g1⟩
def GI(tc:Env->Option Bool)(fa fb:Env->Option D):Env->Option D:=λρ=>(tc ρ).bind fun|true=>fa ρ|false=>fb ρ
def Tg(hc:DT X c ta)(ha:DE X a fa)(hb:DE X b fb):DE X (.IfExp c a b pos) (GI ta fa fb):=bf (B3 hc ha hb) λσ H Q ⟨HF,ρ,d,sm,eo,hf,q⟩=>by
 obtain⟨x,hx,hf⟩:=bs hf;refine⟨HF,ρ,x,sm,eo,hx,λH1 Wa g1=>?_⟩;cases x with
 | true=>exact wc ⟨Wa,ρ,d,g1.fh,eo.mono g1.ff,hf,λv H' V9 g r=>q v H' V9 (g1.trans g) r⟩
 | false=>exact sH ⟨Wa,ρ,d,g1.fh,eo.mono g1.ff,hf,λv H' V9 g r=>q v H' V9 (g1.trans g) r⟩
def lN(g g':D->D->Option D)(fa fb fc:Env->Option D):Env->Option D:=λρ=>(fa ρ).bind λx=>(fb ρ).bind λy=>(g x y).bind fun|.bool true=>(fc ρ).bind λz=>g' y z|.bool false=>some (.bool false)|_=>none
def GB(hr:gO X.K r g)(W9:gO X.K r' g'):∀σ H Q,tD X.K (lN g g' fa fb fc) σ H Q->Fw r r' (tD X.K fa) (tD X.K fb) (tD X.K fc) σ H Q:=λσ H Q ⟨HF,ρ,d,sm,eo,hf,q⟩=>by
 obtain⟨x,hx,hf⟩:=bs hf;obtain⟨y,hy,hf⟩:=bs hf;obtain⟨z,hz,hf⟩:=bs hf;refine⟨HF,ρ,x,sm,eo,hx,λv1 H1 Wa g1 r1=>⟨Wa,ρ,y,g1.fh,eo.mono g1.ff,hy,λv2 H2 Wu g2 r2=>hr Wu H2 x y v1 v2 z _ g2.fh (r1.mono g2.ff) r2 hz λv3 H3 WL g3 r3=>?_⟩⟩;cases z<;>try cases hf
 rename_i k;simp only[Rep] at r3;refine⟨k,r3,?_⟩;have G:=(g1.trans g2).trans g3;cases k with
 | false=>cases hf;exact sH (q _ H3 WL G (by simp[Rep]))
 | true =>
  obtain⟨w,hw,hg⟩:=bs hf;exact wc ⟨WL,ρ,w,G.fh,eo.mono G.ff,hw,λv4 H4 Xd g4 r4=>W9 Xd H4 y w v2 v4 d Q g4.fh (r2.mono (g3.ff.trans g4.ff)) r4 hg λv H' V9 g5 r5=>q v H' V9 ((G.trans g4).trans g5) r5⟩
def JH(ho:jc X (compareOp op) r)(hr:gO X.K r g)(XA:jc X (compareOp Yy) r')(W9:gO X.K r' g')(ha:DE X a fa)(hb:DE X b fb)(hc:DE X c fc)
  (hm:lastMarks [op,Yy] [b,c]=false:=by with_unfolding_all rfl):DE X (.Compare a [op,Yy] [b,c] pos) (lN g g' fa fb fc):=bf (Lb ho XA ha hb hc hm) (GB hr W9)
def KG(ho:jc X (compareOp op) r)(hr:gO X.K r g)(XA:jc X (compareOp Yy) r')(W9:gO X.K r' g')(ha:DE X a fa)(hb:DE X b fb)(hc:DE X c fc)
  (hm:lastMarks [op,Yy] [b,c]=false:=by with_unfolding_all rfl):DT X (.Compare a [op,Yy] [b,c] pos) (fB (lN g g' fa fb fc)) :=
 AB (Mb ho XA ha hb hc hm) λσ H Q h=>GB hr W9 σ H _ (Eg σ H Q h)
def af:Env->Option (List D):=λ_=>some []
def aa(f:Env->Option D)(g:Env->Option (List D)):Env->Option (List D):=λρ=>(f ρ).bind λx=>(g ρ).map (x::·)
def ET:DA X [] af:=Ft fT λσ H Q ⟨HF,ρ,d,sm,eo,hf,q⟩=>by cases hf;exact q [] H HF (.refl sm) ax.nil
def AM(he:DE X e f)(hs:DA X es g)(Xa:starEach (e::es) X.env=(false,eval e X.env)::starEach es X.env:=by rfl):DA X (e::es) (aa f g) :=
 Ft (cK he hs Xa) λσ H Q ⟨HF,ρ,d,sm,eo,hf,q⟩=>by
  obtain⟨x,hx,hf⟩:=bs hf;have hf:(g ρ).map (x::·)=some d:=hf;cases e1:g ρ with
  | none=>rw[e1] at hf;cases hf
  | some xs =>
   rw[e1] at hf;cases hf;exact⟨HF,ρ,x,sm,eo,hx,λv1 H1 Wa g1 r1=>⟨Wa,ρ,xs,g1.fh,eo.mono g1.ff,e1,λvs H2 Wu g2 r2=>q (v1::vs) H2 Wu (g1.trans g2) (ax.cons (r1.mono g2.ff) r2)⟩⟩
variable {es:List Expr}{fs:Env->Option (List D)}
def small(ds:List D):Option (List D):=if ds.length<=sizeLine then some ds else none
def fP{ds es:List D}(h:small ds=some es):es=ds/\ds.length<=sizeLine:=by
 unfold small at h;split at h
 ·cases h;exact⟨rfl,‹_›⟩
 ·cases h
def aA(g:Env->Option (List D)):Env->Option D:=λρ=>(g ρ).bind λds=>(small ds).map PyData.tuple
def cX(g:Env->Option (List D)):Env->Option (List D):=λρ=>(g ρ).bind small
def Ru{x1}(h:DA X es fs):DE X (.Tuple es x1 pos) (aA fs):=bf (Jh h) λσ H Q ⟨HF,ρ,d,sm,eo,hf,q⟩=>by
 obtain⟨ds,hx,hf⟩:=bs hf;have hf:(small ds).map PyData.tuple=some d:=hf;cases e:small ds with
 | none=>rw[e] at hf;cases hf
 | some es' =>
  rw[e] at hf;cases hf;obtain⟨rfl,hz⟩:=fP e;refine⟨HF,ρ,_,sm,eo,hx,λvs H1 Wa g1 r1=>⟨by rw[r1.length];exact hz,λp hp=>q _ _ (upd Wa p (.tup vs)) (g1.trans (.new g1.fh hp)) ?_⟩⟩;simp only[Rep];exact⟨p,vs,rfl,.inl (.inl aF),r1.mono (eJ (g1.fh.free hp))⟩
def Rm(h:DA X es fs):DF X (.List es pos) (cX fs):=bf (Fc h) λσ H Q ⟨HF,ρ,d,sm,eo,hf,q⟩=>by
 obtain⟨ds,hx,hf⟩:=bs hf;obtain⟨rfl,hz⟩:=fP hf;exact⟨HF,ρ,_,sm,eo,hx,λvs H1 Wa g1 r1=>⟨by rw[r1.length];exact hz,λp hp=>q p vs _ Wa (g1.trans (.own g1.fh hp)) (g1.hh.free hp) (g1.fh.free hp) aF r1⟩⟩
def az:D->D->Option D
 | .tuple ds,.int i=>Bv ds i
 | .list ds,.int i=>Bv ds i
 | _,_=>none
def Cy{K:W.Frag}(r:ax K HF ds vs)(h:Bv ds i=some d):∃v,Bv vs i=some v/\Rep K HF d v:=by
 unfold Bv at h ⊢;rw[r.length];obtain⟨j,hj,h⟩:=bs h;obtain⟨v,a,b⟩:=r.getD h;exact⟨v,by rw[hj];exact a,b⟩
def RK{K:W.Frag}:gO K (Vm K) az:=by
 intro HF H x y v1 v2 d Q sm r1 r2 hg q;cases x<;>cases y<;>simp only[az] at hg<;>try cases hg
 ·simp only[Rep] at r1 r2;obtain⟨a,vs,rfl,hs,r⟩:=r1;obtain⟨v,hv,rv⟩:=Cy r hg;exact .inl ⟨a,vs,_,v,rfl,r2,sm.seq hs,hv,q v H HF (.refl sm) rv⟩
 ·simp only[Rep] at r1 r2;obtain⟨a,vs,rfl,hs,r⟩:=r1;obtain⟨v,hv,rv⟩:=Cy r hg;exact .inr (.inl ⟨a,vs,_,v,rfl,r2,aG sm hs,hv,q v H HF (.refl sm) rv⟩)
def Te(ha:DE X a fa)(hb:DE X b fb)(hs:zr b:=by intro _ _;rfl):DE X (.Subscript a b pos) (f2 az fa fb):=bf (S5 Q2 ha hb hs) (N6 RK)
mutual
theorem e8{pins:List (Addr×Obj)}{σ:L2.St}{H HF:Hp}{s:Shared}(I:Inv X pins σ H s)(sm:aS HF H):∀ {d:D}{v:V}{u:Value},Rep X.K HF d v->RelV v u->∃as,Reads s.heap u d as
 | .none,_,_,h,r=>by simp only[Rep] at h;subst h;cases r;exact⟨_,.none⟩
 | .bool b,_,_,h,r=>by simp only[Rep] at h;subst h;cases r;exact⟨_,.bool b⟩
 | .int i,_,_,h,r=>by simp only[Rep] at h;subst h;obtain⟨t,rfl⟩:=r;exact⟨_,.int i t⟩
 | .str i,_,_,h,r=>by simp only[Rep] at h;subst h;obtain⟨t,rfl⟩:=r;exact⟨_,.str i t⟩
 | .tuple ds,_,_,h,r=>by
  simp only[Rep] at h;obtain⟨a,vs,rfl,hs,rr⟩:=h;cases r;obtain⟨its,rv,⟨o,ho,hc,n,hd⟩,_⟩:=I.tuple (aG sm hs);obtain⟨as,q⟩:=qj I sm rr rv;exact⟨as,.tuple ho hc hd (by simpa using q)⟩
 | .list ds,_,_,h,r=>by
  simp only[Rep] at h;obtain⟨a,vs,rfl,hs,rr⟩:=h;cases r;obtain⟨its,rv,pl,_⟩:=I.list (sm.seq hs);obtain⟨o,ho,hc,n,hd⟩:=pl.isList;obtain⟨as,q⟩:=qj I sm rr rv;exact⟨_,.list ho hc hd (by simpa using q)⟩
 | .dict _,_,_,h,r=>by simp only[Rep] at h
theorem qj{pins:List (Addr×Obj)}{σ:L2.St}{H HF:Hp}{s:Shared}(I:Inv X pins σ H s)(sm:aS HF H):∀ {ds:List D}{vs:List V}{us:List Value},ax X.K HF ds vs->aQ vs us->∃as,ReadsAll s.heap us ds as
 | [],_,_,h,r=>by rw[h.nil_inv] at r;cases r;exact⟨_,.nil⟩
 | d::ds,_,_,h,r=>by
  obtain⟨v,vr,rfl,a,b⟩:=h.cons_inv;cases r with
  | cons r rr =>
   obtain⟨as,q⟩:=e8 I sm a r;obtain⟨bs,p⟩:=qj I sm b rr;exact⟨_,.cons q p⟩
end
def Uc(K:W.Frag)(g:D->D->Option Bool):R2:=λv1 v2 H Q=>∃HF x y k,aS HF H/\Rep K HF x v1/\Rep K HF y v2/\g x y=some k/\Q (.bl k) H
def p5{K:W.Frag}:gO K (Uc K g) (λx y=>(g x y).map PyData.bool):=by
 intro HF H x y v1 v2 d Q sm r1 r2 hg q;have hg:(g x y).map PyData.bool=some d:=hg;cases e:g x y with
 | none=>rw[e] at hg;cases hg
 | some k=>rw[e] at hg;cases hg;exact⟨HF,x,y,k,sm,r1,r2,e,q _ H HF (.refl sm) (by simp[Rep])⟩
def OA(x y:D):Option Bool:=if SeqAt.shaped x=true/\SeqAt.shaped y=true then some (PyData.eqv x y) else none
def RL(x y:D):Option Bool:=if SeqAt.shaped x=true/\SeqAt.shaped y=true then some (!PyData.eqv x y) else none
def Km(hu:X.A.units+64 < cLine):jc X (compareOp .Eq) (Uc X.K OA):=by
 intro pins s σ H v1 v2 u1 u2 Q I rx ry h;obtain⟨HF,x,y,k,sm,r1,r2,hg,q⟩:=h;unfold OA at hg;split at hg<;>cases hg;rename_i hh;obtain⟨as,ra⟩:=e8 I sm r1 rx;obtain⟨bs,rb⟩:=e8 I sm r2 ry;exact eq_dataH ra rb hh.1 hh.2 hu ⟨.bl _,H,I,rfl,q⟩
def JL(hu:X.A.units+64 < cLine):jc X (compareOp .NotEq) (Uc X.K RL):=by
 intro pins s σ H v1 v2 u1 u2 Q I rx ry h;obtain⟨HF,x,y,k,sm,r1,r2,hg,q⟩:=h;unfold RL at hg;split at hg<;>cases hg;rename_i hh;obtain⟨as,ra⟩:=e8 I sm r1 rx;obtain⟨bs,rb⟩:=e8 I sm r2 ry;exact ne_dataH ra rb hh.1 hh.2 hu ⟨.bl _,H,I,rfl,q⟩
def items:D->Option (List D)|.tuple ds=>some ds|.list ds=>some ds|_=>none
end
def SQ(K:W.Frag)(n:Nat)(m:List D->Option D):Sp:=λvs H Q _=>∃HF ds d,aS HF H/\fK K HF/\ax K HF ds vs/\ds.length=n/\m ds=some d/\∀v H' V9,bX HF H V9 H'->Rep K V9 d v->Q v H'
structure eB(P:Program)(w:World)(K:W.Frag)(mg:Str->Option Value)(base:Heap)(k:Nat)(x:Str)(n:Nat)(m:List D->Option D):Prop where
 ex:∃ (f:Addr) (fd:FuncData) (ps:List Str),sJ P w K mg base Ml k f fd ps (SQ K n m)/\mg x=some (.ref f)/\W.keepIn K (.ref f)=true/\Binds K fd ps []
def eB.mono{K:W.Frag}(F:eB P w K mg base k x n m)(h:k<=j):eB P w K mg base j x n m:=by
 obtain⟨f,fd,ps,a,b,c,d⟩:=F.ex;exact⟨f,fd,ps,a.mono h,b,c,d⟩
section
def ai(n:Nat)(m:List D->Option D)(fs:Env->Option (List D)):Env->Option D:=λρ=>(fs ρ).bind λds=>if ds.length=n then m ds else none
def Na(F:eB X.prog X.w X.K X.mg X.base k x n m)(hr:eR k X.A)(hg:Gl X x)(ha:DA X (e::es) fs)(WI:(x == ("__debug__":Str))=false:=by decide)
  (he:starEach (e::es) X.env=(false,eval e X.env)::starEach es X.env:=by rfl) (W5:(backTo pos (starEach es X.env)).any (·.1)=false:=by rfl):DE X (.Call (.Name x p) (e::es) [] pos) (ai n m fs):=by
 obtain⟨f,fd,ps,ok,hm,hk,hb⟩:=F.ex;refine bf (Gr (E:=E0) ok hr hg hm hk hb .nil SO ha WI he W5) λσ H Q ⟨HF,ρ,d,sm,eo,hf,q⟩=>?_;obtain⟨ds,hx,hf⟩:=bs hf;split at hf
 ·rename_i hl;exact⟨HF,ρ,ds,sm,eo,hx,λvs H1 Wa g1 r1=>⟨Wa,ds,d,g1.fh,eo.tb.mono g1.ff,by rw[qG];exact r1,hl,hf,λv H' V9 g r=>q v H' V9 (g1.trans g) r⟩⟩
 ·cases hf
def Hj(K:W.Frag)(r:List V->Hp->VK->Prop)(g:List D->Option D):Prop:=∀HF H ds vs d Q,aS HF H->ax K HF ds vs->g ds=some d->(∀v H' V9,bX HF H V9 H'->Rep K V9 d v->Q v H')->r vs H Q
def ba(g:List D->Option D)(fs:Env->Option (List D)):Env->Option D:=λρ=>(fs ρ).bind g
def S0{X:Cx}{fs:Env->Option (List D)}(hs:Hj X.K r g):∀σ H Q,tD X.K (ba g fs) σ H Q->T7 r (U3 X.K fs) σ H Q:=λσ H Q ⟨HF,ρ,d,sm,eo,hf,q⟩=>by
 obtain⟨ds,hx,hf⟩:=bs hf;exact⟨HF,ρ,ds,sm,eo,hx,λvs H1 Wa g1 r1=>hs Wa H1 ds vs d Q g1.fh r1 hf λv H' V9 g2 r2=>q v H' V9 (g1.trans g2) r2⟩
def FG(K:W.Frag)(r:List V->Hp->VK->Prop)(g:List D->Option (List D)):Prop:=∀HF H ds vs es Q,aS HF H->ax K HF ds vs->g ds=some es ->
 (∀a us H' V9,bX HF H V9 H'->H a=none->V9 a=none->H' a=some (.lst us)->ax K V9 es us->Q (.ref a) H')->r vs H Q
def m6(g:List D->Option (List D))(fs:Env->Option (List D)):Env->Option (List D):=λρ=>(fs ρ).bind g
def OQ{X:Cx}{fs:Env->Option (List D)}(hs:FG X.K r g):∀σ H Q,tF X.K (m6 g fs) σ H Q->T7 r (U3 X.K fs) σ H Q:=λσ H Q ⟨HF,ρ,d,sm,eo,hf,q⟩=>by
 obtain⟨ds,hx,hf⟩:=bs hf;exact⟨HF,ρ,ds,sm,eo,hx,λvs H1 Wa g1 r1=>hs Wa H1 ds vs d Q g1.fh r1 hf λa us H' V9 g2 ha ZK h' r2=>q a us H' V9 (g1.trans g2) (g1.hh.free ha) ZK h' r2⟩
structure se(X:Cx)(x:Str)(v:Value):Prop where
 gl:Gl X x
 mg:X.mg x=none
 bt:bootBuiltins x=some v
def ju{id:String}(hc:ft X (.builtin id) r)(hs:Hj X.K r g)(B:se X x (.builtin id))(ha:DA X (e::es) fs)(hn:x≠"__name__":=by decide)(WI:(x == ("__debug__":Str))=false:=by decide)
  (he:starEach (e::es) X.env=(false,eval e X.env)::starEach es X.env:=by rfl) (W5:(backTo pos (starEach es X.env)).any (·.1)=false:=by rfl):DE X (.Call (.Name x p) (e::es) [] pos) (ba g fs) :=
 bf (o6 hc B.gl B.mg B.bt ha hn WI he W5) (S0 hs)
def Kk{id:String}(hc:ft X (.builtin id) r)(hs:FG X.K r g)(B:se X x (.builtin id))(ha:DA X (e::es) fs)(hn:x≠"__name__":=by decide)(WI:(x == ("__debug__":Str))=false:=by decide)
  (he:starEach (e::es) X.env=(false,eval e X.env)::starEach es X.env:=by rfl) (W5:(backTo pos (starEach es X.env)).any (·.1)=false:=by rfl):DF X (.Call (.Name x p) (e::es) [] pos) (m6 g fs) :=
 bf (o6 hc B.gl B.mg B.bt ha hn WI he W5) (OQ hs)
def Ii(hc:ft X (.type T) r)(hs:Hj X.K r g)(B:se X x (.type T))(ha:DA X (e::es) fs)(hn:x≠"__name__":=by decide)(WI:(x == ("__debug__":Str))=false:=by decide)
  (he:starEach (e::es) X.env=(false,eval e X.env)::starEach es X.env:=by rfl) (W5:(backTo pos (starEach es X.env)).any (·.1)=false:=by rfl):DE X (.Call (.Name x p) (e::es) [] pos) (ba g fs) :=
 bf (qf hc B.gl B.mg B.bt ha hn WI he W5) (S0 hs)
def Hg(hc:ft X (.type T) r)(hs:FG X.K r g)(B:se X x (.type T))(ha:DA X (e::es) fs)(hn:x≠"__name__":=by decide)(WI:(x == ("__debug__":Str))=false:=by decide)
  (he:starEach (e::es) X.env=(false,eval e X.env)::starEach es X.env:=by rfl) (W5:(backTo pos (starEach es X.env)).any (·.1)=false:=by rfl):DF X (.Call (.Name x p) (e::es) [] pos) (m6 g fs) :=
 bf (qf hc B.gl B.mg B.bt ha hn WI he W5) (OQ hs)
def fE:D->Option (List D)|.tuple ds=>some ds|.list ds=>some ds|_=>none
def oneOf:List D->Option D|[d]=>some d|_=>none
def fU(h:oneOf ds=some d):ds=[d]:=by
 cases ds with
 | nil=>cases h
 | cons x r=>cases r with
  | nil=>cases h;rfl
  | cons _ _=>cases h
def nW(h:fE d=some ds):d=.tuple ds\/d=.list ds:=by
 cases d<;>cases h
 ·exact .inr rfl
 ·exact .inl rfl
def cg:List D->Option (List D):=λds=>(oneOf ds).bind fE
def iN{ds es:List D}(h:cg ds=some es):ds=[.tuple es]\/ds=[.list es]:=by
 obtain⟨d,h1,h2⟩:=bs h;rw[fU h1];rcases nW h2 with rfl|rfl
 ·exact .inl rfl
 ·exact .inr rfl
def aZ:List D->Option D:=λds=>(cg ds).map λes=>.int es.length
def ag{α β:Type}{x:Option α}{f:α->β}{b:β}(h:x.map f=some b):∃a,x=some a/\f a=b:=by
 cases x with
 | none=>cases h
 | some a=>exact⟨a,rfl,xE h⟩
def MW{K:W.Frag}:Hj K (λxs H Q=>∃p ys,xs=[.ref p]/\(iw K H p ys\/j5 K H p ys)/\Q (.int ys.length) H) aZ:=by
 intro HF H ds vs d Q sm r hg q;obtain⟨es,h1,rfl⟩:=ag hg;rcases iN h1 with rfl|rfl
 all_goals
  obtain⟨v,r',rfl,a,b⟩:=r.cons_inv;rw[b.nil_inv];simp only[Rep] at a;obtain⟨p,us,rfl,h,rr⟩:=a
 ·exact⟨p,us,rfl,.inr (aG sm h),q _ H HF (.refl sm) (by simp[Rep,rr.length])⟩
 ·exact⟨p,us,rfl,.inl (sm.seq h),q _ H HF (.refl sm) (by simp[Rep,rr.length])⟩
def RM(B:se X "len" (.builtin "len"))(ha:DA X [e] fs)(he:starEach [e] X.env=(false,eval e X.env)::starEach [] X.env:=by rfl):DE X (.Call (.Name "len" p) [e] [] pos) (ba aZ fs) :=
 ju Ag MW B ha (by decide) (by decide) he rfl
def JQ{K:W.Frag}:FG K (λxs H Q=>∃p ys,xs=[.ref p]/\(iw K H p ys\/j5 K H p ys)/\∀l,H l=none->Q (.ref l) (upd H l (.lst ys))) cg:=by
 intro HF H ds vs d Q sm r hg q;rcases iN hg with rfl|rfl
 all_goals
  obtain⟨v,r',rfl,a,b⟩:=r.cons_inv;rw[b.nil_inv];simp only[Rep] at a;obtain⟨p,us,rfl,h,rr⟩:=a
 ·exact⟨p,us,rfl,.inr (aG sm h),λl hl=>q l us _ HF (.own sm hl) hl (sm.free hl) aF rr⟩
 ·exact⟨p,us,rfl,.inl (sm.seq h),λl hl=>q l us _ HF (.own sm hl) hl (sm.free hl) aF rr⟩
def MT(B:se X "list" (.type "list"))(ha:DA X [e] fs)(he:starEach [e] X.env=(false,eval e X.env)::starEach [] X.env:=by rfl):DF X (.Call (.Name "list" p) [e] [] pos) (m6 cg fs) :=
 Hg Bo JQ B ha (by decide) (by decide) he rfl
def fM{K:W.Frag}(h:HF l=none)(r:ax K HF ds vs):Rep K (upd HF l (.tup vs)) (.tuple ds) (.ref l):=by
 simp only[Rep];exact⟨l,vs,rfl,.inl (.inl aF),r.mono (eJ h)⟩
def HJ{K:W.Frag}:Hj K (λxs H Q=>∃p ys,xs=[.ref p]/\((iw K H p ys/\∀l,H l=none->Q (.ref l) (upd H l (.tup ys)))\/(j5 K H p ys/\Q (.ref p) H))) (λds=>(cg ds).map PyData.tuple):=by
 intro HF H ds vs d Q sm r hg q;obtain⟨es,h1,rfl⟩:=ag hg;rcases iN h1 with rfl|rfl
 all_goals
  obtain⟨v,r',rfl,a,b⟩:=r.cons_inv;rw[b.nil_inv];have a':=a;simp only[Rep] at a;obtain⟨p,us,rfl,h,rr⟩:=a
 ·exact⟨p,us,rfl,.inr ⟨aG sm h,q _ H HF (.refl sm) a'⟩⟩
 ·exact⟨p,us,rfl,.inl ⟨sm.seq h,λl hl=>q _ _ _ (.new sm hl) (fM (sm.free hl) rr)⟩⟩
def Je(B:se X "tuple" (.type "tuple"))(ha:DA X [e] fs)(he:starEach [e] X.env=(false,eval e X.env)::starEach [] X.env:=by rfl):DE X (.Call (.Name "tuple" p) [e] [] pos) (ba (λds=>(cg ds).map PyData.tuple) fs) :=
 Ii vz HJ B ha (by decide) (by decide) he rfl
def iQ:D->String|.none=>"NoneType" | .bool _=>"bool" | .int _=>"int" | .str _=>"str" | .tuple _=>"tuple" | .list _=>"list" | .dict _=>"dict"
def z8(a b:String):Option Bool:=if ((Value.type a) == (Value.type b))=true then some true else if W.kitMeta b=true then (fastBuiltinMro a).map (·.contains (Value.type b)) else none
def Oc:∀a∈["NoneType","bool","int","str","tuple","list"],z8 a "int"=some (a == "int"||a == "bool"):=by decide +kernel
def J3:∀a∈["NoneType","bool","int","str","tuple","list"],z8 a "bool"=some (a == "bool"):=by decide +kernel
def kit_tuple:∀a∈["NoneType","bool","int","str","tuple","list"],z8 a "tuple"=some (a == "tuple"):=by decide +kernel
def Kb{A:Around}{E:Value->Shared->Prop}(I:Inv X pins σ H s)(sm:aS HF H)(r:Rep X.K HF d v)(rv:RelV v u)
  (e:z8 (iQ d) T=some k) (h:∀tk,Q (.bool k) { s with toks:=tk }):wpAny (model X.prog X.w) A (call (.builtin "isinstance") [u,.type T]) Q E s:=by
 have e':W.kitOne X.K (.type (iQ d)) (.type T)=some k:=e;cases d<;>simp only[Rep] at r
 ·subst r;cases rv;exact W.kia_one W.kitx_none I.XZ True.intro e' (λz=>nomatch z) h
 ·subst r;cases rv;exact W.kia_one W.kitx_bool I.XZ True.intro e' (λz=>nomatch z) h
 ·subst r;obtain⟨t,rfl⟩:=rv;exact W.kia_one W.kitx_int I.XZ True.intro e' (λz=>nomatch z) h
 ·subst r;obtain⟨t,rfl⟩:=rv;exact W.kia_one W.kitx_str I.XZ True.intro e' (λz=>nomatch z) h
 ·obtain⟨a,vs,rfl,hs,rr⟩:=r;cases rv;obtain⟨its,rv,pl,_⟩:=I.list (sm.seq hs);obtain⟨o,ho,hc,n,hd⟩:=pl.isList;exact W.kia_one W.kitx_list I.XZ ⟨o,ho,hc⟩ e' (λz=>nomatch z) h
 ·obtain⟨a,vs,rfl,hs,rr⟩:=r;cases rv;obtain⟨its,rv,⟨o,ho,hc,n,hd⟩,_⟩:=I.tuple (aG sm hs);exact W.kia_one W.kitx_tuple I.XZ ⟨o,ho,hc⟩ e' (λz=>nomatch z) h
def OE(T:String)(f:Env->Option D):Env->Option D:=λρ=>(f ρ).bind λd=>(z8 (iQ d) T).map PyData.bool
def Su(B:se X "isinstance" (.builtin "isinstance"))(C:se X xT (.type T))(h:DE X e f)(hn:xT≠"__name__":=by decide)(hd:(xT == ("__debug__":Str))=false:=by decide)
  (he:starEach [e,.Name xT pT] X.env=(false,eval e X.env)::starEach [.Name xT pT] X.env:=by rfl):DE X (.Call (.Name "isinstance" p) [e,.Name xT pT] [] pos) (OE T f):=by
 have hc:ft X (.builtin "isinstance") (λxs H Q=>∃HF d v k,xs=[v,.ty T]/\aS HF H/\Rep X.K HF d v/\z8 (iQ d) T=some k/\Q (.bl k) H):=by
  intro pins s σ H xs us Q I r h;obtain⟨HF,d,v,k,rfl,sm,rp,hk,q⟩:=h;cases r with
  | cons ra rr =>
   cases rr with
   | cons rb rn =>
    cases rn;cases rb;exact Kb I sm rp ra hk λtk=>⟨.bl k,H,I.tok _,rfl,q⟩
 refine bf (o6 hc B.gl B.mg B.bt (cK h (cK (N7 (v:=.ty T) C.gl C.mg C.bt rfl hn hd) fT) he) (by decide) (by decide) he rfl) λσ H Q ⟨HF,ρ,d,sm,eo,hf,q⟩=>?_;obtain⟨x,hx,hf⟩:=bs hf;obtain⟨k,hk,rfl⟩:=ag hf;exact⟨HF,ρ,x,sm,eo,hx,λv1 H1 Wa g1 r1=>⟨Wa,x,v1,k,rfl,g1.fh,r1,hk,q _ H1 Wa g1 (by simp[Rep])⟩⟩
def Nk:D->D->Option D
 | .tuple xs,.tuple ys=>(small (xs++ys)).map PyData.tuple
 | _,_=>none
def Gb(K:W.Frag):R2:=λx y H Q=>∃a b xs ys,x=.ref a/\y=.ref b/\j5 K H a xs/\j5 K H b ys/\xs.length+ys.length<=sizeLine /\
 (xs=[]->Q (.ref b) H)/\(ys=[]->Q (.ref a) H)/\(∀p,H p=none->Q (.ref p) (upd H p (.tup (xs++ys))))
def Hq:jc X (binaryOp .Add) (Gb X.K):=by
 intro pins s σ H x y v u Q I rx ry h;obtain⟨a,b,xs,ys,rfl,rfl,ha,hb,hz,q0,q1,q2⟩:=h;by_cases hx:xs=[]
 ·cases rx;cases ry;obtain⟨its,r1,p1,_⟩:=I.tuple ha;obtain⟨WU,r2,p2,_⟩:=I.tuple hb;obtain⟨⟨cls,dd,data,sl⟩,ho,hc,n,hd⟩:=id p1;obtain⟨⟨Y9,XR,data2,XC⟩,XJ,Xs,n2,hd2⟩:=id p2;simp only at hc hd Xs hd2;subst hc hd Xs hd2;have e:its=[]:=(L2.aQ.Xl r1).mpr hx;exact Ze ⟨_,ho,rfl⟩ ⟨_,XJ,rfl⟩ noFill_tuple_add seq_tuple_add vS vM (vJ _ _)
   (tuple_addW0 a b its.toArray WU.toArray n n2 dd XR sl XC (by simp[e])) ⟨ho,XJ,⟨.ref b,H,I,rfl,q0 hx⟩⟩
 ·exact N2 pins s σ H _ _ v u Q I rx ry ⟨a,b,xs,ys,rfl,rfl,ha,hb,hx,hz,q1,λ_ p hp=>q2 p hp⟩
def MV{K:W.Frag}:gO K (Gb K) Nk:=by
 intro HF H x y v1 v2 d Q sm r1 r2 hg q;cases x<;>cases y<;>simp only[Nk] at hg<;>try cases hg
 rename_i xs ys;obtain⟨es,h1,rfl⟩:=ag hg;obtain⟨rfl,hz⟩:=fP h1;have r1':=r1;have r2':=r2;simp only[Rep] at r1 r2;obtain⟨a,vs,rfl,ha,ra⟩:=r1;obtain⟨b,us,rfl,hb,rb⟩:=r2;refine⟨a,b,vs,us,rfl,rfl,aG sm ha,aG sm hb,by rw[ra.length,rb.length,<- zN];exact hz,λe=>?_,λe=>?_,λp hp=>q _ _ _ (.new sm hp) (fM (sm.free hp) (ra.append rb))⟩
 ·have:xs=[]:=by have:=ra.length;rw[e] at this;exact List.length_eq_zero_iff.mp this.symm
  subst this;exact q _ H HF (.refl sm) r2'
 ·have:ys=[]:=by have:=rb.length;rw[e] at this;exact List.length_eq_zero_iff.mp this.symm
  subst this;rw[qG] at q;exact q _ H HF (.refl sm) r1'
end
structure w4(K:W.Frag)(J:It)(HF:Hp)(ds:List D):Prop where
 go:∀i d WG Wj,ds[i]?=some d->aS HF Wj->aS Wj WG->J.go i WG/\∀x Yl,J.yld i WG x Yl->∃aat,bX Wj WG aat Yl/\Rep K aat d x
 stop:∀WG Wj,aS HF Wj->aS Wj WG->J.stop ds.length WG
def Vl(K:W.Frag)(f:Env->Option (List D)):TI:=λσ H R=>∃HF ρ ds,aS HF H/\dq K HF ρ σ/\f ρ=some ds/\∀J H' V9,bX HF H V9 H'->w4 K J V9 ds->R J H'
def DI(X:Cx)(tg iter:Expr)(f:Env->Option (List D)):Prop:=PI X tg iter (Vl X.K f)
def IQ{K:W.Frag}(h:iw K HF a vs)(r:ax K HF ds vs):w4 K (Uu K a) HF ds where
 go:=λi d WG Wj e s1 s2=>by
  obtain⟨v,hv,rv⟩:=r.getD e;have q:=s2.seq (s1.seq h);refine⟨⟨vs,v,q,hv⟩,λx Yl ⟨e2,hy⟩=>⟨Wj,by rw[e2];exact .refl s2,?_⟩⟩;have:=hy vs q;rw[hv] at this;cases this;exact rv.mono s1
 stop:=λWG Wj s1 s2=>⟨vs,s2.seq (s1.seq h),by rw[r.length];exact yN _⟩
def Jk{K:W.Frag}(h:j5 K HF a vs)(r:ax K HF ds vs):w4 K (U9 K a) HF ds where
 go:=λi d WG Wj e s1 s2=>by
  obtain⟨v,hv,rv⟩:=r.getD e;have q:=aG s2 (aG s1 h);refine⟨⟨vs,v,q,hv⟩,λx Yl ⟨e2,hy⟩=>⟨Wj,by rw[e2];exact .refl s2,?_⟩⟩;have:=hy vs q;rw[hv] at this;cases this;exact rv.mono s1
 stop:=λWG Wj s1 s2=>⟨vs,aG s2 (aG s1 h),by rw[r.length];exact yN _⟩
def DV{K:W.Frag}{lo:Int}:w4 K (T2 lo n) HF ((List.range n).map λi=>PyData.int (lo+(i:Nat))) where
 go:=λi d WG Wj e s1 s2=>by
  rw[zO] at e;obtain⟨j,hj,rfl⟩:=ag e;obtain⟨hi,hj'⟩:=List.getElem?_eq_some_iff.mp hj;have Xt:i < n:=by simpa using hi
  have:j=i:=by rw[<- hj'];simp
  subst this;exact⟨Xt,λx Yl ⟨e2,hx⟩=>⟨Wj,by rw[e2];exact .refl s2,by simp[Rep,hx]⟩⟩
 stop:=λWG Wj s1 s2=>by
  show n<=_;simp
section
variable {X:Cx}{tg l e:Expr}{f:Env->Option D}{fs:Env->Option (List D)}{pos p:Pos}
def AO(h:PI X tg l t)(i:∀σ H R,t' σ H R->t σ H R):PI X tg l t':=λpins s σ H R I q=>h pins s σ H R I (i σ H R q)
def P5(hl:PE X l tl):PI X tg l (λσ H R=>tl σ H λx H1=>∃a,x=.ref a/\((∃xs,iw X.K H1 a xs/\R (Uu X.K a) H1)\/∃xs,j5 X.K H1 a xs/\R (U9 X.K a) H1)):=by
 intro pins s σ H R I h;refine cM (hl pins s σ H _ I h) λv s1 ⟨x,H1,I1,r1,q1⟩=>?_;obtain⟨a,e,q⟩:=q1;subst e;cases r1;rcases q with ⟨xs,hq,q⟩|⟨xs,hq,q⟩
 ·obtain⟨its,rv,pl,hz⟩:=I1.list hq;refine qL pl.isList ⟨s1.heap.objs.size,[s1.heap.objs.size],_,_,H1,rfl,I1.kept (t':=s1.toks) λb o e=>zU _ e,Ia a _,⟨_,zX _ rfl,rfl,rfl⟩,λb hb=>?_,q⟩;cases List.mem_singleton.mp hb;exact I1.Xc (yN _) I1.fresh
 ·obtain⟨its,rv,pl,hz⟩:=I1.tuple hq;refine xS (show s1.heap.IsTuple a its.toArray from pl) ⟨s1.heap.objs.size,[s1.heap.objs.size],_,_,H1,rfl,I1.kept (t':=s1.toks) λb o e=>zU _ e,Em a _,⟨_,zX _ rfl,rfl,rfl⟩,λb hb=>?_,q⟩;cases List.mem_singleton.mp hb;exact I1.Xc (yN _) I1.fresh
def bo(f:Env->Option D):Env->Option (List D):=λρ=>(f ρ).bind fE
def Jy(h:DE X l f):DI X tg l (bo f):=AO (P5 h) λσ H R ⟨HF,ρ,ds,sm,eo,hf,q⟩=>by
 obtain⟨x,hx,hf⟩:=bs hf;refine⟨HF,ρ,x,sm,eo,hx,λv1 H1 Wa g1 r1=>?_⟩;rcases nW hf with rfl|rfl
 ·simp only[Rep] at r1;obtain⟨a,vs,rfl,hs,rr⟩:=r1;exact⟨a,rfl,.inr ⟨vs,aG g1.fh hs,q _ H1 Wa g1 (Jk hs rr)⟩⟩
 ·simp only[Rep] at r1;obtain⟨a,vs,rfl,hs,rr⟩:=r1;exact⟨a,rfl,.inl ⟨vs,g1.fh.seq hs,q _ H1 Wa g1 (IQ hs rr)⟩⟩
def Bu(i:Int):Bool:=decide (-(2 ^ 62)<=i)&&decide (i < 2 ^ 62)
def nX:List D->Option (List D)
 | [.int j]=>if Bu j then some ((List.range j.toNat).map λi=>PyData.int ((i:Nat):Int)) else none
 | _=>none
def CC(h:nX ds=some es):∃j,ds=[.int j]/\Bu j=true/\es=(List.range j.toNat).map λi=>PyData.int ((i:Nat):Int):=by
 unfold nX at h;split at h
 ·split at h
  ·cases h;exact⟨_,rfl,‹_›,rfl⟩
  ·cases h
 ·cases h
def aE(fs:Env->Option (List D)):Env->Option (List D):=λρ=>(fs ρ).bind nX
def Kz(B:se X "range" (.type "range"))(h:DA X [e] fs)(hs:starEach [e] X.env=[(false,eval e X.env)]:=by rfl):DI X tg (.Call (.Name "range" p) [e] [] pos) (aE fs) :=
 AO (Hf B.gl B.mg h hs) λσ H R ⟨HF,ρ,ds,sm,eo,hf,q⟩=>by
  obtain⟨x,hx,hf⟩:=bs hf;obtain⟨j,rfl,hj,rfl⟩:=CC hf;refine⟨HF,ρ,_,sm,eo,hx,λvs H1 Wa g1 r1=>?_⟩;obtain⟨v,r,rfl,a,b⟩:=r1.cons_inv;rw[b.nil_inv];simp only[Rep] at a;subst a;unfold Bu at hj;rw[zF] at hj;refine⟨j,rfl,yR hj.1,yR hj.2,q _ H1 Wa g1 ?_⟩;have:=DV (K:=X.K) (HF:=Wa) (lo:=0) (n:=j.toNat);simpa using this
def TR(K:W.Frag)(f:Env->D->Option Env):TG:=λv σ H Q=>∃HF ρ d ρ',aS HF H/\dq K HF ρ σ/\Rep K HF d v/\f ρ d=some ρ'/\∀σ',dq K HF ρ' σ'->dq K HF ρ σ'->Q σ' H
def DG(X:Cx)(tg:Expr)(f:Env->D->Option Env):Prop:=PG X tg (TR X.K f)
def uX(h:PG X tg t)(i:∀v σ H Q,t' v σ H Q->t v σ H Q):PG X tg t':=λpins s σ H v u Q I r q=>h pins s σ H v u Q I r (i v σ H Q q)
def isFree(ρ:Env)(i:Nat):Bool:=((ρ[i]?).getD none).isNone
def j7{K:W.Frag}(eo:dq K HF ρ σ)(r:Rep K HF d v):dq K HF (ρ.set i (some d)) (σ.set i (some v)):=by
 refine⟨λj e h=>?_,by rw[yC,yC];exact eo.len,eo.tb⟩;rw[xJ] at h ⊢;by_cases Wx:i=j
 ·rw[yM Wx] at h ⊢;by_cases hl:i < ρ.length
  ·rw[yM hl] at h;cases h;rw[yM (zP hl eo.len)];exact⟨v,rfl,r⟩
  ·rw[yO hl] at h;cases h
 ·rw[yO Wx] at h ⊢;exact eo.get j e h
def mV{K:W.Frag}(eo:dq K HF ρ σ)(hf:isFree ρ i=true):dq K HF ρ (σ.set i (some v)):=by
 refine⟨λj e h=>?_,by rw[yC];exact eo.len,eo.tb⟩;have Wx:i≠j:=by
  intro z;subst z;unfold isFree at hf;rw[h] at hf;cases hf
 rw[xJ,yO Wx];exact eo.get j e h
def fG(i:Nat):Env->D->Option Env:=λρ d=>if isFree ρ i=true then some (ρ.set i (some d)) else none
def NM(i:Nat)(hN:X.N.Nodup)(hi:X.N[i]?=some x)(hx:Loc X.env.scope x)(hf:X.fn x=true\/X.env.scope.names.lookup x=some .local:=by first|exact .inl rfl|exact .inr rfl|assumption):DG X (.Name x pos) (fG i) :=
 uX (dm hN hi hx hf) λv σ H Q ⟨HF,ρ,d,ρ',sm,eo,r,hf,q⟩=>by
  unfold fG at hf;split at hf
  ·cases hf;exact q _ (j7 eo r) (mV eo ‹_›)
  ·cases hf
def j4(i j:Nat):Env->D->Option Env:=λρ d=>match d with
 | .tuple [x,y]=>if isFree ρ i=true/\isFree ρ j=true then some ((ρ.set i (some x)).set j (some y)) else none
 | _=>none
def QX(i j:Nat){px py:Pos}{k:Nat}(hc:X.calm=true)(hN:X.N.Nodup)(hi:X.N[i]?=some x)(hx:Loc X.env.scope x)(hj:X.N[j]?=some y)(hy:Loc X.env.scope y)
  (hf:X.fn x=true\/X.env.scope.names.lookup x=some .local:=by first|exact .inl rfl|exact .inr rfl|assumption) (ZK:X.fn y=true\/X.env.scope.names.lookup y=some .local:=by first|exact .inl rfl|exact .inr rfl|assumption) :
  DG X (.Tuple [.Name x px,.Name y py] k pos) (j4 i j) :=
 uX (tN hc (cY (dm hN hi hx hf) (cY (dm hN hj hy ZK) pI))) λv σ H Q ⟨HF,ρ,d,ρ',sm,eo,r,hf,q⟩=>by
  unfold j4 at hf;split at hf
  ·rename_i x' y';split at hf
   ·rename_i hh;cases hf;simp only[Rep] at r;obtain⟨a,vs,rfl,hs,rr⟩:=r;obtain⟨v1,r1,rfl,a1,b1⟩:=rr.cons_inv;obtain⟨v2,r2,rfl,a2,b2⟩:=b1.cons_inv;rw[b2.nil_inv] at hs;exact⟨a,_,rfl,aG sm hs,rfl,v1,_,rfl,v2,_,rfl,rfl,q _ (j7 (j7 eo a1) a2) (mV (mV eo hh.1) hh.2)⟩
   ·cases hf
  ·cases hf
def dU(tgt:Env->D->Option Env)(tt:Env->Option Bool)(te:Env->Option D)(ρ:Env):List D->Option (List D)
 | []=>some []
 | d::ds=>(tgt ρ d).bind λρ'=>(tt ρ').bind λb=>if b=true then (te ρ').bind λx=>(dU tgt tt te ρ ds).map (x::·) else dU tgt tt te ρ ds
def S3(X:Cx)(ifs:List Expr)(f:Env->Option Bool):Prop:=RU X ifs (RO X.K f)
def NP:S3 X [] (λ_=>some true):=λpins s σ H Q I ⟨HF,ρ,b,sm,eo,hf,q⟩=>Oy pins s σ H Q I (by cases hf;exact q H HF (.refl sm))
def Mw(h:DT X c t):S3 X [c] t:=MI h
def lU(t:Nat)(cs:List Nat)(σ:L2.St):L2.St:=List.replicate t none++cs.map λj=>(σ[j]?).getD none
def fv(t:Nat)(cs:List Nat)(ρ:Env):Env:=List.replicate t none++cs.map λj=>(ρ[j]?).getD none
def GV{K:W.Frag}{cs:List Nat}(eo:dq K HF ρ σ):dq K HF (fv t cs ρ) (lU t cs σ):=by
 refine⟨λi d h=>?_,by simp[fv,lU],eo.tb⟩;unfold fv at h;unfold lU;by_cases hi:i < t
 ·rw[yT (by simpa using hi),yY,yM hi] at h;cases h
 ·rw[yU (by simpa using hi),zO,xN] at h;rw[yU (by simpa using hi),zO,xN];obtain⟨j,hj,h⟩:=ag h;rw[hj];cases e:ρ[j]? with
  | none=>rw[e] at h;cases h
  | some o =>
   rw[e] at h;have h:o=some d:=h;subst h;obtain⟨v,a,b⟩:=eo.get j d e;exact⟨v,by show some ((σ[j]?).getD none)=_;rw[a];rfl,b⟩
def aw(t:Nat)(cs:List Nat)(fi:Env->Option (List D))(tgt:Env->D->Option Env)(tt:Env->Option Bool)(te:Env->Option D):Env->Option (List D):=λρ=>(fi ρ).bind λds=>(dU tgt tt te (fv t cs ρ) ds).bind small
variable {elt iter:Expr}{ifs:List Expr}{scope:Scope}{N:List Str}{t:Nat}{cs:List Nat}{fi:Env->Option (List D)}{tgt:Env->D->Option Env}{tt:Env->Option Bool}{te:Env->Option D}
def J5:∀σ H Q,tF X.K (aw t cs fi tgt tt te) σ H Q->Lg (Vl X.K fi) (TR X.K tgt) (RO X.K tt) (tD X.K te) (lU t cs) σ H Q:=λσ H Q ⟨HF,ρ,out,sm,eo,hf,q⟩=>by
 obtain⟨ds,hx,hf⟩:=bs hf;obtain⟨agf,ho,hf⟩:=bs hf;obtain⟨rfl,hz⟩:=fP hf;refine⟨HF,ρ,ds,sm,eo,hx,λJ H1 Wa g1 it Dn hD=>?_⟩;have eo1:=GV (t:=t) (cs:=cs) (eo.mono g1.ff);have hFD:Wa Dn=none:=g1.fh.free hD;refine⟨λi m σ' H'=>m+i=ds.length/\∃V9 xs ys rest,bX Wa H1 V9 H'/\V9 Dn=none/\H' Dn=some (.lst ys)/\ax X.K V9 xs ys/\dq X.K V9 (fv t cs ρ) σ'/\dU tgt tt te (fv t cs ρ) (ds.drop i)=some rest/\xs++rest=out,
  ⟨ds.length,rfl,Wa,[],[],out,.own g1.fh hD,hFD,aF,ax.nil,eo1,ho,rfl⟩,?_⟩
 rintro i m σ' H' ⟨hm,V9,xs,ys,rest,G,abW,hHD,rr,eo',hc,Zu⟩;by_cases hi:i < ds.length
 ·refine .inr ?_;have hd:ds.drop i=ds[i]::ds.drop (i+1):=vF hi;have he:ds[i]?=some ds[i]:=List.getElem?_eq_some_iff.mpr ⟨hi,rfl⟩;generalize ds[i]=d at hd he;rw[hd] at hc;unfold dU at hc;obtain⟨ρ',h1,hc⟩:=bs hc;obtain⟨b,h2,hc⟩:=bs hc;obtain⟨go,yld⟩:=it.go i d H' V9 he G.ff G.fh;refine⟨go,λx H2 y=>?_⟩;obtain⟨Wu,G2,rx⟩:=yld x H2 y;refine⟨Wu,_,d,ρ',G2.fh,eo'.mono G2.ff,rx,h1,λYx eo2 abX=>?_⟩;refine⟨Wu,ρ',b,G2.fh,eo2,h2,λH3 WL G3=>?_⟩;have nof:∀Xd H4,bX V9 H' Xd H4->Xd Dn=none:=λXd H4 G4=>by
   cases e4:Xd Dn with
   | none=>rfl
   | some o =>
    rcases G4.nw Dn o e4 with z|z
    ·rw[abW] at z;cases z
    ·rw[hHD] at z;cases z
  cases b with
  | false =>
   refine sH ⟨m - 1,by lia,by lia,WL,xs,ys,rest,(G.trans G2).trans G3,nof _ _ (G2.trans G3),(G2.trans G3).hh _ _ hHD,rr.mono (G2.trans G3).ff,abX.mono G3.ff,by simpa using hc,Zu⟩
  | true =>
   rw[yM rfl] at hc;obtain⟨z,h3,hc⟩:=bs hc;obtain⟨aav,h4,rfl⟩:=ag hc;refine wc ⟨WL,ρ',z,G3.fh,eo2.mono G3.ff,h3,λv H4 Xd G4 rv=>?_⟩;have GG:=(G2.trans G3).trans G4;have n4:=nof _ _ GG;have h4D:=GG.hh _ _ hHD;have hlen:ys.length < sizeLine:=by
    have e1:=rr.length;have e2:out.length=xs.length+(aav.length+1):=by rw[<- Zu];simp
    lia
   refine⟨ys,h4D,hlen,m - 1,by lia,by lia,Xd,xs++[z],ys++[v],aav,?_,n4,aF,(rr.mono GG.ff).append (ax.cons rv ax.nil),abX.mono (G3.ff.trans G4.ff),h4,by simp[<- Zu]⟩;have G5:=G.trans GG;refine⟨λb o e=>?_,G5.ff,λb o e=>?_,G5.nw⟩
   ·rw[aB (aU e hD)];exact G5.hh b o e
   ·rw[aB (aU e n4)];exact G5.fh b o e
 ·have Xt:i=ds.length:=by lia
  subst Xt;rw[List.drop_length] at hc;cases hc;rw[qG] at Zu;subst Zu;exact .inl ⟨it.stop H' V9 G.ff G.fh,q Dn ys H' V9 (g1.trans G) (g1.hh.free hD) abW hHD rr⟩
def MO(hc:X.calm=true)(S:iX X scope N (lU t cs))(hi:DI X tg iter fi)
  (hY:∀fp s H,DG (bb X scope N fp s H) tg tgt/\S3 (bb X scope N fp s H) ifs tt/\DE (bb X scope N fp s H) elt te)
  (hs:∀x,foldedSetIterable iter X.env x=pure x:=by intro _;rfl):DF X (.ListComp elt [⟨tg,iter,ifs,0⟩] scope pos) (aw t cs fi tgt tt te):=bf (ML (g:=TR X.K tgt) (tt:=RO X.K tt) (te:=tD X.K te) hc S hi hY hs) J5
end
inductive Slot where
 | V6|val (d:D)|own (ds:List D)
abbrev ar:=List Slot
def Slot.all:Slot->Option D|.V6=>none|.val d=>some d|.own ds=>some (.list ds)
def Slot.WX:Slot->Option D|.val d=>some d|_=>none
def Slot.abY:Slot->Slot|.own ds=>.val (.list ds)|s=>s
def aK(ρ:ar):Env:=ρ.map Slot.all
def bV(ρ:ar):Env:=ρ.map Slot.WX
def hand(fz:List Nat):Nat->ar->ar
 | _,[]=>[]
 | k,s::r=>(if fz.contains k=true then s.abY else s)::hand fz (k+1) r
def jf(fz:List Nat):∀ (ρ:ar) (k i:Nat),(hand fz k ρ)[i]?=(ρ[i]?).map λs=>if fz.contains (k+i)=true then s.abY else s
 | [],k,i=>by simp[hand]
 | s::r,k,0=>by simp[hand]
 | s::r,k,i+1=>by
  simp only[hand,yZ];rw[jf fz r (k+1) i,Nat.add_assoc,Nat.add_comm 1 i]
def Cp(fz:List Nat):∀ (ρ:ar) (k:Nat),(hand fz k ρ).length=ρ.length
 | [],k=>rfl
 | s::r,k=>by simp[hand,Cp fz r (k+1)]
structure lD(K:W.Frag)(V7 V8 HF H:Hp)(ρ:ar)(σ:L2.St):Prop where
 gr:bX V7 V8 HF H
 val:∀ (i:Nat) (d:D),ρ[i]?=some (.val d)->∃v,σ[i]?=some (some v)/\Rep K HF d v
 own:∀ (i:Nat) (ds:List D),ρ[i]?=some (.own ds)->∃a vs,σ[i]?=some (some (.ref a))/\H a=some (.lst vs)/\HF a=none/\V8 a=none/\ax K HF ds vs
 inj:∀ (i j:Nat) (ds es:List D) (a:Addr),ρ[i]?=some (.own ds)->ρ[j]?=some (.own es)->σ[i]?=some (some (.ref a))->σ[j]?=some (some (.ref a))->i=j
 len:ρ.length<=σ.length
 tb:fK K HF
section
variable {K:W.Frag}
def lD.all(S:lD K V7 V8 HF H ρ σ):dq K H (aK ρ) σ:=by
 refine⟨λi d h=>?_,by simpa [aK] using S.len,S.tb.mono S.gr.fh⟩;unfold aK at h;rw[zO] at h;obtain⟨s,hs,h⟩:=ag h;cases s with
 | V6=>cases h
 | val e=>cases h;obtain⟨v,a,b⟩:=S.val i _ hs;exact⟨v,a,b.mono S.gr.fh⟩
 | own ds =>
  cases h;obtain⟨a,vs,e1,e2,e3,_,e4⟩:=S.own i ds hs;exact⟨.ref a,e1,by simp only[Rep];exact⟨a,vs,rfl,iw.of e2,e4.mono S.gr.fh⟩⟩
def lD.WX(S:lD K V7 V8 HF H ρ σ):dq K HF (bV ρ) σ:=by
 refine⟨λi d h=>?_,by simpa [bV] using S.len,S.tb⟩;unfold bV at h;rw[zO] at h;obtain⟨s,hs,h⟩:=ag h;cases s with
 | V6=>cases h
 | val e=>cases h;exact S.val i _ hs
 | own ds=>cases h
def lD.grow(S:lD K V7 V8 HF H ρ σ)(g:bX HF H V9 H'):lD K V7 V8 V9 H' ρ σ where
 gr:=S.gr.trans g
 val:=λi d h=>let ⟨v,a,b⟩:=S.val i d h;⟨v,a,b.mono g.ff⟩
 own:=λi ds h=>by
  obtain⟨a,vs,e1,e2,e3,e5,e4⟩:=S.own i ds h;refine⟨a,vs,e1,g.hh _ _ e2,?_,e5,e4.mono g.ff⟩;cases e:V9 a with
  | none=>rfl
  | some o =>
   rcases g.nw a o e with z|z
   ·rw[e3] at z;cases z
   ·rw[e2] at z;cases z
 inj:=S.inj
 len:=S.len
 tb:=S.tb.mono g.ff
def lD.step(S:lD K V7 V8 HF H ρ σ)(g:aS H H'):lD K V7 V8 HF H' ρ σ:=S.grow ⟨g,.refl _,S.gr.fh.trans g,λ_ _ e=>.inl e⟩
def lD.hand(S:lD K V7 V8 HF H ρ σ)(fz:List Nat):∃Wa,aS HF Wa/\lD K V7 V8 Wa H (hand fz 0 ρ) σ:=by
 let P:Addr->Prop:=λa=>∃i ds,fz.contains i=true/\ρ[i]?=some (.own ds)/\σ[i]?=some (some (.ref a));have cl:=Classical.propDecidable;let Wa:Hp:=λa=>if P a then H a else HF a
 have hP:∀a,P a->HF a=none/\V8 a=none:=λa ⟨i,ds,_,h1,h2⟩=>by
  obtain⟨a',vs,e1,e2,e3,e5,e4⟩:=S.own i ds h1;rw[h2] at e1;cases e1;exact⟨e3,e5⟩
 have s1:aS HF Wa:=λb o e=>by
  show (if P b then H b else HF b)=some o;by_cases h:P b
  ·rw[(hP b h).1] at e;cases e
  ·rw[yO h];exact e
 have s2:aS Wa H:=λb o e=>by
  have e:(if P b then H b else HF b)=some o:=e;by_cases h:P b
  ·rw[yM h] at e;exact e
  ·rw[yO h] at e;exact S.gr.fh b o e
 refine⟨Wa,s1,⟨S.gr.hh,S.gr.ff.trans s1,s2,λb o e=>?_⟩,λi d h=>?_,λi ds h=>?_,λi j ds es a h1 h2=>?_,by rw[Cp];exact S.len,S.tb.mono s1⟩
 ·have e:(if P b then H b else HF b)=some o:=e;by_cases h:P b
  ·exact .inr (hP b h).2
  ·rw[yO h] at e;exact S.gr.nw b o e
 ·rw[jf] at h;obtain⟨s,hs,h⟩:=ag h;rw[jE] at h;cases s with
  | V6=>split at h<;>cases h
  | val e =>
   have:Slot.val e=Slot.val d:=by split at h<;>exact h
   cases this;obtain⟨v,a,b⟩:=S.val i _ hs;exact⟨v,a,b.mono s1⟩
  | own ds =>
   split at h
   ·rename_i hc;cases h;obtain⟨a,vs,e1,e2,e3,e5,e4⟩:=S.own i ds hs;refine⟨.ref a,e1,?_⟩;simp only[Rep];refine⟨a,vs,rfl,.inl (.inl ?_),e4.mono s1⟩;show (if P a then H a else HF a)=_;rw[yM ⟨i,ds,hc,hs,e1⟩];exact e2
   ·cases h
 ·rw[jf] at h;obtain⟨s,hs,h⟩:=ag h;rw[jE] at h;cases s with
  | V6=>split at h<;>cases h
  | val e=>split at h<;>cases h
  | own es =>
   split at h
   ·cases h
   ·rename_i hc;cases h;obtain⟨a,vs,e1,e2,e3,e5,e4⟩:=S.own i ds hs;refine⟨a,vs,e1,e2,?_,e5,e4.mono s1⟩;show (if P a then H a else HF a)=none;rw[yO ?_]
    ·exact e3
    ·rintro⟨j,es,hj,h1,h2⟩;have:=S.inj i j ds es a hs h1 e1 h2;subst this;exact hc hj
 ·rw[jf] at h1 h2;obtain⟨s,hs,h1⟩:=ag h1;obtain⟨s',XN,h2⟩:=ag h2;rw[jE] at h1 h2;cases s with
  | V6=>split at h1<;>cases h1
  | val e=>split at h1<;>cases h1
  | own xs =>
   cases s' with
   | V6=>split at h2<;>cases h2
   | val e=>split at h2<;>cases h2
   | own ys=>exact S.inj i j _ _ a hs XN
def lD.WM(S:lD K V7 V8 HF H ρ σ)(r:Rep K HF d v):lD K V7 V8 HF H (ρ.set i (.val d)) (σ.set i (some v)):=by
 have ne:∀ {j:Nat}{s:Slot},(ρ.set i (.val d))[j]?=some s->(∀e,s≠.val e)->i≠j/\ρ[j]?=some s:=λ{j s} h hn=>by
  rw[xJ] at h;by_cases Wx:i=j
  ·rw[yM Wx] at h;split at h
   ·cases h;exact absurd rfl (hn _)
   ·cases h
  ·rw[yO Wx] at h;exact⟨Wx,h⟩
 refine⟨S.gr,λj e h=>?_,λj ds h=>?_,λj k ds es a h1 h2 h3 h4=>?_,by rw[yC,yC];exact S.len,S.tb⟩
 ·rw[xJ] at h ⊢;by_cases Wx:i=j
  ·rw[yM Wx] at h ⊢;split at h
   ·rename_i hl;cases h;rw[yM (zP hl S.len)];exact⟨v,rfl,r⟩
   ·cases h
  ·rw[yO Wx] at h ⊢;exact S.val j e h
 ·obtain⟨Wx,h⟩:=ne h λe z=>by cases z
  rw[xJ,yO Wx];exact S.own j ds h
 ·obtain⟨n1,h1⟩:=ne h1 λe z=>by cases z
  obtain⟨n2,h2⟩:=ne h2 λe z=>by cases z
  rw[xJ,yO n1] at h3;rw[xJ,yO n2] at h4;exact S.inj j k ds es a h1 h2 h3 h4
def lD.adE(S:lD K V7 V8 HF H ρ σ)(hs:aS H H')(h1:H' a=some (.lst vs))(h2:HF a=none)(h3:V8 a=none)(r:ax K HF ds vs)
  (fr:∀j es,i≠j->ρ[j]?=some (.own es)->σ[j]?≠some (some (.ref a))):lD K V7 V8 HF H' (ρ.set i (.own ds)) (σ.set i (some (.ref a))):=by
 have S:=S.step hs;refine⟨S.gr,λj e h=>?_,λj es h=>?_,λj k xs ys b e1 e2 e3 e4=>?_,by rw[yC,yC];exact S.len,S.tb⟩
 ·rw[xJ] at h ⊢;by_cases Wx:i=j
  ·rw[yM Wx] at h;split at h<;>cases h
  ·rw[yO Wx] at h ⊢;exact S.val j e h
 ·rw[xJ] at h ⊢;by_cases Wx:i=j
  ·rw[yM Wx] at h ⊢;split at h
   ·rename_i hl;cases h;rw[yM (zP hl S.len)];exact⟨a,vs,rfl,h1,h2,h3,r⟩
   ·cases h
  ·rw[yO Wx] at h ⊢;exact S.own j es h
 ·rw[xJ] at e1 e2 e3 e4;by_cases Wx:i=j
  ·by_cases hik:i=k
   ·exact Wx.symm.trans hik
   ·rw[yM Wx] at e1 e3;rw[yO hik] at e2 e4;split at e3
    ·cases e3;exact absurd e4 (fr k ys hik e2)
    ·cases e3
  ·by_cases hik:i=k
   ·rw[yO Wx] at e1 e3;rw[yM hik] at e2 e4;split at e4
    ·cases e4;exact absurd e3 (fr j xs Wx e1)
    ·cases e4
   ·rw[yO Wx] at e1 e3;rw[yO hik] at e2 e4;exact S.inj j k xs ys b e1 e2 e3 e4
end
inductive Out where
 | nx (ρ:ar)|rt (d:D)
def F4(K:W.Frag)(V7 V8 HF:Hp)(E:Ends):Out->Prop
 | .nx ρ'=>∀σ' H' V9,lD K V7 V8 V9 H' ρ' σ'->aS HF V9->E.nx σ' H'
 | .rt d=>∀v H' V9,bX V7 V8 V9 H'->Rep K V9 d v->E.rt v H'
def tS(K:W.Frag)(V7 V8:Hp)(g:ar->Option Out):TS:=λE σ H=>∃HF ρ o,lD K V7 V8 HF H ρ σ/\g ρ=some o/\F4 K V7 V8 HF E o
def DS(X:Cx)(V7 V8:Hp)(st:Stmt)(g:ar->Option Out):Prop:=PS X st (tS X.K V7 V8 g)
def G9(X:Cx)(V7 V8:Hp)(st:List Stmt)(g:ar->Option Out):Prop:=AH X st (tS X.K V7 V8 g)
section
variable {X:Cx}{V7 V8:Hp}{st:Stmt}{rest:List Stmt}{g g1 g2:ar->Option Out}{e:Expr}{pos:Pos}
def cO(h:PS X st t)(i:∀E σ H,t' E σ H->t E σ H):PS X st t':=λpins s σ H E I q=>h pins s σ H E I (i E σ H q)
def sZ(h:AH X rest t)(i:∀E σ H,t' E σ H->t E σ H):AH X rest t':=λpins s σ H E I q=>h pins s σ H E I (i E σ H q)
def dS:ar->Option Out:=λρ=>some (.nx ρ)
def ay(g1 g2:ar->Option Out):ar->Option Out:=λρ=>(g1 ρ).bind fun|.nx ρ'=>g2 ρ'|.rt d=>some (.rt d)
def F4.mono{K:W.Frag}(s:aS HF V9)(h:F4 K V7 V8 HF E o):F4 K V7 V8 V9 E o:=by
 cases o with
 | nx ρ'=>exactλσ' H' Wu S s2=>h σ' H' Wu S (s.trans s2)
 | rt d=>exact h
def Nh:G9 X V7 V8 [] dS:=sZ AR λE σ H ⟨HF,ρ,o,S,hg,q⟩=>by cases hg;exact q σ H HF S (.refl _)
def K7(h1:DS X V7 V8 st g1)(h2:G9 X V7 V8 rest g2):G9 X V7 V8 (st::rest) (ay g1 g2):=sZ (jm h1 h2) λE σ H ⟨HF,ρ,o,S,hg,q⟩=>by
 obtain⟨o1,h,hg⟩:=bs hg;refine⟨HF,ρ,o1,S,h,?_⟩;cases o1 with
 | nx ρ'=>exactλσ' H' V9 S' s=>⟨V9,ρ',o,S',hg,q.mono s⟩
 | rt d=>cases hg;exact q
def Gp(h1:DS X V7 V8 st g1):G9 X V7 V8 [st] g1:=Od h1
def Nx:DS X V7 V8 (.Pass pos) dS:=cO Ng λE σ H ⟨HF,ρ,o,S,hg,q⟩=>by cases hg;exact q σ H HF S (.refl _)
def PF{x j pos pos'}:DS X V7 V8 (.Expr (.Constant (.str x) j pos) pos') dS:=cO Q6 λE σ H ⟨HF,ρ,o,S,hg,q⟩=>by cases hg;exact q σ H HF S (.refl _)
def eI(t:Env->Option Bool)(g1 g2:ar->Option Out):ar->Option Out:=λρ=>(t (aK ρ)).bind λb=>if b=true then g1 ρ else g2 ρ
def SG(hc:DT X c t)(ha:G9 X V7 V8 a g1)(hb:G9 X V7 V8 b g2):DS X V7 V8 (.If c a b pos) (eI t g1 g2):=cO (LZ hc ha hb) λE σ H ⟨HF,ρ,o,S,hg,q⟩=>by
 obtain⟨b,h,hg⟩:=bs hg;refine⟨H,aK ρ,b,.refl _,S.all,h,λH' V9 G=>?_⟩;cases b with
 | true=>exact wc ⟨HF,ρ,o,S.step G.hh,hg,q⟩
 | false=>exact sH ⟨HF,ρ,o,S.step G.hh,hg,q⟩
def Do:∀ (ρ:ar) (k n:Nat),k+ρ.length<=n->bV (hand (List.range n) k ρ)=aK ρ
 | [],k,n,h=>rfl
 | s::r,k,n,h=>by
  have hk:(List.range n).contains k=true:=by simp at h ⊢;lia
  have ih:=Do r (k+1) n (by simp at h;lia);unfold bV aK at ih ⊢;rw[hand,yM hk,zI,zI,ih];cases s<;>rfl
def aI(f:Env->Option D):ar->Option Out:=λρ=>(f (aK ρ)).map Out.rt
def Qq(h:DE X e f):DS X V7 V8 (.Return (some e) pos) (aI f):=cO (Ez h) λE σ H ⟨HF,ρ,o,S,hg,q⟩=>by
 obtain⟨d,h,rfl⟩:=ag hg;obtain⟨Wa,s1,S1⟩:=S.hand (List.range ρ.length);refine⟨Wa,aK ρ,d,S1.gr.fh,?_,h,λv H' V9 G r=>q v H' V9 (S1.gr.trans G) r⟩;have:=S1.WX;rw[Do ρ 0 ρ.length (by lia)] at this;exact this
def sT:D->Bool|.none=>true|.bool _=>true|.int _=>true|.str _=>true|_=>false
def BN{K:W.Frag}(h:sT d=true)(r:Rep K HF d v):Rep K V9 d v:=by
 cases d<;>cases h<;>(simp only[Rep] at r ⊢;exact r)
mutual
def gC:D->Bool
 | .tuple ds=>qt ds
 | .list _=>false
 | .dict _=>false
 | _=>true
def qt:List D->Bool
 | []=>true
 | d::ds=>gC d&&qt ds
end
mutual
theorem CU{K:W.Frag}{H1 H2:Hp}(ht:∀a xs,j5 K H1 a xs->j5 K H2 a xs):∀ {d:D}{v:V},gC d=true->Rep K H1 d v->Rep K H2 d v
 | .none,_,_,r=>by simp only[Rep] at r ⊢;exact r
 | .bool _,_,_,r=>by simp only[Rep] at r ⊢;exact r
 | .int _,_,_,r=>by simp only[Rep] at r ⊢;exact r
 | .str _,_,_,r=>by simp only[Rep] at r ⊢;exact r
 | .tuple ds,v,h,r=>by
  simp only[gC] at h;simp only[Rep] at r ⊢;obtain⟨a,vs,e,q,rr⟩:=r;exact⟨a,vs,e,ht _ _ q,yy ht h rr⟩
 | .list _,_,h,_=>by simp[gC] at h
 | .dict _,_,h,_=>by simp[gC] at h
theorem yy{K:W.Frag}{H1 H2:Hp}(ht:∀a xs,j5 K H1 a xs->j5 K H2 a xs):∀ {ds:List D}{vs:List V},qt ds=true->ax K H1 ds vs->ax K H2 ds vs
 | [],_,_,r=>by simp only[ax] at r ⊢;exact r
 | d::ds,vs,h,r=>by
  simp only[qt,zF] at h;simp only[ax] at r ⊢;obtain⟨v,r',e,a,b⟩:=r;exact⟨v,r',e,CU ht h.1 a,yy ht h.2 b⟩
end
def lD.back{K:W.Frag}(S:lD K V7 V8 HF H ρ σ)(S1:lD K V7 V8 Wa H ρ1 σ)(s1:aS HF Wa)(G:bX Wa H V9 H'):∃Wu,aS HF Wu/\lD K V7 V8 Wu H' ρ σ/\∀d v,gC d=true->Rep K V9 d v->Rep K Wu d v:=by
 have cl:=Classical.propDecidable;let O:Addr->Prop:=λa=>∃ (i:Nat) (ds:List D),ρ[i]?=some (Slot.own ds)/\σ[i]?=some (some (V.ref a));let Wu:Hp:=λa=>if O a then none else V9 a
 have hO:∀a,O a->HF a=none/\∃vs,H a=some (.lst vs):=λa ⟨i,ds,h1,h2⟩=>by
  obtain⟨a',vs,e1,e2,e3,_,_⟩:=S.own i ds h1;rw[h2] at e1;cases e1;exact⟨e3,vs,e2⟩
 have h2:∀a,¬ O a->Wu a=V9 a:=λa n=>yO n;have h3:∀a,O a->Wu a=none:=λa n=>yM n;have sa:aS HF Wu:=λb o e=>by
  have nb:¬ O b:=λz=>by rw[(hO b z).1] at e;cases e
  rw[h2 b nb];exact G.ff b o (s1 b o e)
 have sb:∀b o,Wu b=some o->V9 b=some o:=λb o e=>by
  by_cases z:O b
  ·rw[h3 b z] at e;cases e
  ·rwa [h2 b z] at e
 have g2:=S1.gr.trans G;refine⟨Wu,sa,⟨⟨g2.hh,S.gr.ff.trans sa,λb o e=>G.fh b o (sb b o e),λb o e=>g2.nw b o (sb b o e)⟩,λi d h=>?_,λi ds h=>?_,S.inj,S.len,S.tb.mono sa⟩,λd v hn r=>CU (λa xs q=>?_) hn r⟩
 ·obtain⟨v,e1,r⟩:=S.val i d h;exact⟨v,e1,r.mono sa⟩
 ·obtain⟨a,vs,e1,e2,e3,e5,e4⟩:=S.own i ds h;exact⟨a,vs,e1,G.hh _ _ e2,h3 a ⟨i,ds,h,e1⟩,e5,e4.mono sa⟩
 ·have nt:∀o,V9 a=some o->(∀vs,o≠.lst vs)->Wu a=some o:=λo e Wz=>by
   by_cases z:O a
   ·obtain⟨_,vs,e2⟩:=hO a z;have:=G.hh _ _ e2;rw[G.fh a o e] at this;cases this;exact absurd rfl (Wz vs)
   ·rw[h2 a z];exact e
  rcases q with (q|⟨o,q⟩)|q
  ·exact .inl (.inl (nt _ q λvs z=>by cases z))
  ·exact .inl (.inr ⟨o,nt _ q λvs z=>by cases z⟩)
  ·exact .inr q
def aR(i:Nat)(fz:List Nat)(f:Env->Option D):ar->Option Out:=λρ=>(f (aK ρ)).bind λd=>if sT d=true then some (.nx (ρ.set i (.val d))) else (f (bV (hand fz 0 ρ))).map λd'=>.nx ((if gC d'=true then ρ else hand fz 0 ρ).set i (.val d'))
def SW:∀E σ H,tS X.K V7 V8 (aR i fz f) E σ H->KN (tD X.K f) (BQ i) E σ H:=λE σ H ⟨HF,ρ,o,S,hg,q⟩=>by
 obtain⟨d,h,hg⟩:=bs hg;split at hg
 ·rename_i hs;cases hg;exact⟨H,aK ρ,d,.refl _,S.all,h,λv H' V9 G r=>q _ H' HF ((S.step G.hh).WM (BN hs r)) (.refl _)⟩
 ·obtain⟨d',h',rfl⟩:=ag hg;obtain⟨Wa,s1,S1⟩:=S.hand fz;refine⟨Wa,_,d',S1.gr.fh,S1.WX,h',λv H' V9 G r=>?_⟩;by_cases hn:gC d'=true
  ·rw[yM hn] at q;obtain⟨Wu,s2,S2,hb⟩:=S.back S1 s1 G;exact q _ H' Wu (S2.WM (hb d' v hn r)) s2
  ·rw[yO hn] at q;exact q _ H' V9 ((S1.grow G).WM r) (s1.trans G.ff)
def Qt(i:Nat)(fz:List Nat)(hN:X.N.Nodup)(hi:X.N[i]?=some x)(hx:Loc X.env.scope x)(he:DE X e f)(hs:swapsWith e (some (.Name x pos')) pos.line X.env=pure false:=by rfl)
  (hf:X.fn x=true\/X.env.scope.names.lookup x=some .local:=by first|exact .inl rfl|exact .inr rfl|assumption):DS X V7 V8 (.Assign [.Name x pos'] e pos) (aR i fz f):=cO (uo hN hi hx he hs hf) SW
def aW(i:Nat)(fz:List Nat)(f:Env->Option (List D)):ar->Option Out:=λρ=>(f (bV (hand fz 0 ρ))).map λds=>.nx ((hand fz 0 ρ).set i (.own ds))
def L8:∀E σ H,tS X.K V7 V8 (aW i fz f) E σ H->KN (tF X.K f) (BQ i) E σ H:=λE σ H ⟨HF,ρ,o,S,hg,q⟩=>by
 obtain⟨ds,h,rfl⟩:=ag hg;obtain⟨Wa,s1,S1⟩:=S.hand fz;refine⟨Wa,_,ds,S1.gr.fh,S1.WX,h,λa vs H' V9 G ha hf h' r=>q _ H' V9 ?_ (s1.trans G.ff)⟩;have S2:=S1.grow G;refine S2.adE (.refl _) h' hf (S1.gr.hh.free ha) r λj es _ hj z=>?_;obtain⟨b,us,e1,e2,_⟩:=S1.own j es hj;rw[e1] at z;cases z;rw[ha] at e2;cases e2
def AJ(i:Nat)(fz:List Nat)(hN:X.N.Nodup)(hi:X.N[i]?=some x)(hx:Loc X.env.scope x)(he:DF X e f)(hs:swapsWith e (some (.Name x pos')) pos.line X.env=pure false:=by rfl)
  (hf:X.fn x=true\/X.env.scope.names.lookup x=some .local:=by first|exact .inl rfl|exact .inr rfl|assumption):DS X V7 V8 (.Assign [.Name x pos'] e pos) (aW i fz f):=cO (uo hN hi hx he hs hf) L8
def Nl(i:Nat)(fz:List Nat){cs:List Nat}
  (hc:X.calm=true) (S:iX X scope N (lU t cs)) (hi:DI X tg iter fi)
  (hY:∀fp s H,DG (bb X scope N fp s H) tg tgt/\S3 (bb X scope N fp s H) ifs tt/\DE (bb X scope N fp s H) elt te)
  (hN:X.N.Nodup) (hiy:X.N[i]?=some y) (hy:X.env.scope.names.lookup y=some .local)
  (hsw:swapsWith (.ListComp elt [⟨tg,iter,ifs,0⟩] scope pos) (some (.Name y py)) Xo.line X.env=pure true)
  (hs:∀x,foldedSetIterable iter X.env x=pure x:=by intro _;rfl):DS X V7 V8 (.Assign [.Name y py] (.ListComp elt [⟨tg,iter,ifs,0⟩] scope pos) Xo) (aW i fz (aw t cs fi tgt tt te)) :=
 cO (Oh (g:=TR X.K tgt) (tt:=RO X.K tt) (te:=tD X.K te) hc S hi hY hN hiy hy hsw hs) λE σ H q=>by
  have:=L8 E σ H q;exact J5 σ H _ this
def VQ(K:W.Frag)(V7 V8:Hp)(f:ar->D->Option ar):TG:=λv σ H Q=>∃HF ρ d ρ',lD K V7 V8 HF H ρ σ/\Rep K HF d v/\f ρ d=some ρ'/\∀σ',lD K V7 V8 HF H ρ' σ'->Q σ' H
def Ue(X:Cx)(V7 V8:Hp)(tg:Expr)(f:ar->D->Option ar):Prop:=PG X tg (VQ X.K V7 V8 f)
def gM(i:Nat):ar->D->Option ar:=λρ d=>some (ρ.set i (.val d))
def KB(i:Nat)(hN:X.N.Nodup)(hi:X.N[i]?=some x)(hx:Loc X.env.scope x)(hf:X.fn x=true\/X.env.scope.names.lookup x=some .local:=by first|exact .inl rfl|exact .inr rfl|assumption):Ue X V7 V8 (.Name x pos) (gM i) :=
 uX (dm hN hi hx hf) λv σ H Q ⟨HF,ρ,d,ρ',S,r,hf,q⟩=>by cases hf;exact q _ (S.WM r)
def gy(i j:Nat):ar->D->Option ar:=λρ d=>match d with
 | .tuple [x,y]=>some ((ρ.set i (.val x)).set j (.val y))
 | _=>none
def M1(i j:Nat){px py:Pos}{k:Nat}(hc:X.calm=true)(hN:X.N.Nodup)(hi:X.N[i]?=some x)(hx:Loc X.env.scope x)(hj:X.N[j]?=some y)(hy:Loc X.env.scope y)
  (hf:X.fn x=true\/X.env.scope.names.lookup x=some .local:=by first|exact .inl rfl|exact .inr rfl|assumption) (ZK:X.fn y=true\/X.env.scope.names.lookup y=some .local:=by first|exact .inl rfl|exact .inr rfl|assumption) :
  Ue X V7 V8 (.Tuple [.Name x px,.Name y py] k pos) (gy i j) :=
 uX (tN hc (cY (dm hN hi hx hf) (cY (dm hN hj hy ZK) pI))) λv σ H Q ⟨HF,ρ,d,ρ',S,r,hf,q⟩=>by
  unfold gy at hf;split at hf
  ·cases hf;simp only[Rep] at r;obtain⟨a,vs,rfl,hs,rr⟩:=r;obtain⟨v1,r1,rfl,a1,b1⟩:=rr.cons_inv;obtain⟨v2,r2,rfl,a2,b2⟩:=b1.cons_inv;rw[b2.nil_inv] at hs;exact⟨a,_,rfl,aG S.gr.fh hs,rfl,v1,_,rfl,v2,_,rfl,rfl,q _ ((S.WM a1).WM a2)⟩
  ·cases hf
def cE(tgt:ar->D->Option ar)(gb:ar->Option Out):List D->ar->Option Out
 | [],ρ=>some (.nx ρ)
 | d::ds,ρ=>(tgt ρ d).bind λρ1=>(gb ρ1).bind fun|.nx Xw=>cE tgt gb ds Xw|.rt v=>some (.rt v)
def cq(fz:List Nat)(fi:Env->Option (List D))(tgt:ar->D->Option ar)(gb:ar->Option Out):ar->Option Out:=λρ=>(fi (bV (hand fz 0 ρ))).bind λds=>cE tgt gb ds (hand fz 0 ρ)
def QF(fz:List Nat)(hp:PassesOwn (model X.prog X.w) X.A X.env X.xe)(hc:X.calm=true)(hi:DI X tg iter fi)(hg:Ue X V7 V8 tg tgt)(hb:G9 X V7 V8 body gb)
  (hs:∀x,foldedSetIterable iter X.env x=pure x:=by intro _;rfl):DS X V7 V8 (.For tg iter body [] pos) (cq fz fi tgt gb):=cO (Py hp hc hi hg hb hs) λE σ H ⟨HF,ρ,o,S,hg,q⟩=>by
 obtain⟨ds,h,hg⟩:=bs hg;obtain⟨Wa,s1,S1⟩:=S.hand fz;refine⟨Wa,_,ds,S1.gr.fh,S1.WX,h,λJ H2 Wu G it=>?_⟩;refine⟨λi m σ' H'=>m+i=ds.length/\∃V9 ρ',lD X.K V7 V8 V9 H' ρ' σ'/\aS Wu V9/\cE tgt gb (ds.drop i) ρ'=some o,⟨ds.length,rfl,Wu,_,S1.grow G,.refl _,hg⟩,?_⟩;rintro i m σ' H' ⟨hm,V9,ρ',S',s',hf⟩;by_cases hi:i < ds.length
 ·refine .inr ?_;have hd:ds.drop i=ds[i]::ds.drop (i+1):=vF hi;have he:ds[i]?=some ds[i]:=List.getElem?_eq_some_iff.mpr ⟨hi,rfl⟩;generalize ds[i]=d at hd he;rw[hd] at hf;unfold cE at hf;obtain⟨ρ1,h1,hf⟩:=bs hf;obtain⟨o1,h2,hf⟩:=bs hf;obtain⟨go,yld⟩:=it.go i d H' V9 he s' S'.gr.fh;refine⟨go,λYx H3=>∃WL ρ3,lD X.K V7 V8 WL H3 ρ3 Yx/\aS Wu WL/\cE tgt gb (ds.drop (i+1)) ρ3=some o,λYx H3 ⟨WL,ρ3,a1,a2,a3⟩=>⟨m - 1,by lia,by lia,WL,ρ3,a1,a2,a3⟩,λx H3 y=>?_⟩;obtain⟨WL,G3,rx⟩:=yld x H3 y;refine⟨WL,ρ',d,ρ1,S'.grow G3,rx,h1,λYx S2=>⟨WL,ρ1,o1,S2,h2,?_⟩⟩;cases o1 with
  | nx Xw=>exactλσ4 H4 Xd S4 s4=>⟨Xd,Xw,S4,(s'.trans G3.ff).trans s4,hf⟩
  | rt d=>cases hf;exact q
 ·have Xt:i=ds.length:=by lia
  subst Xt;rw[List.drop_length] at hf;cases hf;exact .inl ⟨it.stop H' V9 s' S'.gr.fh,q σ' H' V9 S' ((s1.trans G.ff).trans s')⟩
end
def Mr(X:Cx)(sc:Scope):Prop:=∀x k,sc.names.lookup x=some k->X.env.kindOf x=some k\/(k=.free/\X.env.kindOf x=some .cell)
structure Bk(X:Cx)(N:List Str)(sc:Scope)(k:Nat):Prop where
 n:X.N=N
 nd:N.Nodup
 tb:Mr X sc
 calm:X.calm=true
 fn:∀x,sc.names.lookup x=some .cell->X.fn x=true
 room:eR k X.A
 xe:X.xe=λ_ _=>False
 kd:X.env.scope.kind=.function
def cN:List Str:=["len","isinstance","int","bool","tuple","list","range","all","any","set","sorted","enumerate","zip","sum","min","max","reversed","abs","dict","str","type","iter","next"]
def Bn(X:Cx):Prop:=∀x∈cN,X.mg x=none
def wo(sc:Scope)(x:Str):Bool:=decide (sc.names.lookup x=some .globalImplicit)
def Iu(N:List Str)(sc:Scope)(i:Nat)(x:Str):Bool:=decide (N[i]?=some x)&&(decide (sc.names.lookup x=some .local)||decide (sc.names.lookup x=some .cell)||decide (sc.names.lookup x=some .free))&&!(x == ("__debug__":Str))&&!(x == ("__classdict__":Str))
def qo(N:List Str)(sc:Scope)(i:Nat)(x:Str):Bool:=decide (N[i]?=some x)&&(decide (sc.names.lookup x=some .local)||decide (sc.names.lookup x=some .cell))
section
def Bk.gl(C:Bk X N sc k)(h:wo sc x=true):Gl X x:=by
 rcases C.tb x _ (yR h) with q|⟨q,_⟩
 ·exact q
 ·cases q
def Bk.vis(C:Bk X N sc k)(h:Iu N sc i x=true):X.N[i]?=some x/\NT X.env.scope x/\(x == ("__debug__":Str))=false/\(x == ("__classdict__":Str))=false:=by
 unfold Iu at h;simp only[zF,jC,zJ,yQ] at h;obtain⟨⟨⟨h1,h2⟩,h3⟩,h4⟩:=h;refine⟨by rw[C.n];exact h1,?_,h3,h4⟩;rcases h2 with (h2|h2)|h2
 ·rcases C.tb x _ h2 with q|⟨q,_⟩
  ·exact .inl q
  ·cases q
 ·rcases C.tb x _ h2 with q|⟨q,_⟩
  ·exact .inr (.inl q)
  ·cases q
 ·rcases C.tb x _ h2 with q|⟨_,q⟩
  ·exact .inr (.inr q)
  ·exact .inr (.inl q)
def Bk.loc(C:Bk X N sc k)(h:qo N sc i x=true):X.N.Nodup/\X.N[i]?=some x/\Loc X.env.scope x/\(X.fn x=true\/X.env.scope.names.lookup x=some .local):=by
 unfold qo at h;simp only[zF,jC,zJ] at h;obtain⟨h1,h2⟩:=h;refine⟨by rw[C.n];exact C.nd,by rw[C.n];exact h1,?_⟩;rcases h2 with h2|h2
 ·rcases C.tb x _ h2 with q|⟨q,_⟩
  ·exact⟨.inl q,.inr q⟩
  ·cases q
 ·rcases C.tb x _ h2 with q|⟨q,_⟩
  ·exact⟨.inr q,.inl (C.fn x h2)⟩
  ·cases q
def Bk.blt(C:Bk X N sc k)(B:Bn X)(h:wo sc x=true)(hm:x∈cN)(hv:bootBuiltins x=some v):se X x v:=⟨C.gl h,B x hm,hv⟩
def Bk.v(C:Bk X N sc k)(i:Nat)(h:Iu N sc i x=true):DE X (.Name x pos) (ae i):=let ⟨a,b,c,d⟩:=C.vis h;QV i a b c d
def Bk.pass(C:Bk X N sc k):PassesOwn (model X.prog X.w) X.A X.env X.xe:=by rw[C.xe];exact PassesOwn.never
def iZ(sc scope:Scope)(N N':List Str)(t:Nat)(cs:List Nat):Bool :=
 decide (scope.kind=.function)&&scope.names.all (λp=>(!decide (p.2=NameKind.free)||decide (sc.names.lookup p.1=some .cell)||decide (sc.names.lookup p.1=some .free))&&(!decide (p.2=NameKind.local)||decide (scope.names.lookup p.1=some .local)))
  &&scope.names.all (λp=>!decide (p.2=NameKind.cell)||!scope.names.any λq=>decide (q.1=p.1)&&decide (q.2=NameKind.free))
  &&decide (N'.length=t+cs.length)&&decide (N'.drop t=cs.filterMap λj=>N[j]?)&&cs.all (λj=>decide (j < N.length))&&(N'.drop t).all (λx=>decide (scope.names.lookup x=some .free))&&decide N'.Nodup
def filterMap_get(N:List α):∀ (cs:List Nat),(∀j∈cs,j < N.length)->∀ (i:Nat),(cs.filterMap λj=>N[j]?)[i]?=(cs[i]?).bind λj=>N[j]?
 | [],_,i=>by simp
 | c::cs,h,i=>by
  have hc:=h c zE;rw[jH,zK hc];cases i with
  | zero=>simp[hc]
  | succ i =>
   simp only[yZ];exact filterMap_get N cs (λj hj=>h j (zC _ hj)) i
def Bk.comp(C:Bk X N sc k){cs:List Nat}(h:iZ sc scope N N' t cs=true):iX X scope N' (lU t cs)/\∀fp s H,Bk (bb X scope N' fp s H) N' scope k:=by
 unfold iZ at h;simp only[zF,zJ,xH,jC,yQ,xC] at h;obtain⟨⟨⟨⟨⟨⟨⟨h1,h2⟩,h3⟩,h4⟩,h5⟩,h6⟩,h7⟩,h8⟩:=h;refine⟨⟨h1,λx hx hk=>?_,λ{x} a b=>?_,λx hx hk=>?_,λσ i x v e1 e2=>?_,λσ=>?_⟩,λfp s H=>⟨rfl,h8,λx k hx=>qb hx,C.calm,λx hx=>yA hx,C.room,rfl,h1⟩⟩
 ·rcases (h2 x hx).1 with (q|q)|q
  ·exact absurd hk q
  ·rcases C.tb _ _ q with z|⟨z,_⟩
   ·exact .inl z
   ·cases z
  ·rcases C.tb _ _ q with z|⟨_,z⟩
   ·exact .inr z
   ·exact .inl z
 ·rcases h3 _ a with q|q
  ·exact q rfl
  ·have:(scope.names.any λq=>decide (q.1=x)&&decide (q.2=NameKind.free))=true:=List.any_eq_true.mpr ⟨_,b,by simp⟩;rw[this] at q;cases q
 ·rcases (h2 x hx).2 with q|q
  ·exact absurd hk q
  ·exact q
 ·unfold lU at e2;by_cases hi:i < t
  ·rw[yT (by simpa using hi),yY,yM hi] at e2;cases e2
  ·rw[yU (by simpa using hi),zO,xN] at e2;obtain⟨j,hj,e2⟩:=ag e2;have e3:(N'.drop t)[i - t]?=some x:=by rw[List.getElem?_drop];rw[show t+(i - t)=i by lia];exact e1
   refine⟨h7 x (qC e3),j,?_,?_⟩
   ·rw[h5,filterMap_get N cs h6,hj] at e3;rw[C.n];exact e3
   ·cases e:σ[j]? with
    | none=>rw[e] at e2;cases e2
    | some o=>rw[e] at e2;have e2:o=some v:=e2;rw[e2]
 ·unfold lU;rw[zN,xN,zD,h4]
def bq(g:ar->Option Out)(n:Nat)(args:List D):Option D:=(g (args.map Slot.val++List.replicate (n - args.length) .V6)).map fun|.rt d=>d|.nx _=>.none
def OD{K:W.Frag}{st:Stmt}(F:JO K x qual st f fd)(S:dk N ps (aj st))
  (body:∀X:Cx,X.prog=P->X.w=w->X.K=K->X.mg=mg->X.base=base->Bk X N (aj st) k->X.env.code=fd.code->X.env.qual=qual++".<locals>."->∀V7 V8,G9 X V7 V8 (bG st) g):sJ P w K mg base Ml (k+1) f fd ps (SQ K ps.length (bq g N.length)):=by
 obtain⟨oc,od,kV,doc,pm,an,Wt,ct,Yi,rfl,lk,WS⟩:=F.ex;refine LY lk WS S (λvs H Q E ⟨HF,ds,d,h1,_,h2,h3,_⟩=>by rw[h2.length,h3]) λA outer s H vs Q E hr ⟨HF,ds,d,sm,tb,rr,hl,hd,q⟩=>?_;refine⟨_,(body (uR Ml P w K mg base N qual (aj st) f Wt A outer s H E).WD rfl rfl rfl rfl rfl ⟨rfl,S.nd,λy kd hy=>.inl hy,rfl,λ_ _=>rfl,hr,rfl,S.kind⟩ rfl rfl HF H).WD,?_⟩;unfold bq at hd;obtain⟨o,ho,hd⟩:=ag hd;have W5:ps.length<=N.length:=by have:=jD List.length S.pre;rw[jX] at this;lia
 refine⟨HF,_,o,⟨.refl sm,λi e h=>?_,λi es h=>?_,λi j es fs a h=>?_,?_,tb⟩,ho,?_⟩
 ·have hi:i < ds.length:=by
   by_cases hi:i < ds.length
   ·exact hi
   ·rw[yU (by simpa using hi),yY] at h;split at h<;>cases h
  rw[yT (by simpa using hi),zO] at h;obtain⟨d',ZU,h⟩:=ag h;cases h;obtain⟨v,hv,rv⟩:=rr.getD ZU;refine⟨v,?_,rv⟩;unfold L2.start;rw[yT (by simpa [rr.length] using hi),zO,hv];rfl
 ·exfalso;by_cases hi:i < ds.length
  ·rw[yT (by simpa using hi),zO] at h;obtain⟨d',ZU,h⟩:=ag h;cases h
  ·rw[yU (by simpa using hi),yY] at h;split at h<;>cases h
 ·exfalso;by_cases hi:i < ds.length
  ·rw[yT (by simpa using hi),zO] at h;obtain⟨d',ZU,h⟩:=ag h;cases h
  ·rw[yU (by simpa using hi),yY] at h;split at h<;>cases h
 ·unfold L2.start;rw[zN,zN,zD,zD,xN,xN,rr.length];exact yN _
 ·cases o with
  | rt d'=>cases hd;exactλv H' V9 G r=>q v H' V9 G r
  | nx ρ'=>cases hd;exactλσ' H' V9 S' _=>q .V6 H' V9 S'.gr (by simp[Rep])
def Vy{K:W.Frag}{st:Stmt}(F:JO K x qual st f fd)(S:dk N ps (aj st))(hb:Binds K fd ps [])(hm:mg x=some (.ref f))
  (body:∀X:Cx,X.prog=P->X.w=w->X.K=K->X.mg=mg->X.base=base->Bk X N (aj st) k->X.env.code=fd.code->X.env.qual=qual++".<locals>."->∀V7 V8,G9 X V7 V8 (bG st) g):eB P w K mg base (k+1) x ps.length (bq g N.length):=⟨f,fd,ps,OD F S body,hm,F.kp,hb⟩
end
section
def oD(fz:List Nat)(f:Env->Option D)(ρ:ar):Option (D×ar):=(f (aK ρ)).bind λd=>if sT d=true then some (d,ρ) else (f (bV (hand fz 0 ρ))).map λd'=>(d',hand fz 0 ρ)
def pZ{K:W.Frag}(S:lD K V7 V8 HF H ρ σ)(h:oD fz f ρ=some (d,ρ'))
  (q:∀v H' V9,aS HF V9->lD K V7 V8 V9 H' ρ' σ->aS H H'->Rep K V9 d v->Q v H'):tD K f σ H Q:=by
 obtain⟨d1,h1,h⟩:=bs h;split at h
 ·rename_i hs;cases h;exact⟨H,aK ρ,d,.refl _,S.all,h1,λv H' V9 G r=>q v H' HF (.refl _) (S.step G.hh) G.hh (BN hs r)⟩
 ·obtain⟨d2,h2,h⟩:=ag h;cases h;obtain⟨Wa,s1,S1⟩:=S.hand fz;exact⟨Wa,_,d,S1.gr.fh,S1.WX,h2,λv H' V9 G r=>q v H' V9 (s1.trans G.ff) (S1.grow G) G.hh r⟩
def sQ(i:Nat)(m:List D->Option (List D))(ρ:ar):Option Out:=match ρ[i]? with
 | some (.own ds)=>(m ds).map λes=>.nx (ρ.set i (.own es))
 | _=>none
def mJ(h:sQ i m ρ=some o):∃ds es,ρ[i]?=some (.own ds)/\m ds=some es/\o=.nx (ρ.set i (.own es)):=by
 unfold sQ at h;split at h
 ·rename_i ds hd;obtain⟨es,h1,h2⟩:=ag h;exact⟨ds,es,hd,h1,h2.symm⟩
 ·cases h
def lD.mut{K:W.Frag}(S:lD K V7 V8 HF H ρ σ)(h:ρ[i]?=some (.own ds))(ha:σ[i]?=some (some (.ref a)))(hH:H a=some (.lst vs))(r:ax K HF es us) :
  lD K V7 V8 HF (upd H a (.lst us)) (ρ.set i (.own es)) σ:=by
 obtain⟨a',vs',e1,e2,e3,e5,e4⟩:=S.own i ds h;rw[ha] at e1;cases e1;have hl:i < ρ.length:=(List.getElem?_eq_some_iff.mp h).1;have gr:bX V7 V8 HF (upd H a (.lst us)):=⟨λb o e=>by rw[aB (aU e e5)];exact S.gr.hh b o e,S.gr.ff,λb o e=>by rw[aB (aU e e3)];exact S.gr.fh b o e,S.gr.nw⟩
 refine⟨gr,λj d hj=>?_,λj xs hj=>?_,λj k xs ys b f1 f2 f3 f4=>?_,by rw[yC];exact S.len,S.tb⟩
 ·rw[xJ] at hj;by_cases Wx:i=j
  ·rw[yM Wx] at hj;split at hj<;>cases hj
  ·rw[yO Wx] at hj;exact S.val j d hj
 ·rw[xJ] at hj;by_cases Wx:i=j
  ·subst Wx;rw[yM rfl,yM hl] at hj;cases hj;exact⟨a,us,ha,aF,e3,e5,r⟩
  ·rw[yO Wx] at hj;obtain⟨b,ws,f1,f2,f3,f5,f4⟩:=S.own j xs hj;refine⟨b,ws,f1,?_,f3,f5,f4⟩;rw[aB]
   ·exact f2
   ·rintro rfl;exact Wx (S.inj i j ds xs b h hj ha f1)
 ·have old:∀ {j:Nat}{xs:List D},(ρ.set i (.own es))[j]?=some (.own xs)->∃ys,ρ[j]?=some (.own ys):=λ{j xs} hj=>by
   rw[xJ] at hj;by_cases Wx:i=j
   ·subst Wx;exact⟨ds,h⟩
   ·rw[yO Wx] at hj;exact⟨xs,hj⟩
  obtain⟨xs',g1⟩:=old f1;obtain⟨ys',g2⟩:=old f2;exact S.inj j k xs' ys' b g1 g2 f3 f4
def lG(i:Nat)(fz:List Nat)(f:Env->Option D):ar->Option Out:=λρ=>(oD fz f ρ).bind λp=>sQ i (λds=>if ds.length < sizeLine then some (ds++[p.1]) else none) p.2
def IJ(i:Nat)(fz:List Nat)(hN:X.N[i]?=some x)(hv:NT X.env.scope x)(h:DE X e f)(hd:(x == ("__debug__":Str))=false:=by decide)(WS:(x == ("__classdict__":Str))=false:=by decide)
  (Xg:((backTo cpos (starEach [e] X.env)).all (λx=>!x.1)&&(backToKw cpos (keywordEach [] X.env)).all (λx=>x.1.isSome)&&decide ([e].length+([]:List Keyword).length+(if ([]:List Keyword).isEmpty then 0 else 1) < 30))=true:=by rfl)
  (Wr:(apos.endLine == cpos.line)=true:=by rfl) (hs:starEach [e] X.env=(false,eval e X.env)::starEach [] X.env:=by rfl) :
  DS X V7 V8 (.Expr (.Call (.Attribute (.Name x px) "append" apos) [e] [] cpos) pos) (lG i fz f) :=
 cO (pD (uV qP PySem.F.slot_list_append PySem.F.type_list_append yp (l4 hN hv hd WS) (cK h fT hs) rfl Xg Wr hs rfl)) λE σ H ⟨HF,ρ,o,S,hg,q⟩=>by
  obtain⟨⟨d,ρ'⟩,h1,hg⟩:=bs hg;obtain⟨ds,es,h2,h3,rfl⟩:=mJ hg;have Ym:∃ds',ρ[i]?=some (.own ds'):=by
   obtain⟨d1,_,h1⟩:=bs h1;split at h1
   ·cases h1;exact⟨ds,h2⟩
   ·obtain⟨d2,_,h1⟩:=ag h1;cases h1;rw[jf] at h2;obtain⟨s,hs,h2⟩:=ag h2;cases s with
    | V6=>split at h2<;>cases h2
    | val _=>split at h2<;>cases h2
    | own xs=>exact⟨xs,hs⟩
  obtain⟨ds',Ym⟩:=Ym;obtain⟨a,vs,e1,e2,e3,e5,e4⟩:=S.own i ds' Ym;refine⟨.ref a,e1,.inl ⟨rfl,vs,iw.of e2⟩,pZ S h1 λv H' V9 s1 S' sh r=>?_⟩;obtain⟨a',vs',f1,f2,f3,f5,f4⟩:=S'.own i ds h2;rw[e1] at f1;cases f1;split at h3
  ·rename_i hz;cases h3;exact⟨a,vs',v,rfl,rfl,f2,by rw[f4.length];exact hz,q σ _ V9 (S'.mut h2 e1 f2 (f4.append (ax.cons r ax.nil))) s1⟩
  ·cases h3
end
def Aq(K:W.Frag)(o:Obj):Option (Addr×Str):=match o.data with
 | .func fd=>if lW.contains fd.qualname=true then (match fd.code with
   | .ref c=>(match K.lookup c with
    | some ⟨_,_,.fields vs,_⟩=>(match (vs[11]?:Option Value) with
     | some (.ref P)=>if W.codeHdIn K c P=true then some (P,fd.qualname++".<locals>."++"<lambda>") else none
     | _=>none)
    | _=>none)
   | _=>none) else none
 | _=>none
def i8(K:W.Frag):List (Addr×Str):=K.filterMap λp=>Aq K p.2
def oV(K:W.Frag)(ts:List Addr):Bool:=(i8 K).all λp=>ts.contains p.1&&(K.lookup p.1).isNone&&decide ((i8 K).lookup p.1=some p.2)
def CI{K:W.Frag}(h:Aq K o=some (P,q)):∃c,W.codeHdIn K c P=true:=by
 unfold Aq at h;split at h
 ·split at h
  ·split at h
   ·split at h
    ·split at h
     ·split at h
      ·cases h;exact⟨_,‹_›⟩
      ·cases h
     ·cases h
    ·cases h
   ·cases h
  ·cases h
 ·cases h
def Cm{K:W.Frag}(h:(P,q)∈i8 K):∃c,W.codeHdIn K c P=true:=by
 obtain⟨p,_,e⟩:=List.mem_filterMap.mp h;exact CI e
def EC{K:W.Frag}(a:K.lookup f=some ⟨oc,od,.func fd,sl⟩)(b:fd.qualname∈lW)(d:fd.code=.ref c)(e:W.codeHdIn K c P=true) :
  (P,fd.qualname++".<locals>."++"<lambda>")∈i8 K:=by
 refine List.mem_filterMap.mpr ⟨(f,_),W.mem_of_lookupK a,?_⟩;have e':=e;unfold W.codeHdIn at e';unfold Aq;simp only[d,List.contains_iff_mem,b,xI];split at e'
 ·rename_i vs sl' hl;simp only[hl];simp only[zF] at e';have e1:=e'.1.1.1.1.1;split at e1
  ·rename_i P' hv;have:P'=P:=by simpa using e1
   subst this;simp only[hv,e,xI]
  ·cases e1
 ·cases e'
def LM:∀ {l:List (Addr×α)},l.lookup b=some q->(b,q)∈l
 | [],e=>by cases e
 | (c,x)::r,e=>by
  rw[yB] at e;cases h:b == c with
  | true=>rw[h] at e;cases e;rw[eq_of_beq h];exact zE
  | false=>rw[h] at e;exact zC _ (LM e)
def f7(K:W.Frag)(h0:Hp):Hp:=λb=>match (i8 K).lookup b with|some q=>some (.tab q)|none=>h0 b
def IE{K:W.Frag}(h:oV K ts=true):fK K (f7 K h0):=λf oc od fd sl c P a b d e=>by
 have hm:=EC a b d e;have:=List.all_eq_true.mp h _ hm;simp only[zF,zJ] at this;unfold f7;rw[this.2]
def Hl{w:World}{K:W.Frag}{CX:MZ}{k:Nat}{fa:Addr}{fd:FuncData}{sp:Sp}{vs:List Value}{ns:List Int}
  (KX:K.In We.heap) (XU:We.heap.Ns mainGlobals mg) (hb:We.heap.Ns builtinsNs mb) (hbb:∀x:Str,x≠"__name__"->mb x=bootBuiltins x) (X3:We.heap.NoLimit) (hbm:TK mg We.heap) (hg:We.gens=#[])
  (ht:oV K ts=true) (hts:∀P∈ts,We.heap.get? P=some (W.tabObj #[]))
  (ha:We.heap.get? a=some { cls:=.type "list",data:=.seq vs.toArray }) (hi:IntsAre vs ns) (hl:ns.length<=sizeLine) (hr:eR k callerA)
  (F:∀base:Heap,K.In base->base.Ns mainGlobals mg->sJ P w K mg base CX k fa fd [x] sp) (abZ:∀ (s:Shared) (u:Value),BindsTo s fd ⟨[u],[]⟩ [(x,u)])
  (hsp:∀H:Hp,fK K H->iw K H a (ns.map V.int)->sp [.ref a] H (λv _=>v=.bl true) λ_ _ _=>False)
  (hCX:∀H e s',CX [] H We (λ_ _ _=>False) e s'->False) :
  codeAny (model P w) callerA (.call (.ref fa) ⟨[.ref a],[]⟩) (λr s'=>r=.ok (.ret (.bool true))/\OldK We.heap s'.heap/\s'.os=We.os/\AllBare s'.gens) We:=by
 have rv:=xv hi;have adJ:=hi.length;have tabAt:∀b q,(i8 K).lookup b=some q->We.heap.get? b=some (W.tabObj #[])/\K.lookup b=none/\∃c,W.CodeHd We.heap c b:=λb q e=>by
  have hm:=LM e;have:=List.all_eq_true.mp ht _ hm;simp only[zF,zJ,List.contains_iff_mem,Option.isNone_iff_eq_none] at this;obtain⟨c,hc⟩:=Cm hm;exact⟨hts b this.1.1,this.1.2,c,W.codeHd_of_K KX hc⟩
 have aT:(i8 K).lookup a=none:=by
  cases e:(i8 K).lookup a with
  | none=>rfl
  | some q=>have:=(tabAt a q e).1;rw[ha] at this;cases this
 have core:∀h0:Hp,iw K (f7 K h0) a (ns.map V.int)->pU P w (f7 K h0) We.heap->(∀b,h0 b≠none->b=a)->(h0 a≠none->K.lookup a=none)->(∀b,h0 b=none\/∃o xs,h0 b=some (.WX o (.lst xs))) ->
   codeAny (model P w) callerA (.call (.ref fa) ⟨[.ref a],[]⟩) (λr s'=>r=.ok (.ret (.bool true))/\OldK We.heap s'.heap/\s'.os=We.os/\AllBare s'.gens) We:=by
  intro h0 hS Wb hA hK hO;have look:∀b u,f7 K h0 b=some u->(∃q,(i8 K).lookup b=some q/\u=.tab q)\/(b=a/\h0 b=some u):=λb u e=>by
   unfold f7 at e;split at e
   ·rename_i q hq;cases e;exact .inl ⟨q,hq,rfl⟩
   ·exact .inr ⟨hA b (by rw[e];simp),e⟩
  have pK:∀ {b:Addr}{o:Obj},We.heap.get? b=some o->f7 K h0 b=none->(Ai We.heap (f7 K h0)).get? b=some o:=λe n=>Lw e n;have ZI:∀ {b:Addr}{o:Obj},We.heap.get? b=some o->(∀vs n,o.data≠.seq vs n)->(∀vs,o.data≠.fields vs)->f7 K h0 b=none:=λ{b o} e d d2=>by
   cases q:f7 K h0 b with
   | none=>rfl
   | some u =>
    rcases look b u q with ⟨q',z,_⟩|⟨z,_⟩
    ·rw[(tabAt b q' z).1] at e;cases e;exact absurd rfl (d2 _)
    ·subst z;rw[ha] at e;cases e;exact absurd rfl (d _ _)
  have nsK:∀ {b:Addr}{m:Str->Option Value},We.heap.Ns b m->(Ai We.heap (f7 K h0)).Ns b m:=λ{b m} ⟨o,es,ep,e,d,r⟩=>⟨o,es,ep,pK e (ZI e (λ_ _ z=>by rw[d] at z;cases z) λ_ z=>by rw[d] at z;cases z),d,r⟩
  have hKb:K.In (Ai We.heap (f7 K h0)):=λb o e=>pK (KX b o e) (by
   cases q:f7 K h0 b with
   | none=>rfl
   | some u =>
    rcases look b u q with ⟨q',z,_⟩|⟨z,z2⟩
    ·rw[(tabAt b q' z).2.1] at e;cases e
    ·subst z;rw[hK (by rw[z2];simp)] at e;cases e)
  have hM:Mod K mg (Ai We.heap (f7 K h0)):=⟨hKb,nsK XU,⟨mb,nsK hb,hbb⟩,let ⟨mc,h1,h2⟩:=X3;⟨mc,nsK h1,h2⟩,
   let ⟨bm,o,b1,b2,b3,b4,b5,b6,b7⟩:=hbm;⟨bm,o,b1,b2,b3,pK b4 (ZI b4 (λ_ _ z=>by rw[b7] at z;cases z) λ_ z=>by rw[b7] at z;cases z),b5,b6,b7⟩⟩
  have e0:DY P w K mg (Ai We.heap (f7 K h0)) callerA [] We (f7 K h0):=⟨rfl,hM,λb o e=>N9 e,Nat.le_of_eq (Hm _ _),trivial,λb hb=>absurd (show b∈([]:List Addr) from hb) (by simp),Wb,.of_eq hg⟩
  refine jT ((F _ hKb (nsK XU)).run callerA [] We (f7 K h0) ⟨[.ref a],[]⟩ [.ref a] [.ref a] _ _ hr e0 (abZ We (.ref a)) (.cons rfl .nil) (hsp _ (IE ht) hS)) λr s' h=>?_;cases r with
  | error e=>exact (hCX _ e s' h).elim
  | ok fl =>
   cases fl with
   | next=>exact False.elim h
   | brk=>exact False.elim h
   | cont=>exact False.elim h
   | ret u =>
    obtain⟨v,H',os,bare,un,adK,r',q⟩:=h;have q':v=.bl true:=q;subst q';obtain rfl:u=Value.bool true:=r';have key:∀b o,We.heap.get? b=some o->s'.heap.get? b=some o\/(isCodeTable We.heap b/\o=W.tabObj #[]/\∃ps,s'.heap.get? b=some (W.tabObj ps)):=λb o e=>by
     cases q:f7 K h0 b with
     | none=>exact .inl (un.keep b o e q (by intro z;exact absurd (show b∈([]:List Addr) from z) (by simp)) (by simp))
     | some u =>
      rcases look b u q with ⟨q',z,rfl⟩|⟨z,z2⟩
      ·obtain⟨t1,_,c,t3⟩:=tabAt b q' z;obtain⟨more,m1⟩:=un.WR.gr b q' #[] q t1;rw[e] at t1;cases t1;exact .inr ⟨(t3.tab e).isCodeTable,rfl,_,m1⟩
      ·rcases hO b with z3|⟨ob,xs,z3⟩
       ·rw[z2] at z3;cases z3
       ·rw[z2] at z3;cases z3;have z4:=un.WZ b ob _ q;obtain⟨e1,_⟩:=Wb b _ q;obtain⟨e2,_⟩:=adK b _ z4;rw[e] at e1;cases e1;exact .inl e2
    refine⟨rfl,⟨λb o e=>?_,λb o e=>?_⟩,os,bare⟩
    ·rcases key b o e with z|⟨t,rfl,ps,z⟩
     ·exact .inl z
     ·exact .inr (.inl ⟨t,rfl,#[],ps,rfl,by rw[Array.empty_append];exact z⟩)
    ·rcases key b o e with z|⟨_,_,ps,z⟩
     ·exact⟨o,z⟩
     ·exact⟨_,z⟩
 have hoT:∀ (h0:Hp) b q,(i8 K).lookup b=some q->fw P w (f7 K h0) We.heap b (.tab q):=λh0 b q e=>⟨#[],(tabAt b q e).1,trivial,λpos v z=>by cases z⟩
 cases hk:K.lookup a with
 | some o =>
  have e:=KX a o hk;rw[ha] at e;cases e;refine core (λ_=>none) (.inr ⟨_,vs.toArray,_,hk,rfl,rfl,rfl,by rw[zH,adJ];exact hl,by simpa using rv⟩) (λb u z=>?_) (λb z=>absurd rfl z) (λz=>absurd rfl z) λ_=>.inl rfl;unfold f7 at z;split at z
  ·rename_i q hq;cases z;exact hoT _ b q hq
  ·cases z
 | none =>
  refine core (λb=>if b=a then some (.WX { cls:=.type "list",data:=.seq vs.toArray } (.lst (ns.map V.int))) else none) (.inl (.inr ⟨{ cls:=.type "list",data:=.seq vs.toArray },?_⟩)) (λb u z=>?_) (λb z=>?_) (λ_=>hk) λb=>?_
  ·unfold f7;rw[aT];exact yM rfl
  ·unfold f7 at z;split at z
   ·rename_i q hq;cases z;exact hoT _ b q hq
   ·by_cases hb:b=a
    ·replace z:=(yM hb).symm.trans z;cases z;subst hb;exact⟨ha,by rw[zD];exact hl,vs,_,rv,ha⟩
    ·replace z:=(yO hb).symm.trans z;cases z
  ·by_cases hb:b=a
   ·exact hb
   ·exact absurd (yO hb) z
  ·by_cases hb:b=a
   ·exact .inr ⟨_,_,yM hb⟩
   ·exact .inl (yO hb)
def Jr{l:W.OpenLaw}{n k:Nat}{q:Program}{loose:List Str}{XP:(Str->Option Value)->Heap->Prop}{YP:World->Heap->Prop}{d:DefRec}{K:Params->W.Frag}{CX:World->MZ}{sp:World->Sp}{x:Str}{ts:List Addr}
  (hn:l.most=some n) (hn2:n<=sizeLine) (hdf:d.params.defaults=[]) (hr:eR k callerA)
  (hY:∀ (w:World) (h:Heap),YP w h->(K w.params).In h/\∀P∈ts,h.get? P=some (W.tabObj #[])) (ht:∀w:World,oV (K w.params) ts=true)
  (F:∀ (w:World) (mg:Str->Option Value) (fa:Addr) (h:Heap),(K w.params).In h->h.Ns mainGlobals mg->mg d.name=some (.ref fa) ->
   ∃fd:FuncData,(∀ (s:Shared) (u:Value),BindsTo s fd ⟨[u],[]⟩ [(x,u)]) /\
    ∀base:Heap,(K w.params).In base->base.Ns mainGlobals mg->sJ l.prog w (K w.params) mg base (CX w) k fa fd [x] (sp w))
  (hsp:∀ (w:World) (H:Hp) (a:Addr) (ns:List Int),ns.length<=n->fK (K w.params) H->iw (K w.params) H a (ns.map V.int)->sp w [.ref a] H (λv _=>v=.bl true) λ_ _ _=>False)
  (hCX:∀ (w:World) (H:Hp) (s:Shared) (e:Value) (s':Shared),CX w [] H s (λ_ _ _=>False) e s'->False) :
  W.WalkO q loose XP YP l.row.toRowW d [] (λf vs=>PySem.call f vs):=by
 refine Att.X2 hn hdf λw Wf We mg mb fa o pm cd doc a vs ns G Y ho hd WS hmg aaX hints hlen hg=>?_;obtain⟨KX,hts⟩:=hY w _ Y;obtain⟨fd,hb,hF⟩:=F w mg fa _ KX G.T.g hmg;have hbm:TK mg We.heap:=by
  obtain⟨bm,ob,b1,b2,b3,b4,b5,b6⟩:=G.T.bmain;refine⟨bm,ob,b1,b2,λz=>?_,b3,b4,b5,b6⟩;obtain⟨o',es,ep,e1,e2,_⟩:=G.T.g;rw[<- z,b3] at e1;cases e1;rw[b6] at e2;cases e2
 exact Hl KX G.T.g G.T.b G.T.builtins G.T.nolimit hbm hg (ht w) hts aaX hints (yD hlen hn2) hr hF hb (λH hT hS=>hsp w H a ns hlen hT hS) λH e s'=>hCX w H We e s'
end Dl
namespace SP
open PySem PySem.W PyProof.Rows
def run(lt:Nat->Nat->Bool):KasT α->α
 | .ret a=>a
 | .ask i j k=>run lt (k (lt i j))
def j3(lt:Nat->Nat->Bool)(f:α->KasT β):∀t:KasT α,run lt (t.bind f)=run lt (f (run lt t))
 | .ret a=>rfl
 | .ask i j k=>by
  show run lt ((k (lt i j)).bind f)=run lt (f (run lt (k (lt i j))));exact j3 lt f (k (lt i j))
def RV(n:Nat):KasT α->Prop
 | .ret _=>True
 | .ask i j k=>i < n/\j < n/\∀b,RV n (k b)
def wp_run(hc:∀i j C,i < n->j < n->C (lt i j) s->cmp i j C s):∀ (t:KasT α) {Q:α->Shared->Prop},RV n t->Q (run lt t) s->t.kasWp cmp Q s
 | .ret a,Q,_,h=>h
 | .ask i j k,Q,b,h=>hc i j _ b.1 b.2.1 (wp_run hc (k (lt i j)) (b.2.2 _) h)
def uO(n:Nat)(R:α->Prop):KasT α->Prop
 | .ret a=>R a
 | .ask i j k=>i < n/\j < n/\∀b,uO n R (k b)
def p6:∀ {t:KasT α},uO n R t->(∀a,R a->RV n (f a))->RV n (t.bind f)
 | .ret a,b,h=>h a b
 | .ask i j k,b,h=>⟨b.1,b.2.1,λc=>p6 (b.2.2 c) h⟩
def kn:∀ {t:KasT α},uO n R t->(∀a,R a->uO n S (f a))->uO n S (t.bind f)
 | .ret a,b,h=>h a b
 | .ask i j k,b,h=>⟨b.1,b.2.1,λc=>kn (b.2.2 c) h⟩
def Bd(n:Nat)(p:Array Nat):Prop:=∀a,p.getD a 0 < n
def Bd.perm(h:Bd n p)(e:q.Perm p):Bd n q:=by
 intro a;rw[qE];cases ha:q[a]? with
 | none=>have:=h p.size;rw[qE] at this;simpa using this
 | some x =>
  have hx:x∈q:=Array.mem_of_getElem? ha;have X4:x∈p:=e.mem_iff.mp hx;obtain⟨i,hi,rfl⟩:=Array.mem_iff_getElem.mp X4;have:=h i;rw[qE] at this;simpa [hi] using this
def KQ(h:Bd n p):∀f m,uO n (λ_=>True) (kas_asc p f m)
 | 0,m=>trivial
 | f+1,m=>⟨h _,h _,λc=>by
  dsimp only;split
  ·trivial
  ·exact KQ h f (m+1)⟩
def BD(h:Bd n p)(i j:Nat):Bd n (kas_rev p i j):=h.perm (mirror_perm _ _ _ _)
def AU:∀ (f:Nat) {p:Array Nat}(h:Bd n p) (m q:Nat),uO n (λr=>Bd n r.1) (kas_desc f p m q)
 | 0,p,h,m,q=>h
 | f+1,p,h,m,q=>⟨h _,h _,λc=>by
  dsimp only;split
  ·split
   ·exact AU f (BD h _ _) (m+1) 0
   ·exact AU f h (m+1) 0
  ·exact⟨h _,h _,λd=>by
    dsimp only;split
    ·exact h
    ·exact AU f h (m+1) (q+1)⟩⟩
def Fz(h:Bd n p)(m nrem:Nat):uO n (λr=>Bd n r.2) (kas_tail3 m nrem p):=kn (KQ (BD h 0 m) _ _) λ_ _=>BD h 0 m
def ug(h:Bd n p)(m nrem:Nat):uO n (λr=>Bd n r.2) (kas_descPart m nrem p):=kn (AU _ h _ _) λr hr=>by
 split
 ·exact Fz (BD hr _ _) _ _
 ·exact Fz hr _ _
def Mq(h:Bd n p)(nrem:Nat):uO n (λr=>Bd n r.2) (kas_count nrem p):=kn (KQ h _ _) λm _=>by
 split
 ·exact h
 ·split
  ·exact⟨h _,h _,λc=>by
    dsimp only;split
    ·exact h
    ·exact ug (BD h _ _) _ _⟩
  ·exact ug h _ _
def AF(h:Bd n p)(k:Nat):∀f l r,uO n (λ_=>True) (kas_place p k f l r)
 | 0,l,r=>trivial
 | f+1,l,r=>by
  unfold kas_place;split
  ·trivial
  ·exact⟨h _,h _,λc=>by
    dsimp only;split
    ·exact AF h k f _ _
    ·exact AF h k f _ _⟩
def OM:∀ (f:Nat) {p:Array Nat}(h:Bd n p) (k:Nat),RV n (kas_bin f p k)
 | 0,p,h,k=>trivial
 | f+1,p,h,k=>p6 (AF h k _ _ _) λl _=>OM f (h.perm (bubble_perm _ _ _)) (k+1)
def LS(h1:1<=n):RV n (kas_sort n):=by
 have h:Bd n (List.toArray (List.range n)):=λa=>by
  rw[qE];by_cases ha:a < n
  ·simp[ha]
  ·simp[ha];lia
 refine p6 (Mq h n) λr hr=>?_;split
 ·exact OM _ hr _
 ·trivial
section
variable (z:Nat->Int)
def Z(p:Array Nat)(a:Nat):Int:=z (p.getD a 0)
def fW:Nat->Nat->Bool:=λi j=>decide (z i < z j)
def oG(h:p[a]?=q[b]?):Z z p a=Z z q b:=by
 unfold Z;rw[qE,qE,h]
def LU(hj:j<=p.size)(k:Nat):Z z (kas_rev p i j) k=if i<=k/\k < j then Z z p (i+j - 1 - k) else Z z p k:=by
 have e:=getElem?_mirror_all (xs:=p) (i:=i) hj k;unfold kas_rev;by_cases h1:i<=k/\k < j
 ·rw[yM h1] at e ⊢;exact oG z e
 ·rw[yO h1] at e ⊢;exact oG z e
def Kp(hs:src < p.size)(hd:d<=src)(k:Nat):Z z (bubble p src d) k=if k=src - d then Z z p src else if src - d < k/\k<=src then Z z p (k - 1) else Z z p k:=by
 have e:=getElem?_bubble hs d hd k;by_cases h1:k=src - d
 ·rw[yM h1] at e ⊢;exact oG z e
 ·rw[yO h1] at e ⊢;by_cases h2:src - d < k/\k<=src
  ·rw[yM h2] at e ⊢;exact oG z e
  ·rw[yO h2] at e ⊢;exact oG z e
def Up(p:Array Nat)(n:Nat):Prop:=∀a b,a<=b->b < n->Z z p a<=Z z p b
def Dn(p:Array Nat)(n:Nat):Prop:=∀a b,a<=b->b < n->Z z p b<=Z z p a
variable {z}
def Mu(h:Up z p n)(hn:1<=n)(h1:Z z p (n - 1)<=Z z p n):Up z p (n+1):=by
 intro a b Xf hb;by_cases hbn:b < n
 ·exact h a b Xf hbn
 ·have e:b=n:=by lia
  subst e;by_cases ha:a=b
  ·subst ha;exact qA _
  ·exact jV (h a (b - 1) (by lia) (by lia)) h1
def UK:∀ (f n:Nat),1<=n->Up z p n->n<=run (fW z) (kas_asc p f n)/\run (fW z) (kas_asc p f n)<=n+f/\Up z p (run (fW z) (kas_asc p f n))/\(run (fW z) (kas_asc p f n) < n+f->Z z p (run (fW z) (kas_asc p f n)) < Z z p (run (fW z) (kas_asc p f n) - 1))
 | 0,n,hn,h=>⟨yN _,yN _,h,λq=>absurd q (qF _)⟩
 | f+1,n,hn,h=>by
  unfold kas_asc;show n<=run (fW z) (if fW z (p.getD n 0) (p.getD (n - 1) 0)=true then .ret n else kas_asc p f (n+1))/\run (fW z) (if fW z (p.getD n 0) (p.getD (n - 1) 0)=true then .ret n else kas_asc p f (n+1))<=n+(f+1)/\Up z p (run (fW z) (if fW z (p.getD n 0) (p.getD (n - 1) 0)=true then .ret n else kas_asc p f (n+1)))/\(run (fW z) (if fW z (p.getD n 0) (p.getD (n - 1) 0)=true then .ret n else kas_asc p f (n+1)) < n+(f+1)->Z z p (run (fW z) (if fW z (p.getD n 0) (p.getD (n - 1) 0)=true then .ret n else kas_asc p f (n+1))) < Z z p (run (fW z) (if fW z (p.getD n 0) (p.getD (n - 1) 0)=true then .ret n else kas_asc p f (n+1)) - 1))
  by_cases hc:fW z (p.getD n 0) (p.getD (n - 1) 0)=true
  ·rw[yM hc];exact⟨yN _,jW _ _,h,λ_=>yR hc⟩
  ·rw[yO hc];have h1:Z z p (n - 1)<=Z z p n:=by
    have:¬ (Z z p n < Z z p (n - 1)):=λq=>hc (yA q);lia
   obtain⟨a,b,c,d⟩:=UK f (n+1) (by lia) (Mu h hn h1);exact⟨by lia,by lia,c,λq=>d (by lia)⟩
def EL(hj:j<=p.size)(h:∀a b,i<=a->a < j->i<=b->b < j->Z z p a=Z z p b)(k:Nat):Z z (kas_rev p i j) k=Z z p k:=by
 rw[LU z hj];split
 ·rename_i hk;exact h _ _ (by lia) (by lia) hk.1 hk.2
 ·rfl
def KC(e:∀k,Z z q k=Z z p k)(h:Dn z p n):Dn z q n:=λa b Xf hb=>by rw[e,e];exact h a b Xf hb
def Ri(hn:n<=p.size)(h:Dn z p n):Up z (kas_rev p 0 n) n:=by
 intro a b Xf hb;rw[LU z hn,LU z hn,yM ⟨xW _,by lia⟩,yM ⟨xW _,hb⟩];exact h _ _ (by lia) (by lia)
def oE(p:Array Nat)(i j:Nat):(kas_rev p i j).size=p.size:=mirror_size _ _ _ _
def pb(p:Array Nat)(i j:Nat):(kas_rev p i j).Perm p:=mirror_perm _ _ _ _
structure QN(z:Nat->Int)(Ws p:Array Nat)(n q nrem:Nat):Prop where
 perm:p.Perm Ws
 size:p.size=Ws.size
 le:n<=nrem
 qn:q+1<=n
 dn:Dn z p n
 eq:∀a b,n - (q+1)<=a->a < n->n - (q+1)<=b->b < n->Z z p a=Z z p b
def Nc(hz:nrem<=Ws.size):∀ (f:Nat) (p:Array Nat) (n q:Nat),n+f<=nrem->QN z Ws p n q nrem ->
  let r:=run (fW z) (kas_desc f p n q);QN z Ws r.1 r.2.1 r.2.2 nrem
 | 0,p,n,q,hn,h=>h
 | f+1,p,n,q,hn,h=>by
  intro r;have hr:r=run (fW z) (if fW z (p.getD n 0) (p.getD (n - 1) 0)=true then (if q > 0 then kas_desc f (kas_rev p (n - (q+1)) n) (n+1) 0 else kas_desc f p (n+1) 0)
   else .ask (p.getD (n - 1) 0) (p.getD n 0) λd=>if d=true then .ret (p,n,q) else kas_desc f p (n+1) (q+1)):=rfl
  have hq:=h.qn;by_cases hc:fW z (p.getD n 0) (p.getD (n - 1) 0)=true
  ·rw[yM hc] at hr;have Wg:Z z p n < Z z p (n - 1):=yR hc;have step:∀p':Array Nat,p'.Perm Ws->p'.size=Ws.size->(∀k,Z z p' k=Z z p k)->QN z Ws p' (n+1) 0 nrem:=λp' a1 a2 a3=>by
    refine⟨a1,a2,by lia,by lia,λa b Xf hb=>?_,λa b h1 h2 h3 h4=>by rw[show a=b by lia]⟩;rw[a3,a3];by_cases hbn:b < n
    ·exact h.dn a b Xf hbn
    ·have e:b=n:=by lia
     subst e;by_cases ha:a=b
     ·subst ha;exact qA _
     ·exact jV (Int.le_of_lt Wg) (h.dn a (b - 1) (by lia) (by lia))
   by_cases hq0:q > 0
   ·rw[yM hq0] at hr;rw[hr];exact Nc hz f _ (n+1) 0 (by lia) (step _ ((pb _ _ _).trans h.perm) (by rw[oE,h.size]) (EL (by rw[h.size];lia) h.eq))
   ·rw[yO hq0] at hr;rw[hr];exact Nc hz f p (n+1) 0 (by lia) (step p h.perm h.size λ_=>rfl)
  ·rw[yO hc] at hr;have hge:Z z p (n - 1)<=Z z p n:=by
    have:¬ (Z z p n < Z z p (n - 1)):=λq=>hc (yA q);lia
   have W9:r=run (fW z) (if fW z (p.getD (n - 1) 0) (p.getD n 0)=true then .ret (p,n,q) else kas_desc f p (n+1) (q+1)):=hr;by_cases hd:fW z (p.getD (n - 1) 0) (p.getD n 0)=true
   ·rw[yM hd] at W9;rw[W9];exact h
   ·rw[yO hd] at W9;rw[W9];have heq:Z z p n=Z z p (n - 1):=by
     have:¬ (Z z p (n - 1) < Z z p n):=λq=>hd (yA q);lia
    refine Nc hz f p (n+1) (q+1) (by lia) ⟨h.perm,h.size,by lia,by lia,λa b Xf hb=>?_,λa b h1 h2 h3 h4=>?_⟩
    ·by_cases hbn:b < n
     ·exact h.dn a b Xf hbn
     ·have e:b=n:=by lia
      subst e;by_cases ha:a=b
      ·subst ha;exact qA _
      ·rw[heq];exact h.dn a (b - 1) (by lia) (by lia)
    ·have key:∀c,n+1 - (q+1+1)<=c->c < n+1->Z z p c=Z z p (n - 1):=λc c1 c2=>by
      by_cases hcn:c < n
      ·exact h.eq c (n - 1) (by lia) hcn (by lia) (by lia)
      ·have e:c=n:=by lia
       subst e;exact heq
     rw[key a h1 h2,key b h3 h4]
structure TL(z:Nat->Int)(Ws:Array Nat)(nrem:Nat)(r:Nat×Array Nat):Prop where
 perm:r.2.Perm Ws
 size:r.2.size=Ws.size
 ge:1<=r.1
 le:r.1<=nrem
 up:Up z r.2 r.1
def tail3(hz:nrem<=Ws.size)(h1:1<=n)(hn:n<=nrem)(hp:p.Perm Ws)(hs:p.size=Ws.size)(hd:Dn z p n):TL z Ws nrem (run (fW z) (kas_tail3 n nrem p)):=by
 unfold kas_tail3;rw[j3];obtain⟨a,b,c,_⟩:=UK (nrem - n) n h1 (Ri (by lia) hd);exact⟨(pb _ _ _).trans hp,by show (kas_rev p 0 n).size=_;rw[oE,hs],by show 1<=run _ (kas_asc _ _ _);lia,by show run _ (kas_asc _ _ _)<=nrem;lia,c⟩
def descPart(hz:nrem<=Ws.size)(h1:1<=n)(hn:n < nrem)(hp:p.Perm Ws)(hs:p.size=Ws.size)(hd:Dn z p n)(Wg:Z z p n<=Z z p (n - 1)):TL z Ws nrem (run (fW z) (kas_descPart n nrem p)):=by
 unfold kas_descPart;rw[j3];have D:=Nc (z:=z) hz (nrem - (n+1)) p (n+1) 0 (by lia) ⟨hp,hs,by lia,by lia,λa b Xf hb=>by
  by_cases hbn:b < n
  ·exact hd a b Xf hbn
  ·have e:b=n:=by lia
   subst e;by_cases ha:a=b
   ·subst ha;exact qA _
   ·exact jV Wg (hd a (b - 1) (by lia) (by lia)),λa b h1 h2 h3 h4=>by rw[show a=b by lia]⟩
 dsimp only at D;generalize run (fW z) (kas_desc (nrem - (n+1)) p (n+1) 0)=r at D;have hq:=D.qn;split
 ·exact tail3 hz (by lia) D.le ((pb _ _ _).trans D.perm) (by rw[oE,D.size]) (KC (EL (by have:=D.size;have:=D.le;lia) D.eq) D.dn)
 ·exact tail3 hz (by lia) D.le D.perm D.size D.dn
def count(hz:nrem<=p.size)(h1:1<=nrem):TL z p nrem (run (fW z) (kas_count nrem p)):=by
 unfold kas_count;rw[j3];obtain⟨a,b,c,d⟩:=UK (z:=z) (p:=p) (nrem - 1) 1 (yN _) (λx y hxy hy=>by rw[show x=y by lia];exact qA _);generalize run (fW z) (kas_asc p (nrem - 1) 1)=n at a b c d;split
 ·exact⟨Array.Perm.refl _,rfl,a,by show n<=nrem;lia,c⟩
 ·rename_i Wz;have Wg:n < nrem:=by
   have:n≠nrem:=λe=>Wz (by simp[e]);lia
  have hd:=d (by lia);split
  ·rename_i hn1;show TL z p nrem (run (fW z) (if fW z (p.getD 0 0) (p.getD (n - 1) 0)=true then .ret (n,p) else kas_descPart n nrem (kas_rev p 0 n)));by_cases hc:fW z (p.getD 0 0) (p.getD (n - 1) 0)=true
   ·rw[yM hc];exact⟨Array.Perm.refl _,rfl,a,by show n<=nrem;lia,c⟩
   ·rw[yO hc];have hge:Z z p (n - 1)<=Z z p 0:=by
     have:¬ (Z z p 0 < Z z p (n - 1)):=λq=>hc (yA q);lia
    have all:∀x,x < n->Z z p x=Z z p 0:=λx hx=>by
     have e1:=c 0 x (xW _) hx;have e2:=c x (n - 1) (by lia) (by lia);lia
    have same:=EL (z:=z) (p:=p) (i:=0) (j:=n) (by lia) λx y _ hx _ hy=>by rw[all x hx,all y hy]
    refine descPart hz (by lia) Wg (pb _ _ _) (by rw[oE]) (λx y hxy hy=>?_) ?_
    ·rw[same,same,all x (by lia),all y hy];exact qA _
    ·rw[same,same];lia
  ·exact descPart hz (by lia) Wg (Array.Perm.refl _) rfl (λx y hxy hy=>by rw[show x=y by lia];exact qA _) (by lia)
def place(hu:Up z p k):∀ (f l r:Nat),r - l<=f->l<=r->r<=k->(∀a,a < l->Z z p a<=Z z p k)->(∀a,r<=a->a < k->Z z p k<=Z z p a) ->
  let m:=run (fW z) (kas_place p k f l r);m<=k/\(∀a,a < m->Z z p a<=Z z p k)/\(∀a,m<=a->a < k->Z z p k<=Z z p a)
 | 0,l,r,hf,hl,hr,h1,h2=>by
  intro m;have e:l=r:=by lia
  subst e;exact⟨hr,h1,h2⟩
 | f+1,l,r,hf,hl,hr,h1,h2=>by
  intro m;have hm:m=run (fW z) (if l >= r then .ret l else .ask (p.getD k 0) (p.getD ((l+r) / 2) 0) λc=>if c=true then kas_place p k f l ((l+r) / 2) else kas_place p k f ((l+r) / 2+1) r):=rfl;by_cases hlr:l >= r
  ·rw[yM hlr] at hm;rw[hm];have e:l=r:=by lia
   subst e;exact⟨hr,h1,h2⟩
  ·rw[yO hlr] at hm;have Xu:m=run (fW z) (if fW z (p.getD k 0) (p.getD ((l+r) / 2) 0)=true then kas_place p k f l ((l+r) / 2) else kas_place p k f ((l+r) / 2+1) r):=hm;by_cases hc:fW z (p.getD k 0) (p.getD ((l+r) / 2) 0)=true
   ·rw[yM hc] at Xu;rw[Xu];have Wg:Z z p k < Z z p ((l+r) / 2):=yR hc;exact place hu f l ((l+r) / 2) (by lia) (by lia) (by lia) h1 λa ha hak=>jV (Int.le_of_lt Wg) (hu _ a ha hak)
   ·rw[yO hc] at Xu;rw[Xu];have hge:Z z p ((l+r) / 2)<=Z z p k:=by
     have:¬ (Z z p k < Z z p ((l+r) / 2)):=λq=>hc (yA q);lia
    exact place hu f ((l+r) / 2+1) r (by lia) (by lia) hr (λa ha=>jV (hu a ((l+r) / 2) (by lia) (by lia)) hge) h2
def bin:∀ (f:Nat) (p:Array Nat) (k:Nat),p.Perm Ws->p.size=Ws.size->k+f<=Ws.size->Up z p k ->
  (run (fW z) (kas_bin f p k)).Perm Ws/\(run (fW z) (kas_bin f p k)).size=Ws.size/\Up z (run (fW z) (kas_bin f p k)) (k+f)
 | 0,p,k,hp,hs,hk,hu=>⟨hp,hs,hu⟩
 | f+1,p,k,hp,hs,hk,hu=>by
  unfold kas_bin;rw[j3];have P:=place hu k 0 k (by lia) (by lia) (yN _) (λa ha=>absurd ha (vX _)) λa ha hak=>absurd ha (by lia);dsimp only at P;generalize run (fW z) (kas_place p k k 0 k)=l at P;obtain⟨p1,p2,p3⟩:=P;have zb:=Kp z (p:=p) (src:=k) (d:=k - l) (by lia) (by lia);have e:k - (k - l)=l:=by lia
  rw[e] at zb;obtain⟨q1,q2,q3⟩:=bin f (bubble p k (k - l)) (k+1) ((bubble_perm _ _ _).trans hp) (by rw[bubble_size,hs]) (by lia) λa b Xf hb=>by
   rw[zb,zb];by_cases ha1:a=l
   ·rw[yM ha1];by_cases hb1:b=l
    ·rw[yM hb1];exact qA _
    ·rw[yO hb1];rw[yM (by lia)];exact p3 _ (by lia) (by lia)
   ·rw[yO ha1];by_cases hb1:b=l
    ·rw[yM hb1,yO (by lia)];exact p2 a (by lia)
    ·rw[yO hb1];by_cases ha2:l < a/\a<=k
     ·rw[yM ha2,yM (by lia)];exact hu _ _ (by lia) (by lia)
     ·rw[yO ha2];by_cases hb2:l < b/\b<=k
      ·rw[yM hb2];exact hu _ _ (by lia) (by lia)
      ·rw[yO hb2];exact hu _ _ Xf (by lia)
  exact⟨q1,q2,by rw[show k+(f+1)=k+1+f by lia];exact q3⟩
def k9(h1:1<=n):(run (fW z) (kas_sort n)).toList.Perm (List.range n)/\((run (fW z) (kas_sort n)).toList.map z).Pairwise (·<=·):=by
 have YB:(List.toArray (List.range n)).size=n:=by simp
 have C:=count (z:=z) (p:=List.toArray (List.range n)) (nrem:=n) (by lia) h1;have fin:∀p:Array Nat,p.Perm (List.toArray (List.range n))->p.size=n->Up z p n->p.toList.Perm (List.range n)/\(p.toList.map z).Pairwise (·<=·):=λp a b c=>by
  refine⟨by have:=a.toList;simpa using this,?_⟩;rw[List.pairwise_iff_getElem];intro i j hi hj Wx;have Xt:i < n:=by simpa [b] using hi
  have hj':j < n:=by simpa [b] using hj
  have:=c i j (jU Wx) hj';unfold Z at this;have e1:p.getD i 0=p[i]:=by simp[Array.getD,b,Xt]
  have e2:p.getD j 0=p[j]:=by simp[Array.getD,b,hj']
  rw[e1,e2] at this;simpa using this
 unfold kas_sort;rw[j3];generalize run (fW z) (kas_count n (List.toArray (List.range n)))=r at C;obtain⟨k,p⟩:=r;have hs:=C.size;rw[YB] at hs;split
 ·rename_i Wg;have hge:=C.ge;have e:max k 1=k:=by have:1<=k:=hge;lia
  rw[e];obtain⟨q1,q2,q3⟩:=bin (z:=z) (n - k) p k C.perm C.size (by rw[YB];have:k < n:=Wg;lia) C.up;refine fin _ q1 (by rw[q2,YB]) ?_;rw[show k+(n - k)=n by have:k < n:=Wg;lia] at q3;exact q3
 ·rename_i adM;have hle:=C.le;have e:k=n:=by have h3:k<=n:=hle;have h4:¬ k < n:=adM;lia
  subst e;exact fin p C.perm hs C.up
end
end SP
namespace Yd
open PySem PySem.W PySem.Calls PyProof.Rows
def Wo(z:Nat->Int)(vs:List Value):List Value:=if vs.length < 2 then vs else (SP.run (SP.fW z) (kas_sort vs.length)).toList.map λi=>vs.getD i Value.none
def X5(z:Nat->Int)(vs:List Value):(Wo z vs).length=vs.length:=by
 unfold Wo;split
 ·rfl
 ·rename_i h;have:=(SP.k9 (z:=z) (n:=vs.length) (by lia)).1.length_eq;simpa using this
section
def Yn{P:PySem.Fin->Shared->Prop}(ho:s.heap.get? a=some (seqObj "list" vs.toArray n))(YN:vs.length < 64)(z:Nat->Int)(κ:SortKind)
  (hk:2<=vs.length->∀h':Heap,(∀b o,b≠a->s.heap.get? b=some o->h'.get? b=some o)->∀Q':SortKind->Shared->Prop,Q' κ { s with heap:=h' }->wpAny (model prog w) A (keyKind' vs.toArray) Q' (λ_ _=>False) { s with heap:=h' })
  (Wg:2<=vs.length->∀h':Heap,(∀b o,b≠a->s.heap.get? b=some o->h'.get? b=some o)->∀i j C,i < vs.length->j < vs.length->C (SP.fW z i j) { s with heap:=h' }->kas_ask prog w A κ vs i j C { s with heap:=h' })
  (h:∀ (h':Heap) (c:Nat),(∀b o,b≠a->s.heap.get? b=some o->h'.get? b=some o)->h'.get? a=some (seqObj "list" (Wo z vs).toArray c)->P (.done (.ret .none)) { s with heap:=h' }) :
  wpAny (model prog w) A (Builtin.«list.sort» ⟨[.ref a],[]⟩) P E s:=by
 rw[list_sort_plain];have ha:a < s.heap.objs.size:=zY ho;have Yo:vs.length<=sizeLine:=by rw[qV];lia
 refine zV (vR ho rfl (zV (kE ho rfl ?_ (by simpa using Yo) (xW _))));obtain⟨e1,ho1⟩:∃e,(s.heap.update a (Obj.mapSeq λ_=>(#[]:Array Value))).get? a=some (seqObj "list" #[] e):=⟨_,kG ho λ_=>#[]⟩
 have kp1:∀b o,b≠a->s.heap.get? b=some o->(s.heap.update a (Obj.mapSeq λ_=>(#[]:Array Value))).get? b=some o:=λb o hb e=>(xO _ _ (jO hb)).trans e;refine zV (seqEpoch_at ho1 rfl (zV (wpAny_newTuple ?_ (by simpa using Yo))));refine zV (kW (xY ?_) (xW _));have ho3:(((s.heap.update a (Obj.mapSeq λ_=>(#[]:Array Value))).push (seqObj "tuple" vs.toArray 0)).push (seqObj "list" #[] 0)).get? a=some (seqObj "list" #[] e1):=zU _ (zU _ ho1);have kp3:∀b o,b≠a->s.heap.get? b=some o->(((s.heap.update a (Obj.mapSeq λ_=>(#[]:Array Value))).push (seqObj "tuple" vs.toArray 0)).push (seqObj "list" #[] 0)).get? b=some o:=λb o hb e=>zU _ (zU _ (kp1 b o hb e));show wpAny _ A _ P E { s with heap:=((s.heap.update a (Obj.mapSeq λ_=>(#[]:Array Value))).push (seqObj "tuple" vs.toArray 0)).push (seqObj "list" #[] 0) };generalize ((s.heap.update a (Obj.mapSeq λ_=>(#[]:Array Value))).push (seqObj "tuple" vs.toArray 0)).push (seqObj "list" #[] 0)=h3 at ho3 kp3;clear ho1 kp1;dsimp only;have fin:∀WT:SortSt,(arrOf WT).map (·.2)=(Wo z vs).toArray->failedOf WT=none ->
   wpAny (model prog w) A (do
    let sorted:=(arrOf WT).map (·.2);let touched:=(<- seqEpoch a) != e1
    Builtin.List.listUpdate (.ref a) λ_=>sorted
    if let some e:=failedOf WT then rule "list.sort.comparison-raised";throw e
    if touched then rule "list.sort.modified";raiseError "ValueError" "list modified during sort"
    ret .none) P E { s with heap:=h3 }:=λWT h1 h2=>by
  dsimp only;rw[h1,h2];refine zV (seqEpoch_at ho3 rfl ?_);refine zV (kE ho3 rfl ?_ (xW _) (by show (Wo z vs).toArray.size<=_;rw[zH,X5];lia));obtain⟨c,hc⟩:∃c,(h3.update a (Obj.mapSeq λ_=>(Wo z vs).toArray)).get? a=some (seqObj "list" (Wo z vs).toArray c):=⟨_,kG ho3 λ_=>(Wo z vs).toArray⟩
  have q:=h _ c (λb o hb e=>(xO _ _ (jO hb)).trans (kp3 b o hb e)) hc;simp only[bne_self_eq_false,yP,qQ];exact zW q
 by_cases h2:vs.toArray.size < 2
 ·rw[yM h2,yM h2];refine zV (zW ?_);rw[StateT.run_pure];refine zV (zW (fin _ ?_ rfl));have ZL:vs.length < 2:=by simpa using h2
  unfold Wo;rw[yM ZL];show ((vs.toArray.zip vs.toArray).map (·.2))=vs.toArray;apply Array.toList_inj.mp;simp only[Array.toList_map,Array.toList_zip];exact List.map_snd_zip (yN _)
 ·rw[yO h2,yO h2];have ZL:2<=vs.length:=by
   have:¬ vs.length < 2:=by simpa using h2
   lia
  refine zV (xB (hk ZL h3 kp3 (λκ' s'=>κ'=κ/\s'={ s with heap:=h3 }) ⟨rfl,rfl⟩) (λκ' s' hs=>?_) λ_ _ x=>x.elim);obtain⟨rfl,rfl⟩:=hs;refine zV (xB (kat_run (Q:=λWT s'=>s'={ s with heap:=h3 }/\(arrOf WT).map (·.2)=(Wo z vs).toArray/\failedOf WT=none) (G:=λp s'=>s'={ s with heap:=h3 }/\p=SP.run (SP.fW z) (kas_sort vs.length))
   rfl ZL YN (λp WT s' a1 a2 a3 a4=>⟨a4.1,?_,a3⟩) (SP.wp_run (Wg ZL h3 kp3) (kas_sort vs.length) (SP.LS (by lia)) ⟨rfl,rfl⟩)) ?_ λ_ _ e=>e)
  ·rw[kat_snds rfl a2,a4.2];unfold Wo;rw[yO (by lia)]
  ·rintro⟨⟨⟩,WT⟩ s' ⟨hs,h4,h5⟩;subst hs;exact fin WT h4 h5
def aac(h:Heap)(l:Addr)(vs:List Value):Prop:=∃ (o:Obj) (T:String) (n:Nat),(T="list"\/T="tuple")/\h.get? l=some o/\o.cls=.type T/\o.data=.seq vs.toArray n
def Zv(hl:aac s.heap l vs)
  (h:Q vs { s with heap:=(s.heap.push (seqObj "list" #[] 0)).update s.heap.objs.size (Obj.mapSeq (·++vs.toArray)) }) (YB:vs.length<=sizeLine):wpAny (model prog w) A (collect (.ref l)) Q E s:=by
 obtain⟨o,T,n,hT,ho,hc,hd⟩:=hl;unfold collect;refine zV (wpAny_runValue (kH entry_proto_collect' ?_));show wpAny _ _ (do again (.builtin "list.__iadd__" ⟨[<- newList [],.ref l],[]⟩)) _ _ s;refine zV (kW (zW ⟨Za _ (by decide +kernel),kH entry_list_iadd' ?_⟩));show wpAny _ _ (Builtin.List.listExtendWith (.ref s.heap.objs.size) (.ref l) (.ref s.heap.objs.size)) _ _ { s with heap:=s.heap.push (seqObj "list" #[] 0) };unfold Builtin.List.listExtendWith;have XA:(s.heap.push (seqObj "list" #[] 0)).get? l=some o:=zU _ ho;refine zV (Zc (T:=T) ⟨o,XA,hc⟩ ?_);rw[yM (by rcases hT with rfl|rfl<;>simp)];refine zV (vR XA hd (zV (vR (xs:=#[]) (n:=0) (zX _ rfl) rfl ?_)));rw[yO (by simp)];refine zV (kE (xs:=#[]) (n:=0) (zX _ rfl) rfl ?_ (xW _) (by show (#[]++vs.toArray).size<=sizeLine+1;simp only[Array.size_append,zH,xM];lia));refine zW ?_;refine zV (wpAny_load (kG (zX _ rfl) _) ?_);show wpAny _ _ (pure ((#[]:Array Value)++vs.toArray).toList) Q E _;rw[show ((#[]:Array Value)++vs.toArray).toList=vs by simp];exact zW h
def aad{s:Shared}{Q:Value->Shared->Prop}(hl:aac s.heap l vs)(YN:vs.length < 64)(z:Nat->Int)(κ:SortKind)
  (hk:2<=vs.length->∀h':Heap,(∀b o,s.heap.get? b=some o->h'.get? b=some o)->∀Q':SortKind->Shared->Prop,Q' κ { s with heap:=h' }->wpAny (model prog w) A.in1.in1 (keyKind' vs.toArray) Q' (λ_ _=>False) { s with heap:=h' })
  (Wg:2<=vs.length->∀h':Heap,(∀b o,s.heap.get? b=some o->h'.get? b=some o)->∀i j C,i < vs.length->j < vs.length->C (SP.fW z i j) { s with heap:=h' }->kas_ask prog w A.in1.in1 κ vs i j C { s with heap:=h' })
  (h:∀ (h':Heap) (D:Addr) (c:Nat),(∀b o,s.heap.get? b=some o->h'.get? b=some o)->s.heap.objs.size<=D->h'.get? D=some (seqObj "list" (Wo z vs).toArray c)->Q (.ref D) { s with heap:=h' }) :
  wpAny (model prog w) A (call (.builtin "sorted") [.ref l]) Q E s:=by
 have Yo:vs.length<=sizeLine:=by rw[qV];lia
 refine Calls.call_function_entry kind_sorted plain_sorted entry_sorted (args_sorted1 _) ?_;unfold Builtin.«sorted»;refine zV (m:=checkCount "sorted" 1 1 _) (zW (zV (Zv hl ?_ Yo)));refine zV (kW ?_ (by simpa using Yo));have YB:((s.heap.push (seqObj "list" #[] 0)).update s.heap.objs.size (Obj.mapSeq (·++vs.toArray))).objs.size=s.heap.objs.size+1:=by rw[Heap.size_update,size_push']
 have kp:∀b o,s.heap.get? b=some o->(((s.heap.push (seqObj "list" #[] 0)).update s.heap.objs.size (Obj.mapSeq (·++vs.toArray))).push (seqObj "list" vs.toArray 0)).get? b=some o:=λb o e =>
  zU _ ((xO _ _ (jJ (zY e))).trans (zU _ e))
 have hoD:(((s.heap.push (seqObj "list" #[] 0)).update s.heap.objs.size (Obj.mapSeq (·++vs.toArray))).push (seqObj "list" vs.toArray 0)).get? (s.heap.objs.size+1)=some (seqObj "list" vs.toArray 0):=by
  rw[<- YB];exact zX _ rfl
 show wpAny _ _ _ _ _ { s with heap:=((s.heap.push (seqObj "list" #[] 0)).update s.heap.objs.size (Obj.mapSeq (·++vs.toArray))).push (seqObj "list" vs.toArray 0) };rw[YB];generalize ((s.heap.push (seqObj "list" #[] 0)).update s.heap.objs.size (Obj.mapSeq (·++vs.toArray))).push (seqObj "list" vs.toArray 0)=h1 at kp hoD;have kk:∀h':Heap,(∀b o,b≠s.heap.objs.size+1->h1.get? b=some o->h'.get? b=some o)->∀b o,s.heap.get? b=some o->h'.get? b=some o:=λh' q b o e=>q b o (yS (jP (zY e))) (kp b o e);refine zV (xY (qX slot_list_sort ⟨_,hoD,rfl⟩ entry_list_sort (Yn hoD YN z κ (λa h' q=>hk a h' (kk h' q)) (λa h' q=>Wg a h' (kk h' q)) λh' c q e=>⟨_,rfl,?_⟩) (args_list_sort _)));exact zW ⟨_,rfl,h h' _ c (kk h' q) (by lia) e⟩
end
end Yd
namespace Dl
open PySem L2 PySem.Spec PyProof.Rows
section
def Bp(i:Nat)(fz:List Nat)(f:Env->Option (List D)):ar->Option Out:=λρ=>(f (bV (hand fz 0 ρ))).bind λus=>sQ i (λds=>if ds.length+us.length<=sizeLine then some (ds++us) else none) (hand fz 0 ρ)
def Hh(i:Nat)(fz:List Nat)(hN:X.N[i]?=some x)(hv:NT X.env.scope x)(h:DF X e f)(hd:(x == ("__debug__":Str))=false:=by decide)(WS:(x == ("__classdict__":Str))=false:=by decide)
  (Xg:((backTo cpos (starEach [e] X.env)).all (λx=>!x.1)&&(backToKw cpos (keywordEach [] X.env)).all (λx=>x.1.isSome)&&decide ([e].length+([]:List Keyword).length+(if ([]:List Keyword).isEmpty then 0 else 1) < 30))=true:=by rfl)
  (Wr:(apos.endLine == cpos.line)=true:=by rfl) (hs:starEach [e] X.env=(false,eval e X.env)::starEach [] X.env:=by rfl) :
  DS X V7 V8 (.Expr (.Call (.Attribute (.Name x px) "extend" apos) [e] [] cpos) pos) (Bp i fz f) :=
 cO (pD (uV qP PySem.F.slot_list_extend PySem.F.type_list_extend Ig (l4 hN hv hd WS) (cK h fT hs) rfl Xg Wr hs rfl)) λE σ H ⟨HF,ρ,o,S,hg,q⟩=>by
  obtain⟨us,h1,hg⟩:=bs hg;obtain⟨ds,es,h2,h3,rfl⟩:=mJ hg;obtain⟨Wa,s1,S1⟩:=S.hand fz;obtain⟨a,vs,e1,e2,e3,e5,e4⟩:=S1.own i ds h2;refine⟨.ref a,e1,.inl ⟨rfl,vs,iw.of e2⟩,Wa,_,us,S1.gr.fh,S1.WX,h1,λb ws H' V9 G hb hf h' r=>?_⟩;have S2:=S1.grow G;obtain⟨a',vs',f1,f2,f3,f5,f4⟩:=S2.own i ds h2;rw[e1] at f1;cases f1;split at h3
  ·rename_i hz;cases h3;exact⟨a,b,vs',ws,rfl,rfl,f2,h',by rw[f4.length,r.length];exact hz,q σ _ V9 (S2.mut h2 e1 f2 (f4.append r)) (s1.trans G.ff)⟩
  ·cases h3
def F5(ds:List D)(k:Int)(d:D):List D:=let j:=if k < 0 then (k+(ds.length:Int)).toNat else min k.toNat ds.length;ds.take j++d::ds.drop j
def NR:V->List V->Hp->VK->Prop:=λx vs H Q=>∃l xs k y,x=.ref l/\vs=[.int k,y]/\H l=some (.lst xs)/\xs.length < sizeLine/\-(2 ^ 62)<=k/\k < 2 ^ 62 /\
 Q .V6 (upd H l (.lst (xs.take (if k < 0 then (k+(xs.length:Int)).toNat else min k.toNat xs.length)++y::xs.drop (if k < 0 then (k+(xs.length:Int)).toNat else min k.toNat xs.length))))
def Io:Qd X "list.insert" NR:=by
 intro pins s σ H x vs v us Q I rx rv h;obtain⟨l,xs,k,y,rfl,rfl,hH,hz,k1,k2,q⟩:=h;cases rx;obtain⟨u1,u2,rfl,⟨t,rfl⟩,ru⟩:=L2.aQ.two rv;obtain⟨z,its,n,r,hl,e⟩:=I.Zl hH;have Yk:¬(!Builtin.List.listFitsIndex k)=true:=by
  have:Builtin.List.listFitsIndex k=true:=by
   unfold Builtin.List.listFitsIndex;simp only[zF,zJ];lia
  rw[this];simp
 refine qY F.slot_list_insert ⟨_,e,rfl⟩ F.entry_list_insert (F.args_list_insert_3 _ _ _) (AutoListH.list_insert_list_int_val_1 l its.toArray n k t u2 Yk (by rw[zH];lia)) ⟨e,?_⟩;have hlen:its.length=xs.length:=hl.symm;refine⟨.V6,_,I.aaW (its':=its.take (if k < 0 then (k+(xs.length:Int)).toNat else min k.toNat xs.length)++u2::its.drop (if k < 0 then (k+(xs.length:Int)).toNat else min k.toNat xs.length)) hH e ?_ ((r.take _).append (.cons ru (r.drop _))) ?_,rfl,q⟩
 ·dsimp only;rw[zH,hlen];apply Array.toList_inj.mp;simp;exact kN (by rw[qJ,hlen];exact yN _)
 ·rw[zN,zL,jX,qJ];lia
def JB(i:Nat)(fz:List Nat)(fk f:Env->Option D):ar->Option Out:=λρ=>(fk (aK ρ)).bind λkd=>match kd with
 | .int k=>(oD fz f ρ).bind λp=>sQ i (λds=>if Bu k=true/\ds.length < sizeLine then some (F5 ds k p.1) else none) p.2
 | _=>none
def Hr(i:Nat)(fz:List Nat)(hN:X.N[i]?=some x)(hv:NT X.env.scope x)(hk:DE X e fk)(h:DE X e2 f)(hd:(x == ("__debug__":Str))=false:=by decide)(WS:(x == ("__classdict__":Str))=false:=by decide)
  (Xg:((backTo cpos (starEach [e,e2] X.env)).all (λx=>!x.1)&&(backToKw cpos (keywordEach [] X.env)).all (λx=>x.1.isSome)&&decide ([e,e2].length+([]:List Keyword).length+(if ([]:List Keyword).isEmpty then 0 else 1) < 30))=true:=by rfl)
  (Wr:(apos.endLine == cpos.line)=true:=by rfl) (hs:starEach [e,e2] X.env=(false,eval e X.env)::starEach [e2] X.env:=by rfl) (hs2:starEach [e2] X.env=(false,eval e2 X.env)::starEach [] X.env:=by rfl) :
  DS X V7 V8 (.Expr (.Call (.Attribute (.Name x px) "insert" apos) [e,e2] [] cpos) pos) (JB i fz fk f) :=
 cO (pD (uV qP PySem.F.slot_list_insert PySem.F.type_list_insert Io (l4 hN hv hd WS) (cK hk (cK h fT hs2) hs) rfl Xg Wr hs (by rw[hs2];rfl))) λE σ H ⟨HF,ρ,o,S,hg,q⟩=>by
  obtain⟨kd,hkd,hg⟩:=bs hg;cases kd<;>try cases hg
  rename_i k;obtain⟨⟨d,ρ'⟩,h1,hg⟩:=bs hg;obtain⟨ds,es,h2,h3,rfl⟩:=mJ hg;have Ym:∃ds',ρ[i]?=some (.own ds'):=by
   obtain⟨d1,_,h1⟩:=bs h1;split at h1
   ·cases h1;exact⟨ds,h2⟩
   ·obtain⟨d2,_,h1⟩:=ag h1;cases h1;rw[jf] at h2;obtain⟨s,hs,h2⟩:=ag h2;cases s with
    | V6=>split at h2<;>cases h2
    | val _=>split at h2<;>cases h2
    | own xs=>exact⟨xs,hs⟩
  obtain⟨ds',Ym⟩:=Ym;obtain⟨a,vs,e1,e2,e3,e5,e4⟩:=S.own i ds' Ym;refine⟨.ref a,e1,.inl ⟨rfl,vs,iw.of e2⟩,H,aK ρ,_,.refl _,S.all,hkd,λvk Hk HFk Gk rk=>?_⟩;simp only[Rep] at rk;subst rk;refine pZ (S.step Gk.hh) h1 λv H' V9 s1 S' sh r=>?_;obtain⟨a',vs',f1,f2,f3,f5,f4⟩:=S'.own i ds h2;rw[e1] at f1;cases f1;split at h3
  ·rename_i hz;cases h3;have ok:=hz.1;unfold Bu at ok;rw[zF] at ok;refine⟨a,vs',k,v,rfl,rfl,f2,by rw[f4.length];exact hz.2,yR ok.1,yR ok.2,q σ _ V9 (S'.mut h2 e1 f2 ?_) s1⟩;unfold F5;rw[f4.length];exact (f4.take _).append (ax.cons r (f4.drop _))
  ·cases h3
def oF:D->D->Option (List D)
 | .list xs,.list ys=>small (xs++ys)
 | _,_=>none
def Lh(K:W.Frag):R2:=λx y H Q=>∃a b xs ys,x=.ref a/\y=.ref b/\iw K H a xs/\iw K H b ys/\xs.length+ys.length<=sizeLine/\∀p,H p=none->Q (.ref p) (upd H p (.lst (xs++ys)))
def vd:jc X (binaryOp .Add) (Lh X.K):=by
 intro pins s σ H x y v u Q I rx ry h;obtain⟨a,b,xs,ys,rfl,rfl,ha,hb,hz,q⟩:=h;cases rx;cases ry;obtain⟨its,r1,p1,_⟩:=I.list ha;obtain⟨WU,r2,p2,_⟩:=I.list hb;obtain⟨⟨cls,dd,data,sl⟩,ho,hc,n,hd⟩:=id p1.isList;obtain⟨⟨Y9,XR,data2,XC⟩,XJ,Xs,n2,hd2⟩:=id p2.isList;simp only at hc hd Xs hd2;subst hc hd Xs hd2;refine Ze ⟨_,ho,rfl⟩ ⟨_,XJ,rfl⟩ noFill_list_add seq_list_add PySem.F.slot_list_add PySem.F.entry_list_add (PySem.F.args_list_add_2 _ _) (list_addW a b its.toArray WU.toArray n n2 dd XR sl XC (by rw[zH,zH,<- r1.length,<- r2.length];exact hz)) ⟨ho,XJ,?_⟩;have e:its.toArray++WU.toArray=(its++WU).toArray:=by simp
 rw[e];exact⟨.ref s.heap.objs.size,_,I.Z0 (t':=s.toks) (r1.append r2) (by rw[zN];exact hz),rfl,q _ I.fresh⟩
def R4(g:D->D->Option (List D))(f1 f2:Env->Option D):Env->Option (List D):=λρ=>(f1 ρ).bind λx=>(f2 ρ).bind λy=>g x y
def RP(ha:DE X a fa)(hb:DE X b fb):DF X (.BinOp a .Add b pos) (R4 oF fa fb):=bf (FW vd ha hb) λσ H Q ⟨HF,ρ,d,sm,eo,hf,q⟩=>by
 obtain⟨x,hx,hf⟩:=bs hf;obtain⟨y,hy,hg⟩:=bs hf;refine⟨HF,ρ,x,sm,eo,hx,λv1 H1 Wa g1 r1=>⟨Wa,ρ,y,g1.fh,eo.mono g1.ff,hy,λv2 H2 Wu g2 r2=>?_⟩⟩;have r1:=r1.mono g2.ff;cases x<;>cases y<;>simp only[oF] at hg<;>try cases hg
 rename_i xs ys;obtain⟨rfl,hz⟩:=fP hg;simp only[Rep] at r1 r2;obtain⟨a,vs,rfl,ha,ra⟩:=r1;obtain⟨b,us,rfl,hb,rb⟩:=r2;have G:=g1.trans g2;exact⟨a,b,vs,us,rfl,rfl,g2.fh.seq ha,g2.fh.seq hb,by rw[ra.length,rb.length,<- zN];exact hz,λp hp=>q p _ _ Wu (G.trans (.own G.fh hp)) (G.hh.free hp) (G.fh.free hp) aF (ra.append rb)⟩
def boolsOf:List D->Option (List Bool)
 | []=>some []
 | .bool b::r=>(boolsOf r).map (b::·)
 | _::_=>none
def kl:∀ {ds:List D}{bs:List Bool},boolsOf ds=some bs->ds=bs.map PyData.bool
 | [],bs,h=>by cases h;rfl
 | d::r,bs,h=>by
  cases d<;>simp only[boolsOf] at h<;>try cases h
  obtain⟨bs',h1,rfl⟩:=ag h;rw[kl h1];rfl
def fV{K:W.Frag}:∀ {bs:List Bool}{vs:List V},ax K H (bs.map PyData.bool) vs->vs=bs.map V.bl
 | [],vs,h=>h.nil_inv
 | b::bs,vs,h=>by
  obtain⟨v,r,rfl,a,c⟩:=h.cons_inv;simp only[Rep] at a;rw[a,fV c];rfl
def nZ:∀ {bs:List Bool}{us:List Value},aQ (bs.map V.bl) us->us=bs.map Value.bool
 | [],us,h=>by cases h;rfl
 | b::bs,us,h=>by
  cases h with
  | cons r rr=>cases r;rw[nZ rr];rfl
def range_all(bs:List Bool):(List.range bs.length).all (λi=>bs.getD i false)=bs.all id:=by
 induction bs with
 | nil=>rfl
 | cons b bs ih=>rw[zL,vT,xU,List.all_map,xU];simpa [Zj] using jD (b&&·) ih
def range_any(bs:List Bool):(List.range bs.length).any (λi=>bs.getD i false)=bs.any id:=by
 induction bs with
 | nil=>rfl
 | cons b bs ih=>rw[zL,vT,List.any_cons,Zg,List.any_cons];simpa [Zj] using jD (b||·) ih
def E5(hc:X.calm=true):ft X (.builtin "all") (λxs H Q=>∃ (a:Addr) (bs:List Bool),xs=[.ref a]/\iw X.K H a (bs.map V.bl)/\Q (.bl (bs.all id)) H):=by
 intro pins s σ H xs us Q I r h;obtain⟨a,bs,rfl,hq,q⟩:=h;obtain⟨u,rfl,rx⟩:=vals1 r;cases rx;obtain⟨its,rv,pl,hz⟩:=I.list hq;have hv:=nZ rv;subst hv;have hh:X.A.in1.handled=none:=I.ok.hd hc;refine call_all_walk (qL pl.isList ?_);obtain⟨o,ho,W8,n,hd⟩:=pl.isList;have Wz:a≠s.heap.objs.size:=yS (zY ho);refine⟨_,_,_,_,_,_,λi=>bs.getD i false,rfl,Walks.list hh s.heap.objs.size a Wz (bs.map Value.bool).toArray,⟨⟨_,zX _ rfl,rfl,rfl⟩,pl.isList.push _⟩,λi v s' Q' E' hP hQ=>?_,λh' tk kp=>?_⟩
 ·have e:v=Value.bool (bs.getD i false):=by
   have hP:(bs.map Value.bool).toArray[i]?=some v:=hP;rw[wG,zO] at hP;obtain⟨b,hb,rfl⟩:=ag hP;rw[zG,hb];rfl
  subst e;exact xX hQ
 ·refine⟨.bl (bs.all id),H,?_,?_,q⟩
  ·exact I.kept (t':=tk) λb o' e=>kp b o' (by simp;exact yS (zY e)) (zU _ e)
  ·show Value.bool _=Value.bool _;have:=range_all bs;simp only[zH,zD];rw[this]
def pO:List D->Option D:=λds=>(oneOf ds).bind λd=>match d with
 | .list es=>(boolsOf es).map λbs=>.bool (bs.all id)
 | _=>none
def Q8(hc:X.calm=true)(B:se X "all" (.builtin "all"))(ha:DA X [e] fs)(he:starEach [e] X.env=(false,eval e X.env)::starEach [] X.env:=by rfl):DE X (.Call (.Name "all" p) [e] [] pos) (ba pO fs) :=
 ju (E5 hc) (by
  intro HF H ds vs d Q sm r hg q;obtain⟨x,hx,hg⟩:=bs hg;rw[fU hx] at r;cases x<;>try cases hg
  obtain⟨bs,hb,rfl⟩:=ag hg;obtain⟨v,r',rfl,a,b⟩:=r.cons_inv;rw[b.nil_inv];simp only[Rep] at a;obtain⟨p,us,rfl,h,rr⟩:=a;rw[kl hb] at rr;have:=fV rr;subst this;exact⟨p,bs,rfl,sm.seq h,q _ H HF (.refl sm) (by simp[Rep])⟩) B ha (by decide) (by decide) he rfl
end
abbrev lexLt:=HT.lexLt
def dB:∀a:List Int,lexLt a a=false
 | []=>rfl
 | x::a=>by show HT.lexLt (x::a) (x::a)=false;rw[HT.bg,yM rfl];exact dB a
def eH:∀ {a b c:List Int},lexLt a b=true->lexLt b c=true->lexLt a c=true
 | [],[],_,h,_=>by cases h
 | [],_::_,[],_,h=>by cases h
 | [],_::_,_::_,_,_=>rfl
 | _::_,[],_,h,_=>by cases h
 | _::_,_::_,[],_,h=>by cases h
 | x::a,y::b,z::c,h1,h2=>by
  have h1:HT.lexLt (x::a) (y::b)=true:=h1;have h2:HT.lexLt (y::b) (z::c)=true:=h2;show HT.lexLt (x::a) (z::c)=true;rw[HT.bg] at h1 h2 ⊢;by_cases e1:x=y
  ·rw[yM e1] at h1;by_cases e2:y=z
   ·rw[yM e2] at h2;rw[yM (e1.trans e2)];exact eH h1 h2
   ·rw[yO e2] at h2;rw[yO (by lia)];have:=yR h2;exact yA (by lia)
  ·rw[yO e1] at h1;have q1:=yR h1;by_cases e2:y=z
   ·rw[yO (by lia)];exact yA (by lia)
   ·rw[yO e2] at h2;have q2:=yR h2;rw[yO (by lia)];exact yA (by lia)
def jd:∀ {a b:List Int},lexLt a b=false->lexLt b a=false->a=b
 | [],[],_,_=>rfl
 | [],_::_,h,_=>by cases h
 | _::_,[],_,h=>by cases h
 | x::a,y::b,h1,h2=>by
  have h1:HT.lexLt (x::a) (y::b)=false:=h1;have h2:HT.lexLt (y::b) (x::a)=false:=h2;rw[HT.bg] at h1 h2;by_cases e:x=y
  ·rw[yM e] at h1;rw[yM e.symm] at h2;rw[e,jd h1 h2]
  ·rw[yO e] at h1;rw[yO (λz=>e z.symm)] at h2;have:=wX h1;have:=wX h2;lia
def lexLe(a b:List Int):Bool:=!lexLt b a
def Cn(a b c:List Int)(h1:lexLe a b=true)(h2:lexLe b c=true):lexLe a c=true:=by
 unfold lexLe at *;rw[yQ] at *;cases e:lexLt c a with
 | false=>rfl
 | true =>
  cases e1:lexLt a b with
  | true=>rw[eH e e1] at h2;cases h2
  | false =>
   have:=jd e1 h1;subst this;rw[e] at h2;cases h2
def Df(a b:List Int):(lexLe a b||lexLe b a)=true:=by
 unfold lexLe;cases e1:lexLt b a with
 | false=>rfl
 | true =>
  cases e2:lexLt a b with
  | false=>rfl
  | true=>have:=eH e1 e2;rw[dB] at this;cases this
def tL(h1:lexLe a b=true)(h2:lexLe b a=true):a=b:=by
 unfold lexLe at *;rw[yQ] at *;exact jd h2 h1
def za{α:Type}{le:α->α->Bool}(ab3:∀a b,le a b=true->le b a=true->a=b):∀ {l m:List α},l.Perm m->l.Pairwise (λa b=>le a b=true)->m.Pairwise (λa b=>le a b=true)->l=m
 | [],m,p,_,_=>p.nil_eq
 | a::l,[],p,_,_=>by have:=p.length_eq;simp at this
 | a::l,b::m,p,h1,h2=>by
  obtain⟨h1a,h1b⟩:=List.pairwise_cons.mp h1;obtain⟨h2a,h2b⟩:=List.pairwise_cons.mp h2;have e:a=b:=by
   have ha:a∈b::m:=p.mem_iff.mp zE;have hb:b∈a::l:=p.mem_iff.mpr zE;rcases List.mem_cons.mp ha with e|ha
   ·exact e
   ·rcases List.mem_cons.mp hb with e|hb
    ·exact e.symm
    ·exact ab3 a b (h1a b hb) (h2a a ha)
  subst e;rw[za ab3 (List.perm_cons a |>.mp p) h1b h2b]
def vn(l:List (List Int)):List (List Int):=l.mergeSort lexLe
def Ju(l:List (List Int)):(vn l).Perm l:=List.mergeSort_perm l lexLe
def QD(l:List (List Int)):(vn l).Pairwise (λa b=>lexLe a b=true):=List.pairwise_mergeSort Cn Df l
def Md{l:List (List Int)}(p:l.Perm m)(h:l.Pairwise (λa b=>lexLe a b=true)):l=vn m:=za (λ_ _=>tL) (p.trans (Ju m).symm) h (QD m)
def rk(l:List (List Int))(a:List Int):Int:=((l.countP λb=>lexLt b a:Nat):Int)
def Pj(ha:a∈l):lexLt a b=decide (rk l a < rk l b):=by
 unfold rk;have mono:∀ {a b:List Int},lexLt a b=true->(l.countP λc=>lexLt c a)<=l.countP λc=>lexLt c b:=λ{a b} h=>List.countP_mono_left λc _ hc=>eH hc h;have strict:∀ {a b:List Int}(ha:a∈l),lexLt a b=true->(l.countP λc=>lexLt c a) < l.countP λc=>lexLt c b:=λ{a b} ha h=>by
  have key:∀m:List (List Int),a∈m->(m.countP λc=>lexLt c a) < m.countP λc=>lexLt c b:=λm hm=>by
   induction m with
   | nil=>cases hm
   | cons x m ih =>
    rw[List.countP_cons,List.countP_cons];have mo:(m.countP λc=>lexLt c a)<=m.countP λc=>lexLt c b:=List.countP_mono_left λc _ hc=>eH hc h;rcases List.mem_cons.mp hm with e|hm
    ·subst e;rw[dB,h];simp only[yP,qQ,xI];lia
    ·have:=ih hm;by_cases hx:lexLt x a=true
     ·rw[hx,eH hx h];simp only[xI];lia
     ·have X4:lexLt x a=false:=by simpa using hx
      rw[X4];simp only[yP,qQ];split<;>lia
  exact key l ha
 cases e:lexLt a b with
 | true=>exact (yA (by have:=strict ha e;lia)).symm
 | false =>
  refine (zZ ?_).symm;cases e2:lexLt b a with
  | true=>have:=mono e2;lia
  | false=>rw[jd e e2];lia
section
variable {prog:Program}{w:World}{A:Around}{E:Value->Shared->Prop}{s:Shared}
def Cg:∀ {us ws:List Value}{ns ms:List Int}(i:Nat),IntsAre us ns->IntsAre ws ms->Q (lexLt ns ms) s->W.KatLex prog w A true (decide (ns.length < ms.length)) Q (us.zip ws) i s
 | [],[],_,_,i,.nil,.nil,h=>h
 | [],_::_,_,_,i,.nil,.cons _ _ _,h=>by
  show Q (decide (0 < _+1)) s;rw[yA (Nat.succ_pos _)];exact h
 | _::_,[],_,_,i,.cons _ _ _,.nil,h=>by
  show Q (decide (_+1 < 0)) s;rw[zZ (vX _)];exact h
 | _::us,_::ws,_,_,i,.cons n t r1,.cons m u r2,h=>by
  have h:Q (HT.lexLt (n::_) (m::_)) s:=h;rw[HT.bg] at h;refine W.kat_cons (SeqAt.EqAt.int_int n t m u prog w _ _ ?_);cases e:(n == m) with
  | true =>
   have e':n=m:=eq_of_beq e;rw[yM e'] at h;refine W.kat_yes ?_;have:=Cg (i+1) r1 r2 h;simp only[zL,Nat.add_lt_add_iff_right];exact this
  | false =>
   have e':¬ n=m:=λq=>by rw[q] at e;simp at e
   rw[yO e'] at h;refine W.kat_no ?_;by_cases hi:(true&&i == 0)=true
   ·rw[hi];exact oneLt_int h
   ·have Xt:(true&&i == 0)=false:=by simpa using hi
    rw[Xt];refine W.kat_one _ _ (lt_int ?_);exact h
end
def ah(ns:List Int):D:=.tuple (ns.map PyData.int)
def intsOf:List D->Option (List Int)
 | []=>some []
 | .int n::r=>(intsOf r).map (n::·)
 | _::_=>none
def eF:∀ {ds:List D}{ns:List Int},intsOf ds=some ns->ds=ns.map PyData.int
 | [],ns,h=>by cases h;rfl
 | d::r,ns,h=>by
  cases d<;>simp only[intsOf] at h<;>try cases h
  obtain⟨Yj,h1,rfl⟩:=ag h;rw[eF h1];rfl
def bS:∀ns:List Int,intsOf (ns.map PyData.int)=some ns
 | []=>rfl
 | n::ns=>by simp[intsOf,bS ns]
def Ga:D->Option (List Int)|.tuple ds=>(intsOf ds).bind λns=>if ns=[] then none else some ns|_=>none
def Eu(h:Ga d=some ns):d=ah ns/\ns≠[]:=by
 cases d<;>try cases h
 obtain⟨ms,h1,h2⟩:=bs h;split at h2
 ·cases h2
 ·rename_i hn;cases h2;rw[eF h1];exact⟨rfl,hn⟩
def HD(h:ns≠[]):Ga (ah ns)=some ns:=by
 unfold ah Ga;simp only[bS,zA];rw[yO h]
def rowsOf:List D->Option (List (List Int))
 | []=>some []
 | d::r=>(Ga d).bind λns=>(rowsOf r).map (ns::·)
def rY:∀ {ds:List D}{nss:List (List Int)},rowsOf ds=some nss->ds=nss.map ah/\∀ns∈nss,ns≠[]
 | [],nss,h=>by cases h;exact⟨rfl,λ_ z=>by cases z⟩
 | d::r,nss,h=>by
  obtain⟨ns,h1,h⟩:=bs h;obtain⟨rest,h2,rfl⟩:=ag h;obtain⟨e,hn⟩:=Eu h1;obtain⟨e2,hn2⟩:=rY h2;refine⟨by rw[e,e2];rfl,λm hm=>?_⟩;rcases List.mem_cons.mp hm with q|q
  ·subst q;exact hn
  ·exact hn2 m q
def tR:∀ {nss:List (List Int)},(∀ns∈nss,ns≠[])->rowsOf (nss.map ah)=some nss
 | [],_=>rfl
 | ns::r,h=>by
  simp only[zI,rowsOf,HD (h ns zE),zA,tR λm hm=>h m (zC _ hm),zB]
structure m7(h:Heap)(v:Value)(ns:List Int):Prop where
 ex:∃ (a:Addr) (o:Obj) (its:Array Value) (n:Nat),v=.ref a/\h.get? a=some o/\o.cls=.type "tuple"/\o.data=.seq its n/\IntsAre its.toList ns
def m7.keep(r:m7 h v ns)(k:∀b o,h.get? b=some o->h'.get? b=some o):m7 h' v ns:=let ⟨a,o,its,n,e,e1,e2,e3,e4⟩:=r.ex;⟨a,o,its,n,e,k _ _ e1,e2,e3,e4⟩
section
def BW:∀ {vs:List Value}{nss:List (List Int)},Paired (m7 h) vs nss->(∀ns∈nss,ns≠[])->∃fs:List Value,W.KatTups h vs fs/\fs.length=vs.length/\∀f∈fs,∃n t,f=Value.int n t
 | _,_,.nil,_=>⟨[],trivial,rfl,λ_ z=>by cases z⟩
 | _,_,.cons (a:=v) (b:=ns) r p,hn=>by
  obtain⟨fs,h1,h2,h3⟩:=BW p λm hm=>hn m (zC _ hm);obtain⟨a,o,its,n,rfl,e1,e2,e3,e4⟩:=r.ex;cases hits:its.toList with
  | nil =>
   rw[hits] at e4;cases e4;exact absurd rfl (hn [] zE)
  | cons f rest =>
   rw[hits] at e4;cases e4 with
   | cons m t e5 =>
    have h0:its[0]?=some (.int m t):=by
     have:its.toList[0]?=some (Value.int m t):=by rw[hits];rfl
     simpa using this
    exact⟨.int m t::fs,W.KatTups.cons e1 e2 e3 h0 h1,by simp[h2],λg hg=>by
     rcases List.mem_cons.mp hg with q|q
     ·exact⟨m,t,q⟩
     ·exact h3 g q⟩
def lh:∀ {l:List α}{m:List β}{i:Nat},Paired R l m->i < l.length->R (l.getD i d) (m.getD i d')
 | _,_,i,.nil,h=>by simp at h
 | _,_,0,.cons r _,_=>r
 | _,_,i+1,.cons _ p,h=>by simpa using lh (i:=i) (d:=d) (d':=d') p (by simpa using h)
def Cs(hl:Yd.aac s.heap l vs)(hp:Paired (m7 s.heap) vs nss)(hn:∀ns∈nss,ns≠[])(YN:vs.length < 64)
  (h:∀ (h':Heap) (D:Addr) (c:Nat),(∀b o,s.heap.get? b=some o->h'.get? b=some o)->s.heap.objs.size<=D->h'.get? D=some (seqObj "list" (Yd.Wo (λi=>rk nss (nss.getD i [])) vs).toArray c)->Q (.ref D) { s with heap:=h' }) :
  wpAny (model prog w) A (call (.builtin "sorted") [.ref l]) Q E s:=by
 refine Yd.aad hl YN (λi=>rk nss (nss.getD i [])) (tuples' true) (λh2 h' kp Q' q=>?_) (λh2 h' kp i j C hi hj q=>?_) h
 ·have hp':Paired (m7 h') vs nss:=Paired.Y0 hp λ_ _ r=>r.keep kp;obtain⟨fs,t,hlen,hf⟩:=BW hp' hn;refine W.kat_kind (s:={ s with heap:=h' }) (T:=.type "int") t (by lia) (λv hv=>?_) (by decide) q;obtain⟨n,t,rfl⟩:=hf v hv;exact W.Looks.of_pure rfl
 ·have ri:=(lh (d:=Value.none) (d':=[]) hp hi).keep kp;have rj:=(lh (d:=Value.none) (d':=[]) hp hj).keep kp;have hlen:=hp.length;obtain⟨a,o,its,n,ea,e1,e2,e3,e4⟩:=ri.ex;obtain⟨b,o',its',n',eb,f1,f2,f3,f4⟩:=rj.ex;unfold W.kas_ask;rw[ea,eb];have Zw:nss.getD i []∈nss:=by
   rw[zG,zK (by lia)];exact qB _
  have q':C (lexLt (nss.getD i []) (nss.getD j [])) { s with heap:=h' }:=by
   rw[Pj Zw];exact q
  refine W.kat_lt (s:={ s with heap:=h' }) e1 e3 f1 f3 ?_;have:=Cg (prog:=prog) (w:=w) (A:=A.in1.in1) (s:={ s with heap:=h' }) 0 e4 f4 q';have l1:its.size=(nss.getD i []).length:=by have:=wI e4;simpa using this
  have l2:its'.size=(nss.getD j []).length:=by have:=wI f4;simpa using this
  rw[l1,l2];exact this
end
def Bw(z:Nat->Int)(l:List α)(d:α):List α:=if l.length < 2 then l else (SP.run (SP.fW z) (W.kas_sort l.length)).toList.map λi=>l.getD i d
def my(l:List α)(d:α):(List.range l.length).map (λi=>l.getD i d)=l:=by
 apply jI
 ·simp
 ·intro i h1 h2;simp[h2]
def oR(z:Nat->Int)(l:List α)(d:α):(Bw z l d).Perm l:=by
 unfold Bw;split
 ·exact List.Perm.refl _
 ·rename_i h;have:=((SP.k9 (z:=z) (n:=l.length) (by lia)).1).map λi=>l.getD i d;rw[my] at this;exact this
def Nr(nss:List (List Int)):Bw (λi=>rk nss (nss.getD i [])) nss []=vn nss:=by
 refine Md (oR _ _ _) ?_;unfold Bw;split
 ·rename_i h
  match nss,h with
  | [],_=>exact List.Pairwise.nil
  | [a],_=>exact vN _ _
 ·rename_i h;obtain⟨hp,hs⟩:=SP.k9 (z:=λi=>rk nss (nss.getD i [])) (n:=nss.length) (by lia);rw[jF] at hs ⊢;refine hs.imp_of_mem λ{i j} hi hj Wx=>?_;have hj':j < nss.length:=by have:=hp.mem_iff.mp hj;simpa using this
  unfold lexLe;rw[Pj (l:=nss) (a:=nss.getD j []) (by rw[zG,zK hj'];exact qB _)];simp only[yQ,xC];lia
section
def BI{K:W.Frag}(z:Nat->Int)(r:ax K HF ds vs):ax K HF (Bw z ds .none) (Bw z vs .V6):=by
 unfold Bw;rw[r.length];split
 ·exact r
 ·rename_i h;obtain⟨hp,_⟩:=SP.k9 (z:=z) (n:=ds.length) (by lia);have key:∀l:List Nat,(∀i∈l,i < ds.length)->ax K HF (l.map λi=>ds.getD i .none) (l.map λi=>vs.getD i .V6):=λl=>by
   induction l with
   | nil=>exactλ_=>ax.nil
   | cons i l ih =>
    intro hl;have hi:=hl i zE;obtain⟨v,e1,e2⟩:=r.getD (zK hi);refine ax.cons ?_ (ih λj hj=>hl j (zC _ hj));dsimp only;rw[zG,zG,e1,zK hi];exact e2
  exact key _ λi hi=>by have:=hp.mem_iff.mp hi;simpa using this
def De(z:Nat->Int)(r:aQ vs us):aQ (Bw z vs .V6) (Yd.Wo z us):=by
 unfold Bw Yd.Wo;rw[r.length];split
 ·exact r
 ·rename_i h;obtain⟨hp,_⟩:=SP.k9 (z:=z) (n:=us.length) (by lia);have key:∀l:List Nat,(∀i∈l,i < vs.length)->aQ (l.map λi=>vs.getD i .V6) (l.map λi=>us.getD i Value.none):=λl=>by
   induction l with
   | nil=>exactλ_=>.nil
   | cons i l ih =>
    intro hl;have hi:=hl i zE;obtain⟨v,e1,e2⟩:=r.get (zK hi);refine .cons ?_ (ih λj hj=>hl j (zC _ hj));dsimp only;rw[zG,zG,e1,zK hi];exact e2
  exact key _ λi hi=>by have:=hp.mem_iff.mp hi;rw[r.length];simpa using this
def NU(z:Nat->Int)(nss:List (List Int)):Bw z (nss.map ah) .none=(Bw z nss []).map ah:=by
 unfold Bw;rw[zD];split
 ·rfl
 ·rename_i h;rw[zM];obtain⟨hp,_⟩:=SP.k9 (z:=z) (n:=nss.length) (by lia);refine yI λi hi=>?_;have Xt:i < nss.length:=by have:=hp.mem_iff.mp hi;simpa using this
  simp[Xt]
def oH(I:Inv X pins σ H s)(sm:aS HF H):∀ {nss:List (List Int)}{vs:List V}{us:List Value},ax X.K HF (nss.map ah) vs->aQ vs us->Paired (m7 s.heap) us nss
 | [],_,_,h,r=>by rw[h.nil_inv] at r;cases r;exact .nil
 | ns::nss,_,_,h,r=>by
  obtain⟨v,vr,rfl,a,b⟩:=h.cons_inv;cases r with
  | cons r rr =>
   refine .cons ?_ (oH I sm b rr);unfold ah at a;simp only[Rep] at a;obtain⟨p,ws,rfl,hs,YJ⟩:=a;cases r;obtain⟨its,rv,⟨o,ho,hc,n,hd⟩,_⟩:=I.tuple (aG sm hs);have:ws=ns.map V.int:=by
    have key:∀ {ns:List Int}{ws:List V},ax X.K HF (ns.map PyData.int) ws->ws=ns.map V.int:=λ{ns}=>by
     induction ns with
     | nil=>exactλh=>h.nil_inv
     | cons n ns ih =>
      intro ws h;obtain⟨v,r,rfl,a,b⟩:=h.cons_inv;simp only[Rep] at a;rw[a,ih b];rfl
    exact key YJ
   subst this;exact⟨p,o,its.toArray,n,rfl,ho,hc,hd,intsAre_of rv⟩
def qx:ft X (.builtin "sorted") (λxs H Q=>∃ (HF:Hp) (a:Addr) (vs:List V) (nss:List (List Int)),xs=[.ref a]/\aS HF H/\(iw X.K HF a vs\/j5 X.K HF a vs)/\ax X.K HF (nss.map ah) vs/\(∀ns∈nss,ns≠[])/\nss.length < 64 /\
  ∀ (Dn:Addr) (us:List V),H Dn=none->ax X.K HF ((vn nss).map ah) us->Q (.ref Dn) (upd H Dn (.lst us))):=by
 intro pins s σ H xs us Q I r h;obtain⟨HF,a,vs,nss,rfl,sm,hq,rr,hn,YN,q⟩:=h;obtain⟨u,rfl,rx⟩:=vals1 r;cases rx;obtain⟨its,rv,pl,hz⟩:∃its:List Value,aQ vs its/\Yd.aac s.heap a its/\vs.length<=sizeLine:=by
  rcases hq with hq|hq
  ·obtain⟨its,rv,pl,hz⟩:=I.list (sm.seq hq);obtain⟨o,ho,hc,n,hd⟩:=pl.isList;exact⟨its,rv,⟨o,"list",n,.inl rfl,ho,hc,hd⟩,hz⟩
  ·obtain⟨its,rv,pl,hz⟩:=I.tuple (aG sm hq);obtain⟨o,ho,hc,n,hd⟩:=(show s.heap.IsTuple a its.toArray from pl)
   exact⟨its,rv,⟨o,"tuple",n,.inr rfl,ho,hc,hd⟩,hz⟩
 have hl1:=rr.length;rw[zD] at hl1;refine Cs pl (oH I sm rr rv) hn (by have:=rv.length;lia) λh' Dn c kp hD e=>?_;have hv:=De (λi=>rk nss (nss.getD i [])) rv;have hr:=BI (λi=>rk nss (nss.getD i [])) rr;rw[NU,Nr] at hr;refine⟨.ref Dn,_,I.laid (t':=s.toks) (o:=.lst (Bw (λi=>rk nss (nss.getD i [])) vs .V6)) kp hD ⟨?_,_,c,hv,e⟩,rfl,q Dn _ (I.Wb.fresh hD) hr⟩;rw[(oR _ _ _).length_eq];exact hz
def iK:List D->Option (List D):=λds=>(oneOf ds).bind λd=>match d with
 | .list es=>(rowsOf es).bind λnss=>if nss.length < 64 then some ((vn nss).map ah) else none
 | .tuple es=>(rowsOf es).bind λnss=>if nss.length < 64 then some ((vn nss).map ah) else none
 | _=>none
def Ht(B:se X "sorted" (.builtin "sorted"))(ha:DA X [e] fs)(he:starEach [e] X.env=(false,eval e X.env)::starEach [] X.env:=by rfl):DF X (.Call (.Name "sorted" p) [e] [] pos) (m6 iK fs) :=
 Kk qx (by
  intro HF H ds vs d Q sm r hg q;obtain⟨x,hx,hg⟩:=bs hg;rw[fU hx] at r;have key:∀ (b:Bool) (es:List D),ax X.K HF [if b then .tuple es else .list es] vs->((rowsOf es).bind λnss=>if nss.length < 64 then some ((vn nss).map ah) else none)=some d->(∃ (HF:Hp) (a:Addr) (us:List V) (nss:List (List Int)),vs=[.ref a]/\aS HF H/\(iw X.K HF a us\/j5 X.K HF a us)/\ax X.K HF (nss.map ah) us/\(∀ns∈nss,ns≠[])/\nss.length < 64/\∀ (Dn:Addr) (ws:List V),H Dn=none->ax X.K HF ((vn nss).map ah) ws->Q (.ref Dn) (upd H Dn (.lst ws))):=λb es r hg=>by
   obtain⟨nss,hb,hg⟩:=bs hg;split at hg
   ·rename_i YN;cases hg;obtain⟨v,r',rfl,a,e0⟩:=r.cons_inv;rw[e0.nil_inv];obtain⟨e1,e2⟩:=rY hb;obtain⟨p,us,rfl,h,rr⟩:∃p us,v=.ref p/\(iw X.K HF p us\/j5 X.K HF p us)/\ax X.K HF es us:=by
     cases b
     ·simp only[yP,qQ,Rep] at a;obtain⟨p,us,rfl,h,rr⟩:=a;exact⟨p,us,rfl,.inl h,rr⟩
     ·simp only[xI,Rep] at a;obtain⟨p,us,rfl,h,rr⟩:=a;exact⟨p,us,rfl,.inr h,rr⟩
    rw[e1] at rr;exact⟨HF,p,us,nss,rfl,sm,h,rr,e2,YN,λDn ws hD hr=>q Dn ws _ HF (.own sm hD) hD (sm.free hD) aF hr⟩
   ·cases hg
  cases x<;>try cases hg
  ·exact key false _ r hg
  ·exact key true _ r hg) B ha (by decide) (by decide) he rfl
end
end Dl
namespace En
open PySem PyProof.Rows
open AutoSeq1 (wpAny_loadPart')
section
def Yp(hj:s.heap.IsTupleIter j t k)(ht:s.heap.IsTuple t its)(hv:its[k]?=some v)
  (hQ:∀g,g.IsTupleIter j t (k+1)->Heap.SameBut j s.heap g->Q v { s with heap:=g }):wpAny (model prog w) A (Builtin.SmallTypes.nextOf (.ref j)) Q E s:=by
 obtain⟨oj,gj,cj,dj⟩:=id hj;obtain⟨ot,gt,_,nt,dt⟩:=ht;unfold Builtin.SmallTypes.nextOf;refine zV (qD (name:=Str.ofString "__next__") hj.typeIs jS (qX jS hj.typeIs F.entry_tuple_iterator_next ?_ (F.args_tuple_iterator_next_1 _)));refine zV (m:=field (.ref j) 0) (qU gj dj (x:=.ref t) rfl ?_);show wpAny _ _ (if (Value.ref t == Value.none)=true then _ else _) _ _ s;rw[yO (show ¬ ((Value.ref t == Value.none)=true) by exact xA)];refine zV (m:=field (.ref j) 1) (qU gj dj (x:=.int k 0) rfl ?_);refine zV (m:=seqItems? (.ref t)) (kK gt dt ?_);simp only[yG,hv];refine zV (wpAny_setField gj dj (by simp) (zW ⟨v,rfl,zW (hQ _ ⟨_,Heap.get?_update_self _ gj (Obj.isFreed_of_fields (Obj.data_mapFields dj _)),(Obj.cls_mapFields ..).trans cj,?_⟩ (Heap.SameBut.update ..))⟩));rw[Obj.data_mapFields dj];simp[rawInt]
def YO{Q:Value->Shared->Prop}(hh:A.handled=none)(hj:s.heap.IsTupleIter j t k)(ht:s.heap.IsTuple t its)(hv:its[k]?=none)
  (hE:∀g x,Heap.ExtBut j s.heap g->(∃o,g.get? x=some o/\o.cls=.type "StopIteration")->E (.ref x) { s with heap:=g }):wpAny (model prog w) A (Builtin.SmallTypes.nextOf (.ref j)) Q E s:=by
 obtain⟨oj,gj,cj,dj⟩:=id hj;obtain⟨ot,gt,_,nt,dt⟩:=ht;unfold Builtin.SmallTypes.nextOf;refine zV (qD (name:=Str.ofString "__next__") hj.typeIs jS (qX jS hj.typeIs F.entry_tuple_iterator_next ?_ (F.args_tuple_iterator_next_1 _)));refine zV (m:=field (.ref j) 0) (qU gj dj (x:=.ref t) rfl ?_);show wpAny _ _ (if (Value.ref t == Value.none)=true then _ else _) _ _ s;rw[yO (show ¬ ((Value.ref t == Value.none)=true) by exact xA)];refine zV (m:=field (.ref j) 1) (qU gj dj (x:=.int k 0) rfl ?_);refine zV (m:=seqItems? (.ref t)) (kK gt dt ?_);simp only[yG,hv];refine zV (wU (zV (wpAny_setField gj dj (by simp) (zV (m:=newExc (.type "StopIteration") []) ?_))));simp only[newExc,newTuple];refine zV (qM (zV (m:=firstArgMember _ _) (wpAny_of_eq (a:=Value.none) (by first|rfl|(simp only[firstArgMember];rfl)) ?_)) (by size_fits));refine qM ?_ (by size_fits);simp only[raiseNew];refine zV (wpAny_handled ?_)
 first|rw[show A.in1.handled=none from hh]|rw[hh]
 exact zV (zW (wpAny_throw (hE _ _ (((Heap.SameBut.update ..).extBut.push _).push _) ⟨_,zX _ rfl,rfl⟩)))
def X6(t:Addr)(its:Array Value)(n:Nat)(dd:Option Addr)(sl:Array (Option Value)) :
  Meets (Builtin.«enumerate.__new__» ⟨[.type "enumerate",.ref t],[]⟩) (λ_ R s=>s.heap.get? t=some { cls:=.type "tuple",dict:=dd,data:=.seq its n,slots:=sl } /\
   R (.ok (.ret (.ref (s.heap.push { cls:=.type "tuple_iterator",data:=.fields #[.ref t,.int 0 0] }).objs.size)))
    { s with heap:=(s.heap.push { cls:=.type "tuple_iterator",data:=.fields #[.ref t,.int 0 0] }).push { cls:=.type "enumerate",data:=.fields #[.none,.bool false,.ref s.heap.objs.size,rawInt 0,.none,.none] } }) :=
 .of_wp λprog w A R s h=>by
  obtain⟨hp,g,d,tk,os⟩:=s;obtain⟨hl,h⟩:=h;have aae:=sub_enumerate;have hL:Heap.IsTuple (Shared.heap ⟨hp,g,d,tk,os⟩) t its:=⟨_,hl,rfl,n,rfl⟩
  wp_walk using wpAny_loadPart' hl
  refine wpAny_stack_any λst=>zW ?_;split
  ·rename_i c _ _ _ _ _;cases (c == Value.type "enumerate")
   ·wp_walk using wpAny_loadPart' hl,xS hL
    exact⟨_,rfl,h⟩
   ·wp_walk using wpAny_loadPart' hl,xS hL
    exact⟨_,rfl,h⟩
  ·wp_walk using wpAny_loadPart' hl,xS hL
   exact⟨_,rfl,h⟩
def Yq(ht:s.heap.IsTuple t its)
  (h:∀h',IsEnum h' (s.heap.objs.size+1) s.heap.objs.size 0 .none->h'.IsTupleIter s.heap.objs.size t 0->h'.objs.size=s.heap.objs.size+2->(∀b o,s.heap.get? b=some o->h'.get? b=some o)->Q (.ref (s.heap.objs.size+1)) { s with heap:=h' }) :
  wpAny (model prog w) A (call (.type "enumerate") [.ref t]) Q E s:=by
 obtain⟨⟨c,dct,dt,sl⟩,hl,hc,n,hd⟩:=ht;simp only at hc hd;subst hc hd;refine callType_new F.called_enumerate (by decide) (F.typeCall_enumerate_1 _) (F.newCall_enumerate_1 _) (λobj=>F.args_object_init_2 obj _) F.entry_enumerate_new (X6 t its n dct sl) ⟨hl,?_⟩;have hz:(s.heap.push { cls:=.type "tuple_iterator",data:=.fields #[.ref t,.int 0 0] }).objs.size=s.heap.objs.size+1:=by rw[xK]
 have he:=zX (s.heap.push { cls:=.type "tuple_iterator",data:=.fields #[.ref t,.int 0 0] }) (o:={ cls:=.type "enumerate",data:=.fields #[.none,.bool false,.ref s.heap.objs.size,rawInt 0,.none,.none] }) rfl;show _/\_;rw[hz] at he ⊢;refine⟨⟨_,he,rfl⟩,h _ he ⟨_,zU _ (zX _ rfl),rfl,rfl⟩ ?_ λb o x=>zU _ (zU _ x)⟩;show (Heap.push _ _).objs.size=_;rw[xK,hz]
end
end En
namespace Dl
open PySem L2 PySem.Spec PyProof.Rows
section
variable {ch:List Addr}
def CL(I:Inv X pins σ H s)(XQ:∀b∈ch,bZ X pins H b)(k:∀b o,b∉ch->s.heap.get? b=some o->h'.get? b=some o){T:Addr}{vals:List Value}{xs:List V}(hT:s.heap.objs.size<=T)(ht:uI h' T vals.toArray)
  (rv:aQ xs vals) (hz:xs.length<=sizeLine):Inv X pins σ (upd H T (.tup xs)) { s with heap:=h',toks:=t' }:=by
 have nT:H T=none:=I.Wb.fresh hT;have ne:∀b o,s.heap.get? b=some o->b≠T:=λb o e=>yS (zP (zY e) hT);have ne2:∀b o,H b=some o->b≠T:=λb o e=>aU e nT;have YI:∀b o,H b=some o->b∉ch:=λb o e z=>by rw[(XQ b z).1] at e;cases e
 refine I.step (g':=s.gens) (d':=s.drawn) (ch:=ch) (λb hb=>?_) (λb o _ _ hc e _=>k b o hc e) (λb o _ _ hc e _=>⟨o.slots,k b o hc e⟩) (λb o _ e n=>by rw[aB (ne b o e)];exact n)
  (λb o hc e=>⟨o,k b o hc e⟩) (λb ys e=>by rw[aB (ne2 b _ e)];exact e) (λb o u e=>by rw[aB (ne2 b _ e)];exact e) (.kept (λb u ⟨q,z⟩ e=>k b u (YI b _ z) e) λb u e _=>by rw[aB (ne2 b _ e)];exact e) (λm hm=>?_) (λb u e=>?_) I.bare
 ·obtain⟨f0,f1,f2,f3,f4,f5⟩:=XQ b hb;exact⟨f3,f1,f4,f5⟩
 ·obtain⟨o,es,ep,ho,r⟩:=hm;exact⟨o,es,ep,k _ o (λz=>(XQ _ z).2.1 rfl) ho,r⟩
 ·by_cases hb:b=T
  ·subst hb;rw[aF] at e;cases e;exact⟨hz,vals,rv,ht⟩
  ·rw[aB hb] at e;refine (I.Wb b u e).WQ (λc v hc q=>k c v ?_ q) (λ_ q=>?_) λc v q _=>?_
   ·rcases hc with z|z
    ·rw[z];exact YI b u e
    ·exact YI c _ z
   all_goals first
    | (rw[aB (ne2 _ _ q)];exact q)
    | exact q
def SH(I:Inv X pins σ H s)(hf:bZ X pins H b)(h:X.K.lookup a=some o):a≠b:=by
 rintro rfl;have hb:=I.ok.mod.kin a o h;rcases hf.2.2.2.1 with z|z
 ·exact I.ok.XY a o hb z
 ·exact absurd (zP (zY (I.ok.bs a o hb).1) z) (qF _)
def Rl(I:Inv X pins σ H s)(hf:bZ X pins H b)(h:iw X.K H a xs):a≠b:=by
 rcases h with (h|⟨o,h⟩)|⟨o,its,n,h,_⟩
 ·exact aU h hf.1
 ·exact aU h hf.1
 ·exact SH I hf h
def Ro(I:Inv X pins σ H s)(hf:bZ X pins H b)(h:j5 X.K H a xs):a≠b:=by
 rcases h with (h|⟨o,h⟩)|⟨o,its,n,h,_⟩
 ·exact aU h hf.1
 ·exact aU h hf.1
 ·exact SH I hf h
end
def Ux(sq:Hp->List V->Prop):It:=⟨λi H=>∃xs x,sq H xs/\xs[i]?=some x,λi H v H'=>∃T y,v=.ref T/\H T=none/\H'=upd H T (.tup [.int (i:Nat),y])/\∀xs,sq H xs->xs[i]?=some y,λi H=>∃xs,sq H xs/\xs.length<=i⟩
def bK(k:Nat):List D->List D
 | []=>[]
 | d::ds=>.tuple [.int (k:Nat),d]::bK (k+1) ds
def xp:∀ {ds:List D}{k i:Nat}{d:D},(bK k ds)[i]?=some d->∃x,ds[i]?=some x/\d=.tuple [.int ((k+i:Nat):Int),x]
 | [],k,i,d,h=>by simp[bK] at h
 | x::ds,k,0,d,h=>by simp[bK] at h;exact⟨x,rfl,h.symm⟩
 | x::ds,k,i+1,d,h=>by
  simp only[bK,yZ] at h;obtain⟨y,h1,h2⟩:=xp h;refine⟨y,by simpa using h1,?_⟩;rw[h2,show k+1+i=k+(i+1) by lia]
def mT:∀ (ds:List D) (k:Nat),(bK k ds).length=ds.length
 | [],k=>rfl
 | x::ds,k=>by simp[bK,mT ds (k+1)]
def Ik{K:W.Frag}(h:sq HF vs)(mo:∀H H',aS H H'->sq H vs->sq H' vs)(r:ax K HF ds vs):w4 K (Ux sq) HF (bK 0 ds) where
 go:=λi d WG Wj e s1 s2=>by
  obtain⟨x,hx,rfl⟩:=xp e;rw[jE];obtain⟨v,hv,rv⟩:=r.getD hx;have q:=mo _ _ s2 (mo _ _ s1 h);refine⟨⟨vs,v,q,hv⟩,λy Yl ⟨T,z,e1,hT,e2,hy⟩=>?_⟩;have:=hy vs q;rw[hv] at this;cases this;subst e1 e2;exact⟨_,.new s2 hT,fM (s2.free hT) (ax.cons (by simp[Rep]) (ax.cons (rv.mono s1) ax.nil))⟩
 stop:=λWG Wj s1 s2=>⟨vs,mo _ _ s2 (mo _ _ s1 h),by rw[mT,r.length];exact yN _⟩
def Vi(sq1 sq2:Hp->List V->Prop):It:=⟨λi H=>∃xs ys x y,sq1 H xs/\sq2 H ys/\xs[i]?=some x/\ys[i]?=some y,
 λi H v H'=>∃T x y,v=.ref T/\H T=none/\H'=upd H T (.tup [x,y])/\(∀xs,sq1 H xs->xs[i]?=some x)/\∀ys,sq2 H ys->ys[i]?=some y,
 λi H=>∃xs ys,sq1 H xs/\sq2 H ys/\(xs.length<=i\/ys.length<=i)⟩
section
variable {ch:List Addr}
def Ie(I:Inv X pins σ H s)(XQ:∀b∈ch,bZ X pins H b)(k:∀b o,b∉ch->s.heap.get? b=some o->h'.get? b=some o):Inv X pins σ H { s with heap:=h',toks:=t' }:=by
 have YI:∀b o,H b=some o->b∉ch:=λb o e z=>by rw[(XQ b z).1] at e;cases e
 refine I.step (g':=s.gens) (d':=s.drawn) (ch:=ch) (λb hb=>?_) (λb o _ _ hc e _=>k b o hc e) (λb o _ _ hc e _=>⟨o.slots,k b o hc e⟩) (λb o _ e n=>n)
  (λb o hc e=>⟨o,k b o hc e⟩) (λb ys e=>e) (λb o u e=>e) (.kept (λb u ⟨q,z⟩ e=>k b u (YI b _ z) e) λb u e _=>e) (λm hm=>?_) (λb u e=>?_) I.bare
 ·obtain⟨f0,f1,f2,f3,f4,f5⟩:=XQ b hb;exact⟨f3,f1,f4,f5⟩
 ·obtain⟨o,es,ep,ho,r⟩:=hm;exact⟨o,es,ep,k _ o (λz=>(XQ _ z).2.1 rfl) ho,r⟩
 ·refine (I.Wb b u e).WQ (λc v hc q=>k c v ?_ q) (λ_ q=>q) λc v q _=>q;rcases hc with z|z
  ·rw[z];exact YI b u e
  ·exact YI c _ z
end
structure VG(z TI TO i1 i2:Addr):Prop where
 a1:TI≠z
 a2:TO≠z
 a3:i1≠z
 a4:i2≠z
 a5:TI≠TO
 a6:TI≠i1
 a7:TI≠i2
 a8:TO≠i1
 a9:TO≠i2
 a0:i1≠i2
section
def lY:List D->List D->List D
 | x::xs,y::ys=>.tuple [x,y]::lY xs ys
 | _,_=>[]
def uf:∀ {xs ys:List D}{i:Nat}{d:D},(lY xs ys)[i]?=some d->∃x y,xs[i]?=some x/\ys[i]?=some y/\d=.tuple [x,y]
 | [],_,i,d,h=>by simp[lY] at h
 | _::_,[],i,d,h=>by simp[lY] at h
 | x::xs,y::ys,0,d,h=>by simp[lY] at h;exact⟨x,y,rfl,rfl,h.symm⟩
 | x::xs,y::ys,i+1,d,h=>by
  simp only[lY,yZ] at h;obtain⟨a,b,h1,h2,h3⟩:=uf h;exact⟨a,b,by simpa using h1,by simpa using h2,h3⟩
def pG:∀ (xs ys:List D),(lY xs ys).length=min xs.length ys.length
 | [],_=>by simp[lY]
 | _::_,[]=>by simp[lY]
 | x::xs,y::ys=>by simp[lY,pG xs ys]
def LC{K:W.Frag}(h1:sq1 HF vs)(mo1:∀H H',aS H H'->sq1 H vs->sq1 H' vs)(h2:sq2 HF us)(mo2:∀H H',aS H H'->sq2 H us->sq2 H' us)(r1:ax K HF xs vs)(r2:ax K HF ys us) :
  w4 K (Vi sq1 sq2) HF (lY xs ys) where
 go:=λi d WG Wj e s1 s2=>by
  obtain⟨x,y,hx,hy,rfl⟩:=uf e;obtain⟨v,hv,rv⟩:=r1.getD hx;obtain⟨u,hu,ru⟩:=r2.getD hy;have q1:=mo1 _ _ s2 (mo1 _ _ s1 h1);have q2:=mo2 _ _ s2 (mo2 _ _ s1 h2);refine⟨⟨vs,us,v,u,q1,q2,hv,hu⟩,λw Yl ⟨T,a,b,e1,hT,e2,ha,hb⟩=>?_⟩;have ea:=ha vs q1;have eb:=hb us q2;rw[hv] at ea;rw[hu] at eb;cases ea;cases eb;subst e1 e2;exact⟨_,.new s2 hT,fM (s2.free hT) (ax.cons (rv.mono s1) (ax.cons (ru.mono s1) ax.nil))⟩
 stop:=λWG Wj s1 s2=>⟨vs,us,mo1 _ _ s2 (mo1 _ _ s1 h1),mo2 _ _ s2 (mo2 _ _ s1 h2),by rw[pG,r1.length,r2.length];lia⟩
end
def cut(xs:List α)(lo hi:Option Int):List α:=(xs.drop (HT.eD xs.length 0 lo)).take (HT.eD xs.length xs.length hi - HT.eD xs.length 0 lo)
def Ob(xs:List α)(lo hi:Option Int):(cut xs lo hi).length<=xs.length:=by
 unfold cut;rw[jX,qJ];lia
def tM{K:W.Frag}(r:ax K H ds vs)(lo hi:Option Int):ax K H (cut ds lo hi) (cut vs lo hi):=by
 unfold cut;rw[r.length];exact (r.drop _).take _
section
def IB{vl:Value}{lo:Option Int}(ht:IsTup s.heap t its)(hs:s.heap.IsSliceOf sl vl vu .none)(pl:IsPart vl lo)(pu:IsPart vu hi)
  (hw:HT.eD its.size 0 lo=0/\HT.eD its.size its.size hi=its.size) (h:Q (.ref t) s):wpAny (model prog w) A (getItem (.ref t) (.ref sl)) Q E s:=by
 obtain⟨os,ZY,hcs,hds⟩:=id hs;have hTs:s.TypeIs (.ref sl) "slice":=⟨os,ZY,hcs⟩
 unfold getItem
 try with_reducible refine xY ?_
 first|refine zV (zW ?_)|skip
 refine zV (wpAny_sequenceKey ht.typeIs (by decide) (zV (qD (name:=Str.ofString "__getitem__") ht.typeIs jG (qX jG ht.typeIs entry_tuple_getitem ?_ (args_tuple_getitem _ _)))));refine zV (m:=Builtin.Tuple.tupleItemsOf (.ref t)) (tupleItemsOf_ ht (zV (Zc hTs ?_)));rw[yM (by decide)];refine zV (HT.jy hs pl pu ?_);show wpAny _ _ (if (((HT.eD its.size 0 lo:Nat):Int) == 0&&(1:Int) == 1&&(HT.eD its.size its.size hi - HT.eD its.size 0 lo) == its.size)=true then _ else _) _ _ s;rw[hw.1,hw.2,yM (by simp)];unfold Builtin.Tuple.tupleIsExact;refine zV (zV (Zc ht.typeIs (zW ?_)));rw[yM (by decide)]
 first
  | exact zV (wU (zW ⟨_,rfl,zW h⟩))
  | exact zV (wU (zV (zW (zW ⟨_,rfl,zW h⟩))))
def Vb(K:W.Frag):V->Option Int->Option Int->Hp->VK->Prop:=λx lo hi H Q=>∃a xs,x=.ref a/\j5 K H a xs/\(cut xs lo hi=xs->Q (.ref a) H)/\∀p,H p=none->Q (.ref p) (upd H p (.tup (cut xs lo hi)))
def Rp:OH X (Vb X.K):=by
 intro pins s σ H x v vl vu lo hi sl Q I rx hs pl pu h;obtain⟨a,xs,rfl,hx,q1,q2⟩:=h;by_cases hw:HT.eD xs.length 0 lo=0/\HT.eD xs.length xs.length hi=xs.length
 ·cases rx;obtain⟨its,r,ht,hz⟩:=I.tuple hx;have hlen:its.toArray.size=xs.length:=by rw[zH];exact r.length.symm
  refine⟨"tuple",_,PyProof.Rows.slot_tuple_getitem.lookup,ht.typeIs,IB ht hs pl pu (by rw[hlen];exact hw) ⟨.ref a,H,I,rfl,q1 ?_⟩⟩;unfold cut;rw[hw.1,hw.2,List.drop_zero,Nat.sub_zero,List.take_length]
 ·exact RH pins s σ H (.ref a) v vl vu lo hi sl Q I rx hs pl pu ⟨a,xs,rfl,hx,hw,q2⟩
def UY(K:W.Frag):V->Option Int->Option Int->Hp->VK->Prop:=λx lo hi H Q=>∃a xs,x=.ref a/\iw K H a xs/\∀p,H p=none->Q (.ref p) (upd H p (.lst (cut xs lo hi)))
def E2(lo hi:Option Int)(n:Nat):sliceBounds lo hi none n=(((HT.eD n 0 lo:Nat):Int),((HT.eD n n hi:Nat):Int),1):=by
 have h1:(1:Int) > 0:=by lia
 refine Prod.ext ?_ (Prod.ext ?_ rfl)
 ·cases lo with
  | none=>simp[sliceBounds,HT.eD]
  | some x =>
   by_cases h:x < 0
   ·simp only[sliceBounds,HT.eD,kR,h1,xI,yM h];lia
   ·simp only[sliceBounds,HT.eD,kR,h1,xI,yO h];lia
 ·cases hi with
  | none=>simp[sliceBounds,HT.eD]
  | some x =>
   by_cases h:x < 0
   ·simp only[sliceBounds,HT.eD,kR,h1,xI,yM h];lia
   ·simp only[sliceBounds,HT.eD,kR,h1,xI,yO h];lia
def Oj:OH X (UY X.K):=by
 intro pins s σ H x v vl vu lo hi sl Q I rx hs pl pu h;obtain⟨a,xs,rfl,hx,q⟩:=h;cases rx;obtain⟨its,r,p,hz⟩:=I.list hx;have hlen:=r.length;refine⟨"list",_,slot_list_getitem.lookup,p.isList.typeIs,wpAny_getItem_list_slice p.isList hs pl pu .none (by simp) ?_ (by rw[zH];lia)⟩;rw[W.kmk_pick_nat its.toArray (E2 lo hi its.toArray.size)];have e:((its.toArray.toList.drop (HT.eD its.toArray.size 0 lo)).take (HT.eD its.toArray.size its.toArray.size hi - HT.eD its.toArray.size 0 lo))=cut its lo hi:=by unfold cut;simp
 rw[e];have rc:aQ (cut xs lo hi) (cut its lo hi):=by unfold cut;rw[hlen];exact (r.drop _).take _
 exact⟨.ref s.heap.objs.size,_,I.Z0 (t':=s.toks) rc (yD (Ob xs lo hi) hz),rfl,q _ I.fresh⟩
def VZ(K:W.Frag)(f:Env->Option (Option Int)):TO:=λσ H Q=>∃HF ρ o,aS HF H/\dq K HF ρ σ/\f ρ=some o/\∀H' V9,bX HF H V9 H'->Q o H'
def DO(X:Cx)(e:Option Expr)(f:Env->Option (Option Int)):Prop:=PO X e (VZ X.K f)
def ud:Env->Option (Option Int):=λ_=>some none
def gI:D->Option Int|.int i=>some i|_=>none
def KJ(f:Env->Option D):Env->Option (Option Int):=λρ=>(f ρ).bind λd=>(gI d).map some
def NA:DO X none ud:=λpins s σ H Q I ⟨HF,ρ,o,sm,eo,hf,q⟩=>Mx pins s σ H Q I (by cases hf;exact q H HF (.refl sm))
def NC(h:DE X e f):DO X (some e) (KJ f):=λpins s σ H Q I ⟨HF,ρ,o,sm,eo,hf,q⟩=>MU h pins s σ H Q I (by
 obtain⟨d,hd,hf⟩:=bs hf;obtain⟨i,hi,rfl⟩:=ag hf;cases d<;>try cases hi
 exact⟨HF,ρ,_,sm,eo,hd,λv H1 Wa g1 r1=>⟨_,by simpa only[Rep] using r1,q H1 Wa g1⟩⟩)
variable {lo hi:Option Expr}{fl fh:Env->Option (Option Int)}
def sy(g:D->Option Int->Option Int->Option β)(fa:Env->Option D)(fl fh:Env->Option (Option Int)):Env->Option β:=λρ=>(fa ρ).bind λx=>(fl ρ).bind λl=>(fh ρ).bind λh=>g x l h
end
section
def f1(g:D->Option D)(f:Env->Option D):Env->Option D:=λρ=>(f ρ).bind g
end
end Dl
namespace HT
open PySem PyProof.Rows
section
open PySem.SeqAt
open PySem.AutoSeq1 (wpAny_loadPart')
open PySem.MeetsSeq PySem.MeetsSeq2 PySem.MeetsSeq3
def Ko(A:Around)(s:Shared)(a:Int)(t:Tok)(c:Int)(u:Tok)(prog:Program)(w:World)(E:Value->Shared->Prop)(Q:Value->Shared->Prop)(h:Q (.bool (decide (c<=a))) s) :
  wpAny (model prog w) A (richCompare .GtE (.int a t) (.int c u)) Q E s :=
 (PyProof.Rows.ge_int h:wpAny (model prog w) A (compareOp .GtE (.int a t) (.int c u)) Q E s)
def wa(l b:Addr)(items Wc:Array Value)(n n2:Nat)(dd XR:Option Addr)(sl XC:Array (Option Value))(ns ms:List Int)(hi:IntsAre items.toList ns)(hj:IntsAre Wc.toList ms) :
  Meets (Builtin.«tuple.__ge__» ⟨[.ref l,.ref b],[]⟩)
   (λ_ R s=>s.heap.get? l=some { cls:=.type "tuple",dict:=dd,data:=.seq items n,slots:=sl }/\s.heap.get? b=some { cls:=.type "tuple",dict:=XR,data:=.seq Wc n2,slots:=XC } /\
    R (.ok (.ret (.bool (!lexLt ns ms)))) s) :=
 .of_wp λprog w A R s h=>by
  obtain⟨hp,g,d,tk,os⟩:=s;obtain⟨hl,hb,h⟩:=h;have f2:=AutoSeq1.sub_tuple_tuple;have z1:items.size=ns.length:=by rw[<- hi.length];simp
  have z2:Wc.size=ms.length:=by rw[<- hj.length];simp
  wp_walk using wpAny_loadPart' hl,wpAny_loadPart' hb,wpAny_forIn_list _ (λrest b s'=>b.1=none/\s'=⟨hp,g,d,tk,os⟩/\∃ (vs ws:List Value) (Yj YA:List Int),rest=vs.zip ws /\
   IntsAre vs Yj/\IntsAre ws YA/\Yj.length+Wc.size=YA.length+items.size/\R (.ok (.ret (.bool (!lexLt Yj YA)))) ⟨hp,g,d,tk,os⟩) _
  case turn =>
   rintro⟨y,x⟩ rest b s' ⟨W6,rfl,vs,ws,Yj,YA,hz,hvi,ZX,hlen,hR⟩;cases hvi with
   | nil=>rw[List.zip_nil_left] at hz;cases hz
   | cons a t aaQ =>
    cases ZX with
    | nil=>rw[List.zip_nil_right] at hz;cases hz
    | cons c u aaR =>
     rw[List.zip_cons_cons] at hz;injection hz with hyx XD
     injection hyx with hy hx
     subst hy hx;rw[bg] at hR;simp only[zL] at hlen;obtain⟨e,he,Y8⟩:=BU A.in1 ⟨hp,g,d,tk,os⟩ a t c u;refine zV (he prog w _ _ ?_);cases e with
     | true =>
      rw[yM (Y8.mp rfl)] at hR
      wp_walk
      exact⟨rfl,rfl,_,_,_,_,XD,aaQ,aaR,by lia,hR⟩
     | false =>
      rw[yO (λq=>absurd (Y8.mpr q) xA)] at hR;have hri:=Ko A.in1 ⟨hp,g,d,tk,os⟩ a t c u prog w;have e1:(!decide (a < c))=decide (c<=a):=by
       rw[<- decide_not];exact decide_eq_decide.mpr (by lia)
      rw[e1] at hR
      wp_walk using hri
      exact⟨_,rfl,hR⟩
  case fin =>
   rintro⟨b1,b2⟩ s' ⟨W6,rfl,vs,ws,Yj,YA,hz,hvi,ZX,hlen,hR⟩;simp only at W6;subst W6;have hv:lexLt Yj YA=decide (items.size < Wc.size):=by
    cases hvi with
    | nil =>
     cases ZX with
     | nil =>
      simp only[xM] at hlen;rw[iW];exact (zZ (by lia)).symm
     | cons c u hw =>
      simp only[xM,zL] at hlen;rw[mw];exact (yA (by lia)).symm
    | cons a t hv =>
     cases ZX with
     | nil =>
      simp only[xM,zL] at hlen;rw[mj];exact (zZ (by lia)).symm
     | cons c u hw =>
      rw[List.zip_cons_cons] at hz;cases hz
   have hv2:(!lexLt Yj YA)=decide (items.size >= Wc.size):=by
    rw[hv,<- decide_not];exact decide_eq_decide.mpr (by lia)
   rw[hv2] at hR
   wp_walk
   exact⟨_,rfl,hR⟩
  case h =>
   exact⟨rfl,rfl,items.toList,Wc.toList,ns,ms,rfl,hi,hj,by lia,h⟩
end
end HT
namespace Dl
open PySem L2 PySem.Spec PyProof.Rows
section
def fZ:D->Option (List Int)|.tuple ds=>intsOf ds|_=>none
def eU(h:fZ x=some ns):x=.tuple (ns.map PyData.int):=by
 cases x<;>try cases h
 rename_i xs;have h:intsOf xs=some ns:=h;rw[eF h]
def To:D->D->Option Bool:=λx y=>(fZ x).bind λns=>(fZ y).map λms=>!lexLt ns ms
def J8(hu:X.A.units < cLine):jc X (compareOp .GtE) (Uc X.K To):=by
 intro pins s σ H v1 v2 u1 u2 Q I rx ry h;obtain⟨HF,x,y,k,sm,r1,r2,hg,q⟩:=h;obtain⟨ns,h1,hg⟩:=bs hg;obtain⟨ms,h2,rfl⟩:=ag hg;rw[eU h1] at r1;rw[eU h2] at r2;have key:∀ {ns:List Int}{v:V}{u:Value},Rep X.K HF (.tuple (ns.map PyData.int)) v->RelV v u->∃a its,u=.ref a/\IsTup s.heap a its/\IntsAre its.toList ns:=λ{ns v u} r rv=>by
  have p:m7 s.heap u ns:=by
   cases oH (X:=X) (us:=[u]) (vs:=[v]) (nss:=[ns]) I sm (ax.cons r ax.nil) (.cons rv .nil) with
   | cons p _=>exact p
  obtain⟨a,o,its,n,rfl,e1,e2,e3,e4⟩:=p.ex;exact⟨a,its,rfl,⟨o,e1,e2,n,e3⟩,e4⟩
 obtain⟨a,its,rfl,⟨⟨cls,dd,data,sl⟩,ho,hc,n,hd⟩,i1⟩:=key r1 rx;obtain⟨b,WU,rfl,⟨⟨Y9,XR,data2,XC⟩,XJ,Xs,n2,hd2⟩,i2⟩:=key r2 ry;simp only at hc hd Xs hd2;subst hc hd Xs hd2;exact richCompare_meets_room (op:=.GtE) ⟨_,ho,rfl⟩ ⟨_,XJ,rfl⟩ PySem.F.slot_tuple_ge PySem.F.entry_tuple_ge (PySem.F.args_tuple_ge_2 _ _) (HT.wa a b its WU n n2 dd XR sl XC ns ms i1 i2)
  ⟨ho,XJ,show Value.bool (!lexLt ns ms)≠Value.notImplemented/\EP X pins σ Q (.bool (!lexLt ns ms)) s from ⟨(λx=>nomatch x),⟨.bl _,H,I,rfl,q⟩⟩⟩ hu
end
end Dl
namespace En
open PySem PyProof.Rows
open AutoSeq1 (wpAny_loadPart')
def Yr:fillsNumberSlot (.type "tuple") "mul"=pure false:=PySem.fillsNumberSlot_seq (id:="tuple.__mul__") (r:=some (.builtin "tuple.__rmul__")) F.slot_tuple_mul.lookup (by decide +kernel) F.slot_tuple_rmul.lookup (by decide +kernel)
def Ys:seqRepeat? (.type "tuple")=pure (some (.builtin "tuple.__mul__")):=by
 unfold seqRepeat?;rw[PySem.seqSlot_of (T:="tuple") (name:="__mul__") (id:="tuple.__mul__") F.slot_tuple_mul.lookup (by decide +kernel),PySem.seqSlot_of (T:="tuple") (name:="__rmul__") (id:="tuple.__rmul__") F.slot_tuple_rmul.lookup (by decide +kernel)];rfl
def Zx(a:Int)(t:Tok)(l:Addr)(its:Array Value)(n:Nat)(dd:Option Addr)(sl:Array (Option Value)) :
  Meets (Builtin.«int.__rmul__» ⟨[.int a t,.ref l],[]⟩) (λ_ R s=>s.heap.get? l=some { cls:=.type "tuple",dict:=dd,data:=.seq its n,slots:=sl }/\R (.ok (.ret Value.notImplemented)) s) :=
 .of_wp λprog w A R s h=>by
  obtain⟨hp,g,d,tk,os⟩:=s;obtain⟨hl,h⟩:=h
  wp_walk
  exact⟨_,rfl,h⟩
def YQ(l:Addr)(its:Array Value)(n:Nat)(dd:Option Addr)(sl:Array (Option Value))(k:Int)(t:Tok)(h1:¬ (decide (k < -(2 ^ 63))||decide (k >= 2 ^ 63))=true)(h2:(its.isEmpty||k == 1)=true) :
  Meets (Builtin.«tuple.__mul__» ⟨[.ref l,.int k t],[]⟩) (λ_ R s=>s.heap.get? l=some { cls:=.type "tuple",dict:=dd,data:=.seq its n,slots:=sl }/\R (.ok (.ret (.ref l))) s) :=
 .of_wp λprog w A R s h=>by
  obtain⟨hp,g,d,tk,os⟩:=s;obtain⟨hl,h⟩:=h;have f1:=AutoSeq1.idx_int
  wp_walk using wpAny_loadPart' hl
  rw[yO h1]
  wp_walk using wpAny_loadPart' hl
  exact⟨_,rfl,h⟩
def YR(l:Addr)(its:Array Value)(n:Nat)(dd:Option Addr)(sl:Array (Option Value))(k:Int)(t:Tok)(h1:¬ (decide (k < -(2 ^ 63))||decide (k >= 2 ^ 63))=true)(h2:¬ (its.isEmpty||k == 1)=true)(h3:(decide (k<=0)||its.isEmpty)=true) :
  Meets (Builtin.«tuple.__mul__» ⟨[.ref l,.int k t],[]⟩) (λ_ R s=>s.heap.get? l=some { cls:=.type "tuple",dict:=dd,data:=.seq its n,slots:=sl }/\R (.ok (.ret (.ref s.heap.objs.size))) { s with heap:=s.heap.push { cls:=.type "tuple",data:=.seq #[] } }) :=
 .of_wp λprog w A R s h=>by
  obtain⟨hp,g,d,tk,os⟩:=s;obtain⟨hl,h⟩:=h;have f1:=AutoSeq1.idx_int
  wp_walk using wpAny_loadPart' hl
  rw[yO h1]
  wp_walk using wpAny_loadPart' hl
  exact⟨_,rfl,h⟩
def YS(l:Addr)(its:Array Value)(n:Nat)(dd:Option Addr)(sl:Array (Option Value))(k:Int)(t:Tok)(h1:¬ (decide (k < -(2 ^ 63))||decide (k >= 2 ^ 63))=true)(h2:¬ (its.isEmpty||k == 1)=true)(h3:¬ (decide (k<=0)||its.isEmpty)=true)
  (h4:¬ ((its.size:Nat):Int) * k > (2 ^ 63 - 1) / 8) (h5:¬ Builtin.Tuple.tupleTooMany (((its.size:Nat):Int) * k)=true) (hz:((List.replicate k.toNat its).foldl (·++·) #[]).size<=sizeLine) :
  Meets (Builtin.«tuple.__mul__» ⟨[.ref l,.int k t],[]⟩) (λ_ R s=>s.heap.get? l=some { cls:=.type "tuple",dict:=dd,data:=.seq its n,slots:=sl }/\R (.ok (.ret (.ref s.heap.objs.size))) { s with heap:=s.heap.push { cls:=.type "tuple",data:=.seq ((List.replicate k.toNat its).foldl (·++·) #[]) } }) :=
 .of_wp λprog w A R s h=>by
  obtain⟨hp,g,d,tk,os⟩:=s;obtain⟨hl,h⟩:=h;have f1:=AutoSeq1.idx_int
  wp_walk using wpAny_loadPart' hl
  rw[yO h1]
  wp_walk using wpAny_loadPart' hl
  rw[yO h4]
  wp_walk using wpAny_loadPart' hl
  exact⟨_,rfl,h⟩
end En
namespace Dl
open PySem L2 PySem.Spec PyProof.Rows
section
def OF(K:W.Frag):R2:=λx y H Q=>∃a k xs,x=.ref a/\y=.int k/\j5 K H a xs/\-(2 ^ 62)<=k/\k < 2 ^ 62/\xs.length * k.toNat<=sizeLine/\((List.replicate k.toNat xs).flatten=xs->Q (.ref a) H) /\
 ∀p,H p=none->Q (.ref p) (upd H p (.tup (List.replicate k.toNat xs).flatten))
def Ot:jc X (binaryOp .Mult) (OF X.K):=by
 intro pins s σ H x y v u Q I rx ry h;obtain⟨a,k,xs,rfl,rfl,hq,k1,k2,hz,q1,q2⟩:=h;cases rx;obtain⟨t,rfl⟩:=ry;obtain⟨its,r,pl,hzx⟩:=I.tuple hq;have hl:=r.length;obtain⟨⟨cls,dd,data,sl⟩,ho,hc,n,hd⟩:=id pl;simp only at hc hd;subst hc hd;have b1:¬ (decide (k < -(2 ^ 63))||decide (k >= 2 ^ 63))=true:=by
  simp only[jC,zJ];lia
 refine wpAny_binaryOp_repeat_ref (T:="tuple") (U:="int") (by decide) ⟨_,ho,rfl⟩ (λs'=>wW s' k t) En.Yr F.fills_int_mul wF En.Ys F.slot_int_index.lookup
  (qY wF (wW s k t) F.entry_int_rmul (F.args_int_rmul_2 _ _) (En.Zx k t a its.toArray n dd sl) ⟨ho,rfl,⟨_,ho,rfl⟩,?_⟩)
 have WV:∀m:Nat,List.foldl (λx1 x2=>x1++x2) #[] (List.replicate m its.toArray)=(List.replicate m its).flatten.toArray:=λm=>by
  have:=foldl_rep its m [];rw[xP] at this;exact this
 by_cases h2:(its.toArray.isEmpty||k == 1)=true
 ·refine qY F.slot_tuple_mul ⟨_,ho,rfl⟩ Zk (wZ _ _) (En.YQ a its.toArray n dd sl k t b1 h2) ⟨ho,⟨.ref a,H,I,rfl,q1 ?_⟩⟩;rw[jC] at h2;rcases h2 with h2|h2
  ·have:xs=[]:=by
    have e:its=[]:=by simpa using h2
    rw[e] at hl;exact List.length_eq_zero_iff.mp hl
   rw[this];simp
  ·have:k=1:=eq_of_beq h2;subst this;simp
 ·by_cases h3:(decide (k<=0)||its.toArray.isEmpty)=true
  ·refine qY F.slot_tuple_mul ⟨_,ho,rfl⟩ Zk (wZ _ _) (En.YR a its.toArray n dd sl k t b1 h2 h3) ⟨ho,?_⟩;have hk0:k.toNat=0:=by
    simp only[jC,zJ] at h3 h2;rcases h3 with h3|h3
    ·lia
    ·exact absurd (.inl h3) h2
   have q3:=q2 s.heap.objs.size I.fresh;rw[hk0] at q3;exact⟨.ref s.heap.objs.size,_,I.laid (t':=s.toks) (o:=.tup []) (λb ob q=>zU _ q) (yN _) ⟨xW _,[],.nil,uI.new _ _⟩,rfl,q3⟩
  ·have hm:its.length * k.toNat<=sizeLine:=by rw[<- hl];exact hz
   have hkn:(k.toNat:Int)=k:=by
    simp only[jC,zJ,not_or] at h3;lia
   have YT:((its.toArray.size:Nat):Int) * k=((its.length * k.toNat:Nat):Int):=by rw[zH,Int.natCast_mul,hkn]
   have hv:=L2.aQ.rep r k.toNat;have aaA:(List.replicate k.toNat xs).flatten.length<=sizeLine:=by rw[len_rep,Nat.mul_comm];exact hz
   have hs8:(sizeLine:Nat)<=(2 ^ 63 - 1) / 8:=by decide
   have h4:¬ ((its.toArray.size:Nat):Int) * k > (2 ^ 63 - 1) / 8:=by rw[YT];lia
   have h5:¬ Builtin.Tuple.tupleTooMany (((its.toArray.size:Nat):Int) * k)=true:=by
    unfold Builtin.Tuple.tupleTooMany;rw[YT];simp only[zJ];lia
   refine qY F.slot_tuple_mul ⟨_,ho,rfl⟩ Zk (wZ _ _) (En.YS a its.toArray n dd sl k t b1 h2 h3 h4 h5 (by rw[WV,zH,<- hv.length];exact aaA)) ⟨ho,?_⟩;rw[WV];exact⟨.ref s.heap.objs.size,_,I.laid (t':=s.toks) (o:=.tup (List.replicate k.toNat xs).flatten) (λb ob q=>zU _ q) (yN _) ⟨aaA,_,hv,uI.new _ _⟩,rfl,q2 _ I.fresh⟩
def uq:D->D->Option D
 | .tuple ds,.int k=>if Bu k=true/\ds.length * k.toNat<=sizeLine then some (.tuple (List.replicate k.toNat ds).flatten) else none
 | _,_=>none
def pQ{K:W.Frag}(r:ax K HF ds vs):∀k:Nat,ax K HF (List.replicate k ds).flatten (List.replicate k vs).flatten
 | 0=>ax.nil
 | k+1=>by rw[xF,xF,qN,qN];exact r.append (pQ r k)
def JU{K:W.Frag}:gO K (OF K) uq:=by
 intro HF H x y v1 v2 d Q sm r1 r2 hg q;cases x<;>cases y<;>simp only[uq] at hg<;>try cases hg
 split at hg
 ·rename_i xs k hh;cases hg;simp only[Rep] at r1 r2;obtain⟨a,vs,rfl,ha,ra⟩:=r1;have ok:=hh.1;unfold Bu at ok;rw[zF] at ok;refine⟨a,k,vs,rfl,r2,aG sm ha,yR ok.1,yR ok.2,by rw[ra.length];exact hh.2,λe=>q _ H HF (.refl sm) ?_,λp hp=>q _ _ _ (.new sm hp) (fM (sm.free hp) (pQ ra _))⟩;simp only[Rep];refine⟨a,vs,rfl,ha,?_⟩;have:=pQ ra k.toNat;rw[e] at this;exact this
 ·cases hg
end
end Dl
namespace En
open PySem PyProof.Rows
section
def YU(hh:A.handled=none)(hl:s.heap.IsTuple l its)(hi:IntsAre its.toList ns)(hb:its.size+1 < scanBound)
  (h:∀ (h':Heap) (tk:Nat),h'.SetOf (intKind prog w) s.heap.objs.size (λk'=>(firstMet (λi=>ns.getD i 0) its.size).any (· == k')) (firstMet (λi=>ns.getD i 0) its.size).length->(∀b o,b < s.heap.objs.size->s.heap.get? b=some o->h'.get? b=some o)->Q (.ref s.heap.objs.size) { s with heap:=h',toks:=tk }) :
  wpAny (model prog w) A (call (.type "set") [.ref l]) Q E s:=by
 obtain⟨c,tl,agx⟩:=F.called_set.mro;have ae5:=F.called_set.made;have aae:=F.called_set.sub;refine vP (codeAny_of_tree ?_);show wpAny _ _ (callAny (.type "set") _) _ _ _;refine zW ⟨Za _ (by decide +kernel),kH F.entry_type_call ?_⟩;rw[Around.under_plain (weight_type_call_type "set" [.ref l] []) rfl];have h1:=F.called_set.notType;have h2:=F.called_set.canCreate;have hct:=F.typeCall_set_1 (.ref l)
 repeat (any_goals (first|assumption|wp_step))
 refine jT (code_set_new_1 (.ref l) (E:=E) (Q₁:=λobj s1=>∃led:Bool,obj=.ref s.heap.objs.size/\s1={ s with heap:=s.heap.push { cls:=.type "set",dict:=none,data:=.set #[] 0 (.fresh 0 0 led) } }) λled=>⟨led,rfl,rfl⟩) λr s1 hr=>?_;cases r with
 | error e=>exact hr
 | ok fl =>
  cases fl with
  | ret obj =>
   obtain⟨led,rfl,rfl⟩:=hr;have hS:(s.heap.push { cls:=.type "set",dict:=none,data:=.set #[] 0 (.fresh 0 0 led) }).get? s.heap.objs.size=some { cls:=.type "set",dict:=none,data:=.set #[] 0 (.fresh 0 0 led) }:=by exact zX _ rfl
   have hT:Shared.TypeIs { s with heap:=s.heap.push { cls:=.type "set",dict:=none,data:=.set #[] 0 (.fresh 0 0 led) } } (.ref s.heap.objs.size) "set":=⟨_,hS,rfl⟩
   have hli:=F.called_set.init.lookup;have hbi:=F.called_set.init.bind (.ref s.heap.objs.size)
   repeat (any_goals (first|assumption|wp_step))
   refine jT (wL (R:=wants (λr s2=>r=.none/\∃h' tk,s2={ s with heap:=h',toks:=tk }/\h'.SetOf (intKind prog w) s.heap.objs.size (λk'=>(firstMet (λi=>ns.getD i 0) its.size).any (· == k')) (firstMet (λi=>ns.getD i 0) its.size).length /\
     (∀b o,b < s.heap.objs.size->s.heap.get? b=some o->h'.get? b=some o)) E) F.called_set.init.plain F.entry_set_init (check_set_init_1 hT ?_)) λr2 s2 hr2=>?_
   ·obtain⟨ol,hol,W8,nl,hdl⟩:=hl;obtain⟨agy,ab5,ae8,aa6⟩:=ol;simp only at W8 hdl;subst W8 hdl;have ab6:(s.heap.push { cls:=.type "set",dict:=none,data:=.set #[] 0 (.fresh 0 0 led) }).get? l=some { cls:=.type "tuple",dict:=ab5,data:=.seq its nl,slots:=aa6 }:=zU _ hol;have agz:=F.sub_tuple_set;have agA:=F.sub_tuple_frozenset;have Wz:(Value.type "tuple" == Value.type "dict")=false:=by decide
    have hl1:(s.heap.push { cls:=.type "set",dict:=none,data:=.set #[] 0 (.fresh 0 0 led) }).IsTuple l its:=⟨_,ab6,rfl,nl,rfl⟩
    unfold Builtin.«set.__init__» noKeywords Builtin.Frozenset.updateFrom;generalize hPI:pyIter=PI
    wp_walk
    subst hPI;refine xS hl1 (zV (wpAny_runValue ?_));have hlS:l < s.heap.objs.size:=zY hol;have hh3:A.in1.in1.in1.handled=none:=by simp[hh]
    have adN:l≠(s.heap.push { cls:=.type "set",dict:=none,data:=.set #[] 0 (.fresh 0 0 led) }).objs.size:=by rw[xK];exact yS (jP hlS)
    have hSf:s.heap.objs.size∉[(s.heap.push { cls:=.type "set",dict:=none,data:=.set #[] 0 (.fresh 0 0 led) }).objs.size,l]:=by
     rw[xK];simp only[zQ,yF,xV,not_or];exact⟨yS (kU _),jJ hlS⟩
    have aa7:∀ (i:Nat) (v:Value),its[i]?=some v->∃t,v=.int ((λi=>ns.getD i 0) i) t:=λi v hv=>IntsAre.int_at hi i v (by rw[Array.getElem?_toList];exact hv);refine codeAny_set_update_loopS ((Walks.tuple hh3 _ l adN its).toS) s.heap.objs.size hSf (λi=>ns.getD i 0) aa7 hb (its.size - 0) 0 _ (by lia) (xW _) ⟨⟨_,zX _ rfl,rfl,rfl⟩,?ht⟩ ?hS0 ?hR
    case ht=>exact⟨_,zU _ ab6,rfl,nl,rfl⟩
    case hS0 =>
     have adP:((s.heap.push { cls:=.type "set",dict:=none,data:=.set #[] 0 (.fresh 0 0 led) }).push { cls:=.type "tuple_iterator",data:=.fields #[.ref l,.int 0 0] }).get? s.heap.objs.size=some { cls:=.type "set",dict:=none,data:=.set #[] 0 (.fresh 0 0 led) }:=by exact zU _ hS
     exact SetOf_congr ((setObjOf_fresh (knd:=intKind prog w) led).setOf adP (by unfold scanBound;lia)) (λ_=>rfl) rfl
    case hR =>
     intro s' hm XH;obtain⟨h',g',d',tk',os'⟩:=s';have eg:g'=s.gens:=hm.gens;have ed:d'=s.drawn:=hm.drawn;have eo:os'=s.os:=hm.os;subst eg ed eo;show wpAny _ _ _ _ _ _;refine zW ?_;show wpAny _ _ (ret Value.none) _ _ _;refine zW ⟨rfl,h',tk',rfl,XH,λb o W6 e=>?_⟩;refine hm.heap b o ?_ (zU _ (zU _ e));simp only[zQ,yF,xV,not_or];exact⟨yS W6,by rw[xK];exact yS (jP W6)⟩
   ·cases r2 with
    | error e=>exact hr2
    | ok fl2 =>
     cases fl2 with
     | ret r =>
      obtain⟨rfl,h',tk,rfl,XH,Ww⟩:=hr2
      repeat (any_goals (first|assumption|wp_step))
      exact h _ _ XH Ww
     | _=>exact hr2.elim
  | _=>exact hr.elim
end
end En
namespace Dl
open PySem L2 PySem.Spec PyProof.Rows
def many(ns:List Int):Nat:=(firstMet (λi=>ns.getD i 0) ns.length).length
section
def Hi(hc:X.calm=true):ft X (.type "set") (λxs H Q=>∃ (a:Addr) (ns:List Int),xs=[.ref a]/\j5 X.K H a (ns.map V.int)/\ns.length+1 < scanBound/\∀q S,H q=none->Q (.ref q) (upd H q (.set S (many ns)))):=by
 intro pins s σ H xs us Q I r h;obtain⟨a,ns,rfl,hq,hb,q⟩:=h;obtain⟨u,rfl,rx⟩:=vals1 r;cases rx;obtain⟨its,rv,pl,hz⟩:=I.tuple hq;have hi:IntsAre its.toArray.toList ns:=intsAre_of rv;have hlen:its.toArray.size=ns.length:=by have:=rv.length;simpa using this.symm
 refine En.YU (I.ok.hd hc) (show s.heap.IsTuple a its.toArray from pl) hi (by rw[hlen];exact hb) λh' tk hS hk=>?_;rw[hlen] at hS;exact⟨.ref s.heap.objs.size,_,I.laid (t':=tk) (λb o e=>hk b o (zY e) e) (yN _) (show fw X.prog X.w _ h' _ (.set _ (many ns)) from hS),rfl,q _ _ I.fresh⟩
def HH:ft X (.builtin "len") (λxs H Q=>∃ (a:Addr) (S:Int->Bool) (n:Nat),xs=[.ref a]/\H a=some (.set S n)/\Q (.int n) H):=by
 intro pins s σ H xs us Q I r h;obtain⟨a,S,n,rfl,hq,q⟩:=h;obtain⟨u,rfl,rx⟩:=vals1 r;cases rx;obtain⟨o,es,ep,t,ho,hex,hd,hel,Zw,Wg,hf,hn⟩:=(show s.heap.SetOf (intKind X.prog X.w) a S n from I.Wb a _ hq)
 have Yk:((es.size:Nat):Int) < 2 ^ 63:=by unfold scanBound at Wg;lia
 refine call_len_set ho hex hd hf Yk ⟨.int n,H,I.tok _,⟨s.toks+1,by rw[hn]⟩,q⟩
def mO:D->Option D:=λd=>(fZ d).bind λns=>if ns.length+1 < scanBound then some (.int (many ns)) else none
def Ih(hc:X.calm=true)(B:se X "len" (.builtin "len"))(C:se X "set" (.type "set"))(h:DE X e f)(he:starEach [e] X.env=(false,eval e X.env)::starEach [] X.env:=by rfl) :
  DE X (.Call (.Name "len" p) [.Call (.Name "set" p') [e] [] pos'] [] pos) (f1 mO f) :=
 bf (o6 HH B.gl B.mg B.bt (cK (qf (Hi hc) C.gl C.mg C.bt (cK h fT he) (by decide) (by decide) he rfl) fT) (by decide) (by decide) rfl rfl) λσ H Q ⟨HF,ρ,d,sm,eo,hf,q⟩=>by
  obtain⟨x,hx,hf⟩:=bs hf;obtain⟨ns,h1,hf⟩:=bs hf;split at hf
  ·rename_i hb;cases hf;refine⟨HF,ρ,x,sm,eo,hx,λv1 H1 Wa g1 r1=>?_⟩;rw[eU h1] at r1;simp only[Rep] at r1;obtain⟨a,vs,rfl,hs,rr⟩:=r1;have key:∀ {ns:List Int}{ws:List V},ax X.K Wa (ns.map PyData.int) ws->ws=ns.map V.int:=λ{ns}=>by
    induction ns with
    | nil=>exactλh=>h.nil_inv
    | cons n ns ih =>
     intro ws h;obtain⟨v,r,rfl,a,b⟩:=h.cons_inv;simp only[Rep] at a;rw[a,ih b];rfl
   have:=key rr;subst this;refine⟨a,ns,rfl,aG g1.fh hs,hb,λb S W6=>⟨b,S,_,rfl,aF,q _ _ Wa (g1.trans (.own g1.fh W6)) (by simp[Rep])⟩⟩
  ·cases hf
end
def mE(val:Nat->Int):∀i,(firstMet val i).length=i↔((List.range i).map val).Nodup
 | 0=>by simp[firstMet]
 | i+1=>by
  have hle:=firstMet_length_le val i;rw[firstMet_succ,step_length,vY,jB,Zi];have ha:=firstMet_any val i (val i);have ih:=mE val i;constructor
  ·intro h;by_cases Yt:(firstMet val i).any (· == val i)=true
   ·rw[yM Yt] at h;lia
   ·rw[yO Yt] at h;refine⟨ih.mp (by lia),by simp,λa hm b hb z=>?_⟩;have W6:b=val i:=by simpa using hb
    subst z W6;rw[ha] at Yt;exact Yt (List.any_eq_true.mpr ⟨_,hm,by simp⟩)
  ·rintro⟨h1,_,h3⟩;rw[yO ?_]
   ·rw[ih.mpr h1]
   ·rw[ha];intro Yt;obtain⟨x,hx,he⟩:=List.any_eq_true.mp Yt;have he':x=val i:=by simpa using he
    exact h3 x hx (val i) (by simp) he'
def Ew(ns:List Int):many ns=ns.length↔ns.Nodup:=by
 unfold many;rw[mE];have:(List.range ns.length).map (λi=>ns.getD i 0)=ns:=my ns 0;rw[this]
section
def tO{K:W.Frag}(h:gO K r g)(h':gO K r' g'):gO K (λx y H Q=>r x y H Q\/r' x y H Q) (λx y=>(g x y).or (g' x y)):=by
 intro HF H x y v1 v2 d Q sm r1 r2 hg q;cases e:g x y with
 | some d' =>
  have hg:(g x y).or (g' x y)=some d:=hg;rw[e] at hg;cases hg;exact .inl (h HF H x y v1 v2 d Q sm r1 r2 e q)
 | none =>
  have hg:(g x y).or (g' x y)=some d:=hg;rw[e] at hg;exact .inr (h' HF H x y v1 v2 d Q sm r1 r2 hg q)
def HE{K:W.Frag}:gO K (Lh K) (λx y=>(oF x y).map PyData.list):=by
 intro HF H x y v1 v2 d Q sm r1 r2 hg q;obtain⟨zs,hg',rfl⟩:=ag hg;clear hg;cases x<;>cases y<;>simp only[oF] at hg'<;>try cases hg'
 obtain⟨rfl,hz⟩:=fP hg';simp only[Rep] at r1 r2;obtain⟨a,vs,rfl,ha,ra⟩:=r1;obtain⟨b,us,rfl,hb,rb⟩:=r2;refine⟨a,b,vs,us,rfl,rfl,sm.seq ha,sm.seq hb,by rw[ra.length,rb.length,<- zN];exact hz,λp hp=>q _ _ _ (.new sm hp) ?_⟩;simp only[Rep];exact⟨p,_,rfl,.inl (.inl aF),(ra.append rb).mono (eJ (sm.free hp))⟩
def aD:D->D->Option D:=λx y=>((xu (λ_ _=>True) λi j=>.int (i+j)) x y).or ((Nk x y).or ((oF x y).map PyData.list))
def Bk.add(C:Bk X N sc k)(ha:DE X a fa)(hb:DE X b fb):DE X (.BinOp a .Add b pos) (f2 aD fa fb):=CN (Re.or (Hq.or vd)) (tO KU (tO MV HE)) ha hb
def dJ:D->D->Option D:=xu (λ_ _=>True) λi j=>.int (i - j)
def Bk.sub(C:Bk X N sc k)(ha:DE X a fa)(hb:DE X b fb):DE X (.BinOp a .Sub b pos) (f2 dJ fa fb):=CN Rw KU ha hb
def cJ:D->D->Option D:=λx y=>((xu ub λi j=>.int (i * j)) x y).or (uq x y)
def Bk.mul(C:Bk X N sc k)(ha:DE X a fa)(hb:DE X b fb):DE X (.BinOp a .Mult b pos) (f2 cJ fa fb):=CN (Q3.or Ot) (tO Mf JU) ha hb
def o9:D->D->Option D:=xu Nu λi j=>.int (i / j)
def Bk.div(C:Bk X N sc k)(ha:DE X a fa)(hb:DE X b fb):DE X (.BinOp a .FloorDiv b pos) (f2 o9 fa fb):=CN MP Mf ha hb
def nc:D->D->Option D:=xu (λ_ j=>0 < j) λi j=>.int (i % j)
def Bk.mod(C:Bk X N sc k)(ha:DE X a fa)(hb:DE X b fb):DE X (.BinOp a .Mod b pos) (f2 nc fa fb):=CN QG Mf ha hb
def EY:D->D->Option D:=xu (λ_ _=>True) λi j=>.bool (decide (i < j))
def Ha:D->D->Option D:=xu (λ_ _=>True) λi j=>.bool (decide (i<=j))
def tx:D->D->Option D:=xu (λ_ _=>True) λi j=>.bool (decide (j < i))
def Uh:D->D->Option D:=λx y=>((xu (λ_ _=>True) λi j=>.bool (decide (j<=i))) x y).or ((To x y).map PyData.bool)
def bz:D->D->Option D:=λx y=>(OA x y).map PyData.bool
def gU:D->D->Option D:=λx y=>(RL x y).map PyData.bool
def Bk.u64(C:Bk X N sc k):X.A.units+64 < cLine:=C.room.units
def Bk.u66(C:Bk X N sc k):X.A.units+66 < cLine:=by have:=C.room.un;lia
def Bk.lt(C:Bk X N sc k)(ha:DE X a fa)(hb:DE X b fb):DE X (.Compare a [.Lt] [b] pos) (f2 EY fa fb):=mF LR iP ha hb (dN _)
def Bk.le(C:Bk X N sc k)(ha:DE X a fa)(hb:DE X b fb):DE X (.Compare a [.LtE] [b] pos) (f2 Ha fa fb):=mF Jz iP ha hb (dN _)
def Bk.gt(C:Bk X N sc k)(ha:DE X a fa)(hb:DE X b fb):DE X (.Compare a [.Gt] [b] pos) (f2 tx fa fb):=mF OG iP ha hb (dN _)
def Bk.ge(C:Bk X N sc k)(ha:DE X a fa)(hb:DE X b fb):DE X (.Compare a [.GtE] [b] pos) (f2 Uh fa fb):=mF (OI.or (J8 C.room.Y6)) (tO iP p5) ha hb (dN _)
def Bk.eq(C:Bk X N sc k)(ha:DE X a fa)(hb:DE X b fb):DE X (.Compare a [.Eq] [b] pos) (f2 bz fa fb):=mF (Km C.u64) p5 ha hb (dN _)
def Bk.ne(C:Bk X N sc k)(ha:DE X a fa)(hb:DE X b fb):DE X (.Compare a [.NotEq] [b] pos) (f2 gU fa fb):=mF (JL C.u64) p5 ha hb (dN _)
def Bk.YV(C:Bk X N sc k)(ha:DE X a fa)(hb:DE X b fb):DT X (.Compare a [.Lt] [b] pos) (fB (f2 EY fa fb)):=l6 LR iP ha hb (dN _)
def Bk.tle(C:Bk X N sc k)(ha:DE X a fa)(hb:DE X b fb):DT X (.Compare a [.LtE] [b] pos) (fB (f2 Ha fa fb)):=l6 Jz iP ha hb (dN _)
def Bk.tgt(C:Bk X N sc k)(ha:DE X a fa)(hb:DE X b fb):DT X (.Compare a [.Gt] [b] pos) (fB (f2 tx fa fb)):=l6 OG iP ha hb (dN _)
def Bk.tge(C:Bk X N sc k)(ha:DE X a fa)(hb:DE X b fb):DT X (.Compare a [.GtE] [b] pos) (fB (f2 Uh fa fb)):=l6 (OI.or (J8 C.room.Y6)) (tO iP p5) ha hb (dN _)
def Bk.teq(C:Bk X N sc k)(ha:DE X a fa)(hb:DE X b fb):DT X (.Compare a [.Eq] [b] pos) (fB (f2 bz fa fb)):=l6 (Km C.u64) p5 ha hb (dN _)
def Bk.tne(C:Bk X N sc k)(ha:DE X a fa)(hb:DE X b fb):DT X (.Compare a [.NotEq] [b] pos) (fB (f2 gU fa fb)):=l6 (JL C.u64) p5 ha hb (dN _)
def lQ:D->Option Int->Option Int->Option D|.tuple ds,lo,hi=>some (.tuple (cut ds lo hi))|.list ds,lo,hi=>some (.list (cut ds lo hi))|_,_,_=>none
def Bk.cut(C:Bk X N sc k){lo:Option Expr}{fl:Env->Option (Option Int)}(ha:DE X a fa)(hl:DO X lo fl)(hh:DO X hi fh):DE X (.Subscript a (.Slice lo hi none p2) pos) (sy lQ fa fl fh):=bf (Kq (Rp.or Oj) ha hl hh) λσ H Q ⟨HF,ρ,d,sm,eo,hf,q⟩=>by
 obtain⟨x,hx,hf⟩:=bs hf;obtain⟨l,hl,hf⟩:=bs hf;obtain⟨u,hu,hf⟩:=bs hf;refine⟨HF,ρ,x,sm,eo,hx,λv1 H1 Wa g1 r1=>⟨Wa,ρ,l,g1.fh,eo.mono g1.ff,hl,λH2 Wu g2=>⟨Wu,ρ,u,g2.fh,eo.mono (g1.ff.trans g2.ff),hu,λH3 WL g3=>?_⟩⟩⟩;have G:=(g1.trans g2).trans g3;have r3:=r1.mono (g2.ff.trans g3.ff);cases x<;>try cases hf
 ·simp only[Rep] at r3;obtain⟨b,vs,rfl,hs,rr⟩:=r3;refine .inr ⟨b,vs,rfl,G.fh.seq hs,λp hp=>q _ _ _ (G.trans (.new G.fh hp)) ?_⟩;simp only[Rep];exact⟨p,_,rfl,.inl (.inl aF),(tM rr l u).mono (eJ (G.fh.free hp))⟩
 ·simp only[Rep] at r3;obtain⟨b,vs,rfl,hs,rr⟩:=r3;refine .inl ⟨b,vs,rfl,aG G.fh hs,λe=>q _ H3 WL G ?_,λp hp=>q _ _ _ (G.trans (.new G.fh hp)) (fM (G.fh.free hp) (tM rr l u))⟩;simp only[Rep];refine⟨b,vs,rfl,hs,?_⟩;have:=tM rr l u;rw[e] at this;exact this
def MG:D->Option D|.int i=>some (.int (-i))|_=>none
def Bk.neg(C:Bk X N sc k)(ha:DE X a fa):DE X (.UnaryOp .USub a pos) (f1 MG fa):=bf (Td PZ ha) λσ H Q ⟨HF,ρ,d,sm,eo,hf,q⟩=>by
 obtain⟨x,hx,hf⟩:=bs hf;refine⟨HF,ρ,x,sm,eo,hx,λv1 H1 Wa g1 r1=>?_⟩;cases x<;>try cases hf
 exact⟨_,by simpa only[Rep] using r1,q _ H1 Wa g1 (by simp[Rep])⟩
def Jl:bootBuiltins "len"=some (.builtin "len"):=by decide +kernel
def vo:bootBuiltins "isinstance"=some (.builtin "isinstance"):=by decide +kernel
def K0:bootBuiltins "tuple"=some (.type "tuple"):=by decide +kernel
def Ox:bootBuiltins "list"=some (.type "list"):=by decide +kernel
def JR:bootBuiltins "range"=some (.type "range"):=by decide +kernel
def Qz:bootBuiltins "all"=some (.builtin "all"):=by decide +kernel
def Rz:bootBuiltins "set"=some (.type "set"):=by decide +kernel
def y6:bootBuiltins "sorted"=some (.builtin "sorted"):=by decide +kernel
def Ak:bootBuiltins "enumerate"=some (.type "enumerate"):=by decide +kernel
def QQ:bootBuiltins "zip"=some (.type "zip"):=by decide +kernel
end
abbrev cf(f:Env->Option (List D)):Env->Option D:=λρ=>(f ρ).map PyData.list
abbrev cF:List D->Option D:=λds=>(cg ds).map PyData.tuple
section
def Bk.ab9(C:Bk X N sc k)(h:decide (sc.names.lookup x=some .local)=true):X.env.scope.names.lookup x=some .local:=by
 rcases C.tb x _ (yR h) with q|⟨q,_⟩
 ·exact q
 ·cases q
def isStar:Expr->Bool|.Starred ..=>true|_=>false
def bE{env:PySem.Env}(h:isStar e=false):starEach (e::es) env=(false,eval e env)::starEach es env:=by
 cases e<;>first|rfl|cases h
def Qe(he:DE X e f)(hs:DA X es g)(h:isStar e=false:=by rfl):DA X (e::es) (aa f g):=AM he hs (bE h)
def uZ{env:PySem.Env}:swapsWith (.ListComp elt gens scope pos) (some (.Name x py)) line env=pure (env.blockKind == .function&&env.kindOf x == some .local && py.line == pos.line
     &&!(scope.names.any λ(n,k)=>n == x&&(k == .local || k == .cell))):=rfl
def OO{env:PySem.Env}(h:env.scope.kind=.function):env.blockKind=.function:=by unfold PySem.Env.blockKind;rw[h];rfl
def Bk.swap(C:Bk X N sc k)(h:decide (sc.names.lookup x=some .local)=true)(h2:(py.line == pos.line&&!(scope.names.any λ(n,k)=>n == x&&(k == .local || k == .cell)))=true) :
  swapsWith (.ListComp elt gens scope pos) (some (.Name x py)) line X.env=pure true:=by
 rw[uZ,OO C.kd,show X.env.kindOf x=some .local from C.ab9 h];rw[Bool.and_assoc,h2];rfl
def Bk.aa8(C:Bk X N sc k)(h:decide (sc.names.lookup x=some .cell)=true) :
  swapsWith (.ListComp elt gens scope pos) (some (.Name x py)) line X.env=pure false:=by
 have q:X.env.kindOf x=some .cell:=by
  rcases C.tb x _ (yR h) with q|⟨q,_⟩
  ·exact q
  ·cases q
 rw[uZ,q,OO C.kd];rfl
end
section
variable {K:W.Frag}
structure aM(K:W.Frag)(x:Str)(st:Stmt)(ps:List Str):Prop where
 ex:∃ (f:Addr) (fd:FuncData),W.nsIn K mainGlobals x=some (some (.ref f))/\JO K x x st f fd/\Binds K fd ps []
structure bI(K:W.Frag)(mg:Str->Option Value)(x:Str)(st:Stmt)(ps:List Str):Prop where
 ex:∃ (f:Addr) (fd:FuncData),mg x=some (.ref f)/\JO K x x st f fd/\Binds K fd ps []
def aM.mg{h:Heap}{mg:Str->Option Value}{st:Stmt}(D:aM K x st ps)(X:K.In h)(G:h.Ns mainGlobals mg):bI K mg x st ps:=by
 obtain⟨f,fd,a,b,c⟩:=D.ex;exact⟨f,fd,W.mg_of X G a,b,c⟩
def iu(st:Stmt)(ps:List Str):Prop:=∀ (x qual:Str) (kV doc pm:Value) (an:Option Addr) (Wt ct:Value) (us:List Value),us.length=ps.length->bindArgs (W.fnOf x qual (iL st) (bG st) (aj st) .none kV doc pm an Wt ct) ⟨us,[]⟩=pure (ps.zip us)
def SN{st:Stmt}{kV:Value}(hb:iu st ps)(a:W.nsIn K mainGlobals x=some (some (.ref f)))(l:K.lookup f=some ⟨oc,od,.func (W.fnOf x x (iL st) (bG st) (aj st) .none kV doc pm an Wt ct),Yi⟩)
  (c:W.codeIn K Wt x=true) (k:W.keepIn K (.ref f)=true):aM K x st ps:=⟨f,_,a,A2 (st:=st) l c k,(A2 (st:=st) l c k).binds λkV doc pm an Wt ct us h=>hb _ _ kV doc pm an Wt ct us h⟩
structure sd(K:W.Frag)(x:Str)(st:Stmt)(ps:List Str):Prop where
 ex:∃ (f:Addr) (fd:FuncData) (c P:Addr),W.nsIn K mainGlobals x=some (some (.ref f))/\JO K x x st f fd/\Binds K fd ps []/\fd.code=.ref c/\W.codeHdIn K c P=true
structure Hv(K:W.Frag)(mg:Str->Option Value)(x:Str)(st:Stmt)(ps:List Str):Prop where
 ex:∃ (f:Addr) (fd:FuncData) (c P:Addr),mg x=some (.ref f)/\JO K x x st f fd/\Binds K fd ps []/\fd.code=.ref c/\W.codeHdIn K c P=true
def sd.mg{h:Heap}{mg:Str->Option Value}{st:Stmt}(D:sd K x st ps)(X:K.In h)(G:h.Ns mainGlobals mg):Hv K mg x st ps:=by
 obtain⟨f,fd,c,P,a,b⟩:=D.ex;exact⟨f,fd,c,P,W.mg_of X G a,b⟩
def L9(K:W.Frag)(c:Addr):Addr:=match K.lookup c with
 | some ⟨_,_,.fields vs,_⟩=>(match (vs[11]?:Option Value) with|some (.ref P)=>P|_=>0)
 | _=>0
def Tv{st:Stmt}{kV:Value}(hb:iu st ps)(a:W.nsIn K mainGlobals x=some (some (.ref f)))(l:K.lookup f=some ⟨oc,od,.func (W.fnOf x x (iL st) (bG st) (aj st) .none kV doc pm an (.ref c) ct),Yi⟩)
  (cd:W.codeIn K (.ref c) x=true) (k:W.keepIn K (.ref f)=true) (hh:W.codeHdIn K c (L9 K c)=true):sd K x st ps:=⟨f,_,c,L9 K c,a,A2 (st:=st) l cd k,(A2 (st:=st) l cd k).binds λkV doc pm an Wt ct us h=>hb _ _ kV doc pm an Wt ct us h,rfl,hh⟩
def Rk{K:W.Frag}(h:(cN.all λx=>match W.nsIn K mainGlobals x with|some none=>true|_=>false)=true):∀x∈cN,W.nsIn K mainGlobals x=some none:=by
 intro x hx;have:=List.all_eq_true.mp h x hx;split at this
 ·assumption
 ·cases this
def Fj{K:W.Frag}{H:Hp}{a:Addr}{ns:List Int}{m:List D->Option D}(hS:iw K H a (ns.map V.int))(hT:fK K H)(h:m [.list (ns.map PyData.int)]=some (.bool true)){X:_}:SQ K 1 m [.ref a] H (λv _=>v=.bl true) X:=by
 refine⟨H,[.list (ns.map PyData.int)],.bool true,.refl _,hT,ax.cons ?_ ax.nil,rfl,h,λv H' V9 G r=>by simpa only[Rep] using r⟩;simp only[Rep];refine⟨a,_,rfl,hS,?_⟩;clear h hS hT
 induction ns with
 | nil=>exact ax.nil
 | cons n ns ih=>exact ax.cons (by simp[Rep]) ih
end
def U7(h:isStar e=false)(he:DE X e f)(hs:DA X es g):DA X (e::es) (aa f g):=Qe he hs h
section
def RQ:ar->Option Out:=λ_=>none
def Tq{st:Stmt}:DS X V7 V8 st RQ:=λpins s σ H E I ⟨HF,ρ,o,S,hg,q⟩=>by cases hg
def fR(f:Env->Option D):ar->Option Out:=λρ=>(f (aK ρ)).map λ_=>.nx ρ
def NK(hs:swapsWith e none pos.line X.env=pure false)(h:DE X e f):DS X V7 V8 (.Expr e pos) (fR f):=cO (pD h hs) λE σ H ⟨HF,ρ,o,S,hg,q⟩=>by
 obtain⟨d,h,rfl⟩:=ag hg;exact⟨H,aK ρ,d,.refl _,S.all,h,λv H' V9 G r=>q σ H' HF (S.step G.hh) (.refl _)⟩
def RS(t:Env->Option Bool)(gb:ar->Option Out):Nat->ar->Option Out
 | 0,_=>none
 | n+1,ρ=>(t (aK ρ)).bind λb=>if b=true then (gb ρ).bind fun|.nx ρ'=>RS t gb n ρ'|.rt d=>some (.rt d) else some (.nx ρ)
def LK(n:Nat)(hp:PassesOwn (model X.prog X.w) X.A X.env X.xe)(hc:DT X c t)(hb:G9 X V7 V8 body gb):DS X V7 V8 (.While c body [] pos) (RS t gb n) :=
 cO (J7 hp hc hb) λE σ H ⟨HF,ρ,o,S,hg,q⟩=>by
  refine⟨λm σ' H'=>∃V9 ρ',lD X.K V7 V8 V9 H' ρ' σ'/\aS HF V9/\RS t gb m ρ'=some o,⟨n,HF,ρ,S,.refl _,hg⟩,?_⟩;rintro m σ' H' ⟨V9,ρ',S',s',hf⟩;cases m with
  | zero=>cases hf
  | succ m =>
   unfold RS at hf;obtain⟨b,hb,hf⟩:=bs hf;refine⟨H',aK ρ',b,.refl _,S'.all,hb,λH1 Wa G=>?_⟩;cases b with
   | false =>
    rw[yO xA] at hf ⊢;cases hf;exact q σ' H1 V9 (S'.step G.hh) s'
   | true =>
    rw[yM rfl] at hf ⊢;obtain⟨o1,h2,hf⟩:=bs hf;refine⟨λYx H3=>∃WL ρ3,lD X.K V7 V8 WL H3 ρ3 Yx/\aS HF WL/\RS t gb m ρ3=some o,λYx H3 ⟨WL,ρ3,a1,a2,a3⟩=>⟨m,kU _,WL,ρ3,a1,a2,a3⟩,V9,ρ',o1,S'.step G.hh,h2,?_⟩;cases o1 with
    | nx Xw=>exactλσ4 H4 Xd S4 s4=>⟨Xd,Xw,S4,s'.trans s4,hf⟩
    | rt d=>cases hf;exact q
def UL:List D->Option D
 | [.int a,.int b]=>some (.int (min a b))
 | [.int a,.int b,.int c]=>some (.int (min (min a b) c))
 | _=>none
def BY{K:W.Frag}(r:Rep K H d v):∀ {ds:List D}{vs:List V}(j:Nat),ax K H ds vs->ax K H (ds.set j d) (vs.set j v)
 | [],vs,j,h=>by rw[h.nil_inv];exact ax.nil
 | x::ds,vs,j,h=>by
  obtain⟨u,us,rfl,a,b⟩:=h.cons_inv;cases j with
  | zero=>exact ax.cons r b
  | succ j=>exact ax.cons a (BY r j b)
def Px(i:Nat)(fz:List Nat)(fk f:Env->Option D):ar->Option Out:=λρ=>(oD fz f ρ).bind λp=>(fk (aK p.2)).bind λkd=>match kd with
 | .int k=>sQ i (λds=>(OC ds.length k).map λj=>ds.set j p.1) p.2
 | _=>none
def JA(i:Nat)(fz:List Nat)(hN:X.N[i]?=some x)(hv:NT X.env.scope x)(hk:DE X e fk)(h:DE X e2 f)(hd:(x == ("__debug__":Str))=false:=by decide)(WS:(x == ("__classdict__":Str))=false:=by decide)
  (ha:∀v,assign (.Subscript (.Name x px) e Xo) X.env v=(do
   let ov <- holding [v] (eval (.Name x px) X.env)
   let iv <- holding [v,ov] (eval e X.env)
   standAt Xo
   holding [v,ov,iv] (setItem ov iv v)
   release [v,ov,iv] []):=by intro _;rfl)
  (hs:swapsWithSole [.Subscript (.Name x px) e Xo] e2 pos.line X.env=pure false:=by rfl) (hw:swappedStores [.Subscript (.Name x px) e Xo] e2 X.env=pure none:=by rfl)
  (h1:(assignEach [.Subscript (.Name x px) e Xo] X.env).map (·.2)=[assign (.Subscript (.Name x px) e Xo) X.env]:=by rfl):DS X V7 V8 (.Assign [.Subscript (.Name x px) e Xo] e2 pos) (Px i fz fk f) :=
 cO (EH h (Rt (l4 hN hv hd WS) hk set_list ha) hs hw h1) λE σ H ⟨HF,ρ,o,S,hg,q⟩=>by
  obtain⟨⟨d,ρ'⟩,h1,hg⟩:=bs hg;obtain⟨kd,h2,hg⟩:=bs hg;cases kd<;>try cases hg
  rename_i k;obtain⟨ds,es,h3,h4,rfl⟩:=mJ hg;obtain⟨j,hj,rfl⟩:=ag h4;refine pZ S h1 λv H1 Wa s1 S1 s2 r=>?_;obtain⟨a,vs,e1,e2,e3,e5,e4⟩:=S1.own i ds h3;refine⟨.ref a,e1,H1,aK ρ',.int k,.refl _,S1.all,h2,λkv H2 Wu G rk=>?_⟩;simp only[Rep] at rk;have S2:=S1.step G.hh;obtain⟨a',vs',f1,f2,f3,f5,f4⟩:=S2.own i ds h3;rw[e1] at f1;cases f1;exact⟨a,vs',k,j,rfl,rk,f2,by rw[f4.length];exact hj,q σ _ Wa (S2.mut h3 e1 f2 (BY r j f4)) s1⟩
end
section
def Sq:D->Bool|.none=>true|_=>false
def tw{K:W.Frag}(r:Rep K HF d v):decide (v=.V6)=Sq d:=by
 cases d<;>simp only[Rep] at r<;>first
  | (subst r;rfl)
  | (obtain⟨a,vs,rfl,_⟩:=r;rfl)
  | exact r.elim
def su:D->D->Option D:=λx y=>if Sq y=true then some (.bool (Sq x)) else none
def CV:D->D->Option D:=λx y=>if Sq y=true then some (.bool (!Sq x)) else none
def Hb{K:W.Frag}:gO K (λx y H Q=>y=.V6/\Q (.bl (decide (x=.V6))) H) su:=by
 intro HF H x y v1 v2 d Q sm r1 r2 hg q;unfold su at hg;split at hg
 ·rename_i h;cases hg;have h2:=tw r2;rw[h,zJ] at h2;refine⟨h2,?_⟩;rw[tw r1];exact q _ H HF (.refl sm) (by simp[Rep])
 ·cases hg
def BC{K:W.Frag}:gO K (λx y H Q=>y=.V6/\Q (.bl (!decide (x=.V6))) H) CV:=by
 intro HF H x y v1 v2 d Q sm r1 r2 hg q;unfold CV at hg;split at hg
 ·rename_i h;cases hg;have h2:=tw r2;rw[h,zJ] at h2;refine⟨h2,?_⟩;rw[tw r1];exact q _ H HF (.refl sm) (by simp[Rep])
 ·cases hg
def Bk.is0(C:Bk X N sc k)(ha:DE X a fa)(hb:DE X b fb):DE X (.Compare a [.Is] [b] pos) (f2 su fa fb):=mF Ln Hb ha hb (dN _)
def Bk.adQ(C:Bk X N sc k)(ha:DE X a fa)(hb:DE X b fb):DE X (.Compare a [.IsNot] [b] pos) (f2 CV fa fb):=mF FC BC ha hb (dN _)
def Bk.adR(C:Bk X N sc k)(ha:DE X a fa)(hb:DE X b fb):DT X (.Compare a [.Is] [b] pos) (fB (f2 su fa fb)):=l6 Ln Hb ha hb (dN _)
def Bk.aca(C:Bk X N sc k)(ha:DE X a fa)(hb:DE X b fb):DT X (.Compare a [.IsNot] [b] pos) (fB (f2 CV fa fb)):=l6 FC BC ha hb (dN _)
end
section
variable {fl fs:Env->Option (List D)}
def GN(ds:List D):D->Option (List D)
 | .int k=>if Bu k=true/\ds.length * k.toNat<=sizeLine then some (List.replicate k.toNat ds).flatten else none
 | _=>none
def rZ(fl:Env->Option (List D))(fb:Env->Option D):Env->Option (List D):=λρ=>(fl ρ).bind λds=>(fb ρ).bind (GN ds)
def Qm(ha:DF X a fl)(hb:DE X b fb):DF X (.BinOp a .Mult b pos) (rZ fl fb):=bf (FW Po ha hb) λσ H Q ⟨HF,ρ,d,sm,eo,hf,q⟩=>by
 obtain⟨ds,hx,hf⟩:=bs hf;obtain⟨y,hy,hg⟩:=bs hf;refine⟨HF,ρ,ds,sm,eo,hx,λl vs H1 Wa g1 h0 hn h1 r1=>⟨Wa,ρ,y,g1.fh,eo.mono g1.ff,hy,λv2 H2 Wu g2 r2=>?_⟩⟩;cases y<;>try cases hg
 rename_i k;have hg:(if Bu k=true/\ds.length * k.toNat<=sizeLine then some (List.replicate k.toNat ds).flatten else none)=some d:=hg;split at hg
 ·rename_i hz;cases hg;simp only[Rep] at r2;have r1:=r1.mono g2.ff;have G:=g1.trans g2;have ok:=hz.1;simp only[Bu,zF,zJ] at ok;exact⟨l,k,vs,rfl,r2,g2.hh _ _ h1,by lia,by lia,by rw[r1.length];exact hz.2,λp hp=>q p _ _ Wu (G.trans (.own G.fh hp)) (G.hh.free hp) (G.fh.free hp) aF (pQ r1 _)⟩
 ·cases hg
def Fd(hc:X.calm=true):ft X (.builtin "any") (λxs H Q=>∃ (a:Addr) (bs:List Bool),xs=[.ref a]/\iw X.K H a (bs.map V.bl)/\Q (.bl (bs.any id)) H):=by
 intro pins s σ H xs us Q I r h;obtain⟨a,bs,rfl,hq,q⟩:=h;obtain⟨u,rfl,rx⟩:=vals1 r;cases rx;obtain⟨its,rv,pl,hz⟩:=I.list hq;have hv:=nZ rv;subst hv;have hh:X.A.in1.handled=none:=I.ok.hd hc;refine call_any_walk (qL pl.isList ?_);obtain⟨o,ho,W8,n,hd⟩:=pl.isList;have Wz:a≠s.heap.objs.size:=yS (zY ho);refine⟨_,_,_,_,_,_,λi=>bs.getD i false,rfl,Walks.list hh s.heap.objs.size a Wz (bs.map Value.bool).toArray,⟨⟨_,zX _ rfl,rfl,rfl⟩,pl.isList.push _⟩,λi v s' Q' E' hP hQ=>?_,λh' tk kp=>?_⟩
 ·have e:v=Value.bool (bs.getD i false):=by
   have hP:(bs.map Value.bool).toArray[i]?=some v:=hP;rw[wG,zO] at hP;obtain⟨b,hb,rfl⟩:=ag hP;rw[zG,hb];rfl
  subst e;exact xX hQ
 ·refine⟨.bl (bs.any id),H,?_,?_,q⟩
  ·exact I.kept (t':=tk) λb o' e=>kp b o' (by simp;exact yS (zY e)) (zU _ e)
  ·show Value.bool _=Value.bool _;have:=range_any bs;simp only[zH,zD];rw[this]
end
section
def Qw(hc:X.calm=true)(B:se X "any" (.builtin "any"))(he:starEach [e] X.env=(false,eval e X.env)::starEach [] X.env)(ha:DA X [e] fs):DE X (.Call (.Name "any" p) [e] [] pos) (ba (λds=>(oneOf ds).bind λd=>match d with
 | .list es=>(boolsOf es).map λbs=>.bool (bs.any id)
 | _=>none) fs) :=
 ju (Fd hc) (by
  intro HF H ds vs d Q sm r hg q;obtain⟨x,hx,hg⟩:=bs hg;rw[fU hx] at r;cases x<;>try cases hg
  obtain⟨bs,hb,rfl⟩:=ag hg;obtain⟨v,r',rfl,a,b⟩:=r.cons_inv;rw[b.nil_inv];simp only[Rep] at a;obtain⟨p,us,rfl,h,rr⟩:=a;rw[kl hb] at rr;have:=fV rr;subst this;exact⟨p,bs,rfl,sm.seq h,q _ H HF (.refl sm) (by simp[Rep])⟩) B ha (by decide) (by decide) he rfl
def rQ(ns:List Int):∀j:Nat,preSum (λi=>ns.getD i 0) j=(ns.take j).sum
 | 0=>by simp[preSum]
 | j+1=>by
  rw[preSum,rQ ns j,List.take_add_one,List.sum_append]
  congr 1
  rw[zG];cases ns[j]?<;>simp
def yk(val:Nat->Int)(B:Int)(h:∀i,-B<=val i/\val i<=B):∀j:Nat,-(B * j)<=preSum val j/\preSum val j<=B * j
 | 0=>by simp[preSum]
 | j+1=>by
  have ih:=yk val B h j;have:=h j;rw[preSum];have e:B * ((j+1:Nat):Int)=B * (j:Int)+B:=by rw[Int.natCast_add,Int.mul_add];simp
  rw[e];lia
def Kg(ns:List Int):Bool:=decide (ns.length<=1000)&&ns.all λn=>decide (-1000000<=n)&&decide (n<=1000000)
def RG(h:Kg ns=true):ns.length<=1000/\∀i,-1000000<=ns.getD i 0/\ns.getD i 0<=1000000:=by
 unfold Kg at h;rw[zF,zJ,xH] at h;refine⟨h.1,λi=>?_⟩;rw[zG];cases e:ns[i]? with
 | none=>simp
 | some n =>
  have:=h.2 n (qC e);simpa using this
def tq{ns:List Int}{its:List Value}(r:aQ (ns.map V.int) its){i:Nat}(h:its.toArray[i]?=some v):∃t,v=.int (ns.getD i 0) t:=by
 rw[wG] at h
 induction ns generalizing its i with
 | nil=>cases r;simp at h
 | cons n ns ih =>
  cases r with
  | cons r1 rr =>
   cases i with
   | zero =>
    simp only[xR,yL] at h;subst h;obtain⟨t,rfl⟩:=r1;exact⟨t,rfl⟩
   | succ i =>
    simp only[yZ] at h;exact ih rr h
def Ea(hc:X.calm=true):ft X (.builtin "sum") (λxs H Q=>∃ (a:Addr) (ns:List Int),xs=[.ref a]/\(iw X.K H a (ns.map V.int)\/j5 X.K H a (ns.map V.int))/\Kg ns=true/\Q (.int ns.sum) H):=by
 intro pins s σ H xs us Q I r h;obtain⟨a,ns,rfl,hq,Wb,q⟩:=h;obtain⟨u,rfl,rx⟩:=vals1 r;cases rx;have hh:X.A.in1.handled=none:=I.ok.hd hc;obtain⟨hlen,hbd⟩:=RG Wb;have Yt:∀n:Nat,n<=1000->∀j,j < n->InLong ((λi=>ns.getD i 0) j)/\InLong (preSum (λi=>ns.getD i 0) (j+1)):=λn hn j hj=>by
  have h1:=hbd j;have h2:=yk (λi=>ns.getD i 0) 1000000 hbd (j+1);refine⟨⟨?_,?_⟩,?_,?_⟩
  ·show -(2 ^ 63)<=ns.getD j 0;lia
  ·show ns.getD j 0 < 2 ^ 63;lia
  ·lia
  ·lia
 have acb:preSum (λi=>ns.getD i 0) ns.length=ns.sum:=by rw[rQ,List.take_length]
 rcases hq with hq|hq
 ·obtain⟨its,rv,pl,hz⟩:=I.list hq;have hl:its.length=ns.length:=by rw[<- rv.length,zD]
  refine call_sum_walk (qL pl.isList ?_);obtain⟨o,ho,W8,n,hd⟩:=pl.isList;have Wg:=zY ho;have Wz:a≠s.heap.objs.size:=yS Wg;refine⟨_,_,_,_,_,_,λi=>ns.getD i 0,rfl,Walks.list hh s.heap.objs.size a Wz its.toArray,⟨⟨_,zX _ rfl,rfl,rfl⟩,pl.isList.push _⟩,λb hb=>?_,λi v hP=>tq rv hP,by rw[zH,hl];exact Yt _ hlen,λh' tk t' kp=>?_⟩
  ·show b < (s.heap.push _).objs.size;rw[xK];simp only[zQ,yF,xV] at hb;rcases hb with rfl|rfl
   ·exact kU _
   ·exact jP Wg
  ·refine⟨.int ns.sum,H,I.kept (t':=tk) λb o' e=>kp b o' (by simp;exact yS (zY e)) (zU _ e),⟨t',?_⟩,q⟩;rw[zH,hl,acb]
 ·obtain⟨its,rv,pl,hz⟩:=I.tuple hq;have pl:s.heap.IsTuple a its.toArray:=pl;have hl:its.length=ns.length:=by rw[<- rv.length,zD]
  refine call_sum_walk (xS pl ?_);obtain⟨o,ho,W8,n,hd⟩:=id pl;have Wg:=zY ho;have Wz:a≠s.heap.objs.size:=yS Wg;refine⟨_,_,_,_,_,_,λi=>ns.getD i 0,rfl,Walks.tuple hh s.heap.objs.size a Wz its.toArray,⟨⟨_,zX _ rfl,rfl,rfl⟩,pl.push _⟩,λb hb=>?_,λi v hP=>tq rv hP,by rw[zH,hl];exact Yt _ hlen,λh' tk t' kp=>?_⟩
  ·show b < (s.heap.push _).objs.size;rw[xK];simp only[zQ,yF,xV] at hb;rcases hb with rfl|rfl
   ·exact kU _
   ·exact jP Wg
  ·refine⟨.int ns.sum,H,I.kept (t':=tk) λb o' e=>kp b o' (by simp;exact yS (zY e)) (zU _ e),⟨t',?_⟩,q⟩;rw[zH,hl,acb]
end
section
def iA:List D->Option D:=λds=>(cg ds).bind λes=>(intsOf es).bind λns=>if Kg ns=true then some (.int ns.sum) else none
def mU{K:W.Frag}:∀ {ns:List Int}{vs:List V},ax K H (ns.map PyData.int) vs->vs=ns.map V.int
 | [],vs,h=>h.nil_inv
 | b::bs,vs,h=>by
  obtain⟨v,r,rfl,a,c⟩:=h.cons_inv;simp only[Rep] at a;rw[a,mU c];rfl
def Qp(hc:X.calm=true)(B:se X "sum" (.builtin "sum"))(he:starEach [e] X.env=(false,eval e X.env)::starEach [] X.env)(ha:DA X [e] fs):DE X (.Call (.Name "sum" p) [e] [] pos) (ba iA fs) :=
 ju (Ea hc) (by
  intro HF H ds vs d Q sm r hg q;obtain⟨es,h1,hg⟩:=bs hg;obtain⟨ns,h2,hg⟩:=bs hg;have hg:(if Kg ns=true then some (PyData.int ns.sum) else none)=some d:=hg;split at hg
  ·rename_i Wb;cases hg;have e2:=eF h2;subst e2;rcases iN h1 with rfl|rfl
   all_goals
    obtain⟨v,r',rfl,a,b⟩:=r.cons_inv;rw[b.nil_inv];simp only[Rep] at a;obtain⟨p,us,rfl,h,rr⟩:=a;have:=mU rr;subst this
   ·exact⟨p,ns,rfl,.inr (aG sm h),Wb,q _ H HF (.refl sm) (by simp[Rep])⟩
   ·exact⟨p,ns,rfl,.inl (sm.seq h),Wb,q _ H HF (.refl sm) (by simp[Rep])⟩
  ·cases hg) B ha (by decide) (by decide) he rfl
end
section
def RY(i:Int):Value->Bool|.int a _=>a == i|_=>false
def Iv:Qd X "list.index" (λx vs H Q=>∃ (l:Addr) (ns:List Int) (i:Int) (j:Nat),x=.ref l/\vs=[.int i]/\iw X.K H l (ns.map V.int)/\ns[j]?=some i/\(∀m,m < j->ns[m]?≠some i)/\Q (.int j) H):=by
 intro pins s σ H x vs v us Q I rx rv h;obtain⟨l,ns,i,j,rfl,rfl,hq,hj,ZZ,q⟩:=h;cases rx;obtain⟨u,rfl,ru⟩:=rv.one;obtain⟨t,rfl⟩:=ru;obtain⟨its,r,pl,hz⟩:=I.list hq;obtain⟨⟨cls,dd,data,sl⟩,ho,hc,n,hd⟩:=id pl.isList;simp only at hc hd;subst hc hd;have hl:its.length=ns.length:=by rw[<- r.length,zD]
 have hj1:j < ns.length:=(List.getElem?_eq_some_iff.mp hj).1;have hz':ns.length<=sizeLine:=by rw[zD] at hz;exact hz
 have adT:(sizeLine:Nat) < 2 ^ 62:=by decide
 have at_:∀m (hm:m < its.toArray.size),∃t',its.toArray[m]=.int (ns.getD m 0) t':=λm hm=>tq r (kA hm);refine qY F.slot_list_index ⟨_,ho,rfl⟩ F.entry_list_index (F.args_list_index_2 _ _) (PySem.SeqAt.list_indexAt l its.toArray n dd sl (.int i t) (RY i) j (by rw[zH,hl];exact hj1) (by lia) ?_ ?_) ⟨ho,?_,?_⟩
 ·obtain⟨t',e⟩:=at_ j (by rw[zH,hl];exact hj1);rw[e,RY,zG,hj];simp
 ·intro m hm hmj;obtain⟨t',e⟩:=at_ m hm;have Xu:m < ns.length:=by lia
  have:=ZZ m hmj;rw[e,RY,zG];rw[zK Xu] at this ⊢;simp only[qH,beq_eq_false_iff_ne];exactλh=>this (by rw[h])
 ·intro y hy;obtain⟨m,hm,rfl⟩:=Array.getElem_of_mem hy;obtain⟨t',e⟩:=at_ m hm;rw[e];exact PySem.SeqAt.EqAt.int_int _ _ _ _
 ·exact⟨.int j,H,I.tok _,⟨_,rfl⟩,q⟩
def CZ(i:Int):List Int->Option Nat
 | []=>none
 | n::ns=>if n=i then some 0 else (CZ i ns).map (·+1)
def p8:∀ {ns:List Int}{j:Nat},CZ i ns=some j->ns[j]?=some i/\∀m,m < j->ns[m]?≠some i
 | [],j,h=>by cases h
 | n::ns,j,h=>by
  unfold CZ at h;split at h
  ·cases h;rename_i e;exact⟨by rw[e];rfl,λm hm=>absurd hm (vX _)⟩
  ·rename_i e;obtain⟨k,hk,rfl⟩:=ag h;obtain⟨a,b⟩:=p8 hk;refine⟨by simpa using a,λm hm=>?_⟩;cases m with
   | zero=>simpa using e
   | succ m=>simpa using b m (by lia)
def U4:D->D->Option D
 | .list es,.int i=>(intsOf es).bind λns=>(CZ i ns).map λj=>.int ((j:Nat):Int)
 | _,_=>none
def Ma{fo:Env->Option D}(XF:attributeBase o "index" X.env (eval o X.env)=eval o X.env)
  (Xg:((backTo cpos (starEach [e] X.env)).all (λx=>!x.1)&&(backToKw cpos (keywordEach [] X.env)).all (λx=>x.1.isSome)&&decide ([e].length+([]:List Keyword).length+(if ([]:List Keyword).isEmpty then 0 else 1) < 30))=true)
  (Wr:(apos.endLine == cpos.line)=true) (hs:starEach [e] X.env=(false,eval e X.env)::starEach [] X.env) (ho:DE X o fo) (he:DE X e fe):DE X (.Call (.Attribute o "index" apos) [e] [] cpos) (f2 U4 fo fe) :=
 bf (uV qP PySem.F.slot_list_index PySem.F.type_list_index Iv ho (cK he fT hs) XF Xg Wr hs rfl) λσ H Q ⟨HF,ρ,d,sm,eo,hf,q⟩=>by
  obtain⟨x,hx,hf⟩:=bs hf;obtain⟨y,hy,hg⟩:=bs hf;refine⟨HF,ρ,x,sm,eo,hx,λv1 H1 Wa g1 r1=>?_⟩;cases x<;>try cases hg
  cases y<;>try cases hg
  rename_i es i;obtain⟨ns,h1,hg⟩:=bs hg;obtain⟨j,h2,rfl⟩:=ag hg;have e1:=eF h1;subst e1;simp only[Rep] at r1;obtain⟨l,us,rfl,hq,rr⟩:=r1;have:=mU rr;subst this;refine⟨.inl ⟨rfl,_,g1.fh.seq hq⟩,Wa,ρ,.int i,g1.fh,eo.mono g1.ff,hy,λv2 H2 Wu g2 r2=>?_⟩;simp only[Rep] at r2;obtain⟨a,b⟩:=p8 h2;exact⟨l,ns,i,j,rfl,by rw[r2],g2.fh.seq (g2.ff.seq hq),a,b,q _ H2 Wu (g1.trans g2) (by simp[Rep])⟩
end
end Dl
namespace Tx
open PySem PySem.SeqAt PyProof.Rows
open PySem.AutoSeq1 (wpAny_loadPart')
open PySem.MeetsSeq PySem.MeetsSeq2 PySem.MeetsSeq3
def wpR(f:Nat->β->Sem (ForInStep β))(I:List Nat->β->Shared->Prop)(Q:β->Shared->Prop)
  (turn:∀x rest b s,I (x::rest) b s->wpAny M A (f x b) (λr s'=>match r with|.yield b'=>I rest b' s'|.done b'=>Q b' s') E s)
  (fin:∀b s,I [] b s->Q b s) (n:Nat) (b:β) (h:I (List.range' 0 n 1) b s):wpAny M A (forIn [:n] b f) Q E s:=by
 have e:forIn [:n] b f=forIn (List.range' 0 n 1) b f:=by
  rw[Std.Legacy.Range.forIn_eq_forIn_range'];simp[Std.Legacy.Range.size]
 rw[e];exact wpAny_forIn_list f I Q turn fin _ b h
def Xx(l:Addr)(items:Array Value)(n:Nat)(dd:Option Addr)(sl:Array (Option Value))(x:Value)(e:Value->Bool)(j:Nat)(hj:j < items.size)(h1:e items[j]=true)(h2:∀m (hm:m < items.size),m < j->e items[m]=false) :
  Meets (Builtin.«tuple.index» ⟨[.ref l,x],[]⟩)
   (λA R s=>s.heap.get? l=some { cls:=.type "tuple",dict:=dd,data:=.seq items n,slots:=sl }/\(∀y,y∈items->EqAt A.in1 s y x (e y))/\R (.ok (.ret (.int (j:Nat) s.toks))) { s with toks:=s.toks+1 }) :=
 .of_wp λprog w A R s h=>by
  obtain⟨hp,g,d,tk,os⟩:=s;obtain⟨hl,he,h⟩:=h
  wp_walk using wpAny_loadPart' hl,wpR _ (λrest b s'=>s'=⟨hp,g,d,tk,os⟩/\b.1=none/\∃i,i<=j/\rest=List.range' i (items.size - i) 1) _
  case turn =>
   rintro i rest b s' ⟨rfl,hb,i',hi,e1⟩;have Wg:i' < items.size:=by lia
   rw[show items.size - i'=(items.size - (i'+1))+1 by lia,vL] at e1;injection e1 with e2 e3
   subst e2;subst e3;simp only[kA Wg];refine zV (he _ (Array.getElem_mem Wg) prog w _ _ ?_);by_cases Wx:i=j
   ·subst Wx;rw[h1]
    wp_walk
    exact⟨_,rfl,h⟩
   ·rw[h2 i Wg (by lia)]
    wp_walk
    exact⟨rfl,rfl,i+1,by lia,rfl⟩
  case fin =>
   rintro b s' ⟨rfl,hb,i,hi,e1⟩;have:=jD List.length e1;simp at this;lia
  case h =>
   exact⟨rfl,rfl,0,xW _,by simp⟩
end Tx
namespace Dl
open PySem L2 PySem.Spec PyProof.Rows
section
def Il:Qd X "tuple.index" (λx vs H Q=>∃ (l:Addr) (ns:List Int) (i:Int) (j:Nat),x=.ref l/\vs=[.int i]/\j5 X.K H l (ns.map V.int)/\ns[j]?=some i/\(∀m,m < j->ns[m]?≠some i)/\Q (.int j) H):=by
 intro pins s σ H x vs v us Q I rx rv h;obtain⟨l,ns,i,j,rfl,rfl,hq,hj,ZZ,q⟩:=h;cases rx;obtain⟨u,rfl,ru⟩:=rv.one;obtain⟨t,rfl⟩:=ru;obtain⟨its,r,pl,hz⟩:=I.tuple hq;obtain⟨⟨cls,dd,data,sl⟩,ho,hc,n,hd⟩:=id pl;simp only at hc hd;subst hc hd;have hl:its.length=ns.length:=by rw[<- r.length,zD]
 have hj1:j < ns.length:=(List.getElem?_eq_some_iff.mp hj).1;have at_:∀m (hm:m < its.toArray.size),∃t',its.toArray[m]=.int (ns.getD m 0) t':=λm hm=>tq r (kA hm);refine qY F.slot_tuple_index ⟨_,ho,rfl⟩ F.entry_tuple_index (F.args_tuple_index_2 _ _) (Tx.Xx l its.toArray n dd sl (.int i t) (RY i) j (by rw[zH,hl];exact hj1) ?_ ?_) ⟨ho,?_,?_⟩
 ·obtain⟨t',e⟩:=at_ j (by rw[zH,hl];exact hj1);rw[e,RY,zG,hj];simp
 ·intro m hm hmj;obtain⟨t',e⟩:=at_ m hm;have Xu:m < ns.length:=by
   rw[zH] at hm;lia
  have:=ZZ m hmj;rw[e,RY,zG];rw[zK Xu] at this ⊢;simp only[qH,beq_eq_false_iff_ne];exactλh=>this (by rw[h])
 ·intro y hy;obtain⟨m,hm,rfl⟩:=Array.getElem_of_mem hy;obtain⟨t',e⟩:=at_ m hm;rw[e];exact PySem.SeqAt.EqAt.int_int _ _ _ _
 ·exact⟨.int j,H,I.tok _,⟨_,rfl⟩,q⟩
def L6(h:PE X e t)(g:PE X e u):PE X e (λσ H Q=>t σ H Q\/u σ H Q):=λpins s σ H Q I q=>q.elim (h pins s σ H Q I) (g pins s σ H Q I)
def iT:D->D->Option D
 | .list es,.int i=>(intsOf es).bind λns=>(CZ i ns).map λj=>.int ((j:Nat):Int)
 | .tuple es,.int i=>(intsOf es).bind λns=>(CZ i ns).map λj=>.int ((j:Nat):Int)
 | _,_=>none
def IM{fo:Env->Option D}(XF:attributeBase o "index" X.env (eval o X.env)=eval o X.env)
  (Xg:((backTo cpos (starEach [e] X.env)).all (λx=>!x.1)&&(backToKw cpos (keywordEach [] X.env)).all (λx=>x.1.isSome)&&decide ([e].length+([]:List Keyword).length+(if ([]:List Keyword).isEmpty then 0 else 1) < 30))=true)
  (Wr:(apos.endLine == cpos.line)=true) (hs:starEach [e] X.env=(false,eval e X.env)::starEach [] X.env) (ho:DE X o fo) (he:DE X e fe):DE X (.Call (.Attribute o "index" apos) [e] [] cpos) (f2 iT fo fe) :=
 bf (L6 (Ma XF Xg Wr hs ho he) (uV PySem.F.plainAttrs_tuple PySem.F.slot_tuple_index PySem.F.type_tuple_index Il ho (cK he fT hs) XF Xg Wr hs rfl)) λσ H Q ⟨HF,ρ,d,sm,eo,hf,q⟩=>by
  obtain⟨x,hx,hf⟩:=bs hf;obtain⟨y,hy,hg⟩:=bs hf;cases x<;>try cases hg
  ·cases y<;>try cases hg
   rename_i es i;exact .inl ⟨HF,ρ,d,sm,eo,by simp only[f2,hx,hy,zA];exact hg,q⟩
  ·cases y<;>try cases hg
   rename_i es i;obtain⟨ns,h1,hg⟩:=bs hg;obtain⟨j,h2,rfl⟩:=ag hg;have e1:=eF h1;subst e1;refine .inr ⟨HF,ρ,_,sm,eo,hx,λv1 H1 Wa g1 r1=>?_⟩;simp only[Rep] at r1;obtain⟨l,us,rfl,hq,rr⟩:=r1;have:=mU rr;subst this;refine⟨?_,Wa,ρ,.int i,g1.fh,eo.mono g1.ff,hy,λv2 H2 Wu g2 r2=>?_⟩
   ·first|exact .inr (.inl ⟨rfl,_,aG g1.fh hq⟩)|exact .inl ⟨rfl,_,aG g1.fh hq⟩|exact .inr ⟨rfl,_,aG g1.fh hq⟩
   ·simp only[Rep] at r2;obtain⟨a,b⟩:=p8 h2;exact⟨l,ns,i,j,rfl,by rw[r2],aG g2.fh (aG g2.ff hq),a,b,q _ H2 Wu (g1.trans g2) (by simp[Rep])⟩
end
end Dl
namespace Zp
open PySem PyProof.Rows
def WN(b:Bool)(h:Heap)(it l:Addr)(k:Nat):Prop:=match b with|true=>h.IsTupleIter it l k|false=>h.IsListIter it l k
def WY(b:Bool)(h:Heap)(l:Addr)(xs:Array Value):Prop:=match b with|true=>h.IsTuple l xs|false=>h.IsList l xs
def WN.obj(x:WN b h it l k):∃o,h.get? it=some o/\∀v,o.data≠.cell v:=by
 cases b
 ·obtain⟨o,e,_,d⟩:=(show h.IsListIter it l k from x);exact⟨o,e,λv q=>by rw[d] at q;cases q⟩
 ·obtain⟨o,e,_,d⟩:=(show h.IsTupleIter it l k from x);exact⟨o,e,λv q=>by rw[d] at q;cases q⟩
def WN.at(x:WN b h it l k)(e:∀o,h.get? it=some o->h'.get? it=some o):WN b h' it l k:=by
 cases b
 ·exact Heap.IsListIter.at x e
 ·exact Heap.IsTupleIter.at x e
def WN.extBut(x:WN b h it l k)(e:Heap.ExtBut a h h')(n:it≠a):WN b h' it l k:=x.at λo q=>e it o n q
def WY.at(x:WY b h l xs)(e:∀o,h.get? l=some o->h'.get? l=some o):WY b h' l xs:=by
 cases b
 ·obtain⟨o,q,r⟩:=(show h.IsList l xs from x);exact⟨o,e o q,r⟩
 ·obtain⟨o,q,r⟩:=(show h.IsTuple l xs from x);exact⟨o,e o q,r⟩
def WY.extBut(x:WY b h l xs)(e:Heap.ExtBut a h h')(n:l≠a):WY b h' l xs:=x.at λo q=>e l o n q
section
def nxt(hj:WN b s.heap j t k)(ht:WY b s.heap t its)(hv:its[k]?=some v)
  (hQ:∀g,WN b g j t (k+1)->Heap.SameBut j s.heap g->Q v { s with heap:=g }):wpAny (model prog w) A (Builtin.SmallTypes.nextOf (.ref j)) Q E s:=by
 cases b
 ·exact wpAny_nextOf_list_item hj ht hv hQ
 ·exact En.Yp hj ht hv hQ
def aaf{Q:Value->Shared->Prop}(hh:A.handled=none)(hj:WN b s.heap j t k)(ht:WY b s.heap t its)(hv:its[k]?=none)
  (hE:∀g x,Heap.ExtBut j s.heap g->(∃o,g.get? x=some o/\o.cls=.type "StopIteration")->E (.ref x) { s with heap:=g }):wpAny (model prog w) A (Builtin.SmallTypes.nextOf (.ref j)) Q E s:=by
 cases b
 ·exact wpAny_nextOf_list_end hh hj ht hv hE
 ·exact En.YO hh hj ht hv hE
structure ZS(Wl Wv:Bool)(h₀ h:Heap)(z TI TO i j l m:Addr)(xs ys:Array Value)(f:Value)(p q:Nat)(a b:Value):Prop where
 zo:IsZip h z TI TO f
 ti:IsPair h TI (.ref i) (.ref j)
 to:IsPair h TO a b
 wi:WN Wl h i l p
 wj:WN Wv h j m q
 sl:WY Wl h l xs
 sm:WY Wv h m ys
 kp:∀c o,c≠z->c≠TO->c≠i->c≠j->h₀.get? c=some o->h.get? c=some o
 sz:h.objs.size=h₀.objs.size
section
variable {z TI TO i j l m:Addr}
def ZS.fl(Z:ZS Wl Wv h₀ h z TI TO i j l m xs ys f p q a b)(D:ZipApart z TI TO i j l m)(e:IsZip g z TI TO f')(t:Heap.SameBut z h g):ZS Wl Wv h₀ g z TI TO i j l m xs ys f' p q a b :=
 ⟨e,t.extBut _ _ D.TIz Z.ti,t.extBut _ _ D.TOz Z.to,Z.wi.extBut t.extBut D.i1z,Z.wj.extBut t.extBut D.i2z,Z.sl.extBut t.extBut D.l1z,Z.sm.extBut t.extBut D.l2z,λc o n1 n2 n3 n4 r=>t.extBut _ _ n1 (Z.kp c o n1 n2 n3 n4 r),t.1.trans Z.sz⟩
def ZS.fst(Z:ZS Wl Wv h₀ h z TI TO i j l m xs ys f p q a b)(D:ZipApart z TI TO i j l m)(e:WN Wl g i l (p+1))(t:Heap.SameBut i h g):ZS Wl Wv h₀ g z TI TO i j l m xs ys f (p+1) q a b :=
 ⟨t.extBut _ _ D.i1z.symm Z.zo,t.extBut _ _ D.TIi1 Z.ti,t.extBut _ _ D.TOi1 Z.to,e,Z.wj.extBut t.extBut D.i12.symm,Z.sl.extBut t.extBut D.l1i1,Z.sm.extBut t.extBut D.l2i1,λc o n1 n2 n3 n4 r=>t.extBut _ _ n3 (Z.kp c o n1 n2 n3 n4 r),t.1.trans Z.sz⟩
def ZS.snd(Z:ZS Wl Wv h₀ h z TI TO i j l m xs ys f p q a b)(D:ZipApart z TI TO i j l m)(e:WN Wv g j m (q+1))(t:Heap.SameBut j h g):ZS Wl Wv h₀ g z TI TO i j l m xs ys f p (q+1) a b :=
 ⟨t.extBut _ _ D.i2z.symm Z.zo,t.extBut _ _ D.TIi2 Z.ti,t.extBut _ _ D.TOi2 Z.to,Z.wi.extBut t.extBut D.i12,e,Z.sl.extBut t.extBut D.l1i2,Z.sm.extBut t.extBut D.l2i2,λc o n1 n2 n3 n4 r=>t.extBut _ _ n4 (Z.kp c o n1 n2 n3 n4 r),t.1.trans Z.sz⟩
def ZS.put(Z:ZS Wl Wv h₀ h z TI TO i j l m xs ys f p q a b)(D:ZipApart z TI TO i j l m)(e:IsPair g TO x y)(t:Heap.SameBut TO h g):ZS Wl Wv h₀ g z TI TO i j l m xs ys f p q x y :=
 ⟨t.extBut _ _ D.TOz.symm Z.zo,t.extBut _ _ D.TITO Z.ti,e,Z.wi.extBut t.extBut D.TOi1.symm,Z.wj.extBut t.extBut D.TOi2.symm,Z.sl.extBut t.extBut D.l1TO,Z.sm.extBut t.extBut D.l2TO,λc o n1 n2 n3 n4 r=>t.extBut _ _ n2 (Z.kp c o n1 n2 n3 n4 r),t.1.trans Z.sz⟩
end
variable {z TI TO i j l m:Addr}
def ace{Q:Value->Shared->Prop}(hn:A.handled=none)(D:ZipApart z TI TO i j l m)(Z:ZS Wl Wv s.heap s.heap z TI TO i j l m xs ys .none p q a b)
  (item:∀x y g g',xs[p]?=some x->ys[q]?=some y->ZS Wl Wv s.heap g z TI TO i j l m xs ys .ellipsis (p+1) (q+1) x y->IsZip g' z TI TO (rawInt g.objs.size) ->
   Heap.SameBut z (g.push { cls:=.type "tuple",data:=.seq #[x,y] }) g'->Q (.ref g.objs.size) { s with heap:=g' })
  (over:(xs[p]?=none\/ys[q]?=none)->∀g e,(∀c o,c≠z->c≠TO->c≠i->c≠j->s.heap.get? c=some o->g.get? c=some o)->(∃o,g.get? e=some o/\o.cls=.type "StopIteration")->E (.ref e) { s with heap:=g }) :
  wpAny (model prog w) A (Builtin.«zip.__next__» ⟨[.ref z],[]⟩) (λr s'=>∃v,r=.done (.ret v)/\Q v s') E s:=by
 have stop:∀ {g1 g2:Heap}{e:Addr}{c:Addr}{p' q':Nat}{a' b':Value},ZS Wl Wv s.heap g1 z TI TO i j l m xs ys .ellipsis p' q' a' b'->(c=i\/c=j)->(xs[p]?=none\/ys[q]?=none)->Heap.ExtBut c g1 g2 ->
   (∃o,g2.get? e=some o/\o.cls=.type "StopIteration")->wpAny (model prog w) A (setField (.ref z) 0 Value.none) (λ_ t=>E (.ref e) t) E { s with heap:=g2 }:=by
  intro g1 g2 e c p' q' a' b' Y hc hv k ⟨o,ho,ht⟩;have cz:z≠c:=hc.elim (λe=>e ▸ D.i1z.symm) λe=>e ▸ D.i2z.symm;have Yz:IsZip g2 z TI TO .ellipsis:=k _ _ cz Y.zo;refine vD Yz (by simp) λg3 _ t=>over hv g3 e (λd u n1 n2 n3 n4 r=>t.extBut _ _ n1 (k _ _ ?_ (Y.kp d u n1 n2 n3 n4 r))) ⟨o,t.extBut _ _ ?_ ho,ht⟩
  ·exact hc.elim (λe=>e ▸ n3) λe=>e ▸ n4
  ·rintro rfl;rw[Yz] at ho;cases ho;simp at ht
 show wpAny _ _ (field (.ref z) 2 >>= _) _ _ _;refine zV (qU Z.zo rfl (x:=.bool false) rfl (zV (qU Z.zo rfl (x:=.ref TI) rfl (zV (kK Z.ti rfl (zV (m:=Builtin.SmallTypes.ownedTupleIsFree _) ?_))))));refine zV (qU Z.zo rfl (x:=.none) rfl (zW ?_));rw[yM rfl];refine zV (wU (zV (qU Z.zo rfl (x:=.ref TO) rfl (zV (vD Z.zo (by simp) λg1 e1 t1=>?_)))));have Z1:=Z.fl D (f':=.ellipsis) e1 t1;refine zV ?_;simp only[List.zipIdx_cons,List.zipIdx_nil,List.forIn_cons,List.forIn_nil];refine zV (zV (wpAny_onRaise (zV (m:=Builtin.SmallTypes.nextOf _) ?_)));cases hx:xs[p]? with
 | none=>exact aaf hn Z1.wi Z1.sl hx λg2 e k o=>stop Z1 (.inl rfl) (.inl hx) k o
 | some x =>
 refine nxt Z1.wi Z1.sl hx λg2 e2 t2=>zW ?_;have Z2:=Z1.fst D e2 t2;refine zV (kK Z2.to rfl (zV (wpAny_updateSeq_pair Z2.to λg3 e3 t3=>zV (wpAny_letGo (zW ?_)))));have Z3:=Z2.put D (x:=x) (y:=b) e3 t3;refine zV (zV (wpAny_onRaise (zV (m:=Builtin.SmallTypes.nextOf _) ?_)));cases hy:ys[q]? with
 | none=>exact aaf hn Z3.wj Z3.sm hy λg4 e k o=>stop Z3 (.inr rfl) (.inr hy) k o
 | some y =>
 refine nxt Z3.wj Z3.sm hy λg4 e4 t4=>zW ?_;have Z4:=Z3.snd D e4 t4;refine zV (kK Z4.to rfl (zV (wpAny_updateSeq_pair Z4.to λg5 e5 t5=>zV (wpAny_letGo (zW (zW ?_))))));have Z5:=Z4.put D (x:=x) (y:=y) e5 t5;refine zV (kK Z5.to rfl (zV (wpAny_newTuple (zV (m:=Builtin.SmallTypes.ownedTupleHandOut _ _) ?_))));refine zV (vD (zU _ Z5.zo) (by simp) λg6 e6 t6=>vD e6 (by simp) λg7 e7 t7=>zW ⟨_,rfl,?_⟩);exact item x y g5 g7 hx hy Z5 e7 (t6.trans t7)
def acf(hn:A.handled=none)(D:ZipApart z TI TO i j l m)
  (qz:IsZip s.heap z TI TO .none) (qI:IsPair s.heap TI (.ref i) (.ref j)) (qO:IsPair s.heap TO a b)
  (p1:WN Wl s.heap i l p) (p2:WN Wv s.heap j m q) (r1:WY Wl s.heap l xs) (r2:WY Wv s.heap m ys) (ex:xs[p]?=some x) (ey:ys[q]?=some y)
  (kQ:∀g,IsZip g z TI TO (rawInt s.heap.objs.size)->IsPair g TO x y->WN Wl g i l (p+1)->WN Wv g j m (q+1)->IsPair g s.heap.objs.size x y->g.objs.size=s.heap.objs.size+1 ->
   (∀c o,c≠z->c≠TO->c≠i->c≠j->s.heap.get? c=some o->g.get? c=some o)->Q (some (.ref s.heap.objs.size)) { s with heap:=g }) :
  wpAny (model prog w) A (pyNext (.ref z)) Q E s:=by
 have ty:s.TypeIs (.ref z) "zip":=⟨_,qz,rfl⟩
 have Z:ZS Wl Wv s.heap s.heap z TI TO i j l m xs ys .none p q a b:=⟨qz,qI,qO,p1,p2,r1,r2,λ_ _ _ _ _ _ e=>e,rfl⟩
 refine zV (kX (qD (name:=Str.ofString "__next__") ty wD (qX wD ty F.entry_zip_next (ace hn D Z ?_ ?_) (F.args_zip_next_1 _))))
 ·intro x' y' g g' hx hy Y ez t;rw[ex] at hx;rw[ey] at hy;cases hx;cases hy;rw[Y.sz] at ez ⊢;have lt:=zY Y.zo;have up:∀c o,c≠z->g.get? c=some o->g'.get? c=some o:=λc o n e=>t.extBut _ _ n (zU _ e);refine zW (kQ g' ez (up _ _ D.TOz Y.to) (Y.wi.at λo e=>up _ _ D.i1z e) (Y.wj.at λo e=>up _ _ D.i2z e) ?_ (by rw[t.1,xK,Y.sz]) λc o n1 n2 n3 n4 e=>up c o n1 (Y.kp c o n1 n2 n3 n4 e));rw[<- Y.sz];exact t.extBut _ _ (jJ lt) (zX _ rfl)
 ·intro no;rw[ex,ey] at no;rcases no with no|no<;>cases no
def aa9(hn:A.handled=none)(D:ZipApart z TI TO i j l m)
  (qz:IsZip s.heap z TI TO .none) (qI:IsPair s.heap TI (.ref i) (.ref j)) (qO:IsPair s.heap TO a b)
  (p1:WN Wl s.heap i l p) (p2:WN Wv s.heap j m q) (r1:WY Wl s.heap l xs) (r2:WY Wv s.heap m ys) (ends:xs[p]?=none\/ys[q]?=none)
  (kQ:∀g,(∀c o,c≠z->c≠TO->c≠i->c≠j->s.heap.get? c=some o->g.get? c=some o)->Q none { s with heap:=g }):wpAny (model prog w) A (pyNext (.ref z)) Q E s:=by
 have ty:s.TypeIs (.ref z) "zip":=⟨_,qz,rfl⟩
 have Z:ZS Wl Wv s.heap s.heap z TI TO i j l m xs ys .none p q a b:=⟨qz,qI,qO,p1,p2,r1,r2,λ_ _ _ _ _ _ e=>e,rfl⟩
 refine zV (kX (qD (name:=Str.ofString "__next__") ty wD (qX wD ty F.entry_zip_next (ace hn D Z ?_ ?_) (F.args_zip_next_1 _))))
 ·intro x y g g' hx hy;rw[hx,hy] at ends;rcases ends with no|no<;>cases no
 ·rintro _ g e kp ⟨o,ho,ht⟩;exact zV (wpAny_isInstance (T:="StopIteration") (b:=true) ⟨o,ho,ht⟩ isSubtype_stop (zW (kQ _ kp)))
end
abbrev itO(b:Bool)(l:Addr):Obj:={ cls:=.type (if b then "tuple_iterator" else "list_iterator"),data:=.fields #[.ref l,.int 0 0] }
abbrev z1(b:Bool)(h:Heap)(l:Addr):Heap:=h.push (itO b l)
abbrev z2(b c:Bool)(h:Heap)(l m:Addr):Heap:=(z1 b h l).push (itO c m)
abbrev z3(b c:Bool)(h:Heap)(l m:Addr):Heap:=(z2 b c h l m).push { cls:=.type "tuple",data:=.seq #[.ref h.objs.size,.ref (z1 b h l).objs.size] }
abbrev z4(b c:Bool)(h:Heap)(l m:Addr):Heap:=(z3 b c h l m).push { cls:=.type "tuple",data:=.seq #[.none,.none] }
abbrev z5(b c:Bool)(h:Heap)(l m:Addr):Heap:=(z4 b c h l m).push { cls:=.type "zip",data:=.fields #[.none,.bool false,.bool false,.ref (z2 b c h l m).objs.size,.ref (z3 b c h l m).objs.size] }
def WY.push(x:WY b h l xs)(o:Obj):WY b (h.push o) l xs:=x.at λo' e=>zU _ e
def aag(b c:Bool)(l m:Addr)(xs ys:Array Value):Meets (Builtin.«zip.__new__» ⟨[.type "zip",.ref l,.ref m],[]⟩) (λ_ R s=>WY b s.heap l xs/\WY c s.heap m ys/\R (.ok (.ret (.ref (z4 b c s.heap l m).objs.size))) { s with heap:=z5 b c s.heap l m }) :=
 .of_wp λprog w A R s h=>by
  obtain⟨hp,g,d,tk,os⟩:=s;obtain⟨q1,q2,h⟩:=h;have aae:=sub_zip;cases b<;>cases c
  ·have L1:Heap.IsList (Shared.heap ⟨hp,g,d,tk,os⟩) l xs:=q1;have L2:Heap.IsList (Shared.heap ⟨hp.push { cls:=.type "list_iterator",data:=.fields #[.ref l,.int 0 0] },g,d,tk,os⟩) m ys:=WY.push (b:=false) q2 _
   wp_walk using qL L1,qL L2
   exact⟨_,rfl,h⟩
  ·have L1:Heap.IsList (Shared.heap ⟨hp,g,d,tk,os⟩) l xs:=q1;have L2:Heap.IsTuple (Shared.heap ⟨hp.push { cls:=.type "list_iterator",data:=.fields #[.ref l,.int 0 0] },g,d,tk,os⟩) m ys:=WY.push (b:=true) q2 _
   wp_walk using qL L1,xS L2
   exact⟨_,rfl,h⟩
  ·have L1:Heap.IsTuple (Shared.heap ⟨hp,g,d,tk,os⟩) l xs:=q1;have L2:Heap.IsList (Shared.heap ⟨hp.push { cls:=.type "tuple_iterator",data:=.fields #[.ref l,.int 0 0] },g,d,tk,os⟩) m ys:=WY.push (b:=false) q2 _
   wp_walk using xS L1,qL L2
   exact⟨_,rfl,h⟩
  ·have L1:Heap.IsTuple (Shared.heap ⟨hp,g,d,tk,os⟩) l xs:=q1;have L2:Heap.IsTuple (Shared.heap ⟨hp.push { cls:=.type "tuple_iterator",data:=.fields #[.ref l,.int 0 0] },g,d,tk,os⟩) m ys:=WY.push (b:=true) q2 _
   wp_walk using xS L1,xS L2
   exact⟨_,rfl,h⟩
section
def YE(e:h.get? it=some (itO b l)):WN b h it l 0:=by
 cases b
 ·exact⟨_,e,rfl,rfl⟩
 ·exact⟨_,e,rfl,rfl⟩
def Zy(q1:WY b s.heap l xs)(q2:WY c s.heap m ys)
  (h:∀g,IsZip g (s.heap.objs.size+4) (s.heap.objs.size+2) (s.heap.objs.size+3) .none->IsPair g (s.heap.objs.size+2) (.ref s.heap.objs.size) (.ref (s.heap.objs.size+1))->IsPair g (s.heap.objs.size+3) .none .none ->
   WN b g s.heap.objs.size l 0->WN c g (s.heap.objs.size+1) m 0->(∀a o,s.heap.get? a=some o->g.get? a=some o)->Q (.ref (s.heap.objs.size+4)) { s with heap:=g }) :
  wpAny (model prog w) A (call (.type "zip") [.ref l,.ref m]) Q E s:=by
 refine callType_new F.called_zip (by decide) (F.typeCall_zip_2 _ _) (F.newCall_zip_2 _ _) (λobj=>F.args_object_init_3 obj _ _) F.entry_zip_new (aag b c l m xs ys) ⟨q1,q2,?_⟩;have n1:(z1 b s.heap l).objs.size=s.heap.objs.size+1:=xK ..;have n2:(z2 b c s.heap l m).objs.size=s.heap.objs.size+2:=by rw[xK,n1]
 have n3:(z3 b c s.heap l m).objs.size=s.heap.objs.size+3:=by rw[xK,n2]
 have n4:(z4 b c s.heap l m).objs.size=s.heap.objs.size+4:=by rw[xK,n3]
 have g5:(z5 b c s.heap l m).get? (z4 b c s.heap l m).objs.size=some _:=zX _ rfl;have g4:(z5 b c s.heap l m).get? (z3 b c s.heap l m).objs.size=some _:=zU _ (zX _ rfl);have g3:(z5 b c s.heap l m).get? (z2 b c s.heap l m).objs.size=some _:=zU _ (zU _ (zX _ rfl));have g2:(z5 b c s.heap l m).get? (z1 b s.heap l).objs.size=some (itO c m):=zU _ (zU _ (zU _ (zX _ rfl)));have g1:(z5 b c s.heap l m).get? s.heap.objs.size=some (itO b l):=zU _ (zU _ (zU _ (zU _ (zX _ rfl))));show _/\_;rw[n2,n3,n4] at g5;rw[n1,n2] at g3;rw[n3] at g4;rw[n1] at g2;rw[n4];exact⟨⟨_,g5,rfl⟩,h _ g5 g3 g4 (YE g1) (YE g2) λa o x=>zU _ (zU _ (zU _ (zU _ (zU _ x))))⟩
end
end Zp
namespace Dl
open PySem L2 PySem.Spec PyProof.Rows Zp
def wy(K:W.Frag)(b:Bool)(a:Addr)(H:Hp)(xs:List V):Prop:=match b with|true=>j5 K H a xs|false=>iw K H a xs
section
def wy.src(I:Inv X pins σ H s)(h:wy X.K b a H xs):∃its:List Value,aQ xs its/\WY b s.heap a its.toArray/\xs.length<=sizeLine:=by
 cases b
 ·obtain⟨its,rv,pl,hz⟩:=I.list (show iw X.K H a xs from h);exact⟨its,rv,pl.isList,hz⟩
 ·obtain⟨its,rv,pl,hz⟩:=I.tuple (show j5 X.K H a xs from h);exact⟨its,rv,pl,hz⟩
def wy.ne(I:Inv X pins σ H s)(hf:bZ X pins H c)(h:wy X.K b a H xs):a≠c:=by
 cases b
 ·exact Rl I hf h
 ·exact Ro I hf h
def wy.inj(I:Inv X pins σ H s)(h:wy X.K b a H xs)(h':wy X.K b a H ys):xs=ys:=by
 cases b
 ·exact I.X1 h h'
 ·exact I.XB h h'
def wy.mono{K:W.Frag}(e:aS H H')(h:wy K b a H xs):wy K b a H' xs:=by
 cases b
 ·exact e.seq h
 ·exact aG e h
end
def IL{K:W.Frag}(b c:Bool)(l1 l2 z TI TO i1 i2:Addr)(Z:VG z TI TO i1 i2) :
  Turn P w K (.Tuple elts k pos) (Vi (wy K b l1) (wy K c l2)) [z,TI,TO,i1,i2] z (λi h=>IsZip h z TI TO .none/\IsPair h TI (.ref i1) (.ref i2)/\(∃a b,IsPair h TO a b)/\WN b h i1 l1 i/\WN c h i2 l2 i) where
 mem:=by simp
 obj:=λi h st d hd=>by
  obtain⟨hz,hTI,⟨a,b',hTO⟩,p1,p2⟩:=st;simp only[zQ,yF,xV] at hd;rcases hd with rfl|rfl|rfl|rfl|rfl
  ·exact⟨_,hz,λv q=>by have q:Data.fields _=Data.cell v:=q;cases q⟩
  ·exact⟨_,hTI,λv q=>by have q:Data.seq _ _=Data.cell v:=q;cases q⟩
  ·exact⟨_,hTO,λv q=>by have q:Data.seq _ _=Data.cell v:=q;cases q⟩
  ·exact p1.obj
  ·exact p2.obj
 keep:=λi h h' st kk=>by
  obtain⟨hz,hTI,⟨a,b',hTO⟩,h1,h2⟩:=st;exact⟨kk z (by simp) _ hz,kk TI (by simp) _ hTI,⟨a,b',kk TO (by simp) _ hTO⟩,h1.at λo q=>kk i1 (by simp) o q,h2.at λo q=>kk i2 (by simp) o q⟩
 item:=by
  intro X hP hw hK hc i pins s σ H E I hf st hg;subst hP hw hK;obtain⟨xs,ys,x,y,YF,X7,hx,hy⟩:=hg;obtain⟨adV,rv1,p1,ZM⟩:=YF.src I;obtain⟨WU,rv2,p2,hz2⟩:=X7.src I;obtain⟨u1,hu1,ru1⟩:=rv1.get hx;obtain⟨u2,hu2,ru2⟩:=rv2.get hy;have D:ZipApart z TI TO i1 i2 l1 l2:=⟨Z.a1,Z.a2,Z.a3,Z.a4,Z.a5,Z.a6,Z.a7,Z.a8,Z.a9,Z.a0,YF.ne I (hf z (by simp)),YF.ne I (hf TO (by simp)),YF.ne I (hf i1 (by simp)),YF.ne I (hf i2 (by simp)),X7.ne I (hf z (by simp)),X7.ne I (hf TO (by simp)),X7.ne I (hf i1 (by simp)),X7.ne I (hf i2 (by simp))⟩
  obtain⟨hz,hTI,⟨a,b',hTO⟩,h1,h2⟩:=st;refine acf (I.ok.hd hc) D hz hTI hTO h1 h2 p1 p2 (x:=u1) (y:=u2) (by simpa using hu1) (by simpa using hu2) λg b1 b2 b3 b4 b5 b6 hk=>⟨.ref s.heap.objs.size,rfl,?_⟩
  have lt:∀ {c:Addr}{o:Obj},s.heap.get? c=some o->s.heap.objs.size≠c:=λe=>jJ (zY e);refine wpAny_letOwnedTupleGo_zip (s:={ s with heap:=g }) b1 λg' hz' XN=>?_;have b5':g'.get? s.heap.objs.size=some { cls:=.type "tuple",data:=.seq #[u1,u2] }:=XN.extBut _ _ (lt hz) b5;have ht:uI g' s.heap.objs.size (List.toArray [u1,u2]):=⟨⟨_,b5',rfl,_,rfl⟩,_,b5',rfl⟩
  refine⟨.ref s.heap.objs.size,_,CL (ch:=[z,TI,TO,i1,i2]) (xs:=[x,y]) (t':=s.toks) I hf (λb o hb q=>?_) (yN _) ht (.cons ru1 (.cons ru2 .nil)) (by show 2<=sizeLine;decide),rfl,
   ⟨s.heap.objs.size,x,y,rfl,I.fresh,rfl,λzs hzs=>by rw[hzs.inj I YF];exact hx,λzs hzs=>by rw[hzs.inj I X7];exact hy⟩,
   ⟨hz',XN.extBut _ _ Z.a1 (hk _ _ D.TIz D.TITO D.TIi1 D.TIi2 hTI),⟨_,_,XN.extBut _ _ Z.a2 b2⟩,b3.extBut XN.extBut Z.a3,b4.extBut XN.extBut Z.a4⟩,λb hb=>?_⟩
  ·simp only[zQ,yF,xV,not_or] at hb;exact XN.extBut _ _ hb.1 (hk b o hb.1 hb.2.2.1 hb.2.2.2.1 hb.2.2.2.2 q)
  ·have:s.heap.objs.size≠b:=by
    simp only[zQ,yF,xV] at hb;obtain⟨o1,g1,_⟩:=h1.obj;obtain⟨o2,g2,_⟩:=h2.obj;rcases hb with rfl|rfl|rfl|rfl|rfl
    ·exact lt hz
    ·exact lt hTI
    ·exact lt hTO
    ·exact lt g1
    ·exact lt g2
   rw[aB (jO this)];exact (hf b hb).1
 done:=by
  intro X hP hw hK hc i pins s σ H E I hf st hg;subst hP hw hK;obtain⟨xs,ys,YF,X7,hx⟩:=hg;obtain⟨adV,rv1,p1,ZM⟩:=YF.src I;obtain⟨WU,rv2,p2,hz2⟩:=X7.src I;have D:ZipApart z TI TO i1 i2 l1 l2:=⟨Z.a1,Z.a2,Z.a3,Z.a4,Z.a5,Z.a6,Z.a7,Z.a8,Z.a9,Z.a0,YF.ne I (hf z (by simp)),YF.ne I (hf TO (by simp)),YF.ne I (hf i1 (by simp)),YF.ne I (hf i2 (by simp)),X7.ne I (hf z (by simp)),X7.ne I (hf TO (by simp)),X7.ne I (hf i1 (by simp)),X7.ne I (hf i2 (by simp))⟩
  obtain⟨hz,hTI,⟨a,b',hTO⟩,h1,h2⟩:=st;have e1:=rv1.length;have e2:=rv2.length;refine aa9 (I.ok.hd hc) D hz hTI hTO h1 h2 p1 p2 (hx.elim (λq=>.inl (by simp;lia)) λq=>.inr (by simp;lia)) λg hk=>⟨rfl,?_⟩
  refine Ie (ch:=[z,TI,TO,i1,i2]) (t':=s.toks) I hf λb o hb q=>?_;simp only[zQ,yF,xV,not_or] at hb;exact hk b o hb.1 hb.2.2.1 hb.2.2.2.1 hb.2.2.2.2 q
 self:=λ_ _ _ _ _ st h=>wpAny_pyIter_zip st.1 h
section
def MS(B:se X "zip" (.type "zip"))(ha:PA X [l,l'] tl)(hs:starEach [l,l'] X.env=(false,eval l X.env)::starEach [l'] X.env)(hs2:(backTo pos (starEach [l'] X.env)).any (·.1)=false) :
  PI X (.Tuple elts k tp) (.Call (.Name "zip" p) [l,l'] [] pos) (λσ H R=>tl σ H λvs H1=>∃a b,vs=[.ref a,.ref b]/\∃c d xs ys,wy X.K c a H1 xs/\wy X.K d b H1 ys/\R (Vi (wy X.K c a) (wy X.K d b)) H1):=by
 intro pins s σ H R I h;refine Call_ (ix I B.gl B.mg B.bt (qT (cM (ha pos pins s σ H _ I h) λus s1 ⟨vs,H1,I1,r1,q1⟩=>?_) hs hs2));obtain⟨a,b,e,c,d,xs,ys,YF,X7,q⟩:=q1;subst e;obtain⟨u,u',rfl,rx,ry⟩:=vals2 r1;cases rx;cases ry;obtain⟨its,rv,pl,hz⟩:=YF.src I1;obtain⟨its',rv',pl',hz'⟩:=X7.src I1;refine Zy pl pl' λg b1 b2 b3 b4 b5 kp=>wpAny_pyIter_zip (s:={ s1 with heap:=g }) b1 ?_;refine⟨_,_,_,_,H1,rfl,I1.kept (t':=s1.toks) kp,IL c d a b (s1.heap.objs.size+4) (s1.heap.objs.size+2) (s1.heap.objs.size+3) s1.heap.objs.size (s1.heap.objs.size+1) ?_,⟨b1,b2,⟨_,_,b3⟩,b4,b5⟩,λc hc=>?_,q⟩
 ·constructor<;>(intro z;have z:(_:Nat)=_:=z;lia)
 ·have hge:s1.heap.objs.size<=c:=by
   simp only[zQ,yF,xV] at hc;rcases hc with rfl|rfl|rfl|rfl|rfl
   ·exact jW _ _
   ·exact jW _ _
   ·exact jW _ _
   ·exact yN _
   ·exact jW _ _
  exact I1.Xc hge (I1.Wb.fresh hge)
def Tb:List D->Option (List D):=λds=>match ds with
 | [x,y]=>(fE x).bind λxs=>(fE y).map λys=>lY xs ys
 | _=>none
def Fm{K:W.Frag}(h:fE d=some xs)(r:Rep K HF d v):∃b a vs,v=.ref a/\wy K b a HF vs/\ax K HF xs vs:=by
 rcases nW h with rfl|rfl
 ·simp only[Rep] at r;obtain⟨a,vs,rfl,q,rr⟩:=r;exact⟨true,a,vs,rfl,q,rr⟩
 ·simp only[Rep] at r;obtain⟨a,vs,rfl,q,rr⟩:=r;exact⟨false,a,vs,rfl,q,rr⟩
def fy(fs:Env->Option (List D)):Env->Option (List D):=λρ=>(fs ρ).bind Tb
def NH(B:se X "zip" (.type "zip"))(hs:starEach [l,l'] X.env=(false,eval l X.env)::starEach [l'] X.env)(hs2:(backTo pos (starEach [l'] X.env)).any (·.1)=false)(h:DA X [l,l'] fs) :
  DI X (.Tuple elts k tp) (.Call (.Name "zip" p) [l,l'] [] pos) (fy fs) :=
 AO (MS B h hs hs2) λσ H R ⟨HF,ρ,ds,sm,eo,hf,q⟩=>by
  obtain⟨x,hx,hf⟩:=bs hf;refine⟨HF,ρ,_,sm,eo,hx,λvs H1 Wa g1 r1=>?_⟩;unfold Tb at hf;split at hf
  ·obtain⟨xs,h1,hf⟩:=bs hf;obtain⟨ys,h2,rfl⟩:=ag hf;obtain⟨v,r',rfl,a,b⟩:=r1.cons_inv;obtain⟨v',r'',rfl,a',b'⟩:=b.cons_inv;rw[b'.nil_inv];obtain⟨c,ad,us,rfl,hq,rr⟩:=Fm h1 a;obtain⟨c',ad',us',rfl,hq',rr'⟩:=Fm h2 a';exact⟨ad,ad',rfl,c,c',us,us',hq.mono g1.fh,hq'.mono g1.fh,q _ H1 Wa g1 (LC hq (λ_ _ s h=>h.mono s) hq' (λ_ _ s h=>h.mono s) rr rr')⟩
  ·cases hf
end
end Dl
namespace Zp
open PySem PyProof.Rows
def WN.ne(x:WN b h it l k)(y:WY b h l xs):l≠it:=by
 rintro rfl;cases b
 ·obtain⟨o,e,c,d⟩:=(show h.IsListIter l l k from x)
  obtain⟨o',e',r⟩:=(show h.IsList l xs from y)
  rw[e] at e';cases e';simp_all
 ·obtain⟨o,e,c,d⟩:=(show h.IsTupleIter l l k from x)
  obtain⟨o',e',r⟩:=(show h.IsTuple l xs from y)
  rw[e] at e';cases e';simp_all
section
def abb(hn:A.handled=none)(b:Bool)(it l:Addr)(xs:Array Value):Draws prog w A it [it,l] xs.size (λi x=>xs[i]?=some x) (λi h=>WN b h it l i/\WY b h l xs) where
 live:=λi h st=>let ⟨o,e,_⟩:=st.1.obj;⟨o,e⟩
 frame:=λi h h' st k=>⟨st.1.at (k it (by simp)),st.2.at (k l (by simp))⟩
 item:=λi s Q E hi st hQ=>nxt st.1 st.2 (v:=xs[i]) (by simp[hi]) λg e t=>hQ _ g s.toks (by simp[hi]) ⟨e,st.2.extBut t.extBut (st.1.ne st.2)⟩ t
 done:=λs Q E st hE=>aaf hn st.1 st.2 (by simp) hE
def aci{Wl:Bool}{e it l:Addr}{i:Nat}{items:Array Value}{x old:Value}{Q:Option Value->Shared->Prop}(hn:A.handled=none)
  (qe:IsEnum s.heap e it i old) (qi:WN Wl s.heap it l i) (ql:WY Wl s.heap l items) (ex:items[i]?=some x) (nei:e≠it)
  (kQ:∀g tk,IsEnumOut g e it ((i:Int)+1) x s.heap.objs.size->WN Wl g it l (i+1)->g.get? s.heap.objs.size=some { cls:=.type "tuple",data:=.seq #[.int i tk,x] } ->
   g.objs.size=s.heap.objs.size+1->(∀c o,c≠e->c≠it->s.heap.get? c=some o->g.get? c=some o)->Q (some (.ref s.heap.objs.size)) { s with heap:=g,toks:=tk+1 }) :
  wpAny (model prog w) A (pyNext (.ref e)) Q E s:=by
 have nel:e≠l:=by
  rintro rfl;cases Wl
  ·obtain⟨o,e1,r⟩:=(show s.heap.IsList e items from ql)
   rw[qe] at e1;cases e1;simp at r
  ·obtain⟨o,e1,r⟩:=(show s.heap.IsTuple e items from ql)
   rw[qe] at e1;cases e1;simp at r
 have D:Draws prog w A.in1 it [it,l] items.size (λi x=>items[i]?=some x) (λi h=>WN Wl h it l i/\WY Wl h l items):=abb (A:=A.in1) hn Wl it l items;refine wpAny_pyNext_enum_itemD D qe ⟨qi,ql⟩ (Array.getElem?_eq_some_iff.mp ex).1 nei (by simp[nei,nel]) λy g tk hy a b c d k=>?_;rw[ex] at hy;cases hy;exact kQ g tk a b.1 c d k
end
end Zp
namespace Dl
open PySem L2 PySem.Spec PyProof.Rows Zp
def ur{K:W.Frag}(b:Bool)(a it e:Addr)(hei:e≠it):Turn P w K (.Tuple elts k pos) (Ux (wy K b a)) [e,it] e (λi h=>(∃old,IsEnum h e it i old)/\WN b h it a i) where
 mem:=by simp
 obj:=λi h st c hc=>by
  obtain⟨⟨old,he⟩,hi⟩:=st;rcases List.mem_cons.mp hc with z|z
  ·subst z;exact⟨_,he,λv q=>by have q:Data.fields _=Data.cell v:=q;cases q⟩
  ·rw[List.mem_singleton.mp z];exact hi.obj
 keep:=λi h h' st kk=>⟨let ⟨old,he⟩:=st.1;⟨old,kk e (by simp) _ he⟩,st.2.at λo q=>kk it (by simp) o q⟩
 item:=by
  intro X hP hw hK hc i pins s σ H E I hf st hg;subst hP hw hK;obtain⟨xs,x,hq,hx⟩:=hg;obtain⟨its,rv,p,hz⟩:=hq.src I;obtain⟨u,hu,ru⟩:=rv.get hx;obtain⟨⟨old,he⟩,hi⟩:=st;refine aci (I.ok.hd hc) he hi p (x:=u) (by simpa using hu) hei λg tk b1 b2 b3 b4 hk=>⟨.ref s.heap.objs.size,rfl,?_⟩
  have lt:∀ {c:Addr}{o:Obj},s.heap.get? c=some o->s.heap.objs.size≠c:=λe=>jJ (zY e);have Z8:s.heap.objs.size≠e:=lt he;refine wpAny_letOwnedTupleGo_enum (s:={ s with heap:=g,toks:=tk+1 }) b1 λg' he' XN=>?_;have b3':g'.get? s.heap.objs.size=some { cls:=.type "tuple",data:=.seq #[.int i tk,u] }:=XN.extBut _ _ Z8 b3;have ht:uI g' s.heap.objs.size (List.toArray [Value.int (i:Nat) tk,u]):=⟨⟨_,b3',rfl,_,rfl⟩,_,b3',rfl⟩
  refine⟨.ref s.heap.objs.size,_,CL (ch:=[e,it]) (xs:=[.int (i:Nat),x]) (t':=tk+1) I hf (λc o hb q=>?_) (yN _) ht (.cons ⟨_,rfl⟩ (.cons ru .nil)) (by show 2<=sizeLine;decide),rfl,
   ⟨s.heap.objs.size,x,rfl,I.fresh,rfl,λzs hzs=>by rw[hzs.inj I hq];exact hx⟩,⟨⟨_,he'⟩,b2.extBut XN.extBut (jO hei)⟩,λc Xj=>?_⟩
  ·simp only[zQ,yF,xV,not_or] at hb;exact XN.extBut _ _ hb.1 (hk c o hb.1 hb.2 q)
  ·have:s.heap.objs.size≠c:=by
    simp only[zQ,yF,xV] at Xj;obtain⟨o1,g1,_⟩:=hi.obj;rcases Xj with rfl|rfl
    ·exact lt he
    ·exact lt g1
   rw[aB (jO this)];exact (hf c Xj).1
 done:=by
  intro X hP hw hK hc i pins s σ H E I hf st hg;subst hP hw hK;obtain⟨xs,hq,hx⟩:=hg;obtain⟨its,rv,p,hz⟩:=hq.src I;have hh:X.A.in1.handled=none:=I.ok.hd hc;have hl:=rv.length;obtain⟨⟨old,he⟩,hi⟩:=st;have hT:s.TypeIs (.ref e) "enumerate":=⟨_,he,rfl⟩
  unfold pyNext;refine zV (kX (qD (name:=Str.ofString "__next__") hT F.slot_enumerate_next (qX F.slot_enumerate_next hT F.entry_enumerate_next ?_ (F.args_enumerate_next_1 _))));refine zV (m:=field (.ref e) 2) (qU he rfl (x:=.ref it) rfl ?_);refine zV (aaf hh hi p (by simp;lia) λh1 x k1 hx1=>?_);obtain⟨o,ho,hc1⟩:=hx1;refine zV (wpAny_isInstance (T:="StopIteration") (b:=true) ⟨o,ho,hc1⟩ isSubtype_stop (zW ⟨rfl,?_⟩));obtain⟨f0,f1,f2,f3,f4,f5⟩:=hf it (by simp);exact I.turned (t':=s.toks) (λb o hb q=>k1 b o hb q) f0 f1 f3 f4 f5
 self:=λ_ _ _ _ _ st h=>let ⟨_,he⟩:=st.1;Zh he h
section
def NV(B:se X "enumerate" (.type "enumerate"))(ha:PA X [l] tl)(hs:starEach [l] X.env=[(false,eval l X.env)]):PI X (.Tuple elts k tp) (.Call (.Name "enumerate" p) [l] [] pos) (λσ H R=>tl σ H λvs H1=>∃a,vs=[.ref a]/\∃b xs,wy X.K b a H1 xs/\R (Ux (wy X.K b a)) H1):=by
 intro pins s σ H R I h;refine Call_ (ix I B.gl B.mg B.bt (qT (cM (ha pos pins s σ H _ I h) λus s1 ⟨vs,H1,I1,r1,q1⟩=>?_) hs rfl));obtain⟨a,e,b,xs,hq,q⟩:=q1;subst e;obtain⟨u,rfl,rx⟩:=vals1 r1;cases rx;have fresh:∀b∈[s1.heap.objs.size+1,s1.heap.objs.size],bZ X pins H1 b:=λb hb=>by
  rcases List.mem_cons.mp hb with z|z
  ·subst z;exact I1.Xc (Nat.le_succ _) (I1.Wb.fresh (Nat.le_succ _))
  ·cases List.mem_singleton.mp z;exact I1.Xc (yN _) I1.fresh
 obtain⟨its,rv,pl,hz⟩:=hq.src I1;cases b with
 | false =>
  refine call_enumerate_list pl λh' he hit YB kp=>Zh (s:={ s1 with heap:=h' }) he ?_;exact⟨_,_,_,_,H1,rfl,I1.kept (t':=s1.toks) kp,ur false a s1.heap.objs.size (s1.heap.objs.size+1) (Nat.succ_ne_self _),⟨⟨_,he⟩,hit⟩,fresh,q⟩
 | true =>
  refine En.Yq (show s1.heap.IsTuple a its.toArray from pl) λh' he hit YB kp=>Zh (s:={ s1 with heap:=h' }) he ?_;exact⟨_,_,_,_,H1,rfl,I1.kept (t':=s1.toks) kp,ur true a s1.heap.objs.size (s1.heap.objs.size+1) (Nat.succ_ne_self _),⟨⟨_,he⟩,hit⟩,fresh,q⟩
def bJ(fs:Env->Option (List D)):Env->Option (List D):=λρ=>(fs ρ).bind λds=>(cg ds).map (bK 0)
def NL(B:se X "enumerate" (.type "enumerate"))(h:DA X [l] fs)(hs:starEach [l] X.env=[(false,eval l X.env)]):DI X (.Tuple elts k tp) (.Call (.Name "enumerate" p) [l] [] pos) (bJ fs) :=
 AO (NV B h hs) λσ H R ⟨HF,ρ,ds,sm,eo,hf,q⟩=>by
  obtain⟨x,hx,hf⟩:=bs hf;obtain⟨es,h1,rfl⟩:=ag hf;obtain⟨d,h0,h1⟩:=bs h1;rw[fU h0] at hx;refine⟨HF,ρ,_,sm,eo,hx,λvs H1 Wa g1 r1=>?_⟩;obtain⟨v,r',rfl,a,b⟩:=r1.cons_inv;rw[b.nil_inv];obtain⟨c,ad,us,rfl,hq,rr⟩:=Fm h1 a;exact⟨ad,rfl,c,us,hq.mono g1.fh,q _ H1 Wa g1 (Ik hq (λ_ _ s h=>h.mono s) rr)⟩
end
end Dl
namespace Yd
open PySem PySem.W PySem.Calls PyProof.Rows L2
def bZ.at(h:bZ X pins H b)(e:H' b=none):bZ X pins H' b:=⟨e,h.2⟩
section
def Xm{g:Array Value->Array Value}(I:Inv X pins σ H s)(f:bZ X pins H b):Inv X pins σ H { s with heap:=s.heap.update b (Obj.mapSeq g) }:=by
 obtain⟨f0,f1,f2,f3,f4,f5⟩:=f;exact I.turned (t':=s.toks) (h':=s.heap.update b (Obj.mapSeq g)) (λc o hc e=>(xO _ _ (jO hc)).trans e) f0 f1 f3 f4 f5
def WJ(I:Inv X (pins++qd fp h) σ H' s')(hb:b∈fp)(e:h.get? b=some o):s'.heap.get? b=some o/\H' b=none :=
 let q:=I.pin (b,o) (yE _ (yE _ (ej hb e)));⟨q.1,q.2.1⟩
def Yu(I:Inv X pins σ H s)(ho:s.heap.get? a=some (seqObj "list" vs.toArray n))(fa:bZ X pins H a)(YN:vs.length < 64)
  (J:List Value->Hp->Prop) (j0:J [] H)
  (step:∀us v,vs[us.length]?=some v->∀pl s' H',Inv X (pins++pl) σ H' s'->J us H'->wpAny (model X.prog X.w) A (call f [v]) (λu Xr=>∃H'',Inv X (pins++pl) σ H'' Xr/\J (us++[u]) H'') (λ_ _=>False) s')
  (fin:∀us H',us.length=vs.length->J us H'->∃ (z:Nat->Int) (κ:SortKind),(2<=vs.length->∀s',Inv X pins σ H' s'->(∀Q':SortKind->Shared->Prop,Q' κ s'->wpAny (model X.prog X.w) A (keyKind' us.toArray) Q' (λ_ _=>False) s') /\
    ∀i j C,i < vs.length->j < vs.length->C (SP.fW z i j) s'->kas_ask X.prog X.w A κ us i j C s') /\
   ∀s' c,Inv X pins σ H' s'->bZ X pins H' a->s'.heap.get? a=some (seqObj "list" (Wo z vs).toArray c)->P (.done (.ret .none)) s') :
  wpAny (model X.prog X.w) A (ksk_tree a f false) P E s:=by
 have Yo:vs.length<=sizeLine:=by rw[qV];lia
 unfold ksk_tree;refine zV (vR ho rfl ?_);refine zV (kE ho rfl ?_ (by simpa using Yo) (xW _));obtain⟨e1,ho1⟩:∃e,(s.heap.update a (Obj.mapSeq λ_=>(#[]:Array Value))).get? a=some (seqObj "list" #[] e):=⟨_,kG ho λ_=>#[]⟩
 have I1:=Xm (g:=λ_=>(#[]:Array Value)) I fa;refine zV (seqEpoch_at ho1 rfl ?_);refine zV (wpAny_newTuple ?_ (by simpa using Yo));refine zV (kW ?_ (xW _));refine xY ?_;have ho3:(((s.heap.update a (Obj.mapSeq λ_=>(#[]:Array Value))).push (seqObj "tuple" vs.toArray 0)).push (seqObj "list" #[] 0)).get? a=some (seqObj "list" #[] e1):=zU _ (zU _ ho1);have hk3:(((s.heap.update a (Obj.mapSeq λ_=>(#[]:Array Value))).push (seqObj "tuple" vs.toArray 0)).push (seqObj "list" #[] 0)).get? ((s.heap.update a (Obj.mapSeq λ_=>(#[]:Array Value))).push (seqObj "tuple" vs.toArray 0)).objs.size=some (seqObj "list" #[] 0):=zX _ rfl;have I3:=(I1.kept (t':=s.toks) (h':=((s.heap.update a (Obj.mapSeq λ_=>(#[]:Array Value))).push (seqObj "tuple" vs.toArray 0)).push (seqObj "list" #[] 0)) λb o e=>zU _ (zU _ e))
 have I2:=(I1.kept (t':=s.toks) (h':=(s.heap.update a (Obj.mapSeq λ_=>(#[]:Array Value))).push (seqObj "tuple" vs.toArray 0)) λb o e=>zU _ e)
 have fk:bZ X pins H ((s.heap.update a (Obj.mapSeq λ_=>(#[]:Array Value))).push (seqObj "tuple" vs.toArray 0)).objs.size:=I2.Xc (yN _) (I2.Wb.fresh (yN _));have hka:((s.heap.update a (Obj.mapSeq λ_=>(#[]:Array Value))).push (seqObj "tuple" vs.toArray 0)).objs.size≠a:=by
  have Wg:=zY ho1;rw[xK];exact jJ (jP Wg)
 show wpAny _ A _ P E { s with heap:=((s.heap.update a (Obj.mapSeq λ_=>(#[]:Array Value))).push (seqObj "tuple" vs.toArray 0)).push (seqObj "list" #[] 0) };generalize ((s.heap.update a (Obj.mapSeq λ_=>(#[]:Array Value))).push (seqObj "tuple" vs.toArray 0)).objs.size=kS at hk3 fk hka;generalize e3:({ s with heap:=((s.heap.update a (Obj.mapSeq λ_=>(#[]:Array Value))).push (seqObj "tuple" vs.toArray 0)).push (seqObj "list" #[] 0) }:Shared)=s3 at I3;have ho3:s3.heap.get? a=some (seqObj "list" #[] e1):=by rw[<- e3];exact ho3
 have hk3:s3.heap.get? kS=some (seqObj "list" #[] 0):=by rw[<- e3];exact hk3
 clear e3 I2 I1 ho1 ho;unfold ksk_rest;refine zV (wU ?_)
 first
  | rw[List.forIn_toArray]
  | (rw[<- Array.forIn_toList];simp only[List.toList_toArray])
  | rw[<- Array.forIn_toList]
 refine zV (ksk_fold (λi s'=>∃us H' e,us.length=i/\Inv X pins σ H' s'/\H' a=none/\H' kS=none/\s'.heap.get? a=some (seqObj "list" #[] e1)/\s'.heap.get? kS=some (seqObj "list" us.toArray e)/\J us H') vs 0 s3
  ⟨[],H,0,rfl,I3,fa.1,fk.1,ho3,hk3,j0⟩ ?step ?done)
 case step =>
  rintro j x s' hx ⟨us,H',e,hu,I',ha',Ww,hoa,Wb,j'⟩;have hu:us.length=j:=by lia
  have hj:j < vs.length:=(List.getElem?_eq_some_iff.mp hx).1;have Ip:=I'.pinned (fp:=[a,kS]) (λb hb=>by
   rcases List.mem_cons.mp hb with rfl|hb
   ·exact bZ.at fa ha'
   ·rw[List.mem_singleton.mp hb];exact bZ.at fk Ww) (λb hb=>by
   rcases List.mem_cons.mp hb with rfl|hb
   ·exact⟨_,hoa,λv z=>by cases z⟩
   ·rw[List.mem_singleton.mp hb];exact⟨_,Wb,λv z=>by cases z⟩)
  refine zV (kX (xB (step us x (by rw[hu];exact hx) _ s' H' Ip j') (λu Xr he=>?_) λ_ _ hF=>hF.elim));obtain⟨H'',I'',j''⟩:=he
  try dsimp only
  obtain⟨ga,na⟩:=WJ I'' (b:=a) zE hoa;obtain⟨gk,nk⟩:=WJ I'' (b:=kS) (zC _ zE) Wb;have I4:=I''.Wi;obtain⟨c2,Xs⟩:∃c2,(Xr.heap.update kS (Obj.mapSeq (·.push u))).get? kS=some (seqObj "list" (us.toArray.push u) c2):=⟨_,kG gk (·.push u)⟩
  refine zV (kE gk rfl ?_ (by rw[zH,qV];lia) (yD (Nat.le_of_eq (Array.size_push ..)) (by rw[zH,qV];lia)));refine zW ⟨rfl,us++[u],H'',c2,by rw[zN,hu];simp,Xm I4 (bZ.at fk nk),na,nk,(xO _ _ hka).trans ga,?_,j''⟩;rw[Xs];simp
 case done =>
  rintro s' ⟨us,H',e,hu,I',ha',Ww,hoa,Wb,j'⟩;have hu:us.length=vs.length:=by lia
  try dsimp only
  refine zV (vR Wb rfl ?_);obtain⟨z,κ,hz,hP⟩:=fin us H' hu j';have last:∀WT:SortSt,(arrOf WT).map (·.2)=(Wo z vs).toArray->failedOf WT=none->wpAny (model X.prog X.w) A (ksk_tail a false e1 (.ref kS) WT) P E s':=λWT h1 h2=>by
   unfold ksk_tail
   try dsimp only
   rw[h1,h2];have na1:(s'.heap.update kS (Obj.mapSeq λ_=>(#[]:Array Value))).get? a=some (seqObj "list" #[] e1):=(xO _ _ hka).trans hoa;have I5:=Xm (g:=λ_=>(#[]:Array Value)) I' (bZ.at fk Ww);have I6:=Xm (s:={ s' with heap:=s'.heap.update kS (Obj.mapSeq λ_=>(#[]:Array Value)) }) (g:=λ_=>(Wo z vs).toArray) I5 (bZ.at fa ha');refine zV (kE Wb rfl ?_ (by rw[zH,qV];lia) (xW _));refine zV (wpAny_letGo ?_);refine zV (seqEpoch_at na1 rfl ?_);refine zV (kE na1 rfl ?_ (xW _) (by
    simp only[yP,qQ];show (Wo z vs).toArray.size<=_;rw[zH,X5];lia))
   obtain⟨c,hc⟩:∃c,((s'.heap.update kS (Obj.mapSeq λ_=>(#[]:Array Value))).update a (Obj.mapSeq λ_=>(Wo z vs).toArray)).get? a=some (seqObj "list" (Wo z vs).toArray c):=⟨_,kG na1 λ_=>(Wo z vs).toArray⟩
   simp only[bne_self_eq_false,yP,qQ];exact zW (hP _ c I6 (bZ.at fa ha') hc)
  unfold ksk_end
  try dsimp only
  simp only[yP,qQ];by_cases h2:vs.toArray.size < 2
  ·rw[yM h2,yM h2];refine zV (zW ?_);rw[StateT.run_pure];refine zV (zW (last _ ?_ rfl));have ZL:vs.length < 2:=by simpa using h2
   unfold Wo;rw[yM ZL];show ((us.toArray.zip vs.toArray).map (·.2))=vs.toArray;apply Array.toList_inj.mp;simp only[Array.toList_map,Array.toList_zip];exact List.map_snd_zip (by rw[hu];exact yN _)
  ·rw[yO h2,yO h2];have ZL:2<=vs.length:=by
    have:¬ vs.length < 2:=by simpa using h2
    lia
   obtain⟨hk,Wg⟩:=hz ZL s' I';refine zV (xB (hk (λκ' Xr=>κ'=κ/\Xr=s') ⟨rfl,rfl⟩) (λκ' Xr hs=>?_) λ_ _ x=>x.elim);obtain⟨rfl,rfl⟩:=hs;refine zV (xB (kat_run (Q:=λWT s2=>s2=Xr/\(arrOf WT).map (·.2)=(Wo z vs).toArray/\failedOf WT=none) (G:=λp s2=>s2=Xr/\p=SP.run (SP.fW z) (kas_sort vs.length))
    hu ZL YN (λp WT s2 a1 a2 a3 a4=>⟨a4.1,?_,a3⟩) (SP.wp_run Wg (kas_sort vs.length) (SP.LS (by lia)) ⟨rfl,rfl⟩)) ?_ λ_ _ e=>e)
   ·rw[kat_snds hu a2,a4.2];unfold Wo;rw[yO (by lia)]
   ·rintro⟨⟨⟩,WT⟩ s2 ⟨hs,h4,h5⟩;subst hs;exact last WT h4 h5
def sortedK{l:Value}{f:Addr}{Q:Value->Shared->Prop}(I:Inv X pins σ H s)(YN:vs.length < 64)
  (ad1:∀ {Q':List Value->Shared->Prop},(∀h':Heap,(∀b o,s.heap.get? b=some o->h'.get? b=some o)->Q' vs { s with heap:=h' })->wpAny (model X.prog X.w) A.in1 (collect l) Q' E s)
  (J:List Value->Hp->Prop) (j0:J [] H)
  (step:∀us v,vs[us.length]?=some v->∀pl s' H',Inv X (pins++pl) σ H' s'->J us H'->wpAny (model X.prog X.w) A.in1.in1 (call (.ref f) [v]) (λu Xr=>∃H'',Inv X (pins++pl) σ H'' Xr/\J (us++[u]) H'') (λ_ _=>False) s')
  (fin:∀us H',us.length=vs.length->J us H'->∃ (z:Nat->Int) (κ:SortKind),(2<=vs.length->∀s',Inv X pins σ H' s'->(∀Q':SortKind->Shared->Prop,Q' κ s'->wpAny (model X.prog X.w) A.in1.in1 (keyKind' us.toArray) Q' (λ_ _=>False) s') /\
    ∀i j C,i < vs.length->j < vs.length->C (SP.fW z i j) s'->kas_ask X.prog X.w A.in1.in1 κ us i j C s') /\
   ∀s' D c,Inv X pins σ H' s'->bZ X pins H' D->s'.heap.get? D=some (seqObj "list" (Wo z vs).toArray c)->Q (.ref D) s') :
  wpAny (model X.prog X.w) A (call (.builtin "sorted") [l] [(Str.ofString "key",.ref f)]) Q E s:=by
 have Yo:vs.length<=sizeLine:=by rw[qV];lia
 refine call_function_entry_kw kind_sorted plain_sorted entry_sorted (ksk_s1 _ _) ?_;unfold Builtin.«sorted»;refine zV (m:=checkCount "sorted" 1 1 _) (zW (zV (ad1 λh1 kp=>?_)));refine zV (kW ?_ (by simpa using Yo));have I1:=I.kept (t':=s.toks) kp;have fD:bZ X pins H h1.objs.size:=I1.Xc (yN _) (I1.Wb.fresh (yN _));have hoD:(h1.push (seqObj "list" vs.toArray 0)).get? h1.objs.size=some (seqObj "list" vs.toArray 0):=zX _ rfl;have I2:=I1.kept (t':=s.toks) (h':=h1.push (seqObj "list" vs.toArray 0)) λb o e=>zU _ e;show wpAny _ _ _ _ _ { s with heap:=h1.push (seqObj "list" vs.toArray 0) };refine zV (xY (wpAny_call_entry_kw slot_list_sort ⟨_,hoD,rfl⟩ entry_list_sort ?body (ksk_l1 _ _)))
 case body =>
  show wpAny (model X.prog X.w) A.in1.in1 (Builtin.«list.sort» ⟨[.ref h1.objs.size],[(Str.ofString "key",.ref f)]⟩) _ _ _;rw[ksk_t1];refine Yu I2 hoD fD YN J j0 step λus H' hu j'=>?_;obtain⟨z,κ,hz,hP⟩:=fin us H' hu j';exact⟨z,κ,hz,λs' c I' f' e=>⟨_,rfl,zW ⟨_,rfl,hP s' _ c I' f' e⟩⟩⟩
end
end Yd
namespace Dl
open PySem L2 PySem.Spec PyProof.Rows
def _root_.L2.Inv.acj(I:Inv X pins σ H s)(f:bZ X pins H b)(ho:fw X.prog X.w (upd H b o) s.heap b o):Inv X pins σ (upd H b o) s:=by
 obtain⟨f0,f1,f2,f3,f4,f5⟩:=f;have up:∀c u,H c=some u->upd H b o c=some u:=λc u e=>by rw[aB (aU e f0)];exact e
 refine⟨I.ok,I.os,I.bare,⟨I.base.keep,I.base.slot,λc oc e n hx=>?_,I.base.there,λc xs e=>up c _ (I.base.Xb c xs e),λc oc u e=>up c _ (I.base.WZ c oc u e),⟨λc u e t=>up c u (I.base.WR.st c u e t),I.base.WR.gr⟩⟩,I.loc,I.cell,?_,λx c e=>?_,λp hp=>?_,λc u e=>?_,I.len⟩
 ·have Wz:c≠b:=λz=>by
   rcases f3 with g|g
   ·exact hx (z ▸ g)
   ·exact absurd (zP (zY e) (z ▸ g)) (qF _)
  rw[aB Wz];exact I.base.free c oc e n hx
 ·rw[aB (jO f1)];exact I.free
 ·rw[aB (f4 x c e)];exact I.Wh x c e
 ·obtain⟨e,n,r⟩:=I.pin p hp;exact⟨e,by rw[aB (f5 p hp)];exact n,r⟩
 ·by_cases hc:c=b
  ·subst hc;rw[aF] at e;cases e;exact ho
  ·rw[aB hc] at e;exact (I.Wb c u e).WQ (λd w _ q=>q) (λd q=>up d _ q) λd w q _=>up d _ q
def sf(scope:Scope)(N':List Str)(p:Str):Bool:=scope.names.all (λq=>!decide (q.2=NameKind.cell))&&decide (N'[0]?=some p)&&decide (scope.names.lookup p=some .local)&&decide (scope.isCoroutine=false)&&decide (scope.isGenerator=false)
section
def Jf(C:Bk X N sc (k+3))(hA:eR (k+1) A)(hk:scope.kind=.function)(Xn:N'.Nodup)(hl:sf scope N' p=true):Bk (gE X A qual scope N' f c s H) N' scope k where
 n:=rfl
 nd:=Xn
 tb:=λx kd hx=>.inl hx
 calm:=rfl
 fn:=λx hx=>by
  unfold sf at hl;simp only[zF,xH,yQ,xC] at hl;exact absurd rfl (hl.1.1.1.1 _ (mem_of_lookup hx))
 room:=hA.deeper _
 xe:=rfl
 kd:=hk
structure r8(X:Cx)(qual:Str):Prop where
 ex:∃c P,X.env.code=.ref c/\X.env.qual++"<lambda>"=qual/\W.codeHdIn X.K c P=true/\∀HF,fK X.K HF->HF P=some (.tab qual)
def ie(te:Env->Option D)(ρ:Env):List D->Option (List D)
 | []=>some []
 | d::ds=>(te (ρ.set 0 (some d))).bind λx=>(ie te ρ ds).map (x::·)
def pX:∀ {ds ks:List D},ie te ρ ds=some ks->ks.length=ds.length
 | [],ks,h=>by cases h;rfl
 | d'::ds,ks,h=>by
  unfold ie at h;obtain⟨y,h1,h⟩:=bs h;obtain⟨ys,h2,rfl⟩:=ag h;simp[pX h2]
def uy:∀ {ds ks:List D}{i:Nat}{d:D},ie te ρ ds=some ks->ds[i]?=some d->∃x,te (ρ.set 0 (some d))=some x/\ks[i]?=some x
 | [],ks,i,d,h,e=>by simp at e
 | d'::ds,ks,i,d,h,e=>by
  unfold ie at h;obtain⟨y,h1,h⟩:=bs h;obtain⟨ys,h2,rfl⟩:=ag h;cases i with
  | zero=>simp at e;subst e;exact⟨y,h1,rfl⟩
  | succ i=>obtain⟨x,a,b⟩:=uy h2 (by simpa using e);exact⟨x,a,by simpa using b⟩
def rf(cs:List Nat)(fl te:Env->Option D):Env->Option (List D):=λρ=>(fl ρ).bind λl=>match l with
 | .list ds=>(ie te (fv 1 cs ρ) ds).bind λks=>(intsOf ks).bind λzs=>if ds.length < 64 then some (Bw (λi=>zs.getD i 0) ds .none) else none
 | _=>none
def Cd{K:W.Frag}{cs:List Nat}(eo:dq K HF ρ σ)(r:Rep K HF d v):dq K HF ((fv 1 cs ρ).set 0 (some d)) ((lU 1 cs σ).set 0 (some v)):=j7 (GV eo) r
def o4{K:W.Frag}:∀ {ks:List D}{zs:List Int}{WW:List V}{us:List Value},intsOf ks=some zs->ax K HF ks WW->aQ WW us->IntsAre us zs
 | [],zs,WW,us,h,r,v=>by
  cases h;rw[r.nil_inv] at v;cases v;exact .nil
 | d::ks,zs,WW,us,h,r,v=>by
  cases d<;>simp only[intsOf] at h<;>try cases h
  rename_i i;obtain⟨ys,h2,rfl⟩:=ag h;obtain⟨w,ws,rfl,a,b⟩:=r.cons_inv;simp only[Rep] at a;subst a;cases v with
  | cons r1 r2 =>
   obtain⟨t,rfl⟩:=r1;exact .cons i t (o4 h2 b r2)
def eK:∀ {us:List Value}{zs:List Int}{i:Nat},IntsAre us zs->i < us.length->∃t,us.getD i Value.none=.int (zs.getD i 0) t
 | _,_,i,.nil,h=>by simp at h
 | _,_,0,.cons n t r,h=>⟨t,rfl⟩
 | _,_,i+1,.cons n t r,h=>by
  obtain⟨t',e⟩:=eK (i:=i) r (by simpa using h);exact⟨t',by simpa using e⟩
variable {fl te:Env->Option D}{cs:List Nat}
def Bk.ack(C:Bk X N sc (k+3))(B:se X "sorted" (.builtin "sorted"))(L:r8 X qual)(ok:iZ sc scope N N' 1 cs=true)(hl:sf scope N' p=true)
  (hb:∀ (cl:List (Str×Addr)) (pm Xv u:Value) (c:Addr),bindArgs (W.kla_fn "<lambda>" qual params body scope cl pm (.ref c) Xv) ⟨[u],[]⟩=pure [(p,u)]) (Zt:defaultsOf params X.env=([],[])) (h:DE X l fl)
  (hY:∀A f c s H,Bk (gE X A qual scope N' f c s H) N' scope k->DE (gE X A qual scope N' f c s H) body te)
  (Xa:starEach [l] X.env=(false,eval l X.env)::starEach [] X.env) (he:backTo pos (starEach [l] X.env)=(false,eval l X.env)::backTo pos (starEach [] X.env)) (W5:(backTo pos (starEach [l] X.env)).any (·.1)=false) :
  DF X (.Call (.Name "sorted" p0) [l] [⟨some "key",.Lambda params body scope WK,XO⟩] pos) (rf cs fl te):=by
 obtain⟨S,_⟩:=C.comp ok;have Xn:N'.Nodup:=by
  unfold iZ at ok;simp only[zF,zJ] at ok;exact ok.2
 have hl':=hl;unfold sf at hl';simp only[zF,xH,yQ,xC,zJ] at hl';obtain⟨⟨⟨⟨ZJ,hN0⟩,hp⟩,YD⟩,Zr⟩:=hl';obtain⟨cc,P,XG,Zz,hhd,f7⟩:=L.ex;intro pins s σ H Q I ⟨HF,ρ,out,sm,eo,hf,q⟩;obtain⟨ld,hld,hf⟩:=bs hf;cases ld<;>try cases hf
 rename_i ds;obtain⟨ks,hks,hf⟩:=bs hf;obtain⟨zs,hzs,hf⟩:=bs hf;split at hf<;>cases hf;rename_i YN;refine qZ (ix I B.gl B.mg B.bt ?_ (by decide) (by decide));refine PyProof.Rows.callWith_kw (e:=l) (rest:=[]) (kws:=[⟨some "key",.Lambda params body scope WK,XO⟩]) ?_ he W5 rfl rfl;refine cM (AM h ET Xa pos pins s σ H _ I ⟨HF,ρ,[.list ds],sm,eo,by simp[aa,af,hld],λvs H1 Wa g1 r1=>(⟨Wa,g1,r1⟩:∃Wa,bX HF H Wa H1/\ax X.K Wa [.list ds] vs)⟩) λus s1 ⟨vs,H1,I1,rv,Wa,g1,r1⟩=>?_;obtain⟨v,vr,rfl,a1,b1⟩:=r1.cons_inv;rw[b1.nil_inv] at rv;obtain⟨u,rfl,rx⟩:=vals1 rv;simp only[Rep] at a1;obtain⟨la,ws,rfl,hq,rr⟩:=a1;cases rx;have hT1:H1 P=some (.tab qual):=g1.fh _ _ (f7 Wa (eo.tb.mono g1.ff));show wpAny _ _ (evalAll ((do let v <- eval (.Lambda params body scope WK) X.env;standAt pos;pure v)::[])) _ _ s1;refine wpAny_evalAll_cons (zV ?_);refine CK (P:=P) I1 S Zz XG (W.codeHd_of_K I1.ok.mod.kin hhd) hT1 I1.ok.mod.bmd Zt λf c' pm Xv s2 H2 I2 hfo Y3 Zs s12 fp2 _=>?_;refine zV (vI (zW (wpAny_evalAll_nil ?_)));show wpAny _ _ (call (.builtin "sorted") [.ref la] [(Str.ofString "key",.ref f)]) _ _ s2;have Ip:=I2.pinned (fp:=[f]) (λb hb=>by rw[List.mem_singleton.mp hb];exact fp2) (λb hb=>by rw[List.mem_singleton.mp hb];exact⟨_,hfo,λv z=>by cases z⟩);have g2:bX Wa H1 Wa H2:=⟨s12,.refl _,g1.fh.trans s12,λ_ _ e=>.inl e⟩
 obtain⟨its,rvi,pl,hz⟩:=Ip.list (s12.seq (g1.fh.seq hq));have hlen:its.length=ds.length:=by rw[<- rvi.length,rr.length]
 have hkl:=pX hks;have hR:eR (k+1) X.A.in1.in1:=C.room.in1.in1;refine Yd.sortedK (vs:=its) Ip (by lia) (λ{Q'} hQ=>?_) (λus H'=>∃V9 WW,bX Wa H2 V9 H'/\ax X.K V9 (ks.take us.length) WW/\aQ WW us) ⟨Wa,[],.refl g2.fh,by simpa using ax.nil,.nil⟩ (λus x hx pl' s3 H3 I3 ⟨WL,WW,g3,rk,rvk⟩=>?_) λus H3 hu ⟨WL,WW,g3,rk,rvk⟩=>?_
 ·refine collect_list pl.isList (hQ _ λb o e=>?_) (by rw[qV];lia);exact (xO _ _ (jJ (zY e))).trans (zU _ e)
 ·have hi:us.length < its.length:=(List.getElem?_eq_some_iff.mp hx).1;obtain⟨w,hw⟩:∃w,ws[us.length]?=some w:=⟨_,zK (by rw[rvi.length];exact hi)⟩
  obtain⟨x',X4,YJ⟩:=rvi.get hw;rw[hx] at X4;cases X4;obtain⟨d,hd,rd⟩:=rr.get hw;obtain⟨kd,hkd,hki⟩:=uy hks hd;have abd:s3.heap.get? f=some (W.kla_obj "<lambda>" qual params body scope (fQ X.env scope.names []) pm c' Xv) :=
   (I3.pin (f,_) (yE _ (qK _ (yE _ (ej zE hfo))))).1
  refine xB (CH (Q:=λv H4=>∃Xd,bX WL H3 Xd H4/\Rep X.K Xd kd v) (te:=tD X.K te) I3 hR I3.ok.frames S ZJ hN0 hp Xn YD Zr abd (g3.hh _ _ Zs) (hb _ _ _ _ _) YJ (hY _ _ _ _ _ (Jf C hR S.kind Xn hl))
   ⟨WL,_,kd,g3.fh,Cd (eo.mono (g1.ff.trans g3.ff)) (rd.mono g3.ff),hkd,λv H4 Xd g4 r4=>⟨Xd,g4,r4⟩⟩) (λu s4 ⟨v4,H4,I4,r4,Xd,g4,rp⟩=>⟨H4,I4,Xd,WW++[v4],g3.trans g4,?_,rvk.append (.cons r4 .nil)⟩) λ_ _ e=>e
  rw[zN,xD,List.take_add_one,hki];exact (rk.mono g4.ff).append (ax.cons rp ax.nil)
 ·have Ww:ks.take us.length=ks:=kN (by lia);rw[Ww] at rk;have ia:=o4 hzs rk rvk;refine⟨λi=>zs.getD i 0,oneType',λh2 s3 I3=>⟨λQ' q'=>?_,λi j Cc hi hj q'=>?_⟩,λs3 Dn c I3 fD e=>?_⟩
  ·rw[PyProof.Rows.ksk_kind (keys:=us.toArray) (kz:=zs) (by simpa using ia) (by simpa [hu] using h2)];exact zW q'
  ·obtain⟨t1,e1⟩:=eK ia (i:=i) (by lia);obtain⟨t2,e2⟩:=eK ia (i:=j) (by lia);unfold W.kas_ask;rw[e1,e2];exact W.kat_lt_int q'
  ·have hv:=De (λi=>zs.getD i 0) rvi;have hr:=BI (λi=>zs.getD i 0) rr;have hnD:H3 Dn=none:=fD.1;have I4:=Inv.acj (o:=.lst (Bw (λi=>zs.getD i 0) ws .V6)) I3 fD ⟨by rw[(oR _ _ _).length_eq];exact hz,_,c,hv,e⟩;have G:=(g1.trans g2).trans g3;refine⟨.ref Dn,_,I4.Wi,rfl,q Dn _ _ WL (G.trans (.own G.fh hnD)) (G.hh.free hnD) (G.fh.free hnD) aF (hr.mono g3.ff)⟩
end
end Dl
namespace Yd
open PySem PySem.W PySem.Calls PyProof.Rows L2
section
end
section
end
end Yd
namespace Dl
open PySem L2 PySem.Spec PyProof.Rows
section
variable {cs:List Nat}
end
section
def UE(i j l:Nat):Env->D->Option Env:=λρ d=>match d with
 | .tuple [x,y,z]=>if isFree ρ i=true/\isFree ρ j=true/\isFree ρ l=true then some (((ρ.set i (some x)).set j (some y)).set l (some z)) else none
 | _=>none
def Jj(i j l:Nat)(hc:X.calm=true)(hN:X.N.Nodup)(hi:X.N[i]?=some x)(hx:Loc X.env.scope x)(hj:X.N[j]?=some y)(hy:Loc X.env.scope y)(hl:X.N[l]?=some z)(hz:Loc X.env.scope z)
  (hf:X.fn x=true\/X.env.scope.names.lookup x=some .local) (ZK:X.fn y=true\/X.env.scope.names.lookup y=some .local) (ad8:X.fn z=true\/X.env.scope.names.lookup z=some .local) :
  DG X (.Tuple [.Name x px,.Name y py,.Name z pz] k pos) (UE i j l) :=
 uX (tN hc (cY (dm hN hi hx hf) (cY (dm hN hj hy ZK) (cY (dm hN hl hz ad8) pI)))) λv σ H Q ⟨HF,ρ,d,ρ',sm,eo,r,hf,q⟩=>by
  unfold UE at hf;split at hf
  ·rename_i x' y' z';split at hf
   ·rename_i hh;cases hf;simp only[Rep] at r;obtain⟨a,vs,rfl,hs,rr⟩:=r;obtain⟨v1,r1,rfl,a1,b1⟩:=rr.cons_inv;obtain⟨v2,r2,rfl,a2,b2⟩:=b1.cons_inv;obtain⟨v3,r3,rfl,a3,b3⟩:=b2.cons_inv;rw[b3.nil_inv] at hs;exact⟨a,_,rfl,aG sm hs,rfl,v1,_,rfl,v2,_,rfl,v3,_,rfl,rfl,q _ (j7 (j7 (j7 eo a1) a2) a3) (mV (mV (mV eo hh.1) hh.2.1) hh.2.2)⟩
   ·cases hf
  ·cases hf
end
section
end
section
def tZ(d:D):List D->Option Nat
 | []=>none
 | x::xs=>if PyData.eqv x d=true then some 0 else (tZ d xs).map (·+1)
def yb:∀ {xs:List D}{j:Nat},tZ d xs=some j->j < xs.length/\(∀x,xs[j]?=some x->PyData.eqv x d=true)/\∀m,m < j->∀x,xs[m]?=some x->PyData.eqv x d=false
 | [],j,h=>by cases h
 | x::xs,j,h=>by
  unfold tZ at h;split at h
  ·cases h;rename_i e;exact⟨Nat.succ_pos _,λy hy=>by cases hy;exact e,λm hm=>absurd hm (vX _)⟩
  ·rename_i e;obtain⟨k,hk,rfl⟩:=ag h;obtain⟨a,b,c⟩:=yb hk;refine⟨by simpa using a,λy hy=>b y (by simpa using hy),λm hm y hy=>?_⟩;cases m with
   | zero=>cases hy;simpa using e
   | succ m=>exact c m (by lia) y (by simpa using hy)
def IR(hu:X.A.units+66 < cLine):Qd X "list.index" (λx vs H Q=>∃ (HF:Hp) (ds:List D) (d:D) (y:V) (j:Nat),aS HF H/\Rep X.K HF (.list ds) x/\vs=[y]/\Rep X.K HF d y/\SeqAt.shaped d=true/\SeqAt.shaped (.list ds)=true/\ds.length<=sizeLine/\tZ d ds=some j/\Q (.int j) H):=by
 intro pins s σ H x vs v us Q I rx rv h;obtain⟨HF,ds,d,y,j,sm,r1,rfl,r2,hd,hl,hz,hj,q⟩:=h;obtain⟨u,rfl,ru⟩:=rv.one;obtain⟨as,ra⟩:=e8 I sm r1 rx;obtain⟨bs,rb⟩:=e8 I sm r2 ru;have c1:=kM hd;have c2:=kM hl;have d1:=SeqAt.depth_of_shaped hd;simp only[PyData.canLay0] at c2;have m:=Nat.min_le_right (PyData.depthAll ds) d.depth;obtain⟨hj1,hj2,hj3⟩:=yb hj;cases ra with
 | list h1 h2 h3 h4 =>
  rename_i l o its n as;obtain⟨cls,dd,data,sl⟩:=o;simp only at h2 h3;subst h2 h3;have hm:=SeqAt.readsAll_map _ _ _ c2 h4;have hlen:its.size=ds.length:=by rw[<- hm];simp
  have adT:(sizeLine:Nat) < 2 ^ 62:=by decide
  have at_:∀m (hm:m < its.size),ds[m]?=some (SeqAt.readOf s.heap its[m]):=λm Xu=>by
   rw[<- hm,zO,Array.getElem?_toList,kA Xu];rfl
  refine qY F.slot_list_index ⟨_,h1,rfl⟩ F.entry_list_index (F.args_list_index_2 _ _) (PySem.SeqAt.list_indexAt l its n dd sl u (λy=>PyData.eqv (SeqAt.readOf s.heap y) d) j (by rw[hlen];exact hj1) (by lia) ?_ ?_) ⟨h1,?_,?_⟩
  ·exact hj2 _ (at_ j (by rw[hlen];exact hj1))
  ·intro m Xu hmj;exact hj3 m hmj _ (at_ m Xu)
  ·exact SeqAt.items_eqAt h4 rb c2 c1 (by lia)
  ·exact⟨.int j,H,I.tok _,⟨_,rfl⟩,q⟩
end
section
end
section
def nR(i j:Nat)(fz:List Nat)(f:Env->Option D):ar->Option Out:=λρ=>(f (bV (hand fz 0 ρ))).bind λd=>match d with
 | .tuple [x,y]=>some (.nx (((if gC (.tuple [x,y])=true then ρ else hand fz 0 ρ).set i (.val x)).set j (.val y)))
 | _=>none
def Jg:Expr->Bool
 | .Call ..=>true
 | .Subscript ..=>true
 | _=>false
def Kv(i j:Nat)(fz:List Nat)(hc:X.calm=true)(hN:X.N.Nodup)(hi:X.N[i]?=some x)(hx:Loc X.env.scope x)(hj:X.N[j]?=some y)(hy:Loc X.env.scope y)(hp:Jg e=true)(he:DE X e f)
  (h1:X.fn x=true\/X.env.scope.names.lookup x=some .local) (h2:X.fn y=true\/X.env.scope.names.lookup y=some .local):DS X V7 V8 (.Assign [.Tuple [.Name x px,.Name y py] m pt] e pos) (nR i j fz f) :=
 cO (EH he (tN hc (cY (dm hN hi hx h1) (cY (dm hN hj hy h2) pI))) (by cases e<;>first|rfl|cases hp) (by cases e<;>first|rfl|cases hp)) λE σ H ⟨HF,ρ,o,S,hg,q⟩=>by
  unfold nR at hg;obtain⟨d,h,hg⟩:=bs hg;split at hg
  ·rename_i u v;cases hg;obtain⟨Wa,s1,S1⟩:=S.hand fz;refine⟨Wa,_,.tuple [u,v],S1.gr.fh,S1.WX,h,λw H' V9 G r=>?_⟩;simp only[Rep] at r;obtain⟨a,vs,rfl,hs,rr⟩:=r;obtain⟨v1,r1,rfl,a1,b1⟩:=rr.cons_inv;obtain⟨v2,r2,rfl,a2,b2⟩:=b1.cons_inv;rw[b2.nil_inv] at hs;refine⟨a,_,rfl,aG G.fh hs,rfl,v1,_,rfl,v2,_,rfl,rfl,?_⟩;by_cases hn:gC (.tuple [u,v])=true
   ·rw[yM hn] at q;obtain⟨Wu,s2,S2,hb⟩:=S.back S1 s1 G;simp only[gC,qt,zF,Bool.and_true] at hn;exact q _ H' Wu ((S2.WM (hb u v1 hn.1 a1)).WM (hb v v2 hn.2 a2)) s2
   ·rw[yO hn] at q;exact q _ H' V9 (((S1.grow G).WM a1).WM a2) (s1.trans G.ff)
  ·cases hg
end
section
end
section
end
section
end
structure Vs(h:Heap)(v:Value)(r:List Int):Prop where
 ex:∃ (a:Addr) (o:Obj) (n:Nat) (p:Value) (x y m:Int) (t:Tok),v=.ref a/\r=[x,y,m]/\h.get? a=some o/\o.cls=.type "tuple"/\o.data=.seq #[p,.int m t] n/\m7 h p [x,y]
def rz:∀ {us:List Value}{ns ms:List Int},IntsAre us ns->IntsAre us ms->ns=ms
 | [],_,_,.nil,.nil=>rfl
 | _,_,_,.cons n t r,.cons _ _ r2=>by rw[rz r r2]
def LO:∀ {ns ms:List Int},((List.range (min ns.length ms.length)).all (λj=>ns.getD j 0 == ms.getD j 0)&&ns.length == ms.length)=decide (ns=ms):=λ{ns ms}=>by
 by_cases e:ns=ms
 ·subst e;rw[yA rfl];simp
 ·rw[zZ e];refine Bool.eq_false_iff.mpr λh=>e ?_;rw[zF,xH,vQ] at h;refine jI h.2 λj h1 h2=>?_;have:=h.1 j (by simp;lia);simpa [h1,h2] using this
section
def QT(hp:m7 s.heap p ns)(hq:m7 s.heap q ms)(hu:A.units < cLine):SeqAt.EqAt A s p q (decide (ns=ms)):=by
 obtain⟨a,o,its,n,rfl,e1,e2,e3,e4⟩:=hp.ex;obtain⟨b,o',its',n',rfl,f1,f2,f3,f4⟩:=hq.ex;by_cases Xf:a=b
 ·subst Xf;rw[e1] at f1;cases f1;rw[e3] at f3;cases f3;rw[rz e4 f4,yA rfl];exact SeqAt.EqAt.same _
 ·refine SeqAt.EqAt.of_refs Xf ?_;have l1:its.size=ns.length:=by have:=wI e4;simpa using this
  have l2:its'.size=ms.length:=by have:=wI f4;simpa using this
  have:=SeqAt.RcAt.tuples (A:=A) (s:=s) (e:=λj=>ns.getD j 0 == ms.getD j 0) ⟨o,e1,e2,n,e3⟩ ⟨o',f1,f2,n',f3⟩ hu λj h1 h2=>by
   obtain⟨t1,g1⟩:=eK e4 (i:=j) (by simpa using h1);obtain⟨t2,g2⟩:=eK f4 (i:=j) (by simpa using h2);have k1:its[j]=.int (ns.getD j 0) t1:=by rw[<- g1];simp[h1]
   have k2:its'[j]=.int (ms.getD j 0) t2:=by rw[<- g2];simp[h2]
   rw[k1,k2];exact SeqAt.EqAt.int_int _ _ _ _
  rw[l1,l2,LO] at this;exact this
end
section
end
end Dl
namespace HT
open PySem PyProof.Rows
section
open PySem.SeqAt
open PySem.AutoSeq1 (wpAny_loadPart')
open PySem.MeetsSeq PySem.MeetsSeq2 PySem.MeetsSeq3
end
end HT
namespace Dl
open PySem L2 PySem.Spec PyProof.Rows
variable {J:Hp->Prop}{KR:Nat->Value->Hp->Prop}
def bT(nss:List (List Int))(i j:Nat):Bool:=lexLt (nss.getD i []) (nss.getD j [])
section
def Pa(hp:m7 s.heap p ns)(hq:m7 s.heap q ms)(hu:A.units < cLine)(h:Q (.bool (lexLt ns ms)) s):wpAny (model prog w) A (richCompare .Lt p q) Q E s:=by
 obtain⟨a,o,its,n,rfl,e1,e2,e3,e4⟩:=hp.ex;obtain⟨b,o',its',n',rfl,f1,f2,f3,f4⟩:=hq.ex;exact HT.EA ⟨o,e1,e2,n,e3⟩ ⟨o',f1,f2,n',f3⟩ e4 f4 hu h
end
section
def gF:List D->Option (List (List Int))
 | []=>some []
 | d::r=>(fZ d).bind λns=>(gF r).map (ns::·)
def vc:∀ {ds:List D}{nss:List (List Int)},gF ds=some nss->ds=nss.map ah
 | [],nss,h=>by cases h;rfl
 | d::r,nss,h=>by
  obtain⟨ns,h1,h⟩:=bs h;obtain⟨rest,h2,rfl⟩:=ag h;rw[eU h1,vc h2];rfl
def zf:∀ (nss:List (List Int)),gF (nss.map ah)=some nss
 | []=>rfl
 | ns::r=>by
  have h:fZ (ah ns)=some ns:=bS ns;simp only[zI,gF,h,zA,zf r,zB]
end
def bZ.of(h:bZ X pins H b)(hn:H' b=none):bZ X pins H' b:=⟨hn,h.2⟩
def jn{t:Nat}(I:Inv X pins σ H s)(f:bZ X pins H it)(k:∀b o,b≠it->s.heap.get? b=some o->h'.get? b=some o):Inv X pins σ H { s with heap:=h',toks:=t } :=
 I.turned k f.1 f.2.1 f.2.2.2.1 f.2.2.2.2.1 f.2.2.2.2.2
section
def Bf(hu:A.in1.units < cLine)(hh:A.in1.handled=none){f I S l:Addr}{xs:List V}{nss:List (List Int)}(ZN:l≠I)(YG:S≠I)(hSl:S≠l)(hJl:∀H,J H->iw X.K H l xs)
  (step:∀j x v,xs[j]?=some x->RelV x v->∀pl s H,Inv X (pins++pl) σ H s->J H->wpAny (model X.prog X.w) A.in1 (call (.ref f) [v]) (λu s'=>∃H',Inv X (pins++pl) σ H' s'/\J H'/\KR j u H'/\∀i u0,KR i u0 H->KR i u0 H') (λ_ _=>False) s)
  (row:∀i u H s pl,Inv X (pins++pl) σ H s->KR i u H->m7 s.heap u (nss.getD i [])) {R:Result->Shared->Prop} :
  ∀ (k j:Nat) (s:Shared) (H:Hp) (vi vk:Value) (c:Nat),xs.length - (j+1)=k->j+1<=xs.length->Inv X pins σ H s->bZ X pins H I->bZ X pins H S->J H->s.heap.IsListIter I l (j+1) ->
   (∃x,xs[PySem.argBest (bT nss) j]?=some x/\RelV x vi)->KR (PySem.argBest (bT nss) j) vk H ->
   s.heap.get? S=some { cls:=.type "list",dict:=none,data:=.seq #[vi,vk] c,slots:=#[] } ->
   (∀v x s' H',xs[PySem.argBest (bT nss) (xs.length - 1)]?=some x->RelV x v->Inv X pins σ H' s'->J H'->R (.ok (.ret v)) s') ->
   codeAny (model X.prog X.w) A (.builtin "min.loop" ⟨[.ref I,.ref f,.ref S],[]⟩) R s:=by
 have WA:(toString "min"++toString ".loop":String)="min.loop":=by decide
 intro k
 induction k with
 | zero =>
  intro j s H vi vk c hk hj I0 fI fS hJ hit hb hK hS hR;obtain⟨its,rv,pl0,hz⟩:=I0.list (hJl H hJ);have hln:=rv.length;have W:=Walks.list (prog:=X.prog) (w:=X.w) (A:=A.in1) hh I l ZN its.toArray;have vsz:its.toArray.size=its.length:=by simp
  refine kH F.entry_min_loop ?_;rw[Around.under_plainId F.plain_min_loop _];show wpAny _ A.in1 (seqItems? (.ref S) >>= _) _ _ s;refine zV (kK hS rfl ?_);show wpAny _ A.in1 (tryCatch (pyNext (.ref I)) _ >>= _) _ _ s;have Xa:s.heap.IsListIter I l its.toArray.size/\s.heap.IsList l its.toArray:=⟨by rw[vsz,<- hln,show xs.length=j+1 by lia];exact hit,pl0.isList⟩
  refine zV (wpAny_tryCatch (W.done s _ _ Xa λh' tk Ww=>?_));have XH:=Ww S _ (by simp[YG]) hS;show wpAny _ A.in1 (updateSeq S (λ_=>#[]) >>= _) _ _ _;refine zV ?_;refine wpAny_updateSeq XH rfl (zV (wpAny_letGo (zW ?_)));obtain⟨x,hx,rx⟩:=hb;have I1:Inv X pins σ H { s with heap:=h',toks:=tk }:=jn I0 fI λb o n e=>Ww b o (by simpa using n) e;exact hR vi x _ H (by rw[show xs.length - 1=j by lia];exact hx) rx (jn (t:=tk) I1 fS λb o n e=>(xO _ _ (jO n)).trans e) hJ
 | succ k ih =>
  intro j s H vi vk c hk hj I0 fI fS hJ hit hb hK hS hR;obtain⟨its,rv,pl0,hz⟩:=I0.list (hJl H hJ);have hln:=rv.length;have W:=Walks.list (prog:=X.prog) (w:=X.w) (A:=A.in1) hh I l ZN its.toArray;have vsz:its.toArray.size=its.length:=by simp
  have Wg:j+1 < xs.length:=by lia
  refine kH F.entry_min_loop ?_;rw[Around.under_plainId F.plain_min_loop _];show wpAny _ A.in1 (seqItems? (.ref S) >>= _) _ _ s;refine zV (kK hS rfl ?_);show wpAny _ A.in1 (tryCatch (pyNext (.ref I)) _ >>= _) _ _ s;refine zV (wpAny_tryCatch (W.item (j+1) s _ _ (by rw[vsz,<- hln];exact Wg) ⟨hit,pl0.isList⟩ λv h' tk hP X8 Ww=>?_));have XH:=Ww S _ (by simp[YG]) hS;have I1:Inv X pins σ H { s with heap:=h',toks:=tk }:=jn I0 fI λb o n e=>Ww b o (by simpa using n) e;have hv:its[j+1]?=some v:=by simpa using hP
  obtain⟨x,hx⟩:∃x,xs[j+1]?=some x:=⟨_,zK Wg⟩
  obtain⟨v',hv',rx⟩:=rv.get hx;rw[hv] at hv';cases hv';obtain⟨oI,ZO,cI,dI⟩:=X8.1;have Ip:=I1.pinned (fp:=[I,S]) (λb hb=>by
   rcases List.mem_cons.mp hb with rfl|hb
   ·exact fI
   ·rw[List.mem_singleton.mp hb];exact fS) (λb hb=>by
   rcases List.mem_cons.mp hb with rfl|hb
   ·exact⟨oI,ZO,λv z=>by rw[dI] at z;cases z⟩
   ·rw[List.mem_singleton.mp hb];exact⟨_,XH,λv z=>by cases z⟩)
  show wpAny _ A.in1 (tryCatch (holding [v] (call (.ref f) [v])) _ >>= _) _ _ _;refine zV (wpAny_tryCatch (xY (xB (step (j+1) x v hx rx _ _ H Ip hJ) (λu s2 ⟨H2,I2,J2,K2,kp2⟩=>?_) λ_ _ z=>z.elim)));obtain⟨gI,nI⟩:=Yd.WJ I2 (show I∈[I,S] from zE) ZO;obtain⟨gS,nS⟩:=Yd.WJ I2 (show S∈[I,S] from zC _ zE) XH;have r1:=row _ _ _ _ _ I2 K2;have r2:=row _ _ _ _ _ I2 (kp2 _ _ hK);have I3:=I2.Wi;have fI3:=bZ.of fI nI;have fS3:=bZ.of fS nS;have aea:s2.heap.IsListIter I l (j+1+1):=⟨oI,gI,cI,dI⟩
  show wpAny _ A.in1 (tryCatch (holding [v,u] (richCompare .Lt u vk >>= _)) _ >>= _) _ _ _;refine zV (wpAny_tryCatch (xY (zV (Pa r1 r2 hu ?_))));refine zV (xY (xX ?_));refine zV (wpAny_letGo (zW ?_));have ebt:lexLt (nss.getD (j+1) []) (nss.getD (PySem.argBest (bT nss) j) [])=bT nss (j+1) (PySem.argBest (bT nss) j):=rfl;rw[ebt];cases hbt:bT nss (j+1) (PySem.argBest (bT nss) j) with
  | true =>
   simp only[xI];refine zV ?_;refine wpAny_updateSeq gS rfl (zV (wpAny_letGo ?_));rw[WA];have kp:∀b o,b≠S->s2.heap.get? b=some o->(s2.heap.update S (Obj.mapSeq λ_=>#[v,u])).get? b=some o:=λb o n e=>(xO _ _ (jO n)).trans e;refine zW ⟨plainId_quiet F.plain_min_loop _,ih (j+1) _ H2 v u _ (by lia) (by lia) (jn (t:=s2.toks) I3 fS3 kp) fI3 fS3 J2 ⟨oI,kp I oI (jO YG) gI,cI,dI⟩ ?_ ?_ (Heap.get?_update_self _ gS rfl) hR⟩
   ·simp only[PySem.argBest,hbt,xI];exact⟨x,hx,rx⟩
   ·simp only[PySem.argBest,hbt,xI];exact K2
  | false =>
   simp only[yP,qQ];refine zV (wpAny_letGo ?_);rw[WA];refine zW ⟨plainId_quiet F.plain_min_loop _,ih (j+1) _ H2 vi vk c (by lia) (by lia) I3 fI3 fS3 J2 aea ?_ ?_ gS hR⟩
   ·simp only[PySem.argBest,hbt,yP,qQ];exact hb
   ·simp only[PySem.argBest,hbt,yP,qQ];exact kp2 _ _ hK
def Pp{Q:Value->Shared->Prop}{E:Value->Shared->Prop}{s:Shared}
  (hc:wpAny (model prog w) A.in1 (Builtin.«min» ⟨[l],[(Str.ofString "key",f)]⟩) (λfin s'=>match fin with
   | .done g=>(match (Except.ok g:Result) with|.ok (.ret v)=>Q v s'|.ok _=>False|.error e=>E e s')
   | .again c'=>c'.quiet=true/\codeAny (model prog w) A c' (λr s'=>match r with|.ok (.ret v)=>Q v s'|.ok _=>False|.error e=>E e s') s') E s) :
  wpAny (model prog w) A (call (.builtin "min") [l] [(Str.ofString "key",f)]) Q E s:=by
 refine vP (wL F.plain_min F.entry_min ?_);have e:checkBuiltinCall "min" ⟨[l],[(Str.ofString "key",f)]⟩=pure ():=by kernel_rfl
 rw[e];exact zW hc
def M6(hu:A.in1.units < cLine)(hh:A.handled=none){f l:Addr}{xs:List V}{nss:List (List Int)}{H:Hp}{s:Shared}{Q:Value->Shared->Prop}{E:Value->Shared->Prop}(I0:Inv X pins σ H s)(hJ:J H)(Xe:0 < xs.length)(hJl:∀H,J H->iw X.K H l xs)
  (step:∀j x v,xs[j]?=some x->RelV x v->∀pl s H,Inv X (pins++pl) σ H s->J H->wpAny (model X.prog X.w) A.in1 (call (.ref f) [v]) (λu s'=>∃H',Inv X (pins++pl) σ H' s'/\J H'/\KR j u H'/\∀i u0,KR i u0 H->KR i u0 H') (λ_ _=>False) s)
  (row:∀i u H s pl,Inv X (pins++pl) σ H s->KR i u H->m7 s.heap u (nss.getD i []))
  (h:∀v x s' H',xs[PySem.argBest (bT nss) (xs.length - 1)]?=some x->RelV x v->Inv X pins σ H' s'->J H'->Q v s') :
  wpAny (model X.prog X.w) A (call (.builtin "min") [.ref l] [(Str.ofString "key",.ref f)]) Q E s:=by
 have WA:(toString "min"++toString ".loop":String)="min.loop":=by decide
 obtain⟨its,rv,pl0,hz⟩:=I0.list (hJl H hJ);have hln:=rv.length;have hl:=pl0.isList;have Wg:l < s.heap.objs.size:=by obtain⟨_,e,_⟩:=hl;exact zY e
 refine Pp ?_;show wpAny _ A.in1 (Builtin.Builtins.bindParams "min" ["key","default"] 0 ⟨[],[(Str.ofString "key",.ref f)]⟩ >>= _) _ _ s;refine zV (wpAny_of_eq (show Builtin.Builtins.bindParams "min" ["key","default"] 0 ⟨[],[(Str.ofString "key",.ref f)]⟩=pure [some (.ref f),none] by kernel_rfl) ?_);refine zV (zW ?_);refine zV (qL hl ?_);refine zV (qM ?_);rw[WA];refine zW ⟨plainId_quiet F.plain_min_loop _,kH F.entry_min_loop ?_⟩;have ZM:(s.heap.push { cls:=.type "list_iterator",data:=.fields #[.ref l,.int 0 0] }).objs.size=s.heap.objs.size+1:=xK ..;have I1:=I0.kept (t':=s.toks) (h':=s.heap.push { cls:=.type "list_iterator",data:=.fields #[.ref l,.int 0 0] }) λb o e=>zU _ e;have fI:bZ X pins H s.heap.objs.size:=I0.Xc (yN _) I0.fresh;have it1:(s.heap.push { cls:=.type "list_iterator",data:=.fields #[.ref l,.int 0 0] }).IsListIter s.heap.objs.size l 0:=⟨_,zX _ rfl,rfl,rfl⟩
 have k1:∀b o,s.heap.get? b=some o->(s.heap.push { cls:=.type "list_iterator",data:=.fields #[.ref l,.int 0 0] }).get? b=some o:=λb o e=>zU _ e;generalize s.heap.push { cls:=.type "list_iterator",data:=.fields #[.ref l,.int 0 0] }=h1 at ZM I1 it1 k1;have k2:∀b o,h1.get? b=some o->(h1.push { cls:=.type "list",data:=.seq ([]:List Value).toArray }).get? b=some o:=λb o e=>zU _ e;have hS:(h1.push { cls:=.type "list",data:=.seq ([]:List Value).toArray }).get? h1.objs.size=some { cls:=.type "list",dict:=none,data:=.seq #[] 0,slots:=#[] }:=zX _ rfl;have fS:bZ X pins H h1.objs.size:=I1.Xc (yN _) I1.fresh;have I2:=I1.kept (t':=s.toks) k2;have YG:h1.objs.size≠s.heap.objs.size:=by rw[ZM];exact Nat.succ_ne_self _
 have hSl:h1.objs.size≠l:=by rw[ZM];exact jJ (jP Wg)
 have ZN:l≠s.heap.objs.size:=yS Wg;generalize h1.push { cls:=.type "list",data:=.seq ([]:List Value).toArray }=h2 at k2 hS I2;have W:=Walks.list (prog:=X.prog) (w:=X.w) (A:=A.in1) hh s.heap.objs.size l ZN its.toArray;have Yh:h2.IsListIter s.heap.objs.size l 0/\h2.IsList l its.toArray:=⟨it1.at λo e=>k2 _ _ e,hl.at λo e=>k2 _ _ (k1 _ _ e)⟩
 rw[Around.under_plainId F.plain_min_loop _];show wpAny _ A.in1 (seqItems? (.ref h1.objs.size) >>= _) _ _ { s with heap:=h2 };refine zV (kK hS rfl ?_);show wpAny _ A.in1 (tryCatch (pyNext (.ref s.heap.objs.size)) _ >>= _) _ _ { s with heap:=h2 };refine zV (wpAny_tryCatch (W.item 0 { s with heap:=h2 } _ _ (by simp;lia) Yh λv h' tk hP X8 Ww=>?_));have XH:=Ww h1.objs.size _ (by simp[YG]) hS;have I3:Inv X pins σ H { s with heap:=h',toks:=tk }:=jn (s:={ s with heap:=h2 }) I2 fI λb o n e=>Ww b o (by simpa using n) e;have hv:its[0]?=some v:=by simpa using hP
 obtain⟨x,hx⟩:∃x,xs[0]?=some x:=⟨_,zK Xe⟩
 obtain⟨v',hv',rx⟩:=rv.get hx;rw[hv] at hv';cases hv';obtain⟨oI,ZO,cI,dI⟩:=X8.1;have Ip:=I3.pinned (fp:=[s.heap.objs.size,h1.objs.size]) (λb hb=>by
  rcases List.mem_cons.mp hb with rfl|hb
  ·exact fI
  ·rw[List.mem_singleton.mp hb];exact fS) (λb hb=>by
  rcases List.mem_cons.mp hb with rfl|hb
  ·exact⟨oI,ZO,λv z=>by rw[dI] at z;cases z⟩
  ·rw[List.mem_singleton.mp hb];exact⟨_,XH,λv z=>by cases z⟩)
 show wpAny _ A.in1 (tryCatch (holding [v] (call (.ref f) [v])) _ >>= _) _ _ _;refine zV (wpAny_tryCatch (xY (xB (step 0 x v hx rx _ _ H Ip hJ) (λu s4 ⟨H4,I4,J4,K4,_⟩=>?_) λ_ _ z=>z.elim)));obtain⟨gI,nI⟩:=Yd.WJ I4 (show s.heap.objs.size∈[s.heap.objs.size,h1.objs.size] from zE) ZO;obtain⟨gS,nS⟩:=Yd.WJ I4 (show h1.objs.size∈[s.heap.objs.size,h1.objs.size] from zC _ zE) XH;have fI4:=bZ.of fI nI;have fS4:=bZ.of fS nS;show wpAny _ A.in1 (updateSeq h1.objs.size (λ_=>#[v,u]) >>= _) _ _ _;refine zV ?_;refine wpAny_updateSeq gS rfl ?_;rw[WA];have kp:∀b o,b≠h1.objs.size->s4.heap.get? b=some o->(s4.heap.update h1.objs.size (Obj.mapSeq λ_=>#[v,u])).get? b=some o:=λb o n e=>(xO _ _ (jO n)).trans e;exact zW ⟨plainId_quiet F.plain_min_loop _,Bf (A:=A) hu hh (nss:=nss) ZN YG hSl hJl step row _ 0 _ H4 v u _ rfl (by lia) (jn (t:=s4.toks) I4.Wi fS4 kp) fI4 fS4 J4 ⟨oI,kp _ oI (jO YG) gI,cI,dI⟩ ⟨x,hx,rx⟩ K4 (Heap.get?_update_self _ gS rfl) h⟩
end
def zg(cs:List Nat)(fl te:Env->Option D):Env->Option D:=λρ=>(fl ρ).bind λl=>match l with
 | .list ds=>(ie te (fv 1 cs ρ) ds).bind λks=>(gF ks).bind λnss=>ds[PySem.argBest (bT nss) (nss.length - 1)]?
 | _=>none
section
variable {fl te:Env->Option D}{cs:List Nat}
def Bk.aec(C:Bk X N sc (k+3))(B:se X "min" (.builtin "min"))(L:r8 X qual)(ok:iZ sc scope N N' 1 cs=true)(hl:sf scope N' p=true)
  (hb:∀ (cl:List (Str×Addr)) (pm Xv u:Value) (c:Addr),bindArgs (W.kla_fn "<lambda>" qual params body scope cl pm (.ref c) Xv) ⟨[u],[]⟩=pure [(p,u)]) (Zt:defaultsOf params X.env=([],[])) (h:DE X l fl)
  (hY:∀A f c s H,Bk (gE X A qual scope N' f c s H) N' scope k->DE (gE X A qual scope N' f c s H) body te)
  (Xa:starEach [l] X.env=(false,eval l X.env)::starEach [] X.env) (he:backTo pos (starEach [l] X.env)=(false,eval l X.env)::backTo pos (starEach [] X.env)) (W5:(backTo pos (starEach [l] X.env)).any (·.1)=false) :
  DE X (.Call (.Name "min" p0) [l] [⟨some "key",.Lambda params body scope WK,XO⟩] pos) (zg cs fl te):=by
 obtain⟨S,_⟩:=C.comp ok;have Xn:N'.Nodup:=by
  unfold iZ at ok;simp only[zF,zJ] at ok;exact ok.2
 have hl':=hl;unfold sf at hl';simp only[zF,xH,yQ,xC,zJ] at hl';obtain⟨⟨⟨⟨ZJ,hN0⟩,hp⟩,YD⟩,Zr⟩:=hl';obtain⟨cc,P,XG,Zz,hhd,f7⟩:=L.ex;intro pins s σ H Q I ⟨HF,ρ,out,sm,eo,hf,q⟩;obtain⟨ld,hld,hf⟩:=bs hf;cases ld<;>try cases hf
 rename_i ds;obtain⟨ks,hks,hf⟩:=bs hf;obtain⟨nss,XU,hf⟩:=bs hf;have hkr:=vc XU;refine qZ (ix I B.gl B.mg B.bt ?_ (by decide) (by decide));refine PyProof.Rows.callWith_kw (e:=l) (rest:=[]) (kws:=[⟨some "key",.Lambda params body scope WK,XO⟩]) ?_ he W5 rfl rfl;refine cM (AM h ET Xa pos pins s σ H _ I ⟨HF,ρ,[.list ds],sm,eo,by simp[aa,af,hld],λvs H1 Wa g1 r1=>(⟨Wa,g1,r1⟩:∃Wa,bX HF H Wa H1/\ax X.K Wa [.list ds] vs)⟩) λus s1 ⟨vs,H1,I1,rv,Wa,g1,r1⟩=>?_;obtain⟨v,vr,rfl,a1,b1⟩:=r1.cons_inv;rw[b1.nil_inv] at rv;obtain⟨u,rfl,rx⟩:=vals1 rv;simp only[Rep] at a1;obtain⟨la,ws,rfl,hq,rr⟩:=a1;cases rx;have hT1:H1 P=some (.tab qual):=g1.fh _ _ (f7 Wa (eo.tb.mono g1.ff));show wpAny _ _ (evalAll ((do let v <- eval (.Lambda params body scope WK) X.env;standAt pos;pure v)::[])) _ _ s1;refine wpAny_evalAll_cons (zV ?_);refine CK (P:=P) I1 S Zz XG (W.codeHd_of_K I1.ok.mod.kin hhd) hT1 I1.ok.mod.bmd Zt λf c' pm Xv s2 H2 I2 hfo Y3 Zs s12 fp2 _=>?_;refine zV (vI (zW (wpAny_evalAll_nil ?_)));show wpAny _ _ (call (.builtin "min") [.ref la] [(Str.ofString "key",.ref f)]) _ _ s2;have Ip:=I2.pinned (fp:=[f]) (λb hb=>by rw[List.mem_singleton.mp hb];exact fp2) (λb hb=>by rw[List.mem_singleton.mp hb];exact⟨_,hfo,λv z=>by cases z⟩);have g2:bX Wa H1 Wa H2:=⟨s12,.refl _,g1.fh.trans s12,λ_ _ e=>.inl e⟩
 have hkl:=pX hks;have hnl:nss.length=ds.length:=by have:=jD List.length hkr;rw[zD] at this;lia
 have hR:eR (k+1) X.A.in1:=C.room.in1.mono (by lia);have YL:=rr.length;obtain⟨hb1,hb2⟩:=List.getElem?_eq_some_iff.mp hf;refine M6 (nss:=nss) (xs:=ws) (J:=λH'=>∃V9,bX Wa H2 V9 H') (KR:=λi u H'=>∃V9 kv,aS V9 H'/\Rep X.K V9 (ah (nss.getD i [])) kv/\RelV kv u)
  (by show X.A.units+1 < cLine;have:=C.room.un;lia) C.room.hd Ip ⟨Wa,.refl g2.fh⟩ (by lia) (λH' ⟨V9,g'⟩=>g'.fh.seq (g'.ff.seq hq)) (λj x w hx YJ pl' s3 H3 I3 ⟨WL,g3⟩=>?_) (λi u H' s' pl' I' ⟨V9,kv,sm',rp,rl⟩=>?_) λw x s' H' hx rx I' ⟨V9,g'⟩=>?_
 ·obtain⟨d,hd,rd⟩:=rr.get hx;obtain⟨kd,hkd,hki⟩:=uy hks hd;have hkj:kd=ah (nss.getD j []):=by
   rw[hkr,zO] at hki;rw[zG];obtain⟨z,hz,rfl⟩:=ag hki;rw[hz];rfl
  have abd:s3.heap.get? f=some (W.kla_obj "<lambda>" qual params body scope (fQ X.env scope.names []) pm c' Xv) :=
   (I3.pin (f,_) (yE _ (qK _ (yE _ (ej zE hfo))))).1
  exact xB (CH (Q:=λv H4=>∃Xd,bX WL H3 Xd H4/\Rep X.K Xd kd v) (te:=tD X.K te) I3 hR I3.ok.frames S ZJ hN0 hp Xn YD Zr abd (g3.hh _ _ Zs) (hb _ _ _ _ _) YJ (hY _ _ _ _ _ (Jf C hR S.kind Xn hl))
   ⟨WL,_,kd,g3.fh,Cd (eo.mono (g1.ff.trans g3.ff)) (rd.mono g3.ff),hkd,λv H4 Xd g4 r4=>⟨Xd,g4,r4⟩⟩) (λu s4 ⟨v4,H4,I4,r4,Xd,g4,rp⟩=>⟨H4,I4,⟨Xd,g3.trans g4⟩,⟨Xd,v4,g4.fh,hkj ▸ rp,r4⟩,λi u0 ⟨HF5,kv,sm5,rp5,rl5⟩=>⟨HF5,kv,sm5.trans g4.hh,rp5,rl5⟩⟩) λ_ _ e=>e
 ·have:=oH I' sm' (nss:=[nss.getD i []]) (ax.cons rp ax.nil) (.cons rl .nil);cases this with
  | cons a _=>exact a
 ·obtain⟨d,hd,rd⟩:=rr.get hx;rw[YL,<- hnl] at hd;rw[hf] at hd;cases hd;exact⟨x,H',I'.Wi,rx,q x H' V9 ((g1.trans g2).trans g') (rd.mono g'.ff)⟩
end
section
def Fi:List D->Option D
 | [.int a]=>some (.int (if a < 0 then -a else a))
 | _=>none
def C2:ft X (.builtin "abs") (λxs H Q=>∃a:Int,xs=[.int a]/\Q (.int (if a < 0 then -a else a)) H):=by
 intro pins s σ H xs us Q I r h;obtain⟨a,rfl,q⟩:=h;cases r with
 | cons r1 r =>
  cases r;obtain⟨t,rfl⟩:=r1;exact call_abs_int λu tk=>⟨.int (if a < 0 then -a else a),H,I.tok tk,⟨_,rfl⟩,q⟩
def Pr(B:se X "abs" (.builtin "abs"))(ha:DA X [e] fs)(he:starEach [e] X.env=(false,eval e X.env)::starEach [] X.env:=by rfl):DE X (.Call (.Name "abs" p) [e] [] pos) (ba Fi fs) :=
 ju C2 (by
  intro HF H ds vs d Q sm r hg q;unfold Fi at hg;split at hg
  ·cases hg;obtain⟨v1,r1,rfl,a1,b1⟩:=r.cons_inv;rw[b1.nil_inv];simp only[Rep] at a1;exact⟨_,by rw[a1],q _ H HF (.refl sm) (by simp[Rep])⟩
  ·cases hg) B ha (by decide) (by decide) he rfl
end
section
def FR:Expr->Bool
 | .Call ..=>true
 | .Subscript ..=>true
 | .Name ..=>true
 | _=>false
def pV(i j l:Nat)(fz:List Nat)(f:Env->Option D):ar->Option Out:=λρ=>(f (bV (hand fz 0 ρ))).bind λd=>match d with
 | .tuple [x,y,z]=>some (.nx ((((if gC (.tuple [x,y,z])=true then ρ else hand fz 0 ρ).set i (.val x)).set j (.val y)).set l (.val z)))
 | _=>none
def LL(i j l:Nat)(fz:List Nat)(hc:X.calm=true)(hN:X.N.Nodup)(hi:X.N[i]?=some x)(hx:Loc X.env.scope x)(hj:X.N[j]?=some y)(hy:Loc X.env.scope y)(hl:X.N[l]?=some z)(hz:Loc X.env.scope z)(hp:FR e=true)(he:DE X e f)
  (h1:X.fn x=true\/X.env.scope.names.lookup x=some .local) (h2:X.fn y=true\/X.env.scope.names.lookup y=some .local) (h3:X.fn z=true\/X.env.scope.names.lookup z=some .local):DS X V7 V8 (.Assign [.Tuple [.Name x px,.Name y py,.Name z pz] m pt] e pos) (pV i j l fz f) :=
 cO (EH he (tN hc (cY (dm hN hi hx h1) (cY (dm hN hj hy h2) (cY (dm hN hl hz h3) pI)))) (by cases e<;>first|rfl|cases hp) (by cases e<;>first|rfl|cases hp)) λE σ H ⟨HF,ρ,o,S,hg,q⟩=>by
  unfold pV at hg;obtain⟨d,h,hg⟩:=bs hg;split at hg
  ·rename_i u v t;cases hg;obtain⟨Wa,s1,S1⟩:=S.hand fz;refine⟨Wa,_,.tuple [u,v,t],S1.gr.fh,S1.WX,h,λw H' V9 G r=>?_⟩;simp only[Rep] at r;obtain⟨a,vs,rfl,hs,rr⟩:=r;obtain⟨v1,r1,rfl,a1,b1⟩:=rr.cons_inv;obtain⟨v2,r2,rfl,a2,b2⟩:=b1.cons_inv;obtain⟨v3,r3,rfl,a3,b3⟩:=b2.cons_inv;rw[b3.nil_inv] at hs;refine⟨a,_,rfl,aG G.fh hs,rfl,v1,_,rfl,v2,_,rfl,v3,_,rfl,rfl,?_⟩;by_cases hn:gC (.tuple [u,v,t])=true
   ·rw[yM hn] at q;obtain⟨Wu,s2,S2,hb⟩:=S.back S1 s1 G;simp only[gC,qt,zF,Bool.and_true] at hn;exact q _ H' Wu (((S2.WM (hb u v1 hn.1 a1)).WM (hb v v2 hn.2.1 a2)).WM (hb t v3 hn.2.2 a3)) s2
   ·rw[yO hn] at q;exact q _ H' V9 ((((S1.grow G).WM a1).WM a2).WM a3) (s1.trans G.ff)
  ·cases hg
end
end Dl
namespace HT
open PySem PyProof.Rows
inductive mf(A:Around)(s:Shared):List Value->List Value->Bool->Prop
 | abf:mf A s [] [] false
 | short {y:Value}{ys:List Value}:mf A s [] (y::ys) true
 | long {x:Value}{xs:List Value}:mf A s (x::xs) [] false
 | same {x y:Value}{xs ys:List Value}{b:Bool}:SeqAt.EqAt A s x y true->mf A s xs ys b->mf A s (x::xs) (y::ys) b
 | diff {x y:Value}{xs ys:List Value}{b:Bool}:SeqAt.EqAt A s x y false->(∀ (prog:Program) (w:World) (E Q:Value->Shared->Prop),Q (.bool b) s->wpAny (model prog w) A (richCompare .Lt x y) Q E s)->mf A s (x::xs) (y::ys) b
section
open PySem.SeqAt
open PySem.AutoSeq1 (wpAny_loadPart')
open PySem.MeetsSeq PySem.MeetsSeq2 PySem.MeetsSeq3
def Bh(l b:Addr)(items Wc:Array Value)(n n2:Nat)(dd XR:Option Addr)(sl XC:Array (Option Value))(bl:Bool) :
  Meets (Builtin.«tuple.__lt__» ⟨[.ref l,.ref b],[]⟩)
   (λA R s=>s.heap.get? l=some { cls:=.type "tuple",dict:=dd,data:=.seq items n,slots:=sl }/\s.heap.get? b=some { cls:=.type "tuple",dict:=XR,data:=.seq Wc n2,slots:=XC } /\
    mf A.in1 s items.toList Wc.toList bl/\R (.ok (.ret (.bool bl))) s) :=
 .of_wp λprog w A R s h=>by
  obtain⟨hp,g,d,tk,os⟩:=s;obtain⟨hl,hb,hx,h⟩:=h;have f2:=AutoSeq1.sub_tuple_tuple
  wp_walk using wpAny_loadPart' hl,wpAny_loadPart' hb,wpAny_forIn_list _ (λrest b s'=>b.1=none/\s'=⟨hp,g,d,tk,os⟩/\∃ (vs ws:List Value),rest=vs.zip ws /\
   mf A.in1 ⟨hp,g,d,tk,os⟩ vs ws bl/\vs.length+Wc.size=ws.length+items.size) _
  case turn =>
   rintro⟨y,x⟩ rest b s' ⟨W6,rfl,vs,ws,hz,hlx,hlen⟩;cases hlx with
   | abf=>cases hz
   | short=>cases hz
   | long=>cases hz
   | same he acq =>
    rw[List.zip_cons_cons] at hz;injection hz with hyx XD
    injection hyx with hy X4
    subst hy X4;simp only[zL] at hlen;refine zV (he prog w _ _ ?_)
    wp_walk
    exact⟨rfl,rfl,_,_,XD,acq,by lia⟩
   | diff he hri =>
    rw[List.zip_cons_cons] at hz;injection hz with hyx XD
    injection hyx with hy X4
    subst hy X4;simp only[zL] at hlen;refine zV (he prog w _ _ ?_);have hri:=hri prog w
    wp_walk using hri
    exact⟨_,rfl,by simpa using h⟩
  case fin =>
   rintro⟨b1,b2⟩ s' ⟨W6,rfl,vs,ws,hz,hlx,hlen⟩;simp only at W6;subst W6;have hv:bl=decide (items.size < Wc.size):=by
    cases hlx with
    | abf =>
     simp only[xM] at hlen;exact (zZ (by lia)).symm
    | short =>
     simp only[xM,zL] at hlen;exact (yA (by lia)).symm
    | long =>
     simp only[xM,zL] at hlen;exact (zZ (by lia)).symm
    | same he acq =>
     rw[List.zip_cons_cons] at hz;cases hz
    | diff he hri =>
     rw[List.zip_cons_cons] at hz;cases hz
   rw[hv] at h
   wp_walk
   exact⟨_,rfl,by simpa [Builtin.Tuple.tupleCompareSizes] using h⟩
  case h =>
   exact⟨rfl,rfl,items.toList,Wc.toList,rfl,hx,by simp;lia⟩
end
section
def Iy{items:Array Value}(hl:IsTup s.heap l items)(hb:IsTup s.heap b Wc)(hx:mf A.in1 s items.toList Wc.toList bl)
  (hu:A.units < cLine) (h:Q (.bool bl) s):wpAny (model prog w) A (richCompare .Lt (.ref l) (.ref b)) Q E s:=by
 obtain⟨⟨cls,dd,data,sl⟩,ho,hc,n,hd⟩:=id hl;obtain⟨⟨Y9,XR,data2,XC⟩,XJ,Xs,n2,hd2⟩:=id hb;simp only at hc hd Xs hd2;subst hc hd Xs hd2;exact richCompare_meets_room (op:=.Lt) ⟨_,ho,rfl⟩ ⟨_,XJ,rfl⟩ PySem.F.slot_tuple_lt PySem.F.entry_tuple_lt (PySem.F.args_tuple_lt_2 _ _) (Bh l b items Wc n n2 dd XR sl XC bl)
  ⟨ho,XJ,hx,show Value.bool bl≠Value.notImplemented/\Q (.bool bl) s from ⟨(λx=>nomatch x),h⟩⟩ hu
end
end HT
namespace Dl
open PySem L2 PySem.Spec PyProof.Rows
structure DK(h:Heap)(v:Value)(r:List Int):Prop where
 ex:∃ (a:Addr) (o:Obj) (n:Nat) (p:Value) (x y:Int) (t u:Tok) (ns:List Int),v=.ref a/\r=x::y::ns/\h.get? a=some o/\o.cls=.type "tuple"/\o.data=.seq #[.int x t,.int y u,p] n/\m7 h p ns
def DK.keep(q:DK h v r)(k:∀b o,h.get? b=some o->h'.get? b=some o):DK h' v r:=by
 obtain⟨a,o,n,p,x,y,t,u,ns,e,e1,e2,e3,e4,e5⟩:=q.ex;exact⟨a,o,n,p,x,y,t,u,ns,e,e1,k _ _ e2,e3,e4,e5.keep k⟩
def D0(hI:h.get? I=some oI)(cI:oI.cls≠.type "tuple")(hS:h.get? S=some oS)(cS:oS.cls≠.type "tuple")(k:∀b o,b≠I->b≠S->h.get? b=some o->h'.get? b=some o)(p:Paired (DK h) vs nss):Paired (DK h') vs nss :=
 Paired.Y0 p λ_ _ r=>by
  have kt:∀ (b:Addr) (o:Obj),h.get? b=some o->o.cls=.type "tuple"->h'.get? b=some o:=λb o e1 e2=>k b o (λz=>by subst z;rw[hI] at e1;cases e1;exact cI e2) (λz=>by subst z;rw[hS] at e1;cases e1;exact cS e2) e1;obtain⟨a,o,n,p,x,y,t,u,ns,e,e1,e2,e3,e4,e5⟩:=r.ex;obtain⟨a',o',its,n',f,f1,f2,f3,f4⟩:=e5.ex;exact⟨a,o,n,p,x,y,t,u,ns,e,e1,kt a o e2 e3,e3,e4,⟨a',o',its,n',f,kt a' o' f1 f2,f2,f3,f4⟩⟩
def JJ(p:Paired (DK h) vs nss)(e:vs[i]?=some v):DK h v (nss.getD i []):=by
 have hi:i < vs.length:=(List.getElem?_eq_some_iff.mp e).1;have:=lh (d:=Value.none) (d':=[]) p hi;rw[zG,e] at this;exact this
section
def BE:∀l:List Int,lexLt l l=false
 | []=>HT.iW
 | a::l=>by
  show HT.lexLt _ _=_;rw[HT.bg,yM rfl];exact BE l
def B5(h:x=y->HT.mf A s xs ys (lexLt ns ms)):HT.mf A s (.int x t::xs) (.int y u::ys) (lexLt (x::ns) (y::ms)):=by
 have e:lexLt (x::ns) (y::ms)=if x=y then lexLt ns ms else decide (x < y):=HT.bg ..
 rw[e];have q:=SeqAt.EqAt.int_int (A:=A) (s:=s) x t y u;by_cases z:x=y
 ·rw[yM z];rw[show (x == y)=true by simpa using z] at q;exact .same q (h z)
 ·rw[yO z];rw[show (x == y)=false by simpa using z] at q;exact .diff q λprog w E Q=>HT.B9 A s x t y u prog w E Q
def RD(hp:DK s.heap p ns)(hq:DK s.heap q ms)(hu1:A.in1.units < cLine)(h:Q (.bool (lexLt ns ms)) s):wpAny (model prog w) A (richCompare .Lt p q) Q E s:=by
 have hu:A.units < cLine:=Nat.lt_of_succ_lt hu1;obtain⟨a,o,n,r,x,y,t,u,ks,rfl,rfl,e1,e2,e3,e4⟩:=hp.ex;obtain⟨b,o',n',r',x',y',t',u',ks',rfl,rfl,f1,f2,f3,f4⟩:=hq.ex;refine HT.Iy ⟨o,e1,e2,n,e3⟩ ⟨o',f1,f2,n',f3⟩ ?_ hu h;refine B5 λ_=>B5 λ_=>?_;have z:=QT (A:=A.in1) e4 f4 hu1;by_cases k:ks=ks'
 ·rw[yA k] at z;rw[k,BE];exact .same z .abf
 ·rw[zZ k] at z;exact .diff z λprog w E Q h=>Pa e4 f4 hu1 h
def Dr(hu:A.in1.in1.units < cLine)(hh:A.in1.handled=none)(ZN:l≠I)(YG:S≠I)(hSl:S≠l){R:Result->Shared->Prop} :
  ∀ (k j:Nat) (s:Shared) (vb:Value) (c:Nat),vs.length - (j+1)=k->j+1<=vs.length->(s.heap.IsListIter I l (j+1)/\s.heap.IsList l vs.toArray)->Paired (DK s.heap) vs nss->vs[PySem.argBest (bT nss) j]?=some vb ->
  s.heap.get? S=some { cls:=.type "list",dict:=none,data:=.seq #[vb,vb] c,slots:=#[] } ->
  (∀v h' tk,vs[PySem.argBest (bT nss) (vs.length - 1)]?=some v->(∀b o,b≠I->b≠S->s.heap.get? b=some o->h'.get? b=some o)->R (.ok (.ret v)) { s with heap:=h',toks:=tk }) ->
  codeAny (model prog w) A (.builtin "min.loop" ⟨[.ref I,.none,.ref S],[]⟩) R s:=by
 have W:=Walks.list (prog:=prog) (w:=w) (A:=A.in1) hh I l ZN vs.toArray;have hSw:S∉[I]:=by simp[YG]
 have hSf:S∉[I,l]:=by simp[YG,hSl]
 have WA:(toString "min"++toString ".loop":String)="min.loop":=by decide
 have vsz:vs.toArray.size=vs.length:=by simp
 intro k
 induction k with
 | zero =>
  intro j s vb c hk hj Xa hr hb hS hR;have Yt:j+1=vs.length:=by lia
  refine kH F.entry_min_loop ?_;rw[Around.under_plainId F.plain_min_loop _];show wpAny _ A.in1 (seqItems? (.ref S) >>= _) _ _ s;refine zV (kK hS rfl ?_);show wpAny _ A.in1 (tryCatch (pyNext (.ref I)) _ >>= _) _ _ s;refine zV (wpAny_tryCatch (W.done s _ _ (by rw[vsz,<- Yt];exact Xa) λh' tk Ww=>?_));have XH:=Ww S _ hSw hS;show wpAny _ A.in1 (updateSeq S (λ_=>#[]) >>= _) _ _ _;refine zV ?_;refine wpAny_updateSeq XH rfl (zV (wpAny_letGo (zW ?_)));exact hR vb _ tk (by rw[<- Yt];exact hb) λb o hbw hbS e=>(xO _ _ (jO hbS)).trans (Ww b o (by simpa using hbw) e)
 | succ k ih =>
  intro j s vb c hk hj Xa hr hb hS hR;have Wg:j+1 < vs.length:=by lia
  refine kH F.entry_min_loop ?_;rw[Around.under_plainId F.plain_min_loop _];show wpAny _ A.in1 (seqItems? (.ref S) >>= _) _ _ s;refine zV (kK hS rfl ?_);show wpAny _ A.in1 (tryCatch (pyNext (.ref I)) _ >>= _) _ _ s;refine zV (wpAny_tryCatch (W.item (j+1) s _ _ (by rw[vsz];exact Wg) Xa λv h' tk hP X8 Ww=>?_));have XH:=Ww S _ hSw hS;obtain⟨oI,ZO,cI,_⟩:=Xa.1;have W9:Paired (DK h') vs nss:=D0 ZO (by rw[cI];decide) hS (by show Value.type "list"≠Value.type "tuple";decide) (λb o n1 _ e=>Ww b o (by simpa using n1) e) hr;have hv:vs[j+1]?=some v:=by simpa using hP
  have r1:DK h' v (nss.getD (j+1) []):=JJ W9 hv;have r2:DK h' vb (nss.getD (PySem.argBest (bT nss) j) []):=JJ W9 hb;show wpAny _ A.in1 (tryCatch (holding [v,v] (richCompare .Lt v vb >>= _)) _ >>= _) _ _ _;refine zV (wpAny_tryCatch (xY (zV (RD (s:={ s with heap:=h',toks:=tk }) r1 r2 hu ?_))));refine zV (xY (xX ?_));refine zV (wpAny_letGo (zW ?_));have ebt:lexLt (nss.getD (j+1) []) (nss.getD (PySem.argBest (bT nss) j) [])=bT nss (j+1) (PySem.argBest (bT nss) j):=rfl;rw[ebt];cases hbt:bT nss (j+1) (PySem.argBest (bT nss) j) with
  | true =>
   simp only[xI];refine zV ?_;refine wpAny_updateSeq XH rfl (zV (wpAny_letGo ?_));rw[WA];have kp:∀b o,b≠S->h'.get? b=some o->(h'.update S (Obj.mapSeq λ_=>#[v,v])).get? b=some o:=λb o n e=>(xO _ _ (jO n)).trans e;refine zW ⟨plainId_quiet F.plain_min_loop _,ih (j+1) _ v _ (by lia) (by lia) (W.frame _ _ _ X8 λb hbf o e=>?_) ?_ (by simp only[PySem.argBest,hbt,xI];exact hv) (Heap.get?_update_self _ XH rfl) λv' h'' ZA Z9 ZC=>?_⟩
   ·exact kp b o (λz=>hSf (z ▸ hbf)) e
   ·exact D0 ZO (by rw[cI];decide) hS (by show Value.type "list"≠Value.type "tuple";decide) (λb o n1 n2 e=>kp b o n2 (Ww b o (by simpa using n1) e)) hr
   ·exact hR v' h'' ZA Z9 λb o hbw hbS e=>ZC b o hbw hbS (kp b o hbS (Ww b o (by simpa using hbw) e))
  | false =>
   simp only[yP,qQ];refine zV (wpAny_letGo ?_);rw[WA];refine zW ⟨plainId_quiet F.plain_min_loop _,ih (j+1) _ vb c (by lia) (by lia) X8 W9 (by simp only[PySem.argBest,hbt,yP,qQ];exact hb) XH λv' h'' ZA Z9 ZC=>?_⟩;exact hR v' h'' ZA Z9 λb o hbw hbS e=>ZC b o hbw hbS (Ww b o (by simpa using hbw) e)
def Pt(hu:A.in1.in1.units < cLine)(hh:A.handled=none)(hl:s.heap.IsList l vs.toArray)(hr:Paired (DK s.heap) vs nss)(Wz:0 < vs.length)
  (h:∀v h' tk,vs[PySem.argBest (bT nss) (vs.length - 1)]?=some v->(∀b o,s.heap.get? b=some o->h'.get? b=some o)->Q v { s with heap:=h',toks:=tk }) :
  wpAny (model prog w) A (call (.builtin "min") [.ref l]) Q E s:=by
 have WA:(toString "min"++toString ".loop":String)="min.loop":=by decide
 have Wg:l < s.heap.objs.size:=by obtain⟨_,e,_⟩:=hl;exact zY e
 refine call_function_tree F.kind_min F.plain_min F.entry_min (F.args_min1 _) ?_;show wpAny _ A.in1 (Builtin.Builtins.bindParams "min" ["key","default"] 0 ⟨[],[]⟩ >>= _) _ _ s;refine zV (wpAny_of_eq (show Builtin.Builtins.bindParams "min" ["key","default"] 0 ⟨[],[]⟩=pure [none,none] from rfl) ?_);refine zV (zW ?_);refine zV (qL hl ?_);refine zV (qM ?_);rw[WA];refine zW ⟨plainId_quiet F.plain_min_loop _,kH F.entry_min_loop ?_⟩;have ZM:(s.heap.push { cls:=.type "list_iterator",data:=.fields #[.ref l,.int 0 0] }).objs.size=s.heap.objs.size+1:=xK ..;generalize hh1:s.heap.push { cls:=.type "list_iterator",data:=.fields #[.ref l,.int 0 0] }=h1 at ZM;have k1:∀b o,s.heap.get? b=some o->h1.get? b=some o:=λb o e=>by rw[<- hh1];exact zU _ e
 have it1:h1.IsListIter s.heap.objs.size l 0:=by rw[<- hh1];exact⟨_,zX _ rfl,rfl,rfl⟩
 have k2:∀b o,h1.get? b=some o->(h1.push { cls:=.type "list",data:=.seq ([]:List Value).toArray }).get? b=some o:=λb o e=>zU _ e;have hS:(h1.push { cls:=.type "list",data:=.seq ([]:List Value).toArray }).get? h1.objs.size=some { cls:=.type "list",dict:=none,data:=.seq #[] 0,slots:=#[] }:=zX _ rfl;have YG:h1.objs.size≠s.heap.objs.size:=by rw[ZM];exact Nat.succ_ne_self _
 have hSl:h1.objs.size≠l:=by rw[ZM];exact jJ (jP Wg)
 have ZN:l≠s.heap.objs.size:=yS Wg;generalize h1.push { cls:=.type "list",data:=.seq ([]:List Value).toArray }=h2 at k2 hS;have W:=Walks.list (prog:=prog) (w:=w) (A:=A.in1) hh s.heap.objs.size l ZN vs.toArray;have Yh:h2.IsListIter s.heap.objs.size l 0/\h2.IsList l vs.toArray:=⟨it1.at λo e=>k2 _ _ e,hl.at λo e=>k2 _ _ (k1 _ _ e)⟩
 rw[Around.under_plainId F.plain_min_loop _];show wpAny _ A.in1 (seqItems? (.ref h1.objs.size) >>= _) _ _ { s with heap:=h2 };refine zV (kK hS rfl ?_);show wpAny _ A.in1 (tryCatch (pyNext (.ref s.heap.objs.size)) _ >>= _) _ _ { s with heap:=h2 };refine zV (wpAny_tryCatch (W.item 0 { s with heap:=h2 } _ _ (by simpa using Wz) Yh λv h' tk hP X8 Ww=>?_));have XH:=Ww h1.objs.size _ (by simp[YG]) hS;show wpAny _ A.in1 (updateSeq h1.objs.size (λ_=>#[v,v]) >>= _) _ _ _;refine zV ?_;refine wpAny_updateSeq XH rfl ?_;rw[WA];have kp:∀b o,b≠h1.objs.size->h'.get? b=some o->(h'.update h1.objs.size (Obj.mapSeq λ_=>#[v,v])).get? b=some o:=λb o n e=>(xO _ _ (jO n)).trans e;have hr2:Paired (DK h2) vs nss:=Paired.Y0 hr λ_ _ r=>r.keep λb o e=>k2 b o (k1 b o e);obtain⟨oI,ZO,cI,_⟩:=Yh.1;refine zW ⟨plainId_quiet F.plain_min_loop _,Dr (A:=A) hu (l:=l) (nss:=nss) hh ZN YG hSl _ 0 _ v _ rfl Wz (W.frame _ _ _ X8 λb hbf o e=>?_) ?_ (show vs[0]?=some v by simpa using hP) (Heap.get?_update_self _ XH rfl) λv' h'' ZA Z9 ZC=>?_⟩
 ·refine kp b o (λz=>?_) e;subst z;simp at hbf;rcases hbf with z|z
  ·exact YG z
  ·exact hSl z
 ·exact D0 ZO (by rw[cI];decide) hS (by show Value.type "list"≠Value.type "tuple";decide) (λb o n1 n2 e=>kp b o n2 (Ww b o (by simpa using n1) e)) hr2
 ·refine h v' h'' ZA Z9 λb o e=>?_;have hb1:b < s.heap.objs.size:=zY e;have n1:b≠s.heap.objs.size:=yS hb1;have n2:b≠h1.objs.size:=by rw[ZM];exact yS (jP hb1)
  exact ZC b o n1 n2 (kp b o n2 (Ww b o (by simpa using n1) (k2 b o (k1 b o e))))
end
def Bt:List Int->D
 | x::y::ns=>.tuple [.int x,.int y,ah ns]
 | _=>.none
def NQ:D->Option (List Int)
 | .tuple [.int x,.int y,d]=>(fZ d).map λns=>x::y::ns
 | _=>none
def IK(h:NQ d=some r):d=Bt r/\∃x y ns,r=x::y::ns:=by
 unfold NQ at h;split at h
 ·obtain⟨ns,h1,rfl⟩:=ag h;exact⟨by rw[eU h1];rfl,_,_,_,rfl⟩
 ·cases h
def yw:List D->Option (List (List Int))
 | []=>some []
 | d::r=>(NQ d).bind λns=>(yw r).map (ns::·)
def uS:∀ {ds:List D}{nss:List (List Int)},yw ds=some nss->ds=nss.map Bt/\∀ns∈nss,∃x y m,ns=x::y::m
 | [],nss,h=>by cases h;exact⟨rfl,λ_ z=>by cases z⟩
 | d::r,nss,h=>by
  obtain⟨ns,h1,h⟩:=bs h;obtain⟨rest,h2,rfl⟩:=ag h;obtain⟨e,hn⟩:=IK h1;obtain⟨e2,hn2⟩:=uS h2;refine⟨by rw[e,e2];rfl,λm hm=>?_⟩;rcases List.mem_cons.mp hm with z|z
  ·rw[z];exact hn
  ·exact hn2 m z
section
def ON(I:Inv X pins σ H s)(sm:aS HF H):∀ {nss:List (List Int)}{vs:List V}{us:List Value},(∀ns∈nss,∃x y m,ns=x::y::m)->ax X.K HF (nss.map Bt) vs->aQ vs us->Paired (DK s.heap) us nss
 | [],_,_,_,h,r=>by rw[h.nil_inv] at r;cases r;exact .nil
 | ns::nss,_,_,hn,h,r=>by
  obtain⟨v,vr,rfl,a,b⟩:=h.cons_inv;obtain⟨x,y,m,rfl⟩:=hn ns zE;cases r with
  | cons r rr =>
   refine .cons ?_ (ON I sm (λz hz=>hn z (zC _ hz)) b rr);simp only[Bt,Rep] at a;obtain⟨p,ws,rfl,hs,YJ⟩:=a;obtain⟨v1,r1,rfl,a1,b1⟩:=YJ.cons_inv;obtain⟨v2,r2,rfl,a2,b2⟩:=b1.cons_inv;obtain⟨v3,r3,rfl,a3,b3⟩:=b2.cons_inv;rw[b3.nil_inv] at hs;simp only[Rep] at a1 a2;subst a1 a2;cases r;obtain⟨its,rv,⟨o,ho,hc,n,hd⟩,_⟩:=I.tuple (aG sm hs);cases rv with
   | cons q1 rv =>
    cases rv with
    | cons q2 rv =>
     cases rv with
     | cons q3 rv =>
      cases rv;obtain⟨t,rfl⟩:=q1;obtain⟨u,rfl⟩:=q2;have pr:=oH I sm (nss:=[m]) (ax.cons a3 ax.nil) (.cons q3 .nil);cases pr with
      | cons rv _=>exact⟨p,o,n,_,x,y,t,u,m,rfl,rfl,ho,hc,hd,rv⟩
def IF(hc:X.calm=true)(hu:X.A.units+66 < cLine):ft X (.builtin "min") (λxs H Q=>∃ (HF:Hp) (a:Addr) (vs:List V) (nss:List (List Int)) (v:V),xs=[.ref a]/\aS HF H/\iw X.K HF a vs/\ax X.K HF (nss.map Bt) vs/\(∀ns∈nss,∃x y m,ns=x::y::m)/\vs[PySem.argBest (bT nss) (nss.length - 1)]?=some v/\Q v H):=by
 intro pins s σ H xs us Q I r h;obtain⟨HF,a,vs,nss,v,rfl,sm,hq,rr,hn,hv,q⟩:=h;obtain⟨u,rfl,rx⟩:=vals1 r;cases rx;obtain⟨its,rv,pl,hz⟩:=I.list (sm.seq hq);have hl1:=rr.length;rw[zD] at hl1;have hl2:=rv.length;have Xe:0 < its.length:=by have:=(List.getElem?_eq_some_iff.mp hv).1;lia
 refine Pt (by show X.A.units+1+1 < cLine;lia) (I.ok.hd hc) pl.isList (ON I sm hn rr rv) Xe λv' h' tk hP kp=>?_;obtain⟨u',hu',ru⟩:=rv.get hv;rw[<- hl2,hl1,hu'] at hP;cases hP;exact⟨v,H,I.kept (t':=tk) kp,ru,q⟩
def og:List D->Option D:=λds=>(oneOf ds).bind λd=>match d with
 | .list es=>(yw es).bind λnss=>es[PySem.argBest (bT nss) (nss.length - 1)]?
 | _=>none
def IP{K:W.Frag}:Hj K (λxs H Q=>∃ (HF:Hp) (a:Addr) (vs:List V) (nss:List (List Int)) (v:V),xs=[.ref a]/\aS HF H/\iw K HF a vs/\ax K HF (nss.map Bt) vs/\(∀ns∈nss,∃x y m,ns=x::y::m)/\vs[PySem.argBest (bT nss) (nss.length - 1)]?=some v/\Q v H) og:=by
 intro HF H ds vs d Q sm r hg q;obtain⟨x,hx,hg⟩:=bs hg;rw[fU hx] at r;cases x<;>try cases hg
 obtain⟨nss,hb,hg⟩:=bs hg;obtain⟨v,r',rfl,a,b⟩:=r.cons_inv;rw[b.nil_inv];simp only[Rep] at a;obtain⟨p,us,rfl,h,rr⟩:=a;obtain⟨e1,hn⟩:=uS hb;obtain⟨w,hw,YJ⟩:=rr.getD hg;rw[e1] at rr;exact⟨HF,p,us,nss,w,rfl,sm,h,rr,hn,hw,q w H HF (.refl sm) YJ⟩
def N5(hc:X.calm=true)(hu:X.A.units+66 < cLine)(B:se X "min" (.builtin "min"))(ha:DA X [e] fs)(he:starEach [e] X.env=(false,eval e X.env)::starEach [] X.env:=by rfl):DE X (.Call (.Name "min" p) [e] [] pos) (ba og fs) :=
 ju (IF hc hu) IP B ha (by decide) (by decide) he rfl
end
end Dl
namespace Rf
open PySem L2 Dl PySem.Spec PyProof.Rows
structure Tr where
 e:Expr->Option (Dl.Env->Option D)
 f:Expr->Option (Dl.Env->Option (List D))
 t:Expr->Option (Dl.Env->Option Bool)
structure Sg where
 fn:List (Str×Nat×(List D->Option D))
 int:List (Str×Int)
abbrev FE:=Dl.Env->Option D
def Eb(G:Sg)(sc:Scope)(N:List Str)(x:Str):Option FE:=match N.idxOf? x with
 | some i=>if Iu N sc i x=true then some (ae i) else none
 | none=>if (wo sc x&&!(x == ("__debug__":Str)))=true then (G.int.lookup x).map λn=>fC (.int n) else none
def F0:Const->Option FE
 | .int i=>some (fC (.int i))
 | .bool b=>some (fC (.bool b))
 | .none=>some (fC .none)
 | .str x=>some (fC (.str x))
 | _=>none
def SS(T:Tr)(op:UnaryOp)(a:Expr):Option FE:=match op with
 | .Not=>(T.e a).map QI
 | .USub=>(T.e a).map (f1 MG)
 | _=>none
def US:Operator->Option (D->D->Option D)
 | .Add=>some aD
 | .Sub=>some Dl.dJ
 | .Mult=>some cJ
 | .FloorDiv=>some o9
 | .Mod=>some nc
 | _=>none
def O9:Expr->Bool
 | .List ..=>true
 | .ListComp ..=>true
 | _=>false
def GW:Expr->Bool
 | .List ..=>true
 | .ListComp ..=>true
 | .BinOp a .Mult _ _=>O9 a
 | .BinOp a .Add b _=>GW a||GW b
 | .Call (.Name x _) _ _ _=>x == ("sorted":Str)||x == ("list":Str)
 | _=>false
def JF(T:Tr)(whole a:Expr)(op:Operator)(b:Expr):Option FE :=
 if GW whole=true then (T.f whole).map cf else (US op).bind λg=>(T.e a).bind λx=>(T.e b).map λy=>f2 g x y
def Bb(T:Tr)(op:BoolOp):List Expr->Option FE
 | []=>none
 | [a]=>T.e a
 | a::b::r=>(T.e a).bind λx=>(Bb T op (b::r)).map λy=>match op with|.And=>m9 x y|.Or=>UW x y
def Sf:CmpOp->Option (D->D->Option D)
 | .Lt=>some EY
 | .LtE=>some Ha
 | .Gt=>some tx
 | .GtE=>some Uh
 | .Eq=>some bz
 | .NotEq=>some gU
 | .In=>none
 | .NotIn=>none
 | .Is=>some su
 | .IsNot=>some CV
def UR:CmpOp->Option (D->D->Option D)
 | .Lt=>some EY
 | .LtE=>some Ha
 | _=>none
def F3(T:Tr)(a:Expr)(ops:List CmpOp)(cs:List Expr):Option FE:=match ops,cs with
 | [op],[b]=>if behindInMarks op b=false then (Sf op).bind λg=>(T.e a).bind λx=>(T.e b).map λy=>f2 g x y else none
 | [op,Yy],[b,c]=>if lastMarks [op,Yy] [b,c]=false then (UR op).bind λg=>(UR Yy).bind λg'=>(T.e a).bind λx=>(T.e b).bind λy=>(T.e c).map λz=>lN g g' x y z else none
 | _,_=>none
def AD(T:Tr):List Expr->Option (Dl.Env->Option (List D))
 | []=>some af
 | e::es=>if isStar e=false then (T.e e).bind λx=>(AD T es).map λr=>aa x r else none
def Um(T:Tr):Option Expr->Option (Dl.Env->Option (Option Int))
 | none=>some ud
 | some e=>(T.e e).map KJ
def JS:Expr->Bool
 | .Slice ..=>true
 | .Tuple ..=>true
 | .Starred ..=>true
 | _=>false
def K5(T:Tr)(a b:Expr):Option FE:=match b with
 | .Slice lo hi none _=>(T.e a).bind λx=>(Um T lo).bind λl=>(Um T hi).map λh=>sy lQ x l h
 | _=>if JS b=false then (T.e a).bind λx=>(T.e b).map λy=>f2 az x y else none
def JC:List D->Option D:=λds=>(oneOf ds).bind λd=>match d with
 | .list es=>(boolsOf es).map λbs=>.bool (bs.any id)
 | _=>none
def pY:Expr->Option Expr
 | .Call (.Name x _) [e] [] _=>if x="set" then some e else none
 | _=>none
def Rq(x:Str):Option String:=if x="int" then some "int" else if x="bool" then some "bool" else if x="tuple" then some "tuple" else if x="list" then some "list" else none
def El(T:Tr)(x:Str)(args:List Expr):Option FE :=
 if x="abs" then (if args.length=1 then (AD T args).map λfs=>ba Fi fs else none)
 else none
def SC:List Expr->Bool
 | [.Name x _]=>x == ("_law_rows":Str)
 | _=>false
def Fb(G:Sg)(sc:Scope)(T:Tr)(whole:Expr)(x:Str)(args:List Expr):Option FE :=
 if (wo sc x&&args.all λe=>!isStar e)=true then
  match G.fn.lookup x with
  | some (n,m)=>if (args.isEmpty||x == ("__debug__":Str))=true then none else (AD T args).map λfs=>ai n m fs
  | none =>
   if x="len" then (match args with
    | [e]=>(match pY e with
     | some e'=>if (wo sc "set"&&!isStar e')=true then (T.e e').map λy=>f1 mO y else none
     | none=>(AD T args).map λfs=>ba aZ fs)
    | _=>none)
   else if x="isinstance" then (match args with
    | [e,.Name y _]=>if wo sc y=true then (Rq y).bind λty=>(T.e e).map λz=>OE ty z else none
    | _=>none)
   else if x="tuple" then (if args.length=1 then (AD T args).map λfs=>ba cF fs else none)
   else if x="all" then (if args.length=1 then (AD T args).map λfs=>ba pO fs else none)
   else if x="any" then (if args.length=1 then (AD T args).map λfs=>ba JC fs else none)
   else if x="sum" then (if args.length=1 then (AD T args).map λfs=>ba iA fs else none)
   else if x="min" then (if SC args=true then (AD T args).map λfs=>ba og fs else none)
   else if (x == ("list":Str)||x == ("sorted":Str))=true then (T.f whole).map cf
   else El T x args
 else none
def zj:Expr->Bool
 | .Call ..=>true
 | _=>false
def E7(T:Tr)(o:Expr)(m:Str)(apos:Pos)(args:List Expr)(cpos:Pos):Option FE :=
 if (m == ("index":Str)&&apos.endLine == cpos.line&&!zj o)=true then (match args with
  | [e]=>if isStar e=false then (T.e o).bind λx=>(T.e e).map λy=>f2 iT x y else none
  | _=>none)
 else none
def GK(G:Sg)(sc:Scope)(N:List Str)(T:Tr)(whole:Expr):Option FE:=match whole with
 | .Name x _=>Eb G sc N x
 | .Constant c _ _=>F0 c
 | .UnaryOp op a _=>SS T op a
 | .BinOp a op b _=>JF T whole a op b
 | .BoolOp op es _=>Bb T op es
 | .Compare a ops cs _=>F3 T a ops cs
 | .IfExp c a b _=>(T.t c).bind λz=>(T.e a).bind λx=>(T.e b).map λy=>GI z x y
 | .Tuple es _ _=>(AD T es).map aA
 | .Subscript a b _=>K5 T a b
 | .List ..=>(T.f whole).map cf
 | .ListComp ..=>(T.f whole).map cf
 | .Call (.Name x _) args [] _=>Fb G sc T whole x args
 | .Call (.Name _ _) _ (_::_) _=>(T.f whole).map cf
 | .Call (.Attribute o m apos) args [] cpos=>E7 T o m apos args cpos
 | _=>none
def Ua(T:Tr)(op:BoolOp):List Expr->Option (Dl.Env->Option Bool)
 | []=>none
 | [a]=>T.t a
 | a::b::r=>(T.t a).bind λx=>(Ua T op (b::r)).map λy=>match op with|.And=>eV x y|.Or=>E6 x y
def K6:Expr->Bool
 | .Name ..=>true
 | .Call ..=>true
 | .Subscript ..=>true
 | _=>false
def stepT(T:Tr)(whole:Expr):Option (Dl.Env->Option Bool):=match whole with
 | .Compare a ops cs _=>(F3 T a ops cs).map fB
 | .UnaryOp .Not a _=>(T.t a).map bH
 | .BoolOp op es _=>Ua T op es
 | _=>if K6 whole=true then (T.e whole).map fB else none
def AQ:Expr->Bool
 | .Tuple ..=>true
 | _=>false
def TY(sc:Scope)(T:Tr)(tg iter:Expr):Option (Dl.Env->Option (List D)):=match iter with
 | .Call (.Name x _) args [] _ =>
  if x="range" then (match args with|[e]=>if (wo sc "range"&&!isStar e)=true then (AD T args).map aE else none|_=>none)
  else if x="enumerate" then (match args with|[e]=>if (wo sc "enumerate"&&!isStar e&&AQ tg)=true then (AD T args).map bJ else none|_=>none)
  else if x="zip" then (match args with|[e,e']=>if (wo sc "zip"&&!isStar e&&!isStar e'&&AQ tg)=true then (AD T args).map fy else none|_=>none)
  else (T.e iter).map bo
 | .Set ..=>none
 | _=>(T.e iter).map bo
def UQ:Expr->Option (List Str)
 | .Name x _=>some [x]
 | .Tuple [.Name x _,.Name y _] _ _=>some [x,y]
 | _=>none
def TU:Expr->Option (List Str)
 | .Tuple [.Name x _,.Name y _,.Name z _] _ _=>some [x,y,z]
 | tg=>UQ tg
def fA(N:List Str)(scope:Scope):List Nat:=(List.range N.length).filter λj=>match N[j]? with|some x=>decide (scope.names.lookup x=some .free)|none=>false
def KZ:Expr->Bool
 | .Set ..=>false
 | _=>true
def OP(B:Tr)(ifs:List Expr):Option (Dl.Env->Option Bool):=match ifs with
 | []=>some λ_=>some true
 | [c]=>B.t c
 | _=>none
def zm(sc:Scope)(N:List Str)(T:Tr)(ZD:Scope->List Str->Tr)(elt:Expr)(gens:List Comprehension)(scope:Scope):Option (Dl.Env->Option (List D)):=match gens with
 | [⟨tg,iter,ifs,as⟩] =>
  if as=0 then (TU tg).bind λxs =>
   if (iZ sc scope N (xs++(fA N scope).filterMap λj=>N[j]?) xs.length (fA N scope)&&(List.range xs.length).all λi=>qo (xs++(fA N scope).filterMap λj=>N[j]?) scope i (xs.getD i ""))=true then
    (TY sc T tg iter).bind λfi=>(OP (ZD scope (xs++(fA N scope).filterMap λj=>N[j]?)) ifs).bind λtt =>
     ((ZD scope (xs++(fA N scope).filterMap λj=>N[j]?)).e elt).map λte=>aw xs.length (fA N scope) fi (match xs with|[_]=>fG 0|[_,_]=>j4 0 1|_=>UE 0 1 2) tt te
   else none
  else none
 | _=>none
def Gg:Arguments->Option Str
 | ⟨[],[⟨x,none,_⟩],none,[],[],none,[]⟩=>if x="number" then some x else if x="plan" then some x else none
 | _=>none
def AS(lam:Option Str)(sc:Scope)(N:List Str)(T:Tr)(lmb:Scope->List Str->Tr)(l:Expr)(params:Arguments)(body:Expr)(scope:Scope):Option (Dl.Env->Option (List D)) :=
 if (lam.isSome&&wo sc "sorted"&&!isStar l)=true then
  (Gg params).bind λp =>
   if (iZ sc scope N (p::(fA N scope).filterMap λj=>N[j]?) 1 (fA N scope)&&sf scope (p::(fA N scope).filterMap λj=>N[j]?) p)=true then
    (T.e l).bind λfl=>((lmb scope (p::(fA N scope).filterMap λj=>N[j]?)).e body).map λte=>rf (fA N scope) fl te
   else none
 else none
def D1(lam:Option Str)(sc:Scope)(N:List Str)(T:Tr)(lmb:Scope->List Str->Tr)(l:Expr)(params:Arguments)(body:Expr)(scope:Scope):Option FE :=
 if (lam.isSome&&wo sc "min"&&!isStar l)=true then
  (Gg params).bind λp =>
   if (iZ sc scope N (p::(fA N scope).filterMap λj=>N[j]?) 1 (fA N scope)&&sf scope (p::(fA N scope).filterMap λj=>N[j]?) p)=true then
    (T.e l).bind λfl=>((lmb scope (p::(fA N scope).filterMap λj=>N[j]?)).e body).map λte=>zg (fA N scope) fl te
   else none
 else none
def J9(G:Sg)(lam:Option Str)(sc:Scope)(N:List Str)(T:Tr)(lmb:Scope->List Str->Tr)(whole:Expr):Option FE:=match whole with
 | .Call (.Name x _) [l] [⟨some ky,.Lambda params body scope _,_⟩] _=>if (x == ("min":Str)&&ky == ("key":Str))=true then D1 lam sc N T lmb l params body scope else GK G sc N T whole
 | _=>GK G sc N T whole
def FF(lam:Option Str)(sc:Scope)(N:List Str)(T:Tr)(ZD lmb:Scope->List Str->Tr)(whole:Expr):Option (Dl.Env->Option (List D)):=match whole with
 | .List es _=>(AD T es).map cX
 | .ListComp elt gens scope _=>zm sc N T ZD elt gens scope
 | .BinOp a .Mult b _=>if O9 a=true then (T.f a).bind λx=>(T.e b).map λy=>rZ x y else none
 | .BinOp a .Add b _=>(T.e a).bind λx=>(T.e b).map λy=>R4 oF x y
 | .Call (.Name x _) [l] [⟨some ky,.Lambda params body scope _,_⟩] _=>if (x == ("sorted":Str)&&ky == ("key":Str))=true then AS lam sc N T lmb l params body scope else none
 | .Call (.Name x _) [e] [] _ =>
  if (wo sc x&&!isStar e)=true then
   if x="list" then (AD T [e]).map λfs=>m6 cg fs
   else if x="sorted" then (AD T [e]).map λfs=>m6 iK fs
   else none
  else none
 | _=>none
def tr(G:Sg):Nat->Option Str->Scope->List Str->Tr
 | 0,_,_,_=>⟨λ_=>none,λ_=>none,λ_=>none⟩
 | n+1,lam,sc,N=>⟨J9 G lam sc N (tr G n lam sc N) (tr G n none),FF lam sc N (tr G n lam sc N) (tr G n none) (tr G n none),stepT (tr G n lam sc N)⟩
structure RT(G:Sg)(X:Cx)(j:Nat):Prop where
 fn:∀x n m,G.fn.lookup x=some (n,m)->eB X.prog X.w X.K X.mg X.base j x n m
 int:∀x i,G.int.lookup x=some i->∃t,X.mg x=some (.int i t)
 bn:Bn X
structure tQ(X:Cx)(tg iter:Expr)(ifs:List Expr)(elt:Expr)(scope:Scope)(f:Dl.Env->Option (List D)):Prop where
 ex:∃ (N':List Str) (t:Nat) (cs:List Nat) (fi:Dl.Env->Option (List D)) (tgt:Dl.Env->D->Option Dl.Env) (tt:Dl.Env->Option Bool) (te:FE),f=aw t cs fi tgt tt te/\iX X scope N' (lU t cs)/\DI X tg iter fi/\(∀x,foldedSetIterable iter X.env x=pure x) /\
  ∀fp s H,DG (bb X scope N' fp s H) tg tgt/\S3 (bb X scope N' fp s H) ifs tt/\DE (bb X scope N' fp s H) elt te
structure dc(X:Cx)(T:Tr):Prop where
 c:∀elt gens scope p f,T.f (.ListComp elt gens scope p)=some f->∃tg iter ifs,gens=[⟨tg,iter,ifs,0⟩]/\tQ X tg iter ifs elt scope f
 e:∀e f,T.e e=some f->DE X e f
 f:∀e f,T.f e=some f->DF X e f
 t:∀e f,T.t e=some f->DT X e f
section
variable {G:Sg}{X:Cx}{N:List Str}{sc:Scope}{k j:Nat}{T:Tr}{pos p:Pos}
def HL(C:Bk X N sc k)(g:RT G X j)(h:Eb G sc N x=some f):DE X (.Name x pos) f:=by
 unfold Eb at h;split at h
 ·split at h
  ·cases h;exact C.v _ ‹_›
  ·cases h
 ·split at h
  ·rename_i hg;obtain⟨n,hn,rfl⟩:=ag h;obtain⟨t,ht⟩:=g.int x n hn;simp only[zF,yQ] at hg;exact NS (C.gl hg.1) ht hg.2
  ·cases h
def Fh(h:F0 c=some f):DE X (.Constant c i pos) f:=by
 cases c<;>cases h<;>first|exact QA|exact Se|exact QJ|exact Rh
def MK(C:Bk X N sc k)(O:dc X T)(h:SS T op a=some f):DE X (.UnaryOp op a pos) f:=by
 cases op<;>try cases h
 ·obtain⟨x,hx,rfl⟩:=ag h;exact Q4 (O.e _ _ hx)
 ·obtain⟨x,hx,rfl⟩:=ag h;exact C.neg (O.e _ _ hx)
def Lr(C:Bk X N sc k)(O:dc X T)(h:JF T (.BinOp a op b pos) a op b=some f):DE X (.BinOp a op b pos) f:=by
 unfold JF at h;split at h
 ·obtain⟨x,hx,rfl⟩:=ag h;exact DF.de (O.f _ _ hx)
 ·obtain⟨g,hg,h⟩:=bs h;obtain⟨x,hx,h⟩:=bs h;obtain⟨y,hy,rfl⟩:=ag h;cases op<;>cases hg
  ·exact C.add (O.e _ _ hx) (O.e _ _ hy)
  ·exact C.sub (O.e _ _ hx) (O.e _ _ hy)
  ·exact C.mul (O.e _ _ hx) (O.e _ _ hy)
  ·exact C.mod (O.e _ _ hx) (O.e _ _ hy)
  ·exact C.div (O.e _ _ hx) (O.e _ _ hy)
def y0(O:dc X T):∀ {es:List Expr}{f:FE},Bb T op es=some f->DE X (.BoolOp op es pos) f
 | [],f,h=>by cases h
 | [a],f,h=>P0 (O.e _ _ h)
 | a::b::r,f,h=>by
  unfold Bb at h;obtain⟨x,hx,h⟩:=bs h;obtain⟨y,hy,rfl⟩:=ag h;have ih:=y0 O hy;cases op with
  | And=>exact Qh (O.e _ _ hx) ih
  | Or=>exact SR (O.e _ _ hx) ih
def Ra(C:Bk X N sc k)(hg:Sf op=some g)(hm:behindInMarks op b=false)(ha:DE X a x)(hb:DE X b y):DE X (.Compare a [op] [b] pos) (f2 g x y)/\DT X (.Compare a [op] [b] pos) (fB (f2 g x y)):=by
 cases op<;>cases hg
 ·exact⟨C.eq ha hb,C.teq ha hb⟩
 ·exact⟨C.ne ha hb,C.tne ha hb⟩
 ·exact⟨C.lt ha hb,C.YV ha hb⟩
 ·exact⟨C.le ha hb,C.tle ha hb⟩
 ·exact⟨C.gt ha hb,C.tgt ha hb⟩
 ·exact⟨C.ge ha hb,C.tge ha hb⟩
 ·exact⟨C.is0 ha hb,C.adR ha hb⟩
 ·exact⟨C.adQ ha hb,C.aca ha hb⟩
def OU(h:UR op=some g):∃r,jc X (compareOp op) r/\gO X.K r g:=by
 cases op<;>cases h
 ·exact⟨_,LR,iP⟩
 ·exact⟨_,Jz,iP⟩
def CP(C:Bk X N sc k)(O:dc X T){cs:List Expr}(h:F3 T a ops cs=some f):DE X (.Compare a ops cs pos) f/\DT X (.Compare a ops cs pos) (fB f):=by
 unfold F3 at h;split at h
 ·split at h
  ·rename_i hm;obtain⟨g,hg,h⟩:=bs h;obtain⟨x,hx,h⟩:=bs h;obtain⟨y,hy,rfl⟩:=ag h;exact Ra C hg hm (O.e _ _ hx) (O.e _ _ hy)
  ·cases h
 ·split at h
  ·rename_i hm;obtain⟨g,hg,h⟩:=bs h;obtain⟨g',hg',h⟩:=bs h;obtain⟨x,hx,h⟩:=bs h;obtain⟨y,hy,h⟩:=bs h;obtain⟨z,hz,rfl⟩:=ag h;obtain⟨r,r1,r2⟩:=OU (X:=X) hg;obtain⟨r',r1',r2'⟩:=OU (X:=X) hg';exact⟨JH r1 r2 r1' r2' (O.e _ _ hx) (O.e _ _ hy) (O.e _ _ hz) hm,KG r1 r2 r1' r2' (O.e _ _ hx) (O.e _ _ hy) (O.e _ _ hz) hm⟩
  ·cases h
 ·cases h
def dD(O:dc X T):∀ {es:List Expr}{fs:Dl.Env->Option (List D)},AD T es=some fs->DA X es fs
 | [],fs,h=>by cases h;exact ET
 | e::es,fs,h=>by
  unfold AD at h;split at h
  ·rename_i hs;obtain⟨x,hx,h⟩:=bs h;obtain⟨r,hr,rfl⟩:=ag h;exact U7 hs (O.e _ _ hx) (dD O hr)
  ·cases h
def Kx(O:dc X T)(h:Um T o=some f):DO X o f:=by
 cases o with
 | none=>cases h;exact NA
 | some e=>obtain⟨x,hx,rfl⟩:=ag h;exact NC (O.e _ _ hx)
def Ek(h:JS b=false):zr b:=by
 cases b<;>first|(intro _ _;rfl)|cases h
def K3(C:Bk X N sc k)(O:dc X T)(h:K5 T a b=some f):DE X (.Subscript a b pos) f:=by
 unfold K5 at h;split at h
 ·obtain⟨x,hx,h⟩:=bs h;obtain⟨l,hl,h⟩:=bs h;obtain⟨u,hu,rfl⟩:=ag h;exact C.cut (O.e _ _ hx) (Kx O hl) (Kx O hu)
 ·split at h
  ·rename_i hc;obtain⟨x,hx,h⟩:=bs h;obtain⟨y,hy,rfl⟩:=ag h;exact Te (O.e _ _ hx) (O.e _ _ hy) (Ek hc)
  ·cases h
def dA{env:PySem.Env}:∀ {es:List Expr},(es.all λe=>!isStar e)=true->(backTo pos (starEach es env)).any (·.1)=false
 | [],_=>rfl
 | e::es,h=>by
  rw[xU,zF,yQ] at h;rw[bE h.1];show (false||(backTo pos (starEach es env)).any (·.1))=false;rw[dA h.2];rfl
def Ld(h:pY e=some e'):∃p q,e=.Call (.Name "set" p) [e'] [] q:=by
 unfold pY at h;split at h
 ·split at h
  ·rename_i hx;cases h;subst hx;exact⟨_,_,rfl⟩
  ·cases h
 ·cases h
def Oo(h:Rq y=some ty):y∈cN/\bootBuiltins y=some (.type ty)/\y≠"__name__"/\(y == ("__debug__":Str))=false:=by
 unfold Rq at h;split at h
 ·rename_i e;cases h;subst e;exact⟨by decide +kernel,by decide +kernel,by decide,by decide⟩
 ·split at h
  ·rename_i e;cases h;subst e;exact⟨by decide +kernel,by decide +kernel,by decide,by decide⟩
  ·split at h
   ·rename_i e;cases h;subst e;exact⟨by decide +kernel,by decide +kernel,by decide,by decide⟩
   ·split at h
    ·rename_i e;cases h;subst e;exact⟨by decide +kernel,by decide +kernel,by decide,by decide⟩
    ·cases h
def Q5:bootBuiltins "any"=some (.builtin "any"):=by decide +kernel
def PM:bootBuiltins "sum"=some (.builtin "sum"):=by decide +kernel
def RJ:bootBuiltins "abs"=some (.builtin "abs"):=by decide +kernel
def E9:bootBuiltins "min"=some (.builtin "min"):=by decide +kernel
def A6(h:l.length=1):∃a,l=[a]:=by
 match l,h with
 | [a],_=>exact⟨a,rfl⟩
def Ho(C:Bk X N sc k)(g:RT G X j)(O:dc X T)(hg:wo sc x=true)(hs:args.all (λe=>!isStar e)=true)(h:El T x args=some f):DE X (.Call (.Name x p) args [] pos) f:=by
 have YY:∀ {e:Expr}{es:List Expr},args=e::es->starEach (e::es) X.env=(false,eval e X.env)::starEach es X.env:=λ{e es} q=>by
  subst q;rw[xU,zF,yQ] at hs;exact bE hs.1
 have Yh:∀ {e:Expr}{es:List Expr},args=e::es->(backTo pos (starEach es X.env)).any (·.1)=false:=λ{e es} q=>by
  subst q;rw[xU,zF] at hs;exact dA hs.2
 unfold El at h;split at h
 ·rename_i hx;subst hx;split at h
  ·rename_i hl;obtain⟨fs,X9,rfl⟩:=ag h;obtain⟨e,rfl⟩:=A6 hl;exact Pr (C.blt g.bn hg (by decide +kernel) RJ) (dD O X9) (YY rfl)
  ·cases h
 ·cases h
def HQ(C:Bk X N sc k)(g:RT G X j)(Yv:j<=k)(O:dc X T)(h:Fb G sc T (.Call (.Name x p) args [] pos) x args=some f):DE X (.Call (.Name x p) args [] pos) f:=by
 unfold Fb at h;split at h
 ·rename_i hg;rw[zF] at hg;obtain⟨hg,hs⟩:=hg;have YY:∀ {e:Expr}{es:List Expr},args=e::es->starEach (e::es) X.env=(false,eval e X.env)::starEach es X.env:=λ{e es} q=>by
   subst q;rw[xU,zF,yQ] at hs;exact bE hs.1
  have Yh:∀ {e:Expr}{es:List Expr},args=e::es->(backTo pos (starEach es X.env)).any (·.1)=false:=λ{e es} q=>by
   subst q;rw[xU,zF] at hs;exact dA hs.2
  split at h
  ·rename_i n m Y3;split at h
   ·cases h
   ·rename_i Wz;obtain⟨fs,X9,rfl⟩:=ag h;cases args with
    | nil=>exact absurd (by simp) Wz
    | cons e es =>
     have hd:(x == ("__debug__":Str))=false:=by simpa using Wz
     exact Na (g.fn x n m Y3) (C.room.mono Yv) (C.gl hg) (dD O X9) hd (YY rfl) (Yh rfl)
  ·split at h
   ·rename_i hx;subst hx;split at h
    ·rename_i e;split at h
     ·rename_i e' he';split at h
      ·rename_i hg2;rw[zF,yQ] at hg2;obtain⟨y,hy,rfl⟩:=ag h;obtain⟨p1,p2,rfl⟩:=Ld he';exact Ih C.calm (C.blt g.bn hg (by decide +kernel) Jl) (C.blt g.bn hg2.1 (by decide +kernel) Rz) (O.e _ _ hy) (bE hg2.2)
      ·cases h
     ·obtain⟨fs,X9,rfl⟩:=ag h;exact RM (C.blt g.bn hg (by decide +kernel) Jl) (dD O X9) (YY rfl)
    ·cases h
   ·split at h
    ·rename_i hx;subst hx;split at h
     ·rename_i e y py;split at h
      ·rename_i hgy;obtain⟨ty,hty,h⟩:=bs h;obtain⟨z,hz,rfl⟩:=ag h;obtain⟨t1,t2,t3,t4⟩:=Oo hty;exact Su (C.blt g.bn hg (by decide +kernel) vo) (C.blt g.bn hgy t1 t2) (O.e _ _ hz) t3 t4 (YY rfl)
      ·cases h
     ·cases h
    ·split at h
     ·rename_i hx;subst hx;split at h
      ·rename_i hl;obtain⟨fs,X9,rfl⟩:=ag h;obtain⟨e,rfl⟩:=A6 hl;exact Je (C.blt g.bn hg (by decide +kernel) K0) (dD O X9) (YY rfl)
      ·cases h
     ·split at h
      ·rename_i hx;subst hx;split at h
       ·rename_i hl;obtain⟨fs,X9,rfl⟩:=ag h;obtain⟨e,rfl⟩:=A6 hl;exact Q8 C.calm (C.blt g.bn hg (by decide +kernel) Qz) (dD O X9) (YY rfl)
       ·cases h
      ·split at h
       ·rename_i hx;subst hx;split at h
        ·rename_i hl;obtain⟨fs,X9,rfl⟩:=ag h;obtain⟨e,rfl⟩:=A6 hl;exact Qw C.calm (C.blt g.bn hg (by decide +kernel) Q5) (YY rfl) (dD O X9)
        ·cases h
       ·split at h
        ·rename_i hx;subst hx;split at h
         ·rename_i hl;obtain⟨fs,X9,rfl⟩:=ag h;obtain⟨e,rfl⟩:=A6 hl;exact Qp C.calm (C.blt g.bn hg (by decide +kernel) PM) (YY rfl) (dD O X9)
         ·cases h
        ·split at h
         ·rename_i hx;subst hx;split at h
          ·rename_i hl;obtain⟨fs,X9,rfl⟩:=ag h;obtain⟨e,rfl⟩:∃e,args=[e]:=by
            unfold SC at hl;split at hl
            ·exact⟨_,rfl⟩
            ·cases hl
           exact N5 C.calm C.u66 (C.blt g.bn hg (by decide +kernel) E9) (dD O X9) (YY rfl)
          ·cases h
         ·split at h
          ·obtain⟨y,hy,rfl⟩:=ag h;exact DF.de (O.f _ _ hy)
          ·exact Ho C g O hg hs h
 ·cases h
end
section
variable {G:Sg}{X:Cx}{N:List Str}{sc:Scope}{k j:Nat}{T:Tr}{pos p:Pos}
def Ut{env:PySem.Env}(h:isStar e=false):((backTo cpos (starEach [e] env)).all (λx=>!x.1)&&(backToKw cpos (keywordEach [] env)).all (λx=>x.1.isSome)&&decide ([e].length+([]:List Keyword).length+(if ([]:List Keyword).isEmpty then 0 else 1) < 30))=true:=by
 rw[bE h];rfl
def pK{env:PySem.Env}(h:zj o=false):attributeBase o a env w=w:=by
 cases o<;>first|rfl|cases h
def Ib(C:Bk X N sc k)(O:dc X T)(h:E7 T o m apos args cpos=some f):DE X (.Call (.Attribute o m apos) args [] cpos) f:=by
 unfold E7 at h;split at h
 ·rename_i hm;rw[zF,zF,yQ] at hm;obtain⟨⟨hm1,hm⟩,W8⟩:=hm;have e1:m="index":=eq_of_beq hm1;subst e1;split at h
  ·rename_i e;split at h
   ·rename_i hs;obtain⟨x,hx,h⟩:=bs h;obtain⟨y,hy,rfl⟩:=ag h;exact IM (pK W8) (Ut hs) hm (bE hs) (O.e _ _ hx) (O.e _ _ hy)
   ·cases h
  ·cases h
 ·cases h
def CG(C:Bk X N sc k)(g:RT G X j)(Yv:j<=k)(O:dc X T)(h:GK G sc N T e=some f):DE X e f:=by
 unfold GK at h;split at h
 ·exact HL C g h
 ·exact Fh h
 ·exact MK C O h
 ·exact Lr C O h
 ·exact y0 O h
 ·exact (CP C O h).1
 ·obtain⟨z,hz,h⟩:=bs h;obtain⟨x,hx,h⟩:=bs h;obtain⟨y,hy,rfl⟩:=ag h;exact Tg (O.t _ _ hz) (O.e _ _ hx) (O.e _ _ hy)
 ·obtain⟨x,hx,rfl⟩:=ag h;exact Ru (dD O hx)
 ·exact K3 C O h
 ·obtain⟨x,hx,rfl⟩:=ag h;exact DF.de (O.f _ _ hx)
 ·obtain⟨x,hx,rfl⟩:=ag h;exact DF.de (O.f _ _ hx)
 ·exact HQ C g Yv O h
 ·obtain⟨x,hx,rfl⟩:=ag h;exact DF.de (O.f _ _ hx)
 ·exact Ib C O h
 ·cases h
def Lq(O:dc X T):∀ {es:List Expr}{f:Dl.Env->Option Bool},Ua T op es=some f->DW X (.BoolOp op es pos) f
 | [],f,h=>by cases h
 | [a],f,h=>by
  cases op with
  | And=>exact Nj (O.t _ _ h)
  | Or=>exact QE (O.t _ _ h)
 | a::b::r,f,h=>by
  unfold Ua at h;obtain⟨x,hx,h⟩:=bs h;obtain⟨y,hy,rfl⟩:=ag h;have ih:=Lq O hy;cases op with
  | And=>exact RN (O.t _ _ hx) ih
  | Or=>exact Sb (O.t _ _ hx) ih
def JD(C:Bk X N sc k)(O:dc X T)(h:stepT T e=some f):DT X e f:=by
 unfold stepT at h;split at h
 ·obtain⟨x,hx,rfl⟩:=ag h;exact (CP C O hx).2
 ·obtain⟨x,hx,rfl⟩:=ag h;exact P6 (O.t _ _ hx)
 ·exact DW.dt (Lq O h)
 ·split at h
  ·rename_i hp;obtain⟨x,hx,rfl⟩:=ag h;refine QZ (O.e _ _ hx) ?_;revert hp;cases e<;>first|(intro hp;cases hp;done)|(intro hp _;rfl)
  ·cases h
def Jw{env:PySem.Env}(h:KZ e=true):∀x,foldedSetIterable e env x=pure x:=by
 cases e<;>first|(intro _;rfl)|cases h
def L7(C:Bk X N sc k)(B:Bn X)(O:dc X T)(h:TY sc T tg iter=some fi):DI X tg iter fi/\∀x,foldedSetIterable iter X.env x=pure x:=by
 unfold TY at h;split at h
 ·refine⟨?_,λ_=>rfl⟩;split at h
  ·rename_i hx;subst hx;split at h
   ·split at h
    ·rename_i hg;rw[zF,yQ] at hg;obtain⟨x,hx,rfl⟩:=ag h;exact Kz (C.blt B hg.1 (by decide +kernel) JR) (dD O hx) (bE hg.2)
    ·cases h
   ·cases h
  ·split at h
   ·rename_i hx;subst hx;split at h
    ·split at h
     ·rename_i hg;simp only[zF,yQ] at hg;obtain⟨x,hx,rfl⟩:=ag h;cases tg<;>first|exact NL (C.blt B hg.1.1 (by decide +kernel) Ak) (dD O hx) (bE hg.1.2)|exact absurd hg.2 (by simp[AQ])
     ·cases h
    ·cases h
   ·split at h
    ·rename_i hx;subst hx;split at h
     ·split at h
      ·rename_i e e' hg;simp only[zF,yQ] at hg;obtain⟨x,hx,rfl⟩:=ag h;cases tg<;>first|exact NH (C.blt B hg.1.1.1 (by decide +kernel) QQ) (bE hg.1.1.2) (dA (by simp[hg.1.2])) (dD O hx)|exact absurd hg.2 (by simp[AQ])
      ·cases h
     ·cases h
    ·obtain⟨x,hx,rfl⟩:=ag h;exact Jy (O.e _ _ hx)
 ·cases h
 ·rename_i h1 h2;obtain⟨x,hx,rfl⟩:=ag h;refine⟨Jy (O.e _ _ hx),Jw ?_⟩;cases iter<;>first|rfl|exact absurd rfl (h2 _ _ _)
def QP(h:UQ tg=some xs):(∃x px,tg=.Name x px/\xs=[x])\/∃x px y py m pt,tg=.Tuple [.Name x px,.Name y py] m pt/\xs=[x,y]:=by
 unfold UQ at h;split at h
 ·cases h;exact .inl ⟨_,_,rfl,rfl⟩
 ·cases h;exact .inr ⟨_,_,_,_,_,_,rfl,rfl⟩
 ·cases h
def RA(h:TU tg=some xs):((∃x px,tg=.Name x px/\xs=[x])\/∃x px y py m pt,tg=.Tuple [.Name x px,.Name y py] m pt/\xs=[x,y])\/∃x px y py z pz m pt,tg=.Tuple [.Name x px,.Name y py,.Name z pz] m pt/\xs=[x,y,z]:=by
 unfold TU at h;split at h
 ·cases h;exact .inr ⟨_,_,_,_,_,_,_,_,rfl,rfl⟩
 ·exact .inl (QP h)
def xc(C:Bk X N sc k)(B:Bn X)(O:dc X T)(OB:∀scope N' fp s H,Bk (bb X scope N' fp s H) N' scope k->dc (bb X scope N' fp s H) (ZD scope N'))
  (h:zm sc N T ZD elt [⟨tg,iter,ifs,as⟩] scope=some f):as=0/\tQ X tg iter ifs elt scope f:=by
 unfold zm at h;dsimp only at h;split at h
 ·rename_i has;refine⟨has,?_⟩;obtain⟨xs,hxs,h⟩:=bs h;split at h
  ·rename_i Wb;rw[zF] at Wb;obtain⟨fi,Xp,h⟩:=bs h;obtain⟨tt,htt,h⟩:=bs h;obtain⟨te,Z8,rfl⟩:=ag h;obtain⟨S,CB⟩:=C.comp Wb.1;obtain⟨hd,Xq⟩:=L7 C B O Xp;refine⟨_,_,_,_,_,_,_,rfl,S,hd,Xq,λfp s H=>?_⟩;have C1:=CB fp s H;have O1:=OB scope _ fp s H C1;refine⟨?_,?_,O1.e _ _ Z8⟩
   ·rcases RA hxs with (⟨x,px,rfl,rfl⟩|⟨x,px,y,py,m,pt,rfl,rfl⟩)|⟨x,px,y,py,z,pz,m,pt,htg,rfl⟩
    ·have z:=C1.loc (i:=0) (x:=x) (List.all_eq_true.mp Wb.2 0 (by simp));exact NM 0 z.1 z.2.1 z.2.2.1 z.2.2.2
    ·have z:=C1.loc (i:=0) (x:=x) (List.all_eq_true.mp Wb.2 0 (by simp));have w:=C1.loc (i:=1) (x:=y) (List.all_eq_true.mp Wb.2 1 (by simp));exact QX 0 1 C1.calm z.1 z.2.1 z.2.2.1 w.2.1 w.2.2.1 z.2.2.2 w.2.2.2
    ·have z0:=C1.loc (i:=0) (x:=x) (List.all_eq_true.mp Wb.2 0 (by simp));have w:=C1.loc (i:=1) (x:=y) (List.all_eq_true.mp Wb.2 1 (by simp));have u:=C1.loc (i:=2) (x:=z) (List.all_eq_true.mp Wb.2 2 (by simp));subst htg;exact Jj 0 1 2 C1.calm z0.1 z0.2.1 z0.2.2.1 w.2.1 w.2.2.1 u.2.1 u.2.2.1 z0.2.2.2 w.2.2.2 u.2.2.2
   ·unfold OP at htt;split at htt
    ·cases htt;exact NP
    ·exact Mw (O1.t _ _ htt)
    ·cases htt
  ·cases h
 ·cases h
def tQ.df(hc:X.calm=true)(h:tQ X tg iter ifs elt scope f):DF X (.ListComp elt [⟨tg,iter,ifs,0⟩] scope pos) f:=by
 obtain⟨N',t,cs,fi,tgt,tt,te,rfl,S,hd,Xq,hY⟩:=h.ex;exact MO hc S hd hY Xq
def Cu(h:Gg a=some x):∃px,a=⟨[],[⟨x,none,px⟩],none,[],[],none,[]⟩/\(x="number"\/x="plan"):=by
 unfold Gg at h;split at h
 ·split at h
  ·cases h;exact⟨_,rfl,.inl ‹_›⟩
  ·split at h
   ·cases h;exact⟨_,rfl,.inr ‹_›⟩
   ·cases h
 ·cases h
def bind1{x q:Str}{px:Pos}{body:Expr}{scope:Scope}{cl:List (Str×Addr)}{pm Xv u:Value}{c:Addr}(h:x="number"\/x="plan") :
  bindArgs (W.kla_fn "<lambda>" q ⟨[],[⟨x,none,px⟩],none,[],[],none,[]⟩ body scope cl pm (.ref c) Xv) ⟨[u],[]⟩=pure [(x,u)]:=by
 rcases h with rfl|rfl<;>rfl
def E4{lam:Option Str}(C:Bk X N sc k)(B:Bn X)(Xi:∀q,lam=some q->r8 X q/\j+3<=k)(O:dc X T){lmb:Scope->List Str->Tr}
  (OL:∀scope N' qual A f c s H,Bk (gE X A qual scope N' f c s H) N' scope (k - 3)->j<=k - 3->dc (gE X A qual scope N' f c s H) (lmb scope N')) {l body:Expr}{params:Arguments}{scope:Scope}{p0 WK XO:Pos}{f:Dl.Env->Option (List D)}
  (h:AS lam sc N T lmb l params body scope=some f):DF X (.Call (.Name "sorted" p0) [l] [⟨some "key",.Lambda params body scope WK,XO⟩] pos) f:=by
 unfold AS at h;split at h
 ·rename_i hg;simp only[zF,yQ] at hg;obtain⟨⟨hl,hg⟩,hs⟩:=hg;obtain⟨q,rfl⟩:=Option.isSome_iff_exists.mp hl;obtain⟨L,hk⟩:=Xi q rfl;obtain⟨x,hx,h2⟩:=bs h;clear h;obtain⟨px,rfl,hpx⟩:=Cu hx;split at h2
  ·rename_i Wb;rw[zF] at Wb;obtain⟨fl,WV,h⟩:=bs h2;obtain⟨te,Z8,rfl⟩:=ag h;obtain⟨k',rfl⟩:∃k',k=k'+3:=⟨k - 3,by lia⟩
   exact Bk.ack (p:=x) C (C.blt B hg (by decide +kernel) y6) L Wb.1 Wb.2 (λ_ _ _ _ _=>bind1 hpx) rfl (O.e _ _ WV) (λA f c s H C'=>(OL scope _ q A f c s H C' (by lia)).e _ _ Z8) (bE hs) (by rw[bE hs];rfl) (dA (by simp[hs]))
  ·cases h2
 ·cases h
def LV(C:Bk X N sc k)(B:Bn X)(Xi:∀q,lam=some q->r8 X q/\j+3<=k)(O:dc X T)
  (OB:∀scope N' fp s H,Bk (bb X scope N' fp s H) N' scope k->dc (bb X scope N' fp s H) (ZD scope N'))
  (OL:∀scope N' qual A f c s H,Bk (gE X A qual scope N' f c s H) N' scope (k - 3)->j<=k - 3->dc (gE X A qual scope N' f c s H) (lmb scope N')) {e:Expr}{f:Dl.Env->Option (List D)}(h:FF lam sc N T ZD lmb e=some f):DF X e f:=by
 unfold FF at h;split at h
 ·obtain⟨x,hx,rfl⟩:=ag h;exact Rm (dD O hx)
 ·rename_i elt gens scope ps
  match gens,h with
  | [⟨tg,iter,ifs,as⟩],h =>
   obtain⟨rfl,q⟩:=xc C B O OB h;exact q.df C.calm
 ·split at h
  ·obtain⟨x,hx,h⟩:=bs h;obtain⟨y,hy,rfl⟩:=ag h;exact Qm (O.f _ _ hx) (O.e _ _ hy)
  ·cases h
 ·obtain⟨x,hx,h⟩:=bs h;obtain⟨y,hy,rfl⟩:=ag h;exact RP (O.e _ _ hx) (O.e _ _ hy)
 ·split at h
  ·rename_i hk;rw[zF] at hk;have e1:=eq_of_beq hk.1;have e2:=eq_of_beq hk.2;subst e1 e2;exact E4 C B Xi O OL h
  ·cases h
 ·split at h
  ·rename_i hg;rw[zF,yQ] at hg;split at h
   ·rename_i hx;subst hx;obtain⟨x,hx,rfl⟩:=ag h;exact MT (C.blt B hg.1 (by decide +kernel) Ox) (dD O hx) (bE hg.2)
   ·split at h
    ·rename_i hx;subst hx;obtain⟨x,hx,rfl⟩:=ag h;exact Ht (C.blt B hg.1 (by decide +kernel) y6) (dD O hx) (bE hg.2)
    ·cases h
  ·cases h
 ·cases h
def Oq(C:Bk X N sc k)(B:Bn X)(O:dc X T)(OB:∀scope N' fp s H,Bk (bb X scope N' fp s H) N' scope k->dc (bb X scope N' fp s H) (ZD scope N'))
  {elt:Expr}{gens:List Comprehension}{scope:Scope}{p:Pos}{f:Dl.Env->Option (List D)}(h:FF lam sc N T ZD lmb (.ListComp elt gens scope p)=some f):∃tg iter ifs,gens=[⟨tg,iter,ifs,0⟩]/\tQ X tg iter ifs elt scope f:=by
 have h:zm sc N T ZD elt gens scope=some f:=h
 match gens,h with
 | [⟨tg,iter,ifs,as⟩],h =>
  obtain⟨rfl,q⟩:=xc C B O OB h;exact⟨tg,iter,ifs,rfl,q⟩
def HI{lam:Option Str}(C:Bk X N sc k)(B:Bn X)(Xi:∀q,lam=some q->r8 X q/\j+3<=k)(O:dc X T){lmb:Scope->List Str->Tr}
  (OL:∀scope N' qual A f c s H,Bk (gE X A qual scope N' f c s H) N' scope (k - 3)->j<=k - 3->dc (gE X A qual scope N' f c s H) (lmb scope N')) {l body:Expr}{params:Arguments}{scope:Scope}{p0 WK XO:Pos}{f:FE}
  (h:D1 lam sc N T lmb l params body scope=some f):DE X (.Call (.Name "min" p0) [l] [⟨some "key",.Lambda params body scope WK,XO⟩] pos) f:=by
 unfold D1 at h;split at h
 ·rename_i hg;simp only[zF,yQ] at hg;obtain⟨⟨hl,hg⟩,hs⟩:=hg;obtain⟨q,rfl⟩:=Option.isSome_iff_exists.mp hl;obtain⟨L,hk⟩:=Xi q rfl;obtain⟨x,hx,h2⟩:=bs h;clear h;obtain⟨px,rfl,hpx⟩:=Cu hx;split at h2
  ·rename_i Wb;rw[zF] at Wb;obtain⟨fl,WV,h⟩:=bs h2;obtain⟨te,Z8,rfl⟩:=ag h;obtain⟨k',rfl⟩:∃k',k=k'+3:=⟨k - 3,by lia⟩
   exact Bk.aec (p:=x) C (C.blt B hg (by decide +kernel) E9) L Wb.1 Wb.2 (λ_ _ _ _ _=>bind1 hpx) rfl (O.e _ _ WV) (λA f c s H C'=>(OL scope _ q A f c s H C' (by lia)).e _ _ Z8) (bE hs) (by rw[bE hs];rfl) (dA (by simp[hs]))
  ·cases h2
 ·cases h
def JW(C:Bk X N sc k)(g:RT G X j)(Yv:j<=k)(Xi:∀q,lam=some q->r8 X q/\j+3<=k)(O:dc X T)
  (OL:∀scope N' qual A f c s H,Bk (gE X A qual scope N' f c s H) N' scope (k - 3)->j<=k - 3->dc (gE X A qual scope N' f c s H) (lmb scope N')) {e:Expr}{f:FE}(h:J9 G lam sc N T lmb e=some f):DE X e f:=by
 unfold J9 at h;split at h
 ·split at h
  ·rename_i hk;rw[zF] at hk;have e1:=eq_of_beq hk.1;have e2:=eq_of_beq hk.2;subst e1 e2;exact HI C g.bn Xi O OL h
  ·exact CG C g Yv O h
 ·exact CG C g Yv O h
def GR(n:Nat):∀ {lam:Option Str}{X:Cx}{N:List Str}{sc:Scope}{k:Nat},Bk X N sc k->RT G X j->j<=k->(∀q,lam=some q->r8 X q/\j+3<=k)->dc X (tr G n lam sc N):=by
 induction n with
 | zero=>intro lam X N sc k C g Yv Xi;exact⟨λ_ _ _ _ _ h=>(by cases h),λ_ _ h=>(by cases h),λ_ _ h=>(by cases h),λ_ _ h=>(by cases h)⟩
 | succ n ih =>
  intro lam X N sc k C g Yv Xi;have O:=ih C g Yv Xi;exact⟨λelt gens scope p f h=>Oq (lam:=lam) (lmb:=tr G n none) (p:=p) C g.bn O (λscope N' fp s H C'=>ih C' ⟨g.fn,g.int,g.bn⟩ Yv λq z=>by cases z) h,λe f h=>JW C g Yv Xi O (lmb:=tr G n none) (λscope N' qual A f c s H C' hk=>ih C' ⟨g.fn,g.int,g.bn⟩ hk λq z=>by cases z) h,
   λe f h=>LV C g.bn Xi O (λscope N' fp s H C'=>ih C' ⟨g.fn,g.int,g.bn⟩ Yv λq z=>by cases z) (λscope N' qual A f c s H C' hk=>ih C' ⟨g.fn,g.int,g.bn⟩ hk λq z=>by cases z) h,
   λe f h=>JD C O h⟩
end
def ux:Nat->Expr->List Str
 | 0,_=>[]
 | n+1,e=>match e with
  | .Name x _=>[x]
  | .UnaryOp _ a _=>ux n a
  | .BinOp a _ b _=>ux n a++ux n b
  | .BoolOp _ es _=>es.flatMap (ux n)
  | .Compare a _ cs _=>ux n a++cs.flatMap (ux n)
  | .IfExp c a b _=>ux n c++(ux n a++ux n b)
  | .Tuple es _ _=>es.flatMap (ux n)
  | .List es _=>es.flatMap (ux n)
  | .Subscript a b _=>ux n a++ux n b
  | .Slice lo hi st _=>(lo.toList++(hi.toList++st.toList)).flatMap (ux n)
  | .Call f args kws _=>ux n f++(args.flatMap (ux n)++kws.flatMap λk=>ux n k.value)
  | .Attribute o _ _=>ux n o
  | .ListComp elt gens _ _=>ux n elt++gens.flatMap λg=>ux n g.iter++g.ifs.flatMap (ux n)
  | .Lambda _ b _ _=>ux n b
  | _=>[]
def sD(N:List Str)(e:Expr):List Nat:=let ns:=ux 60 e;(List.range N.length).filter λj=>match N[j]? with|some x=>ns.contains x|none=>false
abbrev GS:=ar->Option Out
def turns:Nat:=1000000
def D6:Expr->Bool
 | .ListComp ..=>true
 | .SetComp ..=>true
 | .DictComp ..=>true
 | _=>false
def KD(sc:Scope)(N:List Str)(T:Tr)(x:Str)(px:Pos)(e:Expr):Option GS :=
 (N.idxOf? x).bind λi=>if qo N sc i x=true then
  (if GW e=true then (match e with
   | .ListComp _ _ scope lp =>
    if (decide (sc.names.lookup x=some .local)&&(px.line == lp.line&&!(scope.names.any λ(n,k)=>n == x&&(k == .local || k == .cell))))=true then (T.f e).map λf=>aW i (sD N e) f
    else if decide (sc.names.lookup x=some .cell)=true then (T.f e).map λf=>aW i (sD N e) f
    else if (px.line == lp.line)=false then (T.f e).map λf=>aW i (sD N e) f
    else none
   | _=>(T.f e).map λf=>aW i (sD N e) f)
  else if D6 e=false then (T.e e).map λf=>aR i (sD N e) f else none) else none
def KE(N:List Str)(sc:Scope)(T:Tr)(e:Expr):Option GS:=match e with
 | .Constant (.str _) _ _=>some dS
 | .Call (.Attribute (.Name x _) m apos) args [] cpos =>
  (N.idxOf? x).bind λi=>if (Iu N sc i x&&apos.endLine == cpos.line&&args.all λe=>!isStar e)=true then
   (if m="append" then (match args with
    | [a]=>(T.e a).map λf=>lG i (sD N a) f
    | _=>none)
   else if m="extend" then (match args with
    | [a]=>(T.f a).map λf=>Bp i (sD N a) f
    | _=>none)
   else if m="insert" then (match args with
    | [a,b]=>(T.e a).bind λfk=>(T.e b).map λf=>JB i (sD N b) fk f
    | _=>none)
   else none) else none
 | .Call (.Name _ _) _ _ _=>(T.e e).map fR
 | _=>none
def Va(sc:Scope)(N:List Str)(tg:Expr):Option (ar->D->Option ar):=match tg with
 | .Name x _=>(N.idxOf? x).bind λi=>if qo N sc i x=true then some (gM i) else none
 | .Tuple [.Name x _,.Name y _] _ _=>(N.idxOf? x).bind λi=>(N.idxOf? y).bind λj=>if (qo N sc i x&&qo N sc j y)=true then some (gy i j) else none
 | _=>none
def Jo(sc:Scope)(N:List Str)(T:Tr)(x:Str)(kx e:Expr):Option GS :=
 (N.idxOf? x).bind λi=>if (Iu N sc i x&&!JS kx)=true then (T.e kx).bind λfk=>(T.e e).map λf=>Px i (sD N e) fk f else none
def D9(sc:Scope)(N:List Str)(T:Tr)(x y:Str)(e:Expr):Option GS :=
 (N.idxOf? x).bind λi=>(N.idxOf? y).bind λj=>if ((qo N sc i x&&qo N sc j y)&&Jg e)=true then (T.e e).map λf=>nR i j (sD N e) f else none
def An(sc:Scope)(N:List Str)(T:Tr)(x y z:Str)(e:Expr):Option GS :=
 (N.idxOf? x).bind λi=>(N.idxOf? y).bind λj=>(N.idxOf? z).bind λl=>if (((qo N sc i x&&qo N sc j y)&&qo N sc l z)&&FR e)=true then (T.e e).map λf=>pV i j l (sD N e) f else none
def sG(f:Stmt->Option GS):List Stmt->Option GS
 | []=>some dS
 | [s]=>f s
 | s::r=>(f s).bind λg=>(sG f r).map λh=>ay g h
def ya(sc:Scope)(N:List Str)(T:Tr):Nat->Stmt->Option GS
 | 0,_=>none
 | n+1,st=>match st with
  | .Return (some e) _=>(T.e e).map aI
  | .If c a b _=>(T.t c).bind λt=>(sG (ya sc N T n) a).bind λg=>(sG (ya sc N T n) b).map λh=>eI t g h
  | .Assign [.Name x px] e _=>KD sc N T x px e
  | .Assign [.Subscript (.Name x _) kx _] e _=>Jo sc N T x kx e
  | .Assign [.Tuple [.Name x _,.Name y _] _ _] e _=>D9 sc N T x y e
  | .Assign [.Tuple [.Name x _,.Name y _,.Name z _] _ _] e _=>An sc N T x y z e
  | .For tg iter body [] _=>(TY sc T tg iter).bind λfi=>(Va sc N tg).bind λt=>(sG (ya sc N T n) body).map λg=>cq (sD N iter) fi t g
  | .While c body [] _=>(T.t c).bind λt=>(sG (ya sc N T n) body).map λg=>RS t g turns
  | .Expr e _=>KE N sc T e
  | .Raise ..=>some RQ
  | .Pass _=>some dS
  | _=>none
section
variable {X:Cx}{N:List Str}{sc:Scope}{k:Nat}{T:Tr}{V7 V8:Hp}{pos:Pos}
def iE(H:∀s g,f s=some g->DS X V7 V8 s g):∀ {l:List Stmt}{g:GS},sG f l=some g->G9 X V7 V8 l g
 | [],g,h=>by cases h;exact Nh
 | [s],g,h=>Gp (H _ _ h)
 | s::t::r,g,h=>by
  unfold sG at h;obtain⟨x,hx,h⟩:=bs h;obtain⟨y,hy,rfl⟩:=ag h;exact K7 (H _ _ hx) (iE H hy)
def qm{env:PySem.Env}(h:D6 e=false):swapsWith e (some (.Name x px)) line env=pure false:=by
 cases e<;>first|rfl|cases h
def Mc(C:Bk X N sc k)(O:dc X T)(h:KD sc N T x px e=some g):DS X V7 V8 (.Assign [.Name x px] e pos) g:=by
 unfold KD at h;obtain⟨i,hi,h⟩:=bs h;split at h
 ·rename_i YW;obtain⟨z1,z2,z3,z4⟩:=C.loc YW;split at h
  ·split at h
   ·rename_i elt gens scope lp hl;split at h
    ·rename_i hc;rw[zF] at hc;obtain⟨f,hf,rfl⟩:=ag h;obtain⟨tg,iter,ifs,rfl,q⟩:=O.c _ _ _ _ _ hf;obtain⟨N',t,cs,fi,tgt,tt,te,rfl,S,hd,Xq,hY⟩:=q.ex;exact Nl i _ C.calm S hd hY z1 z2 (C.ab9 hc.1) (C.swap hc.1 hc.2) Xq
    ·split at h
     ·rename_i hc;obtain⟨f,hf,rfl⟩:=ag h;exact AJ i _ z1 z2 z3 (O.f _ _ hf) (C.aa8 hc) z4
     ·split at h
      ·rename_i hc;obtain⟨f,hf,rfl⟩:=ag h;refine AJ i _ z1 z2 z3 (O.f _ _ hf) ?_ z4;rw[uZ,hc];simp
      ·cases h
   ·rename_i hl hn;obtain⟨f,hf,rfl⟩:=ag h;refine AJ i _ z1 z2 z3 (O.f _ _ hf) (qm ?_) z4;cases e<;>first|rfl|exact absurd rfl (hn _ _ _ _)|(rename_i hl _;cases hl;done)
  ·split at h
   ·rename_i hc;obtain⟨f,hf,rfl⟩:=ag h;exact Qt i _ z1 z2 z3 (O.e _ _ hf) (qm hc) z4
   ·cases h
 ·cases h
def Fg{env:PySem.Env}(h:(es.all λe=>!isStar e)=true)(hl:es.length < 20):((backTo cpos (starEach es env)).all (λx=>!x.1)&&(backToKw cpos (keywordEach [] env)).all (λx=>x.1.isSome)&&decide (es.length+([]:List Keyword).length+(if ([]:List Keyword).isEmpty then 0 else 1) < 30))=true:=by
 have h1:(backTo cpos (starEach es env)).all (λx=>!x.1)=true:=by
  have:=dA (pos:=cpos) (env:=env) h;rw[List.all_eq_not_any_not];simpa using this
 rw[h1];simp[backToKw,keywordEach];lia
def Li(C:Bk X N sc k)(O:dc X T)(h:KE N sc T e=some g):DS X V7 V8 (.Expr e pos) g:=by
 unfold KE at h;split at h
 ·cases h;exact PF
 ·rename_i x px m apos args cpos;replace h:=bs h;obtain⟨i,hi,h⟩:=h;split at h
  ·rename_i hv;simp only[zF] at hv;obtain⟨⟨hv,Wr⟩,hs⟩:=hv;obtain⟨z1,z2,z3,z4⟩:=C.vis hv;split at h
   ·rename_i hm;subst hm;split at h
    ·obtain⟨f,hf,rfl⟩:=ag h;exact IJ i _ z1 z2 (O.e _ _ hf) z3 z4 (Fg hs (by simp)) Wr (bE (by simpa using hs))
    ·cases h
   ·split at h
    ·rename_i hm;subst hm;split at h
     ·obtain⟨f,hf,rfl⟩:=ag h;exact Hh i _ z1 z2 (O.f _ _ hf) z3 z4 (Fg hs (by simp)) Wr (bE (by simpa using hs))
     ·cases h
    ·split at h
     ·rename_i hm;subst hm;split at h
      ·obtain⟨fk,hfk,h⟩:=bs h;obtain⟨f,hf,rfl⟩:=ag h;have XN:=hs;simp only[xU,List.all_nil,Bool.and_true,zF,yQ] at XN;exact Hr i _ z1 z2 (O.e _ _ hfk) (O.e _ _ hf) z3 z4 (Fg hs (by simp)) Wr (bE XN.1) (bE XN.2)
      ·cases h
     ·cases h
  ·cases h
 ·obtain⟨f,hf,rfl⟩:=ag h;exact NK rfl (O.e _ _ hf)
 ·cases h
def Qs(C:Bk X N sc k)(h:Va sc N tg=some t):Ue X V7 V8 tg t:=by
 unfold Va at h;split at h
 ·obtain⟨i,hi,h⟩:=bs h;split at h
  ·rename_i hl;cases h;have z:=C.loc hl;exact KB i z.1 z.2.1 z.2.2.1 z.2.2.2
  ·cases h
 ·obtain⟨i,hi,h⟩:=bs h;obtain⟨j,hj,h⟩:=bs h;split at h
  ·rename_i hl;rw[zF] at hl;cases h;have z:=C.loc hl.1;have w:=C.loc hl.2;exact M1 i j C.calm z.1 z.2.1 z.2.2.1 w.2.1 w.2.2.1 z.2.2.2 w.2.2.2
  ·cases h
 ·cases h
def Hn(C:Bk X N sc k)(O:dc X T)(h:D9 sc N T x y e=some g):DS X V7 V8 (.Assign [.Tuple [.Name x px,.Name y py] m pt] e pos) g:=by
 unfold D9 at h;obtain⟨i,hi,h⟩:=bs h;obtain⟨j,hj,h⟩:=bs h;split at h
 ·rename_i hl;rw[zF,zF] at hl;obtain⟨f,hf,rfl⟩:=ag h;have z:=C.loc hl.1.1;have w:=C.loc hl.1.2;exact Kv i j _ C.calm z.1 z.2.1 z.2.2.1 w.2.1 w.2.2.1 hl.2 (O.e _ _ hf) z.2.2.2 w.2.2.2
 ·cases h
def Ee(C:Bk X N sc k)(O:dc X T)(h:An sc N T x y z e=some g):DS X V7 V8 (.Assign [.Tuple [.Name x px,.Name y py,.Name z pz] m pt] e pos) g:=by
 unfold An at h;obtain⟨i,hi,h⟩:=bs h;obtain⟨j,hj,h⟩:=bs h;obtain⟨l,hl',h⟩:=bs h;split at h
 ·rename_i hl;rw[zF,zF,zF] at hl;obtain⟨f,hf,rfl⟩:=ag h;have z:=C.loc hl.1.1.1;have w:=C.loc hl.1.1.2;have u:=C.loc hl.1.2;exact LL i j l _ C.calm z.1 z.2.1 z.2.2.1 w.2.1 w.2.2.1 u.2.1 u.2.2.1 hl.2 (O.e _ _ hf) z.2.2.2 w.2.2.2 u.2.2.2
 ·cases h
def LP(C:Bk X N sc k)(O:dc X T)(h:Jo sc N T x kx e=some g):DS X V7 V8 (.Assign [.Subscript (.Name x px) kx Xo] e pos) g:=by
 unfold Jo at h;obtain⟨i,hi,h⟩:=bs h;split at h
 ·rename_i hv;simp only[zF,yQ] at hv;obtain⟨hv,hc⟩:=hv;obtain⟨z1,z2,z3,z4⟩:=C.vis hv;obtain⟨fk,hfk,h⟩:=bs h;obtain⟨f,hf,rfl⟩:=ag h;refine JA i _ z1 z2 (O.e _ _ hfk) (O.e _ _ hf) z3 z4 (λv=>?_) ?_ ?_ rfl
  ·cases kx<;>first|rfl|cases hc
  ·cases e<;>rfl
  ·rfl
 ·cases h
def uu(C:Bk X N sc k)(B:Bn X)(O:dc X T):∀ (n:Nat) {st:Stmt}{g:GS},ya sc N T n st=some g->DS X V7 V8 st g
 | 0,st,g,h=>by cases h
 | n+1,st,g,h=>by
  have ih:=λs g h=>uu C B O n (st:=s) (g:=g) h;unfold ya at h;split at h
  ·obtain⟨f,hf,rfl⟩:=ag h;exact Qq (O.e _ _ hf)
  ·obtain⟨t,ht,h⟩:=bs h;obtain⟨a,ha,h⟩:=bs h;obtain⟨b,hb,rfl⟩:=ag h;exact SG (O.t _ _ ht) (iE ih ha) (iE ih hb)
  ·exact Mc C O h
  ·exact LP C O h
  ·exact Hn C O h
  ·exact Ee C O h
  ·obtain⟨fi,Xp,h⟩:=bs h;obtain⟨t,ht,h⟩:=bs h;obtain⟨b,hb,rfl⟩:=ag h;obtain⟨hd,Xq⟩:=L7 C B O Xp;exact QF _ C.pass C.calm hd (Qs C ht) (iE ih hb) Xq
  ·obtain⟨t,ht,h⟩:=bs h;obtain⟨b,hb,rfl⟩:=ag h;exact LK _ C.pass (O.t _ _ ht) (iE ih hb)
  ·exact Li C O h
  ·cases h;exact Tq
  ·cases h;exact Nx
  ·cases h
end
section
variable {K:W.Frag}
def jl(P:Program)(w:World)(K:W.Frag)(mg:Str->Option Value)(base:Heap)(j:Nat)(l:List (Str×Nat×(List D->Option D))):Prop:=∀x n m,l.lookup x=some (n,m)->eB P w K mg base j x n m
def hZ(mg:Str->Option Value)(l:List (Str×Int)):Prop:=∀x i,l.lookup x=some i->∃t,mg x=some (.int i t)
def bx:jl P w K mg base j []:=λ_ _ _ h=>by cases h
def SZ(F:eB P w K mg base j x n m)(h:jl P w K mg base j l):jl P w K mg base j ((x,n,m)::l):=λy n' m' e=>by
 rw[yB] at e;cases q:y == x with
 | true=>rw[q] at e;cases e;rw[eq_of_beq q];exact F
 | false=>rw[q] at e;exact h y n' m' e
def bw:hZ mg []:=λ_ _ h=>by cases h
def B0(F:∃t,mg x=some (.int i t))(h:hZ mg l):hZ mg ((x,i)::l):=λy i' e=>by
 rw[yB] at e;cases q:y == x with
 | true=>rw[q] at e;cases e;rw[eq_of_beq q];exact F
 | false=>rw[q] at e;exact h y i' e
def O5{st:Stmt}(C:Bk X N (aj st) j)(B:Bn X)(hf:jl X.prog X.w X.K X.mg X.base j fs)(hi:hZ X.mg is)
  (t:sG (ya (aj st) N (tr ⟨fs,is⟩ 40 none (aj st) N) 40) (bG st)=some g):G9 X V7 V8 (bG st) g :=
 iE (λs g h=>uu C B (GR (G:=⟨fs,is⟩) 40 C ⟨hf,hi,B⟩ (yN j) λq z=>by cases z) 40 h) t
def VD{st:Stmt}(D:bI K mg x st ps)(S:dk N ps (aj st))(B:∀x∈cN,mg x=none)(hf:jl P w K mg base j fs)(hi:hZ mg is)
  (t:sG (ya (aj st) N (tr ⟨fs,is⟩ 40 none (aj st) N) 40) (bG st)=some g):eB P w K mg base (j+1) x ps.length (bq g N.length):=by
 obtain⟨f,fd,hm,F,hb⟩:=D.ex;exact Vy F S hb hm λX hP hw hK Xu W6 C _ _ HF H=>by subst hP;subst hw;subst hK;subst Xu;subst W6;exact O5 C B hf hi t
def VR{st:Stmt}(D:Hv K mg x st ps)(S:dk N ps (aj st))(B:∀x∈cN,mg x=none)(hf:jl P w K mg base j fs)(hi:hZ mg is)
  (hq:x∈lW/\x++".<locals>."++"<lambda>"=q) (t:sG (ya (aj st) N (tr ⟨fs,is⟩ 40 (some q) (aj st) N) 40) (bG st)=some g):eB P w K mg base (j+4) x ps.length (bq g N.length):=by
 obtain⟨f,fd,c,P',hm,F,hb,hc,hh⟩:=D.ex;refine Vy (k:=j+3) F S hb hm λX hP hw hK Xu W6 C h1 h2 HF H=>?_;subst hP;subst hw;subst hK;subst Xu;subst W6;have L:r8 X q:=by
  refine⟨c,P',by rw[h1,hc],by rw[h2];exact hq.2,hh,λHF tb=>?_⟩;obtain⟨oc,od,kV,doc,pm,an,Wt,ct,Yi,rfl,lk,_⟩:=F.ex;have:=tb f oc od _ Yi c P' lk hq.1 hc hh;rw[<- hq.2];exact this
 exact iE (λs g h=>uu C B (GR (G:=⟨fs,is⟩) (j:=j) 40 C ⟨hf,hi,B⟩ (jW _ _) λq' z=>by cases z;exact⟨L,yN _⟩) 40 h) t
end
abbrev tW(s:Stmt)(N:List Str)(S:Sg)(l:Option Str):Option GS:=sG (ya (aj s) N (tr S 40 l (aj s) N) 40) (bG s)
def RZ(a:sc.kind=.function:=by rfl)(b:sc.isCoroutine=false:=by rfl)(c:sc.isGenerator=false:=by rfl)(d:N.Nodup:=by decide +kernel)(e:N.take P.length=P:=by rfl)(f:∀x∈P,sc.names.lookup x=some .local \/ sc.names.lookup x=some .cell:=by decide +kernel)(g:∀y∈sc.names,y.2≠.free:=by decide +kernel):dk N P sc:=⟨a,b,c,d,e,f,g⟩
section
variable {K:W.Frag}
def fm(F:eB P w K mg base i x n m)(h:jl P w K mg base j l)(e:i<=j:=by decide):jl P w K mg base j ((x,n,m)::l):=SZ (F.mono e) h
def gK{st:Stmt}(D:bI K mg x st ps)(B:∀x∈cN,mg x=none)(hf:jl P w K mg base j S.fn)(hi:hZ mg S.int)(t:tW st N S none=some g)(F:dk N ps (aj st):=by exact Rf.RZ):eB P w K mg base (j+1) x ps.length (bq g N.length):=VD D F B hf hi t
def Vq{st:Stmt}(D:Hv K mg x st ps)(B:∀x∈cN,mg x=none)(hf:jl P w K mg base j S.fn)(hi:hZ mg S.int)(t:tW st N S (some q)=some g)(F:dk N ps (aj st):=by exact Rf.RZ)(hq:x∈lW/\x++".<locals>."++"<lambda>"=q:=by decide +kernel):eB P w K mg base (j+4) x ps.length (bq g N.length):=VR D F B hf hi hq t
end
end Rf
namespace Ex
open PySem L2 PySem.Spec PyProof.Rows
variable {rest:List Stmt}
def w8(x:fw P w H h a o):∃ob,h.get? a=some ob:=by
 cases o with
 | lst xs=>obtain⟨_,_,_,_,e⟩:=x;exact⟨_,e⟩
 | tup xs=>obtain⟨_,_,_,⟨_,e,_⟩,_⟩:=x;exact⟨_,e⟩
 | dK WW=>obtain⟨_,_,_,_,o,_,_,e,_⟩:=x;exact⟨_,e⟩
 | dT WW=>obtain⟨_,_,_,_,o,_,_,e,_⟩:=x;exact⟨_,e⟩
 | set S n=>obtain⟨o,_,_,_,e,_⟩:=x;exact⟨_,e⟩
 | ins C dx fs=>obtain⟨_,_,_,e,_⟩:=x;exact⟨_,e⟩
 | own y=>obtain⟨_,e⟩:=x;exact⟨_,e⟩
 | xd fs=>obtain⟨_,⟨_,_,_,e,_⟩,_⟩:=x;exact⟨_,e⟩
 | rng lo hi=>obtain⟨_,_,_,e⟩:=x;exact⟨_,e⟩
 | WX ob u=>obtain⟨e,_⟩:=x;exact⟨_,e⟩
 | tab q=>obtain⟨_,e,_⟩:=x;exact⟨_,e⟩
 | Yw q=>obtain⟨_,_,_,_,e0,e,_⟩:=x;cases e0;exact⟨_,e⟩
 | met f y=>exact⟨_,(show h.get? a=some _ from x)⟩
 | ext φ=>obtain⟨_,⟨_,e⟩,_⟩:=x;exact⟨_,e⟩
structure Hx(P:Program)(w:World)(l:List Env)(H:Hp)(s:Shared)(cls:Value)(ea:Addr)(H':Hp)(s':Shared):Prop where
 os:s'.os=s.os
 bare:AllBare s'.gens
 un:Un (jb l) [] H H' s.heap s'.heap
 Wb:pU P w H' s'.heap
 fly:∃B a0,Heap.FlyingW B l ea cls a0 s'.heap/\∀b,b∉jb l->(H' b≠none\/∃o,s.heap.get? b=some o)->∃o,B.get? b=some o
def EG(P:Program)(w:World):MZ:=λl H s E e s'=>∃ea cls H',e=.ref ea/\Hx P w l H s cls ea H' s'/\E cls none H'
section
variable {X:Cx}{pins:List (Addr×Obj)}{σ:L2.St}{H H':Hp}{s s':Shared}{cls:Value}{ea:Addr}
def GC(I:Inv X pins σ H s)(hs:X.stack=X.env::X.outer)(hf:X.env.frame=some X.env.locals)(hex:X.ex=[])(ZY:s'.os=s.os)(hbr:AllBare s'.gens)(XX:Un (jb X.stack) [] H H' s.heap s'.heap)(Wb:pU X.prog X.w H' s'.heap)
  (Xa:B.StaysIn s'.heap) (hff:s'.heap.FunFrames B X.stack) (hB:∀b,b∉jb X.stack->(H' b≠none\/∃o,s.heap.get? b=some o)->∃o,B.get? b=some o) (x1:Heap.FlyingW B X.outer ea cls a0 h') (x2:s'.heap.UpToSlots h') :
  Hx X.prog X.w X.outer X.V8 X.Wf cls ea H' { s' with heap:=h' }:=by
 have nx:∀b:Addr,b∉X.ex:=λb=>by rw[hex];simp
 have fs:jb X.stack=X.env.locals::jb X.outer:=by rw[hs];unfold jb;rw[jH,hf]
 have ZV:∀b o,X.Wf.heap.get? b=some o->b≠X.env.locals:=λb o e=>yS (zP (zY e) I.ok.above);have out:∀b o,X.Wf.heap.get? b=some o->b∉jb X.outer->b∉jb X.stack:=λb o e hb z=>by
  rw[fs] at z;rcases List.mem_cons.mp z with z|z
  ·exact ZV b o e z
  ·exact hb z
 have Y1:∀b∈jb X.stack,H' b=none:=λb hb=>by
  obtain⟨_,o,ho,_⟩:=I.stack.mem hb;exact XX.free b o ho (I.W2 b hb) (by simp)
 have Mp:∀b u,H' b≠none->s'.heap.get? b=some u->h'.get? b=some u:=λb u hn e=>by
  obtain⟨o,eo⟩:=hB b (λz=>hn (Y1 b z)) (.inl hn);have:=Xa b o eo;rw[e] at this;cases this;exact x1.1 b u eo
 have old:∀b o o2,b∉jb X.stack->s.heap.get? b=some o->s'.heap.get? b=some o2->h'.get? b=some o2:=λb o o2 hb e e2=>by
  obtain⟨o3,eo⟩:=hB b hb (.inr ⟨o,e⟩);have:=Xa b o3 eo;rw[e2] at this;cases this;exact x1.1 b o2 eo
 have inO:∀b,b∈jb X.outer->b∈jb X.stack:=λb hb=>by rw[fs];exact zC _ hb
 have Ya:∀b∈jb X.outer,∀o,s'.heap.get? b=some o->∃sl,h'.get? b=some { o with slots:=sl }:=λb hb o e=>by
  obtain⟨_,o2,e2,d2⟩:=hff.mem (inO b hb);rw[e] at e2;cases e2;exact x2 b o e d2
 refine⟨ZY.trans I.os,hbr,⟨λb o e n hb _=>?_,λb o e n hb _=>?_,λb o e n _=>?_,λb o e _=>?_,λb xs e=>XX.Xb b xs (I.base.Xb b xs e),λb o u e=>XX.WZ b o u (I.base.WZ b o u e),?_⟩,λa o e=>?_,B,a0,x1,λb hb hh=>?_⟩
 ·have e1:=I.base.keep b o e n hb (nx b);have n1:=I.base.free b o e n (nx b);have W6:=out b o e hb;exact old b o o W6 e1 (XX.keep b o e1 n1 W6 (by simp))
 ·obtain⟨sl,e1⟩:=I.base.slot b o e n hb (nx b);have n1:=I.base.free b o e n (nx b);obtain⟨XC,e2⟩:=XX.slot b _ e1 n1 (inO b hb) (by simp);obtain⟨sl3,e3⟩:=Ya b hb _ e2;exact⟨sl3,e3⟩
 ·obtain⟨o1,e1⟩:=I.base.there b o e (nx b);exact XX.free b o1 e1 (I.base.free b o e n (nx b)) (by simp)
 ·obtain⟨o1,e1⟩:=I.base.there b o e (nx b);obtain⟨o2,e2⟩:=XX.there b o1 e1 (by simp);by_cases hb:b∈jb X.outer
  ·obtain⟨sl,e3⟩:=Ya b hb o2 e2;exact⟨_,e3⟩
  ·exact⟨o2,old b o1 o2 (out b o e hb) e1 e2⟩
 ·exact I.base.WR.trans (XX.WR.trans (.kept (λb u ⟨q,z⟩ e=>Mp b u (by rw[z];simp) e) λ_ _ e _=>e))
 ·refine (Wb a o e).WQ (λb u hb q=>Mp b u ?_ q) (λ_ q=>q) λ_ _ q _=>q;rcases hb with rfl|z
  ·rw[e];simp
  ·rw[z];simp
 ·refine hB b (λz=>?_) (hh.imp id λ⟨o,e⟩=>I.base.there b o e (nx b));rw[fs] at z;rcases List.mem_cons.mp z with z|z
  ·subst z;rcases hh with hn|⟨o,e⟩
   ·exact hn (Y1 _ (by rw[fs];exact zE))
   ·exact ZV _ o e rfl
  ·exact hb z
def Tt(hs:X.stack=X.env::X.outer)(hf:X.env.frame=some X.env.locals)(hex:X.ex=[])
  (hxe:∀e s',wpAny (model X.prog X.w) X.A (leaving X.env e) (λ_ Xr=>EG X.prog X.w X.outer X.V8 X.Wf E' e Xr) (λ_ _=>False) s'->X.xe e s') (hE:∀cls H',E cls none H'->E' cls none H'):gq (EG X.prog X.w) X E:=by
 intro pins σ H s e s' I h;obtain⟨ea,cls,H',rfl,F,hc⟩:=h;obtain⟨B,a0,WV,hB⟩:=F.fly;refine hxe _ _ ?_;refine wpAny_leaves_onW (base:=B) (a0:=a0) (cls:=cls) (by rw[I.ok.frames,hs]) hf (by rw[<- hs];exact WV) λh' x1 x2=>⟨ea,cls,H',rfl,GC I hs hf hex F.os F.bare F.un F.Wb WV.1 WV.2.2.1 hB x1 x2,hE _ _ hc⟩
def EB(I:Inv X pins σ H s)(hs:X.stack=X.env::X.outer)(hf:X.env.frame=some X.env.locals)(hex:X.ex=[])
  (hxe:∀e s',wpAny (model X.prog X.w) X.A (leaving X.env e) (λ_ Xr=>EG X.prog X.w X.outer X.V8 X.Wf E' e Xr) (λ_ _=>False) s'->X.xe e s') (hm:Heap.MadeExcOf s.heap s'.heap ea cls args) (ho:s'.os=s.os) (hg:AllBare s'.gens) (hE:E' cls none H):X.xe (.ref ea) s':=by
 have fs:jb X.stack=X.env.locals::jb X.outer:=by rw[hs];unfold jb;rw[jH,hf]
 have acu:=I.stack;refine hxe _ _ ?_;have Yt:∀env∈X.stack,∀b,env.frame=some b->b∈jb X.stack:=λenv he b hb=>List.mem_filterMap.mpr ⟨env,he,hb⟩;refine wpAny_leaves_madeW (base:=W.hideAll s.heap (jb X.stack)) (h:=s.heap) (cls:=cls) (args:=args) (by rw[I.ok.frames,hs]) hf (λb o q=>W.of_hideAll _ q) (by rw[<- hs];exact W.funFrames_hide acu Yt) hm λh' t x1 x2 x3 x4=>⟨ea,cls,H,rfl,?_,hE⟩
 refine GC I hs hf hex ho hg (Un.kept hm.keeps) (I.Wb.kept hm.keeps) (λb o q=>hm.keeps b o (W.of_hideAll _ q)) ((W.funFrames_hide acu Yt).of_keeps λb o q _=>⟨o,hm.keeps b o q,rfl⟩) (λb hb hh=>?_) x1 x4;have ⟨o,e⟩:∃o,s.heap.get? b=some o:=by
  rcases hh with hn|h
  ·obtain⟨u,hu⟩:=Option.ne_none_iff_exists'.mp hn;exact w8 (I.Wb b u hu)
  ·exact h
 exact⟨o,W.hideAll_get _ e hb⟩
end
abbrev Qb:List Value:=[.type "ValueError",.type "Exception",.type "BaseException",.type "object"]
def M9{K:W.Frag}(X:K.In h)(q:W.excIn K C Qb "ValueError.__new__"=true) :
  ∃bm N nm qn bs hd sn sub ab col dd k0 k1 k2 k3 k5 mN,h.get? C=some (excClassObj nm qn C N bs bm hd sn sub ab col dd k0 k1 k2 k3 k5 "ValueError.__new__")/\h.Ns N mN/\mN "__init__"=none/\OwnTail h Qb bm:=by
 unfold W.excIn at q;split at q
 ·rename_i dd cd sl ho;split at q
  ·rename_i C' bm k0 k1 k2 k3 n k5 hm Yo;simp only[zF,vQ,yQ] at q;obtain⟨⟨⟨⟨⟨rfl,rfl⟩,acv⟩,ht⟩,Wb⟩,hni⟩:=q;cases cd with
   | mk nm bs mro ns qn hd sn sub ab col del =>
    simp only at hm acv Wb hni;subst hm acv;cases sl with
    | mk l =>
     simp only at Yo;subst Yo;exact⟨bm,ns,nm,qn,bs,hd,sn,sub,ab,col,dd,k0,k1,k2,k3,k5,_,X _ _ ho,.of_isNs (W.isNs_of_in X Wb),W.nsMap_none_of_in X Wb hni,W.tail_of_in X ht⟩
  ·cases q
 ·cases q
section
def Lp(I:Inv X pins σ H s)(hc:X.calm=true)(hg:Gl X x)(hm:X.mg x=some (.ref C))(q:W.excIn X.K C Qb "ValueError.__new__"=true)
  (hs:X.stack=X.env::X.outer) (hf:X.env.frame=some X.env.locals) (hex:X.ex=[])
  (hxe:∀e s',wpAny (model X.prog X.w) X.A (leaving X.env e) (λ_ Xr=>EG X.prog X.w X.outer X.V8 X.Wf E' e Xr) (λ_ _=>False) s'->X.xe e s') (hE:E' (.ref C) none H) (WI:(x == ("__debug__":Str))=false) :
  wpAny (model X.prog X.w) X.A (exec (.Raise (some (.Call (.Name x np) [.Constant (.str t) i p] [] cpos)) none pos) X.env) Q X.xe s:=by
 obtain⟨bm,N,nm,qn,bs,hd,sn,sub,ab,col,dd,k0,k1,k2,k3,k5,mN,hC,hN,hni,T⟩:=M9 I.XZ q;refine wpAny_Raise_call_subT (C:=C) (nm:=nm) (q:=qn) (N:=N) (bs:=bs) (bm:=bm) (hdct:=hd) (sn:=sn) (sub:=sub) (ab:=ab) (col:=col) (dd:=dd) (k0:=k0) (k1:=k1) (k2:=k2) (k3:=k3) (k5:=k5)
  F.excBase_ValueError (mN:=mN) (T.hasType F.excBase_ValueError.hasBase) (I.ok.hd hc) rfl hni (mX I hg hm ⟨rfl,?_⟩ WI)
 refine Calls.evalArgs_plain (jK (Zb (k:=i) (pos:=p) (kL ⟨rfl,?_,hC,hN,T,λh' e hme=>?_⟩)))
 ·exact yD (show 1<=4000 by lia) (by decide)
 ·exact EB (s:={ s with toks:=s.toks+1 }) (I.tok _) hs hf hex hxe hme rfl I.bare hE
end
open PySem L2 Dl PySem.Spec PyProof.Rows
def VN(K:W.Frag)(mg:Str->Option Value)(n:Nat)(xm:List D->Option Str):Sp:=λvs H _ E=>∃HF ds c C,aS HF H/\fK K HF/\ax K HF ds vs/\ds.length=n/\xm ds=some c/\mg c=some (.ref C)/\∀H' V9,bX HF H V9 H'->E (.ref C) none H'
structure yl(P:Program)(w:World)(K:W.Frag)(mg:Str->Option Value)(base:Heap)(k:Nat)(x:Str)(n:Nat)(xm:List D->Option Str):Prop where
 ex:∃ (f:Addr) (fd:FuncData) (ps:List Str),sJ P w K mg base (EG P w) k f fd ps (VN K mg n xm)/\mg x=some (.ref f)/\W.keepIn K (.ref f)=true/\Binds K fd ps []
def yl.mono{K:W.Frag}{xm:List D->Option Str}(F:yl P w K mg base k x n xm)(h:k<=j):yl P w K mg base j x n xm:=by
 obtain⟨f,fd,ps,a,b,c,d⟩:=F.ex;exact⟨f,fd,ps,a.mono h,b,c,d⟩
structure Xk(X:Cx)(E:XK):Prop where
 hs:X.stack=X.env::X.outer
 hf:X.env.frame=some X.env.locals
 hex:X.ex=[]
 hxe:∀e s',wpAny (model X.prog X.w) X.A (leaving X.env e) (λ_ Xr=>EG X.prog X.w X.outer X.V8 X.Wf E e Xr) (λ_ _=>False) s'->X.xe e s'
def Xk.pass(hx:Xk X E):gq (EG X.prog X.w) X E:=Tt hx.hs hx.hf hx.hex hx.hxe λ_ _ h=>h
section
def Vw(K:W.Frag)(mg:Str->Option Value)(E:XK)(xf:Dl.Env->Option Str):TE:=λσ H _=>∃HF ρ c C,aS HF H/\dq K HF ρ σ/\xf ρ=some c/\mg c=some (.ref C)/\∀H' V9,bX HF H V9 H'->E (.ref C) none H'
def G8(X:Cx)(E:XK)(e:Expr)(xf:Dl.Env->Option Str):Prop:=PE X e (Vw X.K X.mg E xf)
def tX(K:W.Frag)(mg:Str->Option Value)(V7 V8:Hp)(E:XK)(xg:ar->Option Str):TS:=λ_ σ H=>∃HF ρ c C,lD K V7 V8 HF H ρ σ/\xg ρ=some c/\mg c=some (.ref C)/\∀H' V9,bX V7 V8 V9 H'->E (.ref C) none H'
def DX(X:Cx)(E:XK)(V7 V8:Hp)(st:Stmt)(xg:ar->Option Str):Prop:=PS X st (tX X.K X.mg V7 V8 E xg)
def IY(X:Cx)(E:XK)(V7 V8:Hp)(st:List Stmt)(xg:ar->Option Str):Prop:=AH X st (tX X.K X.mg V7 V8 E xg)
def Q9(h:PA X.WD es t):PA X es t:=λpos pins s σ H Q I hw =>
 xB (h pos pins s σ H Q (I.W4 _) hw) (λ_ _ ⟨v,H',I',r,q⟩=>⟨v,H',I'.Wq,r,q⟩) λ_ _ z=>False.elim z
def PQ{st:Stmt}(h:PS X.WD st t):PS X st t:=λpins s σ H D I hw =>
 xB (h pins s σ H D (I.W4 _) hw) (λ_ _ q=>q.Wq) λ_ _ z=>False.elim z
def rX(n:Nat)(xm:List D->Option Str)(fs:Dl.Env->Option (List D)):Dl.Env->Option Str:=λρ=>(fs ρ).bind λds=>if ds.length=n then xm ds else none
def Nv{xm:List D->Option Str}{p pos:Pos}(F:yl X.prog X.w X.K X.mg X.base k x n xm)(hr:eR k X.A)(hx:gq (EG X.prog X.w) X E)(hg:Gl X x)(ha:DA X.WD (e::es) fs)(WI:(x == ("__debug__":Str))=false:=by decide)
  (he:starEach (e::es) X.env=(false,eval e X.env)::starEach es X.env:=by rfl) (W5:(backTo pos (starEach es X.env)).any (·.1)=false:=by rfl):G8 X E (.Call (.Name x p) (e::es) [] pos) (rX n xm fs):=by
 obtain⟨f,fd,ps,ok,hm,hk,hb⟩:=F.ex;refine bf (Gr (E:=E) ok hr hg hm hk hb .nil hx (Q9 ha) WI he W5) λσ H Q ⟨HF,ρ,c,C,sm,eo,hf,hc,q⟩=>?_;obtain⟨ds,hds,hf⟩:=bs hf;split at hf
 ·rename_i hl;exact⟨HF,ρ,ds,sm,eo,hds,λvs H1 Wa g1 r1=>⟨Wa,ds,c,C,g1.fh,eo.tb.mono g1.ff,by rw[qG];exact r1,hl,hf,hc,λH' V9 g=>q H' V9 (g1.trans g)⟩⟩
 ·cases hf
def E3(t:Dl.Env->Option Bool)(xa xb:Dl.Env->Option Str):Dl.Env->Option Str:=λρ=>(t ρ).bind λb=>if b=true then xa ρ else xb ρ
def Sx(hc:DT X.WD c t)(ha:G8 X E a xa)(hb:G8 X E b xb):G8 X E (.IfExp c a b pos) (E3 t xa xb) :=
 bf (B3 (PT.WD hc) ha hb) λσ H Q ⟨HF,ρ,c,C,sm,eo,hf,hc,q⟩=>by
  obtain⟨b,h,hf⟩:=bs hf;refine⟨HF,ρ,b,sm,eo,h,λH' V9 G=>?_⟩;cases b with
  | true=>exact wc ⟨V9,ρ,c,C,G.fh,eo.mono G.ff,hf,hc,λH2 Wu G2=>q H2 Wu (G.trans G2)⟩
  | false=>exact sH ⟨V9,ρ,c,C,G.fh,eo.mono G.ff,hf,hc,λH2 Wu G2=>q H2 Wu (G.trans G2)⟩
def Lz{K:W.Frag}{D:Ends}(h:tX K mg V7 V8 E (λρ=>xf (aK ρ)) D σ H):Vw K mg E xf σ H Q:=by
 obtain⟨HF,ρ,c,C,S,hx,hc,q⟩:=h;exact⟨H,aK ρ,c,C,.refl _,S.all,hx,hc,λH' V9 G=>q H' HF (S.step G.hh).gr⟩
def Qx(h:G8 X E e xf)(hs:swapsWith e none pos.line X.env=pure false:=by rfl):DX X E V7 V8 (.Expr e pos) (λρ=>xf (aK ρ)):=cO (pD h hs) λD σ H q=>Lz q
def Pz(h:G8 X E e xf):DX X E V7 V8 (.Return (some e) pos) (λρ=>xf (aK ρ)):=cO (Ez h) λD σ H q=>Lz q
def u4{st:Stmt}(h:DX X E V7 V8 st xg):IY X E V7 V8 (st::rest) xg:=λpins s σ H D I q=>by
 refine vK (cM (h pins s σ H ⟨λ_ _=>False,λ_ _=>False,λ_ _=>False,λ_ _=>False⟩ I q) λf s1 z=>?_);cases f with
 | next=>obtain⟨_,_,_,z⟩:=z;exact z.elim
 | brk=>obtain⟨_,_,_,z⟩:=z;exact z.elim
 | cont=>obtain⟨_,_,_,z⟩:=z;exact z.elim
 | ret u=>obtain⟨_,_,_,_,_,z⟩:=z;exact z.elim
def EF(g:ar->Option Out)(xg:ar->Option Str):ar->Option Str:=λρ=>(g ρ).bind λo=>match o with|.nx ρ'=>xg ρ'|.rt _=>none
def BL{st:Stmt}(h:DS X.WD V7 V8 st g)(hr:IY X E V7 V8 rest xg):IY X E V7 V8 (st::rest) (EF g xg) :=
 sZ (jm (PQ h) hr) λD σ H ⟨HF,ρ,c,C,S,hx,hc,q⟩=>by
  obtain⟨o,ho,hx⟩:=bs hx;cases o with
  | rt d=>cases hx
  | nx ρ'=>exact⟨HF,ρ,.nx ρ',S,ho,λσ' H' V9 S' _=>⟨V9,ρ',c,C,S',hx,hc,q⟩⟩
def Ly(t:Dl.Env->Option Bool)(xa xb:ar->Option Str):ar->Option Str:=λρ=>(t (aK ρ)).bind λb=>if b=true then xa ρ else xb ρ
def Sv(hc:DT X.WD c t)(ha:IY X E V7 V8 a xa)(hb:IY X E V7 V8 b xb):DX X E V7 V8 (.If c a b pos) (Ly t xa xb) :=
 cO (LZ (PT.WD hc) ha hb) λD σ H ⟨HF,ρ,c,C,S,hx,hc,q⟩=>by
  obtain⟨b,h,hx⟩:=bs hx;refine⟨H,aK ρ,b,.refl _,S.all,h,λH' V9 G=>?_⟩;cases b with
  | true=>exact wc ⟨HF,ρ,c,C,S.step G.hh,hx,hc,q⟩
  | false=>exact sH ⟨HF,ρ,c,C,S.step G.hh,hx,hc,q⟩
def Ll(hk:Xk X E)(hc:X.calm=true)(hg:Gl X x)(hm:X.mg x=some (.ref C))(q:W.excIn X.K C Qb "ValueError.__new__"=true)(WI:(x == ("__debug__":Str))=false:=by decide) :
  DX X E V7 V8 (.Raise (some (.Call (.Name x np) [.Constant (.str t) i p] [] cpos)) none pos) (λ_=>some x):=λpins s σ H D I ⟨HF,ρ,c,C',S,hx,Xj,z⟩=>by
 cases hx;rw[hm] at Xj;cases Xj;exact Lp I hc hg hm q hk.hs hk.hf hk.hex hk.hxe (z H HF S.gr) WI
end
def oQ(xg:ar->Option Str)(n:Nat)(args:List D):Option Str:=xg (args.map Slot.val++List.replicate (n - args.length) .V6)
def Di{K:W.Frag}(sm:aS HF H)(tb:fK K HF)(rr:ax K HF ds vs):lD K HF H HF H (ds.map Slot.val++List.replicate (N.length - ds.length) .V6) (L2.start N vs):=by
 refine⟨.refl sm,λi e h=>?_,λi es h=>?_,λi j es fs a h=>?_,?_,tb⟩
 ·have hi:i < ds.length:=by
   by_cases hi:i < ds.length
   ·exact hi
   ·rw[yU (by simpa using hi),yY] at h;split at h<;>cases h
  rw[yT (by simpa using hi),zO] at h;obtain⟨d',ZU,h⟩:=ag h;cases h;obtain⟨v,hv,rv⟩:=rr.getD ZU;refine⟨v,?_,rv⟩;unfold L2.start;rw[yT (by simpa [rr.length] using hi),zO,hv];rfl
 ·exfalso;by_cases hi:i < ds.length
  ·rw[yT (by simpa using hi),zO] at h;obtain⟨d',ZU,h⟩:=ag h;cases h
  ·rw[yU (by simpa using hi),yY] at h;split at h<;>cases h
 ·exfalso;by_cases hi:i < ds.length
  ·rw[yT (by simpa using hi),zO] at h;obtain⟨d',ZU,h⟩:=ag h;cases h
  ·rw[yU (by simpa using hi),yY] at h;split at h<;>cases h
 ·unfold L2.start;rw[zN,zN,zD,zD,xN,xN,rr.length];exact yN _
def fnX{K:W.Frag}{st:Stmt}(F:JO K x qual st f fd)(S:dk N ps (aj st))(hb:Binds K fd ps [])(hm:mg x=some (.ref f))
  (body:∀ (X:Cx) (E:XK),X.prog=P->X.w=w->X.K=K->X.mg=mg->X.base=base->Bk X.WD N (aj st) k->X.calm=true->Xk X E->∀V7 V8,IY X E V7 V8 (bG st) xg):yl P w K mg base (k+1) x ps.length (oQ xg N.length):=by
 refine⟨f,fd,ps,?_,hm,F.kp,hb⟩;obtain⟨oc,od,kV,doc,pm,an,Wt,ct,Yi,rfl,lk,WS⟩:=F.ex;refine LY lk WS S (λvs H Q E ⟨HF,ds,c,C,h1,_,h2,h3,_⟩=>by rw[h2.length,h3]) λA outer s H vs Q E hr ⟨HF,ds,c,C,sm,tb,rr,hl,hd,hc,q⟩=>?_;refine⟨_,body (uR (EG P w) P w K mg base N qual (aj st) f Wt A outer s H E) E rfl rfl rfl rfl rfl ⟨rfl,S.nd,λy kd hy=>.inl hy,rfl,λ_ _=>rfl,hr,rfl,S.kind⟩ rfl ⟨rfl,rfl,rfl,λe s' z=>xB z (λ_ _ h=>h) λ_ _ h=>h.elim⟩ HF H,?_⟩;exact⟨HF,_,c,C,Di sm tb rr,hd,hc,q⟩
section
variable {X:Cx}{pins:List (Addr×Obj)}{σ:L2.St}{H H':Hp}{s s':Shared}{cls:Value}{ea:Addr}
def JZ(I:Inv X pins σ H s)(XX:Un (jb X.stack) [] H H' s.heap s'.heap)(Wb:pU X.prog X.w H' s'.heap)
  (Xa:B.StaysIn s'.heap) (hff:s'.heap.FunFrames B X.stack) (hB:∀b,b∉jb X.stack->(H' b≠none\/∃o,s.heap.get? b=some o)->∃o,B.get? b=some o) (x1:B.StaysIn h') (x2:s'.heap.UpToSlots h') :
  Un (jb X.stack) [] H H' s.heap h'/\pU X.prog X.w H' h':=by
 have Y1:∀b∈jb X.stack,H' b=none:=λb hb=>by
  obtain⟨_,o,ho,_⟩:=I.stack.mem hb;exact XX.free b o ho (I.W2 b hb) (by simp)
 have Mp:∀b u,H' b≠none->s'.heap.get? b=some u->h'.get? b=some u:=λb u hn e=>by
  obtain⟨o,eo⟩:=hB b (λz=>hn (Y1 b z)) (.inl hn);have:=Xa b o eo;rw[e] at this;cases this;exact x1 b u eo
 have old:∀b o o2,b∉jb X.stack->s.heap.get? b=some o->s'.heap.get? b=some o2->h'.get? b=some o2:=λb o o2 hb e e2=>by
  obtain⟨o3,eo⟩:=hB b hb (.inr ⟨o,e⟩);have:=Xa b o3 eo;rw[e2] at this;cases this;exact x1 b o2 eo
 have Ya:∀b∈jb X.stack,∀o,s'.heap.get? b=some o->∃sl,h'.get? b=some { o with slots:=sl }:=λb hb o e=>by
  obtain⟨_,o2,e2,d2⟩:=hff.mem hb;rw[e] at e2;cases e2;exact x2 b o e d2
 refine⟨⟨λb o e n hb _=>?_,λb o e n hb _=>?_,λb o e n _=>XX.free b o e n (by simp),λb o e _=>?_,XX.Xb,XX.WZ,?_⟩,λa o e=>?_⟩
 ·exact old b o o hb e (XX.keep b o e n hb (by simp))
 ·obtain⟨XC,e2⟩:=XX.slot b o e n hb (by simp);obtain⟨sl3,e3⟩:=Ya b hb _ e2;exact⟨sl3,e3⟩
 ·obtain⟨o2,e2⟩:=XX.there b o e (by simp);by_cases hb:b∈jb X.stack
  ·obtain⟨sl,e3⟩:=Ya b hb o2 e2;exact⟨_,e3⟩
  ·exact⟨o2,old b o o2 hb e e2⟩
 ·exact XX.WR.trans (.kept (λb u ⟨q,z⟩ e=>Mp b u (by rw[z];simp) e) λ_ _ e _=>e)
 ·refine (Wb a o e).WQ (λb u hb q=>Mp b u ?_ q) (λ_ q=>q) λ_ _ q _=>q;rcases hb with rfl|z
  ·rw[e];simp
  ·rw[z];simp
def Hx.inv(I:Inv X pins σ H s)(F:Hx X.prog X.w X.stack H s cls ea H' s'):Inv X pins σ H' s':=I.Y4 F.os F.un F.Wb F.bare (λb hb=>absurd hb (by simp))
def Hx.WQ(I:Inv X pins σ H s)(F:Hx X.prog X.w X.stack H s cls ea H' s')(WV:Heap.FlyingW B X.stack ea cls a0 s'.heap)(hB:∀b,b∉jb X.stack->(H' b≠none\/∃o,s.heap.get? b=some o)->∃o,B.get? b=some o)
  (x1:Heap.FlyingW B X.stack ea cls a0 h') (x2:s'.heap.UpToSlots h'):Hx X.prog X.w X.stack H s cls ea H' { s' with heap:=h' }:=by
 obtain⟨u,k⟩:=JZ I F.un F.Wb WV.1 WV.2.2.1 hB x1.1 x2;exact⟨F.os,F.bare,u,k,B,a0,x1,hB⟩
def land{M:Model}{E:Value->Shared->Prop}{Q:Unit->Shared->Prop}(I:Inv X pins σ H s)(hs:X.stack=X.env::X.outer)(hf:X.env.frame=some X.env.locals)(F:Hx X.prog X.w X.stack H s cls ea H' s')
  (k:∀h',Hx X.prog X.w X.stack H s cls ea H' { s' with heap:=h' }->Q () { s' with heap:=h' }) :
  wpAny M X.A (noteFrame (.ref ea) X.env) (λ_ s2=>wpAny M X.A (setFlight (.ref ea) none) Q E s2) E s':=by
 obtain⟨B,a0,WV,hB⟩:=F.fly;refine wpAny_looks_onW (base:=B) (a0:=a0) (cls:=cls) (by rw[I.ok.frames,hs]) hf (by rw[<- hs];exact WV) λh4 hh x2=>?_;refine wpAny_landsW (s:={ s' with heap:=h4 }) hh λh5 y1 y2=>k h5 ?_;exact F.WQ I WV hB (by rw[hs];exact y1) (x2.trans y2)
def again{M:Model}{A:Around}{E:Value->Shared->Prop}{Q:Unit->Shared->Prop}(I:Inv X pins σ H s)(F:Hx X.prog X.w X.stack H s cls ea H' s')
  (k:∀h',Hx X.prog X.w X.stack H s cls ea H' { s' with heap:=h' }->Q () { s' with heap:=h' }):wpAny M A (setFlight (.ref ea) none) Q E s':=by
 obtain⟨B,a0,WV,hB⟩:=F.fly;exact lands_againW WV λh5 y1 y2=>k h5 (F.WQ I WV hB y1 y2)
end
section
abbrev k6(X:Cx)(A':Around):Cx:={ X with A:=A',calm:=false }
def uH(I:Inv X pins σ H s)(YX:A'.frames=X.A.frames):Inv (k6 X A') pins σ H s :=
 let ok:=I.ok
 ⟨⟨ok.mod,ok.kind,ok.glob,ok.blt,ok.above,ok.inj,ok.has,ok.cab,λz=>(by cases z),YX.trans ok.frames,ok.Y1,ok.exf,ok.bs,ok.Y2,ok.XY,ok.Ye,ok.W0,ok.ZT⟩,I.os,I.bare,I.base,I.loc,I.cell,I.free,I.Wh,I.pin,I.Wb,I.len⟩
def DR(ok:X.Ok)(I:Inv (k6 X A') pins σ H s):Inv X pins σ H s:=⟨ok,I.os,I.bare,I.base,I.loc,I.cell,I.free,I.Wh,I.pin,I.Wb,I.len⟩
def EE{t':Nat}(I:Inv X pins σ H s)(hn:h'.Ns X.env.locals m')(hs:Heap.SameBut X.env.locals s.heap h'):Inv X pins (List.replicate X.N.length none) H { s with heap:=h',toks:=t' }:=by
 have ZV:∀b o,X.Wf.heap.get? b=some o->b≠X.env.locals:=λb o e=>yS (zP (zY e) I.ok.above);have kp:∀b o,b≠X.env.locals->s.heap.get? b=some o->h'.get? b=some o:=λb o ne e=>(hs.2 b ne).trans e;have tr:∀b u,H b=some u->b≠X.env.locals:=λb u e z=>by rw[z,I.free] at e;cases e
 refine⟨I.ok,I.os,I.bare,⟨λb o e n hb hx=>kp b o (ZV b o e) (I.base.keep b o e n hb hx),λb o e n hb hx=>?_,I.base.free,λb o e hx=>?_,I.base.Xb,I.base.WZ,?_⟩,⟨m',hn,λi x v _ h2 _=>?_⟩,λx c e=>?_,I.free,I.Wh,λp hp=>?_,λa o e=>?_,?_⟩
 ·obtain⟨sl,e1⟩:=I.base.slot b o e n hb hx;exact⟨sl,kp b _ (ZV b o e) e1⟩
 ·obtain⟨o',e1⟩:=I.base.there b o e hx;exact⟨o',kp b _ (ZV b o e) e1⟩
 ·exact I.base.WR.trans (.kept (λb u ⟨q,z⟩ e=>kp b u (tr b _ z) e) λ_ _ e _=>e)
 ·rw[yY] at h2;split at h2<;>cases h2
 ·obtain⟨v,o,ho,hd⟩:=I.cell x c e;exact⟨v,o,kp c o (I.cne x c e) ho,hd⟩
 ·obtain⟨e,n,ne,r⟩:=I.pin p hp;exact⟨kp _ _ ne e,n,ne,r⟩
 ·refine (I.Wb a o e).WQ (λb u hb q=>kp b u ?_ q) (λ_ q=>q) λ_ _ q _=>q;rcases hb with rfl|z
  ·exact tr b _ e
  ·exact tr b _ z
 ·simp
def ExcAt(l:List PySem.Env)(H:Hp)(h:Heap)(ea:Addr)(cls:Value):Prop:=(∃ob vs,h.get? ea=some ob/\ob.cls=cls/\ob.data=.fields vs)/\H ea=none/\ea∉jb l
def Qy{rest:List ExceptHandler}{D:Ends}(I:Inv X pins σ H s)(F:Hx X.prog X.w X.stack H s cls ea H' s')(hg:Gl X x)(hm:X.mg x=some (.ref C))(WI:(x == ("__debug__":Str))=false)
  (hx:W.exmOne X.K cls (.ref C)=some true) (hN:X.N.Nodup) (hi:X.N[i]?=some n) (hl:X.env.kindOf n=some .local) (Yb:X.env.scope.names.lookup n=some .local) (W8:X.env.cells.lookup n=none)
  (k:∀s2,Inv (k6 X (X.A.mark (some (.ref ea)))) pins (σ.set i (some (.ref ea))) H' s2->ExcAt X.stack H' s2.heap ea cls ->
   wpAny (model X.prog X.w) (X.A.mark (some (.ref ea))) (execs (abh::ZE) X.env) (λf s3=>∃u v σ' H3,f=.ret u/\Inv (k6 X (X.A.mark (some (.ref ea)))) pins σ' H3 s3/\RelV v u/\D.rt v H3) (λ_ _=>False) s2) :
  wpAny (model X.prog X.w) X.A (handleBy (.ref ea) X.env (.ExceptHandler (some (.Name x np)) (some n) (abh::ZE) pos::rest)) (SP X pins D) X.xe s':=by
 have YX:(X.A.mark (some (.ref ea))).frames=X.A.frames:=rfl;have I1:=F.inv I;obtain⟨B,a0,WV,hB⟩:=F.fly;obtain⟨ob,hob,aek⟩:=WV.there;refine wpAny_handleBy_cons (codeAny_handlers_test ?_) (by intro q;cases q);refine mX (X:=k6 X (X.A.mark (some (.ref ea)))) (uH I1 YX) hg hm ?_ WI;have LT:W.Looks (model X.prog X.w) s'.heap (typeOf (.ref ea)) cls:=λA Q E s2 k2 q=>wpAny_typeOf_ref (k2 _ _ hob) (by rw[aek];exact q);refine (W.exm_one I1.XZ LT hx).here ?_;refine codeAny_handlers_suite_as ?_;refine again I F λh2 F2=>?_;obtain⟨B2,a2,abi,hB2⟩:=F2.fly;obtain⟨oe,vs,T,oT,ts,he,⟨hec,_⟩,hed,_⟩:=abi.2.2.2;refine qs (X:=X) (i:=i) (v:=.ref ea) (F2.inv I) hN hi (.inl Yb) rfl (λs2 I2 hsb=>?_) (.inr Yb);obtain⟨a,hsb,ha⟩:=hsb;have hal:a=X.env.locals:=by
  rcases ha with h|h
  ·exact h
  ·rw[W8] at h;cases h
 subst hal;have Wz:ea≠X.env.locals:=λz=>by
  obtain⟨m,⟨o,es,ep,ho,hd,_⟩,_⟩:=(F2.inv I).loc;rw[<- z] at ho;have:oe=o:=by rw[he] at ho;exact xE ho
  rw[<- this,hed] at hd;cases hd
 have hnf:ea∉jb X.stack:=λz=>by
  obtain⟨_,o2,e2,d2⟩:=abi.2.2.1.mem z;have:oe=o2:=by rw[he] at e2;exact xE e2
  exact d2 vs (this ▸ hed)
 have ZZ:H' ea=none:=by
  cases q:H' ea with
  | none=>rfl
  | some u =>
   obtain⟨o,eo⟩:=hB2 ea hnf (.inl (by rw[q];simp));rw[abi.2.1] at eo;cases eo
 refine xB (k s2 (uH I2 YX) ⟨⟨oe,vs,(hsb.2 ea Wz).trans he,hec,hed⟩,ZZ,hnf⟩) (λf s3 hz=>?_) λ_ _ z=>z.elim;obtain⟨u,v,σ',H3,rfl,I3,r,d⟩:=hz;have I4:=DR I1.ok I3;obtain⟨m3,hn3,_⟩:=id I4.loc;exact wpAny_nameGoes hl hn3 (by rw[I4.ok.kind];rfl) λh' m' XU aem=>⟨v,_,H3,EE I4 XU aem,r,d⟩
end
abbrev hU(X:Cx)(pn:List (Addr×Obj))(xe:Value->Shared->Prop):Cx:={ X with pn:=pn,xe:=xe }
section
def KL(ok:X.Ok):(hU X pn xe).Ok :=
 ⟨ok.mod,ok.kind,ok.glob,ok.blt,ok.above,ok.inj,ok.has,ok.cab,ok.hd,ok.frames,ok.Y1,ok.exf,ok.bs,ok.Y2,ok.XY,ok.Ye,ok.W0,ok.ZT⟩
def FV(I:Inv X pins σ H s)(h:∀p∈pn++pins',p∈X.pn++pins):Inv (hU X pn xe) pins' σ H s :=
 ⟨KL I.ok,I.os,I.bare,I.base,I.loc,I.cell,I.free,I.Wh,λp hp=>I.pin p (h p hp),I.Wb,I.len⟩
def HM(ok:X.Ok)(I:Inv (hU X pn xe) pins' σ H s)(h:∀p∈X.pn++pins,p∈pn++pins'):Inv X pins σ H s :=
 ⟨ok,I.os,I.bare,I.base,I.loc,I.cell,I.free,I.Wh,λp hp=>I.pin p (h p hp),I.Wb,I.len⟩
def Gz(X:Cx)(i:Nat)(ss:List Stmt)(c:Str)(d:D):Prop:=∀ (pn pins:List (Addr×Obj)) (xe:Value->Shared->Prop) (σ:L2.St) (H:Hp) (s:Shared) (ea C:Addr),X.mg c=some (.ref C)->Inv (k6 (hU X pn xe) (X.A.mark (some (.ref ea)))) pins σ H s->σ[i]?=some (some (.ref ea)) ->
 ExcAt X.stack H s.heap ea (.ref C)->wpAny (model X.prog X.w) (X.A.mark (some (.ref ea))) (execs ss X.env) (λf s3=>∃u v σ' H3,f=.ret u/\Inv (k6 (hU X pn xe) (X.A.mark (some (.ref ea)))) pins σ' H3 s3/\RelV v u/\∀HF,aS HF H->∃WL,bX HF H WL H3/\Rep X.K WL d v) (λ_ _=>False) s
def C0(gb:ar->Option Out)(xg:ar->Option Str)(fin:Str->Option D):ar->Option Out:=λρ=>match gb ρ with
 | some (.rt d)=>some (.rt d)
 | some (.nx _)=>none
 | none=>(xg ρ).bind λc=>(fin c).map Out.rt
def QR{fin:Str->Option D}(hs:X.stack=X.env::X.outer)(hf:X.env.frame=some X.env.locals)
  (hg:Gl X x) (hm:X.mg x=some (.ref CF)) (WI:(x == ("__debug__":Str))=false) (hN:X.N.Nodup) (hi:X.N[i]?=some n) (hl:X.env.kindOf n=some .local) (Yb:X.env.scope.names.lookup n=some .local) (W8:X.env.cells.lookup n=none)
  (Wb:G9 X.WD V7 V8 body gb) (hx:∀pn xe E,gq (EG X.prog X.w) (hU X pn xe) E->IY (hU X pn xe) E V7 V8 body xg)
  (aen:∀c d,fin c=some d->(∀C,X.mg c=some (.ref C)->W.exmOne X.K (.ref C) (.ref CF)=some true)/\(∃C,X.mg c=some (.ref C))/\Gz X i (abh::ZE) c d) :
  DS X V7 V8 (.Try body [.ExceptHandler (some (.Name x np)) (some n) (abh::ZE) Xe] [] [] pos) (C0 gb xg fin):=by
 intro pins s σ H D I ⟨HF,ρ,o,S,hgo,q⟩;refine wpAny_Try_except ?_;unfold C0 at hgo;split at hgo
 ·rename_i d hgb;cases hgo;refine xB (AH.WD Wb pins s σ H { D with nx:=λ_ _=>False,bk:=λ_ _=>False,ct:=λ_ _=>False } I ⟨HF,ρ,.rt d,S,hgb,q⟩ |> λ_=>Wb pins s σ H { D with nx:=λ_ _=>False,bk:=λ_ _=>False,ct:=λ_ _=>False } (I.W4 _) ⟨HF,ρ,.rt d,S,hgb,q⟩) (λf s1 z=>?_) λ_ _ z=>z.elim;cases f with
  | next=>obtain⟨_,_,_,z⟩:=z;exact z.elim
  | brk=>obtain⟨_,_,_,z⟩:=z;exact z.elim
  | cont=>obtain⟨_,_,_,z⟩:=z;exact z.elim
  | ret u=>exact SP.Wq (D:=D) z
 ·cases hgo
 ·obtain⟨c,hc,hgo⟩:=bs hgo;obtain⟨d,hd,rfl⟩:=ag hgo;obtain⟨hex,⟨C,hC⟩,hsu⟩:=aen c d hd;have hxm:=hex C hC;let E1:XK:=λcls _ H'=>cls=.ref C/\∃V9,bX V7 V8 V9 H';let xeT:Value->Shared->Prop:=λe s1=>∃pins' σ' Hc s0 ea H',e=.ref ea/\Inv (hU X (X.pn++pins) X.xe) pins' σ' Hc s0/\Hx X.prog X.w X.stack Hc s0 (.ref C) ea H' s1/\∃V9,bX V7 V8 V9 H';have hp:gq (EG X.prog X.w) (hU X (X.pn++pins) xeT) E1:=λpins' σ' Hc s0 e s1 Ic hcx=>by
   obtain⟨ea,cls,H',rfl,F,rfl,V9,G⟩:=hcx;exact⟨pins',σ',Hc,s0,ea,H',rfl,⟨KL I.ok,Ic.os,Ic.bare,Ic.base,Ic.loc,Ic.cell,Ic.free,Ic.Wh,Ic.pin,Ic.Wb,Ic.len⟩,F,V9,G⟩
  have hI:Inv (hU X (X.pn++pins) xeT) [] σ H s:=FV I λp hp=>by rw[qG] at hp;exact hp
  refine xB (hx _ _ E1 hp [] s σ H ⟨λ_ _=>False,λ_ _=>False,λ_ _=>False,λ_ _=>False⟩ hI ⟨HF,ρ,c,C,S,hc,hC,λH' V9 G=>⟨rfl,V9,G⟩⟩) (λf s1 z=>?_) λe s1 z=>?_
  ·exfalso;cases f with
   | next=>obtain⟨_,_,_,z⟩:=z;exact z
   | brk=>obtain⟨_,_,_,z⟩:=z;exact z
   | cont=>obtain⟨_,_,_,z⟩:=z;exact z
   | ret u=>obtain⟨_,_,_,_,_,z⟩:=z;exact z
  ·obtain⟨pins',σ',Hc,s0,ea,H',rfl,Ic,F,V9,G⟩:=z;refine land (X:=hU X (X.pn++pins) X.xe) Ic hs hf F λh' F'=>?_;refine cM (Qy (X:=hU X (X.pn++pins) X.xe) (D:=⟨λ_ _=>False,λv H3=>D.rt v H3,λ_ _=>False,λ_ _=>False⟩) Ic F' hg hm WI hxm hN hi hl Yb W8 λs2 I2 hob=>?_) λf s3 z=>?_
   ·have hlen:i < σ'.length:=by rw[Ic.len];exact (List.getElem?_eq_some_iff.mp hi).1
    refine xB (hsu _ _ _ _ _ _ _ C hC I2 (by simp[hlen]) hob) (λf s3 z=>?_) λ_ _ z=>z;obtain⟨u,v,Yg,H3,rfl,I3,r,z⟩:=z;obtain⟨WL,g3,rp⟩:=z V9 G.fh;exact⟨u,v,Yg,H3,rfl,I3,r,q v H3 WL (G.trans g3) rp⟩
   ·cases f with
    | next=>obtain⟨_,_,_,z⟩:=z;exact z.elim
    | brk=>obtain⟨_,_,_,z⟩:=z;exact z.elim
    | cont=>obtain⟨_,_,_,z⟩:=z;exact z.elim
    | ret u =>
     obtain⟨v,Yg,H3,I3,r,z⟩:=z;exact⟨v,Yg,H3,HM I.ok I3 λp hp=>qK _ hp,r,z⟩
end
structure GU(P:Program)(w:World)(K:W.Frag)(mg:Str->Option Value)(base:Heap)(k:Nat)(x c:Str)(d:D):Prop where
 ex:∃ (f:Addr) (fd:FuncData) (ps:List Str),mg x=some (.ref f)/\W.keepIn K (.ref f)=true/\Binds K fd ps []/\ps.length=1 /\
  ∀ (A:Around) (outer:List PySem.Env) (s:Shared) (H:Hp) (args:Args) (ea C:Addr),A.depth+3 * k+5 < recursionLimit->A.units+16 * k+200 < cLine->DY P w K mg base A outer s H->BindsTo s fd args (ps.zip [.ref ea])->mg c=some (.ref C)->ExcAt outer H s.heap ea (.ref C) ->
   codeAny (model P w) A (.call (.ref f) args) (λr s'=>∃u,r=.ok (.ret u)/\CE outer P w H s (λv H'=>∀HF,aS HF H->∃V9,bX HF H V9 H'/\Rep K V9 d v) u s') s
section
def HY(R:GU X.prog X.w X.K X.mg X.base k x c d)(hr:eR k X.A)(hg:Gl X x)(WI:(x == ("__debug__":Str))=false)(hi:X.N[i]?=some n)(hl:X.env.kindOf n=some .local)(Yb:X.env.scope.names.lookup n=some .local)(Xn:(n == ("__debug__":Str))=false) :
  Gz X i [.Return (some (.Call (.Name x p) [.Name n pe] [] cpos)) pos] c d:=by
 obtain⟨f,fd,ps,hm,hk,hb,W5,run⟩:=R.ex;intro pn pins xe σ H s ea C hC I hσ hob;have ev:∀ {Q:Value->Shared->Prop},Q (.ref ea) s->wpAny (model X.prog X.w) (X.A.mark (some (.ref ea))) (eval (.Name n pe) X.env) Q (λ_ _=>False) s:=λ{Q} q=>by
  obtain⟨m,hn,hlo⟩:=I.loc;obtain⟨u,r,l⟩:=hlo i n (.ref ea) hi hσ (.inl Yb);have r:u=.ref ea:=r;subst r;rcases l with ⟨hk,hm⟩|⟨hk,_⟩
  ·exact wV (wK I.ok.kind hk hn hm q) Xn
  ·have hk:X.env.kindOf n=some .cell\/X.env.kindOf n=some .free:=hk;rw[hl] at hk;rcases hk with hk|hk<;>cases hk
 have key:wpAny (model X.prog X.w) (X.A.mark (some (.ref ea))) (eval (.Call (.Name x p) [.Name n pe] [] cpos) X.env) (EP (k6 (hU X pn xe) (X.A.mark (some (.ref ea)))) pins σ (λv H'=>∀HF,aS HF H->∃V9,bX HF H V9 H'/\Rep X.K V9 d v)) (λ_ _=>False) s:=by
  refine qZ (mX I hg hm ?_ WI);refine W.callWith_K (h₀:=X.base) I.ok.mod.kin hk (jK (ev (kL ⟨I.XZ,?_⟩))) rfl rfl;refine vP (jT (run _ X.stack s H ⟨[.ref ea],[]⟩ ea C hr.dp hr.un I.abK (by have:=hb s [.ref ea] I.XZ (by simp[W5]);simpa using this) hC hob) λr s' hq=>?_);obtain⟨u,rfl,hq⟩:=hq;exact I.after hq
 refine vK (wpAny_Return_some (xB key (λu s3 z=>?_) λ_ _ z=>z));obtain⟨v,H3,I3,r,z⟩:=z;exact⟨u,v,σ,H3,rfl,I3,r,z⟩
end
open PySem PySem.W PySem.Spec PySem.Calls PyProof.Rows
section
variable {K:Frag}{x D:Addr}
def HN(X:K.In h)(ha:findIn K (.ref D) name=some (some a))(hg:specialIn K a "__get__"=some (some g))(ht:takesIn K a=some true):Looks M h (Builtin.ObjectAttr.find self (.ref D) name) (.bind g a):=by
 refine (looks_findIn X ha).andThen ?_;refine (show Looks M h (Builtin.ObjectAttr.getOf (some a)) (some g) from looks_specialIn X hg).andThen ?_;refine (show Looks M h (Builtin.ObjectAttr.dataDescriptor? (some a) (some g)) (some (g,a)) from (looks_takesIn X ht).andThen .now).andThen ?_;exact Looks.tag .now
def L4(X:K.In s.heap)(L0:Looks (model prog w) s.heap (typeOf (.ref x)) (.ref D))(hm:mroIn K D (.type "object")=some true)
  (h:R (.ok (.ret (.ref D))) s):codeAny (model prog w) A (.call (.builtin "getset_descriptor.__get__") ⟨[.builtin "object.__class__",.ref x,tp],[]⟩) R s:=by
 have LI:Looks (model prog w) s.heap (isInstance (.ref x) (.type "object")) true:=L0.andThen (looks_mroIn X hm);obtain⟨hh,g,dr,t,os⟩:=s;refine wL KF.slot_gs.plain KF.entry_gs (KF.slot_gs.check _ _ _ _ _ _ _ _ KF.type_class (KF.args_gs _ _ _) ?_);unfold Builtin.«getset_descriptor.__get__» Builtin.Getset_descriptor.descrGet;rw[dga_obj];refine zV (zW ?_);unfold Builtin.Getset_descriptor.descrGetter Builtin.Getset_descriptor.descrCheckInstance Builtin.Getset_descriptor.descrNameAndClass;simp only[KF.owner_class]
 repeat lk
 refine⟨Za _ (by decide +kernel),kH KF.entry_class ?_⟩;unfold Builtin.«object.__class__» shownTypeOf
 repeat lk
 exact h
def HC(X:K.In s.heap)(ho:s.heap.get? x=some ox)(W8:ox.cls=.ref D)(hga:findIn K (.ref D) "__getattribute__"=some (some (.builtin "BaseException.__getattribute__")))(ZZ:findIn K (.ref D) "__getattr__"=some none)
  (ha:findIn K (.ref D) "__class__"=some (some (.builtin "object.__class__"))) (hn:specialIn K (.builtin "object.__class__") "__get__"=some (some (.builtin "getset_descriptor.__get__"))) (htk:takesIn K (.builtin "object.__class__")=some true) (hm:mroIn K D (.type "object")=some true) (hb:subIn K (.ref D) (.type "BaseException")=some true)
  (h:Q (some (.ref D)) { s with toks:=s.toks+1 }):wpAny (model prog w) A (getAttr? (.ref x) "__class__") Q E s:=by
 obtain⟨hh,g,d,t,os⟩:=s;have L0:Looks (model prog w) hh (typeOf (.ref x)) (.ref D):=W8 ▸ (Looks.ld ho).andThen .now;have L1:=looks_findIn (M:=model prog w) X hga;have L2:=looks_findIn (M:=model prog w) X ZZ;have LF:=HN (M:=model prog w) (self:=.ref x) X ha hn htk;have LI:Looks (model prog w) hh (isInstance (.ref x) (.type "BaseException")) true:=L0.andThen (looks_subIn X hb);unfold getAttr? getAttrBy? getAttrBy;refine zV (wpAny_mkText (zV (kX (xY (zV (L0.at (zV (L1.at ?_))))))));have hx2:(Value.builtin "BaseException.__getattribute__" == Value.builtin "object.__getattribute__")=false:=by decide +kernel
 simp only[hx2,vC,yP,qQ];unfold getAttrByItsOwn hookBefore;refine zV ?_;show wpAny _ _ (typeLookup (.ref D) "__getattr__") _ _ _;refine L2.at ?_;refine zV (kX (xY ?_));show wpAny _ _ (boundAndCalled (.builtin "BaseException.__getattribute__") (.ref x) (.str "__class__" t)) _ _ _;unfold boundAndCalled;refine zV (wpAny_of_eq (F.attr_ValueError.ga.bind (.ref x)) ?_);refine vP (wL F.attr_ValueError.ga.plain F.entry_bexc_ga ?_);have hk:builtinKind "BaseException.__getattribute__"=some .slot:=by decide +kernel
 have abk:splitId "BaseException.__getattribute__"=some ("BaseException","__getattribute__"):=by decide +kernel
 simp only[checkBuiltinCall,hk,abk];refine zV (LI.at ?_);simp only[xZ,yP,qQ];have acx:argsOk "BaseException.__getattribute__" ⟨[.ref x]++[.str (Str.ofString "__class__") t],[]⟩:=F.args_bexc_ga _ _;have body:∀ {P:Fin->Shared->Prop}{E':Value->Shared->Prop},P (.done (.ret (.ref D))) ⟨hh,g,d,t+1,os⟩->wpAny (model prog w) A.in1 (Builtin.«object.__getattribute__» ⟨[.ref x]++[.str (Str.ofString "__class__") t],[]⟩) P E' ⟨hh,g,d,t+1,os⟩:=λ{P E'} q=>by
  unfold Builtin.«object.__getattribute__»;refine zV (zW ?_);refine zV (zW ?_);refine zV (L0.at ?_);refine zV (LF.at ?_);show wpAny _ _ (holding [.builtin "object.__class__"] (call (.builtin "getset_descriptor.__get__") [.builtin "object.__class__",.ref x,.ref D]) >>= ret) _ _ _;exact zV (xY (vP (L4 (s:=⟨hh,g,d,t+1,os⟩) X L0 hm (zW q))))
 cases aep:Manifest.signature? "BaseException.__getattribute__" with
 | none=>exact zW (body (handed_on rfl (zW h)))
 | some sig =>
  have ha':Bind.checkArgs "BaseException.__getattribute__" sig ⟨[.ref x]++[.str (Str.ofString "__class__") t],[]⟩=pure ():=by simpa only[argsOk,aep] using acx
  simp only[ha'];exact zW (body (handed_on rfl (zW h)))
structure Ms(K:Frag)(C:Addr):Prop where
 ga:findIn K (.ref C) "__getattribute__"=some (some (.builtin "BaseException.__getattribute__"))
 no:findIn K (.ref C) "__getattr__"=some none
 cl:findIn K (.ref C) "__class__"=some (some (.builtin "object.__class__"))
 hn:specialIn K (.builtin "object.__class__") "__get__"=some (some (.builtin "getset_descriptor.__get__"))
 tk:takesIn K (.builtin "object.__class__")=some true
 ob:mroIn K C (.type "object")=some true
 be:subIn K (.ref C) (.type "BaseException")=some true
 ci:(clsIn K C).isSome=true
def Lc(k:Ms K D):KitX K (.ref x) (.ref D) (λh=>h.get? x=some ox/\ox.cls=.ref D) where
 ty:=λ_ _ _ p=>p.2 ▸ (Looks.ld p.1).andThen .now
 it:=λ_ _ X _=>by
  have hc:=k.ci;unfold clsIn at hc;split at hc
  ·rename_i ho;intro A' Q' E' s' kp q;unfold isType loadHead;exact zV (wpAny_loadPart (kp _ _ (X _ _ ho)) (zW q))
  ·cases hc
 ne:=λh tp dd its n sl X htp=>by
  have hc:=k.ci;refine Bool.eq_false_iff.mpr λq=>?_;have e:D=tp:=Value.ref.inj (beq_iff_eq.mp q);subst e;unfold clsIn at hc;split at hc
  ·rename_i ho;have z:=(X _ _ ho).symm.trans htp;cases z
  ·cases hc
 ca:=λX p q=>HC X p.1 p.2 k.ga k.no k.cl k.hn k.tk k.ob k.be q
def Fx(k:Ms K D)(X:K.In s.heap)(ho:s.heap.get? x=some ox)(hc:ox.cls=.ref D)(e:kitOne K (.ref D) c=some b)(h:∀tk,Q (.bool b) { s with toks:=tk }) :
  wpAny (model prog w) A (call (.builtin "isinstance") [.ref x,c]) Q E s:=kia_one (Lc k) X ⟨ho,hc⟩ e (λz=>nomatch z) h
end
abbrev Fn(A:Around):Around:={ A with handled:=none }
abbrev FK(P:Program)(w:World)(K:W.Frag)(mg:Str->Option Value)(base:Heap)(N:List Str)(qual:Str)(scope:Scope)(f:Addr)(Wt:Value)(A:Around)(outer:List PySem.Env)(s:Shared)(H:Hp)(pn:List (Addr×Obj)):Cx :=
 hU (k6 (uR Ml P w K mg base N qual scope f Wt (Fn A) outer s H E0) (A.deeper (envOfC qual scope s.heap.objs.size f Wt))) pn λ_ _=>False
section
variable {K:W.Frag}
def HX{C:Addr}{st:Stmt}(F:JO K x qual st f fd)(S:dk N ps (aj st))(h1:ps.length=1)
  (hdp:A.depth < recursionLimit) (e0:DY P w K mg base A outer s H) (hb:BindsTo s fd args (ps.zip [.ref ea])) (ho:s.heap.get? ea=some ob) (hd:ob.data=.fields vs) (hn:H ea=none) (hf:ea∉jb outer)
  (body:∀ (Wt:Value) (s1:Shared),Inv (FK P w K mg base N qual (aj st) f Wt A outer s H [(ea,ob)]) [] (L2.start N [.ref ea]) H s1 ->
   wpAny (model P w) (A.deeper (envOfC qual (aj st) s.heap.objs.size f Wt)) (execs (bG st) (envOfC qual (aj st) s.heap.objs.size f Wt)) (λfl s'=>∃u v σ' H',fl=.ret u/\Inv (FK P w K mg base N qual (aj st) f Wt A outer s H [(ea,ob)]) [] σ' H' s'/\RelV v u/\Q v H') (λ_ _=>False) s1) :
  codeAny (model P w) A (.call (.ref f) args) (λr s'=>∃u,r=.ok (.ret u)/\CE outer P w H s Q u s') s:=by
 obtain⟨oc,od,kV,doc,pm,an,Wt,ct,Yi,rfl,lk,WS⟩:=F.ex;have KX:K.In s.heap:=e0.mod.kin.keeps λb o e=>(e0.bs b o e).1;have lim:s.heap.NoLimit:=e0.mod.nolimit.keeps λb o e=>(e0.bs b o e).1;have Y7:∀y∈ps.zip [Value.ref ea],(aj st).names.lookup y.1=some .local \/ ((aj st).names.lookup y.1=some .cell/\((cellsFrom (s.heap.objs.size+1) (aj st).names []).lookup y.1).isSome=true):=λ⟨n,v⟩ hy=>by
  rcases S.par n (vZ hy).1 with q|q
  ·exact .inl q
  ·exact .inr ⟨q,W.cellsFrom_some _ _ _ (.inl q)⟩
 refine codeAny_call_function hdp (KX _ _ lk) rfl S.co S.gen rfl (W.codeRec_of KX WS) (hb _ _ _ _ ?_);refine wpAny_newFunctionEnv_cells S.kind Y7 λenv he s1 x=>?_;subst he;refine⟨lim.keeps x.toInCall.keep,codeAny_func ?_⟩;have e0':DY P w K mg base (Fn A) outer s H:=⟨e0.frames,e0.mod,e0.bs,e0.Y2,e0.W0,e0.ZT,e0.Wb,e0.bare⟩
 have I0:Inv (uR Ml P w K mg base N qual (aj st) f Wt (Fn A) outer s H E0) [] (L2.start N [.ref ea]) H s1:=xw S rfl e0' (by simp[h1]) (.cons rfl .nil) x;have Wg:ea < s.heap.objs.size:=zY ho;have I1:=I0.XI (pins':=[(ea,ob)]) λp hp=>by
  have hp:p=(ea,ob):=by simpa using hp
  subst hp;exact⟨x.toInCall.keep _ _ ho,hn,yS Wg,hf,λv z=>by rw[hd] at z;cases z⟩
 have I2:Inv (FK P w K mg base N qual (aj st) f Wt A outer s H [(ea,ob)]) [] (L2.start N [.ref ea]) H s1:=FV (uH I1 rfl) λp hp=>yE _ (by simpa using hp);refine xB (body Wt s1 I2) (λfl s' z=>?_) λ_ _ z=>z.elim;obtain⟨u,v,σ',H',rfl,J,r,q⟩:=z;exact⟨u,rfl,v,H',J.os,J.bare,J.base,J.Wb,r,q⟩
end
section
def P4{i:Nat}{n y:Str}{ea C:Addr}{ob:Obj}{c:Value}{b:Bool}{p p1 p2 pos:Pos}(k:Ms X.K C)(YZ:(ea,ob)∈X.pn)(X0:ob.cls=.ref C)(hgi:Gl X "isinstance")(YT:X.mg "isinstance"=none)(hi:X.N[i]?=some n)(hl:X.env.kindOf n=some .local)(Yb:X.env.scope.names.lookup n=some .local)(Xn:(n == ("__debug__":Str))=false)
  (hy:∀ {pins:List (Addr×Obj)}{σ:L2.St}{H:Hp}{s:Shared}{Q:Value->Shared->Prop},Inv X pins σ H s->Q c s->wpAny (model X.prog X.w) X.A (eval (.Name y p2) X.env) Q X.xe s) (e:W.kitOne X.K (.ref C) c=some b) :
  PE X (.Call (.Name "isinstance" p) [.Name n p1,.Name y p2] [] pos) (λσ H Q=>σ[i]?=some (some (.ref ea))/\Q (.bl b) H):=by
 intro pins s σ H Q I ⟨hσ,q⟩;have ev:∀ {Q:Value->Shared->Prop},Q (.ref ea) s->wpAny (model X.prog X.w) X.A (eval (.Name n p1) X.env) Q X.xe s:=λ{Q} q=>by
  obtain⟨m,hn,hlo⟩:=I.loc;obtain⟨u,r,l⟩:=hlo i n (.ref ea) hi hσ (.inl Yb);have r:u=.ref ea:=r;subst r;rcases l with ⟨hk,hm⟩|⟨hk,_⟩
  ·exact wV (wK I.ok.kind hk hn hm q) Xn
  ·have hk:X.env.kindOf n=some .cell\/X.env.kindOf n=some .free:=hk;rw[hl] at hk;rcases hk with hk|hk<;>cases hk
 have ho:=(I.pin (ea,ob) (qK _ YZ)).1;refine qZ (ix I hgi YT (u:=.builtin "isinstance") (by decide +kernel) ?_);refine PyProof.Rows.callWith_builtin1 (jK (ev (jK (hy I (kL ?_))))) rfl rfl;exact Fx k I.XZ ho X0 e λtk=>⟨.bl b,H,I.tok tk,rfl,q⟩
end
section
def Ks(d:D)(xs:List D):Nat:=xs.countP λx=>PyData.eqv x d
def Iq(hu:X.A.units+66 < cLine):Qd X "list.count" (λx vs H Q=>∃ (HF:Hp) (ds:List D) (d:D) (y:V),aS HF H/\Rep X.K HF (.list ds) x/\vs=[y]/\Rep X.K HF d y/\SeqAt.shaped d=true/\SeqAt.shaped (.list ds)=true/\Q (.int (Ks d ds)) H):=by
 intro pins s σ H x vs v us Q I rx rv h;obtain⟨HF,ds,d,y,sm,r1,rfl,r2,hd,hl,q⟩:=h;obtain⟨u,rfl,ru⟩:=rv.one;obtain⟨as,ra⟩:=e8 I sm r1 rx;obtain⟨bs,rb⟩:=e8 I sm r2 ru;have c1:=kM hd;have c2:=kM hl;have d1:=SeqAt.depth_of_shaped hd;simp only[PyData.canLay0] at c2;have m:=Nat.min_le_right (PyData.depthAll ds) d.depth;cases ra with
 | list h1 h2 h3 h4 =>
  rename_i l o its n as;obtain⟨cls,dd,data,sl⟩:=o;simp only at h2 h3;subst h2 h3;have hm:=SeqAt.readsAll_map _ _ _ c2 h4;refine qY F.slot_list_count ⟨_,h1,rfl⟩ F.entry_list_count (F.args_list_count_2 _ _) (PySem.SeqAt.list_countAt l its n dd sl u (λy=>PyData.eqv (SeqAt.readOf s.heap y) d)) ⟨h1,?_,?_⟩
  ·exact SeqAt.items_eqAt h4 rb c2 c1 (by lia)
  ·refine⟨.int (Ks d ds),H,I.tok _,⟨s.toks,?_⟩,q⟩;rw[Ks,<- hm,List.countP_map];rfl
def mL(X:Cx)(ea:Addr)(es:List Expr)(bs:List Bool):Prop:=PA X es (λσ H Q=>σ[0]?=some (some (.ref ea))/\Q (bs.map V.bl) H)
def QL:mL X ea [] []:=λpos pins s σ H Q I ⟨_,q⟩=>fT pos pins s σ H Q I q
def M8{bs:List Bool}(h:PE X e (λσ H Q=>σ[0]?=some (some (.ref ea))/\Q (.bl b) H))(hr:mL X ea es bs)(hs:starEach (e::es) X.env=(false,eval e X.env)::starEach es X.env:=by rfl):mL X ea (e::es) (b::bs) :=
 Ft (cK h hr hs) λσ H Q ⟨h0,q⟩=>⟨h0,h0,q⟩
def fV{K:W.Frag}:∀bs:List Bool,ax K H (bs.map PyData.bool) (bs.map V.bl)
 | []=>rfl
 | b::bs=>⟨_,_,rfl,rfl,fV bs⟩
def oA(bs:List Bool):SeqAt.shaped (.list (bs.map PyData.bool))=true:=by
 have h:∀bs:List Bool,PyData.canLayAll0 (bs.map PyData.bool)=true/\PyData.depthAll (bs.map PyData.bool)<=1:=λbs=>by
  induction bs with
  | nil=>exact⟨by simp[PyData.canLayAll0],by simp[PyData.depthAll]⟩
  | cons b bs ih=>exact⟨by simp[PyData.canLayAll0,PyData.canLay0,ih.1],by simp[PyData.depthAll,PyData.depth];lia⟩
 have:=h bs;unfold SeqAt.shaped;rw[zF];exact⟨by simp[PyData.canLay0,this.1],by simp[PyData.depth];lia⟩
def LA{a1 a2 a3 b6:Pos}(hu:X.A.units+66 < cLine)(hN:X.N=[("_law_e":Str),("_law_flags":Str)])(hl:X.env.scope.names.lookup ("_law_flags":Str)=some .local)
  (h1:mL X ea es1 ZP) (h2:mL X ea es2 bs2) (h6:PE X e6 (λσ H Q=>σ[0]?=some (some (.ref ea))/\Q (.bl true) H)) (w6:∀whole,isTrue e6 X.env whole=(do let v <- whole;standAt e6.pos;holding [v] (truthy v)))
  (hc:Ks (.bool true) ((ZP++bs2).map PyData.bool)=1) (hj:tZ (.bool true) ((ZP++bs2).map PyData.bool)=some j) (hz:ZP.length+bs2.length<=sizeLine) (l1:(c2.endLine == c4.line)=true) (l2:(d2.endLine == d4.line)=true) :
  AH X [.Assign [.Name "_law_flags" a1] (.List es1 a2) a3,.Assign [.Name "_law_flags" b1] (.BinOp (.Name "_law_flags" b2) .Add (.List es2 b3) b4) b5,
   .If (.BoolOp .Or [.Compare (.Call (.Attribute (.Name "_law_flags" c1) "count" c2) [.Constant (.bool true) i1 c3] [] c4) [.NotEq] [.Constant (.int 1) i2 c5] c6,.UnaryOp .Not e6 c7] c8) bad [] c9,
   .Return (some (.Tuple [.Constant (.str "refused") i3 d1,.Call (.Attribute (.Name "_law_flags" d3) "index" d2) [.Constant (.bool true) i4 d5] [] d4] k1 d6)) d7]
   (λD σ H=>σ.length=2/\σ[0]?=some (some (.ref ea))/\∀v H',(∀HF,aS HF H->∃V9,bX HF H V9 H'/\Rep X.K V9 (.tuple [.str "refused",.int j]) v)->D.rt v H'):=by
 have Xn:X.N.Nodup:=by rw[hN];decide
 have hi:X.N[1]?=some ("_law_flags":Str):=by rw[hN];rfl
 have hlc:Loc X.env.scope ("_law_flags":Str):=.inl hl;have hv:NT X.env.scope ("_law_flags":Str):=.inl hl;have aes:AH X bad (λ_ _ _=>False):=λ_ _ _ _ _ _ z=>z.elim;have p1:=uo (pos':=a1) (pos:=a3) Xn hi hlc (Fc (pos:=a2) h1) rfl (.inr hl);have p2:=uo (pos':=b1) (pos:=b5) Xn hi hlc (FW (pos:=b4) vd (l4 (pos:=b2) hi hv) (Fc (pos:=b3) h2)) rfl (.inr hl);have p3:=LZ (pos:=c9) (PW.pt (OT (pos:=c8) (FH (pos:=c6) Th (uV (apos:=c2) (cpos:=c4) qP PySem.F.slot_list_count PySem.F.type_list_count (Iq hu) (l4 (pos:=c1) hi hv) (cK (JM (b:=true) (j:=i1) (pos:=c3)) fT) rfl rfl l1) (K1 (i:=1) (j:=i2) (pos:=c5)) (K9 _ (by decide) (by decide))) (Kj (pos:=c8) (LJ (pos:=c7) (Jd h6 w6))))) aes AR;have p4:=Ez (pos:=d7) (Jh (x1:=k1) (pos:=d6) (cK (Ji (x:="refused") (j:=i3) (pos:=d1)) (cK (uV (apos:=d2) (cpos:=d4) qP PySem.F.slot_list_index PySem.F.type_list_index (IR hu) (l4 (pos:=d3) hi hv) (cK (JM (b:=true) (j:=i4) (pos:=d5)) fT) rfl rfl l2) fT)));refine sZ (jm p1 (jm p2 (jm p3 (jm p4 AR)))) λD σ H ⟨hlen,h0,q⟩=>?_;refine⟨h0,by rw[zD];lia,λp hp=>?_⟩;have s1:∀v:V,(σ.set 1 (some v))[1]?=some (some v):=λv=>by simp[hlen]
 have s0:∀v:V,(σ.set 1 (some v))[0]?=some (some (.ref ea)):=λv=>by simp[h0]
 refine⟨.ref p,s1 _,s0 _,by rw[zD];lia,λp2 hp2=>⟨p,p2,ZP.map V.bl,bs2.map V.bl,rfl,rfl,.inl (.inl ?_),.inl (.inl aF),by rw[zD,zD];exact hz,λp3 hp3=>?_⟩⟩
 ·rw[aB (λz=>by rw[z] at hp2 ;rw[aF] at hp2;cases hp2)];exact aF
 have t1:∀v w:V,((σ.set 1 (some w)).set 1 (some v))[1]?=some (some v):=λv w=>by simp[hlen]
 have t0:∀v w:V,((σ.set 1 (some w)).set 1 (some v))[0]?=some (some (.ref ea)):=λv w=>by simp[h0]
 let H3:Hp:=upd (upd (upd H p (.lst (ZP.map V.bl))) p2 (.lst (bs2.map V.bl))) p3 (.lst (ZP.map V.bl++bs2.map V.bl));have hsm:aS H H3:=λb o e=>by
  have n1:b≠p:=λz=>by rw[z,hp] at e;cases e
  have e1:upd H p (.lst (ZP.map V.bl)) b=some o:=by rw[aB n1];exact e
  have n2:b≠p2:=λz=>by rw[z,hp2] at e1;cases e1
  have e2:upd (upd H p (.lst (ZP.map V.bl))) p2 (.lst (bs2.map V.bl)) b=some o:=by rw[aB n2];exact e1
  have n3:b≠p3:=λz=>by rw[z,hp3] at e2;cases e2
  show upd _ p3 _ b=some o;rw[aB n3];exact e2
 have hls:iw X.K H3 p3 ((ZP++bs2).map V.bl):=by
  rw[jB];exact .inl (.inl aF)
 have hrp:Rep X.K H3 (.list ((ZP++bs2).map PyData.bool)) (.ref p3):=⟨p3,_,rfl,hls,fV _⟩
 have Xa:SeqAt.shaped (.bool true)=true:=by decide
 refine⟨.ref p3,t1 _ _,.inl ⟨rfl,_,hls⟩,H3,_,.bool true,.bl true,.refl _,hrp,rfl,rfl,Xa,oA _,?_⟩;rw[hc];refine⟨rfl,?_⟩;refine⟨false,rfl,?_⟩;refine sH ?_;refine⟨t0 _ _,true,rfl,?_⟩;refine sH ?_;refine⟨.ref p3,t1 _ _,.inl ⟨rfl,_,hls⟩,H3,_,.bool true,.bl true,j,.refl _,hrp,rfl,rfl,Xa,oA _,by rw[zD,zN];exact hz,hj,(show 2<=sizeLine by decide),λp4 hp4=>?_⟩;have hp4:H3 p4=none:=hp4;refine q (.ref p4) _ λHF sm=>⟨upd HF p4 (.tup [.str "refused",.int j]),⟨λb o e=>?_,λb o e=>?_,λb o e=>?_,λb o e=>?_⟩,p4,_,rfl,.inl (.inl aF),?_⟩
 ·have e3:=hsm b o e;rw[aB (λz=>by rw[z,hp4] at e3;cases e3)];exact e3
 ·have e3:=hsm b o (sm b o e);rw[aB (λz=>by rw[z,hp4] at e3;cases e3)];exact e
 ·by_cases z:b=p4
  ·subst z;rw[aF] at e ⊢;exact e
  ·rw[aB z] at e ⊢;exact hsm b o (sm b o e)
 ·by_cases z:b=p4
  ·subst z;refine .inr ?_;cases w:H b with
   | none=>rfl
   | some u=>have:=hsm b u w;rw[hp4] at this;cases this
  ·rw[aB z] at e;exact .inl e
 ·exact⟨_,_,rfl,rfl,_,_,rfl,rfl,rfl⟩
end
open PySem L2 Dl PySem.Spec PyProof.Rows Rf
abbrev XE:=Dl.Env->Option Str
abbrev XS:=ar->Option Str
abbrev XT:=List (Str×Nat×(List D->Option Str))
def N1:XE:=λ_=>none
def m8:XS:=λ_=>none
def iB(x:XE):XS:=λρ=>x (aK ρ)
def RX(c:Str):XS:=λ_=>some c
def gG(xh:XS)(g:GS)(xr:XS):XS:=λρ=>match xh ρ with
 | some c=>some c
 | none=>EF g xr ρ
def Aj(P:Program)(w:World)(K:W.Frag)(mg:Str->Option Value)(base:Heap)(j:Nat)(l:XT):Prop:=∀x n m,l.lookup x=some (n,m)->yl P w K mg base j x n m
def Ug(fx:XT)(sc:Scope)(T:Tr)(x:Str)(a:Expr)(as:List Expr):Option XE:=match fx.lookup x with
 | some (m,xm)=>if (wo sc x&&((a::as).all λe=>!isStar e)&&!(x == ("__debug__":Str)))=true then (AD T (a::as)).map λfs=>rX m xm fs else none
 | none=>none
def Np(S:iX X.WD scope N' WE)(hi:G8 X E iter xf)(hs:∀x,foldedSetIterable iter X.env x=pure x):G8 X E (.ListComp elt [⟨tg,iter,ifs,0⟩] scope pos) xf:=by
 intro pins s σ H Q I h;rw[eval_ListComp];exact wpAny_comprehension_free (use:=none) rfl hs (kg (jx I.ok S.free)) S.kind S.loc (cM (hi pins s σ H (λ_ _=>False) I h) λv s1 ⟨_,_,_,_,z⟩=>z.elim)
def M0(B:se X.WD "min" (.builtin "min"))(hl:G8 X E l xf)(Xa:starEach [l] X.env=(false,eval l X.env)::starEach [] X.env):G8 X E (.Call (.Name "min" p0) [l] [⟨some "key",v,XO⟩] pos) xf:=by
 intro pins s σ H Q I h;have he:backTo pos (starEach [l] X.env)=(false,eval l X.env)::backTo pos (starEach [] X.env):=by rw[Xa];rfl
 refine qZ (ix I B.gl B.mg B.bt ?_ (by decide) (by decide));refine PyProof.Rows.callWith_kw (e:=l) (rest:=[]) (kws:=[⟨some "key",v,XO⟩]) ?_ he (by rw[he];rfl) rfl rfl;rw[he];exact jK (cM (hl pins s σ H (λ_ _=>False) I h) λu s1 ⟨_,_,_,_,z⟩=>z.elim)
def Vt(sc:Scope)(N:List Str)(tg iter:Expr)(as:Int)(scope:Scope):Bool:=match TU tg with
 | some xs=>decide (as=0)&&iZ sc scope N (xs++(fA N scope).filterMap λj=>N[j]?) xs.length (fA N scope)&&KZ iter
 | none=>false
def Mo(fx:XT)(sc:Scope)(N:List Str)(T:Tr):Nat->Expr->Option XE
 | 0,_=>none
 | n+1,e=>match e with
  | .Call (.Name x _) (a::as) [] _=>Ug fx sc T x a as
  | .Call (.Name x _) [l] [⟨some ky,.Lambda _ _ _ _,_⟩] _=>if ((x == ("min":Str)&&ky == ("key":Str))&&(wo sc "min"&&!isStar l))=true then Mo fx sc N T n l else none
  | .ListComp _ [⟨tg,iter,_,as⟩] scope _=>if Vt sc N tg iter as scope=true then Mo fx sc N T n iter else none
  | .IfExp c a b _=>(T.t c).bind λt=>match Mo fx sc N T n a,Mo fx sc N T n b with
   | none,none=>none
   | xa,xb=>some (E3 t (xa.getD N1) (xb.getD N1))
  | _=>none
def wg(f:Stmt->Option XS)(tS:Stmt->Option GS):List Stmt->Option XS
 | []=>none
 | s::r=>match f s,wg f tS r with
  | none,none=>none
  | some xh,none=>some xh
  | none,some xr=>(tS s).map λg=>EF g xr
  | some xh,some xr=>match tS s with
   | some g=>some (gG xh g xr)
   | none=>some xh
def Ny(cl:List Str)(fx:XT)(sc:Scope)(N:List Str)(T:Tr)(tS:Stmt->Option GS):Nat->Stmt->Option XS
 | 0,_=>none
 | n+1,st=>match st with
  | .Return (some e) _=>(Mo fx sc N T 4 e).map iB
  | .Expr e _=>if zj e=true then (Mo fx sc N T 4 e).map iB else none
  | .Assign [.Name x _] e _=>(N.idxOf? x).bind λi=>if (qo N sc i x&&!D6 e)=true then (Mo fx sc N T 4 e).map iB else none
  | .If c a b _=>(T.t c).bind λt=>match wg (Ny cl fx sc N T tS n) tS a,wg (Ny cl fx sc N T tS n) tS b with
   | none,none=>none
   | xa,xb=>some (Ly t (xa.getD m8) (xb.getD m8))
  | .Raise (some (.Call (.Name x _) [.Constant (.str _) _ _] [] _)) none _=>if (cl.contains x&&wo sc x&&!(x == ("__debug__":Str)))=true then some (RX x) else none
  | _=>none
section
variable {tS:Stmt->Option GS}
def SB:G8 X E e N1:=λpins s σ H Q I ⟨HF,ρ,c,C,_,_,h,_⟩=>by cases h
def OZ{st:List Stmt}:IY X E V7 V8 st m8:=λpins s σ H Q I ⟨HF,ρ,c,C,_,h,_⟩=>by cases h
def PL(C:Bk X.WD N sc k)(O:dc X.WD T)(hx:Aj X.prog X.w X.K X.mg X.base k fx)(hp:gq (EG X.prog X.w) X E)(h:Ug fx sc T x a as=some xf):G8 X E (.Call (.Name x p) (a::as) [] pos) xf:=by
 unfold Ug at h;split at h
 ·rename_i m xm hl;split at h
  ·rename_i hc;simp only[zF] at hc;obtain⟨fs,X9,rfl⟩:=ag h;have Xa:isStar a=false/\(as.all λe=>!isStar e)=true:=by
    have:=hc.1.2;rw[xU,zF] at this;exact⟨by simpa using this.1,this.2⟩
   exact Nv (hx x m xm hl) C.room hp (C.gl hc.1.1) (dD O X9) (by simpa using hc.2) (bE (by simpa using Xa.1)) (dA Xa.2)
  ·cases h
 ·cases h
def p7(C:Bk X.WD N sc k)(B:Bn X)(O:dc X.WD T)(hx:Aj X.prog X.w X.K X.mg X.base k fx)(hp:gq (EG X.prog X.w) X E):∀ (n:Nat) {e:Expr}{xf:XE},Mo fx sc N T n e=some xf->G8 X E e xf
 | 0,e,xf,h=>by cases h
 | n+1,e,xf,h=>by
  have ih:∀ {e:Expr}{o:Option XE},Mo fx sc N T n e=o->G8 X E e (o.getD N1):=λ{e o} h=>by
   cases o with
   | none=>exact SB
   | some x=>exact p7 C B O hx hp n h
  unfold Mo at h;split at h
  ·exact PL C O hx hp h
  ·split at h
   ·rename_i hc;simp only[zF,yQ] at hc;obtain⟨⟨h1,h2⟩,h3,h4⟩:=hc;obtain rfl:=eq_of_beq h1;obtain rfl:=eq_of_beq h2;exact M0 (C.blt B h3 (by decide +kernel) E9) (p7 C B O hx hp n h) (bE h4)
   ·cases h
  ·split at h
   ·rename_i hc;unfold Vt at hc;split at hc
    ·simp only[zF,zJ] at hc;obtain⟨⟨h1,h2⟩,h3⟩:=hc;subst h1;exact Np (C.comp h2).1 (p7 C B O hx hp n h) (Jw h3)
    ·cases hc
   ·cases h
  ·obtain⟨t,ht,h⟩:=bs h;split at h
   ·cases h
   ·cases h;exact Sx (O.t _ _ ht) (ih rfl) (ih rfl)
  ·cases h
def Mv{st:Stmt}(h1:DX X E V7 V8 st xh)(h2:DS X.WD V7 V8 st g)(h3:IY X E V7 V8 rest xr):IY X E V7 V8 (st::rest) (gG xh g xr):=λpins s σ H D I ⟨HF,ρ,c,C,S,hx,hc,q⟩=>by
 unfold gG at hx;split at hx
 ·rename_i c' hh;cases hx;exact u4 h1 pins s σ H D I ⟨HF,ρ,c,C,S,hh,hc,q⟩
 ·exact BL h2 h3 pins s σ H D I ⟨HF,ρ,c,C,S,hx,hc,q⟩
def A1(hf:∀s x,f s=some x->DX X E V7 V8 s x)(ht:∀s g,tS s=some g->DS X.WD V7 V8 s g):∀ {l:List Stmt}{x:XS},wg f tS l=some x->IY X E V7 V8 l x
 | [],x,h=>by cases h
 | s::r,x,h=>by
  have ih:=λx=>A1 hf ht (l:=r) (x:=x);unfold wg at h;split at h
  ·cases h
  ·rename_i h1 h2;cases h;exact u4 (hf _ _ h1)
  ·rename_i h1 h2;obtain⟨g,hg,rfl⟩:=ag h;exact BL (ht _ _ hg) (ih _ h2)
  ·rename_i h1 h2;split at h
   ·rename_i g hg;cases h;exact Mv (hf _ _ h1) (ht _ _ hg) (ih _ h2)
   ·cases h;exact u4 (hf _ _ h1)
def VA(X:Cx)(E:XK)(V7 V8:Hp)(cl:List Str):Prop:=∀x∈cl,Gl X x->(x == ("__debug__":Str))=false->∀ (np cpos pos p:Pos) (t:Str) (i:Nat),DX X E V7 V8 (.Raise (some (.Call (.Name x np) [.Constant (.str t) i p] [] cpos)) none pos) (RX x)
def Lm(C:Bk X.WD N sc k)(B:Bn X)(O:dc X.WD T)(hx:Aj X.prog X.w X.K X.mg X.base k fx)(hp:gq (EG X.prog X.w) X E)(hr:VA X E V7 V8 cl)(ht:∀s g,tS s=some g->DS X.WD V7 V8 s g):∀ (n:Nat) {st:Stmt}{x:XS},Ny cl fx sc N T tS n st=some x->DX X E V7 V8 st x
 | 0,st,x,h=>by cases h
 | n+1,st,x,h=>by
  have ih:∀ {l:List Stmt}{o:Option XS},wg (Ny cl fx sc N T tS n) tS l=o->IY X E V7 V8 l (o.getD m8):=λ{l o} h=>by
   cases o with
   | none=>exact OZ
   | some x=>exact A1 (λs x h=>Lm C B O hx hp hr ht n h) ht h
  unfold Ny at h;split at h
  ·obtain⟨xf,hf,rfl⟩:=ag h;exact Pz (p7 C B O hx hp 4 hf)
  ·split at h
   ·rename_i hc;obtain⟨xf,hf,rfl⟩:=ag h;refine Qx (p7 C B O hx hp 4 hf) ?_;rename_i e pos;cases e<;>first|rfl|cases hc
   ·cases h
  ·obtain⟨i,hi,h⟩:=bs h;split at h
   ·rename_i hl;simp only[zF,yQ] at hl;obtain⟨xf,hf,rfl⟩:=ag h;obtain⟨z1,z2,z3,z4⟩:=C.loc hl.1;exact cO (uo z1 z2 z3 (p7 C B O hx hp 4 hf) (qm hl.2) z4) λD σ H q=>Lz q
   ·cases h
  ·obtain⟨t,ht',h⟩:=bs h;split at h
   ·cases h
   ·cases h;exact Sv (O.t _ _ ht') (ih rfl) (ih rfl)
  ·split at h
   ·rename_i hc;simp only[zF,yQ] at hc;cases h;exact hr _ (List.contains_iff_mem.mp hc.1.1) (C.gl hc.1.2) hc.2 _ _ _ _ _ _
   ·cases h
  ·cases h
end
abbrev IV(st:Stmt)(N:List Str)(S:Sg)(fx:XT)(cl:List Str):Option XS:=wg (Ny cl fx (aj st) N (tr S 40 none (aj st) N) (ya (aj st) N (tr S 40 none (aj st) N) 40) 10) (ya (aj st) N (tr S 40 none (aj st) N) 40) (bG st)
def Pf(K:W.Frag)(mg:Str->Option Value)(cl:List Str):Prop:=∀c∈cl,∃C:Addr,mg c=some (.ref C)/\W.excIn K C Qb "ValueError.__new__"=true
section
variable {K:W.Frag}
def Pd(C:Bk X.WD N sc j)(B:Bn X)(hf:jl X.prog X.w X.K X.mg X.base j fs)(hi:hZ X.mg is)(hx:Aj X.prog X.w X.K X.mg X.base j fx)(hp:gq (EG X.prog X.w) X E)(hr:VA X E V7 V8 cl)
  (t:wg (Ny cl fx sc N (tr ⟨fs,is⟩ 40 none sc N) (ya sc N (tr ⟨fs,is⟩ 40 none sc N) 40) 10) (ya sc N (tr ⟨fs,is⟩ 40 none sc N) 40) l=some xg):IY X E V7 V8 l xg:=by
 have O:dc X.WD (tr ⟨fs,is⟩ 40 none sc N):=GR (G:=⟨fs,is⟩) 40 C ⟨hf,hi,B⟩ (yN j) λq z=>by cases z
 have ht:∀s g,ya sc N (tr ⟨fs,is⟩ 40 none sc N) 40 s=some g->DS X.WD V7 V8 s g:=λs g h=>uu C B O 40 h;exact A1 (λs x h=>Lm C B O hx hp hr ht 10 h) ht t
def sP{st:Stmt}(D:bI K mg x st ps)(B:∀x∈cN,mg x=none)(hf:jl P w K mg base j S.fn)(hi:hZ mg S.int)(hx:Aj P w K mg base j fx)(hc:Pf K mg cl)(t:IV st N S fx cl=some xg)(F:dk N ps (aj st):=by exact Rf.RZ):yl P w K mg base (j+1) x ps.length (oQ xg N.length):=by
 obtain⟨f,fd,hm,Fu,hb⟩:=D.ex;refine fnX Fu F hb hm λX E hP hw hK Xu W6 C acz hk HF H=>?_;subst hP;subst hw;subst hK;subst Xu;subst W6;exact Pd C B hf hi hx hk.pass (λc W8 hg hd np cpos pos p t i=>by
  obtain⟨Ca,h1,h2⟩:=hc c W8;exact Ll hk acz hg h1 h2 hd) t
def M5{st:Stmt}(D:Hv K mg x st ps):bI K mg x st ps:=let ⟨f,fd,_,_,a,b,c,_⟩:=D.ex;⟨f,fd,a,b,c⟩
def qq:Aj P w K mg base j []:=λ_ _ _ h=>by cases h
def xm(F:yl P w K mg base i x n m)(h:Aj P w K mg base j l)(e:i<=j:=by decide):Aj P w K mg base j ((x,n,m)::l):=λy n' m' e'=>by
 rw[yB] at e';cases q:y == x with
 | true=>rw[q] at e';cases e';rw[eq_of_beq q];exact F.mono e
 | false=>rw[q] at e';exact h y n' m' e'
end
def R6(K:W.Frag)(C:Addr):Bool:=W.findIn K (.ref C) "__getattribute__" == some (some (.builtin "BaseException.__getattribute__"))&&(W.findIn K (.ref C) "__getattr__" == some none)&&(W.findIn K (.ref C) "__class__" == some (some (.builtin "object.__class__")))&&(W.specialIn K (.builtin "object.__class__") "__get__" == some (some (.builtin "getset_descriptor.__get__")))&&(W.takesIn K (.builtin "object.__class__") == some true)&&(W.mroIn K C (.type "object") == some true)&&(W.subIn K (.ref C) (.type "BaseException") == some true)&&(W.clsIn K C).isSome
def Sz(K:W.Frag)(F:Addr)(cs:List (Str×Addr)):Bool:=(W.nsIn K mainGlobals "FlowError" == some (some (.ref F)))&&(W.nsIn K mainGlobals "ValueError" == some none)&&cs.all λc=>(W.nsIn K mainGlobals c.1 == some (some (.ref c.2)))&&W.excIn K c.2 Qb "ValueError.__new__"&&R6 K c.2&&(W.exmOne K (.ref c.2) (.ref F) == some true)&&(W.kitOne K (.ref c.2) (.type "ValueError") == some true)&&cs.all λd=>W.kitOne K (.ref c.2) (.ref d.2) == some (c.1 == d.1)
structure CS(K:W.Frag)(mg:Str->Option Value)(F:Addr)(cs:List (Str×Addr)):Prop where
 fe:mg "FlowError"=some (.ref F)
 ve:mg "ValueError"=none
 at_:∀c∈cs,mg c.1=some (.ref c.2)
 ex:∀c∈cs,W.excIn K c.2 Qb "ValueError.__new__"=true
 ek:∀c∈cs,Ms K c.2
 xm:∀c∈cs,W.exmOne K (.ref c.2) (.ref F)=some true
 kv:∀c∈cs,W.kitOne K (.ref c.2) (.type "ValueError")=some true
 kt:∀c∈cs,∀d∈cs,W.kitOne K (.ref c.2) (.ref d.2)=some (c.1 == d.1)
def N0{K:W.Frag}{cs:List (Str×Addr)}(X:K.In h)(G:h.Ns mainGlobals mg)(e:Sz K F cs=true):CS K mg F cs:=by
 unfold Sz at e;simp only[zF,xH,vQ] at e;obtain⟨⟨e1,e2⟩,e3⟩:=e;refine⟨W.mg_of X G e1,W.mg_none_of X G e2,λc hc=>W.mg_of X G (e3 c hc).1.1.1.1.1,λc hc=>(e3 c hc).1.1.1.1.2,λc hc=>?_,λc hc=>(e3 c hc).1.1.2,λc hc=>(e3 c hc).1.2,λc hc d hd=>(e3 c hc).2 d hd⟩;have q:=(e3 c hc).1.1.1.2;unfold R6 at q;simp only[zF,vQ] at q;exact⟨q.1.1.1.1.1.1.1,q.1.1.1.1.1.1.2,q.1.1.1.1.1.2,q.1.1.1.1.2,q.1.1.1.2,q.1.1.2,q.1.2,q.2⟩
def CS.ok{K:W.Frag}{cs:List (Str×Addr)}(M:CS K mg F cs)(h:(cl.all λc=>(cs.map Prod.fst).contains c)=true):Pf K mg cl:=λc hc=>by
 have:=List.contains_iff_mem.mp (List.all_eq_true.mp h c hc);obtain⟨q,hq,rfl⟩:=List.mem_map.mp this;exact⟨q.2,M.at_ q hq,M.ex q hq⟩
def T8(sc:Scope):Expr->Option Str
 | .Call (.Name f _) [.Name n _,.Name y _] [] _=>if (f == ("isinstance":Str)&&n == ("_law_e":Str)&&wo sc "isinstance"&&wo sc y)=true then some y else none
 | _=>none
def Js(sc:Scope):List Expr->Option (List Str)
 | []=>some []
 | e::r=>(T8 sc e).bind λy=>(Js sc r).map λys=>y::ys
def nh(ns:List Str)(c:Str):Option D:=if ns.contains c=true then (tZ (.bool true) (ns.map λn=>.bool (c == n))).map λj=>.tuple [.str "refused",.int ((j:Nat):Int)] else none
section
variable {K:W.Frag}{cs:List (Str×Addr)}
def Me(M:CS X.K X.mg F cs)(hc:c∈cs)(YZ:(ea,ob)∈X.pn)(X0:ob.cls=.ref c.2)(Yb:Mr X sc)(YT:X.mg "isinstance"=none)(hN:X.N[0]?=some ("_law_e":Str))(hl:X.env.kindOf ("_law_e":Str)=some .local)(hs:X.env.scope.names.lookup ("_law_e":Str)=some .local)
  (hr:T8 sc e=some y) (hy:∀ {p2:Pos}{pins:List (Addr×Obj)}{σ:L2.St}{H:Hp}{s:Shared}{Q:Value->Shared->Prop},Gl X y->Inv X pins σ H s->Q v s->wpAny (model X.prog X.w) X.A (eval (.Name y p2) X.env) Q X.xe s) (hk:W.kitOne X.K (.ref c.2) v=some b) :
  PE X e (λσ H Q=>σ[0]?=some (some (.ref ea))/\Q (.bl b) H)/\(∀env whole,isTrue e env whole=(do let v <- whole;standAt e.pos;holding [v] (truthy v)))/\∀es:List Expr,starEach (e::es) X.env=(false,eval e X.env)::starEach es X.env:=by
 unfold T8 at hr;split at hr
 ·rename_i f pf n pn y' py pos;split at hr
  ·rename_i hh;cases hr;simp only[zF,vQ] at hh;obtain⟨⟨⟨rfl,rfl⟩,hg⟩,hgy⟩:=hh;have gl:∀ {x:Str},wo sc x=true->Gl X x:=λh=>by
    rcases Yb _ _ (yR h) with q|⟨q,_⟩
    ·exact q
    ·cases q
   exact⟨P4 (M.ek c hc) YZ X0 (gl hg) YT hN hl hs (by decide) (λ{pins σ H s Q} I q=>hy (gl hgy) I q) hk,λenv whole=>rfl,λes=>rfl⟩
  ·cases hr
 ·cases hr
def Af(M:CS X.K X.mg F cs)(hc:c∈cs)(YZ:(ea,ob)∈X.pn)(X0:ob.cls=.ref c.2)(Yb:Mr X sc)(YT:X.mg "isinstance"=none)(hN:X.N[0]?=some ("_law_e":Str))(hl:X.env.kindOf ("_law_e":Str)=some .local)(hs:X.env.scope.names.lookup ("_law_e":Str)=some .local)(hd:(cs.all λd=>!(d.1 == ("__debug__":Str)))=true) :
  ∀ {es:List Expr}{ns:List Str},Js sc es=some ns->(ns.all λc=>(cs.map Prod.fst).contains c)=true->mL X ea es (ns.map λn=>c.1 == n)
 | [],ns,h,_=>by cases h;exact QL
 | e::es,ns,h,ha=>by
  unfold Js at h;obtain⟨y,hy,h⟩:=bs h;obtain⟨ys,hys,rfl⟩:=ag h;rw[xU,zF] at ha;obtain⟨d,hdm,rfl⟩:=List.mem_map.mp (List.contains_iff_mem.mp ha.1);have WI:(d.1 == ("__debug__":Str))=false:=by simpa using List.all_eq_true.mp hd d hdm
  obtain⟨h1,_,h3⟩:=Me (v:=.ref d.2) M hc YZ X0 Yb YT hN hl hs hy (λ{p2 pins σ H s Q} hg I q=>mX I hg (M.at_ d hdm) q WI) (M.kt c hc d hdm);exact M8 h1 (Af M hc YZ X0 Yb YT hN hl hs hd hys ha.2) (h3 es)
def ID{A:Around}{env:PySem.Env}(h:A.units+200 < cLine):(A.deeper env).units+66 < cLine:=by
 have:(A.deeper env).units<=A.units+16:=by simp[Around.deeper]
 lia
def SV{st:Stmt}{a1 a2 a3:Pos}(D:bI K mg "_law_refused" st ["_law_e"])(M:CS K mg F cs)(B:∀x∈cN,mg x=none)
  (hb:bG st=[.Assign [.Name "_law_flags" a1] (.List es1 a2) a3,.Assign [.Name "_law_flags" b1] (.BinOp (.Name "_law_flags" b2) .Add (.List es2 b3) b4) b5,
   .If (.BoolOp .Or [.Compare (.Call (.Attribute (.Name "_law_flags" c1) "count" c2) [.Constant (.bool true) i1 c3] [] c4) [.NotEq] [.Constant (.int 1) i2 c5] c6,.UnaryOp .Not e6 c7] c8) bad [] c9,
   .Return (some (.Tuple [.Constant (.str "refused") i3 d1,.Call (.Attribute (.Name "_law_flags" d3) "index" d2) [.Constant (.bool true) i4 d5] [] d4] k1 d6)) d7])
  (S:dk [("_law_e":Str),("_law_flags":Str)] ["_law_e"] (aj st)) (r1:Js (aj st) es1=some ns1) (r2:Js (aj st) es2=some ns2) (r6:T8 (aj st) e6=some "ValueError")
  (s1:(aj st).names.lookup ("_law_e":Str)=some .local) (s2:(aj st).names.lookup ("_law_flags":Str)=some .local) (T4:((ns1++ns2).all λc=>(cs.map Prod.fst).contains c&&decide (Ks (.bool true) ((ns1++ns2).map λn=>.bool (c == n))=1))=true) (WI:(cs.all λd=>!(d.1 == ("__debug__":Str)))=true) (hz:ns1.length+ns2.length<=sizeLine) (l1:(c2.endLine == c4.line)=true) (l2:(d2.endLine == d4.line)=true) :
  ∀c d,nh (ns1++ns2) c=some d->GU P w K mg base k "_law_refused" c d:=λc d h=>by
 unfold nh at h;split at h
 ·rename_i hc;have hcm:=List.contains_iff_mem.mp hc;obtain⟨j,hj,rfl⟩:=ag h;have hcc:=List.all_eq_true.mp T4 c hcm;rw[zF] at hcc;obtain⟨q,hq,rfl⟩:=List.mem_map.mp (List.contains_iff_mem.mp hcc.1);have aev:=yR hcc.2;obtain⟨f,fd,hm,Fu,hbd⟩:=D.ex;refine⟨f,fd,["_law_e"],hm,Fu.kp,hbd,rfl,λA outer s H args ea C hdp XX e0 hbt hC hex=>?_⟩;obtain⟨⟨ob,vs,ho,W8,hd⟩,hn,hf⟩:=hex;have hCq:C=q.2:=by
   have:=M.at_ q hq;rw[hC] at this;cases this;rfl
  subst hCq;refine HX (C:=q.2) Fu S rfl (by lia) e0 hbt ho hd hn hf λWt t1 I=>?_;rw[hb];have XM:∀ {l:List Str},(∀n∈l,n∈ns1++ns2)->(l.all λc=>(cs.map Prod.fst).contains c)=true:=λhl=>by
   rw[xH];intro n hn;have:=List.all_eq_true.mp T4 n (hl n hn);rw[zF] at this;exact this.1
  let X:Cx:=FK P w K mg base [("_law_e":Str),("_law_flags":Str)] "_law_refused" (aj st) f Wt A outer s H [(ea,ob)];have YZ:(ea,ob)∈X.pn:=List.mem_singleton.mpr rfl;have Yb:Mr X (aj st):=λy kd hy=>.inl hy;have YT:X.mg "isinstance"=none:=B _ (by decide);have f1:=Af (X:=X) (sc:=aj st) M hq YZ W8 Yb YT rfl s1 s1 WI r1 (XM λn hn=>qK _ hn);have f2:=Af (X:=X) (sc:=aj st) M hq YZ W8 Yb YT rfl s1 s1 WI r2 (XM λn hn=>yE _ hn);obtain⟨f6,w6,_⟩:=Me (X:=X) (sc:=aj st) (v:=.type "ValueError") M hq YZ W8 Yb YT rfl s1 s1 r6 (λ{p2 pins σ H s Q} hg I q=>ix I hg M.ve (by decide +kernel) q) (M.kv q hq);have main:=LA (X:=X) (bad:=bad) (j:=j) (a1:=a1) (a2:=a2) (a3:=a3) (b1:=b1) (b2:=b2) (b3:=b3) (b4:=b4) (b5:=b5) (b6:=b5) (c1:=c1) (c2:=c2) (c3:=c3) (c4:=c4) (c5:=c5) (c6:=c6) (c7:=c7) (c8:=c8) (c9:=c9) (d1:=d1) (d2:=d2) (d3:=d3) (d4:=d4) (d5:=d5) (d6:=d6) (d7:=d7) (i1:=i1) (i2:=i2) (i3:=i3) (i4:=i4) (k1:=k1) (ID (by lia)) rfl s2 f1 f2 f6 (λwhole=>w6 _ whole)
   (by rw[<- jB,zM];exact aev) (by rw[<- jB,zM];exact hj) (by rw[zD,zD];exact hz) l1 l2
   [] t1 (L2.start [("_law_e":Str),("_law_flags":Str)] [.ref ea]) H ⟨λ_ _=>False,λv H'=>∀HF,aS HF H->∃V9,bX HF H V9 H'/\Rep K V9 (.tuple [.str "refused",.int ((j:Nat):Int)]) v,λ_ _=>False,λ_ _=>False⟩ I ⟨rfl,rfl,λv H' z=>z⟩
  refine cM main λfl s' z=>?_;cases fl with
  | next=>obtain⟨_,_,_,z⟩:=z;exact z.elim
  | brk=>obtain⟨_,_,_,z⟩:=z;exact z.elim
  | cont=>obtain⟨_,_,_,z⟩:=z;exact z.elim
  | ret u =>
   obtain⟨v,σ',H',J,r,z⟩:=z;exact⟨u,v,σ',H',rfl,J,r,z⟩
 ·cases h
def yx:∀ (names:List (Str×NameKind)) (n:Nat),(names.all λy=>!(y.2 == NameKind.cell))=true->cellsFrom n names []=[]
 | [],_,_=>rfl
 | (x,k)::r,n,h=>by
  rw[xU,zF] at h;unfold cellsFrom;rw[yO (by simpa using h.1)];exact yx r n h.2
def Tn(st:Stmt)(N:List Str)(S:Sg)(fx:XT)(ns:List Str):List Stmt->Option GS
 | [.Try body [.ExceptHandler (some (.Name e _)) (some n) [.Return (some (.Call (.Name r _) [.Name m _] [] _)) _] _] [] [] _] =>
  if (e == ("FlowError":Str)&&r == ("_law_refused":Str)&&m == n&&!(n == ("__debug__":Str))&&wo (aj st) "FlowError"&&wo (aj st) "_law_refused"&&decide ((aj st).names.lookup n=some .local)&&(aj st).names.all (λy=>!(y.2 == NameKind.cell))&&N.contains n)=true then
   (sG (ya (aj st) N (tr S 40 none (aj st) N) 40) body).map λgb=>C0 gb ((wg (Ny [] fx (aj st) N (tr S 40 none (aj st) N) (ya (aj st) N (tr S 40 none (aj st) N) 40) 10) (ya (aj st) N (tr S 40 none (aj st) N) 40) body).getD m8) (nh ns)
  else none
 | _=>none
abbrev UN(st:Stmt)(N:List Str)(S:Sg)(fx:XT)(ns:List Str):Option GS:=Tn st N S fx ns (bG st)
def SX{st:Stmt}(D:bI K mg x st ps)(B:∀x∈cN,mg x=none)(M:CS K mg F cs)(hf:jl P w K mg base j S.fn)(hi:hZ mg S.int)(hx:Aj P w K mg base j fx)(R:∀c d,nh ns c=some d->GU P w K mg base j "_law_refused" c d)(XU:(ns.all λc=>(cs.map Prod.fst).contains c)=true)(t:UN st N S fx ns=some g)(FS:dk N ps (aj st):=by exact Rf.RZ):eB P w K mg base (j+1) x ps.length (bq g N.length):=by
 obtain⟨f,fd,hm,Fu,hb⟩:=D.ex;refine⟨f,fd,ps,?_,hm,Fu.kp,hb⟩;obtain⟨oc,od,kV,doc,pm,an,Wt,ct,Yi,rfl,lk,WS⟩:=Fu.ex;refine LY lk WS FS (λvs H Q E ⟨HF,ds,d,h1,_,h2,h3,_⟩=>by rw[h2.length,h3]) λA outer s H vs Q E hr ⟨HF,ds,d,sm,tb,rr,hl,hd,q⟩=>?_;have key:∀X:Cx,X=(uR Ml P w K mg base N x (aj st) f Wt A outer s H E).WD->Bk X N (aj st) j->∀Wa H1,G9 X Wa H1 (bG st) g:=λX hX C Wa H1=>by
  unfold UN at t;generalize bG st=bd at t;unfold Tn at t;split at t
  ·rename_i body e pe n r pr m pm' pc prt ph pt;split at t
   ·rename_i hh;simp only[zF,vQ,yQ,zJ] at hh;obtain⟨⟨⟨⟨⟨⟨⟨⟨rfl,rfl⟩,rfl⟩,Xn⟩,hgF⟩,hgR⟩,YW⟩,ZJ⟩,hNn⟩:=hh;obtain⟨gb,hgb,rfl⟩:=ag t;obtain⟨i,Xt,hiN⟩:=qS (List.contains_iff_mem.mp hNn);have acC:N[i]?=some m:=by rw[zK Xt,hiN]
    subst hX;refine Gp (QR (i:=i) rfl rfl (C.gl hgF) M.fe (by decide) C.nd acC YW YW ?_ ?_ ?_ ?_)
    ·show List.lookup m (cellsFrom _ _ [])=none;rw[yx _ _ ZJ];rfl
    ·exact Rf.iE (λs g h=>uu C B (GR (G:=S) 40 C ⟨hf,hi,B⟩ (yN j) λq z=>by cases z) 40 h) hgb
    ·intro pn xe E' hp;have C':Bk (hU (uR Ml P w K mg base N x (aj st) f Wt A outer s H E).WD pn xe).WD N (aj st) j:=⟨rfl,FS.nd,λy kd hy=>.inl hy,rfl,λ_ _=>rfl,hr,rfl,FS.kind⟩
     cases hq:wg (Ny [] fx (aj st) N (tr S 40 none (aj st) N) (ya (aj st) N (tr S 40 none (aj st) N) 40) 10) (ya (aj st) N (tr S 40 none (aj st) N) 40) body with
     | none=>exact OZ
     | some xg=>exact Pd C' B hf hi hx hp (λc W8=>by cases W8) hq
    ·intro c d WS;have abm:=WS;unfold nh at abm;split at abm
     ·rename_i hc;obtain⟨z,hz,rfl⟩:=List.mem_map.mp (List.contains_iff_mem.mp (List.all_eq_true.mp XU c (List.contains_iff_mem.mp hc)));refine⟨λC hC=>?_,⟨z.2,M.at_ z hz⟩,HY (R z.1 d WS) C.room (C.gl hgR) (by decide) acC YW YW Xn⟩;have:=M.at_ z hz;rw[show mg z.1=some (.ref C) from hC] at this;cases this;exact M.xm z hz
     ·cases abm
   ·cases t
  ·cases t
 unfold bq at hd;obtain⟨o,ho,hd⟩:=ag hd;refine⟨_,(key _ rfl ⟨rfl,FS.nd,λy kd hy=>.inl hy,rfl,λ_ _=>rfl,hr,rfl,FS.kind⟩ HF H).WD,HF,_,o,Di sm tb rr,ho,?_⟩;cases o with
 | rt d'=>cases hd;exactλv H' V9 G r=>q v H' V9 G r
 | nx ρ'=>cases hd;exactλσ' H' V9 S' _=>q .V6 H' V9 S'.gr (by simp[Rep])
end
end Ex
namespace Hd
open PySem L2 Dl PySem.Spec PyProof.Rows
section
variable {K:W.Frag}
def Sh{st:Stmt}(hb:iu st ps)(a:W.nsIn K mainGlobals x=some (some (.ref f)))(l:K.lookup f=some (fo x st pm c))(d:W.codeIn K (.ref c) x=true)(k:W.keepIn K (.ref f)=true):aM K x st ps:=SN hb a l d k
def Vu{st:Stmt}(hb:iu st ps)(a:W.nsIn K mainGlobals x=some (some (.ref f)))(l:K.lookup f=some (fo x st pm c))(d:W.codeIn K (.ref c) x=true)(k:W.keepIn K (.ref f)=true)(hh:W.codeHdIn K c (L9 K c)=true):sd K x st ps:=Tv hb a l d k hh
end
section
variable {α:Type}{R:List α->Prop}
def A6(h:∀a,R [a])(us:List α)(e:us.length=1):R us:=by
 obtain⟨a,rfl⟩:=List.length_eq_one_iff.mp e;exact h a
def NX(us:List α)(e:us.length=n+1):∃a r,us=a::r/\r.length=n:=by
 cases us with
 | nil=>cases e
 | cons a r=>exact⟨a,r,rfl,by simpa using e⟩
def TB(h:∀a b,R [a,b])(us:List α)(e:us.length=2):R us:=by
 obtain⟨a,r,rfl,e'⟩:=NX us e;exact A6 (R:=λr=>R (a::r)) (h a) r e'
def PH(h:∀a b c,R [a,b,c])(us:List α)(e:us.length=3):R us:=by
 obtain⟨a,r,rfl,e'⟩:=NX us e;exact TB (R:=λr=>R (a::r)) (h a) r e'
def S6(h:∀a b c d,R [a,b,c,d])(us:List α)(e:us.length=4):R us:=by
 obtain⟨a,r,rfl,e'⟩:=NX us e;exact PH (R:=λr=>R (a::r)) (h a) r e'
def UP(h:∀a b c d f,R [a,b,c,d,f])(us:List α)(e:us.length=5):R us:=by
 obtain⟨a,r,rfl,e'⟩:=NX us e;exact S6 (R:=λr=>R (a::r)) (h a) r e'
end
section
variable {K:W.Frag}
def f1(f c:Addr)(pm:Value){st:Stmt}(hb:iu st ps:=by exactλ_ _ _ _ _ _ _ _ us hl=>A6 (R:=λus=>bindArgs _ ⟨us,[]⟩=pure (List.zip _ us)) (λ_=>rfl) us hl)(a:W.nsIn K mainGlobals x=some (some (.ref f)):=by kernel_rfl)(l:K.lookup f=some (fo x st pm c):=by kernel_rfl)(d:W.codeIn K (.ref c) x=true:=by kernel_rfl)(k:W.keepIn K (.ref f)=true:=by kernel_rfl):aM K x st ps:=Sh hb a l d k
def l1(f c:Addr)(pm:Value){st:Stmt}(hb:iu st ps:=by exactλ_ _ _ _ _ _ _ _ us hl=>A6 (R:=λus=>bindArgs _ ⟨us,[]⟩=pure (List.zip _ us)) (λ_=>rfl) us hl)(a:W.nsIn K mainGlobals x=some (some (.ref f)):=by kernel_rfl)(l:K.lookup f=some (fo x st pm c):=by kernel_rfl)(d:W.codeIn K (.ref c) x=true:=by kernel_rfl)(k:W.keepIn K (.ref f)=true:=by kernel_rfl)(hh:W.codeHdIn K c (L9 K c)=true:=by kernel_rfl):sd K x st ps:=Vu hb a l d k hh
def f2(f c:Addr)(pm:Value){st:Stmt}(hb:iu st ps:=by exactλ_ _ _ _ _ _ _ _ us hl=>TB (R:=λus=>bindArgs _ ⟨us,[]⟩=pure (List.zip _ us)) (λ_ _=>rfl) us hl)(a:W.nsIn K mainGlobals x=some (some (.ref f)):=by kernel_rfl)(l:K.lookup f=some (fo x st pm c):=by kernel_rfl)(d:W.codeIn K (.ref c) x=true:=by kernel_rfl)(k:W.keepIn K (.ref f)=true:=by kernel_rfl):aM K x st ps:=Sh hb a l d k
def f3(f c:Addr)(pm:Value){st:Stmt}(hb:iu st ps:=by exactλ_ _ _ _ _ _ _ _ us hl=>PH (R:=λus=>bindArgs _ ⟨us,[]⟩=pure (List.zip _ us)) (λ_ _ _=>rfl) us hl)(a:W.nsIn K mainGlobals x=some (some (.ref f)):=by kernel_rfl)(l:K.lookup f=some (fo x st pm c):=by kernel_rfl)(d:W.codeIn K (.ref c) x=true:=by kernel_rfl)(k:W.keepIn K (.ref f)=true:=by kernel_rfl):aM K x st ps:=Sh hb a l d k
def l3(f c:Addr)(pm:Value){st:Stmt}(hb:iu st ps:=by exactλ_ _ _ _ _ _ _ _ us hl=>PH (R:=λus=>bindArgs _ ⟨us,[]⟩=pure (List.zip _ us)) (λ_ _ _=>rfl) us hl)(a:W.nsIn K mainGlobals x=some (some (.ref f)):=by kernel_rfl)(l:K.lookup f=some (fo x st pm c):=by kernel_rfl)(d:W.codeIn K (.ref c) x=true:=by kernel_rfl)(k:W.keepIn K (.ref f)=true:=by kernel_rfl)(hh:W.codeHdIn K c (L9 K c)=true:=by kernel_rfl):sd K x st ps:=Vu hb a l d k hh
def f4(f c:Addr)(pm:Value){st:Stmt}(hb:iu st ps:=by exactλ_ _ _ _ _ _ _ _ us hl=>S6 (R:=λus=>bindArgs _ ⟨us,[]⟩=pure (List.zip _ us)) (λ_ _ _ _=>rfl) us hl)(a:W.nsIn K mainGlobals x=some (some (.ref f)):=by kernel_rfl)(l:K.lookup f=some (fo x st pm c):=by kernel_rfl)(d:W.codeIn K (.ref c) x=true:=by kernel_rfl)(k:W.keepIn K (.ref f)=true:=by kernel_rfl):aM K x st ps:=Sh hb a l d k
def f5(f c:Addr)(pm:Value){st:Stmt}(hb:iu st ps:=by exactλ_ _ _ _ _ _ _ _ us hl=>UP (R:=λus=>bindArgs _ ⟨us,[]⟩=pure (List.zip _ us)) (λ_ _ _ _ _=>rfl) us hl)(a:W.nsIn K mainGlobals x=some (some (.ref f)):=by kernel_rfl)(l:K.lookup f=some (fo x st pm c):=by kernel_rfl)(d:W.codeIn K (.ref c) x=true:=by kernel_rfl)(k:W.keepIn K (.ref f)=true:=by kernel_rfl):aM K x st ps:=Sh hb a l d k
end
end Hd
namespace Pg
open PySem L2 Dl PySem.Spec PyProof.Rows
abbrev D8:List Str:=["thing","least","most"]
def nN:ar->Option Out:=(ay (eI (E6 (bH (fB (OE "int" (ae 0)))) (fB (OE "bool" (ae 0)))) (aI (fC (.bool false))) dS) (aI (lN Ha Ha (ae 1) (ae 0) (ae 2))))
def aO:List D->Option D:=bq nN 3
abbrev BM:List Str:=["thing","many"]
def ml:ar->Option Out:=(aI (ai 3 aO (aa (ae 0) (aa (fC (.int 0)) (aa (f2 Dl.dJ (ae 1) (fC (.int 1))) af)))))
def cw:List D->Option D:=bq ml 2
abbrev HK:List Str:=["thing","least","most"]
def qr:ar->Option Out:=(aI (m9 (OE "tuple" (ae 0)) (lN Ha Ha (ae 1) (ba aZ (aa (ae 0) af)) (ae 2))))
def br:List D->Option D:=bq qr 3
abbrev Dh:List Str:=["thing","many"]
def mC:ar->Option Out:=(ay (eI (bH (fB (OE "tuple" (ae 0)))) (aI (fC (.bool false))) dS) (ay (eI (bH (fB (ba pO (aa (cf (aw 1 [1] (bo (ae 0)) (fG 0) (λ_=>some true) (ai 2 cw (aa (ae 0) (aa (ae 1) af))))) af)))) (aI (fC (.bool false))) dS) (aI (f2 bz (f1 mO (ae 0)) (ba aZ (aa (ae 0) af))))))
def gh:List D->Option D:=bq mC 2
abbrev Kc:List Str:=["thing","many"]
def ue:ar->Option Out:=(aI (m9 (ai 3 br (aa (ae 0) (aa (fC (.int 2)) (aa (fC (.int 2)) af)))) (m9 (ai 3 aO (aa (f2 az (ae 0) (fC (.int 0))) (aa (fC (.int 0)) (aa (fC (.int 9)) af)))) (ai 2 gh (aa (f2 az (ae 0) (fC (.int 1))) (aa (ae 1) af))))))
def f9:List D->Option D:=bq ue 2
abbrev KO:List Str:=["thing","givers","takers"]
def uv:ar->Option Out:=(ay (eI (bH (fB (ai 3 br (aa (ae 0) (aa (fC (.int 3)) (aa (fC (.int 3)) af)))))) (aI (fC (.bool false))) dS) (aI (m9 (ai 2 cw (aa (f2 az (ae 0) (fC (.int 0))) (aa (ae 1) af))) (m9 (ai 2 cw (aa (f2 az (ae 0) (fC (.int 1))) (aa (ae 2) af))) (ai 3 aO (aa (f2 az (ae 0) (fC (.int 2))) (aa (fC (.int 1)) (aa (fC (.int 9)) af))))))))
def j1:List D->Option D:=bq uv 3
abbrev DD:List Str:=["givers","takers","ways"]
def mD:ar->Option Out:=(ay (eI (E6 (bH (fB (ai 3 br (aa (ae 0) (aa (fC (.int 1)) (aa (fC (.int 4)) af)))))) (bH (fB (ai 3 br (aa (ae 1) (aa (fC (.int 1)) (aa (fC (.int 4)) af))))))) (aI (fC (.bool false))) dS) (ay (eI (bH (fB (ba pO (aa (cf (aw 1 [1] (bo (ae 0)) (fG 0) (λ_=>some true) (ai 2 f9 (aa (ae 0) (aa (ba aZ (aa (ae 1) af)) af))))) af)))) (aI (fC (.bool false))) dS) (ay (eI (bH (fB (ba pO (aa (cf (aw 1 [0] (bo (ae 1)) (fG 0) (λ_=>some true) (ai 2 f9 (aa (ae 0) (aa (ba aZ (aa (ae 1) af)) af))))) af)))) (aI (fC (.bool false))) dS) (aI (m9 (OE "tuple" (ae 2)) (ba pO (aa (cf (aw 1 [0,1] (bo (ae 2)) (fG 0) (λ_=>some true) (ai 3 j1 (aa (ae 0) (aa (ba aZ (aa (ae 1) af)) (aa (ba aZ (aa (ae 2) af)) af)))))) af)))))))
def gf:List D->Option D:=bq mD 3
abbrev wb:List Str:=["places","pairs","number","place"]
def iS:ar->Option Out:=(ay (aW 1 [] (cX af)) (ay (cq [0] (bJ (aa (ae 0) af)) (gy 2 3) (Bp 1 [2,3] (aw 1 [2] (bo (f2 az (ae 3) (fC (.int 1)))) (fG 0) (λ_=>some true) (aA (aa (ae 1) (aa (ae 0) af)))))) (aI (ae 1))))
def bM:List D->Option D:=bq iS 4
abbrev Fe:List Str:=["thing","joined","by_givers","by_takers"]
def ib:ar->Option Out:=(ay (eI (E6 (bH (fB (ai 3 br (aa (ae 0) (aa (fC (.int 3)) (aa (fC (.int 3)) af)))))) (bH (fB (ai 3 gf (aa (f2 az (ae 0) (fC (.int 0))) (aa (f2 az (ae 0) (fC (.int 1))) (aa (f2 az (ae 0) (fC (.int 2))) af))))))) (aI (fC (.bool false))) dS) (ay (aW 1 [0] (aw 1 [] (bo (f2 az (ae 0) (fC (.int 2)))) (fG 0) (λ_=>some true) (aA (aa (f2 az (ae 0) (fC (.int 0))) (aa (f2 az (ae 0) (fC (.int 1))) af))))) (ay (aW 2 [0] (m6 iK (aa (ai 1 bM (aa (f2 az (ae 0) (fC (.int 0))) af)) af))) (ay (aW 3 [0] (m6 iK (aa (cf (aw 2 [] (bo (ai 1 bM (aa (f2 az (ae 0) (fC (.int 1))) af))) (j4 0 1) (λ_=>some true) (aA (aa (ae 1) (aa (ae 0) af))))) af))) (aI (m9 (f2 bz (ae 1) (ae 2)) (f2 bz (ae 1) (ae 3))))))))
def bp:List D->Option D:=bq ib 4
abbrev nC:List Str:=["world"]
def dO:ar->Option Out:=(eI (bH (fB (ai 1 bp (aa (ae 0) af)))) RQ dS)
def aX:List D->Option D:=bq dO 1
abbrev nr:List Str:=["thing","least","most"]
def cG:ar->Option Out:=(eI (bH (fB (ai 3 aO (aa (ae 0) (aa (ae 1) (aa (ae 2) af)))))) RQ dS)
def dh:List D->Option D:=bq cG 3
abbrev ma:List Str:=["thing","many"]
def b9:ar->Option Out:=(fR (ai 3 dh (aa (ae 0) (aa (fC (.int 0)) (aa (f2 Dl.dJ (ae 1) (fC (.int 1))) af)))))
def bA:List D->Option D:=bq b9 2
abbrev oJ:List Str:=["thing"]
def eN:ar->Option Out:=(fR (ai 2 bA (aa (ae 0) (aa (fC (.int 2)) af))))
def dH:List D->Option D:=bq eN 1
abbrev HU:List Str:=["world","side","place","ways","likes","own"]
def mQ:ar->Option Out:=(ay (aR 3 [0] (f2 az (ae 0) (fC (.int 2)))) (ay (aR 4 [0,1,2] (f2 az (f2 az (f2 az (ae 0) (ae 1)) (ae 2)) (fC (.int 1)))) (ay (aW 5 [1,2,3] (aw 2 [1,2] (bJ (aa (ae 3) af)) (j4 0 1) (fB (f2 bz (f2 az (ae 1) (ae 2)) (ae 3))) (ae 0))) (aI (cf (rf [1,3,4] (ae 5) (f2 iT (ae 3) (f2 az (f2 az (ae 2) (ae 0)) (f2 Dl.dJ (fC (.int 1)) (ae 1))))))))))
def dg:List D->Option D:=bq mQ 6
abbrev CT:List Str:=["_law_script","_law_k"]
def iF:ar->Option Out:=(ay (eI (fB (f2 bz (ae 0) (cf (cX af)))) (aI (f2 cJ (fC (.int 7)) (ae 1))) dS) (aI (f2 aD (f2 az (ae 0) (f2 nc (ae 1) (ba aZ (aa (ae 0) af)))) (f2 cJ (fC (.int 6553)) (f2 o9 (ae 1) (ba aZ (aa (ae 0) af)))))))
def eu:List D->Option D:=bq iF 2
abbrev z6:List Str:=["_law_script","_law_k","_law_many","_law_cell_here"]
def ka:ar->Option Out:=(ay (aR 3 [0,1] (f2 nc (f2 aD (f2 cJ (f2 nc (ai 2 eu (aa (ae 0) (aa (ae 1) af))) (fC (.int 2147483563))) (fC (.int 69069))) (f2 cJ (fC (.int 104723)) (f2 aD (ae 1) (fC (.int 1))))) (fC (.int 2147483563)))) (ay (aR 3 [3] (f2 nc (f2 aD (f2 cJ (ae 3) (ae 3)) (f2 o9 (ae 3) (fC (.int 3)))) (fC (.int 2147483399)))) (aI (f2 nc (f2 o9 (f2 nc (f2 aD (f2 cJ (ae 3) (ae 3)) (f2 o9 (ae 3) (fC (.int 7)))) (fC (.int 2147483647))) (fC (.int 11))) (ae 2)))))
def ao:List D->Option D:=bq ka 4
abbrev we:List Str:=["_law_script","_law_at","_law_rows","_law_found","_law_k","_law_row","_law_order","_law_j","_law_one"]
def iR:ar->Option Out:=(ay (aW 3 [] (cX af)) (ay (cq [2] (bJ (aa (ae 2) af)) (gy 4 5) (ay (aW 6 [] (cX af)) (ay (cq [5] (bJ (aa (ae 5) af)) (gy 7 8) (JB 6 [8] (ai 3 ao (aa (ae 0) (aa (f2 aD (f2 aD (ae 1) (f2 cJ (fC (.int 4)) (ae 4))) (ae 7)) (aa (f2 aD (ba aZ (aa (ae 6) af)) (fC (.int 1))) af)))) (ae 8))) (lG 3 [6] (ba cF (aa (ae 6) af)))))) (aI (ae 3))))
def bY:List D->Option D:=bq iR 9
abbrev Bj:List Str:=["_law_script","_law_at","_law_most","_law_each","_law_takers","_law_many","_law_size","_law_ways","_law_k","_law_mine","_law_yours","_law_givers"]
def eM:ar->Option Out:=(ay (eI (eV (fB (f2 tx (ae 2) (fC (.int 3)))) (fB (f2 bz (ai 3 ao (aa (ae 0) (aa (f2 aD (ae 1) (fC (.int 64))) (aa (fC (.int 4)) af)))) (fC (.int 0))))) (ay (aR 3 [0,1] (f2 aD (fC (.int 1)) (ai 3 ao (aa (ae 0) (aa (f2 aD (ae 1) (fC (.int 65))) (aa (fC (.int 2)) af)))))) (ay (aR 4 [3] (aA (aa (aA (aa (ae 3) (aa (aA (aa (fC (.int 1)) (aa (fC (.int 0)) af))) af))) (aa (aA (aa (ae 3) (aa (aA (aa (fC (.int 0)) (aa (fC (.int 1)) af))) af))) af)))) (aI (aA (aa (aA (aa (aA (aa (ae 3) (aa (aA (aa (fC (.int 0)) (aa (fC (.int 1)) af))) af))) (aa (aA (aa (ae 3) (aa (aA (aa (fC (.int 1)) (aa (fC (.int 0)) af))) af))) af))) (aa (ae 4) (aa (aA (aa (aA (aa (fC (.int 0)) (aa (fC (.int 0)) (aa (fC (.int 2)) af)))) (aa (aA (aa (fC (.int 0)) (aa (fC (.int 1)) (aa (fC (.int 2)) af)))) (aa (aA (aa (fC (.int 1)) (aa (fC (.int 0)) (aa (fC (.int 2)) af)))) (aa (aA (aa (fC (.int 1)) (aa (fC (.int 1)) (aa (fC (.int 2)) af)))) af))))) af))))))) dS) (ay (aR 5 [0,1] (f2 aD (fC (.int 1)) (ai 3 ao (aa (ae 0) (aa (ae 1) (aa (fC (.int 3)) af)))))) (ay (aR 6 [0,1] (f2 aD (fC (.int 1)) (ai 3 ao (aa (ae 0) (aa (f2 aD (ae 1) (fC (.int 1))) (aa (fC (.int 3)) af)))))) (ay (aW 7 [] (cX af)) (ay (cq [5,6] (aE (aa (f2 cJ (ae 5) (ae 6)) af)) (gM 8) (eI (eV (fB (f2 EY (ba aZ (aa (ae 7) af)) (ae 2))) (fB (f2 tx (ai 3 ao (aa (ae 0) (aa (f2 aD (f2 aD (ae 1) (fC (.int 2))) (ae 8)) (aa (fC (.int 4)) af)))) (fC (.int 0))))) (lG 7 [0,1,6,8] (aA (aa (f2 o9 (ae 8) (ae 6)) (aa (f2 nc (ae 8) (ae 6)) (aa (f2 aD (fC (.int 1)) (ai 3 ao (aa (ae 0) (aa (f2 aD (f2 aD (ae 1) (fC (.int 12))) (ae 8)) (aa (fC (.int 2)) af))))) af))))) dS)) (ay (aR 9 [0,1,5,7] (ai 3 bY (aa (ae 0) (aa (f2 aD (ae 1) (fC (.int 24))) (aa (cf (aw 1 [7] (aE (aa (ae 5) af)) (fG 0) (λ_=>some true) (cf (aw 1 [0] (bo (ae 1)) (fG 0) (fB (f2 bz (f2 az (ae 0) (fC (.int 0))) (ae 1))) (f2 az (ae 0) (fC (.int 1))))))) af))))) (ay (aR 10 [0,1,6,7] (ai 3 bY (aa (ae 0) (aa (f2 aD (ae 1) (fC (.int 40))) (aa (cf (aw 1 [7] (aE (aa (ae 6) af)) (fG 0) (λ_=>some true) (cf (aw 1 [0] (bo (ae 1)) (fG 0) (fB (f2 bz (f2 az (ae 0) (fC (.int 1))) (ae 1))) (f2 az (ae 0) (fC (.int 0))))))) af))))) (ay (aR 11 [0,1,8,9] (ba cF (aa (cf (aw 2 [0,1] (bJ (aa (ae 9) af)) (j4 0 1) (λ_=>some true) (aA (aa (ai 3 ao (aa (ae 2) (aa (f2 aD (f2 aD (ae 3) (fC (.int 56))) (ae 0)) (aa (fC (.int 4)) af)))) (aa (ae 1) af))))) af))) (ay (aR 4 [0,1,8,10] (ba cF (aa (cf (aw 2 [0,1] (bJ (aa (ae 10) af)) (j4 0 1) (λ_=>some true) (aA (aa (ai 3 ao (aa (ae 2) (aa (f2 aD (f2 aD (ae 3) (fC (.int 60))) (ae 0)) (aa (fC (.int 4)) af)))) (aa (ae 1) af))))) af))) (aI (aA (aa (ae 11) (aa (ae 4) (aa (ba cF (aa (ae 7) af)) af))))))))))))))
def cn:List D->Option D:=bq eM 12
abbrev HZ:List Str:=["world","plan","side","place"]
def qv:ar->Option Out:=(aI (ba iA (aa (cf (aw 2 [2,3] (fy (aa (f2 az (ae 0) (fC (.int 2))) (aa (ae 1) af))) (j4 0 1) (fB (f2 bz (f2 az (ae 0) (ae 2)) (ae 3))) (ae 1))) af)))
def dF:List D->Option D:=bq qv 4
abbrev sr:List Str:=["world","plan","side"]
def gx:ar->Option Out:=(aI (ba pO (aa (cf (aw 2 [0,1,2] (bJ (aa (f2 az (ae 0) (ae 2)) af)) (j4 0 1) (λ_=>some true) (f2 Ha (ai 4 dF (aa (ae 2) (aa (ae 3) (aa (ae 4) (aa (ae 0) af))))) (f2 az (ae 1) (fC (.int 0)))))) af)))
def da:List D->Option D:=bq gx 3
abbrev HG:List Str:=["world","thing","ways"]
def g8:ar->Option Out:=(ay (aR 2 [0] (f2 az (ae 0) (fC (.int 2)))) (ay (eI (bH (fB (ai 3 br (aa (ae 1) (aa (ba aZ (aa (ae 2) af)) (aa (ba aZ (aa (ae 2) af)) af)))))) (aI (fC (.bool false))) dS) (ay (eI (bH (fB (ba pO (aa (cf (aw 2 [] (fy (aa (ae 2) (aa (ae 1) af))) (j4 0 1) (λ_=>some true) (ai 3 aO (aa (ae 1) (aa (fC (.int 0)) (aa (f2 az (ae 0) (fC (.int 2))) af)))))) af)))) (aI (fC (.bool false))) dS) (aI (m9 (ai 3 da (aa (ae 0) (aa (ae 1) (aa (fC (.int 0)) af)))) (ai 3 da (aa (ae 0) (aa (ae 1) (aa (fC (.int 1)) af)))))))))
def ck:List D->Option D:=bq g8 3
abbrev o8:List Str:=["world","plan"]
def eW:ar->Option Out:=(ay (fR (ai 1 aX (aa (ae 0) af))) (eI (bH (fB (ai 2 ck (aa (ae 0) (aa (ae 1) af))))) RQ dS))
def aY:List D->Option D:=bq eW 2
abbrev AK:List Str:=["world","plan","side","way","place","own","less_liked"]
def gR:ar->Option Out:=(ay (aR 4 [0,2,3] (f2 az (f2 az (f2 az (ae 0) (fC (.int 2))) (ae 3)) (ae 2))) (ay (eI (fB (f2 EY (ai 4 dF (aa (ae 0) (aa (ae 1) (aa (ae 2) (aa (ae 4) af))))) (f2 az (f2 az (f2 az (ae 0) (ae 2)) (ae 4)) (fC (.int 0))))) (aI (fC (.bool true))) dS) (ay (aR 5 [0,2,4] (ai 3 dg (aa (ae 0) (aa (ae 2) (aa (ae 4) af))))) (ay (aR 6 [3,5] (sy lQ (ae 5) (KJ (f2 aD (f2 iT (ae 5) (ae 3)) (fC (.int 1)))) ud)) (aI (ba Rf.JC (aa (cf (aw 1 [1] (bo (ae 6)) (fG 0) (λ_=>some true) (f2 tx (f2 az (ae 1) (ae 0)) (fC (.int 0))))) af)))))))
def cU:List D->Option D:=bq gR 7
abbrev Ej:List Str:=["world","plan","way"]
def lb:ar->Option Out:=(ay (eI (fB (f2 bz (f2 az (ae 1) (ae 2)) (f2 az (f2 az (f2 az (ae 0) (fC (.int 2))) (ae 2)) (fC (.int 2))))) (aI (fC (.str "full"))) dS) (ay (eI (bH (fB (ai 4 cU (aa (ae 0) (aa (ae 1) (aa (fC (.int 0)) (aa (ae 2) af))))))) (aI (fC (.str "giver"))) dS) (ay (eI (bH (fB (ai 4 cU (aa (ae 0) (aa (ae 1) (aa (fC (.int 1)) (aa (ae 2) af))))))) (aI (fC (.str "taker"))) dS) (aI (fC .none)))))
def fO:List D->Option D:=bq lb 3
abbrev sv:List Str:=["world","plan","way"]
def dZ:ar->Option Out:=(ay (cq [1] (aE (aa (ba aZ (aa (ae 1) af)) af)) (gM 2) (eI (fB (f2 su (ai 3 fO (aa (ae 0) (aa (ae 1) (aa (ae 2) af)))) (fC .none))) (aI (ae 2)) dS)) (aI (fC .none)))
def dX:List D->Option D:=bq dZ 3
abbrev ES:List Str:=["world","plan"]
def kc:ar->Option Out:=(aI (f2 su (ai 2 dX (aa (ae 0) (aa (ae 1) af))) (fC .none)))
def kb:List D->Option D:=bq kc 2
abbrev Dw:List Str:=["_law_world_here","_law_plan_here","_law_side","_law_place"]
def l0:ar->Option Out:=(aI (ba iA (aa (cf (aw 2 [2,3] (fy (aa (ae 1) (aa (f2 az (ae 0) (fC (.int 2))) af))) (j4 0 1) (fB (f2 bz (f2 az (ae 1) (ae 2)) (ae 3))) (ae 0))) af)))
def bu:List D->Option D:=bq l0 4
abbrev CD:List Str:=["_law_world_here","_law_plan_here","_law_side","_law_place","_law_row"]
def iM:ar->Option Out:=(ay (cq [] (aE (aa (fC (.int 2)) af)) (gM 2) (cq [0,2] (bJ (aa (f2 az (ae 0) (ae 2)) af)) (gy 3 4) (eI (fB (f2 tx (ai 4 bu (aa (ae 0) (aa (ae 1) (aa (ae 2) (aa (ae 3) af))))) (f2 az (ae 4) (fC (.int 0))))) (aI (fC (.bool false))) dS))) (aI (fC (.bool true))))
def cy:List D->Option D:=bq iM 5
abbrev Ad:List Str:=["_law_world_here","_law_found","_law_way","_law_longer","_law_row"]
def gP:ar->Option Out:=(ay (aW 1 [] (cX (aa (aA af) af))) (ay (cq [0] (bo (f2 az (ae 0) (fC (.int 2)))) (gM 2) (ay (aW 3 [] (cX af)) (ay (cq [1] (bo (ae 1)) (gM 4) (aW 3 [2,3,4] (R4 oF (ae 3) (cf (aw 1 [4] (aE (aa (f2 aD (f2 az (ae 2) (fC (.int 2))) (fC (.int 1))) af)) (fG 0) (λ_=>some true) (f2 aD (ae 1) (aA (aa (ae 0) af)))))))) (aR 1 [3] (ae 3))))) (aI (cf (aw 1 [0] (bo (ae 1)) (fG 0) (fB (ai 2 cy (aa (ae 1) (aa (ae 0) af)))) (ae 0))))))
def fg:List D->Option D:=bq gP 5
abbrev BO:List Str:=["_law_script","_law_at","_law_world_here","_law_found","_law_k","_law_way","_law_more","_law_fit"]
def iJ:ar->Option Out:=(ay (aR 3 [] (aA af)) (ay (cq [2] (bJ (aa (f2 az (ae 2) (fC (.int 2))) af)) (gy 4 5) (ay (aR 6 [0,1,3,4,5] (f2 aD (ae 3) (aA (aa (ai 3 ao (aa (ae 0) (aa (f2 aD (ae 1) (ae 4)) (aa (f2 aD (f2 az (ae 5) (fC (.int 2))) (fC (.int 1))) af)))) af)))) (ay (aR 7 [2,6] (ai 2 cy (aa (ae 2) (aa (f2 aD (ae 6) (f2 cJ (aA (aa (fC (.int 0)) af)) (f2 Dl.dJ (ba aZ (aa (f2 az (ae 2) (fC (.int 2))) af)) (ba aZ (aa (ae 6) af))))) af)))) (aR 3 [3,6,7] (GI (fB (ae 7)) (ae 6) (f2 aD (ae 3) (aA (aa (fC (.int 0)) af)))))))) (aI (ae 3))))
def gm:List D->Option D:=bq iJ 8
abbrev nF:List Str:=["world","side","place"]
def dW:ar->Option Out:=(ay (fR (ai 1 dH (aa (ae 1) af))) (fR (ai 2 bA (aa (ae 2) (aa (ba aZ (aa (f2 az (ae 0) (ae 1)) af)) af)))))
def di:List D->Option D:=bq dW 3
abbrev Ap:List Str:=["world","side","place","numbers"]
def k8:ar->Option Out:=(aI (ba cF (aa (cf (aw 1 [3] (bo (ai 3 dg (aa (ae 0) (aa (ae 1) (aa (ae 2) af))))) (fG 0) (λ_=>some true) (f2 az (ae 1) (ae 0)))) af)))
def eL:List D->Option D:=bq k8 4
abbrev oC:List Str:=["world","many","way"]
def eX:ar->Option Out:=(ay (aR 1 [] (fC (.int 1))) (ay (cq [0] (bo (f2 az (ae 0) (fC (.int 2)))) (gM 2) (aR 1 [1,2] (f2 cJ (ae 1) (f2 aD (f2 az (ae 2) (fC (.int 2))) (fC (.int 1)))))) (eI (fB (f2 tx (ae 1) (fC (.int 3000)))) RQ dS)))
def dE:List D->Option D:=bq eX 3
abbrev sx:List Str:=["ways","found","way","longer","begun"]
def dY:ar->Option Out:=(ay (aW 1 [] (cX (aa (aA af) af))) (ay (cq [0] (bo (ae 0)) (gM 2) (ay (aW 3 [] (cX af)) (ay (cq [1] (bo (ae 1)) (gM 4) (Bp 3 [2,4] (aw 1 [4] (aE (aa (f2 aD (f2 az (ae 2) (fC (.int 2))) (fC (.int 1))) af)) (fG 0) (λ_=>some true) (f2 aD (ae 1) (aA (aa (ae 0) af)))))) (aR 1 [3] (ae 3))))) (aI (ae 1))))
def ee:List D->Option D:=bq dY 5
abbrev rE:List Str:=["world"]
def iG:ar->Option Out:=(ay (fR (ai 1 aX (aa (ae 0) af))) (ay (fR (ai 1 dE (aa (ae 0) af))) (aI (cf (aw 1 [0] (bo (ai 1 ee (aa (f2 az (ae 0) (fC (.int 2))) af))) (fG 0) (fB (ai 2 ck (aa (ae 1) (aa (ae 0) af)))) (ae 0))))))
def cx:List D->Option D:=bq iG 1
abbrev rh:List Str:=["world"]
def iD:ar->Option Out:=(aI (cf (aw 1 [0] (bo (ai 1 cx (aa (ae 0) af))) (fG 0) (fB (ai 2 kb (aa (ae 1) (aa (ae 0) af)))) (ae 0))))
def cC:List D->Option D:=bq iD 1
abbrev sS:List Str:=["world","side","place","plan","much","left"]
def eh:ar->Option Out:=(ay (aR 4 [0,1,2,3] (ai 4 eL (aa (ae 0) (aa (ae 1) (aa (ae 2) (aa (ae 3) af)))))) (ay (aR 5 [0,1,2,4] (f2 Dl.dJ (f2 az (f2 az (f2 az (ae 0) (ae 1)) (ae 2)) (fC (.int 0))) (ba iA (aa (ae 4) af)))) (aI (f2 aD (ba iA (aa (cf (aw 2 [] (bJ (aa (ae 4) af)) (j4 0 1) (λ_=>some true) (f2 cJ (ae 0) (ae 1)))) af)) (f2 cJ (ae 5) (ba aZ (aa (ae 4) af)))))))
def bQ:List D->Option D:=bq eh 6
abbrev u3:List Str:=["world","side","plan"]
def eO:ar->Option Out:=(aI (ba iA (aa (cf (aw 1 [0,1,2] (aE (aa (ba aZ (aa (f2 az (ae 0) (ae 1)) af)) af)) (fG 0) (λ_=>some true) (ai 4 bQ (aa (ae 1) (aa (ae 2) (aa (ae 0) (aa (ae 3) af))))))) af)))
def bO:List D->Option D:=bq eO 3
abbrev Kt:List Str:=["world","side","place","plan"]
def Ab:ar->Option Out:=(ay (fR (ai 2 aY (aa (ae 0) (aa (ae 3) af)))) (ay (fR (ai 3 di (aa (ae 0) (aa (ae 1) (aa (ae 2) af))))) (aI (ai 4 bQ (aa (ae 0) (aa (ae 1) (aa (ae 2) (aa (ae 3) af))))))))
def k4:List D->Option D:=bq Ab 4
abbrev GJ:List Str:=["world","plan"]
def tE:ar->Option Out:=(ay (fR (ai 2 aY (aa (ae 0) (aa (ae 1) af)))) (aI (aA (aa (ai 3 bO (aa (ae 0) (aa (fC (.int 0)) (aa (ae 1) af)))) (aa (ai 3 bO (aa (ae 0) (aa (fC (.int 1)) (aa (ae 1) af)))) af)))))
def j6:List D->Option D:=bq tE 2
abbrev AI:List Str:=["world","plan","of_givers","of_takers"]
def gN:ar->Option Out:=(ay (aR 2 [0,1] (ai 3 bO (aa (ae 0) (aa (fC (.int 0)) (aa (ae 1) af))))) (ay (aR 3 [0,1] (ai 3 bO (aa (ae 0) (aa (fC (.int 1)) (aa (ae 1) af))))) (aI (aA (aa (f2 aD (ae 2) (ae 3)) (aa (ba Fi (aa (f2 Dl.dJ (ae 2) (ae 3)) af)) af))))))
def e9:List D->Option D:=bq gN 4
abbrev yc:List Str:=["world"]
def mS:ar->Option Out:=(aI (zg [0] (ai 1 cC (aa (ae 0) af)) (ai 2 e9 (aa (ae 1) (aa (ae 0) af)))))
def fF:List D->Option D:=bq mS 1
open PySem L2 Dl PySem.Spec PyProof.Rows Ex
def lL:XS:=(Ly (bH (fB (ai 1 bp (aa (ae 0) af)))) (RX "NoWorld") m8)
def bL:List D->Option Str:=oQ lL 1
def ni:XS:=(gG (iB (rX 1 bL (aa (ae 0) af))) (fR (ai 1 aX (aa (ae 0) af))) (Ly (bH (fB (ai 2 ck (aa (ae 0) (aa (ae 1) af))))) (RX "NoPlan") m8))
def bC:List D->Option Str:=oQ ni 2
abbrev AX:List Str:=["_law_world_here","_law_plan_here","_law_side","_law_place","_law_other","_law_row","_law_many","_law_way"]
def gT:ar->Option Out:=(ay (eI (fB (f2 EY (ai 4 bu (aa (ae 0) (aa (ae 1) (aa (ae 2) (aa (ae 3) af))))) (f2 az (f2 az (f2 az (ae 0) (ae 2)) (ae 3)) (fC (.int 0))))) (aI (fC (.bool true))) dS) (ay (aR 5 [0,2,3] (f2 az (f2 az (f2 az (ae 0) (ae 2)) (ae 3)) (fC (.int 1)))) (ay (cq [0,1] (fy (aa (ae 1) (aa (f2 az (ae 0) (fC (.int 2))) af))) (gy 6 7) (eI (eV (fB (f2 bz (f2 az (ae 7) (ae 2)) (ae 3))) (eV (fB (f2 tx (ae 6) (fC (.int 0)))) (fB (f2 tx (f2 iT (ae 5) (f2 az (ae 7) (f2 Dl.dJ (fC (.int 1)) (ae 2)))) (f2 iT (ae 5) (ae 4)))))) (aI (fC (.bool true))) dS)) (aI (fC (.bool false))))))
def cW:List D->Option D:=bq gT 8
abbrev EW:List Str:=["_law_world_here","_law_plan_here","_law_way","_law_giver","_law_taker","_law_limit"]
def kf:ar->Option Out:=(ay (pV 3 4 5 [0,2] (f2 az (f2 az (ae 0) (fC (.int 2))) (ae 2))) (ay (eI (fB (f2 bz (f2 az (ae 1) (ae 2)) (ae 5))) (aI (fC (.str "full"))) dS) (ay (eI (bH (fB (ai 5 cW (aa (ae 0) (aa (ae 1) (aa (fC (.int 0)) (aa (ae 3) (aa (ae 4) af)))))))) (aI (fC (.str "giver"))) dS) (aI (GI (fB (ai 5 cW (aa (ae 0) (aa (ae 1) (aa (fC (.int 1)) (aa (ae 4) (aa (ae 3) af))))))) (fC .none) (fC (.str "taker")))))))
def ig:List D->Option D:=bq kf 6
abbrev Be:List Str:=["_law_world_here","_law_plan_here"]
def gQ:ar->Option Out:=(aI (f2 bz (cf (aw 1 [0,1] (aE (aa (ba aZ (aa (ae 1) af)) af)) (fG 0) (fB (f2 su (ai 3 ig (aa (ae 1) (aa (ae 2) (aa (ae 0) af)))) (fC .none))) (ae 0))) (cf (cX af))))
def eP:List D->Option D:=bq gQ 2
def mn:XS:=(Ly (bH (fB (ai 3 aO (aa (ae 0) (aa (ae 1) (aa (ae 2) af)))))) (RX "NoPlace") m8)
def dQ:List D->Option Str:=oQ mn 3
def lu:XS:=(iB (rX 3 dQ (aa (ae 0) (aa (fC (.int 0)) (aa (f2 Dl.dJ (ae 1) (fC (.int 1))) af)))))
def bN:List D->Option Str:=oQ lu 2
def nL:XS:=(iB (rX 2 bN (aa (ae 0) (aa (fC (.int 2)) af))))
def gJ:List D->Option Str:=oQ nL 1
def l9:XS:=(gG (iB (rX 1 gJ (aa (ae 1) af))) (fR (ai 1 dH (aa (ae 1) af))) (iB (rX 2 bN (aa (ae 2) (aa (ba aZ (aa (f2 az (ae 0) (ae 1)) af)) af)))))
def dR:List D->Option Str:=oQ l9 3
def nG:XS:=(EF (aR 1 [] (fC (.int 1))) (EF (cq [0] (bo (f2 az (ae 0) (fC (.int 2)))) (gM 2) (aR 1 [1,2] (f2 cJ (ae 1) (f2 aD (f2 az (ae 2) (fC (.int 2))) (fC (.int 1)))))) (Ly (fB (f2 tx (ae 1) (fC (.int 3000)))) (RX "TooMany") m8)))
def eS:List D->Option Str:=oQ nG 3
def pC:XS:=(gG (iB (rX 1 bL (aa (ae 0) af))) (fR (ai 1 aX (aa (ae 0) af))) (iB (rX 1 eS (aa (ae 0) af))))
def eC:List D->Option Str:=oQ pC 1
def pj:XS:=(iB (rX 1 eC (aa (ae 0) af)))
def gc:List D->Option Str:=oQ pj 1
def GT:XS:=(gG (iB (rX 2 bC (aa (ae 0) (aa (ae 3) af)))) (fR (ai 2 aY (aa (ae 0) (aa (ae 3) af)))) (iB (rX 3 dR (aa (ae 0) (aa (ae 1) (aa (ae 2) af))))))
def qk:List D->Option Str:=oQ GT 4
def B1:XS:=(iB (rX 2 bC (aa (ae 0) (aa (ae 1) af))))
def oq:List D->Option Str:=oQ B1 2
def uN:XS:=(iB (rX 1 gc (aa (ae 0) af)))
def jg:List D->Option Str:=oQ uN 1
abbrev Ck:List Str:=["_law_world_here","_law_side","_law_place","_law_plan_here","_law_row","_law_found","_law_many","_law_way"]
def lV:ar->Option Out:=(ay (aR 4 [0,1,2] (f2 az (f2 az (f2 az (ae 0) (ae 1)) (ae 2)) (fC (.int 1)))) (ay (aR 5 [0,1,2,3,4] (f2 cJ (ba aZ (aa (ae 4) af)) (f2 Dl.dJ (f2 az (f2 az (f2 az (ae 0) (ae 1)) (ae 2)) (fC (.int 0))) (ai 4 bu (aa (ae 0) (aa (ae 3) (aa (ae 1) (aa (ae 2) af)))))))) (ay (cq [0,3] (fy (aa (ae 3) (aa (f2 az (ae 0) (fC (.int 2))) af))) (gy 6 7) (eI (fB (f2 bz (f2 az (ae 7) (ae 1)) (ae 2))) (aR 5 [1,4,5,6,7] (f2 aD (ae 5) (f2 cJ (ae 6) (f2 iT (ae 4) (f2 az (ae 7) (f2 Dl.dJ (fC (.int 1)) (ae 1))))))) dS)) (aI (ae 5)))))
def bD:List D->Option D:=bq lV 8
abbrev CO:List Str:=["_law_world_here","_law_plan_here","_law_found","_law_side"]
def rR:ar->Option Out:=(ay (aW 2 [] (cX af)) (ay (cq [] (aE (aa (fC (.int 2)) af)) (gM 3) (lG 2 [0,1,3] (ba iA (aa (cf (aw 1 [0,1,3] (aE (aa (ba aZ (aa (f2 az (ae 0) (ae 3)) af)) af)) (fG 0) (λ_=>some true) (ai 4 bD (aa (ae 1) (aa (ae 3) (aa (ae 0) (aa (ae 2) af))))))) af)))) (aI (ba cF (aa (ae 2) af)))))
def dC:List D->Option D:=bq rR 4
abbrev so:List Str:=["_law_ask","_law_world_here","_law_plan_here","_law_some","_law_e"]
def lF:ar->Option Out:=(C0 (ay (eI (fB (f2 EY (ae 0) (fC (.int 2)))) (aI (ai 4 k4 (aa (ae 1) (aa (ae 0) (aa (ae 3) (aa (ae 2) af)))))) dS) (aI (GI (fB (f2 bz (ae 0) (fC (.int 2)))) (ai 2 j6 (aa (ae 1) (aa (ae 2) af))) (ai 1 fF (aa (ae 1) af))))) (gG (Ly (fB (f2 EY (ae 0) (fC (.int 2)))) (iB (rX 4 qk (aa (ae 1) (aa (ae 0) (aa (ae 3) (aa (ae 2) af)))))) m8) (eI (fB (f2 EY (ae 0) (fC (.int 2)))) (aI (ai 4 k4 (aa (ae 1) (aa (ae 0) (aa (ae 3) (aa (ae 2) af)))))) dS) (iB (E3 (fB (f2 bz (ae 0) (fC (.int 2)))) (rX 2 oq (aa (ae 1) (aa (ae 2) af))) (rX 1 jg (aa (ae 1) af))))) (nh ["NoWorld","NoPlan","NoPlace","TooMany"]))
def av:List D->Option D:=bq lF 5
abbrev yn:List Str:=["_law_script","_law_world_here","_law_plan_here","_law_side","_law_place","_law_bad","_law_rows","_law_other","_law_mine","_law_yours","_law_takers","_law_great"]
def xy:ar->Option Out:=(ay (aR 1 [0] (ai 3 cn (aa (ae 0) (aa (fC (.int 0)) (aa (fC (.int 6)) af))))) (ay (aR 2 [0,1] (ai 3 gm (aa (ae 0) (aa (fC (.int 70)) (aa (ae 1) af))))) (ay (cq [] (aE (aa (fC (.int 2)) af)) (gM 3) (ay (cq [1,3] (aE (aa (ba aZ (aa (f2 az (ae 1) (ae 3)) af)) af)) (gM 4) (eI (fB (f2 gU (ai 4 av (aa (ae 3) (aa (ae 1) (aa (ae 2) (aa (ae 4) af))))) (ai 4 bD (aa (ae 1) (aa (ae 3) (aa (ae 4) (aa (ae 2) af))))))) (aI (fC (.bool false))) dS)) (cq [1,3] (bo (aA (aa (f1 MG (fC (.int 1))) (aa (ba aZ (aa (f2 az (ae 1) (ae 3)) af)) (aa (fC .none) (aa (fC (.bool true)) (aa (fC (.str "0")) af))))))) (gM 5) (eI (fB (f2 gU (ai 4 av (aa (ae 3) (aa (ae 1) (aa (ae 2) (aa (ae 5) af))))) (aA (aa (fC (.str "refused")) (aa (fC (.int 2)) af))))) (aI (fC (.bool false))) dS)))) (ay (eI (fB (f2 gU (ai 4 av (aa (fC (.int 2)) (aa (ae 1) (aa (ae 2) (aa (fC .none) af))))) (ai 2 dC (aa (ae 1) (aa (ae 2) af))))) (aI (fC (.bool false))) dS) (ay (aW 6 [] (cX af)) (ay (cq [1] (bo (ai 1 fg (aa (ae 1) af))) (gM 7) (eI (fB (ai 2 eP (aa (ae 1) (aa (ae 7) af)))) (ay (nR 8 9 [1,7] (ai 2 dC (aa (ae 1) (aa (ae 7) af)))) (lG 6 [7,8,9] (aA (aa (f2 aD (ae 8) (ae 9)) (aa (ba Fi (aa (f2 Dl.dJ (ae 8) (ae 9)) af)) (aa (ae 7) af)))))) dS)) (ay (eI (fB (f2 gU (ai 4 av (aa (fC (.int 3)) (aa (ae 1) (aa (fC .none) (aa (fC .none) af))))) (f2 az (ba og (aa (ae 6) af)) (fC (.int 2))))) (aI (fC (.bool false))) dS) (ay (cq [2] (bo (aA (aa (fC .none) (aa (f2 aD (ae 2) (aA (aa (fC (.int 0)) af))) (aa (cf (m6 cg (aa (ae 2) af))) (aa (f2 cJ (aA (aa (fC (.int 9)) af)) (f2 aD (ba aZ (aa (ae 2) af)) (fC (.int 2)))) af)))))) (gM 5) (eI (fB (f2 gU (cf (aw 1 [1,5] (aE (aa (fC (.int 3)) af)) (fG 0) (λ_=>some true) (ai 4 av (aa (ae 0) (aa (ae 1) (aa (ae 2) (aa (fC .none) af))))))) (cf (rZ (cX (aa (aA (aa (fC (.str "refused")) (aa (fC (.int 1)) af))) af)) (fC (.int 3)))))) (aI (fC (.bool false))) dS)) (ay (aR 10 [] (ba cF (aa (cf (aw 1 [] (aE (aa (fC (.int 4)) af)) (fG 0) (λ_=>some true) (aA (aa (fC (.int 9)) (aa (aA (aa (fC (.int 0)) af)) af))))) af))) (ay (aR 11 [10] (aA (aa (aA (aa (aA (aa (fC (.int 9)) (aa (aA (aa (fC (.int 0)) (aa (fC (.int 1)) (aa (fC (.int 2)) (aa (fC (.int 3)) af))))) af))) af)) (aa (ae 10) (aa (ba cF (aa (cf (aw 1 [] (aE (aa (fC (.int 4)) af)) (fG 0) (λ_=>some true) (aA (aa (fC (.int 0)) (aa (ae 0) (aa (fC (.int 9)) af)))))) af)) af))))) (ay (eI (fB (f2 gU (ai 4 av (aa (fC (.int 3)) (aa (ae 11) (aa (fC .none) (aa (fC .none) af))))) (aA (aa (fC (.str "refused")) (aa (fC (.int 3)) af))))) (aI (fC (.bool false))) dS) (aI (f2 bz (cf (aw 1 [1] (aE (aa (fC (.int 4)) af)) (fG 0) (λ_=>some true) (ai 4 av (aa (ae 0) (aa (sy lQ (ae 1) ud (KJ (fC (.int 2)))) (aa (fC .none) (aa (fC .none) af))))))) (cf (rZ (cX (aa (aA (aa (fC (.str "refused")) (aa (fC (.int 0)) af))) af)) (fC (.int 4)))))))))))))))))
def ji:List D->Option D:=bq xy 12
end Pg
namespace K34
open PySem L2 Dl PySem.Spec PyProof.Rows
open Pg Ex
abbrev Vc:List Str:=["NoWorld","NoPlan","NoPlace","TooMany"]
abbrev uc:Stmt:=top 9
def Ff:Rf.tW uc D8 ⟨[],[]⟩ none=some nN:=by kernel_rfl
abbrev rO:Stmt:=top 10
def Dt:Rf.tW rO BM ⟨[("is_whole",3,aO)],[]⟩ none=some ml:=by kernel_rfl
abbrev xo:Stmt:=top 11
def Ir:Rf.tW xo HK ⟨[],[]⟩ none=some qr:=by kernel_rfl
abbrev rV:Stmt:=top 12
def Dp:Rf.tW rV Dh ⟨[("is_number",2,cw)],[]⟩ none=some mC:=by kernel_rfl
abbrev CQ:Stmt:=top 13
def Lo:Rf.tW CQ Kc ⟨[("is_long",3,br),("is_whole",3,aO),("are_likes",2,gh)],[("MOST",9)]⟩ none=some ue:=by kernel_rfl
abbrev Dd:Stmt:=top 14
def Lu:Rf.tW Dd KO ⟨[("is_long",3,br),("is_number",2,cw),("is_whole",3,aO)],[("MOST",9)]⟩ none=some uv:=by kernel_rfl
abbrev rK:Stmt:=top 15
def Ds:Rf.tW rK DD ⟨[("is_long",3,br),("is_end",2,f9),("is_way",3,j1)],[("MOST_PLACES",4)]⟩ none=some mD:=by kernel_rfl
abbrev nq:Stmt:=top 16
def wq:Rf.tW nq wb ⟨[],[]⟩ none=some iS:=by kernel_rfl
abbrev uL:Stmt:=top 17
def EU:Rf.tW uL Fe ⟨[("liked_pairs",1,bM),("is_long",3,br),("are_parts",3,gf)],[]⟩ none=some ib:=by kernel_rfl
abbrev yd:Stmt:=top 18
def Hs:Rf.tW yd HZ ⟨[],[]⟩ none=some qv:=by kernel_rfl
abbrev lq:Stmt:=top 19
def sF:Rf.tW lq sr ⟨[("through",4,dF)],[]⟩ none=some gx:=by kernel_rfl
abbrev xj:Stmt:=top 20
def IW:Rf.tW xj HG ⟨[("is_long",3,br),("keeps_amounts",3,da),("is_whole",3,aO)],[]⟩ none=some g8:=by kernel_rfl
abbrev i6:Stmt:=top 21
abbrev ny:Rf.Sg:=⟨[("is_world",1,bp)],[]⟩
def v5:Rf.tW i6 nC ny none=some dO:=by kernel_rfl
def uD:Ex.IV i6 nC ny [] ["NoWorld"]=some lL:=by kernel_rfl
abbrev lg:Stmt:=top 22
abbrev pE:Rf.Sg:=⟨[("check_world",1,aX),("is_plan",2,ck)],[]⟩
def A3:Rf.tW lg o8 pE none=some eW:=by kernel_rfl
def vv:Ex.IV lg o8 pE [("check_world",1,bL)] ["NoPlan"]=some ni:=by kernel_rfl
abbrev iU:Stmt:=top 23
abbrev nM:Rf.Sg:=⟨[("is_whole",3,aO)],[]⟩
def vx:Rf.tW iU nr nM none=some cG:=by kernel_rfl
def uP:Ex.IV iU nr nM [] ["NoPlace"]=some mn:=by kernel_rfl
abbrev il:Stmt:=top 24
abbrev mh:Rf.Sg:=⟨[("check_whole",3,dh)],[]⟩
def u5:Rf.tW il ma mh none=some b9:=by kernel_rfl
def sk:Ex.IV il ma mh [("check_whole",3,dQ)] []=some lu:=by kernel_rfl
abbrev ku:Stmt:=top 25
abbrev oM:Rf.Sg:=⟨[("check_number",2,bA)],[]⟩
def zu:Rf.tW ku oJ oM none=some eN:=by kernel_rfl
def wx:Ex.IV ku oJ oM [("check_number",2,bN)] []=some nL:=by kernel_rfl
abbrev iV:Stmt:=top 26
abbrev nA:Rf.Sg:=⟨[("check_side",1,dH),("check_number",2,bA)],[]⟩
def v9:Rf.tW iV nF nA none=some dW:=by kernel_rfl
def uM:Ex.IV iV nF nA [("check_side",1,gJ),("check_number",2,bN)] []=some l9:=by kernel_rfl
abbrev yr:Stmt:=top 28
def HR:Rf.tW yr HU ⟨[],[]⟩ (some "ways_of.<locals>.<lambda>")=some mQ:=by kernel_rfl
abbrev ow:Stmt:=top 29
def AL:Rf.tW ow AK ⟨[("ways_of",3,dg),("through",4,dF)],[]⟩ none=some gR:=by kernel_rfl
abbrev uB:Stmt:=top 30
def DM:Rf.tW uB Ej ⟨[("wants_more",4,cU)],[]⟩ none=some lb:=by kernel_rfl
abbrev lE:Stmt:=top 31
def sM:Rf.tW lE sv ⟨[("why_kept",3,fO)],[]⟩ none=some dZ:=by kernel_rfl
abbrev tU:Stmt:=top 32
def EI:Rf.tW tU ES ⟨[("first_leaving",2,dX)],[]⟩ none=some kc:=by kernel_rfl
abbrev oo:Stmt:=top 34
def z9:Rf.tW oo Ap ⟨[("ways_of",3,dg)],[]⟩ none=some k8:=by kernel_rfl
abbrev j9:Stmt:=top 37
abbrev oY:Rf.Sg:=⟨[],[("MOST_LISTED",3000)]⟩
def AN:Rf.tW j9 oC oY none=some eX:=by kernel_rfl
def vt:Ex.IV j9 oC oY [] ["TooMany"]=some nG:=by kernel_rfl
abbrev ll:Stmt:=top 38
def sO:Rf.tW ll sx ⟨[],[]⟩ none=some dY:=by kernel_rfl
abbrev lX:Stmt:=top 39
abbrev rH:Rf.Sg:=⟨[("check_world",1,aX),("check_many",1,dE),("within_limits",1,ee),("is_plan",2,ck)],[]⟩
def Dm:Rf.tW lX rE rH none=some iG:=by kernel_rfl
def AW:Ex.IV lX rE rH [("check_world",1,bL),("check_many",1,eS)] []=some pC:=by kernel_rfl
abbrev lT:Stmt:=top 40
abbrev rW:Rf.Sg:=⟨[("all_plans",1,cx),("is_still",2,kb)],[]⟩
def BH:Rf.tW lT rh rW none=some iD:=by kernel_rfl
def zl:Ex.IV lT rh rW [("all_plans",1,eC)] []=some pj:=by kernel_rfl
abbrev lC:Stmt:=top 42
def sN:Rf.tW lC sS ⟨[("on_ways_of",4,eL)],[]⟩ none=some eh:=by kernel_rfl
abbrev mz:Stmt:=top 43
def uK:Rf.tW mz u3 ⟨[("cost_of_place",4,bQ)],[]⟩ none=some eO:=by kernel_rfl
abbrev Et:Stmt:=top 44
abbrev JK:Rf.Sg:=⟨[("check_plan",2,aY),("check_place",3,di),("cost_of_place",4,bQ)],[]⟩
def Pv:Rf.tW Et Kt JK none=some Ab:=by kernel_rfl
def My:Ex.IV Et Kt JK [("check_plan",2,bC),("check_place",3,dR)] []=some GT:=by kernel_rfl
abbrev AA:Stmt:=top 45
abbrev GL:Rf.Sg:=⟨[("check_plan",2,aY),("cost_of_side",3,bO)],[]⟩
def MX:Rf.tW AA GJ GL none=some tE:=by kernel_rfl
def JT:Ex.IV AA GJ GL [("check_plan",2,bC)] []=some B1:=by kernel_rfl
abbrev o7:Stmt:=top 46
def A7:Rf.tW o7 AI ⟨[("cost_of_side",3,bO)],[]⟩ none=some gN:=by kernel_rfl
abbrev qg:Stmt:=top 47
abbrev xx:Rf.Sg:=⟨[("all_rests",1,cC),("unfairness",2,e9)],[]⟩
def HV:Rf.tW qg yc xx (some "fairest.<locals>.<lambda>")=some mS:=by kernel_rfl
def EV:Ex.IV qg yc xx [("all_rests",1,gc)] []=some uN:=by kernel_rfl
abbrev rS:Stmt:=top 49
def Dc:Rf.tW rS CT ⟨[],[]⟩ none=some iF:=by kernel_rfl
abbrev oN:Stmt:=top 50
def A9:Rf.tW oN z6 ⟨[("_law_cell",2,eu)],[]⟩ none=some ka:=by kernel_rfl
abbrev nB:Stmt:=top 51
def wt:Rf.tW nB we ⟨[("_law_drawn",3,ao)],[]⟩ none=some iR:=by kernel_rfl
abbrev oO:Stmt:=top 52
def zk:Rf.tW oO Bj ⟨[("_law_orders",3,bY),("_law_drawn",3,ao)],[]⟩ none=some eM:=by kernel_rfl
abbrev sg:Stmt:=top 53
def Co:Rf.tW sg Dw ⟨[],[]⟩ none=some l0:=by kernel_rfl
abbrev rG:Stmt:=top 54
def By:Rf.tW rG CD ⟨[("_law_used",4,bu)],[]⟩ none=some iM:=by kernel_rfl
abbrev pA:Stmt:=top 55
def Bq:Rf.tW pA Ad ⟨[("_law_fits",2,cy)],[]⟩ none=some gP:=by kernel_rfl
abbrev rJ:Stmt:=top 56
def BF:Rf.tW rJ BO ⟨[("_law_fits",2,cy),("_law_drawn",3,ao)],[]⟩ none=some iJ:=by kernel_rfl
abbrev pw:Stmt:=top 57
def AZ:Rf.tW pw AX ⟨[("_law_used",4,bu)],[]⟩ none=some gT:=by kernel_rfl
abbrev uF:Stmt:=top 58
def Ei:Rf.tW uF EW ⟨[("_law_wants",5,cW)],[]⟩ none=some kf:=by kernel_rfl
abbrev oU:Stmt:=top 59
def Ar:Rf.tW oU Be ⟨[("_law_why",3,ig)],[]⟩ none=some gQ:=by kernel_rfl
abbrev rC:Stmt:=top 60
def BA:Rf.tW rC Ck ⟨[("_law_used",4,bu)],[]⟩ none=some lV:=by kernel_rfl
abbrev rm:Stmt:=top 61
def Da:Rf.tW rm CO ⟨[("_law_cost",4,bD)],[]⟩ none=some rR:=by kernel_rfl
abbrev ui:Stmt:=top 62
abbrev rD:Stmt:=top 63
def BB:Ex.UN rD so ⟨[("cost",4,k4),("costs",2,j6),("fairest",1,fF)],[]⟩ [("cost",4,qk),("costs",2,oq),("fairest",1,jg)] Vc=some lF:=by kernel_rfl
abbrev OV:Stmt:=top 64
def R9:Rf.tW OV yn ⟨[("_law_world",3,cn),("_law_plan",3,gm),("_law_plans",1,fg),("_law_told",4,av),("_law_both",2,dC),("_law_rests",2,eP),("_law_cost",4,bD)],[]⟩ none=some xy:=by kernel_rfl
structure bh(K:W.Frag)(mg:Str->Option Value):Prop where
 c0:bI K mg "is_whole" uc ["thing","least","most"]
 c1:bI K mg "is_number" rO ["thing","many"]
 c2:bI K mg "is_long" xo ["thing","least","most"]
 c3:bI K mg "are_likes" rV ["thing","many"]
 c4:bI K mg "is_end" CQ ["thing","many"]
 c5:bI K mg "is_way" Dd ["thing","givers","takers"]
 c6:bI K mg "are_parts" rK ["givers","takers","ways"]
 c7:bI K mg "liked_pairs" nq ["places"]
 c8:bI K mg "is_world" uL ["thing"]
 c9:bI K mg "through" yd ["world","plan","side","place"]
 c10:bI K mg "keeps_amounts" lq ["world","plan","side"]
 c11:bI K mg "is_plan" xj ["world","thing"]
 c12:bI K mg "check_world" i6 ["world"]
 c13:bI K mg "check_plan" lg ["world","plan"]
 c14:bI K mg "check_whole" iU ["thing","least","most"]
 c15:bI K mg "check_number" il ["thing","many"]
 c16:bI K mg "check_side" ku ["thing"]
 c17:bI K mg "check_place" iV ["world","side","place"]
 c18:Hv K mg "ways_of" yr ["world","side","place"]
 c19:bI K mg "wants_more" ow ["world","plan","side","way"]
 c20:bI K mg "why_kept" uB ["world","plan","way"]
 c21:bI K mg "first_leaving" lE ["world","plan"]
 c22:bI K mg "is_still" tU ["world","plan"]
 c23:bI K mg "on_ways_of" oo ["world","side","place","numbers"]
 c24:bI K mg "check_many" j9 ["world"]
 c25:bI K mg "within_limits" ll ["ways"]
 c26:bI K mg "all_plans" lX ["world"]
 c27:bI K mg "all_rests" lT ["world"]
 c28:bI K mg "cost_of_place" lC ["world","side","place","plan"]
 c29:bI K mg "cost_of_side" mz ["world","side","plan"]
 c30:bI K mg "cost" Et ["world","side","place","plan"]
 c31:bI K mg "costs" AA ["world","plan"]
 c32:bI K mg "unfairness" o7 ["world","plan"]
 c33:Hv K mg "fairest" qg ["world"]
 c34:bI K mg "_law_cell" rS ["_law_script","_law_k"]
 c35:bI K mg "_law_drawn" oN ["_law_script","_law_k","_law_many"]
 c36:bI K mg "_law_orders" nB ["_law_script","_law_at","_law_rows"]
 c37:bI K mg "_law_world" oO ["_law_script","_law_at","_law_most"]
 c38:bI K mg "_law_used" sg ["_law_world_here","_law_plan_here","_law_side","_law_place"]
 c39:bI K mg "_law_fits" rG ["_law_world_here","_law_plan_here"]
 c40:bI K mg "_law_plans" pA ["_law_world_here"]
 c41:bI K mg "_law_plan" rJ ["_law_script","_law_at","_law_world_here"]
 c42:bI K mg "_law_wants" pw ["_law_world_here","_law_plan_here","_law_side","_law_place","_law_other"]
 c43:bI K mg "_law_why" uF ["_law_world_here","_law_plan_here","_law_way"]
 c44:bI K mg "_law_rests" oU ["_law_world_here","_law_plan_here"]
 c45:bI K mg "_law_cost" rC ["_law_world_here","_law_side","_law_place","_law_plan_here"]
 c46:bI K mg "_law_both" rm ["_law_world_here","_law_plan_here"]
 c47:bI K mg "_law_refused" ui ["_law_e"]
 c48:bI K mg "_law_told" rD ["_law_ask","_law_world_here","_law_plan_here","_law_some"]
 c49:bI K mg "law" OV ["_law_script"]
 Xy:∃t,mg "MOST_PLACES"=some (.int 4 t)
 ZF:∃t,mg "MOST"=some (.int 9 t)
 WO:∃t,mg "MOST_LISTED"=some (.int 3000 t)
 m:Ex.CS K mg VE VW
 b:∀x∈cN,mg x=none
section
variable {P:Program}{w:World}{K:W.Frag}{mg:Str->Option Value}{base:Heap}
def fN(D:bh K mg):eB P w K mg base 1 "is_whole" 3 aO:=Rf.gK (j:=0) D.c0 D.b Rf.bx Rf.bw Ff
def rN(D:bh K mg):eB P w K mg base 2 "is_number" 2 cw:=Rf.gK (j:=1) D.c1 D.b (Rf.fm (fN D) Rf.bx) Rf.bw Dt
def jv(D:bh K mg):eB P w K mg base 1 "is_long" 3 br:=Rf.gK (j:=0) D.c2 D.b Rf.bx Rf.bw Ir
def BV(D:bh K mg):eB P w K mg base 3 "are_likes" 2 gh:=Rf.gK (j:=2) D.c3 D.b (Rf.fm (rN D) Rf.bx) Rf.bw Dp
def LG(D:bh K mg):eB P w K mg base 4 "is_end" 2 f9:=Rf.gK (j:=3) D.c4 D.b (Rf.fm (jv D) (Rf.fm (fN D) (Rf.fm (BV D) Rf.bx))) (Rf.B0 D.ZF Rf.bw) Lo
def Ki(D:bh K mg):eB P w K mg base 3 "is_way" 3 j1:=Rf.gK (j:=2) D.c5 D.b (Rf.fm (jv D) (Rf.fm (rN D) (Rf.fm (fN D) Rf.bx))) (Rf.B0 D.ZF Rf.bw) Lu
def BJ(D:bh K mg):eB P w K mg base 5 "are_parts" 3 gf:=Rf.gK (j:=4) D.c6 D.b (Rf.fm (jv D) (Rf.fm (LG D) (Rf.fm (Ki D) Rf.bx))) (Rf.B0 D.Xy Rf.bw) Ds
def vy(D:bh K mg):eB P w K mg base 1 "liked_pairs" 1 bM:=Rf.gK (j:=0) D.c7 D.b Rf.bx Rf.bw wq
def va(D:bh K mg):eB P w K mg base 6 "is_world" 1 bp:=Rf.gK (j:=5) D.c8 D.b (Rf.fm (vy D) (Rf.fm (jv D) (Rf.fm (BJ D) Rf.bx))) Rf.bw EU
def yf(D:bh K mg):eB P w K mg base 1 "through" 4 dF:=Rf.gK (j:=0) D.c9 D.b Rf.bx Rf.bw Hs
def sj(D:bh K mg):eB P w K mg base 2 "keeps_amounts" 3 da:=Rf.gK (j:=1) D.c10 D.b (Rf.fm (yf D) Rf.bx) Rf.bw sF
def mZ(D:bh K mg):eB P w K mg base 3 "is_plan" 2 ck:=Rf.gK (j:=2) D.c11 D.b (Rf.fm (jv D) (Rf.fm (sj D) (Rf.fm (fN D) Rf.bx))) Rf.bw IW
def nE(D:bh K mg):Ex.yl P w K mg base 7 "check_world" 1 bL:=Ex.sP (j:=6) D.c12 D.b (Rf.fm (va D) Rf.bx) Rf.bw Ex.qq (D.m.ok (by decide +kernel)) uD
def fY(D:bh K mg):eB P w K mg base 7 "check_world" 1 aX:=Rf.gK (j:=6) D.c12 D.b (Rf.fm (va D) Rf.bx) Rf.bw v5
def pd(D:bh K mg):Ex.yl P w K mg base 8 "check_plan" 2 bC:=Ex.sP (j:=7) D.c13 D.b (Rf.fm (fY D) (Rf.fm (mZ D) Rf.bx)) Rf.bw (Ex.xm (nE D) Ex.qq) (D.m.ok (by decide +kernel)) vv
def gL(D:bh K mg):eB P w K mg base 8 "check_plan" 2 aY:=Rf.gK (j:=7) D.c13 D.b (Rf.fm (fY D) (Rf.fm (mZ D) Rf.bx)) Rf.bw A3
def vp(D:bh K mg):Ex.yl P w K mg base 2 "check_whole" 3 dQ:=Ex.sP (j:=1) D.c14 D.b (Rf.fm (fN D) Rf.bx) Rf.bw Ex.qq (D.m.ok (by decide +kernel)) uP
def nz(D:bh K mg):eB P w K mg base 2 "check_whole" 3 dh:=Rf.gK (j:=1) D.c14 D.b (Rf.fm (fN D) Rf.bx) Rf.bw vx
def lR(D:bh K mg):Ex.yl P w K mg base 3 "check_number" 2 bN:=Ex.sP (j:=2) D.c15 D.b (Rf.fm (nz D) Rf.bx) Rf.bw (Ex.xm (vp D) Ex.qq) (D.m.ok (by decide +kernel)) sk
def eQ(D:bh K mg):eB P w K mg base 3 "check_number" 2 bA:=Rf.gK (j:=2) D.c15 D.b (Rf.fm (nz D) Rf.bx) Rf.bw u5
def Ah(D:bh K mg):Ex.yl P w K mg base 4 "check_side" 1 gJ:=Ex.sP (j:=3) D.c16 D.b (Rf.fm (eQ D) Rf.bx) Rf.bw (Ex.xm (lR D) Ex.qq) (D.m.ok (by decide +kernel)) wx
def pR(D:bh K mg):eB P w K mg base 4 "check_side" 1 dH:=Rf.gK (j:=3) D.c16 D.b (Rf.fm (eQ D) Rf.bx) Rf.bw zu
def wu(D:bh K mg):Ex.yl P w K mg base 5 "check_place" 3 dR:=Ex.sP (j:=4) D.c17 D.b (Rf.fm (pR D) (Rf.fm (eQ D) Rf.bx)) Rf.bw (Ex.xm (Ah D) (Ex.xm (lR D) Ex.qq)) (D.m.ok (by decide +kernel)) uM
def nJ(D:bh K mg):eB P w K mg base 5 "check_place" 3 di:=Rf.gK (j:=4) D.c17 D.b (Rf.fm (pR D) (Rf.fm (eQ D) Rf.bx)) Rf.bw v9
def xl(D:bh K mg):eB P w K mg base 4 "ways_of" 3 dg:=Rf.Vq (j:=0) D.c18 D.b Rf.bx Rf.bw HR
def Br(D:bh K mg):eB P w K mg base 5 "wants_more" 4 cU:=Rf.gK (j:=4) D.c19 D.b (Rf.fm (xl D) (Rf.fm (yf D) Rf.bx)) Rf.bw AL
def Eo(D:bh K mg):eB P w K mg base 6 "why_kept" 3 fO:=Rf.gK (j:=5) D.c20 D.b (Rf.fm (Br D) Rf.bx) Rf.bw DM
def sE(D:bh K mg):eB P w K mg base 7 "first_leaving" 2 dX:=Rf.gK (j:=6) D.c21 D.b (Rf.fm (Eo D) Rf.bx) Rf.bw sM
def uC(D:bh K mg):eB P w K mg base 8 "is_still" 2 kb:=Rf.gK (j:=7) D.c22 D.b (Rf.fm (sE D) Rf.bx) Rf.bw EI
def Au(D:bh K mg):eB P w K mg base 5 "on_ways_of" 4 eL:=Rf.gK (j:=4) D.c23 D.b (Rf.fm (xl D) Rf.bx) Rf.bw z9
def Ao(D:bh K mg):Ex.yl P w K mg base 1 "check_many" 1 eS:=Ex.sP (j:=0) D.c24 D.b Rf.bx (Rf.B0 D.WO Rf.bw) Ex.qq (D.m.ok (by decide +kernel)) vt
def pM(D:bh K mg):eB P w K mg base 1 "check_many" 1 dE:=Rf.gK (j:=0) D.c24 D.b Rf.bx (Rf.B0 D.WO Rf.bw) AN
def lA(D:bh K mg):eB P w K mg base 1 "within_limits" 1 ee:=Rf.gK (j:=0) D.c25 D.b Rf.bx Rf.bw sO
def Bz(D:bh K mg):Ex.yl P w K mg base 8 "all_plans" 1 eC:=Ex.sP (j:=7) D.c26 D.b (Rf.fm (fY D) (Rf.fm (pM D) (Rf.fm (lA D) (Rf.fm (mZ D) Rf.bx)))) Rf.bw (Ex.xm (nE D) (Ex.xm (Ao D) Ex.qq)) (D.m.ok (by decide +kernel)) AW
def rA(D:bh K mg):eB P w K mg base 8 "all_plans" 1 cx:=Rf.gK (j:=7) D.c26 D.b (Rf.fm (fY D) (Rf.fm (pM D) (Rf.fm (lA D) (Rf.fm (mZ D) Rf.bx)))) Rf.bw Dm
def Dk(D:bh K mg):Ex.yl P w K mg base 9 "all_rests" 1 gc:=Ex.sP (j:=8) D.c27 D.b (Rf.fm (rA D) (Rf.fm (uC D) Rf.bx)) Rf.bw (Ex.xm (Bz D) Ex.qq) (D.m.ok (by decide +kernel)) zl
def si(D:bh K mg):eB P w K mg base 9 "all_rests" 1 cC:=Rf.gK (j:=8) D.c27 D.b (Rf.fm (rA D) (Rf.fm (uC D) Rf.bx)) Rf.bw BH
def gw(D:bh K mg):eB P w K mg base 6 "cost_of_place" 4 bQ:=Rf.gK (j:=5) D.c28 D.b (Rf.fm (Au D) Rf.bx) Rf.bw sN
def ij(D:bh K mg):eB P w K mg base 7 "cost_of_side" 3 bO:=Rf.gK (j:=6) D.c29 D.b (Rf.fm (gw D) Rf.bx) Rf.bw uK
def Ql(D:bh K mg):Ex.yl P w K mg base 9 "cost" 4 qk:=Ex.sP (j:=8) D.c30 D.b (Rf.fm (gL D) (Rf.fm (nJ D) (Rf.fm (gw D) Rf.bx))) Rf.bw (Ex.xm (pd D) (Ex.xm (wu D) Ex.qq)) (D.m.ok (by decide +kernel)) My
def Ry(D:bh K mg):eB P w K mg base 9 "cost" 4 k4:=Rf.gK (j:=8) D.c30 D.b (Rf.fm (gL D) (Rf.fm (nJ D) (Rf.fm (gw D) Rf.bx))) Rf.bw Pv
def MA(D:bh K mg):Ex.yl P w K mg base 9 "costs" 2 oq:=Ex.sP (j:=8) D.c31 D.b (Rf.fm (gL D) (Rf.fm (ij D) Rf.bx)) Rf.bw (Ex.xm (pd D) Ex.qq) (D.m.ok (by decide +kernel)) JT
def M7(D:bh K mg):eB P w K mg base 9 "costs" 2 j6:=Rf.gK (j:=8) D.c31 D.b (Rf.fm (gL D) (Rf.fm (ij D) Rf.bx)) Rf.bw MX
def pH(D:bh K mg):eB P w K mg base 8 "unfairness" 2 e9:=Rf.gK (j:=7) D.c32 D.b (Rf.fm (ij D) Rf.bx) Rf.bw A7
def IA(D:bh K mg):Ex.yl P w K mg base 13 "fairest" 1 jg:=(Ex.sP (j:=9) (Ex.M5 D.c33) D.b (Rf.fm (si D) (Rf.fm (pH D) Rf.bx)) Rf.bw (Ex.xm (Dk D) Ex.qq) (D.m.ok (by decide +kernel)) EV).mono (by decide)
def Iw(D:bh K mg):eB P w K mg base 13 "fairest" 1 fF:=Rf.Vq (j:=9) D.c33 D.b (Rf.fm (si D) (Rf.fm (pH D) Rf.bx)) Rf.bw HV
def Cz(D:bh K mg):eB P w K mg base 1 "_law_cell" 2 eu:=Rf.gK (j:=0) D.c34 D.b Rf.bx Rf.bw Dc
def k7(D:bh K mg):eB P w K mg base 2 "_law_drawn" 3 ao:=Rf.gK (j:=1) D.c35 D.b (Rf.fm (Cz D) Rf.bx) Rf.bw A9
def wk(D:bh K mg):eB P w K mg base 3 "_law_orders" 3 bY:=Rf.gK (j:=2) D.c36 D.b (Rf.fm (k7 D) Rf.bx) Rf.bw wt
def Al(D:bh K mg):eB P w K mg base 4 "_law_world" 3 cn:=Rf.gK (j:=3) D.c37 D.b (Rf.fm (wk D) (Rf.fm (k7 D) Rf.bx)) Rf.bw zk
def md(D:bh K mg):eB P w K mg base 1 "_law_used" 4 bu:=Rf.gK (j:=0) D.c38 D.b Rf.bx Rf.bw Co
def rT(D:bh K mg):eB P w K mg base 2 "_law_fits" 2 cy:=Rf.gK (j:=1) D.c39 D.b (Rf.fm (md D) Rf.bx) Rf.bw By
def zv(D:bh K mg):eB P w K mg base 3 "_law_plans" 1 fg:=Rf.gK (j:=2) D.c40 D.b (Rf.fm (rT D) Rf.bx) Rf.bw Bq
def CW(D:bh K mg):eB P w K mg base 3 "_law_plan" 3 gm:=Rf.gK (j:=2) D.c41 D.b (Rf.fm (rT D) (Rf.fm (k7 D) Rf.bx)) Rf.bw BF
def Av(D:bh K mg):eB P w K mg base 2 "_law_wants" 5 cW:=Rf.gK (j:=1) D.c42 D.b (Rf.fm (md D) Rf.bx) Rf.bw AZ
def EX(D:bh K mg):eB P w K mg base 3 "_law_why" 3 ig:=Rf.gK (j:=2) D.c43 D.b (Rf.fm (Av D) Rf.bx) Rf.bw Ei
def Ac(D:bh K mg):eB P w K mg base 4 "_law_rests" 2 eP:=Rf.gK (j:=3) D.c44 D.b (Rf.fm (EX D) Rf.bx) Rf.bw Ar
def r0(D:bh K mg):eB P w K mg base 2 "_law_cost" 4 bD:=Rf.gK (j:=1) D.c45 D.b (Rf.fm (md D) Rf.bx) Rf.bw BA
def C9(D:bh K mg):eB P w K mg base 3 "_law_both" 2 dC:=Rf.gK (j:=2) D.c46 D.b (Rf.fm (r0 D) Rf.bx) Rf.bw Da
def HP{k:Nat}(D:bh K mg):∀c d,Ex.nh Vc c=some d->Ex.GU P w K mg base k "_law_refused" c d:=Ex.SV D.c47 D.m D.b rfl Rf.RZ rfl rfl rfl rfl rfl (by decide +kernel) (by decide +kernel) (by decide) rfl rfl
def CJ(D:bh K mg):eB P w K mg base 14 "_law_told" 4 av:=Ex.SX (j:=13) (ns:=Vc) D.c48 D.b D.m (Rf.fm (Ry D) (Rf.fm (M7 D) (Rf.fm (Iw D) Rf.bx))) Rf.bw (Ex.xm (Ql D) (Ex.xm (MA D) (Ex.xm (IA D) Ex.qq))) (HP D) (by decide +kernel) BB
end
def RE{P:Program}{w:World}{K:W.Frag}{mg:Str->Option Value}{fa:Addr}(D:bh K mg)(hfa:mg "law"=some (.ref fa)):∃fd:FuncData,(∀ (s:Shared) (v:Value),BindsTo s fd ⟨[v],[]⟩ [("_law_script",v)])/\∀base:Heap,K.In base->base.Ns mainGlobals mg->sJ P w K mg base Ml 15 fa fd ["_law_script"] (SQ K 1 ji):=by
 obtain⟨f,fd,hm,F,hb⟩:=D.c49.ex;rw[hfa] at hm;cases hm;refine⟨fd,λs v=>?_,λbase _ _=>OD F (Rf.RZ (N:=yn)) λX hP hw hK Xu W6 C _ _ HF H=>by subst hP;subst hw;subst hK;subst Xu;subst W6;exact Rf.O5 (j:=14) C D.b (Rf.fm (Al D) (Rf.fm (CW D) (Rf.fm (zv D) (Rf.fm (CJ D) (Rf.fm (C9 D) (Rf.fm (Ac D) (Rf.fm (r0 D) Rf.bx))))))) Rf.bw R9⟩;obtain⟨oc,od,kV,doc,pm,an,Wt,ct,Yi,rfl,lk,WS⟩:=F.ex;exact .of_eq rfl
def walk{l:W.OpenLaw}{q:Program}{loose:List Str}{XP:(Str->Option Value)->Heap->Prop}{YP:World->Heap->Prop}{d:DefRec}{K:Params->W.Frag}{ts:List Addr}(hn:l.most=some 63)(hdf:d.params.defaults=[])(WA:d.name="law")
  (hY:∀ (w:World) (h:Heap),YP w h->(K w.params).In h/\∀P∈ts,h.get? P=some (W.tabObj #[])) (ht:∀w:World,oV (K w.params) ts=true) (hI:∀ (w:World) {h:Heap}{mg:Str->Option Value},(K w.params).In h->h.Ns mainGlobals mg->bh (K w.params) mg) (main:∀ns:List Int,ns.length<=63->ji [.list (ns.map PyData.int)]=some (.bool true)) :
  W.WalkO q loose XP YP l.row.toRowW d [] (λf vs=>PySem.call f vs) :=
 Jr (n:=63) (k:=15) (x:="_law_script") (CX:=λ_=>Ml) (sp:=λw=>SQ (K w.params) 1 ji) hn (by decide) hdf ⟨rfl,by decide,by decide⟩ hY ht (λw mg fa h KX G hmg=>RE (hI w KX G) (by rw[<- WA];exact hmg)) (λ_ _ a ns hl hT hS=>Fj hS hT (main ns hl)) λ_ _ _ _ _ z=>z
end K34
namespace Dl
open PySem L2 PySem.Spec PyProof.Rows
def CY:D->Prop|.none=>True|.bool _=>True|.int _=>True|.str x=>PyData.canLay0 (.str x)=true|_=>False
def ja(b:Nat):Nat->D->Prop
 | 0,d=>CY d
 | k+1,d=>CY d\/(∃xs,(d=.list xs\/d=.tuple xs)/\xs.length<=b/\∀x∈xs,ja b k x)
def ja.leaf(h:CY d):ja b k d:=by
 cases k with
 | zero=>exact h
 | succ k=>exact .inl h
def ja.tup(hb:xs.length<=b)(h:∀x∈xs,ja b k x):ja b (k+1) (.tuple xs):=.inr ⟨xs,.inr rfl,hb,h⟩
def ja.lst(hb:xs.length<=b)(h:∀x∈xs,ja b k x):ja b (k+1) (.list xs):=.inr ⟨xs,.inl rfl,hb,h⟩
def ja.WH(h:ja b k (.tuple xs)):∃j,k=j+1/\xs.length<=b/\∀x∈xs,ja b j x:=by
 cases k with
 | zero=>cases h
 | succ k =>
  rcases h with h|⟨ys,h|h,h1,h2⟩
  ·cases h
  ·cases h
  ·cases h;exact⟨k,rfl,h1,h2⟩
def ja.mono(hb:b<=b'):∀ {k k':Nat}{d:D},k<=k'->ja b k d->ja b' k' d
 | 0,k',d,_,h=>.leaf h
 | k+1,0,d,hk,h=>by lia
 | k+1,k'+1,d,hk,h=>by
  rcases h with h|⟨xs,h,h1,h2⟩
  ·exact .inl h
  ·exact .inr ⟨xs,h,yD h1 hb,λx hx=>(h2 x hx).mono hb (by lia)⟩
def Gy{b:Nat}:∀ {xs:List D},(∀x∈xs,PyData.canLay0 x=true/\x.depth<=k)->PyData.canLayAll0 xs=true/\PyData.depthAll xs<=k
 | [],_=>⟨by simp[PyData.canLayAll0],by simp[PyData.depthAll]⟩
 | x::xs,h=>by
  obtain⟨a,c⟩:=Gy (b:=b) (xs:=xs) λy hy=>h y (zC _ hy);obtain⟨a',c'⟩:=h x zE;exact⟨by simp[PyData.canLayAll0,a,a'],by simp[PyData.depthAll];lia⟩
def ja.lay:∀ {k:Nat}{d:D},ja b k d->PyData.canLay0 d=true/\d.depth<=k:=by
 have lf:∀ {k:Nat}{d:D},CY d->PyData.canLay0 d=true/\d.depth<=k:=λ{k d} h=>by
  cases d<;>simp only[CY] at h<;>first|exact⟨h,by simp[PyData.depth]⟩|exact⟨by simp[PyData.canLay0],by simp[PyData.depth]⟩
 intro k
 induction k with
 | zero=>exactλh=>lf h
 | succ k ih =>
  intro d h;rcases h with h|⟨xs,h,h1,h2⟩
  ·exact lf h
  ·obtain⟨a,c⟩:=Gy (b:=b) (xs:=xs) λy hy=>ih (h2 y hy);rcases h with rfl|rfl
   ·exact⟨by simp[PyData.canLay0,a],by simp[PyData.depth];lia⟩
   ·exact⟨by simp[PyData.canLay0,a],by simp[PyData.depth];lia⟩
def ja.shaped(h:ja b k d)(hk:k<=64):SeqAt.shaped d=true:=by
 obtain⟨a,c⟩:=h.lay;simp[SeqAt.shaped,a];lia
def ja.noDict(h:ja b k d):∀kv,d≠.dict kv:=by
 rintro kv rfl;have:=h.lay.1;simp[PyData.canLay0] at this
def iz:D->Bool|.dict _=>false|_=>true
def ja.nd(h:ja b k d):iz d=true:=by
 cases d<;>first|rfl|exact absurd rfl (h.noDict _)
def Vz:D->Bool|.int _=>true|.bool _=>true|_=>false
def Vo:D->Bool|.bool _=>true|_=>false
def Pm:D->Bool|.tuple _=>true|_=>false
def kI(h:iz d=true):z8 (iQ d) "int"=some (Vz d):=by cases d<;>first|cases h;done|exact Oc _ (by simp[iQ])
def kB(h:iz d=true):z8 (iQ d) "bool"=some (Vo d):=by cases d<;>first|cases h;done|exact J3 _ (by simp[iQ])
def kT(h:iz d=true):z8 (iQ d) "tuple"=some (Pm d):=by cases d<;>first|cases h;done|exact kit_tuple _ (by simp[iQ])
def whole(a b:Int):D->Bool|.int i=>decide (a<=i)&&decide (i<=b)|_=>false
def yv:∀ {ds:List D},(∀d∈ds,∃ρ',tgt ρ d=some ρ'/\te ρ'=some (h d))->dU tgt (λ_=>some true) te ρ ds=some (ds.map h)
 | [],_=>rfl
 | d::ds,hh=>by
  obtain⟨ρ',h1,h2⟩:=hh d zE;have ih:=yv (ds:=ds) λy hy=>hh y (zC _ hy);unfold dU;rw[h1];simp[h2,ih]
def oZ:∀ {ds:List D},(∀d∈ds,∃ρ',tgt ρ d=some ρ'/\tt ρ'=some (p d)/\(p d=true->te ρ'=some (h d)))->dU tgt tt te ρ ds=some ((ds.filter p).map h)
 | [],_=>rfl
 | d::ds,hh=>by
  obtain⟨ρ',h1,h2,h3⟩:=hh d zE;have ih:=oZ (ds:=ds) λy hy=>hh y (zC _ hy);unfold dU;rw[h1];simp only[zA,h2];cases hp:p d with
  | true=>rw[yM rfl,h3 hp];simp[ih,jY,hp]
  | false=>simp[ih,jY,hp]
def rM:∀ds:List D,boolsOf (ds.map λd=>.bool (p d))=some (ds.map p)
 | []=>rfl
 | d::ds=>by simp[boolsOf,rM ds]
def pq(ds:List D):pO [.list (ds.map λd=>.bool (p d))]=some (.bool (ds.all p)):=by
 simp only[pO,oneOf,zA,rM,zB,List.all_map];rfl
def bU(h:ds.length<=4000):small ds=some ds:=yM (yD h (by decide))
def pk{ds:List D}{i:Nat}(h:i < ds.length):Bv ds (i:Nat)=some (ds.getD i .none):=by
 have:=FP (xs:=ds) (j:=i) (v:=ds[i]) (List.getElem?_eq_some_iff.mpr ⟨h,rfl⟩);rw[this];simp[List.getD,h]
def FY{ds:List D}(h:0 < ds.length):Bv ds 0=some (ds.getD 0 .none):=pk (i:=0) h
def Ct{ds:List D}(h:1 < ds.length):Bv ds 1=some (ds.getD 1 .none):=pk (i:=1) h
def O7{ds:List D}(h:2 < ds.length):Bv ds 2=some (ds.getD 2 .none):=pk (i:=2) h
end Dl
namespace Wm
open PySem L2 Dl PySem.Spec PyProof.Rows Pg
variable {mo:Int}{i7 i5:Nat}{xh:XS}{x5:Slot}
def BS(ha:fa ρ=some (.int a))(hb:fb ρ=some (.int i))(hc:fc ρ=some (.int b)):lN Ha Ha fa fb fc ρ=some (.bool (decide (a<=i)&&decide (i<=b))):=by
 simp only[lN,ha,hb,hc,zA,Ha,xu,xI];by_cases h:a<=i<;>simp[h]
def lS(i j:Int):Dl.dJ (.int i) (.int j)=some (.int (i - j)):=rfl
def cZ(i j:Int):Dl.aD (.int i) (.int j)=some (.int (i+j)):=rfl
def AY(d:D):Slot.all (.val d)=some d:=rfl
def Bm(ds:List D):Slot.all (.own ds)=some (.list ds):=rfl
def F8:Slot.all .V6=none:=rfl
def Gh(d:D):Slot.WX (.val d)=some d:=rfl
def Ge(ds:List D):Slot.WX (.own ds)=none:=rfl
def Gu:Slot.WX .V6=none:=rfl
local macro_rules|`(tactic| simp! [$ts,*])=>`(tactic| simp only[bq,ay,eI,aI,dS,E6,eV,bH,fB,gB,OE,ae,fC,m9,UW,QI,S7,f1,f2,lS,cZ,aa,af,ai,ba,m6,aZ,cg,oneOf,fE,aK,AY,Bm,F8,Gh,Ge,Gu,bo,cf,cF,aA,cX,az,  zI,yV,xG,xP,zL,xM,List.replicate,xR,yZ,qH,kR,zA,Option.bind_none,zB,Option.map_none,Nat.reduceAdd,Nat.reduceSub,jE,Nat.sub_self,xI,reduceIte,$ts,*])
def et(h:iz d=true)(a b:Int):aO [d,.int a,.int b]=some (.bool (whole a b d)):=by
 simp! [aO,nN,kI h,kB h];cases d<;>simp[Vz,Vo,whole];rw[BS rfl rfl rfl]
def l7(h:iz d=true)(n:Int):cw [d,.int n]=some (.bool (whole 0 (n - 1) d)):=by
 simp! [cw,ml,et h]
def long(a b:Int):D->Bool|.tuple ds=>decide (a<=(ds.length:Int))&&decide ((ds.length:Int)<=b)|_=>false
def eA(h:iz d=true)(a b:Int):br [d,.int a,.int b]=some (.bool (long a b d)):=by
 simp! [br,qr,kT h];cases d<;>simp[Pm,long];rw[BS rfl (i:=_) rfl rfl]
def mH:D->Int|.int i=>i|_=>0
def gX(h:whole a b d=true):d=.int (mH d)/\a<=mH d/\mH d<=b:=by
 cases d<;>simp[whole] at h;exact⟨rfl,h⟩
def nQ:∀ {ls:List D},ls.all (whole a b)=true->ls=(ls.map mH).map PyData.int
 | [],_=>rfl
 | d::ls,h=>by
  rw[xU,zF] at h;rw[zI,zI,<- (gX h.1).1,<- nQ h.2]
def j8(n:Int):D->Bool|.tuple ls=>ls.all (whole 0 (n - 1))&&decide ((ls.map mH).Nodup)|_=>false
def cB(i j:Int):bz (.int i) (.int j)=some (.bool (decide (i=j))):=by
 simp[bz,OA,SeqAt.shaped,PyData.canLay0,PyData.depth,PyData.eqv];rfl
def IU(h:ls.all (whole a b)=true)(hl:ls.length<=100):f2 bz (f1 mO (λ_=>some (.tuple ls))) (ba aZ (aa (λ_=>some (.tuple ls)) af)) []=some (.bool (decide ((ls.map mH).Nodup))):=by
 have e:=nQ h;have e1:mO (.tuple ls)=some (.int (many (ls.map mH))):=by
  simp only[mO,fZ]
  conv=>lhs;rw[e]
  rw[bS,zA,yM];rw[zD];exact jA (Nat.add_le_add_right hl 1) (by decide)
 simp! [e1,cB];have:=Ew (ls.map mH);rw[zD] at this;simp only[<- this,Int.ofNat_inj,yL,PyData.bool.injEq]
def R7(r:Dl.Env)(d:D):fG 0 (none::r) d=some (some d::r):=by simp[fG,isFree]
def dG{cs:List Nat}(Xp:fi ρ=some ds)(hl:ds.length<=4000)(hh:∀d∈ds,te (some d::cs.map λj=>(ρ[j]?).getD none)=some (h d)):aw 1 cs fi (fG 0) (λ_=>some true) te ρ=some (ds.map h):=by
 simp only[aw,Xp,zA,fv,List.replicate,xG,xP];rw[yv (h:=h) λd hd=>⟨_,R7 _ d,hh d hd⟩,zA,bU (by rw[zD];exact hl)]
def oz{cs:List Nat}(Xp:fi ρ=some ds)(hl:ds.length<=4000)
  (hp:∀d∈ds,tt (some d::cs.map λj=>(ρ[j]?).getD none)=some (p d)) (hh:∀d∈ds,p d=true->te (some d::cs.map λj=>(ρ[j]?).getD none)=some (h d)):aw 1 cs fi (fG 0) tt te ρ=some ((ds.filter p).map h):=by
 simp only[aw,Xp,zA,fv,List.replicate,xG,xP];rw[oZ (p:=p) (h:=h) λd hd=>⟨_,R7 _ d,hp d hd,hh d hd⟩,zA,bU (by rw[zD];exact yD (xQ _ _) hl)]
def Dx(h:ja b k d)(hb:b<=100)(n:Int):gh [d,.int n]=some (.bool (j8 n d)):=by
 simp! [gh,mC,kT h.nd];cases d<;>try (simp[Pm,j8];done)
 rename_i ls;obtain⟨j,rfl,hl,hf⟩:=h.WH;have c:=dG (cs:=[1]) (fi:=bo (ae 0)) (te:=(ai 2 cw (aa (ae 0) (aa (ae 1) af)))) (h:=λx=>.bool (whole 0 (n - 1) x)) (ρ:=[some (.tuple ls),some (.int n)]) rfl (by lia) λx hx=>by simp! [l7 (hf x hx).nd]
 simp! [Pm,xZ,yP,c,pq];cases e:ls.all (whole 0 (n - 1)) with
 | false=>simp[j8,e]
 | true =>
  have:=IU e (yD hl hb);simp only[f2,f1,ba,aa,af,zA,zB] at this;simp! [j8,e,xZ,yP,jM];simp only[aZ,cg,oneOf,zA,fE,zB] at this;simp! [this]
def placeOk(n:Int):D->Bool|.tuple ds=>decide (ds.length=2)&&(whole 0 9 (ds.getD 0 .none)&&j8 n (ds.getD 1 .none))|_=>false
def lr(g t:Int):D->Bool|.tuple ds=>decide (ds.length=3)&&(whole 0 (g - 1) (ds.getD 0 .none)&&(whole 0 (t - 1) (ds.getD 1 .none)&&whole 1 9 (ds.getD 2 .none)))|_=>false
def u9(n:Nat)(ds:List D):long (n:Int) (n:Int) (.tuple ds)=decide (ds.length=n):=by
 simp only[long];by_cases h:ds.length=n
 ·simp[h]
 ·rw[zZ h,Bool.and_eq_false_iff,xC,xC];lia
def getD_mem{ds:List D}{i:Nat}(h:i < ds.length):ds.getD i .none∈ds:=by simp[List.getD,h]
def BK{b:Nat}(h:ja b k d)(hb:b<=100)(n:Int):f9 [d,.int n]=some (.bool (placeOk n d)):=by
 simp! [f9,ue,eA h.nd];cases d<;>try (simp[long,placeOk];done)
 rename_i ds;obtain⟨j,rfl,hl,hf⟩:=h.WH;rw[show long 2 2 (.tuple ds)=decide (ds.length=2) from u9 2 ds];by_cases e:ds.length=2
 ·have f0:=hf _ (getD_mem (i:=0) (by lia));have f1:=hf _ (getD_mem (i:=1) (by lia));simp! [e,jR,FY (show 0 < ds.length by lia),Ct (show 1 < ds.length by lia),et f0.nd,Dx f1 hb,placeOk];cases whole 0 9 (ds.getD 0 .none)<;>simp
 ·simp[e,placeOk]
def Le{b:Nat}(h:ja b k d)(hb:b<=100)(g t:Int):j1 [d,.int g,.int t]=some (.bool (lr g t d)):=by
 simp! [j1,uv,eA h.nd];cases d<;>try (simp[long,lr];done)
 rename_i ds;obtain⟨j,rfl,hl,hf⟩:=h.WH;rw[show long 3 3 (.tuple ds)=decide (ds.length=3) from u9 3 ds];by_cases e:ds.length=3
 ·have f0:=hf _ (getD_mem (i:=0) (by lia));have f1:=hf _ (getD_mem (i:=1) (by lia));have XW:=hf _ (getD_mem (i:=2) (by lia));simp! [e,jR,xZ,yP,FY (show 0 < ds.length by lia),Ct (show 1 < ds.length by lia),O7 (show 2 < ds.length by lia),et XW.nd,l7 f0.nd,l7 f1.nd,lr];cases whole 0 (g - 1) (ds.getD 0 .none)<;>cases whole 0 (t - 1) (ds.getD 1 .none)<;>simp
 ·simp[e,lr]
def dz:D->List D|.tuple ds=>ds|_=>[]
def qw(d:D):Bool:=long 1 4 d
def kj(g t w:D):Bool:=qw g&&(qw t&&((dz g).all (placeOk (dz t).length)&&((dz t).all (placeOk (dz g).length)&&(Pm w&&(dz w).all (lr (dz g).length (dz t).length)))))
def mr(h:long a b d=true):d=.tuple (dz d):=by cases d<;>first|rfl|cases h
def rF(hg:ja b k g)(ht:ja b k t)(hw:ja b k w)(hb:b<=100):gf [g,t,w]=some (.bool (kj g t w)):=by
 simp! [gf,mD,eA hg.nd,eA ht.nd,kT hw.nd];unfold kj qw;cases e1:long 1 4 g with
 | false=>simp
 | true =>
  cases e2:long 1 4 t with
  | false=>simp
  | true =>
   obtain⟨gs,rfl⟩:∃gs,g=.tuple gs:=⟨_,mr e1⟩
   obtain⟨ts,rfl⟩:∃ts,t=.tuple ts:=⟨_,mr e2⟩
   obtain⟨j,rfl,hgl,hgf⟩:=hg.WH;obtain⟨j',hj,htl,htf⟩:=ht.WH;have c1:=dG (cs:=[1]) (fi:=bo (ae 0)) (te:=(ai 2 f9 (aa (ae 0) (aa (ba aZ (aa (ae 1) af)) af)))) (h:=λx=>.bool (placeOk ts.length x)) (ρ:=[some (.tuple gs),some (.tuple ts),some w]) rfl (by lia) λx hx=>by simp! [BK (hgf x hx) hb]
   have c2:=dG (cs:=[0]) (fi:=bo (ae 1)) (te:=(ai 2 f9 (aa (ae 0) (aa (ba aZ (aa (ae 1) af)) af)))) (h:=λx=>.bool (placeOk gs.length x)) (ρ:=[some (.tuple gs),some (.tuple ts),some w]) rfl (by lia) λx hx=>by simp! [BK (htf x hx) hb]
   simp! [xZ,yP,c1,pq,dz,jM];cases e3:gs.all (placeOk ts.length) with
   | false=>simp
   | true =>
    simp! [xZ,yP,c2,pq,jM];cases e4:ts.all (placeOk gs.length) with
    | false=>simp
    | true =>
     cases hT:Pm w with
     | false=>simp! [xZ,yP,kT hw.nd,hT,wJ,vC]
     | true =>
     obtain⟨ws,rfl⟩:∃ws,w=.tuple ws:=by cases w<;>first|exact⟨_,rfl⟩|cases hT
     obtain⟨j2,hj2,YL,hwf⟩:=hw.WH;have c3:=dG (cs:=[0,1]) (fi:=bo (ae 2)) (te:=(ai 3 j1 (aa (ae 0) (aa (ba aZ (aa (ae 1) af)) (aa (ba aZ (aa (ae 2) af)) af))))) (h:=λx=>.bool (lr gs.length ts.length x)) (ρ:=[some (.tuple gs),some (.tuple ts),some (.tuple ws)]) rfl (by lia) λx hx=>by simp! [Le (hwf x hx) hb]
     simp! [xZ,yP,c3,pq,jM,kT hw.nd,Pm]
def uY:∀ (a b:List Int),PyData.eqvAll (a.map PyData.int) (b.map PyData.int)=decide (a=b)
 | [],[]=>by simp[PyData.eqvAll]
 | [],_::_=>by simp[PyData.eqvAll]
 | _::_,[]=>by simp[PyData.eqvAll]
 | i::a,j::b=>by
  rw[zI,zI,PyData.eqvAll,uY a b];by_cases h:i=j
  ·subst h;simp[PyData.eqv]
  ·simp[PyData.eqv,h]
def Cf:∀ (a b:List (List Int)),PyData.eqvAll (a.map ah) (b.map ah)=decide (a=b)
 | [],[]=>by simp[PyData.eqvAll]
 | [],_::_=>by simp[PyData.eqvAll]
 | _::_,[]=>by simp[PyData.eqvAll]
 | x::a,y::b=>by
  rw[zI,zI,PyData.eqvAll,Cf a b,ah,ah,PyData.eqv,uY];by_cases h:x=y
  ·subst h;simp
  ·simp[h]
def kh(i:Int):ja b k (.int i):=.leaf trivial
def GY(h:r.length<=b):ja b (k+1) (ah r):=.tup (by rw[zD];exact h) λx hx=>by
 obtain⟨i,_,rfl⟩:=List.mem_map.mp hx;exact kh i
def Lv{b k:Nat}{a:List (List Int)}(h:a.length<=b)(hr:∀r∈a,r.length<=b):ja b (k+2) (.list (a.map ah)):=.lst (by rw[zD];exact h) λx hx=>by
 obtain⟨r,W9,rfl⟩:=List.mem_map.mp hx;exact GY (hr r W9)
def IG(a:List (List Int)):∃b,a.length<=b/\∀r∈a,r.length<=b:=by
 induction a with
 | nil=>exact⟨0,yN _,λr h=>by cases h⟩
 | cons x a ih =>
  obtain⟨b,h1,h2⟩:=ih;refine⟨b+1+x.length,by rw[zL];lia,λr hr=>?_⟩;rcases List.mem_cons.mp hr with rfl|hr
  ·lia
  ·have:=h2 r hr;lia
def CA(a:List (List Int)):SeqAt.shaped (.list (a.map ah))=true:=by
 obtain⟨b,h1,h2⟩:=IG a;exact (Lv (b:=b) (k:=0) h1 h2).shaped (by decide)
def Hy(a b:List (List Int)):bz (.list (a.map ah)) (.list (b.map ah))=some (.bool (decide (a=b))):=by
 simp only[bz,OA,CA,jQ,xI,PyData.eqv,Cf,zB]
def mq(d:D):List Int:=(dz ((dz d).getD 1 .none)).map mH
def ki(h:placeOk n d=true):∃a ds,d=.tuple ds/\ds.length=2/\ds.getD 0 .none=.int a/\0<=a/\a<=9/\ds.getD 1 .none=.tuple ((mq d).map PyData.int)/\(mq d).Nodup/\∀j∈mq d,0<=j/\j<=n - 1:=by
 cases d<;>simp only[placeOk] at h<;>try cases h
 rename_i ds;simp only[zF,zJ] at h;obtain⟨h1,h2,h3⟩:=h;have e:mq (.tuple ds)=(dz (ds.getD 1 .none)).map mH:=rfl;rw[e];generalize hl:ds.getD 1 .none=l at h3;cases l<;>simp only[j8] at h3<;>try cases h3
 rename_i ls;simp only[zF,zJ] at h3;obtain⟨w1,w2,w3⟩:=gX h2;refine⟨_,ds,rfl,h1,w1,w2,w3,?_,h3.2,λj hj=>?_⟩
 ·rw[show dz (.tuple ls)=ls from rfl,<- nQ h3.1];exact hl
 ·obtain⟨x,hx,rfl⟩:=List.mem_map.mp hj;exact (gX (List.all_eq_true.mp h3.1 x hx)).2
def oh(k:Nat):List D->List (List Int)|[]=>[]|p::ps=>(mq p).map (λj=>[((k:Nat):Int),j])++oh (k+1) ps
def uU:∀ (n:Nat) {l:List Int},l.Nodup->(∀j∈l,0<=j/\j<=(n:Int) - 1)->l.length<=n:=by
 intro n l hn h;have hs:l.map Int.toNat ⊆ List.range n:=λx hx=>by
  obtain⟨j,hj,rfl⟩:=List.mem_map.mp hx;have:=h j hj;exact List.mem_range.mpr (by lia)
 have Xn:(l.map Int.toNat).Nodup:=by
  refine List.pairwise_map.mpr (hn.imp_of_mem λ{x y} hx hy Wz e=>Wz ?_);have:=h x hx;have:=h y hy;lia
 have:=List.Nodup.length_le_of_subset Xn hs;simpa using this
def A8{n:Nat}:∀ {ps:List D}{k:Nat},(∀p∈ps,placeOk n p=true)->(oh k ps).length<=ps.length * n
 | [],k,_=>xW _
 | p::ps,k,h=>by
  obtain⟨_,_,_,_,_,_,_,_,hn,hr⟩:=ki (h p zE);have h1:=uU n hn hr;have h2:=A8 (ps:=ps) (k:=k+1) λq hq=>h q (zC _ hq);rw[oh,zN,zD,zL,Nat.succ_mul];lia
def pB:ar->Option Out:=Bp 1 [2,3] (aw 1 [2] (bo (f2 az (ae 3) (fC (.int 1)))) (fG 0) (λ_=>some true) (aA (aa (ae 1) (aa (ae 0) af))))
def Q1{n:Nat}{p:D}{acc:List D}(hp:placeOk n p=true)(hn:n<=100)(ha:acc.length<=1000):pB [.val x,.own acc,.val (.int (k:Nat)),.val p]=some (.nx [.val x,.own (acc++((mq p).map λj=>ah [((k:Nat):Int),j])),.val (.int (k:Nat)),.val p]):=by
 obtain⟨a,ds,rfl,hl,_,_,_,h1,Xn,hr⟩:=ki hp;have hb:=uU n Xn hr;generalize mq (.tuple ds)=ls at *;have c:=dG (cs:=[2]) (fi:=bo (f2 az (ae 3) (fC (.int 1)))) (te:=aA (aa (ae 1) (aa (ae 0) af))) (h:=λy=>.tuple [.int (k:Nat),y]) (ρ:=[some x,none,some (.int (k:Nat)),some (.tuple ds)]) (ds:=ls.map PyData.int)
  (by simp! [Ct (show 1 < ds.length by lia),h1]) (by rw[zD];lia) λy hy=>by
   simp! [bU (show [PyData.int (k:Nat),y].length<=4000 by simp)]
 have hh:hand [2,3] 0 [Slot.val x,.own acc,.val (.int (k:Nat)),.val (.tuple ds)]=[Slot.val x,.own acc,.val (.int (k:Nat)),.val (.tuple ds)]:=rfl;simp only[pB,Bp,hh,bV,zI,yV,Slot.WX,c,zA,sQ,yZ,xR];rw[yM]
 ·simp only[zB,yX,yW,zM];rfl
 ·simp only[zD];exact yD (show acc.length+ls.length<=1100 by lia) (by decide)
def yo{n:Nat}(hn:n<=100):∀ {ps:List D}{k:Nat}{acc:List D}{s2 s3:Slot},(∀p∈ps,placeOk n p=true)->acc.length+ps.length * n<=1000 ->
  ∃t2 t3,cE (gy 2 3) pB (bK k ps) [.val x,.own acc,s2,s3]=some (.nx [.val x,.own (acc++(oh k ps).map ah),t2,t3])
 | [],k,acc,s2,s3,_,_=>⟨s2,s3,by simp[bK,cE,oh]⟩
 | p::ps,k,acc,s2,s3,h,hl=>by
  have hp:=h p zE;obtain⟨_,_,_,_,_,_,_,_,Xn,hr⟩:=ki hp;have hb:=uU n Xn hr;rw[zL,Nat.succ_mul] at hl;obtain⟨t2,t3,e⟩:=yo hn (x:=x) (ps:=ps) (k:=k+1) (acc:=acc++((mq p).map λj=>ah [((k:Nat):Int),j])) (s2:=.val (.int (k:Nat))) (s3:=.val p) (λq hq=>h q (zC _ hq)) (by rw[zN,zD];lia);refine⟨t2,t3,?_⟩;have hs:gy 2 3 [.val x,.own acc,s2,s3] (.tuple [.int (k:Nat),p])=some [.val x,.own acc,.val (.int (k:Nat)),.val p]:=rfl;simp only[bK,cE,hs,zA,Q1 hp hn (show acc.length<=1000 by lia)];rw[e];simp[oh,zM,Zj]
def GM{n:Nat}{ps:List D}(h:∀p∈ps,placeOk n p=true)(hn:n<=100)(hl:ps.length * n<=1000):bM [.tuple ps]=some (.list ((oh 0 ps).map ah)):=by
 obtain⟨t2,t3,e⟩:=yo hn (x:=.tuple ps) (k:=0) (acc:=[]) (s2:=.V6) (s3:=.V6) h (by simpa using hl);have hs:aW 1 [] (cX af) [Slot.val (.tuple ps),.V6,.V6,.V6]=some (.nx [.val (.tuple ps),.own [],.V6,.V6]):=rfl;have hh:hand [0] 0 [Slot.val (.tuple ps),.own [],.V6,.V6]=[Slot.val (.tuple ps),.own [],.V6,.V6]:=rfl;have hf:bJ (aa (ae 0) af) (bV [Slot.val (.tuple ps),.own [],.V6,.V6])=some (bK 0 ps):=rfl;simp! [bM,iS,hs,cq,hh,hf];rw[show Bp 1 [2,3] (aw 1 [2] (bo (f2 az (ae 3) (fC (.int 1)))) (fG 0) (λ_=>some true) (aA (aa (ae 1) (aa (ae 0) af))))=pB from rfl,e];simp! []
def gD(d:D):List Int:=[mH ((dz d).getD 0 .none),mH ((dz d).getD 1 .none)]
def DZ(h:lr g t d=true):∃ds c,d=.tuple ds/\ds.length=3/\ds.getD 0 .none=.int (mH (ds.getD 0 .none))/\ds.getD 1 .none=.int (mH (ds.getD 1 .none))/\ds.getD 2 .none=.int c/\1<=c/\c<=9 /\
  0<=mH (ds.getD 0 .none)/\mH (ds.getD 0 .none)<=g - 1/\0<=mH (ds.getD 1 .none)/\mH (ds.getD 1 .none)<=t - 1:=by
 cases d<;>simp only[lr] at h<;>try cases h
 rename_i ds;simp only[zF,zJ] at h;obtain⟨h1,h2,h3,h4⟩:=h;have a:=gX h2;have b:=gX h3;have c:=gX h4;exact⟨ds,_,rfl,h1,a.1,b.1,c.1,c.2.1,c.2.2,a.2.1,a.2.2,b.2.1,b.2.2⟩
def EO(g t w:D):Bool:=decide ((dz w).map gD=vn (oh 0 (dz g)))&&decide ((dz w).map gD=vn ((oh 0 (dz t)).map List.reverse))
def T5(d:D):Bool:=long 3 3 d&&(kj ((dz d).getD 0 .none) ((dz d).getD 1 .none) ((dz d).getD 2 .none)&&EO ((dz d).getD 0 .none) ((dz d).getD 1 .none) ((dz d).getD 2 .none))
def mY:∀ {ps:List D}{k:Nat},∀r∈oh k ps,∃i j,r=[i,j]
 | [],k,r,h=>by cases h
 | p::ps,k,r,h=>by
  rcases List.mem_append.mp h with h|h
  ·obtain⟨j,_,rfl⟩:=List.mem_map.mp h;exact⟨_,_,rfl⟩
  ·exact mY r h
def oK(h:∀r∈a,∃i j,r=[i,j])(hl:a.length < 64):iK [.list (a.map ah)]=some ((vn a).map ah):=by
 have:∀ns∈a,ns≠[]:=λns hn=>by obtain⟨i,j,rfl⟩:=h ns hn;exact List.cons_ne_nil _ _
 simp only[iK,oneOf,zA,tR this,yM hl]
def yi:∀ {a:List (List Int)},(∀r∈a,∃i j,r=[i,j])->dU (j4 0 1) (λ_=>some true) (aA (aa (ae 1) (aa (ae 0) af))) [none,none] (a.map ah)=some ((a.map List.reverse).map ah)
 | [],_=>rfl
 | r::a,h=>by
  obtain⟨i,j,rfl⟩:=h r zE;have ih:=yi (a:=a) λq hq=>h q (zC _ hq);have e:j4 0 1 [none,none] (ah [i,j])=some [some (.int i),some (.int j)]:=rfl;rw[zI,dU,e,zA,zA,yM rfl,ih];simp! [bU (show [PyData.int j,.int i].length<=4000 by simp)];rfl
def HW{a:List (List Int)}(Xp:fi ρ=some (a.map ah))(hl:a.length<=4000)(h:∀r∈a,∃i j,r=[i,j]):aw 2 [] fi (j4 0 1) (λ_=>some true) (aA (aa (ae 1) (aa (ae 0) af))) ρ=some ((a.map List.reverse).map ah):=by
 simp only[aw,Xp,zA,fv,List.replicate,xG,xP,yV];rw[yi h,zA,bU (by rw[zD,zD];exact hl)]
def BR(h:kj g t w=true):∃gs ts ws,g=.tuple gs/\t=.tuple ts/\w=.tuple ws/\1<=gs.length/\gs.length<=4/\1<=ts.length/\ts.length<=4/\(∀p∈gs,placeOk ts.length p=true)/\(∀p∈ts,placeOk gs.length p=true)/\∀x∈ws,lr gs.length ts.length x=true:=by
 simp only[kj,qw,zF] at h;obtain⟨h1,h2,h3,h4,h5,h6⟩:=h;cases w<;>try cases h5
 rename_i ws;have e1:=mr h1;have e2:=mr h2;generalize dz g=gs at *;generalize dz t=ts at *;subst e1 e2;simp only[long,zF,zJ] at h1 h2;exact⟨gs,ts,ws,rfl,rfl,rfl,by lia,by lia,by lia,by lia,List.all_eq_true.mp h3,List.all_eq_true.mp h4,List.all_eq_true.mp h6⟩
def n6{b:Nat}(h:ja b k d)(hb:b<=100):bp [d]=some (.bool (T5 d)):=by
 unfold T5;cases e1:long 3 3 d with
 | false=>simp! [bp,ib,eA h.nd,e1,Bool.not_false,wJ]
 | true =>
  obtain⟨ds,rfl⟩:∃ds,d=.tuple ds:=⟨_,mr e1⟩
  obtain⟨j,rfl,hl,hf⟩:=h.WH;rw[show long 3 3 (.tuple ds)=decide (ds.length=3) from u9 3 ds,zJ] at e1;have f0:=hf _ (getD_mem (i:=0) (by lia));have f1:=hf _ (getD_mem (i:=1) (by lia));have XW:=hf _ (getD_mem (i:=2) (by lia));have i0:=FY (show 0 < ds.length by lia);have i1:=Ct (show 1 < ds.length by lia);have i2:=O7 (show 2 < ds.length by lia);have el:br [.tuple ds,.int 3,.int 3]=some (.bool true):=by rw[eA rfl,show long 3 3 (.tuple ds)=decide (ds.length=3) from u9 3 ds,yA e1]
  rw[show dz (.tuple ds)=ds from rfl,jM];generalize hg:ds.getD 0 .none=g at *;generalize ht:ds.getD 1 .none=t at *;generalize hw:ds.getD 2 .none=w at *;cases e2:kj g t w with
  | false=>simp! [bp,ib,el,i0,i1,i2,rF f0 f1 XW hb,e2,Bool.not_false,xZ,wJ]
  | true =>
   obtain⟨gs,ts,ws,rfl,rfl,rfl,g1,g4,t1,t4,hG,hT,hW⟩:=BR e2;have hfw:=XW.WH;obtain⟨j2,_,YL,_⟩:=hfw;have q1:=A8 (k:=0) hG;have q2:=A8 (k:=0) hT;have m1:gs.length * ts.length<=16:=wH g4 t4;have m2:ts.length * gs.length<=16:=wH t4 g4;have l1:=GM hG (by lia) (by lia);have l2:=GM hT (by lia) (by lia);have s1:=oK (a:=oh 0 gs) mY (by lia);have s2:=oK (a:=(oh 0 ts).map List.reverse) (λr hr=>by
    obtain⟨q,hq,rfl⟩:=List.mem_map.mp hr;obtain⟨i,j,rfl⟩:=mY q hq;exact⟨j,i,rfl⟩) (by rw[zD];lia)
   have c1:aw 1 [] (bo (f2 az (ae 0) (fC (.int 2)))) (fG 0) (λ_=>some true) (aA (aa (f2 az (ae 0) (fC (.int 0))) (aa (f2 az (ae 0) (fC (.int 1))) af))) [some (.tuple ds),none,none,none]=some ((ws.map gD).map ah):=by
    rw[dG (ds:=ws) (h:=λx=>ah (gD x)) (by simp! [i2]) (by lia) λx hx=>?_,zM]
    ·rfl
    ·obtain⟨vs,c,rfl,v3,v0,v1,_⟩:=DZ (hW x hx);simp! [FY (show 0 < vs.length by lia),Ct (show 1 < vs.length by lia),bU (show [vs.getD 0 PyData.none,vs.getD 1 .none].length<=4000 by simp),ah,gD,dz];rw[<- v0,<- v1]
   have c2:∀x y z,aw 2 [] (bo (ai 1 bM (aa (f2 az (ae 0) (fC (.int 1))) af))) (j4 0 1) (λ_=>some true) (aA (aa (ae 1) (aa (ae 0) af))) [some (.tuple ds),x,y,z]=some (((oh 0 ts).map List.reverse).map ah):=λx y z =>
    HW (by simp! [i1,l2]) (by lia) mY
   have YY:aW 1 [0] (aw 1 [] (bo (f2 az (ae 0) (fC (.int 2)))) (fG 0) (λ_=>some true) (aA (aa (f2 az (ae 0) (fC (.int 0))) (aa (f2 az (ae 0) (fC (.int 1))) af)))) [Slot.val (.tuple ds),.V6,.V6,.V6]=some (.nx [.val (.tuple ds),.own ((ws.map gD).map ah),.V6,.V6]):=by
    have hh:hand [0] 0 [Slot.val (.tuple ds),.V6,.V6,.V6]=[Slot.val (.tuple ds),.V6,.V6,.V6]:=rfl;simp only[aW,hh,bV,zI,yV,Slot.WX,c1,zB,yX,yW]
   have Yh:aW 2 [0] (m6 iK (aa (ai 1 bM (aa (f2 az (ae 0) (fC (.int 0))) af)) af)) [Slot.val (.tuple ds),.own ((ws.map gD).map ah),.V6,.V6]=some (.nx [.val (.tuple ds),.own ((ws.map gD).map ah),.own ((vn (oh 0 gs)).map ah),.V6]):=by
    have hh:hand [0] 0 [Slot.val (.tuple ds),.own ((ws.map gD).map ah),.V6,.V6]=[Slot.val (.tuple ds),.own ((ws.map gD).map ah),.V6,.V6]:=rfl;simp only[aW,hh,bV,zI,yV,Slot.WX];simp! [i0,l1,s1,yX,yW]
   have st3:aW 3 [0] (m6 iK (aa (cf (aw 2 [] (bo (ai 1 bM (aa (f2 az (ae 0) (fC (.int 1))) af))) (j4 0 1) (λ_=>some true) (aA (aa (ae 1) (aa (ae 0) af))))) af)) [Slot.val (.tuple ds),.own ((ws.map gD).map ah),.own ((vn (oh 0 gs)).map ah),.V6]
      =some (.nx [.val (.tuple ds),.own ((ws.map gD).map ah),.own ((vn (oh 0 gs)).map ah),.own ((vn ((oh 0 ts).map List.reverse)).map ah)]):=by
    have hh:hand [0] 0 [Slot.val (.tuple ds),.own ((ws.map gD).map ah),.own ((vn (oh 0 gs)).map ah),.V6]=[Slot.val (.tuple ds),.own ((ws.map gD).map ah),.own ((vn (oh 0 gs)).map ah),.V6]:=rfl;simp only[aW,hh,bV,zI,yV,Slot.WX];simp! [c2,s2,yX,yW]
   simp! [bp,ib,el,i0,i1,i2,rF f0 f1 XW hb,e2,xZ,yP,YY,Yh,st3,Hy,EO,dz,jM];by_cases hq:List.map gD ws=vn (oh 0 gs)<;>simp[hq]
def vf(xs:List D):PyData.eqvAll xs []=xs.isEmpty:=by cases xs<;>simp[PyData.eqvAll]
def Fp:SeqAt.shaped (.list [])=true:=by simp[SeqAt.shaped,PyData.canLay0,PyData.canLayAll0,PyData.depth,PyData.depthAll]
def KY(h:∀x∈xs,ja b k x)(hk:k<=60):bz (.list xs) (.list [])=some (.bool xs.isEmpty):=by
 have hs:SeqAt.shaped (.list xs)=true:=(ja.lst (b:=max b xs.length) (k:=k) (Nat.le_max_right _ _) λx hx=>(h x hx).mono (Nat.le_max_left _ _) (yN _)).shaped (by lia);simp only[bz,OA,hs,Fp,jQ,xI,PyData.eqv,vf,zB]
def jr:small []=some []:=rfl
def Kw(xs:List α)(k:Nat):cut xs (some (k:Int)) none=xs.drop k:=by
 simp only[cut,HT.Mg,HT.MY];rw[kN (by rw[qJ];lia)];by_cases h:k<=xs.length
 ·rw[Nat.min_eq_left h]
 ·rw[Nat.min_eq_right (by lia),List.drop_of_length_le (yN _),List.drop_of_length_le (by lia)]
def iC(b:Bool):gB (.bool b)=some b:=rfl
def EM(a b:D):small [a,b]=some [a,b]:=rfl
def pN:∀ (ρ:ar) (k:Nat),hand [] k ρ=ρ
 | [],k=>rfl
 | s::r,k=>by simp[hand,pN r]
def tG:∀ {ps:List D}{k:Nat}{i j:Int},[i,j]∈oh k ps↔∃m p,ps[m]?=some p/\i=((k+m:Nat):Int)/\j∈mq p
 | [],k,i,j=>by simp[oh]
 | p::ps,k,i,j=>by
  rw[oh,List.mem_append,tG (ps:=ps)];constructor
  ·rintro (h|⟨m,q,h1,h2,h3⟩)
   ·obtain⟨y,hy,e⟩:=List.mem_map.mp h;injection e with e1 e2
    injection e2 with e2 _
    exact⟨0,p,rfl,by simpa using e1.symm,e2 ▸ hy⟩
   ·exact⟨m+1,q,by simpa using h1,by rw[h2];congr 1;lia,h3⟩
  ·rintro⟨m,q,h1,h2,h3⟩;cases m with
   | zero =>
    simp at h1;subst h1;exact .inl (List.mem_map.mpr ⟨j,h3,by rw[h2];rfl⟩)
   | succ m=>exact .inr ⟨m,q,by simpa using h1,by rw[h2];congr 1;lia,h3⟩
def yu:∀ {ps:List D}{k:Nat},(∀p∈ps,(mq p).Nodup)->(oh k ps).Nodup
 | [],k,_=>List.nodup_nil
 | p::ps,k,h=>by
  rw[oh,Zi];refine⟨List.pairwise_map.mpr ((h p zE).imp λWz e=>Wz ?_),yu λq hq=>h q (zC _ hq),?_⟩;rotate_left
  ·injection e with _ e2
   injection e2
  ·rintro a ha b hb rfl;obtain⟨y,hy,rfl⟩:=List.mem_map.mp ha;obtain⟨m,q,h1,h2,h3⟩:=tG.mp hb;lia
def SY(h:Dl.lexLt a b=true):lexLe a b=true:=by
 unfold lexLe;cases e:Dl.lexLt b a with
 | false=>rfl
 | true=>have:=eH h e;rw[dB] at this;cases this
def cP(h:ub i j):Dl.cJ (.int i) (.int j)=some (.int (i * j)):=by
 simp only[Dl.cJ,xu,yM h,Option.some_or]
def jh(h:0 < j):Dl.nc (.int i) (.int j)=some (.int (i % j)):=yM h
def lP(h:0 < j/\j < 1073741824):Dl.o9 (.int i) (.int j)=some (.int (i / j)):=yM h
def eY(i j:Int):Dl.tx (.int i) (.int j)=some (.bool (decide (j < i))):=rfl
def mW(i j:Int):Dl.EY (.int i) (.int j)=some (.bool (decide (i < j))):=rfl
def n8(h:-(2 ^ 64) < i/\i < 2 ^ 64):ub i j:=.inl h
def P3(h:-(2 ^ 64) < j/\j < 2 ^ 64):ub i j:=.inr h
def BG(i:Int):Dl.sT (.int i)=true:=rfl
def Ce(i:List D):Dl.sT (.tuple i)=false:=rfl
def cH(ns:List Int):D:=.list (ns.map PyData.int)
def Rx(k:Int)(hl:ns.length<=63):∃c,eu [cH ns,.int k]=some (.int c):=by
 have heq:bz (.list (ns.map PyData.int)) (.list [])=some (.bool ns.isEmpty):=by
  have:=KY (b:=0) (k:=0) (xs:=ns.map PyData.int) (λx hx=>by obtain⟨i,_,rfl⟩:=List.mem_map.mp hx;exact kh i) (by decide);rw[this];cases ns<;>rfl
 by_cases hn:ns=[]
 ·subst hn;refine⟨7 * k,?_⟩;rw[yV,List.isEmpty_nil] at heq;simp! [eu,iF,cH,jr,heq,List.isEmpty_nil,cP (n8 (i:=7) (j:=k) (by decide))]
 ·have Xe:(0:Int) < (ns.length:Int):=by have:=List.length_pos_iff.mpr hn;lia
  have he:ns.isEmpty=false:=by cases ns<;>first|rfl|exact absurd rfl hn
  obtain⟨j,hj⟩:=vO (wC k (show (ns.length:Int)≠0 by lia));have Wg:=vE k Xe;have hx:Bv (ns.map PyData.int) (k % (ns.length:Int))=some (.int (ns.getD j 0)):=by
   rw[hj];have:j < (ns.map PyData.int).length:=by rw[zD];lia
   rw[pk this,zG,zO,zG];rw[zK (by lia)];rfl
  refine⟨ns.getD j 0+6553 * (k / (ns.length:Int)),?_⟩;simp! [eu,iF,cH,jr,heq,he,yP,zD,jh Xe,hx,lP (i:=k) (j:=(ns.length:Int)) ⟨Xe,by lia⟩,cP (n8 (i:=6553) (j:=k / (ns.length:Int)) (by decide))]
def Og(k many:Int)(hl:ns.length<=63)(hm:0 < many):∃r,ao [cH ns,.int k,.int many]=some (.int r)/\0<=r/\r < many:=by
 obtain⟨c,hc⟩:=Rx k hl;have m1:∀i:Int,Dl.nc (.int i) (.int 2147483563)=some (.int (i % 2147483563)):=λi=>jh (by decide);have m2:∀i:Int,Dl.nc (.int i) (.int 2147483399)=some (.int (i % 2147483399)):=λi=>jh (by decide);have m3:∀i:Int,Dl.nc (.int i) (.int 2147483647)=some (.int (i % 2147483647)):=λi=>jh (by decide);have d1:∀i:Int,Dl.o9 (.int i) (.int 3)=some (.int (i / 3)):=λi=>lP (by decide);have d2:∀i:Int,Dl.o9 (.int i) (.int 7)=some (.int (i / 7)):=λi=>lP (by decide);have d3:∀i:Int,Dl.o9 (.int i) (.int 11)=some (.int (i / 11)):=λi=>lP (by decide);have u1:∀i:Int,Dl.cJ (.int i) (.int 69069)=some (.int (i * 69069)):=λi=>cP (P3 (by decide));have u2:∀i:Int,Dl.cJ (.int 104723) (.int i)=some (.int (104723 * i)):=λi=>cP (n8 (by decide));have b1:∀x:Int,Dl.cJ (.int (x % 2147483563)) (.int (x % 2147483563))=some (.int (x % 2147483563 * (x % 2147483563))):=λx=>cP (n8 (by
  have:=wC x (show (2147483563:Int)≠0 by decide);have:=vE x (show (0:Int) < 2147483563 by decide);lia))
 have b2:∀x:Int,Dl.cJ (.int (x % 2147483399)) (.int (x % 2147483399))=some (.int (x % 2147483399 * (x % 2147483399))):=λx=>cP (n8 (by
  have:=wC x (show (2147483399:Int)≠0 by decide);have:=vE x (show (0:Int) < 2147483399 by decide);lia))
 suffices h:∃x,ao [cH ns,.int k,.int many]=some (.int (x % many)) by
  obtain⟨x,hx⟩:=h;exact⟨_,hx,wC x (show many≠0 by lia),vE x hm⟩
 ·refine⟨(((((c % 2147483563 * 69069+104723 * (k+1)) % 2147483563) * ((c % 2147483563 * 69069+104723 * (k+1)) % 2147483563)+((c % 2147483563 * 69069+104723 * (k+1)) % 2147483563) / 3) % 2147483399) * ((((c % 2147483563 * 69069+104723 * (k+1)) % 2147483563) * ((c % 2147483563 * 69069+104723 * (k+1)) % 2147483563)+((c % 2147483563 * 69069+104723 * (k+1)) % 2147483563) / 3) % 2147483399)+((((c % 2147483563 * 69069+104723 * (k+1)) % 2147483563) * ((c % 2147483563 * 69069+104723 * (k+1)) % 2147483563)+((c % 2147483563 * 69069+104723 * (k+1)) % 2147483563) / 3) % 2147483399) / 7) % 2147483647 / 11,?_⟩;simp! [ao,ka,hc,m1,u1,u2,Dl.aR,BG,yX,yW,b1,d1,m2,b2,d2,m3,d3,jh (j:=many) hm]
def dr(ns:List Int)(k many:Int):Int:=mH ((ao [cH ns,.int k,.int many]).getD .none)
def iy(k many:Int)(hl:ns.length<=63)(hm:0 < many):ao [cH ns,.int k,.int many]=some (.int (dr ns k many))/\0<=dr ns k many/\dr ns k many < many:=by
 obtain⟨r,h1,h2⟩:=Og k many hl hm;have:dr ns k many=r:=by simp only[dr,h1,qH,mH]
 rw[this];exact⟨h1,h2⟩
def xk(k many:Int)(hl:ns.length<=63)(hm:0 < many):ao [cH ns,.int k,.int many]=some (.int (dr ns k many)):=(iy k many hl hm).1
def O2(k many:Int)(hl:ns.length<=63)(hm:0 < many):0<=dr ns k many:=(iy k many hl hm).2.1
def Pb(k many:Int)(hl:ns.length<=63)(hm:0 < many):dr ns k many < many:=(iy k many hl hm).2.2
def cQ(r:List Int):D:=.list (r.map PyData.int)
def insI(ds:List Int)(k:Int)(d:Int):List Int:=let j:=if k < 0 then (k+(ds.length:Int)).toNat else min k.toNat ds.length;ds.take j++d::ds.drop j
def HS(ds:List Int)(k d:Int):F5 (ds.map PyData.int) k (.int d)=(insI ds k d).map PyData.int:=by
 simp only[F5,insI,zD,jB,zI,List.map_take,List.map_drop]
def insI_perm(ds:List Int)(k d:Int):(insI ds k d).Perm (d::ds):=by
 simp only[insI];refine List.perm_middle.trans ?_;rw[List.take_append_drop]
def oB:ar->Option Out:=(JB 6 [8] (ai 3 ao (aa (ae 0) (aa (f2 aD (f2 aD (ae 1) (f2 cJ (fC (.int 4)) (ae 4))) (ae 7)) (aa (f2 aD (ba aZ (aa (ae 6) af)) (fC (.int 1))) af)))) (ae 8))
def Qk{s3:Slot}(hl:ns.length<=63)(ho:order.length<=1000) :
  oB [.val (cH ns),.val (.int a),s2,s3,.val (.int k),s5,.own (order.map PyData.int),.val (.int j),.val (.int x)] =
   some (.nx [.val (cH ns),.val (.int a),s2,s3,.val (.int k),s5,.own ((insI order (dr ns (a+4 * k+j) ((order.length:Int)+1)) x).map PyData.int),.val (.int j),.val (.int x)]):=by
 have h4:Dl.cJ (.int 4) (.int k)=some (.int (4 * k)):=cP (n8 (by decide));have hd:=iy (ns:=ns) (a+4 * k+j) ((order.length:Int)+1) hl (by lia);have hr:Bu (dr ns (a+4 * k+j) ((order.length:Int)+1))=true:=by
  simp only[Bu,zF,zJ];lia
 have hz:(order.map PyData.int).length < sizeLine:=by rw[zD];exact jA ho (by decide)
 simp! [oB,JB,oD,BG,sQ,zD,h4,hd.1];rw[zD] at hz;simp only[hr,hz,jQ,xI,zB,HS,yX,yW]
def KS{s3:Slot}(hl:ns.length<=63):∀ {row order:List Int}{j:Nat}{s7 s8:Slot},order.length+row.length<=1000 ->
  ∃ (o:List Int) (t7 t8:Slot),cE (gy 7 8) oB (bK j (row.map PyData.int)) [.val (cH ns),.val (.int a),s2,s3,.val (.int k),s5,.own (order.map PyData.int),s7,s8] =
   some (.nx [.val (cH ns),.val (.int a),s2,s3,.val (.int k),s5,.own (o.map PyData.int),t7,t8])/\o.Perm (row++order)
 | [],order,j,s7,s8,_=>⟨order,s7,s8,by simp[bK,cE],by simp⟩
 | x::row,order,j,s7,s8,h=>by
  rw[zL] at h;have hp:=insI_perm order (dr ns (a+4 * k+((j:Nat):Int)) ((order.length:Int)+1)) x;have hlen:=hp.length_eq;rw[zL] at hlen;obtain⟨o,t7,t8,e,p⟩:=KS (s2:=s2) (s3:=s3) (s5:=s5) (a:=a) (k:=k) hl (row:=row) (order:=insI order (dr ns (a+4 * k+((j:Nat):Int)) ((order.length:Int)+1)) x) (j:=j+1) (s7:=.val (.int (j:Nat))) (s8:=.val (.int x)) (by lia);refine⟨o,t7,t8,?_,p.trans ?_⟩
  ·have hs:gy 7 8 [.val (cH ns),.val (.int a),s2,s3,.val (.int k),s5,.own (order.map PyData.int),s7,s8] (.tuple [.int (j:Nat),.int x])=some [.val (cH ns),.val (.int a),s2,s3,.val (.int k),s5,.own (order.map PyData.int),.val (.int (j:Nat)),.val (.int x)]:=rfl;simp only[zI,bK,cE,hs,zA,Qk hl (show order.length<=1000 by lia),e]
  ·refine (hp.append_left row).trans ?_;rw[xG];exact List.perm_middle
def uE:List (List Int)->List (List Int)->Prop|[],[]=>True|a::l,b::m=>a.Perm b/\uE l m|_,_=>False
def rB:ar->Option Out:=(ay (aW 6 [] (cX af)) (ay (cq [5] (bJ (aa (ae 5) af)) (gy 7 8) oB) (lG 3 [6] (ba cF (aa (ae 6) af)))))
def D7(hl:ns.length<=63)(hr:row.length<=1000)(hf:found.length<=1000) :
  ∃ (o:List Int) (t7 t8:Slot),rB [.val (cH ns),.val (.int a),.val rows,.own found,.val (.int k),.val (cQ row),s6,s7,s8]=some (.nx [.val (cH ns),.val (.int a),.val rows,.own (found++[ah o]),.val (.int k),.val (cQ row),.val (cQ o),t7,t8])/\o.Perm row:=by
 obtain⟨o,t7,t8,e,p⟩:=KS (s2:=.val rows) (s3:=.own found) (s5:=.val (cQ row)) (a:=a) (k:=k) hl (row:=row) (order:=[]) (j:=0) (s7:=s7) (s8:=s8) (by simpa using hr);rw[qG] at p;refine⟨o,t7,t8,?_,p⟩;have h1:aW 6 [] (cX af) [.val (cH ns),.val (.int a),.val rows,.own found,.val (.int k),.val (cQ row),s6,s7,s8]=some (.nx [.val (cH ns),.val (.int a),.val rows,.own found,.val (.int k),.val (cQ row),.own [],s7,s8]):=by
  simp only[aW,pN,cX,af,zA,jr,zB,yX,yW]
 have h2:cq [5] (bJ (aa (ae 5) af)) (gy 7 8) oB [.val (cH ns),.val (.int a),.val rows,.own found,.val (.int k),.val (cQ row),.own [],s7,s8]=some (.nx [.val (cH ns),.val (.int a),.val rows,.own found,.val (.int k),.val (cQ row),.own (o.map PyData.int),t7,t8]):=by
  have hh:hand [5] 0 [Slot.val (cH ns),.val (.int a),.val rows,.own found,.val (.int k),.val (cQ row),.own [],s7,s8]=[Slot.val (cH ns),.val (.int a),.val rows,.own found,.val (.int k),.val (cQ row),.own [],s7,s8]:=rfl;have hq:bJ (aa (ae 5) af) (bV [Slot.val (cH ns),.val (.int a),.val rows,.own found,.val (.int k),.val (cQ row),.own [],s7,s8])=some (bK 0 (row.map PyData.int)):=by
   simp only[bV,zI,yV];simp! [bJ,cQ]
  simp only[cq,hh,hq,zA];exact e
 have h3:lG 3 [6] (ba cF (aa (ae 6) af)) [.val (cH ns),.val (.int a),.val rows,.own found,.val (.int k),.val (cQ row),.own (o.map PyData.int),t7,t8]=some (.nx [.val (cH ns),.val (.int a),.val rows,.own (found++[ah o]),.val (.int k),.val (cQ row),.val (cQ o),t7,t8]):=by
  have hz:found.length < sizeLine:=jA hf (by decide);have hh:hand [6] 0 [Slot.val (cH ns),.val (.int a),.val rows,.own found,.val (.int k),.val (cQ row),.own (o.map PyData.int),t7,t8]=[Slot.val (cH ns),.val (.int a),.val rows,.own found,.val (.int k),.val (cQ row),.val (cQ o),t7,t8]:=rfl;simp only[lG,oD,hh,bV,zI,yV];simp! [Ce,yP,sQ,hz,yX,yW,cQ,ah]
 simp only[rB,ay,h1,h2,h3,zA]
def Jp{rws:D}(hl:ns.length<=63):∀ {rows:List (List Int)}{found:List D}{k:Nat}{s4 s5 s6 s7 s8:Slot},(∀r∈rows,r.length<=1000)->found.length+rows.length<=1000 ->
  ∃ (os:List (List Int)) (t4 t5 t6 t7 t8:Slot),cE (gy 4 5) rB (bK k (rows.map cQ)) [.val (cH ns),.val (.int a),.val rws,.own found,s4,s5,s6,s7,s8]=some (.nx [.val (cH ns),.val (.int a),.val rws,.own (found++os.map ah),t4,t5,t6,t7,t8])/\uE os rows
 | [],found,k,s4,s5,s6,s7,s8,_,_=>⟨[],s4,s5,s6,s7,s8,by simp[bK,cE],trivial⟩
 | r::rows,found,k,s4,s5,s6,s7,s8,h,hf=>by
  rw[zL] at hf;obtain⟨o,u7,u8,e1,p1⟩:=D7 (rows:=rws) (a:=a) (k:=((k:Nat):Int)) (s6:=s6) (s7:=s7) (s8:=s8) hl (h r zE) (show found.length<=1000 by lia);obtain⟨os,t4,t5,t6,t7,t8,e,p⟩:=Jp hl (rws:=rws) (a:=a) (rows:=rows) (found:=found++[ah o]) (k:=k+1) (s4:=.val (.int (k:Nat))) (s5:=.val (cQ r)) (s6:=.val (cQ o)) (s7:=u7) (s8:=u8) (λr' W9=>h r' (zC _ W9)) (by rw[zN,xD];lia);refine⟨o::os,t4,t5,t6,t7,t8,?_,p1,p⟩;have hs:gy 4 5 [.val (cH ns),.val (.int a),.val rws,.own found,s4,s5,s6,s7,s8] (.tuple [.int (k:Nat),cQ r])=some [.val (cH ns),.val (.int a),.val rws,.own found,.val (.int (k:Nat)),.val (cQ r),s6,s7,s8]:=rfl;simp only[zI,bK,cE,hs,zA,e1];rw[e,List.append_assoc];rfl
def Cw(hl:ns.length<=63)(hr:∀r∈rows,r.length<=1000)(hn:rows.length<=1000):∃os:List (List Int),bY [cH ns,.int a,.list (rows.map cQ)]=some (.list (os.map ah))/\uE os rows:=by
 obtain⟨os,t4,t5,t6,t7,t8,e,p⟩:=Jp hl (rws:=.list (rows.map cQ)) (a:=a) (rows:=rows) (found:=[]) (k:=0) (s4:=.V6) (s5:=.V6) (s6:=.V6) (s7:=.V6) (s8:=.V6) hr (by simpa using hn);refine⟨os,?_,p⟩;rw[xP] at e;have h1:aW 3 [] (cX af) [.val (cH ns),.val (.int a),.val (.list (rows.map cQ)),.V6,.V6,.V6,.V6,.V6,.V6]=some (.nx [.val (cH ns),.val (.int a),.val (.list (rows.map cQ)),.own [],.V6,.V6,.V6,.V6,.V6]):=by
  simp only[aW,pN,cX,af,zA,jr,zB,yX,yW]
 have h2:cq [2] (bJ (aa (ae 2) af)) (gy 4 5) rB [.val (cH ns),.val (.int a),.val (.list (rows.map cQ)),.own [],.V6,.V6,.V6,.V6,.V6]=some (.nx [.val (cH ns),.val (.int a),.val (.list (rows.map cQ)),.own (os.map ah),t4,t5,t6,t7,t8]):=by
  have hh:hand [2] 0 [Slot.val (cH ns),.val (.int a),.val (.list (rows.map cQ)),.own [],.V6,.V6,.V6,.V6,.V6]=[Slot.val (cH ns),.val (.int a),.val (.list (rows.map cQ)),.own [],.V6,.V6,.V6,.V6,.V6]:=rfl;have hq:bJ (aa (ae 2) af) (bV [Slot.val (cH ns),.val (.int a),.val (.list (rows.map cQ)),.own [],.V6,.V6,.V6,.V6,.V6])=some (bK 0 (rows.map cQ)):=by
   simp only[bV,zI,yV];simp! [bJ]
  simp only[cq,hh,hq,zA];exact e
 unfold rB oB at h2;simp! [bY,iR,h1,h2]
abbrev Pl:=Int×List Int
abbrev Wy:=Int×Int×Int
def bc(p:Pl):D:=.tuple [.int p.1,ah p.2]
def au(w:Wy):D:=.tuple [.int w.1,.int w.2.1,.int w.2.2]
def aH(G T:List Pl)(W:List Wy):D:=.tuple [.tuple (G.map bc),.tuple (T.map bc),.tuple (W.map au)]
def Gw(W:List Wy)(i:Int):List Int:=(W.filter λw=>decide (w.1=i)).map λw=>w.2.1
def ofT(W:List Wy)(j:Int):List Int:=(W.filter λw=>decide (w.2.1=j)).map λw=>w.1
abbrev Ja(W:List Wy):Prop:=W.Pairwise λa b=>a.1 < b.1\/(a.1=b.1/\a.2.1 < b.2.1)
structure Wd(G T:List Pl)(W:List Wy):Prop where
 g1:1<=G.length
 g4:G.length<=4
 t1:1<=T.length
 t4:T.length<=4
 ga:∀p∈G,0<=p.1/\p.1<=9
 ta:∀p∈T,0<=p.1/\p.1<=9
 gl:∀ (i:Nat) (p:Pl),G[i]?=some p->p.2.Perm (Gw W i)
 tl:∀ (j:Nat) (p:Pl),T[j]?=some p->p.2.Perm (ofT W j)
 wr:∀w∈W,(0<=w.1/\w.1 < G.length)/\(0<=w.2.1/\w.2.1 < T.length)/\1<=w.2.2/\w.2.2<=9
 wp:Ja W
 wl:W.length<=16
def zz:j∈Gw W i↔[i,j]∈W.map λw=>[w.1,w.2.1]:=by
 simp only[Gw,List.mem_map,List.mem_filter,zJ,vA,and_true];constructor
 ·rintro⟨w,⟨h1,h2⟩,h3⟩;exact⟨w,h1,h2,h3⟩
 ·rintro⟨w,h1,h2,h3⟩;exact⟨w,⟨h1,h2⟩,h3⟩
def zq:i∈ofT W j↔[i,j]∈W.map λw=>[w.1,w.2.1]:=by
 simp only[ofT,List.mem_map,List.mem_filter,zJ,vA,and_true];constructor
 ·rintro⟨w,⟨h1,h2⟩,h3⟩;exact⟨w,h1,h3,h2⟩
 ·rintro⟨w,h1,h2,h3⟩;exact⟨w,⟨h1,h3⟩,h2⟩
def qp(h:Ja W)(i:Int):(Gw W i).Nodup:=by
 unfold Gw List.Nodup;rw[jF,List.pairwise_filter];refine h.imp λXf ha hb=>?_;rw[zJ] at ha hb;lia
def qu(h:Ja W)(i:Int):(ofT W i).Nodup:=by
 unfold ofT List.Nodup;rw[jF,List.pairwise_filter];refine h.imp λXf ha hb=>?_;rw[zJ] at ha hb;lia
def gW(p:Pl):mq (bc p)=p.2:=by
 show ((p.2.map PyData.int).map mH)=p.2;rw[zM];exact List.map_id _
def rP(ha:0<=p.1/\p.1<=9)(hn:p.2.Nodup)(hr:∀j∈p.2,0<=j/\j < n):placeOk n (bc p)=true:=by
 have e:(p.2.map PyData.int).map mH=p.2:=gW p;have e2:(p.2.map PyData.int).all (whole 0 (n - 1))=true:=by
  rw[xH];intro x hx;obtain⟨j,hj,rfl⟩:=List.mem_map.mp hx;have:=hr j hj;simp only[whole,zF,zJ];lia
 simp only[placeOk,bc,ah,zL,xM,wN,wQ,j8,whole,e,e2,ha.1,ha.2,hn,jR,Bool.and_self]
def IH(h:(0<=w.1/\w.1 < g)/\(0<=w.2.1/\w.2.1 < t)/\1<=w.2.2/\w.2.2<=9):lr g t (au w)=true:=by
 obtain⟨⟨a,b⟩,⟨c,d⟩,e,f⟩:=h;have b':w.1<=g - 1:=by lia
 have d':w.2.1<=t - 1:=by lia
 simp only[lr,au,zL,xM,wN,wQ,whole,a,b',c,d',e,f,jR,Bool.and_self]
def UG(h:a < c\/(a=c/\b < d)):Dl.lexLt [a,b] [c,d]=true:=by
 show HT.lexLt [a,b] [c,d]=true;rw[HT.bg];by_cases e:a=c
 ·rw[yM e,HT.bg,yO (by lia)];simp only[zJ];lia
 ·rw[yO e];simp only[zJ];lia
def Wd.aaH(h:Wd G T W)(hp:p∈G):∃i:Nat,i < G.length/\p.2.Perm (Gw W i):=by
 obtain⟨i,hi,e⟩:=qS hp;exact⟨i,hi,h.gl i p (by rw[zK hi,e])⟩
def Wd.aaI(h:Wd G T W)(hp:p∈T):∃i:Nat,i < T.length/\p.2.Perm (ofT W i):=by
 obtain⟨i,hi,e⟩:=qS hp;exact⟨i,hi,h.tl i p (by rw[zK hi,e])⟩
def Wd.gok(h:Wd G T W):(G.map bc).all (placeOk T.length)=true:=by
 rw[xH];intro x hx;obtain⟨p,hp,rfl⟩:=List.mem_map.mp hx;obtain⟨i,hi,q⟩:=h.aaH hp;refine rP (h.ga p hp) (q.nodup_iff.mpr (qp h.wp _)) λj hj=>?_;obtain⟨w,hw,e⟩:=List.mem_map.mp (zz.mp (q.mem_iff.mp hj));injection e with e1 e2
 injection e2 with e2 _
 have:=(h.wr w hw).2.1;rw[e2] at this;exact this
def Wd.tok(h:Wd G T W):(T.map bc).all (placeOk G.length)=true:=by
 rw[xH];intro x hx;obtain⟨p,hp,rfl⟩:=List.mem_map.mp hx;obtain⟨i,hi,q⟩:=h.aaI hp;refine rP (h.ta p hp) (q.nodup_iff.mpr (qu h.wp _)) λj hj=>?_;obtain⟨w,hw,e⟩:=List.mem_map.mp (zq.mp (q.mem_iff.mp hj));injection e with e1 e2
 have:=(h.wr w hw).1;rw[e1] at this;exact this
def u6{W:List Wy}{p:Wy->Bool}(h:W.length<=16):(W.filter p).length<=16:=yD (xQ _ _) h
def F7(h:p.2.length<=16):ja 16 2 (bc p):=.tup (by simp only[zL,xM];lia) λx hx=>by
 rcases List.mem_cons.mp hx with rfl|hx
 ·exact kh _
 ·rw[yK] at hx;subst hx;exact GY h
def Ou(w:Wy):ja 16 1 (au w):=.tup (by simp only[zL,xM];lia) λx hx=>by
 simp only[zQ,yF,xV] at hx;rcases hx with rfl|rfl|rfl<;>exact kh _
def Wd.fit(h:Wd G T W):ja 16 4 (aH G T W):=by
 refine .tup (by simp only[zL,xM];lia) λx hx=>?_;simp only[zQ,yF,xV] at hx;have h4:=h.g4;have h5:=h.t4;have h6:=h.wl;rcases hx with rfl|rfl|rfl
 ·refine .tup (by rw[zD];lia) λx hx=>?_;obtain⟨p,hp,rfl⟩:=List.mem_map.mp hx;obtain⟨i,hi,q⟩:=h.aaH hp;exact F7 (by rw[q.length_eq,Gw,zD];exact u6 h.wl)
 ·refine .tup (by rw[zD];lia) λx hx=>?_;obtain⟨p,hp,rfl⟩:=List.mem_map.mp hx;obtain⟨i,hi,q⟩:=h.aaI hp;exact F7 (by rw[q.length_eq,ofT,zD];exact u6 h.wl)
 ·refine .tup (by rw[zD];lia) λx hx=>?_;obtain⟨p,hp,rfl⟩:=List.mem_map.mp hx;exact (Ou p).mono (yN _) (by decide)
def IZ(h0:0<=c)(h9:c<=9):Wd [(c,[0,1]),(c,[1,0])] [(c,[1,0]),(c,[0,1])] [(0,0,2),(0,1,2),(1,0,2),(1,1,2)] where
 g1:=by simp only[zL,xM];lia
 g4:=by simp only[zL,xM];lia
 t1:=by simp only[zL,xM];lia
 t4:=by simp only[zL,xM];lia
 ga:=by intro p hp;simp only[zQ,yF,xV] at hp;rcases hp with rfl|rfl<;>exact⟨h0,h9⟩
 ta:=by intro p hp;simp only[zQ,yF,xV] at hp;rcases hp with rfl|rfl<;>exact⟨h0,h9⟩
 gl:=by
  intro i p hp
  match i,hp with
  | 0,hp=>injection hp with hp;subst hp;exact (show List.Perm ([0,1]:List Int) (Gw [(0,0,2),(0,1,2),(1,0,2),(1,1,2)] ((0:Nat):Int)) by decide)
  | 1,hp=>injection hp with hp;subst hp;exact (show List.Perm ([1,0]:List Int) (Gw [(0,0,2),(0,1,2),(1,0,2),(1,1,2)] ((1:Nat):Int)) by decide)
 tl:=by
  intro i p hp
  match i,hp with
  | 0,hp=>injection hp with hp;subst hp;exact (show List.Perm ([1,0]:List Int) (ofT [(0,0,2),(0,1,2),(1,0,2),(1,1,2)] ((0:Nat):Int)) by decide)
  | 1,hp=>injection hp with hp;subst hp;exact (show List.Perm ([0,1]:List Int) (ofT [(0,0,2),(0,1,2),(1,0,2),(1,1,2)] ((1:Nat):Int)) by decide)
 wr:=show ∀w∈([(0,0,2),(0,1,2),(1,0,2),(1,1,2)]:List Wy),(0<=w.1/\w.1 < ((2:Nat):Int))/\(0<=w.2.1/\w.2.1 < ((2:Nat):Int))/\1<=w.2.2/\w.2.2<=9 by decide
 wp:=by decide
 wl:=by decide
def lH(f:Nat->Int):Nat->List (List Int)->List Pl|_,[]=>[]|k,r::rs=>(f k,r)::lH f (k+1) rs
def js(f:Nat->Int):∀ (rs:List (List Int)) (k:Nat),(lH f k rs).length=rs.length
 | [],k=>rfl
 | r::rs,k=>by rw[lH,zL,zL,js f rs]
def jw(f:Nat->Int):∀ {rs:List (List Int)}{k i:Nat}{p:Pl},(lH f k rs)[i]?=some p->∃r,rs[i]?=some r/\p=(f (k+i),r)
 | [],k,i,p,h=>by simp[lH] at h
 | r::rs,k,0,p,h=>by simp[lH] at h;exact⟨r,rfl,h.symm⟩
 | r::rs,k,i+1,p,h=>by
  simp only[lH,yZ] at h;obtain⟨y,h1,h2⟩:=jw f h;exact⟨y,by simpa using h1,by rw[h2];congr 2;lia⟩
def fH:∀ {a b:List (List Int)},uE a b->a.length=b.length
 | [],[],_=>rfl
 | x::a,y::b,h=>by rw[zL,zL,fH h.2]
 | [],_::_,h=>h.elim
 | _::_,[],h=>h.elim
def pW:∀ {a b:List (List Int)}{i:Nat}{r:List Int},uE a b->a[i]?=some r->∃s,b[i]?=some s/\r.Perm s
 | [],[],i,r,_,h=>by simp at h
 | x::a,y::b,0,r,h,e=>by
  simp only[xR,yL] at e;subst e;exact⟨y,rfl,h.1⟩
 | x::a,y::b,i+1,r,h,e=>by
  simp only[yZ] at e;obtain⟨s,h1,h2⟩:=pW h.2 e;exact⟨s,by simpa using h1,h2⟩
 | [],_::_,i,r,h,_=>h.elim
 | _::_,[],i,r,h,_=>h.elim
def nu(W:List Wy)(m:Nat):List (List Int):=(List.range m).map λi=>Gw W ((i:Nat):Int)
def gF(W:List Wy)(m:Nat):List (List Int):=(List.range m).map λi=>ofT W ((i:Nat):Int)
def Mt(m1:1<=m)(m4:m<=4)(s1:1<=s)(s4:s<=4)(hf:∀k,0<=f k/\f k<=9)(hg:∀k,0<=g k/\g k<=9)
  (hm:uE Wn (nu W m)) (hy:uE WB (gF W s)) (wr:∀w∈W,(0<=w.1/\w.1 < m)/\(0<=w.2.1/\w.2.1 < s)/\1<=w.2.2/\w.2.2<=9) (wp:Ja W) (wl:W.length<=16):Wd (lH f 0 Wn) (lH g 0 WB) W:=by
 have lm:(lH f 0 Wn).length=m:=by rw[js,fH hm,nu,zD,zR]
 have ly:(lH g 0 WB).length=s:=by rw[js,fH hy,gF,zD,zR]
 have am:∀ {h:Nat->Int}{rs:List (List Int)},(∀k,0<=h k/\h k<=9)->∀p∈lH h 0 rs,0<=p.1/\p.1<=9:=λ{h rs} hh p hp=>by
  obtain⟨i,hi⟩:=List.mem_iff_getElem?.mp hp;obtain⟨r,_,rfl⟩:=jw h hi;exact hh _
 refine⟨by lia,by lia,by lia,by lia,am hf,am hg,λi p hp=>?_,λi p hp=>?_,by rw[lm,ly];exact wr,wp,wl⟩
 ·obtain⟨r,h1,rfl⟩:=jw f hp;obtain⟨t,h2,h3⟩:=pW hm h1;rw[nu,zO] at h2;obtain⟨k,hk,rfl⟩:=Option.map_eq_some_iff.mp h2;have:k=i:=by
   rw[zT] at hk;obtain⟨h,e⟩:=hk;rw[List.getElem_range] at e;exact e.symm
  subst this;exact h3
 ·obtain⟨r,h1,rfl⟩:=jw g hp;obtain⟨t,h2,h3⟩:=pW hy h1;rw[gF,zO] at h2;obtain⟨k,hk,rfl⟩:=Option.map_eq_some_iff.mp h2;have:k=i:=by
   rw[zT] at hk;obtain⟨h,e⟩:=hk;rw[List.getElem_range] at e;exact e.symm
  subst this;exact h3
def eE{i:Nat}{fz:List Nat}{f:Dl.Env->Option D}{ρ ρ':ar}{d:D}(hf:f (aK ρ)=some d)(hs:Dl.sT d=false)(hh:hand fz 0 ρ=ρ')(hv:bV ρ'=aK ρ)(hr:gC d=false\/ρ'=ρ:=by first|exact .inr rfl|exact .inl rfl):Dl.aR i fz f ρ=some (.nx (ρ'.set i (.val d))):=by
 rcases hr with hr|hr
 ·simp only[Dl.aR,hf,zA,hs,yP,qQ,hh,hv,zB,hr]
 ·subst hr;simp only[Dl.aR,hf,zA,hs,yP,qQ,hh,hv,zB,ite_self]
def cm{i:Nat}{fz:List Nat}{f:Dl.Env->Option D}{ρ:ar}{d:D}(hf:f (aK ρ)=some d)(hs:Dl.sT d=true):Dl.aR i fz f ρ=some (.nx (ρ.set i (.val d))):=by
 simp only[Dl.aR,hf,zA,hs,xI]
def O3(w:Wy):az (au w) (.int 0)=some (.int w.1):=rfl
def Pc(w:Wy):az (au w) (.int 1)=some (.int w.2.1):=rfl
def EZ(a b c:D):small [a,b,c]=some [a,b,c]:=rfl
def SE{a b s:Int}(hs:s=1\/s=2\/s=3)(h:a < b):a / s < b / s\/(a / s=b / s/\a % s < b % s):=by rcases hs with rfl|rfl|rfl<;>lia
def Rn{k m s:Int}(hs:s=1\/s=2\/s=3)(hm:m=1\/m=2\/m=3)(h0:0<=k)(h:k < m * s):(0<=k / s/\k / s < m)/\0<=k % s/\k % s < s:=by
 rcases hs with rfl|rfl|rfl<;>rcases hm with rfl|rfl|rfl<;>lia
def lB:ar->Option Out:=(eI (eV (fB (f2 EY (ba aZ (aa (ae 7) af)) (ae 2))) (fB (f2 tx (ai 3 ao (aa (ae 0) (aa (f2 aD (f2 aD (ae 1) (fC (.int 2))) (ae 8)) (aa (fC (.int 4)) af)))) (fC (.int 0))))) (lG 7 [0,1,6,8] (aA (aa (f2 o9 (ae 8) (ae 6)) (aa (f2 nc (ae 8) (ae 6)) (aa (f2 aD (fC (.int 1)) (ai 3 ao (aa (ae 0) (aa (f2 aD (f2 aD (ae 1) (fC (.int 12))) (ae 8)) (aa (fC (.int 2)) af))))) af))))) dS)
abbrev st(ns:List Int)(a mo m s:Int)(x4 x7 x8 x9 x10 x11:Slot):ar:=[.val (cH ns),.val (.int a),.val (.int mo),.V6,x4,.val (.int m),.val (.int s),x7,x8,x9,x10,x11]
def On(ns:List Int)(a mo s k:Int)(W:List Wy):List Wy:=if (W.length:Int) < mo/\0 < dr ns (a+2+k) 4 then W++[(k / s,k % s,1+dr ns (a+12+k) 2)] else W
def PV{ns:List Int}{a mo m s k:Int}{W:List Wy}(hl:ns.length<=63)(hs:s=1\/s=2\/s=3)(hw:W.length<=9) :
  lB (st ns a mo m s .V6 (.own (W.map au)) (.val (.int k)) .V6 .V6 .V6)=some (.nx (st ns a mo m s .V6 (.own ((On ns a mo s k W).map au)) (.val (.int k)) .V6 .V6 .V6)):=by
 have hs0:0 < s:=by lia
 have hz:W.length < sizeLine:=jA hw (by decide);have hd:Dl.o9 (.int k) (.int s)=some (.int (k / s)):=lP ⟨hs0,by lia⟩;have hm:Dl.nc (.int k) (.int s)=some (.int (k % s)):=jh hs0;have e4:=xk (ns:=ns) (a+2+k) 4 hl (by decide);have e2:=xk (ns:=ns) (a+12+k) 2 hl (by decide);have hh:hand [0,1,6,8] 0 (st ns a mo m s .V6 (.own (W.map au)) (.val (.int k)) .V6 .V6 .V6)=st ns a mo m s .V6 (.own (W.map au)) (.val (.int k)) .V6 .V6 .V6:=rfl;have ha:lG 7 [0,1,6,8] (aA (aa (f2 o9 (ae 8) (ae 6)) (aa (f2 nc (ae 8) (ae 6)) (aa (f2 aD (fC (.int 1)) (ai 3 ao (aa (ae 0) (aa (f2 aD (f2 aD (ae 1) (fC (.int 12))) (ae 8)) (aa (fC (.int 2)) af))))) af)))) (st ns a mo m s .V6 (.own (W.map au)) (.val (.int k)) .V6 .V6 .V6)=some (.nx (st ns a mo m s .V6 (.own ((W++[(k / s,k % s,1+dr ns (a+12+k) 2)]).map au)) (.val (.int k)) .V6 .V6 .V6)):=by
  simp only[lG,oD,hh,bV,zI,yV];simp! [Ce,yP,sQ,hd,hm,e2,EZ,zD,hz,yX,yW,jB];rfl
 by_cases c1:(W.length:Int) < mo
 ·by_cases c2:0 < dr ns (a+2+k) 4
  ·rw[show On ns a mo s k W=W++[(k / s,k % s,1+dr ns (a+12+k) 2)] from yM ⟨c1,c2⟩,<- ha];simp! [lB,mW,eY,zD,c1,c2,jR,iC,e4]
  ·rw[show On ns a mo s k W=W from yO λh=>c2 h.2];simp! [lB,mW,eY,zD,c1,c2,jR,Zd,iC,e4,yP]
 ·rw[show On ns a mo s k W=W from yO λh=>c1 h.1];simp! [lB,mW,eY,zD,c1,Zd,iC,yP]
structure IX(mo s k:Int)(W:List Wy):Prop where
 mem:∀w∈W,∃j:Int,0<=j/\j < k/\w.1=j / s/\w.2.1=j % s/\1<=w.2.2/\w.2.2<=2
 ris:Ja W
 len:(W.length:Int)<=k
 lem:(W.length:Int)<=mo
def IX.next{ns:List Int}{a mo s k:Int}{W:List Wy}(hl:ns.length<=63)(hs:s=1\/s=2\/s=3)(hk:0<=k)(h:IX mo s k W):IX mo s (k+1) (On ns a mo s k W):=by
 have old:∀w∈W,∃j:Int,0<=j/\j < k+1/\w.1=j / s/\w.2.1=j % s/\1<=w.2.2/\w.2.2<=2:=λw hw=>by
  obtain⟨j,a,b,c⟩:=h.mem w hw;exact⟨j,a,by lia,c⟩
 by_cases c:(W.length:Int) < mo/\0 < dr ns (a+2+k) 4
 ·rw[show On ns a mo s k W=W++[(k / s,k % s,1+dr ns (a+12+k) 2)] from yM c];have g1:=O2 (ns:=ns) (a+12+k) 2 hl (by decide);have g2:=Pb (ns:=ns) (a+12+k) 2 hl (by decide);refine⟨λw hw=>?_,?_,?_,?_⟩
  ·rcases List.mem_append.mp hw with hw|hw
   ·exact old w hw
   ·rw[yK] at hw;subst hw;exact⟨k,hk,by lia,rfl,rfl,by simp only;lia,by simp only;lia⟩
  ·refine List.pairwise_append.mpr ⟨h.ris,vN _ _,λa ha b hb=>?_⟩;rw[yK] at hb;subst hb;obtain⟨j,_,b,c1,c2,_⟩:=h.mem a ha;rw[c1,c2];exact SE hs b
  ·have:=h.len;rw[zN,xD];lia
  ·have:=c.1;rw[zN,xD];lia
 ·rw[show On ns a mo s k W=W from yO c];exact⟨old,h.ris,by have:=h.len;lia,h.lem⟩
def LQ{ns:List Int}{a mo m s:Int}(hl:ns.length<=63)(hs:s=1\/s=2\/s=3):∀ (n k:Nat) {W:List Wy}{x8:Slot},k+n<=9->IX mo s k W ->
  ∃W' t8,cE (gM 8) lB ((List.range' k n).map λi=>PyData.int ((i:Nat):Int)) (st ns a mo m s .V6 (.own (W.map au)) x8 .V6 .V6 .V6)=some (.nx (st ns a mo m s .V6 (.own (W'.map au)) t8 .V6 .V6 .V6))/\(n=0/\t8=x8\/∃d,t8=.val d)/\IX mo s ((k+n:Nat):Int) W'
 | 0,k,W,x8,hk,h=>⟨W,x8,rfl,.inl ⟨rfl,rfl⟩,h⟩
 | n+1,k,W,x8,hk,h=>by
  have h':IX mo s ((k+1:Nat):Int) (On ns a mo s k W):=by
   have:=h.next (ns:=ns) (a:=a) hl hs (by lia)
   rwa [show ((k:Int)+1)=((k+1:Nat):Int) by lia] at this
  obtain⟨W',t8,e,q,b⟩:=LQ hl hs n (k+1) (W:=On ns a mo s k W) (x8:=.val (.int (k:Nat))) (by lia) h';refine⟨W',t8,?_,.inr (q.elim (λz=>⟨_,z.2⟩) id),by rw[show k+(n+1)=k+1+n by lia];exact b⟩;have hsg:∀d,gM 8 (st ns a mo m s .V6 (.own (W.map au)) x8 .V6 .V6 .V6) d=some (st ns a mo m s .V6 (.own (W.map au)) (.val d) .V6 .V6 .V6):=λd=>rfl;rw[vL,zI,cE,hsg,zA,PV hl hs (by have:=h.len;lia)];exact e
def VB(W:List Wy)(i:Int)(hw:W.length<=20):aw 1 [0] (bo (ae 1)) (fG 0) (fB (f2 bz (f2 az (ae 0) (fC (.int 0))) (ae 1))) (f2 az (ae 0) (fC (.int 1))) [some (.int i),some (.list (W.map au))]=some ((Gw W i).map PyData.int):=by
 rw[oz (ds:=W.map au) (p:=λd=>decide (mH ((dz d).getD 0 .none)=i)) (h:=λd=>(dz d).getD 1 .none) rfl (by rw[zD];lia) (λd hd=>?_) λd hd _=>?_]
 ·rw[kJ,zM,Gw,zM];rfl
 ·obtain⟨w,_,rfl⟩:=List.mem_map.mp hd;simp! [O3,cB,iC];rfl
 ·obtain⟨w,_,rfl⟩:=List.mem_map.mp hd;simp! [Pc];rfl
def V2(W:List Wy)(i:Int)(hw:W.length<=20):aw 1 [0] (bo (ae 1)) (fG 0) (fB (f2 bz (f2 az (ae 0) (fC (.int 1))) (ae 1))) (f2 az (ae 0) (fC (.int 0))) [some (.int i),some (.list (W.map au))]=some ((ofT W i).map PyData.int):=by
 rw[oz (ds:=W.map au) (p:=λd=>decide (mH ((dz d).getD 1 .none)=i)) (h:=λd=>(dz d).getD 0 .none) rfl (by rw[zD];lia) (λd hd=>?_) λd hd _=>?_]
 ·rw[kJ,zM,ofT,zM];rfl
 ·obtain⟨w,_,rfl⟩:=List.mem_map.mp hd;simp! [Pc,cB,iC];rfl
 ·obtain⟨w,_,rfl⟩:=List.mem_map.mp hd;simp! [O3];rfl
def oP{m:Nat}(hm:m<=1000):Bu ((m:Nat):Int)=true:=by
 unfold Bu;rw[zF,zJ,zJ];have h1:(0:Int)<=(m:Int):=Int.natCast_nonneg m;have h2:(m:Int)<=1000:=by lia
 exact⟨jV (by decide) h1,Int.lt_of_le_of_lt h2 (by decide)⟩
def B7{j:Int}(h:Bu j=true):nX [.int j]=some ((List.range j.toNat).map λi=>PyData.int ((i:Nat):Int)):=by
 rw[nX,yM h]
def AV{fi:Dl.Env->Option D}{ρ:Dl.Env}(m:Nat)(hm:m<=1000)(h:fi ρ=some (.int (m:Nat))):aE (aa fi af) ρ=some ((List.range m).map λi=>PyData.int ((i:Nat):Int)):=by
 have e:aa fi af ρ=some [.int ((m:Nat):Int)]:=by simp only[aa,af,h,zA,zB]
 have e2:aE (aa fi af) ρ=(aa fi af ρ).bind nX:=rfl;rw[e2,e,zA,B7 (oP hm),yG]
def Nd{W:List Wy}{m:Nat}{ρ:Dl.Env}(hw:W.length<=20)(hm:m<=1000)(h5:ae i5 ρ=some (.int (m:Nat)))(h7:(ρ[i7]?).getD none=some (.list (W.map au))) :
  aw 1 [i7] (aE (aa (ae i5) af)) (fG 0) (λ_=>some true) (cf (aw 1 [0] (bo (ae 1)) (fG 0) (fB (f2 bz (f2 az (ae 0) (fC (.int 0))) (ae 1))) (f2 az (ae 0) (fC (.int 1))))) ρ=some ((nu W m).map cQ):=by
 rw[dG (h:=λd=>cQ (Gw W (mH d))) (AV m hm h5) (by rw[zD,zR];lia) λd hd=>?_]
 ·rw[nu,zM,zM];rfl
 ·obtain⟨i,_,rfl⟩:=List.mem_map.mp hd;simp only[zI,yV,h7,cf,VB W _ hw,zB,cQ,mH]
def MN{W:List Wy}{m:Nat}{ρ:Dl.Env}(hw:W.length<=20)(hm:m<=1000)(h5:ae i5 ρ=some (.int (m:Nat)))(h7:(ρ[i7]?).getD none=some (.list (W.map au))) :
  aw 1 [i7] (aE (aa (ae i5) af)) (fG 0) (λ_=>some true) (cf (aw 1 [0] (bo (ae 1)) (fG 0) (fB (f2 bz (f2 az (ae 0) (fC (.int 1))) (ae 1))) (f2 az (ae 0) (fC (.int 0))))) ρ=some ((gF W m).map cQ):=by
 rw[dG (h:=λd=>cQ (ofT W (mH d))) (AV m hm h5) (by rw[zD,zR];lia) λd hd=>?_]
 ·rw[gF,zM,zM];rfl
 ·obtain⟨i,_,rfl⟩:=List.mem_map.mp hd;simp only[zI,yV,h7,cf,V2 W _ hw,zB,cQ,mH]
def OS(c:Int):Dl.Env->Option D:=(aA (aa (ai 3 ao (aa (ae 2) (aa (f2 aD (f2 aD (ae 3) (fC (.int c))) (ae 0)) (aa (fC (.int 4)) af)))) (aa (ae 1) af)))
def Sl{ns:List Int}{a:Int}(c:Int)(hl:ns.length<=63):∀ (Wn:List (List Int)) (k:Nat),dU (j4 0 1) (λ_=>some true) (OS c) [none,none,some (cH ns),some (.int a)] (bK k (Wn.map ah))=some ((lH (λk=>dr ns (a+c+((k:Nat):Int)) 4) k Wn).map bc)
 | [],k=>rfl
 | r::Wn,k=>by
  have hg:j4 0 1 [none,none,some (cH ns),some (.int a)] (.tuple [.int ((k:Nat):Int),ah r])=some [some (.int ((k:Nat):Int)),some (ah r),some (cH ns),some (.int a)]:=rfl;have he:OS c [some (.int ((k:Nat):Int)),some (ah r),some (cH ns),some (.int a)]=some (bc (dr ns (a+c+((k:Nat):Int)) 4,r)):=by
   simp! [OS,xk (ns:=ns) (a+c+((k:Nat):Int)) 4 hl (by decide),EM,bc]
  have ih:=Sl (a:=a) c hl Wn (k+1);rw[zI,bK,dU,hg];simp only[zA,xI,he,ih,zB,lH,zI]
def mT:∀ (ds:List D) (k:Nat),(bK k ds).length=ds.length
 | [],k=>rfl
 | d::ds,k=>by rw[bK,zL,zL,mT ds]
def Dy{ns:List Int}{a c:Int}{i9:Nat}{ρ:Dl.Env}{Wn:List (List Int)}(hl:ns.length<=63)(hm:Wn.length<=1000)(h9:ae i9 ρ=some (.list (Wn.map ah)))(h0:(ρ[0]?).getD none=some (cH ns))(h1:(ρ[1]?).getD none=some (.int a)) :
  ba cF (aa (cf (aw 2 [0,1] (bJ (aa (ae i9) af)) (j4 0 1) (λ_=>some true) (OS c))) af) ρ=some (.tuple ((lH (λk=>dr ns (a+c+((k:Nat):Int)) 4) 0 Wn).map bc)):=by
 have hi:bJ (aa (ae i9) af) ρ=some (bK 0 (Wn.map ah)):=by
  simp only[bJ,aa,af,h9,zA,zB,cg,oneOf,fE]
 have hc:aw 2 [0,1] (bJ (aa (ae i9) af)) (j4 0 1) (λ_=>some true) (OS c) ρ=some ((lH (λk=>dr ns (a+c+((k:Nat):Int)) 4) 0 Wn).map bc):=by
  simp only[aw,hi,zA,fv,zI,yV,h0,h1,List.replicate,xG,xP,Sl c hl];exact bU (by rw[zD,js];lia)
 simp only[ba,aa,af,cf,hc,zB,zA,cF,cg,oneOf,fE]
def ak{g1 g2:ar->Option Out}{ρ ρ':ar}(h:g1 ρ=some (.nx ρ')):ay g1 g2 ρ=g2 ρ':=by
 simp only[ay,h,zA]
def aJ{g:ar->Option Out}{n:Nat}{args:List D}{d:D}(h:g (args.map Slot.val++List.replicate (n - args.length) .V6)=some (.rt d)):bq g n args=some d:=by
 simp only[bq,h,zB]
def jo{g:D->D->Option D}{fa fb:Dl.Env->Option D}{ρ:Dl.Env}{a b:D}(ha:fa ρ=some a)(hb:fb ρ=some b):f2 g fa fb ρ=g a b:=by
 simp only[f2,ha,hb,zA]
def P1{ns:List Int}{a mo:Int}{m s:Nat}(m1:m<=3)(s1:s<=3):f2 cJ (ae 5) (ae 6) (bV (st ns a mo m s .V6 (.own []) .V6 .V6 .V6 .V6))=some (.int ((m * s:Nat):Int)):=by
 have h:Dl.cJ (.int (m:Int)) (.int (s:Int))=some (.int ((m:Int) * (s:Int))):=cP (n8 (by lia));rw[jo (a:=.int (m:Int)) (b:=.int (s:Int)) rfl rfl,h,Int.natCast_mul]
def Qr{ns:List Int}{a mo:Int}{m s:Nat}(m1:m<=3)(s1:s<=3)(hms:m * s<=9){W:List Wy}{t8:Slot}(e: cE (gM 8) lB ((List.range' 0 (m * s)).map λi=>PyData.int ((i:Nat):Int)) (st ns a mo m s .V6 (.own (([]:List Wy).map au)) .V6 .V6 .V6 .V6)=some (.nx (st ns a mo m s .V6 (.own (W.map au)) t8 .V6 .V6 .V6))):cq [5,6] (aE (aa (f2 cJ (ae 5) (ae 6)) af)) (gM 8) lB (st ns a mo m s .V6 (.own []) .V6 .V6 .V6 .V6)=some (.nx (st ns a mo m s .V6 (.own (W.map au)) t8 .V6 .V6 .V6)):=by
 have hh:hand [5,6] 0 (st ns a mo m s .V6 (.own []) .V6 .V6 .V6 .V6)=st ns a mo m s .V6 (.own []) .V6 .V6 .V6 .V6:=rfl;have hr:=AV (fi:=f2 cJ (ae 5) (ae 6)) (ρ:=bV (st ns a mo m s .V6 (.own []) .V6 .V6 .V6 .V6)) (m * s) (by lia) (P1 m1 s1);rw[yH] at hr;rw[yV] at e;simp only[cq,hh,hr,zA];exact e
structure U1(mo:Int)(G T:List Pl)(W:List Wy):Prop where
 g3:G.length<=3
 t3:T.length<=3
 w2:∀w∈W,w.2.2<=2
 ga:∀p∈G,p.1<=3
 ta:∀p∈T,p.1<=3
 wm:(W.length:Int)<=mo
def AC{ns:List Int}{a mo:Int}(hl:ns.length<=63)(hmo:3 < mo)(c:dr ns (a+64) 4=0):∃G T W,cn [cH ns,.int a,.int mo]=some (aH G T W)/\Wd G T W/\U1 mo G T W:=by
 have e64:=xk (ns:=ns) (a+64) 4 hl (by decide);have e65:=iy (ns:=ns) (a+65) 2 hl (by decide);refine⟨_,_,_,?_,IZ (c:=1+dr ns (a+65) 2) (by lia) (by lia),⟨by simp,by simp,by decide,λp hp=>?_,λp hp=>?_,by simp;lia⟩⟩;rotate_left
 ·simp only[zQ,yF,xV] at hp;rcases hp with rfl|rfl<;>(simp only;lia)
 ·simp only[zQ,yF,xV] at hp;rcases hp with rfl|rfl<;>(simp only;lia)
 have s1:Dl.aR 3 [0,1] (f2 aD (fC (.int 1)) (ai 3 ao (aa (ae 0) (aa (f2 aD (ae 1) (fC (.int 65))) (aa (fC (.int 2)) af))))) [.val (cH ns),.val (.int a),.val (.int mo),.V6,.V6,.V6,.V6,.V6,.V6,.V6,.V6,.V6]=some (.nx [.val (cH ns),.val (.int a),.val (.int mo),.val (.int (1+dr ns (a+65) 2)),.V6,.V6,.V6,.V6,.V6,.V6,.V6,.V6]) :=
  cm (d:=.int (1+dr ns (a+65) 2)) (by simp! [e65.1]) rfl
 generalize 1+dr ns (a+65) 2=x at *;have s2:Dl.aR 4 [3] (aA (aa (aA (aa (ae 3) (aa (aA (aa (fC (.int 1)) (aa (fC (.int 0)) af))) af))) (aa (aA (aa (ae 3) (aa (aA (aa (fC (.int 0)) (aa (fC (.int 1)) af))) af))) af))) [.val (cH ns),.val (.int a),.val (.int mo),.val (.int x),.V6,.V6,.V6,.V6,.V6,.V6,.V6,.V6]=some (.nx [.val (cH ns),.val (.int a),.val (.int mo),.val (.int x),.val (.tuple [bc (x,[1,0]),bc (x,[0,1])]),.V6,.V6,.V6,.V6,.V6,.V6,.V6]) :=
  eE (d:=.tuple [bc (x,[1,0]),bc (x,[0,1])]) (by simp! [EM];rfl) rfl rfl rfl
 simp! [cn,eM,eY,e64,c,cB,jR,iC,show decide ((3:Int) < mo)=true from yA hmo,s1,s2,EM,EZ,show ∀a b c d:D,small [a,b,c,d]=some [a,b,c,d] fromλ_ _ _ _=>rfl];rfl
def zw{ns:List Int}{a mo:Int}(hl:ns.length<=63)(hm0:0<=mo)(c:¬ (3 < mo/\dr ns (a+64) 4=0)):∃G T W,cn [cH ns,.int a,.int mo]=some (aH G T W)/\Wd G T W/\U1 mo G T W:=by
 have e64:=xk (ns:=ns) (a+64) 4 hl (by decide);have em:=iy (ns:=ns) a 3 hl (by decide);have es:=iy (ns:=ns) (a+1) 3 hl (by decide);obtain⟨m,hm⟩:=vO (show 0<=1+dr ns a 3 by lia);obtain⟨s,hs⟩:=vO (show 0<=1+dr ns (a+1) 3 by lia);have m1:1<=m/\m<=3:=by lia
 have s1:1<=s/\s<=3:=by lia
 have XN:(s:Int)=1\/(s:Int)=2\/(s:Int)=3:=by lia
 have Xu:(m:Int)=1\/(m:Int)=2\/(m:Int)=3:=by lia
 have t5:Dl.aR 5 [0,1] (f2 aD (fC (.int 1)) (ai 3 ao (aa (ae 0) (aa (ae 1) (aa (fC (.int 3)) af))))) [.val (cH ns),.val (.int a),.val (.int mo),.V6,.V6,.V6,.V6,.V6,.V6,.V6,.V6,.V6]=some (.nx [.val (cH ns),.val (.int a),.val (.int mo),.V6,.V6,.val (.int (m:Nat)),.V6,.V6,.V6,.V6,.V6,.V6]) :=
  cm (d:=.int (m:Nat)) (by simp! [em.1,hm]) rfl
 have t6:Dl.aR 6 [0,1] (f2 aD (fC (.int 1)) (ai 3 ao (aa (ae 0) (aa (f2 aD (ae 1) (fC (.int 1))) (aa (fC (.int 3)) af))))) [.val (cH ns),.val (.int a),.val (.int mo),.V6,.V6,.val (.int (m:Nat)),.V6,.V6,.V6,.V6,.V6,.V6]=some (.nx (st ns a mo m s .V6 .V6 .V6 .V6 .V6 .V6)) :=
  cm (d:=.int (s:Nat)) (by simp! [es.1,hs]) rfl
 have t7:aW 7 [] (cX af) (st ns a mo m s .V6 .V6 .V6 .V6 .V6 .V6)=some (.nx (st ns a mo m s .V6 (.own []) .V6 .V6 .V6 .V6)):=by
  simp only[aW,pN,cX,af,zA,jr,zB,yX,yW]
 have hms:m * s<=9:=wH m1.2 s1.2;have ah6:1<=m * s:=wH m1.1 s1.1;obtain⟨W,t8,e,h8,I⟩:=LQ (ns:=ns) (a:=a) (m:=m) (s:=s) hl XN (m * s) 0 (W:=[]) (x8:=.V6) (by lia) (mo:=mo) ⟨λw hw=>(by cases hw),List.Pairwise.nil,by decide,hm0⟩;rw[jE] at I;obtain⟨d8,rfl⟩:∃d,t8=.val d:=h8.elim (λz=>by lia) id;have afG:W.length<=9:=by have:=I.len;lia
 have tf:=Qr m1.2 s1.2 hms e;unfold lB at tf;have YL:W.length<=20:=by lia
 have wr:∀w∈W,(0<=w.1/\w.1 < m)/\(0<=w.2.1/\w.2.1 < s)/\1<=w.2.2/\w.2.2<=9:=λw hw=>by
  obtain⟨j,j0,jk,ea,b,c1,c2⟩:=I.mem w hw;have:=Rn XN Xu j0 (by rw[<- Int.natCast_mul];exact jk);rw[ea,b];exact⟨this.1,this.2,c1,by lia⟩
 have aeB:∀r∈nu W m,r.length<=1000:=λr hr=>by
  obtain⟨i,_,rfl⟩:=List.mem_map.mp hr;rw[Gw,zD];exact yD (xQ _ _) (by lia)
 have aeC:∀r∈gF W s,r.length<=1000:=λr hr=>by
  obtain⟨i,_,rfl⟩:=List.mem_map.mp hr;rw[ofT,zD];exact yD (xQ _ _) (by lia)
 obtain⟨Wn,om,pm⟩:=Cw (ns:=ns) (a:=a+24) (rows:=nu W m) hl aeB (by rw[nu,zD,zR];lia);obtain⟨WB,oy,py⟩:=Cw (ns:=ns) (a:=a+40) (rows:=gF W s) hl aeC (by rw[gF,zD,zR];lia);have lm:Wn.length<=1000:=by rw[fH pm,nu,zD,zR];lia
 have ly:WB.length<=1000:=by rw[fH py,gF,zD,zR];lia
 have t9:Dl.aR 9 [0,1,5,7] (ai 3 bY (aa (ae 0) (aa (f2 aD (ae 1) (fC (.int 24))) (aa (cf (aw 1 [7] (aE (aa (ae 5) af)) (fG 0) (λ_=>some true) (cf (aw 1 [0] (bo (ae 1)) (fG 0) (fB (f2 bz (f2 az (ae 0) (fC (.int 0))) (ae 1))) (f2 az (ae 0) (fC (.int 1))))))) af)))) (st ns a mo m s .V6 (.own (W.map au)) (.val d8) .V6 .V6 .V6)=some (.nx (st ns a mo m s .V6 (.val (.list (W.map au))) (.val d8) (.val (.list (Wn.map ah))) .V6 .V6)):=by
  refine (eE (ρ':=st ns a mo m s .V6 (.val (.list (W.map au))) (.val d8) .V6 .V6 .V6) (d:=.list (Wn.map ah)) ?_ rfl rfl ?_).trans rfl
  ·have q:=Nd (ρ:=aK (st ns a mo m s .V6 (.own (W.map au)) (.val d8) .V6 .V6 .V6)) (i5:=5) (i7:=7) YL (show m<=1000 by lia) rfl rfl;simp only[ai,aa,af,cf,q,zB,zA];simp! [om]
  ·simp only[st,bV,aK,zI,yV];rfl
 have t10:Dl.aR 10 [0,1,6,7] (ai 3 bY (aa (ae 0) (aa (f2 aD (ae 1) (fC (.int 40))) (aa (cf (aw 1 [7] (aE (aa (ae 6) af)) (fG 0) (λ_=>some true) (cf (aw 1 [0] (bo (ae 1)) (fG 0) (fB (f2 bz (f2 az (ae 0) (fC (.int 1))) (ae 1))) (f2 az (ae 0) (fC (.int 0))))))) af)))) (st ns a mo m s .V6 (.val (.list (W.map au))) (.val d8) (.val (.list (Wn.map ah))) .V6 .V6)=some (.nx (st ns a mo m s .V6 (.val (.list (W.map au))) (.val d8) (.val (.list (Wn.map ah))) (.val (.list (WB.map ah))) .V6)):=by
  refine (eE (ρ':=st ns a mo m s .V6 (.val (.list (W.map au))) (.val d8) (.val (.list (Wn.map ah))) .V6 .V6) (d:=.list (WB.map ah)) ?_ rfl ?_ ?_).trans rfl
  ·have q:=MN (ρ:=aK (st ns a mo m s .V6 (.val (.list (W.map au))) (.val d8) (.val (.list (Wn.map ah))) .V6 .V6)) (i5:=6) (i7:=7) YL (show s<=1000 by lia) rfl rfl;simp only[ai,aa,af,cf,q,zB,zA];simp! [oy]
  ·rfl
  ·simp only[st,bV,aK,zI,yV];rfl
 have t11:Dl.aR 11 [0,1,8,9] (ba cF (aa (cf (aw 2 [0,1] (bJ (aa (ae 9) af)) (j4 0 1) (λ_=>some true) (OS 56))) af)) (st ns a mo m s .V6 (.val (.list (W.map au))) (.val d8) (.val (.list (Wn.map ah))) (.val (.list (WB.map ah))) .V6)=some (.nx (st ns a mo m s .V6 (.val (.list (W.map au))) (.val d8) (.val (.list (Wn.map ah))) (.val (.list (WB.map ah))) (.val (.tuple ((lH (λk=>dr ns (a+56+((k:Nat):Int)) 4) 0 Wn).map bc))))):=by
  refine (eE (ρ':=st ns a mo m s .V6 (.val (.list (W.map au))) (.val d8) (.val (.list (Wn.map ah))) (.val (.list (WB.map ah))) .V6) (Dy hl lm rfl rfl rfl) rfl rfl ?_).trans rfl;simp only[st,bV,aK,zI,yV];rfl
 have t4:∀G:D,Dl.aR 4 [0,1,8,10] (ba cF (aa (cf (aw 2 [0,1] (bJ (aa (ae 10) af)) (j4 0 1) (λ_=>some true) (OS 60))) af)) (st ns a mo m s .V6 (.val (.list (W.map au))) (.val d8) (.val (.list (Wn.map ah))) (.val (.list (WB.map ah))) (.val G))=some (.nx (st ns a mo m s (.val (.tuple ((lH (λk=>dr ns (a+60+((k:Nat):Int)) 4) 0 WB).map bc))) (.val (.list (W.map au))) (.val d8) (.val (.list (Wn.map ah))) (.val (.list (WB.map ah))) (.val G))):=λG=>by
  refine (eE (ρ':=st ns a mo m s .V6 (.val (.list (W.map au))) (.val d8) (.val (.list (Wn.map ah))) (.val (.list (WB.map ah))) (.val G)) (Dy hl ly rfl rfl rfl) rfl rfl ?_).trans rfl;simp only[st,bV,aK,zI,yV];rfl
 refine⟨_,_,W,?_,Mt (f:=λk=>dr ns (a+56+((k:Nat):Int)) 4) (g:=λk=>dr ns (a+60+((k:Nat):Int)) 4) m1.1 (by lia) s1.1 (by lia) (λk=>?_) (λk=>?_) pm py wr I.ris (by lia),⟨by rw[js,fH pm,nu,zD,zR];lia,by rw[js,fH py,gF,zD,zR];lia,λw hw=>(by obtain⟨j,_,_,_,_,_,z⟩:=I.mem w hw;exact z),λp hp=>?_,λp hp=>?_,I.lem⟩⟩
 ·unfold OS at t11 t4;have tA:∀g,eI (eV (fB (f2 tx (ae 2) (fC (.int 3)))) (fB (f2 bz (ai 3 ao (aa (ae 0) (aa (f2 aD (ae 1) (fC (.int 64))) (aa (fC (.int 4)) af)))) (fC (.int 0))))) g dS [.val (cH ns),.val (.int a),.val (.int mo),.V6,.V6,.V6,.V6,.V6,.V6,.V6,.V6,.V6]=some (.nx [.val (cH ns),.val (.int a),.val (.int mo),.V6,.V6,.V6,.V6,.V6,.V6,.V6,.V6,.V6]):=λg=>by
   by_cases c1:3 < mo
   ·have c2:¬ dr ns (a+64) 4=0:=λz=>c ⟨c1,z⟩;simp! [eY,e64,c1,c2,cB,Zd,jR,iC,yP]
   ·simp! [eY,c1,Zd,iC,yP]
  refine aJ ?_;show eM [.val (cH ns),.val (.int a),.val (.int mo),.V6,.V6,.V6,.V6,.V6,.V6,.V6,.V6,.V6]=_;unfold eM;rw[ak (tA _),ak t5,ak t6,ak t7,ak tf,ak t9,ak t10,ak t11,ak (t4 _)];simp! [EZ,aH]
 ·have q:=iy (ns:=ns) (a+56+((k:Nat):Int)) 4 hl (by decide);exact⟨q.2.1,by lia⟩
 ·have q:=iy (ns:=ns) (a+60+((k:Nat):Int)) 4 hl (by decide);exact⟨q.2.1,by lia⟩
 ·obtain⟨i,hi⟩:=List.getElem?_of_mem hp;obtain⟨r,_,rfl⟩:=jw _ hi;have q:=iy (ns:=ns) (a+56+((0+i:Nat):Int)) 4 hl (by decide);simp only;lia
 ·obtain⟨i,hi⟩:=List.getElem?_of_mem hp;obtain⟨r,_,rfl⟩:=jw _ hi;have q:=iy (ns:=ns) (a+60+((0+i:Nat):Int)) 4 hl (by decide);simp only;lia
def Cq{ns:List Int}{a mo:Int}(hl:ns.length<=63)(hm0:0<=mo):∃G T W,cn [cH ns,.int a,.int mo]=some (aH G T W)/\Wd G T W/\U1 mo G T W:=by
 by_cases c:3 < mo/\dr ns (a+64) 4=0
 ·exact AC hl c.1 c.2
 ·exact zw hl hm0 c
section
def O6(h:Ja W):(W.map λw=>[w.1,w.2.1]).Pairwise λa b=>Dl.lexLt a b=true:=List.pairwise_map.mpr (h.imp λXf=>UG Xf)
def Jv(h:Ja W):(W.map λw=>[w.1,w.2.1]).Nodup:=(O6 h).imp λ{a b} Xf e=>by
 rw[e,dB] at Xf;cases Xf
def LD(h:Ja W)(hn:m.Nodup)(hm:∀r,r∈W.map (λw=>[w.1,w.2.1])↔r∈m):W.map (λw=>[w.1,w.2.1])=vn m :=
 Md ((List.perm_ext_iff_of_nodup (Jv h) hn).mpr hm) ((O6 h).imp λXf=>SY Xf)
def Wd.wok(h:Wd G T W):T5 (aH G T W)=true:=by
 have hP:(W.map au).map gD=W.map λw=>[w.1,w.2.1]:=by rw[zM];rfl
 have hpg:∀i j:Int,[i,j]∈W.map (λw=>[w.1,w.2.1])↔[i,j]∈oh 0 (G.map bc):=λi j=>by
  rw[tG];constructor
  ·intro hm;obtain⟨w,hw,e⟩:=List.mem_map.mp hm;simp only[vA,and_true] at e;have hr:=(h.wr w hw).1;obtain⟨p,hp⟩:∃p,G[i.toNat]?=some p:=⟨G[i.toNat]'(by lia),zK (by lia)⟩
   refine⟨i.toNat,bc p,by rw[zO,hp];rfl,by lia,?_⟩;rw[gW,(h.gl _ p hp).mem_iff,zz,show ((i.toNat:Nat):Int)=i by lia];exact hm
  ·rintro⟨m,p,hp,rfl,hj⟩;rw[zO] at hp;obtain⟨p',hp',rfl⟩:=Option.map_eq_some_iff.mp hp;rw[gW,(h.gl m p' hp').mem_iff,zz] at hj
   rwa [jE]
 have hpt:∀i j:Int,[i,j]∈W.map (λw=>[w.1,w.2.1])↔[j,i]∈oh 0 (T.map bc):=λi j=>by
  rw[tG];constructor
  ·intro hm;obtain⟨w,hw,e⟩:=List.mem_map.mp hm;simp only[vA,and_true] at e;have hr:=(h.wr w hw).2.1;obtain⟨p,hp⟩:∃p,T[j.toNat]?=some p:=⟨T[j.toNat]'(by lia),zK (by lia)⟩
   refine⟨j.toNat,bc p,by rw[zO,hp];rfl,by lia,?_⟩;rw[gW,(h.tl _ p hp).mem_iff,zq,show ((j.toNat:Nat):Int)=j by lia];exact hm
  ·rintro⟨m,p,hp,rfl,hj⟩;rw[zO] at hp;obtain⟨p',hp',rfl⟩:=Option.map_eq_some_iff.mp hp;rw[gW,(h.tl m p' hp').mem_iff,zq] at hj
   rwa [jE]
 have two:∀ {r:List Int},r∈W.map (λw=>[w.1,w.2.1])->∃i j,r=[i,j]:=λhr=>by
  obtain⟨w,_,rfl⟩:=List.mem_map.mp hr;exact⟨_,_,rfl⟩
 have ng:∀ (L:List Pl),(∀p∈L,p.2.Nodup)->(oh 0 (L.map bc)).Nodup:=λL hL=>yu λp hp=>by
  obtain⟨p',hp',rfl⟩:=List.mem_map.mp hp;rw[gW];exact hL p' hp'
 have e1:W.map (λw=>[w.1,w.2.1])=vn (oh 0 (G.map bc)):=LD h.wp (ng G λp hp=>by
   obtain⟨i,hi,e⟩:=qS hp;exact (h.gl i p (by rw[zK hi,e])).nodup_iff.mpr (qp h.wp i)) λr=>⟨λhr=>by
   obtain⟨i,j,rfl⟩:=two hr;exact (hpg i j).mp hr,λhr=>by
   obtain⟨i,j,rfl⟩:=mY r hr;exact (hpg i j).mpr hr⟩
 have e2:W.map (λw=>[w.1,w.2.1])=vn ((oh 0 (T.map bc)).map List.reverse):=LD h.wp (by
   exact List.pairwise_map.mpr (List.Pairwise.imp (λ{a b} Wz e=>Wz (List.reverse_inj.mp e)) (ng T λp hp=>by
    obtain⟨i,hi,e⟩:=qS hp;exact (h.tl i p (by rw[zK hi,e])).nodup_iff.mpr (qu h.wp i)))) λr=>⟨λhr=>by
   obtain⟨i,j,rfl⟩:=two hr;exact List.mem_map.mpr ⟨[j,i],(hpt i j).mp hr,rfl⟩,λhr=>by
   obtain⟨r',W9,rfl⟩:=List.mem_map.mp hr;obtain⟨i,j,rfl⟩:=mY r' W9;exact (hpt j i).mpr W9⟩
 have hw:(W.map au).all (lr G.length T.length)=true:=by
  rw[xH];intro x hx;obtain⟨w,hw,rfl⟩:=List.mem_map.mp hx;exact IH (h.wr w hw)
 have hs:∀ {L:List Pl},1<=L.length->L.length<=4->qw (.tuple (L.map bc))=true:=λ{L} a b=>by
  simp only[qw,long,zD,zF,zJ];lia
 have h3:long 3 3 (aH G T W)=true:=rfl;have hg:=h.gok;have ht:=h.tok;unfold T5 EO;rw[h3,jM];simp only[aH,dz,wN,wQ,hP,<- e1,<- e2,jR,Bool.and_true,kj,hs h.g1 h.g4,hs h.t1 h.t4,zD,hg,ht,hw,Pm]
end
def sI(b:Bool):Int:=if b then 1 else 0
def aN(b:Bool)(w:Wy):Int:=if b then w.2.1 else w.1
def bP(b:Bool)(w:Wy):Int:=aN (!b) w
def aP(b:Bool)(G T:List Pl):List Pl:=if b then T else G
def d9(b:Bool)(G T:List Pl)(W:List Wy):az (aH G T W) (.int (sI b))=some (.tuple ((aP b G T).map bc)):=by cases b<;>rfl
def tj(G T:List Pl)(W:List Wy):az (aH G T W) (.int 2)=some (.tuple (W.map au)):=rfl
def kq(b:Bool)(w:Wy):az (au w) (.int (sI b))=some (.int (aN b w)):=by cases b<;>rfl
def GO(b:Bool)(w:Wy):az (au w) (.int (1 - sI b))=some (.int (bP b w)):=by cases b<;>rfl
def td(w:Wy):az (au w) (.int 2)=some (.int w.2.2):=rfl
def Ow(p:Pl):az (bc p) (.int 1)=some (ah p.2):=rfl
def Ep(h:ds[i]?=some d):az (.tuple ds) (.int ((i:Nat):Int))=some d:=by
 show Bv ds (i:Nat)=_;exact FP h
def l5{l:List α}(h:l[i]?=some x):az (.tuple (l.map f)) (.int ((i:Nat):Int))=some (f x):=Ep (by rw[zO,h];rfl)
def T3(b:Bool)(W:List Wy)(p:Int):List Int:=(W.filter λw=>decide (aN b w=p)).map (bP b)
def Wd.lik{G T:List Pl}{W:List Wy}(h:Wd G T W){b:Bool}{i:Nat}{p:Pl}(e:(aP b G T)[i]?=some p):p.2.Perm (T3 b W i):=by
 cases b
 ·exact h.gl i p e
 ·exact h.tl i p e
def Wd.nod(h:Wd G T W)(b:Bool)(i:Int):(T3 b W i).Nodup:=by
 cases b
 ·exact qp h.wp i
 ·exact qu h.wp i
def tP{tt:Dl.Env->Option Bool}{te:Dl.Env->Option D}{r:List (Option D)}{p:Nat->D->Bool}{h:Nat->D->D}:∀ {ds:List D}{k:Nat},
  (∀i d,ds[i]?=some d->tt (some (.int ((k+i:Nat):Int))::some d::r)=some (p (k+i) d)/\(p (k+i) d=true->te (some (.int ((k+i:Nat):Int))::some d::r)=some (h (k+i) d))) ->
  dU (j4 0 1) tt te (none::none::r) (bK k ds)=some (((ds.zipIdx k).filter λq=>p q.2 q.1).map λq=>h q.2 q.1)
 | [],k,_=>rfl
 | d::ds,k,hh=>by
  obtain⟨h1,h2⟩:=hh 0 d rfl;have ih:=tP (ds:=ds) (k:=k+1) λi x hx=>by
   have:=hh (i+1) x (by simpa using hx);rw[show k+1+i=k+(i+1) by lia];exact this
  have hg:j4 0 1 (none::none::r) (.tuple [.int ((k:Nat):Int),d])=some (some (.int ((k:Nat):Int))::some d::r):=by
   simp only[j4,isFree,xR,yZ,qH,Option.isNone_none,jQ,xI,yW,yX]
  rw[bK,dU,hg,List.zipIdx_cons];simp only[Nat.add_zero] at h1 h2;simp only[zA,h1];cases hp:p k d with
  | true=>simp[h2 hp,ih,hp]
  | false=>simp[ih,hp]
def Ij{cs:List Nat}{fi:Dl.Env->Option (List D)}{tt:Dl.Env->Option Bool}{te:Dl.Env->Option D}{ρ:Dl.Env}{ds:List D}{p:Nat->D->Bool}{h:Nat->D->D}(Xp:fi ρ=some (bK 0 ds))(hl:ds.length<=1000)
  (hh:∀i d,ds[i]?=some d->tt (some (.int ((i:Nat):Int))::some d::cs.map λj=>(ρ[j]?).getD none)=some (p i d)/\(p i d=true->te (some (.int ((i:Nat):Int))::some d::cs.map λj=>(ρ[j]?).getD none)=some (h i d))) :
  aw 2 cs fi (j4 0 1) tt te ρ=some ((ds.zipIdx.filter λq=>p q.2 q.1).map λq=>h q.2 q.1):=by
 have:=tP (tt:=tt) (te:=te) (r:=cs.map λj=>(ρ[j]?).getD none) (p:=p) (h:=h) (ds:=ds) (k:=0) (by simpa using hh);simp only[aw,Xp,zA,fv,List.replicate,xG,xP,this];refine bU ?_;rw[zD];refine yD (xQ _ _) ?_;rw[List.length_zipIdx];lia
def nH(f:α->Int):∀ {l m:List α},l.Perm m->(l.Pairwise λa b=>f a<=f b)->(m.Pairwise λa b=>f a < f b)->l=m
 | l,[],hp,_,_=>hp.eq_nil
 | [],x::m,hp,_,_=>absurd hp.symm.eq_nil (by simp)
 | y::l,x::m,hp,h1,h2=>by
  rw[List.pairwise_cons] at h1 h2;have e:y=x:=by
   have hx:x∈y::l:=hp.mem_iff.mpr zE;rcases List.mem_cons.mp hx with z|hx
   ·exact z.symm
   ·have hy:y∈x::m:=hp.mem_iff.mp zE;rcases List.mem_cons.mp hy with z|hy
    ·exact z
    ·have:=h1.1 x hx;have:=h2.1 y hy;lia
  subst e;rw[nH f ((List.perm_cons y).mp hp) h1.2 h2.2]
def D2(z:Nat->Int)(l:List α)(d:α)(f:α->Int)(h:∀i,i < l.length->z i=f (l.getD i d)):(Bw z l d).Pairwise λa b=>f a<=f b:=by
 unfold Bw;split
 ·rename_i hl
  match l,hl with
  | [],_=>exact List.Pairwise.nil
  | [a],_=>exact vN _ _
 ·rename_i hl;obtain⟨hp,hs⟩:=SP.k9 (z:=z) (n:=l.length) (by lia);rw[jF] at hs ⊢;refine hs.imp_of_mem λ{i j} hi hj Wx=>?_;have Xt:i < l.length:=by have:=hp.mem_iff.mp hi;simpa using this
  have hj':j < l.length:=by have:=hp.mem_iff.mp hj;simpa using this
  rw[<- h i Xt,<- h j hj'];exact Wx
def aC(W:List Wy)(i:Nat):Wy:=W.getD i (0,0,0)
def n5(hk:k < W.length):W[k]=aC W k:=by simp[aC,hk]
def pL(hk:k < W.length):W[k]?=some (aC W k):=by rw[zK hk,n5 hk]
def own(b:Bool)(W:List Wy)(p:Int):List Nat:=(List.range W.length).filter λi=>decide (aN b (aC W i)=p)
def p9(b:Bool)(W:List Wy)(p o:Int):Nat:=W.findIdx λw=>decide (aN b w=p)&&decide (bP b w=o)
def fX(b:Bool)(W:List Wy)(p:Int)(L:List Int):List Nat:=L.map (p9 b W p)
def dv:i∈own b W p↔i < W.length/\aN b (aC W i)=p:=by simp[own]
def map_range(d:α)(f:α->β)(l:List α):(List.range l.length).map (λi=>f (l.getD i d))=l.map f:=by
 apply jI
 ·simp
 ·intro i h1 h2;have:i < l.length:=by simpa using h2
  simp[this]
def AG(d:α)(q:α->Bool):∀ (l:List α),((List.range l.length).filter λi=>q (l.getD i d)).map (λi=>l.getD i d)=l.filter q:=by
 intro l;have e:l=(List.range l.length).map λi=>l.getD i d:=by
  have:=map_range d (λx=>x) l;simp at this;simpa using this.symm
 conv=>rhs;rw[e]
 rw[kJ];rfl
def tI(b:Bool)(W:List Wy)(p:Int):(own b W p).map (λi=>bP b (aC W i))=T3 b W p:=by
 unfold own T3 aC;rw[<- AG (0,0,0) (λw=>decide (aN b w=p)) W,zM];rfl
def GP(h:Ja W)(hi:i < W.length)(hj:j < W.length)(h1:(aC W i).1=(aC W j).1)(h2:(aC W i).2.1=(aC W j).2.1):i=j:=by
 have e:∀k,k < W.length->W[k]?=some (aC W k):=λk hk=>by simp[aC,hk]
 rcases Nat.lt_trichotomy i j with z|z|z
 ·have:=List.pairwise_iff_getElem.mp h i j hi hj z;have a:=e i hi;have b:=e j hj;rw[zK hi] at a;rw[zK hj] at b;rw[xE a,xE b] at this;rcases this with z|z<;>lia
 ·exact z
 ·have:=List.pairwise_iff_getElem.mp h j i hj hi z;have a:=e i hi;have b:=e j hj;rw[zK hi] at a;rw[zK hj] at b;rw[xE a,xE b] at this;rcases this with z|z<;>lia
def Mh(h:Ja W)(hi:i < W.length)(hj:j < W.length)(h1:aN b (aC W i)=aN b (aC W j))(h2:bP b (aC W i)=bP b (aC W j)):i=j:=by
 cases b
 ·exact GP h hi hj h1 h2
 ·exact GP h hi hj h2 h1
def zt(h:Ja W)(hi:i∈own b W p):p9 b W p (bP b (aC W i))=i:=by
 obtain⟨hl,he⟩:=dv.mp hi;have hw:W[i]=aC W i:=by simp[aC,hl]
 unfold p9;have Wg:W.findIdx (λw=>decide (aN b w=p)&&decide (bP b w=bP b (aC W i))) < W.length:=by
  apply kP;exact⟨W[i],qB _,by rw[hw];simp[he]⟩
 have hq:=wM (w:=Wg);rw[zF,zJ,zJ] at hq;rw[n5 Wg] at hq;exact Mh h Wg hl (by rw[hq.1,he]) hq.2
def dP{G T:List Pl}{W:List Wy}(h:Wd G T W){b:Bool}{i:Nat}(e:(aP b G T)[i]?=some p):(fX b W i p.2).Perm (own b W i):=by
 have h1:=(h.lik e).map (p9 b W i);rw[<- tI b W i,zM] at h1;have e2:(own b W i).map (p9 b W i ∘ λj=>bP b (aC W j))=own b W i:=by
  conv=>rhs;rw[<- List.map_id (own b W i)]
  exact yI λj hj=>zt h.wp hj
 rw[e2] at h1;exact h1
def iH{G T:List Pl}{W:List Wy}(h:Wd G T W){b:Bool}{i:Nat}{p:Pl}(e:(aP b G T)[i]?=some p){o:Int}(ho:o∈p.2):p9 b W i o < W.length/\aN b (aC W (p9 b W i o))=i/\bP b (aC W (p9 b W i o))=o:=by
 have hm:=(h.lik e).mem_iff.mp ho;rw[<- tI b W i] at hm;obtain⟨j,hj,rfl⟩:=List.mem_map.mp hm;rw[zt h.wp hj];obtain⟨h1,h2⟩:=dv.mp hj;exact⟨h1,h2,rfl⟩
def kD(b:Bool)(W:List Wy)(L:List Int)(d:D):Int:=(L.findIdx λo=>decide (o=bP b (aC W (mH d).toNat)):Nat)
def mP:∀ {L:List Int}{x:Int},x∈L->CZ x L=some (L.findIdx λo=>decide (o=x))
 | [],x,h=>by cases h
 | o::L,x,h=>by
  unfold CZ;by_cases e:o=x
  ·simp[e,vH]
  ·rw[yO e];have hx:x∈L:=(List.mem_cons.mp h).resolve_left λz=>e z.symm;rw[mP hx];simp[vH,e]
def Kn{G T:List Pl}{W:List Wy}(h:Wd G T W){b:Bool}{i:Nat}{p:Pl}(e:(aP b G T)[i]?=some p)(z:Nat->Int)(hz:∀j,j < (own b W i).length->z j=kD b W p.2 (((own b W i).map λn=>PyData.int ((n:Nat):Int)).getD j .none)) :
  Bw z ((own b W i).map λn=>PyData.int ((n:Nat):Int)) .none=(fX b W i p.2).map λn=>PyData.int ((n:Nat):Int):=by
 refine nH (kD b W p.2) ((oR _ _ _).trans ((dP h e).symm.map _)) (D2 z _ _ _ λj hj=>hz j (by simpa using hj)) ?_;have hn:p.2.Nodup:=(h.lik e).nodup_iff.mpr (h.nod b i);unfold fX;rw[zM,jF];have key:∀k (hk:k < p.2.length),kD b W p.2 (PyData.int ((p9 b W i p.2[k]:Nat):Int))=(k:Nat):=λk hk=>by
  obtain⟨_,_,e3⟩:=iH h e (qB hk);unfold kD;simp only[mH,yG,e3]
  congr 1
  rw[List.findIdx_eq (by exact hk)];refine⟨by simp,λj hj=>?_⟩;have:=List.pairwise_iff_getElem.mp hn j k (by lia) hk hj;simpa using this
 refine List.pairwise_iff_getElem.mpr λj k hj hk Yv=>?_;show kD b W p.2 (PyData.int ((p9 b W i p.2[j]:Nat):Int)) < kD b W p.2 (PyData.int ((p9 b W i p.2[k]:Nat):Int));rw[key j hj,key k hk];lia
abbrev nD(n:Nat):D:=.int ((n:Nat):Int)
def zd:∀ {ds:List D},(∀d∈ds,te (ρ.set 0 (some d))=some (h d))->ie te ρ ds=some (ds.map h)
 | [],_=>rfl
 | d::ds,hh=>by
  unfold ie;rw[hh d zE,zA,zd λx hx=>hh x (zC _ hx)];rfl
def tv(b:Bool)(W:List Wy)(p:Int):(own b W p).length<=W.length:=by
 unfold own;refine yD (xQ _ _) ?_;rw[zR];exact yN _
def D3(b:Bool)(W:List Wy)(p:Int):(((W.map au).zipIdx.filter λq=>decide (aN b (aC W q.2)=p)).map λq=>nD q.2)=(own b W p).map nD:=by
 have e:(W.map au).zipIdx=(List.range W.length).map λi=>(au (aC W i),i):=by
  apply jI
  ·simp
  ·intro i h1 h2;have:i < W.length:=by simpa using h2
   simp[n5 this]
 rw[e,kJ,zM];rfl
def ye(h:Wd G T W)(e:(aP b G T)[i]?=some p):dg [aH G T W,.int (sI b),nD i]=some (.list ((fX b W i p.2).map nD)):=by
 have hw:=h.wl;have ep:az (.tuple ((aP b G T).map bc)) (nD i)=some (bc p):=l5 e;have hl:=tv b W i;have t3:Dl.aR 3 [0] (f2 az (ae 0) (fC (.int 2))) [.val (aH G T W),.val (.int (sI b)),.val (nD i),.V6,.V6,.V6]=some (.nx [.val (aH G T W),.val (.int (sI b)),.val (nD i),.val (.tuple (W.map au)),.V6,.V6]) :=
  eE (d:=.tuple (W.map au)) rfl rfl rfl rfl
 have t4:Dl.aR 4 [0,1,2] (f2 az (f2 az (f2 az (ae 0) (ae 1)) (ae 2)) (fC (.int 1))) [.val (aH G T W),.val (.int (sI b)),.val (nD i),.val (.tuple (W.map au)),.V6,.V6]=some (.nx [.val (aH G T W),.val (.int (sI b)),.val (nD i),.val (.tuple (W.map au)),.val (ah p.2),.V6]):=by
  refine eE (d:=ah p.2) ?_ rfl rfl rfl;rw[jo (a:=bc p) (b:=.int 1) ?_ rfl,Ow];rw[jo (a:=.tuple ((aP b G T).map bc)) (b:=nD i) ?_ rfl,ep];rw[jo (a:=aH G T W) (b:=.int (sI b)) rfl rfl,d9]
 have c5:aw 2 [1,2] (bJ (aa (ae 3) af)) (j4 0 1) (fB (f2 bz (f2 az (ae 1) (ae 2)) (ae 3))) (ae 0) [some (aH G T W),some (.int (sI b)),some (nD i),some (.tuple (W.map au)),some (ah p.2),none]=some ((own b W i).map nD):=by
  rw[Ij (ds:=W.map au) (p:=λj _=>decide (aN b (aC W j)=i)) (h:=λj _=>nD j) rfl (by rw[zD];lia) λj d hd=>?_,D3];rw[zO] at hd;obtain⟨w,hw',rfl⟩:=Dl.ag hd;have hj:j < W.length:=(List.getElem?_eq_some_iff.mp hw').1;rw[pL hj] at hw';cases hw';refine⟨?_,λ_=>rfl⟩;show fB (f2 bz (f2 az (ae 1) (ae 2)) (ae 3)) [some (nD j),some (au (aC W j)),some (.int (sI b)),some (nD i)]=_;simp only[fB];rw[jo (a:=.int (aN b (aC W j))) (b:=nD i) (by rw[jo (a:=au (aC W j)) (b:=.int (sI b)) rfl rfl,kq]) rfl,cB];rfl
 have t5:aW 5 [1,2,3] (aw 2 [1,2] (bJ (aa (ae 3) af)) (j4 0 1) (fB (f2 bz (f2 az (ae 1) (ae 2)) (ae 3))) (ae 0)) [.val (aH G T W),.val (.int (sI b)),.val (nD i),.val (.tuple (W.map au)),.val (ah p.2),.V6]=some (.nx [.val (aH G T W),.val (.int (sI b)),.val (nD i),.val (.tuple (W.map au)),.val (ah p.2),.own ((own b W i).map nD)]):=by
  have hh:hand [1,2,3] 0 [Slot.val (aH G T W),.val (.int (sI b)),.val (nD i),.val (.tuple (W.map au)),.val (ah p.2),.V6]=[Slot.val (aH G T W),.val (.int (sI b)),.val (nD i),.val (.tuple (W.map au)),.val (ah p.2),.V6]:=rfl;simp only[aW,hh,bV,zI,yV,Slot.WX,c5,zB,yX,yW]
 have hk:ie (f2 iT (ae 3) (f2 az (f2 az (ae 2) (ae 0)) (f2 Dl.dJ (fC (.int 1)) (ae 1)))) [none,some (.int (sI b)),some (.tuple (W.map au)),some (ah p.2)] ((own b W i).map nD)=some (((own b W i).map nD).map λd=>.int (kD b W p.2 d)):=by
  refine zd λd hd=>?_;obtain⟨j,hj,rfl⟩:=List.mem_map.mp hd;obtain⟨hjl,hje⟩:=dv.mp hj;show f2 iT (ae 3) (f2 az (f2 az (ae 2) (ae 0)) (f2 Dl.dJ (fC (.int 1)) (ae 1))) [some (nD j),some (.int (sI b)),some (.tuple (W.map au)),some (ah p.2)]=_;have ew:az (.tuple (W.map au)) (nD j)=some (au (aC W j)):=l5 (pL hjl);rw[jo (a:=ah p.2) (b:=.int (bP b (aC W j))) rfl ?_]
  ·have hm:bP b (aC W j)∈p.2:=(h.lik e).mem_iff.mpr (by rw[<- tI];exact List.mem_map.mpr ⟨j,hj,rfl⟩);simp only[iT,ah,bS,zA,mP hm,zB,kD,mH,yG]
   all_goals first|rfl|(congr 3;funext o;congr)
  ·rw[jo (a:=au (aC W j)) (b:=.int (1 - sI b)) ?_ ?_,GO]
   ·rw[jo (a:=.tuple (W.map au)) (b:=nD j) rfl rfl,ew]
   ·rw[jo (a:=.int 1) (b:=.int (sI b)) rfl rfl,lS]
 have hi:intsOf (((own b W i).map nD).map λd=>PyData.int (kD b W p.2 d))=some (((own b W i).map nD).map (kD b W p.2)):=by
  rw[show (((own b W i).map nD).map λd=>PyData.int (kD b W p.2 d))=(((own b W i).map nD).map (kD b W p.2)).map PyData.int by simp only[zM];rfl,bS]
 have t6:aI (cf (rf [1,3,4] (ae 5) (f2 iT (ae 3) (f2 az (f2 az (ae 2) (ae 0)) (f2 Dl.dJ (fC (.int 1)) (ae 1)))))) [.val (aH G T W),.val (.int (sI b)),.val (nD i),.val (.tuple (W.map au)),.val (ah p.2),.own ((own b W i).map nD)]=some (.rt (.list ((fX b W i p.2).map nD))):=by
  have es:rf [1,3,4] (ae 5) (f2 iT (ae 3) (f2 az (f2 az (ae 2) (ae 0)) (f2 Dl.dJ (fC (.int 1)) (ae 1)))) [some (aH G T W),some (.int (sI b)),some (nD i),some (.tuple (W.map au)),some (ah p.2),some (.list ((own b W i).map nD))]=some ((fX b W i p.2).map nD):=by
   unfold rf;show (ie _ [none,some (.int (sI b)),some (.tuple (W.map au)),some (ah p.2)] ((own b W i).map nD)).bind _=_;rw[hk,zA,hi,zA,yM (by rw[zD];lia),Kn h e _ λj hj=>?_];simp[hj]
  simp only[aI,aK,zI,yV,AY,Bm,cf,es,zB]
 refine aJ ?_;show mQ [.val (aH G T W),.val (.int (sI b)),.val (nD i),.V6,.V6,.V6]=_;unfold mQ;rw[ak t3,ak t4,ak t5,t6]
local macro_rules|`(tactic| dsimp! [$ts,*])=>`(tactic| simp only[ae,fC,f1,f2,aa,af,ai,ba,m6,bo,fE,cf,fB,gB,bH,eV,E6,bJ,aK,bV,AY,Bm,F8,Gh,Ge,Gu,zI,yV,xR,yZ,zA,zB,qH,zL,xM,Nat.reduceAdd,jE,reduceIte,yX,yW,$ts,*])
def l8(R:S->ar->Prop)(f:α->D)(st:S->α->S):∀ {l:List α}{s:S}{ρ:ar},
  (∀s ρ x,x∈l->R s ρ->∃ρ1 Xw,tgt ρ (f x)=some ρ1/\gb ρ1=some (.nx Xw)/\R (st s x) Xw)->R s ρ->∃ρ',cE tgt gb (l.map f) ρ=some (.nx ρ')/\R (l.foldl st s) ρ'
 | [],s,ρ,_,h=>⟨ρ,rfl,h⟩
 | d::ds,s,ρ,hh,h=>by
  obtain⟨ρ1,Xw,e1,e2,h2⟩:=hh s ρ d zE h;obtain⟨ρ',e3,h3⟩:=l8 R f st (λs ρ x hx=>hh s ρ x (zC _ hx)) h2;refine⟨ρ',?_,h3⟩;rw[zI,cE,e1,zA,e2];exact e3
def g9(R:ar->Prop)(f:α->D)(q:α->Bool)(out:α->D):∀ {l:List α}{ρ:ar},
  (∀ρ x,x∈l->R ρ->∃ρ1,tgt ρ (f x)=some ρ1/\(q x=true->gb ρ1=some (.rt (out x)))/\(q x=false->∃Xw,gb ρ1=some (.nx Xw)/\R Xw))->R ρ ->
  (∀x,l.find? q=some x->cE tgt gb (l.map f) ρ=some (.rt (out x)))/\(l.find? q=none->∃ρ',cE tgt gb (l.map f) ρ=some (.nx ρ')/\R ρ')
 | [],ρ,_,h=>⟨λx hx=>(by cases hx),λ_=>⟨ρ,rfl,h⟩⟩
 | x::l,ρ,hh,h=>by
  obtain⟨ρ1,e1,e2,e3⟩:=hh ρ x zE h;rw[zI,cE,e1,zA];cases hq:q x with
  | true =>
   rw[vV (by simpa using hq),e2 hq];exact⟨λy hy=>(by cases hy;rfl),λhn=>(by cases hn)⟩
  | false =>
   obtain⟨Xw,e4,h2⟩:=e3 hq;rw[kO (by simp[hq]),e4];exact g9 R f q out (λρ x hx=>hh ρ x (zC _ hx)) h2
def bF(h:cE tgt gb ds ρ1=o)(hi:fi (bV ρ1)=some ds)(hh:hand fz 0 ρ=ρ1):cq fz fi tgt gb ρ=o:=by
 simp only[cq,hh,hi,zA,h]
def FX(hh:hand fz 0 ρ=ρ')(hf:f (bV ρ')=some ds):aW i fz f ρ=some (.nx (ρ'.set i (.own ds))):=by
 simp only[aW,hh,hf,zB]
def gZ(hf:f (bV ρ)=some ds)(hh:hand fz 0 ρ=ρ):aW i fz f ρ=some (.nx (ρ.set i (.own ds))):=FX hh hf
def nV(hh:hand fz 0 ρ=ρ')(hA:f (aK ρ)=some d)(hF:f (bV ρ')=some d)(hs:Dl.sT d=false)(hr:gC d=false\/ρ'=ρ:=by first|exact .inr rfl|exact .inl rfl):Dl.aR i fz f ρ=some (.nx (ρ'.set i (.val d))):=by
 rcases hr with hr|hr
 ·simp only[Dl.aR,hA,zA,hs,yP,qQ,hh,hF,zB,hr]
 ·subst hr;simp only[Dl.aR,hA,zA,hs,yP,qQ,hh,hF,zB,ite_self]
def call_of(h:m ds=some d)(hf:fs ρ=some ds)(hn:ds.length=n):ai n m fs ρ=some d:=by
 unfold ai;rw[hf,zA,yM hn,h]
def cons_of(h:f ρ=some d)(hs:fs ρ=some ds):aa f fs ρ=some (d::ds):=by
 unfold aa;rw[h,hs];rfl
def aL(hf:f (aK ρ)=some d):aI f ρ=some (.rt d):=by
 simp only[aI,hf,zB]
def hV(hf:f (aK ρ)=some d):fR f ρ=some (.nx ρ):=by
 simp only[fR,hf,zB]
def bj(h:t (aK ρ)=some false):eI t g dS ρ=some (.nx ρ):=by
 simp[eI,h,dS]
def bW(h:t (aK ρ)=some true):eI t g g2 ρ=g ρ:=by
 simp[eI,h]
def eZ(h:g1 ρ=some (.rt d)):ay g1 g2 ρ=some (.rt d):=by
 simp only[ay,h,zA]
def lp(cont:S->Bool)(st:S->S):Nat->S->S
 | 0,s=>s
 | n+1,s=>if cont s=true then lp cont st n (st s) else s
def Bs{off:List Int}(h:i < off.length):az (ah off) (nD i)=some (.int (off.getD i 0)):=l5 (f:=PyData.int) (l:=off) (by simp[h])
def ED(h:i < W.length):az (.tuple (W.map au)) (nD i)=some (au (aC W i)):=l5 (pL h)
def PX(l:List D):cF [.list l]=some (.tuple l):=rfl
def N8(l:List D):aZ [.tuple l]=some (nD l.length):=rfl
def Bc(l:List Int):aZ [ah l]=some (nD l.length):=by
 show some (PyData.int ((l.map PyData.int).length:Nat))=_;rw[zD]
def HA(h:n<=1000):nX [nD n]=some ((List.range n).map nD):=by
 rw[B7 (oP h),yG]
def gu(h:fs ρ=some [nD n])(hn:n<=1000):aE fs ρ=some ((List.range n).map nD):=by
 unfold aE;rw[h,zA,HA hn]
def sub_int(i j:Int):Dl.dJ (.int i) (.int j)=some (.int (i - j)):=lS i j
def K8(h1:Bu k=true)(h2:ds.length * k.toNat<=sizeLine):GN ds (.int k)=some (List.replicate k.toNat ds).flatten:=by
 simp only[GN];rw[yM (And.intro h1 h2)]
def O8:∀n,(List.replicate n [PyData.int 0]).flatten=(List.replicate n (0:Int)).map PyData.int
 | 0=>rfl
 | n+1=>by rw[xF,qN,O8 n,xF];rfl
def cV(W:List Wy)(off:List Int)(left:Int)(i:Nat):Int:=min (min (off.getD i 0) (aC W i).2.2) left
def sV(W:List Wy)(off:List Int)(s:Int×List Int)(i:Nat):Int×List Int:=(s.1 - cV W off s.1 i,s.2.set i (cV W off s.1 i))
def DL(W:List Wy)(off:List Int)(amt:Int)(is:List Nat):List Int:=(is.foldl (sV W off) (amt,List.replicate W.length 0)).2
def FT(W:List Wy)(off:List Int):∀ (is:List Nat) (s:Int×List Int),(is.foldl (sV W off) s).2.length=s.2.length
 | [],s=>rfl
 | i::is,s=>by rw[yJ,FT W off is];simp[sV]
def Ba(W:List Wy)(off:List Int)(amt:Int)(is:List Nat):(DL W off amt is).length=W.length:=by rw[DL,FT];simp
def TN:ar->Option Out:=eI (eV (fB (f2 bz (f2 az (f2 az (f2 az (ae 0) (fC (.int 2))) (ae 7)) (ae 1)) (ae 2))) (fB (f2 bz (f2 az (f2 az (f2 az (ae 0) (fC (.int 2))) (ae 7)) (f2 Dl.dJ (fC (.int 1)) (ae 1))) (ae 6)))) (ay (Px 4 [0,3,5,7] (ae 7) (ba UL (aa (ae 5) (aa (f2 az (ae 3) (ae 7)) (aa (f2 az (f2 az (f2 az (ae 0) (fC (.int 2))) (ae 7)) (fC (.int 2))) af))))) (Dl.aR 5 [4,5,7] (f2 Dl.dJ (ae 5) (f2 az (ae 4) (ae 7))))) dS
def bR(b:Bool)(G T:List Pl)(i:Nat):Pl:=(aP b G T).getD i (0,[])
def G6(b:Bool)(G T:List Pl)(W:List Wy)(off s:List Int)(i:Nat):List Int:=List.zipWith (·+·) s (DL W off (bR b G T i).1 (fX b W i (bR b G T i).2))
def fu(b:Bool)(G T:List Pl)(W:List Wy)(off:List Int):List Int:=(List.range (aP b G T).length).foldl (G6 b G T W off) (List.replicate W.length 0)
def ik(h:i < (aP b G T).length):(aP b G T)[i]?=some (bR b G T i):=by simp[bR,h]
def zp{off:List Int}(h:s.length=W.length):(G6 b G T W off s i).length=W.length:=by
 unfold G6;rw[List.length_zipWith,Ba,h,Nat.min_self]
def mI(R:S->Prop):∀ {l:List α}{s:S},(∀s x,x∈l->R s->R (f s x))->R s->R (l.foldl f s)
 | [],s,_,h=>h
 | x::l,s,hh,h=>by
  rw[yJ];exact mI (l:=l) R (λs y hy=>hh s y (zC _ hy)) (hh s x zE h)
def Gi(b:Bool)(G T:List Pl)(W:List Wy)(off:List Int):(fu b G T W off).length=W.length :=
 mI (λs:List Int=>s.length=W.length) (λs i _ h=>zp h) (by simp)
def Wd.pl(h:Wd G T W)(b:Bool):(aP b G T).length<=4:=by
 cases b
 ·exact h.g4
 ·exact h.t4
def Oa(h:(xs++ys).length<=4000):Dl.aD (.tuple xs) (.tuple ys)=some (.tuple (xs++ys)):=by
 simp only[Dl.aD,xu,Nk,bU h,zB,Option.none_or,Option.some_or]
def E8(h:f ρ=some d):aA (aa f af) ρ=some (.tuple [d]):=by
 simp only[aA,aa,af,h,zA,zB];rw[bU (by simp),zB]
def SU(h:f ρ=some d)(h2:g ρ=some e):aA (aa f (aa g af)) ρ=some (.tuple [d,e]):=by
 simp only[aA,aa,af,h,h2,zA,zB];rw[bU (by simp),zB]
def aq(h:g a b=some c)(ha:fa ρ=some a)(hb:fb ρ=some b):f2 g fa fb ρ=some c:=by rw[jo ha hb,h]
def m5(W:List Wy):List Int:=W.map λw=>w.2.2
def GD(W:List Wy):(m5 W).length=W.length:=by simp[m5]
def vg(G T:List Pl)(W:List Wy)(c:List Int):List Int:=fu true G T W (fu false G T W c)
def qR(G T:List Pl)(W:List Wy)(c:List Int)(k:Nat):Bool:=decide ((vg G T W c).getD k 0 < (fu false G T W c).getD k 0)
def DJ(G T:List Pl)(W:List Wy)(c:List Int):Option (Nat×Int):=((List.range W.length).find? (qR G T W c)).map λk=>(k,(vg G T W c).getD k 0)
def enum_zip:∀ (ds:List D) (k:Nat),bK k ds=(ds.zipIdx k).map λq=>.tuple [nD q.2,q.1]
 | [],k=>rfl
 | d::ds,k=>by rw[bK,enum_zip ds (k+1),List.zipIdx_cons];rfl
def dw(l:List Int)(k:Nat)(v:Int)(i:Nat):(l.set k v).getD i 0=if k=i/\i < l.length then v else l.getD i 0:=by
 simp only[zG,xJ];by_cases h:k=i
 ·subst h;by_cases h2:k < l.length
  ·simp[h2]
  ·simp[h2]
 ·simp[h]
def Dj{a b:List Int}{i:Nat}(ha:i < a.length)(hb:i < b.length):(List.zipWith (·+·) a b).getD i 0=a.getD i 0+b.getD i 0:=by
 rw[zG,zG,zG,List.getElem?_zipWith,zK ha,zK hb];rfl
def Off(off:List Int):Prop:=∀i,0<=off.getD i 0
def TQ(W:List Wy):Prop:=∀i,0<=(aC W i).2.2
def Wd.lim{G T:List Pl}{W:List Wy}(h:Wd G T W):TQ W:=λi=>by
 by_cases hi:i < W.length
 ·have:=h.wr (aC W i) (by rw[<- n5 hi];exact qB hi);lia
 ·simp only[aC,zG];rw[jN (by lia)];simp
def Wd.amt{G T:List Pl}{W:List Wy}(h:Wd G T W)(b:Bool)(i:Nat):0<=(bR b G T i).1:=by
 unfold bR;rw[zG];cases e:(aP b G T)[i]? with
 | none=>simp
 | some p =>
  have hm:=qC e;cases b
  ·exact (h.ga p hm).1
  ·exact (h.ta p hm).1
def QK{W:List Wy}{off:List Int}(ho:Off off)(hl:TQ W){amt:Int}(ha:0<=amt)(is:List Nat)(i:Nat):0<=(DL W off amt is).getD i 0/\(DL W off amt is).getD i 0<=off.getD i 0:=by
 have:=mI (l:=is) (f:=sV W off) (s:=(amt,List.replicate W.length 0)) (λs=>0<=s.1/\∀i,0<=s.2.getD i 0/\s.2.getD i 0<=off.getD i 0) (λs k _ ⟨h1,h2⟩=>by
  have ok:=ho k;have lk:=hl k;have v0:0<=cV W off s.1 k:=by unfold cV;lia
  have v1:cV W off s.1 k<=off.getD k 0:=by unfold cV;lia
  have v2:cV W off s.1 k<=s.1:=by unfold cV;lia
  refine⟨by simp only[sV];lia,λi=>?_⟩;simp only[sV,dw];split
  ·rename_i z;rw[<- z.1];exact⟨v0,v1⟩
  ·exact h2 i) ⟨ha,λi=>by
   have:=ho i;have z:(List.replicate W.length (0:Int)).getD i 0=0:=by
    simp only[zG,yY];split<;>rfl
   simp only[z];lia⟩
 exact this.2 i
def GE{W:List Wy}{off:List Int}{amt:Int}{is:List Nat}{i:Nat}(hi:i∉is):(DL W off amt is).getD i 0=0:=by
 refine mI (l:=is) (f:=sV W off) (s:=(amt,List.replicate W.length 0)) (λs=>s.2.getD i 0=0) (λs k hk h=>?_) ?_
 ·simp only[sV,dw];have hki:¬ (k=i/\i < s.2.length):=λz=>hi (z.1 ▸ hk);rw[yO hki,h]
 ·simp only[zG,yY];split<;>rfl
def Am{G T:List Pl}{W:List Wy}(h:Wd G T W){off:List Int}(ho:Off off)(b:Bool):∀ (n:Nat),n<=(aP b G T).length ->
  ((List.range n).foldl (G6 b G T W off) (List.replicate W.length 0)).length=W.length/\∀i,i < W.length->(0<=((List.range n).foldl (G6 b G T W off) (List.replicate W.length 0)).getD i 0/\((List.range n).foldl (G6 b G T W off) (List.replicate W.length 0)).getD i 0<=off.getD i 0)/\((n:Nat)<=aN b (aC W i)->((List.range n).foldl (G6 b G T W off) (List.replicate W.length 0)).getD i 0=0)
 | 0,_=>by
  refine⟨by simp,λi hi=>?_⟩;have:=ho i;have z:((List.range 0).foldl (G6 b G T W off) (List.replicate W.length 0)).getD i 0=0:=by simp[zG,hi]
  rw[z];exact⟨by lia,λ_=>rfl⟩
 | n+1,hn=>by
  obtain⟨h1,h2⟩:=Am h ho b n (by lia);rw[vY,vG,yJ,List.foldl_nil];generalize (List.range n).foldl (G6 b G T W off) (List.replicate W.length 0)=s at h1 h2;refine⟨zp h1,λi hi=>?_⟩;obtain⟨h3,h4⟩:=h2 i hi;have e:=ik (b:=b) (G:=G) (T:=T) (i:=n) (by lia);have hc:=QK ho h.lim (h.amt b n) (fX b W n (bR b G T n).2) i;have hz:(G6 b G T W off s n).getD i 0=s.getD i 0+(DL W off (bR b G T n).1 (fX b W n (bR b G T n).2)).getD i 0:=Dj (by lia) (by rw[Ba];exact hi);rw[hz];by_cases he:aN b (aC W i)=n
  ·rw[h4 (by lia)];exact⟨by lia,λz=>by lia⟩
  ·have hni:i∉fX b W n (bR b G T n).2:=λz=>he (dv.mp ((dP h e).mem_iff.mp z)).2;rw[GE hni];exact⟨by lia,λz=>by rw[h4 (by lia)];rfl⟩
def lO{l:List Int}{i:Nat}(h:l.length<=i):l.getD i 0=0:=by simp[zG,h]
def kr{G T:List Pl}{W:List Wy}(h:Wd G T W){off:List Int}(ho:Off off)(b:Bool):Off (fu b G T W off):=λi=>by
 by_cases hi:i < W.length
 ·exact ((Am h ho b _ (yN _)).2 i hi).1.1
 ·rw[lO (by rw[Gi];lia)];exact qA 0
def Fy{G T:List Pl}{W:List Wy}(h:Wd G T W){off:List Int}(ho:Off off)(b:Bool){i:Nat}(hi:i < W.length):(fu b G T W off).getD i 0<=off.getD i 0 :=
 ((Am h ho b _ (yN _)).2 i hi).1.2
def J1{G T:List Pl}{W:List Wy}(h:Wd G T W){c:List Int}(ho:Off c){p:Nat×Int}(e:DJ G T W c=some p):p.1 < W.length/\0<=p.2/\p.2 < c.getD p.1 0:=by
 unfold DJ at e;obtain⟨k,hk,rfl⟩:=Dl.ag e;have hm:=jZ hk;have hq:=wA hk;have hi:=List.mem_range.mp hm;rw[qR,zJ] at hq;have a:=Fy h ho false hi;have b:=kr h (kr h ho false) true k;exact⟨hi,b,by simp only;lia⟩
def Yc(c:List Int):Nat:=(c.map Int.toNat).sum
def FB:∀ {c:List Int}{k:Nat}{v:Int},0<=v->v < c.getD k 0->Yc (c.set k v) < Yc c
 | [],k,v,h0,h1=>by simp at h1;lia
 | x::c,0,v,h0,h1=>by
  simp at h1;simp only[Yc,yW,zI,kF];lia
 | x::c,k+1,v,h0,h1=>by
  have:=FB (c:=c) (k:=k) h0 (by simpa using h1);simp only[Yc,yX,zI,kF] at this ⊢;lia
def Gq:∀ {W:List Wy},(∀w∈W,w.2.2<=9)->Yc (m5 W)<=9 * W.length
 | [],_=>by simp[Yc,m5]
 | w::W,h=>by
  have:=Gq (W:=W) λx hx=>h x (zC _ hx);have:=h w zE;simp only[Yc,m5,zI,kF,zL] at *;lia
def NG{G T:List Pl}{W:List Wy}(h:Wd G T W):Off (m5 W):=λi=>by
 have:=h.lim i;by_cases hi:i < W.length
 ·simpa [m5,aC,zG,hi] using this
 ·rw[lO (by rw[GD];lia)];exact qA 0
def F1{c:List Int}(h:Off c){k:Nat}{v:Int}(hv:0<=v):Off (c.set k v):=λi=>by
 rw[dw];split
 ·exact hv
 ·exact h i
def D4(a:List Int):SeqAt.shaped (ah a)=true :=
 (ja.tup (b:=a.length) (k:=0) (by simp) λx hx=>by obtain⟨i,_,rfl⟩:=List.mem_map.mp hx;exact kh _).shaped (by decide)
def B4(a b:List Int):PyData.eqv (ah a) (ah b)=decide (a=b):=by
 rw[ah,ah,PyData.eqv,uY]
def aV(h:f ρ=some (.bool b)):fB f ρ=some b:=by
 simp only[fB,h,zA,gB]
def cL(h:t ρ=some b):bH t ρ=some (!b):=by
 simp only[bH,h,zB]
def Kr(a b:List Int):gU (ah a) (ah b)=some (.bool (!decide (a=b))):=by
 simp only[gU,RL,D4,jQ,xI,B4,zB]
def wz(a:List Int):gU (ah a) (ah a)=some (.bool false):=by rw[Kr];simp
def b8(hA:f (aK ρ)=some d)(hF:f (bV ρ)=some d)(hh:hand fz 0 ρ=ρ):Dl.aR i fz f ρ=some (.nx (ρ.set i (.val d))):=by
 cases hs:Dl.sT d with
 | true=>exact cm hA hs
 | false=>exact nV hh hA hF hs (.inr rfl)
def Jm(hA:f (aK ρ)=some d)(hF:f (bV ρ)=some d)(hh:hand fz 0 ρ=ρ)(ho:ρ[i]?=some (.own ds))(hl:ds.length < 4000):lG i fz f ρ=some (.nx (ρ.set i (.own (ds++[d])))):=by
 have hz:ds.length < sizeLine:=zP hl (by decide);have hi:oD fz f ρ=some (d,ρ):=by
  unfold oD;rw[hA,zA,hh,hF];cases Dl.sT d<;>rfl
 simp only[lG,hi,zA,sQ,ho,hz,xI,zB]
def iY(h:Wd G T W):aX [aH G T W]=some .none:=by
 have hw:bp [aH G T W]=some (.bool true):=by rw[n6 h.fit (by decide),h.wok]
 have hc:(bH (fB (ai 1 bp (aa (ae 0) af)))) (aK [.val (aH G T W)])=some false:=cL (aV (call_of hw rfl rfl));have:dO [.val (aH G T W)]=some (.nx [.val (aH G T W)]):=by
  unfold dO;rw[bj hc]
 show (dO [.val (aH G T W)]).map _=_;rw[this];rfl
def v8(h1:a<=i)(h2:i<=b):dh [.int i,.int a,.int b]=some .none:=by
 have hw:aO [.int i,.int a,.int b]=some (.bool true):=by rw[et rfl];simp[whole,h1,h2]
 have hc:(bH (fB (ai 3 aO (aa (ae 0) (aa (ae 1) (aa (ae 2) af)))))) (aK [.val (.int i),.val (.int a),.val (.int b)])=some false:=cL (aV (call_of hw rfl rfl));have:cG [.val (.int i),.val (.int a),.val (.int b)]=some (.nx [.val (.int i),.val (.int a),.val (.int b)]):=by
  unfold cG;rw[bj hc]
 show (cG [.val (.int i),.val (.int a),.val (.int b)]).map _=_;rw[this];rfl
def mv(h1:0<=i)(h2:i<=n - 1):bA [.int i,.int n]=some .none:=by
 have:b9 [.val (.int i),.val (.int n)]=some (.nx [.val (.int i),.val (.int n)]):=by
  unfold b9;exact hV (call_of (v8 h1 h2) (cons_of rfl (cons_of rfl (cons_of (aq (sub_int n 1) rfl rfl) rfl))) rfl)
 show (b9 [.val (.int i),.val (.int n)]).map _=_;rw[this];rfl
def o5(b:Bool):dH [.int (sI b)]=some .none:=by
 have:eN [.val (.int (sI b))]=some (.nx [.val (.int (sI b))]):=by
  unfold eN;exact hV (call_of (mv (n:=2) (i:=sI b) (by cases b<;>decide) (by cases b<;>decide)) rfl rfl)
 show (eN [.val (.int (sI b))]).map _=_;rw[this];rfl
abbrev Sp:=List (Nat×Int)×List Int
def RR(G T:List Pl)(W:List Wy)(s:Sp):Bool:=(DJ G T W s.2).isSome
def spS(G T:List Pl)(W:List Wy)(s:Sp):Sp:=match DJ G T W s.2 with|some p=>(s.1++[p],s.2.set p.1 p.2)|none=>s
def low(c:List Int)(p:Nat×Int):List Int:=c.set p.1 p.2
structure Mn(W:List Wy)(s:Sp):Prop where
 len:s.2.length=W.length
 off:Off s.2
 eq:s.2=s.1.foldl low (m5 W)
 bd:s.1.length+Yc s.2<=Yc (m5 W)
 mem:∀p∈s.1,p.1 < W.length
def Mn.start(h:Wd G T W):Mn W ([],m5 W):=⟨GD W,NG h,rfl,by simp,λp hp=>by cases hp⟩
def DU(e:DJ G T W s.2=some p):spS G T W s=(s.1++[p],s.2.set p.1 p.2):=by
 unfold spS;rw[e]
def Mn.step(h:Wd G T W)(i:Mn W s)(e:DJ G T W s.2=some p):Mn W (spS G T W s)/\Yc (spS G T W s).2 < Yc s.2:=by
 obtain⟨h1,h2,h3⟩:=J1 h i.off e;have hm:=FB h2 h3;rw[DU e];refine⟨⟨by simp[i.len],F1 i.off h2,?_,?_,λq hq=>?_⟩,hm⟩
 ·rw[vG,<- i.eq];rfl
 ·have:=i.bd;simp only[zN,xD];lia
 ·rcases List.mem_append.mp hq with z|z
  ·exact i.mem q z
  ·rw[yK] at z;rw[z];exact h1
def Wd.Yc(h:Wd G T W):Yc (m5 W)<=144:=by
 have:=Gq (W:=W) λw hw=>(h.wr w hw).2.2.2;have:=h.wl;lia
def fin(G T:List Pl)(W:List Wy):Sp:=lp (RR G T W) (spS G T W) Rf.turns ([],m5 W)
def C7(h:RR G T W s=true):∃p,DJ G T W s.2=some p:=Option.isSome_iff_exists.mp h
structure Ord(W:List Wy)(π:List Nat):Prop where
 perm:π.Perm (List.range W.length)
 up:π.Pairwise λi j=>(aC W i).2.1 < (aC W j).2.1\/((aC W i).2.1=(aC W j).2.1/\(aC W i).1 < (aC W j).1)
section
def lK(b:Bool)(W:List Wy)(P:List Int)(p:Int):Int:=((own b W p).map λi=>P.getD i 0).sum
def uj{l m:List Int}(p:l.Perm m):l.sum=m.sum:=by
 induction p with
 | nil=>rfl
 | cons x _ ih=>simp[ih]
 | swap x y l=>simp only[kF];lia
 | trans _ _ h1 h2=>exact h1.trans h2
end
def lI(L:List Int)(x:Int):Nat:=L.findIdx λo=>decide (o=x)
def v7(b:Bool)(G T:List Pl)(W:List Wy)(P:List Int)(k:Nat):Bool :=
 decide (lK b W P (aN b (aC W k)) < (bR b G T (aN b (aC W k)).toNat).1) ||
 ((bR b G T (aN b (aC W k)).toNat).2.drop (lI (bR b G T (aN b (aC W k)).toNat).2 (bP b (aC W k))+1)).any λo=>decide (0 < P.getD (p9 b W (aN b (aC W k)) o) 0)
def ou(G T:List Pl)(W:List Wy)(P:List Int)(k:Nat):Nat :=
 if P.getD k 0=(aC W k).2.2 then 0 else if v7 false G T W P k=false then 1 else if v7 true G T W P k=false then 2 else 3
def Hu(G T:List Pl)(W:List Wy)(P:List Int):List Nat:=(List.range W.length).filter λk=>decide (ou G T W P k=3)
section
def Wd.WC(h:Wd G T W)(b:Bool)(hk:k < W.length):0<=aN b (aC W k)/\(aN b (aC W k)).toNat < (aP b G T).length/\((aN b (aC W k)).toNat:Int)=aN b (aC W k):=by
 have:=h.wr (aC W k) (by rw[<- n5 hk];exact qB _);cases b
 ·simp only[aN,aP,yP,qQ];lia
 ·simp only[aN,aP,xI];lia
structure Pn(G T:List Pl)(W:List Wy)(P:List Int):Prop where
 len:P.length=W.length
 bd:∀k,k < W.length->0<=P.getD k 0/\P.getD k 0<=(aC W k).2.2
 am:∀ (b:Bool) (i:Nat),i < (aP b G T).length->lK b W P i<=(bR b G T i).1
end
section
variable {off:List Int}
def FO(h:Wd G T W)(b:Bool):∀ (n:Nat),n<=(aP b G T).length ->
  ((List.range n).foldl (G6 b G T W off) (List.replicate W.length 0)).length=W.length/\∀k,k < W.length ->
   ((List.range n).foldl (G6 b G T W off) (List.replicate W.length 0)).getD k 0=if aN b (aC W k) < n then (DL W off (bR b G T (aN b (aC W k)).toNat).1 (fX b W (aN b (aC W k)).toNat (bR b G T (aN b (aC W k)).toNat).2)).getD k 0 else 0
 | 0,_=>by
  refine⟨by simp,λk hk=>?_⟩;obtain⟨h1,_,_⟩:=h.WC b hk;rw[yO (by lia)];simp[zG,hk]
 | n+1,hn=>by
  obtain⟨h1,h2⟩:=FO h b n (by lia);rw[vY,vG,yJ,List.foldl_nil];generalize (List.range n).foldl (G6 b G T W off) (List.replicate W.length 0)=s at h1 h2;refine⟨zp h1,λk hk=>?_⟩;have hz:(G6 b G T W off s n).getD k 0=s.getD k 0+(DL W off (bR b G T n).1 (fX b W n (bR b G T n).2)).getD k 0:=Dj (by lia) (by rw[Ba];exact hk);rw[hz,h2 k hk];obtain⟨g1,_,_⟩:=h.WC b hk;have e:=ik (b:=b) (G:=G) (T:=T) (i:=n) (by lia);by_cases he:aN b (aC W k)=n
  ·have hn':(aN b (aC W k)).toNat=n:=by lia
   rw[yO (by lia),yM (by lia),hn'];lia
  ·have hni:k∉fX b W n (bR b G T n).2:=λz=>he (dv.mp ((dP h e).mem_iff.mp z)).2;rw[GE hni];by_cases Wg:aN b (aC W k) < n
   ·rw[yM Wg,yM (by lia)];lia
   ·rw[yO Wg,yO (by lia)];rfl
def La(h:Wd G T W)(b:Bool)(hk:k < W.length):(fu b G T W off).getD k 0=(DL W off (bR b G T (aN b (aC W k)).toNat).1 (fX b W (aN b (aC W k)).toNat (bR b G T (aN b (aC W k)).toNat).2)).getD k 0:=by
 have:=(FO (off:=off) h b _ (yN _)).2 k hk;obtain⟨_,h2,h3⟩:=h.WC b hk;rw[yM (by lia)] at this;exact this
def Gv{amt:Int}:∀ (is:List Nat) (s:Int×List Int),is.Nodup->(∀i∈is,i < s.2.length/\s.2.getD i 0=0) ->
  ((is.foldl (sV W off) s).2.length=s.2.length)/\(is.map λi=>(is.foldl (sV W off) s).2.getD i 0).sum=s.1 - (is.foldl (sV W off) s).1/\∀j,j∉is->(is.foldl (sV W off) s).2.getD j 0=s.2.getD j 0
 | [],s,_,_=>⟨rfl,by simp,λ_ _=>rfl⟩
 | i::is,s,hn,hz=>by
  rw[kZ] at hn;obtain⟨hi,h0⟩:=hz i zE;have hs:∀j∈is,j < (sV W off s i).2.length/\(sV W off s i).2.getD j 0=0:=λj hj=>by
   obtain⟨a,b⟩:=hz j (zC _ hj);refine⟨by simpa [sV] using a,?_⟩;simp only[sV,dw];have Wz:¬ (i=j/\j < s.2.length):=λz=>hn.1 (z.1 ▸ hj);rw[yO Wz,b]
  obtain⟨r1,r2,r3⟩:=Gv (amt:=amt) is (sV W off s i) hn.2 hs;rw[yJ];refine⟨by rw[r1];simp[sV],?_,λj hj=>?_⟩
  ·rw[zI,kF,r2,r3 i hn.1];simp only[sV,dw];rw[yM ⟨trivial,hi⟩];lia
  ·rw[r3 j λz=>hj (zC _ z)];simp only[sV,dw];have Wz:¬ (i=j/\j < s.2.length):=λz=>hj (z.1 ▸ zE);rw[yO Wz]
def C3(ho:Off off)(hl:TQ W):∀ (is:List Nat) (s:Int×List Int),0<=s.1->0<=(is.foldl (sV W off) s).1
 | [],s,h=>h
 | i::is,s,h=>by
  rw[yJ];refine C3 ho hl is _ ?_;simp only[sV,cV];have:=ho i;have:=hl i;lia
def NO(h:Wd G T W)(ho:Off off)(hi:i < (aP b G T).length) :
  ((own b W i).map λk=>(DL W off (bR b G T i).1 (fX b W i (bR b G T i).2)).getD k 0).sum<=(bR b G T i).1:=by
 have e:=ik hi;have pm:=dP h e;rw[<- uj (pm.map λk=>(DL W off (bR b G T i).1 (fX b W i (bR b G T i).2)).getD k 0)];have hn:(fX b W i (bR b G T i).2).Nodup:=pm.nodup_iff.mpr (List.nodup_range.filter _);obtain⟨_,r2,_⟩:=Gv (W:=W) (off:=off) (amt:=0) (fX b W i (bR b G T i).2) ((bR b G T i).1,List.replicate W.length 0) hn λk hk=>by
  have Ww:=(dv.mp (pm.mem_iff.mp hk)).1;refine⟨by simpa using Ww,by simp[zG,Ww]⟩
 have:=C3 ho h.lim (fX b W i (bR b G T i).2) ((bR b G T i).1,List.replicate W.length 0) (h.amt b i);unfold DL;rw[r2];show (bR b G T i).1 - _<=(bR b G T i).1;lia
def F6(h:Wd G T W)(ho:Off off)(hi:i < (aP b G T).length):lK b W (fu b G T W off) i<=(bR b G T i).1:=by
 refine jV (Int.le_of_eq ?_) (NO h ho hi);unfold lK
 congr 1
 refine yI λk hk=>?_;obtain⟨Ww,he⟩:=dv.mp hk;have:=La (off:=off) h b Ww;rw[he,yG] at this;exact this
def qc(h:∀k,k < W.length->P.getD k 0=Q.getD k 0):lK b W P p=lK b W Q p:=by
 unfold lK
 congr 1
 exact yI λk hk=>h k (dv.mp hk).1
def M4(h:Wd G T W)(ho:Off c)(hc:∀k,k < W.length->c.getD k 0<=(aC W k).2.2)(e:DJ G T W c=none):Pn G T W (fu false G T W c) where
 len:=Gi _ _ _ _ _
 bd:=λk hk=>⟨kr h ho false k,jV (Fy h ho false hk) (hc k hk)⟩
 am:=λb i hi=>by
  cases b
  ·exact F6 h ho hi
  ·have hke:∀k,k < W.length->(vg G T W c).getD k 0=(fu false G T W c).getD k 0:=λk hk=>by
    have h1:=Fy h (kr h ho false) true hk;have h2:qR G T W c k=false:=by
     unfold DJ at e;rw[Option.map_eq_none_iff] at e;have:=List.find?_eq_none.mp e k (by simpa using hk);simpa using this
    unfold qR at h2;have h3:=wX h2;unfold vg at h3 ⊢;lia
   rw[<- qc hke];exact F6 h (kr h ho false) hi
end
def uh(G T:List Pl)(W:List Wy)(P:List Int):Bool :=
 ((List.range G.length).all λi=>decide (lK false W P i<=(bR false G T i).1))&&((List.range T.length).all λi=>decide (lK true W P i<=(bR true G T i).1))
def zs(n:Nat):List Int:=List.replicate n 0
def nU(d:Nat->Int)(G T:List Pl)(W:List Wy):Nat->List Int
 | 0=>[]
 | k+1=>if uh G T W ((nU d G T W k++[d k])++zs (W.length - (nU d G T W k++[d k]).length))=true then nU d G T W k++[d k] else nU d G T W k++[0]
section
variable {W:List Wy}{G T:List Pl}{d:Nat->Int}
def je:uh G T W P=true↔∀ (b:Bool) (i:Nat),i < (aP b G T).length->lK b W P i<=(bR b G T i).1:=by
 unfold uh;rw[zF,xH,xH];constructor
 ·rintro⟨h1,h2⟩ b i hi;cases b
  ·exact yR (h1 i (by simpa [aP] using hi))
  ·exact yR (h2 i (by simpa [aP] using hi))
 ·intro h;exact⟨λi hi=>yA (h false i (by simpa [aP] using hi)),λi hi=>yA (h true i (by simpa [aP] using hi))⟩
def oX:∀k,(nU d G T W k).length=k
 | 0=>rfl
 | k+1=>by
  unfold nU;split<;>simp[oX k]
def Ls(h:∀k,P.getD k 0=0):lK b W P p=0:=by
 unfold lK;have:((own b W p).map λi=>P.getD i 0)=(own b W p).map λ_=>(0:Int):=yI λk _=>h k;rw[this];generalize own b W p=l
 induction l with
 | nil=>rfl
 | cons a l ih=>simp[ih]
def O4(n k:Nat):(zs n).getD k 0=0:=by
 simp only[zs,zG,yY];split<;>rfl
def Jc(l:List Int)(n k:Nat):(l++zs n).getD k 0=l.getD k 0:=by
 by_cases h:k < l.length
 ·simp[zG,yT h]
 ·have h':l.length<=k:=by lia
  have:=O4 n (k - l.length);simp only[zG] at this ⊢;rw[yU h',this];simp[h']
def UU(l:List Int)(k:Nat):(l++[0]).getD k 0=l.getD k 0:=Jc l 1 k
def Gn(h:Wd G T W):∀k,uh G T W (nU d G T W k)=true
 | 0=>je.mpr λb i hi=>by
  rw[Ls λk=>by simp[nU]];exact h.amt b i
 | k+1=>by
  unfold nU;split
  ·rename_i e;refine je.mpr λb i hi=>?_;have:=je.mp e b i hi;rw[qc (Q:=nU d G T W k++[d k]) λj _=>Jc _ _ _] at this;exact this
  ·refine je.mpr λb i hi=>?_;rw[qc (Q:=nU d G T W k) λj _=>UU _ _];exact je.mp (Gn h k) b i hi
def D5(hd:∀k,k < W.length->0<=d k/\d k<=(aC W k).2.2)(hl:TQ W):∀k,k<=W.length->∀j,j < k->0<=(nU d G T W k).getD j 0/\(nU d G T W k).getD j 0<=(aC W j).2.2
 | 0,_,j,hj=>by lia
 | k+1,hk,j,hj=>by
  have ih:=D5 hd hl k (by lia) j;have len:(nU d G T W k).length=k:=oX k;have key:∀x,(0<=x/\x<=(aC W k).2.2)->0<=(nU d G T W k++[x]).getD j 0/\(nU d G T W k++[x]).getD j 0<=(aC W j).2.2:=λx hx=>by
   by_cases Yv:j < k
   ·rw[zG,yT (by lia),<- zG];exact ih Yv
   ·have:j=k:=by lia
    subst this;rw[zG,yU (by lia),len];simpa using hx
  unfold nU;split
  ·exact key _ (hd k (by lia))
  ·exact key _ ⟨by lia,hl k⟩
def QC(h:Wd G T W)(hd:∀k,k < W.length->0<=d k/\d k<=(aC W k).2.2):Pn G T W (nU d G T W W.length) where
 len:=oX _
 bd:=D5 hd h.lim W.length (yN _)
 am:=je.mp (Gn h _)
end
def yh{tt:Dl.Env->Option Bool}{te:Dl.Env->Option D}{r:List (Option D)}{x y h:Nat->D}{p:Nat->Bool}:∀ (is:List Nat),
  (∀i∈is,tt (some (x i)::some (y i)::r)=some (p i)/\(p i=true->te (some (x i)::some (y i)::r)=some (h i))) ->
  dU (j4 0 1) tt te (none::none::r) (is.map λi=>.tuple [x i,y i])=some ((is.filter p).map h)
 | [],_=>rfl
 | i::is,hh=>by
  obtain⟨h1,h2⟩:=hh i zE;have ih:=yh is λj hj=>hh j (zC _ hj);have hg:j4 0 1 (none::none::r) (.tuple [x i,y i])=some (some (x i)::some (y i)::r):=by
   simp only[j4,isFree,xR,yZ,qH,Option.isNone_none,jQ,xI,yW,yX]
  rw[zI,dU,hg];simp only[zA,h1];cases hp:p i with
  | true=>simp[h2 hp,ih,hp]
  | false=>simp[ih,hp]
def lM{cs:List Nat}{fi:Dl.Env->Option (List D)}{tt:Dl.Env->Option Bool}{te:Dl.Env->Option D}{ρ:Dl.Env}{n:Nat}{x y h:Nat->D}{p:Nat->Bool}(Xp:fi ρ=some ((List.range n).map λi=>.tuple [x i,y i]))(hl:n<=1000)
  (hh:∀i,i < n->tt (some (x i)::some (y i)::cs.map λj=>(ρ[j]?).getD none)=some (p i)/\(p i=true->te (some (x i)::some (y i)::cs.map λj=>(ρ[j]?).getD none)=some (h i))) :
  aw 2 cs fi (j4 0 1) tt te ρ=some (((List.range n).filter p).map h):=by
 have:=yh (tt:=tt) (te:=te) (r:=cs.map λj=>(ρ[j]?).getD none) (p:=p) (h:=h) (List.range n) λi hi=>hh i (by simpa using hi);simp only[aw,Xp,zA,fv,List.replicate,xG,xP,this];refine bU ?_;rw[zD];refine yD (xQ _ _) ?_;rw[zR];lia
def xi{W:List Wy}{P:List Int}(h:P.length=W.length):lY (W.map au) (P.map PyData.int)=(List.range W.length).map λi=>.tuple [au (aC W i),.int (P.getD i 0)]:=by
 apply List.ext_getElem?;intro i;by_cases hi:i < W.length
 ·have hz:i < (lY (W.map au) (P.map PyData.int)).length:=by rw[pG];simp[h];exact hi
  rw[zK hz];obtain⟨x,y,e1,e2,e3⟩:=uf (zK hz);rw[zO,pL hi] at e1;rw[zO,zK (by lia)] at e2;cases e1;have e2:PyData.int P[i]=y:=by simpa using e2
  rw[e3,<- e2];have:i < P.length:=by lia
  simp[hi,this,zG]
 ·rw[jN (by rw[pG];simp;lia),jN (by simp;lia)]
def Sm(P:List Int):Prop:=∀k,-1000000<=P.getD k 0/\P.getD k 0<=1000000
def G0(hs:Sm P)(hw:W.length<=16)(b:Bool)(p:Int):Kg ((own b W p).map λi=>P.getD i 0)=true:=by
 unfold Kg;rw[zF,zJ,xH];refine⟨?_,λx hx=>?_⟩
 ·have:=tv b W p;rw[zD];lia
 ·obtain⟨i,_,rfl⟩:=List.mem_map.mp hx;rw[zF,zJ,zJ];exact hs i
def zh(h:Wd G T W)(hp:P.length=W.length)(hs:Sm P)(b:Bool)(p:Int):dF [aH G T W,ah P,.int (sI b),.int p]=some (.int (lK b W P p)):=by
 have hw:=h.wl;refine aJ ?_;show qv [.val (aH G T W),.val (ah P),.val (.int (sI b)),.val (.int p)]=_;have hz:fy (aa (f2 az (ae 0) (fC (.int 2))) (aa (ae 1) af)) [some (aH G T W),some (ah P),some (.int (sI b)),some (.int p)]=some ((List.range W.length).map λi=>.tuple [au (aC W i),.int (P.getD i 0)]):=by
  rw[<- xi hp];rfl
 have c:aw 2 [2,3] (fy (aa (f2 az (ae 0) (fC (.int 2))) (aa (ae 1) af))) (j4 0 1) (fB (f2 bz (f2 az (ae 0) (ae 2)) (ae 3))) (ae 1) [some (aH G T W),some (ah P),some (.int (sI b)),some (.int p)]=some ((own b W p).map λi=>.int (P.getD i 0)):=by
  rw[lM (p:=λi=>decide (aN b (aC W i)=p)) (h:=λi=>.int (P.getD i 0)) hz (by lia) λi hi=>⟨?_,λ_=>rfl⟩]
  ·rfl
  ·show fB (f2 bz (f2 az (ae 0) (ae 2)) (ae 3)) [some (au (aC W i)),some (.int (P.getD i 0)),some (.int (sI b)),some (.int p)]=_;exact aV (by rw[jo (a:=.int (aN b (aC W i))) (b:=.int p) (aq (kq b _) rfl rfl) rfl,cB])
 refine aL ?_;have e:((own b W p).map λi=>PyData.int (P.getD i 0))=((own b W p).map λi=>P.getD i 0).map PyData.int:=by rw[zM];rfl
 show ba iA (aa (cf (aw 2 [2,3] (fy (aa (f2 az (ae 0) (fC (.int 2))) (aa (ae 1) af))) (j4 0 1) (fB (f2 bz (f2 az (ae 0) (ae 2)) (ae 3))) (ae 1))) af) [some (aH G T W),some (ah P),some (.int (sI b)),some (.int p)]=_;rw[e] at c;simp only[ba,aa,af,cf,c,zB,zA];show iA [.list (((own b W p).map λi=>P.getD i 0).map PyData.int)]=_;simp only[iA,cg,oneOf,fE,zA,bS,G0 hs hw b p,xI];rfl
def tV(L:List Pl):bK 0 (L.map bc)=(List.range L.length).map λi=>.tuple [nD i,bc (L.getD i (0,[]))]:=by
 rw[enum_zip];apply jI
 ·simp
 ·intro i h1 h2;have:i < L.length:=by simpa using h2
  simp[this,zG]
def yz(is:List Nat):pO [.list (is.map λi=>.bool (p i))]=some (.bool (is.all p)):=by
 have:∀is:List Nat,boolsOf (is.map λi=>PyData.bool (p i))=some (is.map p):=λis=>by
  induction is with
  | nil=>rfl
  | cons i is ih=>simp[boolsOf,ih]
 simp only[pO,oneOf,zA,this,zB,List.all_map];rfl
def GH(h:Wd G T W)(hp:P.length=W.length)(hs:Sm P)(b:Bool):da [aH G T W,ah P,.int (sI b)]=some (.bool ((List.range (aP b G T).length).all λi=>decide (lK b W P i<=(bR b G T i).1))):=by
 have hl:=h.pl b;refine aJ ?_;show gx [.val (aH G T W),.val (ah P),.val (.int (sI b))]=_;have he:bJ (aa (f2 az (ae 0) (ae 2)) af) [some (aH G T W),some (ah P),some (.int (sI b))]=some ((List.range (aP b G T).length).map λi=>.tuple [nD i,bc (bR b G T i)]):=by
  have:=tV (aP b G T);unfold bR;rw[<- this];cases b<;>rfl
 have c:=lM (cs:=[0,1,2]) (tt:=λ_=>some true) (te:=f2 Ha (ai 4 dF (aa (ae 2) (aa (ae 3) (aa (ae 4) (aa (ae 0) af))))) (f2 az (ae 1) (fC (.int 0)))) (p:=λ_=>true) (h:=λi=>.bool (decide (lK b W P i<=(bR b G T i).1))) he (by lia) λi hi=>⟨rfl,λ_=>aq (a:=.int (lK b W P i)) (b:=.int (bR b G T i).1) rfl (call_of (zh h hp hs b i) rfl rfl) rfl⟩
 refine aL ?_;show ba pO (aa (cf (aw 2 [0,1,2] (bJ (aa (f2 az (ae 0) (ae 2)) af)) (j4 0 1) (λ_=>some true) (f2 Ha (ai 4 dF (aa (ae 2) (aa (ae 3) (aa (ae 4) (aa (ae 0) af))))) (f2 az (ae 1) (fC (.int 0)))))) af) [some (aH G T W),some (ah P),some (.int (sI b))]=_;simp only[ba,aa,af,cf,c,zB,zA];rw[show (List.range (aP b G T).length).filter (λ_=>true)=List.range (aP b G T).length by simp,yz]
def KH(ha:fa ρ=some (.bool true))(hb:fb ρ=some d):m9 fa fb ρ=some d:=by
 simp only[m9,ha,zA,hb]
def Nf(ha:fa ρ=some (.bool false)):m9 fa fb ρ=some (.bool false):=by
 simp only[m9,ha,zA]
def NI(ha:fa ρ=some (.bool a))(hb:fb ρ=some (.bool b)):m9 fa fb ρ=some (.bool (a&&b)):=by
 cases a
 ·exact Nf ha
 ·exact KH ha hb
def fJ(h:f ρ=some d):ba g (aa f af) ρ=g [d]:=by
 simp only[ba,aa,af,h,zB,zA]
def iO{l:List α}(h:f ρ=some (.tuple (l.map k))):ba aZ (aa f af) ρ=some (nD l.length):=by
 rw[fJ h,N8,zD]
def Sk(W:List Wy)(P:List Int):Bool:=(List.range W.length).all λk=>decide (0<=P.getD k 0)&&decide (P.getD k 0<=(aC W k).2.2)
def G7(b:Bool)(G T:List Pl)(W:List Wy)(P:List Int):Bool:=(List.range (aP b G T).length).all λi=>decide (lK b W P i<=(bR b G T i).1)
def Mj(G T:List Pl)(W:List Wy)(P:List Int):Bool:=Sk W P&&(G7 false G T W P&&G7 true G T W P)
def Bg(hp:P.length=W.length):Mj G T W P=true↔Pn G T W P:=by
 simp only[Mj,Sk,G7,zF,xH,zS,zJ];constructor
 ·rintro⟨h1,h2,h3⟩;exact⟨hp,h1,λb=>by cases b<;>assumption⟩
 ·intro p;exact⟨p.bd,p.am false,p.am true⟩
def PJ(P:List Int):iz (ah P)=true:=rfl
def zi(h:Wd G T W)(hp:P.length=W.length)(hs:Sm P):ck [aH G T W,ah P]=some (.bool (Mj G T W P)):=by
 have hw:=h.wl;have hlen:(P.map PyData.int).length=W.length:=by rw[zD,hp]
 refine aJ ?_;show g8 [.val (aH G T W),.val (ah P),.V6]=_;unfold g8;have t1:Dl.aR 2 [0] (f2 az (ae 0) (fC (.int 2))) [.val (aH G T W),.val (ah P),.V6]=some (.nx [.val (aH G T W),.val (ah P),.val (.tuple (W.map au))]):=eE (d:=.tuple (W.map au)) rfl rfl rfl rfl;rw[ak t1];have el:br [ah P,nD W.length,nD W.length]=some (.bool true):=by
  rw[show nD W.length=.int ((W.length:Nat):Int) from rfl,eA (PJ P)];simp[long,ah,hp]
 have hl:∀ρ:Dl.Env,ae 2 ρ=some (.tuple (W.map au))->ba aZ (aa (ae 2) af) ρ=some (nD W.length):=λρ hr=>iO hr;have c1:(bH (fB (ai 3 br (aa (ae 1) (aa (ba aZ (aa (ae 2) af)) (aa (ba aZ (aa (ae 2) af)) af)))))) (aK [.val (aH G T W),.val (ah P),.val (.tuple (W.map au))])=some false :=
  cL (aV (call_of el (cons_of rfl (cons_of (hl _ rfl) (cons_of (hl _ rfl) rfl))) rfl))
 rw[ak (bj c1)];have hz:fy (aa (ae 2) (aa (ae 1) af)) [some (aH G T W),some (ah P),some (.tuple (W.map au))]=some ((List.range W.length).map λi=>.tuple [au (aC W i),.int (P.getD i 0)]):=by
  rw[<- xi hp];rfl
 have c2:=lM (cs:=[]) (tt:=λ_=>some true) (te:=ai 3 aO (aa (ae 1) (aa (fC (.int 0)) (aa (f2 az (ae 0) (fC (.int 2))) af)))) (p:=λ_=>true) (h:=λk=>.bool (decide (0<=P.getD k 0)&&decide (P.getD k 0<=(aC W k).2.2))) hz (by lia)
  λi hi=>⟨rfl,λ_=>call_of (et (d:=.int (P.getD i 0)) rfl 0 (aC W i).2.2) rfl rfl⟩
 have XM:(fB (ba pO (aa (cf (aw 2 [] (fy (aa (ae 2) (aa (ae 1) af))) (j4 0 1) (λ_=>some true) (ai 3 aO (aa (ae 1) (aa (fC (.int 0)) (aa (f2 az (ae 0) (fC (.int 2))) af)))))) af))) [some (aH G T W),some (ah P),some (.tuple (W.map au))]=some (Sk W P):=by
  refine aV ?_;simp only[ba,aa,af,cf,c2,zB,zA];rw[show (List.range W.length).filter (λ_=>true)=List.range W.length by simp,yz];rfl
 have k0:=GH h hp hs false;have k1:=GH h hp hs true;cases hb:Sk W P with
 | false =>
  rw[hb] at XM;refine eZ ((bW (cL XM)).trans ?_);rw[Mj,hb];exact aL rfl
 | true =>
  rw[hb] at XM;rw[ak (bj (cL XM)),Mj,hb,jM];exact aL (NI (call_of k0 rfl rfl) (call_of k1 rfl rfl))
def mi(hk:k < W.length):aC W k∈W:=n5 hk ▸ qB hk
def Pn.smP(h:Wd G T W)(p:Pn G T W P):Sm P:=λk=>by
 by_cases hk:k < W.length
 ·have:=p.bd k hk;have:=(h.wr _ (mi hk)).2.2.2;lia
 ·rw[zG,jN (by rw[p.len];lia)];simp
section
def nK(h:Wd G T W)(p:Pn G T W P):ck [aH G T W,ah P]=some (.bool true):=by
 rw[zi h p.len (p.smP h),(Bg p.len).mpr p]
def ke(h:Wd G T W)(p:Pn G T W P):aY [aH G T W,ah P]=some .none:=by
 have:eW [.val (aH G T W),.val (ah P)]=some (.nx [.val (aH G T W),.val (ah P)]):=by
  unfold eW;refine (ak (hV (call_of (iY h) rfl rfl))).trans ?_;exact bj (cL (aV (call_of (nK h p) rfl rfl)))
 show (eW [.val (aH G T W),.val (ah P)]).map _=_;rw[this];rfl
end
def tup_is(h:fs ρ=some ds)(hl:ds.length<=1000):aA fs ρ=some (.tuple ds):=by
 simp only[aA,h,zA,bU (show ds.length<=4000 by lia),zB]
section
def gV{cs:List Nat}{fi:Dl.Env->Option (List D)}{te:Dl.Env->Option D}{ρ:Dl.Env}{is:List Nat}{f:Nat->D}(Xp:fi ρ=some (is.map nD))(hl:is.length<=1000)(hh:∀i∈is,te (some (nD i)::cs.map λj=>(ρ[j]?).getD none)=some (f i)):aw 1 cs fi (fG 0) (λ_=>some true) te ρ=some (is.map f):=by
 rw[dG (h:=λd=>f (mH d).toNat) Xp (by rw[zD];lia) λd hd=>?_]
 ·rw[zM];refine jD some (yI λi _=>?_);simp[mH]
 ·obtain⟨i,hi,rfl⟩:=List.mem_map.mp hd;rw[hh i hi];simp[mH]
def uG(h:m ds=some (.list es))(hf:fs ρ=some ds)(hn:ds.length=n):bo (ai n m fs) ρ=some es:=by
 simp only[bo,call_of h hf hn,zA,fE]
end
def Nn(h:f ρ=some (.list ds))(h2:g ρ=some (nD k)):sy lQ f (KJ g) ud ρ=some (.list (ds.drop k)):=by
 have:=Kw ds k;simp only[sy,h,KJ,h2,ud,gI,lQ,zA,zB,this]
def HB(is:List Nat):Rf.JC [.list (is.map λi=>.bool (p i))]=some (.bool (is.any p)):=by
 have:∀is:List Nat,boolsOf (is.map λi=>PyData.bool (p i))=some (is.map p):=λis=>by
  induction is with
  | nil=>rfl
  | cons i is ih=>simp[boolsOf,ih]
 simp only[Rf.JC,oneOf,zA,this,zB,Zg];rfl
def pJ(f:α->β)(p:β->Bool)(q:α->Bool):∀ (l:List α),(∀x∈l,p (f x)=q x)->(l.map f).findIdx p=l.findIdx q
 | [],_=>rfl
 | x::l,h=>by
  rw[zI,vH,vH,h x zE,pJ f p q l λy hy=>h y (zC _ hy)]
section
def Pq(h:Wd G T W){b:Bool}{i:Nat}(e:(aP b G T)[i]?=some p){k:Nat}(hk:k < W.length)(he:aN b (aC W k)=i):iT (.list ((fX b W i p.2).map nD)) (nD k)=some (nD (lI p.2 (bP b (aC W k)))):=by
 have ko:k∈own b W i:=dv.mpr ⟨hk,he⟩;have km:k∈fX b W i p.2:=(dP h e).mem_iff.mpr ko;have e1:(fX b W i p.2).map nD=((fX b W i p.2).map λj=>((j:Nat):Int)).map PyData.int:=by rw[zM];rfl
 have m1:((k:Nat):Int)∈(fX b W i p.2).map λj=>((j:Nat):Int):=List.mem_map.mpr ⟨k,km,rfl⟩;rw[e1];show (intsOf _).bind _=_;rw[bS,zA,mP m1,zB];have e2:((fX b W i p.2).map λj=>((j:Nat):Int)).findIdx (λo=>decide (o=((k:Nat):Int)))=lI p.2 (bP b (aC W k)):=by
  unfold fX lI;rw[zM];refine pJ _ _ _ _ λx hx=>?_;obtain⟨hl,h1,h2⟩:=iH h e hx;show decide (((p9 b W i x:Nat):Int)=(k:Int))=decide (x=bP b (aC W k));rw[decide_eq_decide];constructor
  ·intro z;have z:p9 b W i x=k:=by lia
   rw[<- z,h2]
  ·intro z;rw[z,zt h.wp ko]
 rw[e2]
def pF(h:Wd G T W)(hp:P.length=W.length)(hs:Sm P)(b:Bool){k:Nat}(hk:k < W.length):cU [aH G T W,ah P,.int (sI b),nD k]=some (.bool (v7 b G T W P k)):=by
 have hw:=h.wl;obtain⟨z1,z2,z3⟩:=h.WC b hk;have hx:(aP b G T)[(aN b (aC W k)).toNat]?=some (bR b G T (aN b (aC W k)).toNat):=by
  rw[zK z2];simp[bR,z2]
 have hL:∀x∈(bR b G T (aN b (aC W k)).toNat).2,_:=λx X4=>iH h hx X4;have hb:(bR b G T (aN b (aC W k)).toNat).2.length<=16:=by
  have:=(dP h hx).length_eq;have h2:=tv b W ((aN b (aC W k)).toNat:Int);unfold fX at this;rw[zD] at this;lia
 have ei:=Pq h hx hk z3.symm;have ew:=ye h hx;generalize W5:bR b G T (aN b (aC W k)).toNat=pl at *;generalize hj:(aN b (aC W k)).toNat=j at *;have ez:PyData.int (aN b (aC W k))=nD j:=by rw[<- z3]
 refine aJ ?_;show gR [.val (aH G T W),.val (ah P),.val (.int (sI b)),.val (nD k),.V6,.V6,.V6]=_;unfold gR;have t4:Dl.aR 4 [0,2,3] (f2 az (f2 az (f2 az (ae 0) (fC (.int 2))) (ae 3)) (ae 2)) [.val (aH G T W),.val (ah P),.val (.int (sI b)),.val (nD k),.V6,.V6,.V6]=some (.nx [.val (aH G T W),.val (ah P),.val (.int (sI b)),.val (nD k),.val (nD j),.V6,.V6]):=by
  rw[<- ez];exact cm (d:=.int (aN b (aC W k))) (aq (kq b _) (aq (ED hk) rfl rfl) rfl) rfl
 rw[ak t4];have ep:az (.tuple ((aP b G T).map bc)) (nD j)=some (bc pl):=l5 hx;have ct:(fB (f2 EY (ai 4 dF (aa (ae 0) (aa (ae 1) (aa (ae 2) (aa (ae 4) af))))) (f2 az (f2 az (f2 az (ae 0) (ae 2)) (ae 4)) (fC (.int 0))))) (aK [.val (aH G T W),.val (ah P),.val (.int (sI b)),.val (nD k),.val (nD j),.V6,.V6])=some (decide (lK b W P j < pl.1)):=by
  refine aV (aq (mW _ _) (call_of (zh h hp hs b j) rfl rfl) ?_);refine aq (a:=bc pl) (b:=.int 0) rfl (aq ep (aq (d9 b G T W) rfl rfl) rfl) rfl
 have hm:v7 b G T W P k=(decide (lK b W P j < pl.1)||(pl.2.drop (lI pl.2 (bP b (aC W k))+1)).any λo=>decide (0 < P.getD (p9 b W j o) 0)):=by
  unfold v7;rw[hj,W5,z3]
 rw[hm];cases hc:decide (lK b W P j < pl.1) with
 | true =>
  rw[hc] at ct;exact eZ ((bW ct).trans (aL rfl))
 | false =>
  rw[hc] at ct;rw[ak (bj ct),Bool.false_or];have t5:Dl.aR 5 [0,2,4] (ai 3 dg (aa (ae 0) (aa (ae 2) (aa (ae 4) af)))) [.val (aH G T W),.val (ah P),.val (.int (sI b)),.val (nD k),.val (nD j),.V6,.V6]=some (.nx [.val (aH G T W),.val (ah P),.val (.int (sI b)),.val (nD k),.val (nD j),.val (.list ((fX b W j pl.2).map nD)),.V6]) :=
   b8 (call_of ew rfl rfl) (call_of ew rfl rfl) rfl
  rw[ak t5];have cu:∀ρ:Dl.Env,ae 5 ρ=some (.list ((fX b W j pl.2).map nD))->ae 3 ρ=some (nD k)->(sy lQ (ae 5) (KJ (f2 aD (f2 iT (ae 5) (ae 3)) (fC (.int 1)))) ud) ρ=some (.list (((fX b W j pl.2).map nD).drop (lI pl.2 (bP b (aC W k))+1))):=λρ a c =>
   Nn a (aq (cZ _ _) (aq ei a c) rfl)
  have t6:Dl.aR 6 [3,5] (sy lQ (ae 5) (KJ (f2 aD (f2 iT (ae 5) (ae 3)) (fC (.int 1)))) ud) [.val (aH G T W),.val (ah P),.val (.int (sI b)),.val (nD k),.val (nD j),.val (.list ((fX b W j pl.2).map nD)),.V6]=some (.nx [.val (aH G T W),.val (ah P),.val (.int (sI b)),.val (nD k),.val (nD j),.val (.list ((fX b W j pl.2).map nD)),.val (.list (((fX b W j pl.2).drop (lI pl.2 (bP b (aC W k))+1)).map nD))]):=by
   rw[List.map_drop];exact b8 (cu _ rfl rfl) (cu _ rfl rfl) rfl
  rw[ak t6];have c:aw 1 [1] (bo (ae 6)) (fG 0) (λ_=>some true) (f2 tx (f2 az (ae 1) (ae 0)) (fC (.int 0))) [some (aH G T W),some (ah P),some (.int (sI b)),some (nD k),some (nD j),some (.list ((fX b W j pl.2).map nD)),some (.list (((fX b W j pl.2).drop (lI pl.2 (bP b (aC W k))+1)).map nD))]=some (((fX b W j pl.2).drop (lI pl.2 (bP b (aC W k))+1)).map λi=>.bool (decide (0 < P.getD i 0))):=by
   refine gV rfl ?_ λi hi=>?_
   ·rw[qJ,fX,zD];lia
   ·have Xt:=List.mem_of_mem_drop hi;unfold fX at Xt;obtain⟨x,X4,rfl⟩:=List.mem_map.mp Xt;exact aq (eY _ _) (aq (Bs (by rw[hp];exact (hL x X4).1)) rfl rfl) rfl
  refine aL ?_;show ba Rf.JC (aa (cf (aw 1 [1] (bo (ae 6)) (fG 0) (λ_=>some true) (f2 tx (f2 az (ae 1) (ae 0)) (fC (.int 0))))) af) [some (aH G T W),some (ah P),some (.int (sI b)),some (nD k),some (nD j),some (.list ((fX b W j pl.2).map nD)),some (.list (((fX b W j pl.2).drop (lI pl.2 (bP b (aC W k))+1)).map nD))]=_;simp only[ba,aa,af,cf,c,zB,zA,HB];unfold fX;rw[<- List.map_drop,Zg];rfl
def Rr:Nat->D|0=>.str "full" | 1=>.str "giver" | 2=>.str "taker" | _=>.none
def Fk(h:Wd G T W)(hp:P.length=W.length)(hs:Sm P)(hk:k < W.length):fO [aH G T W,ah P,nD k]=some (Rr (ou G T W P k)):=by
 refine aJ ?_;show lb [.val (aH G T W),.val (ah P),.val (nD k)]=_;unfold lb ou;have c1:(fB (f2 bz (f2 az (ae 1) (ae 2)) (f2 az (f2 az (f2 az (ae 0) (fC (.int 2))) (ae 2)) (fC (.int 2))))) (aK [.val (aH G T W),.val (ah P),.val (nD k)])=some (decide (P.getD k 0=(aC W k).2.2)) :=
  aV (aq (cB _ _) (aq (Bs (by rw[hp];exact hk)) rfl rfl) (aq (a:=au (aC W k)) (b:=.int 2) rfl (aq (ED hk) rfl rfl) rfl))
 have w0:=pF h hp hs false hk;have w1:=pF h hp hs true hk;have c2:(bH (fB (ai 4 cU (aa (ae 0) (aa (ae 1) (aa (fC (.int 0)) (aa (ae 2) af))))))) (aK [.val (aH G T W),.val (ah P),.val (nD k)])=some (!(v7 false G T W P k)):=cL (aV (call_of w0 rfl rfl));have c3:(bH (fB (ai 4 cU (aa (ae 0) (aa (ae 1) (aa (fC (.int 1)) (aa (ae 2) af))))))) (aK [.val (aH G T W),.val (ah P),.val (nD k)])=some (!(v7 true G T W P k)):=cL (aV (call_of w1 rfl rfl));by_cases e1:P.getD k 0=(aC W k).2.2
 ·rw[yA e1] at c1;rw[yM e1];exact eZ ((bW c1).trans (aL rfl))
 ·rw[zZ e1] at c1;rw[yO e1,ak (bj c1)];cases e2:v7 false G T W P k with
  | false =>
   rw[e2] at c2;rw[yM rfl];exact eZ ((bW c2).trans (aL rfl))
  | true =>
   rw[e2] at c2;rw[yO (by simp),ak (bj c2)];cases e3:v7 true G T W P k with
   | false =>
    rw[e3] at c3;rw[yM rfl];exact eZ ((bW c3).trans (aL rfl))
   | true =>
    rw[e3] at c3;rw[yO (by simp),ak (bj c3)];exact aL rfl
def JI(G T:List Pl)(W:List Wy)(P:List Int)(k:Nat):ou G T W P k<=3:=by
 unfold ou;split
 ·lia
 ·split
  ·lia
  ·split<;>lia
def G1(n:Nat)(h:n<=3):su (Rr n) .none=some (.bool (decide (n=3))):=by
 match n,h with
 | 0,_=>rfl
 | 1,_=>rfl
 | 2,_=>rfl
 | 3,_=>rfl
def Ci{W:List Wy}{P:List Int}(hp:P.length=W.length)(hf:f ρ=some (ah P)):(aa (ba aZ (aa f af)) af) ρ=some [nD W.length]:=by
 have:=Bc P;rw[hp] at this;refine cons_of ?_ rfl;rw[fJ hf,this]
def sR(h:Wd G T W)(hp:P.length=W.length)(hs:Sm P):dX [aH G T W,ah P]=some (match (List.range W.length).find? λk=>decide (ou G T W P k=3) with|some k=>nD k|none=>.none):=by
 have hw:=h.wl;refine aJ ?_;show dZ [.val (aH G T W),.val (ah P),.V6]=_;unfold dZ;obtain⟨f1,XW⟩:=g9 (tgt:=gM 2) (gb:=eI (fB (f2 su (ai 3 fO (aa (ae 0) (aa (ae 1) (aa (ae 2) af)))) (fC .none))) (aI (ae 2)) dS) (λρ=>∃x,ρ=[.val (aH G T W),.val (ah P),x]) nD (λk=>decide (ou G T W P k=3)) nD
  (l:=List.range W.length) (ρ:=[.val (aH G T W),.val (ah P),.V6])
  (λρ k hk Xz=>by
   obtain⟨x,rfl⟩:=Xz;have Ww:k < W.length:=by simpa using hk
   have c:(fB (f2 su (ai 3 fO (aa (ae 0) (aa (ae 1) (aa (ae 2) af)))) (fC .none))) (aK [.val (aH G T W),.val (ah P),.val (nD k)])=some (decide (ou G T W P k=3)) :=
    aV (aq (G1 _ (JI G T W P k)) (call_of (Fk h hp hs Ww) rfl rfl) rfl)
   refine⟨_,rfl,λhq=>?_,λhq=>?_⟩
   ·show eI _ _ _ [.val (aH G T W),.val (ah P),.val (nD k)]=_;rw[hq] at c;exact (bW c).trans (aL rfl)
   ·rw[hq] at c;exact⟨_,bj c,_,rfl⟩) ⟨_,rfl⟩
 have hr:aE (aa (ba aZ (aa (ae 1) af)) af) [some (aH G T W),some (ah P),none]=some ((List.range W.length).map nD):=gu (Ci hp rfl) (by lia);cases e:(List.range W.length).find? λk=>decide (ou G T W P k=3) with
 | some k=>exact eZ (bF (f1 k e) hr rfl)
 | none =>
  obtain⟨ρ',e',x,rfl⟩:=XW e;exact (ak (bF e' hr rfl)).trans (aL rfl)
def ER(h:Wd G T W)(hp:P.length=W.length)(hs:Sm P):kb [aH G T W,ah P]=some (.bool (decide (Hu G T W P=[]))):=by
 refine aJ ?_;show kc [.val (aH G T W),.val (ah P)]=_;unfold kc;refine aL (aq ?_ (call_of (sR h hp hs) rfl rfl) rfl);cases e:(List.range W.length).find? λk=>decide (ou G T W P k=3) with
 | some k =>
  have:Hu G T W P≠[]:=λz=>by
   have hm:=jZ e;have hq:=wA e;have:k∈Hu G T W P:=List.mem_filter.mpr ⟨hm,hq⟩;rw[z] at this;cases this
  rw[zZ this];rfl
 | none =>
  have:Hu G T W P=[]:=by
   rw[wY] at e;exact List.filter_eq_nil_iff.mpr e
  rw[yA this];rfl
def rq:∀ (is:List Nat),(∀i∈is,tt (some (nD i)::r)=some (q i)/\(q i=true->te (some (nD i)::r)=some (f i)))->dU (fG 0) tt te (none::r) (is.map nD)=some ((is.filter q).map f)
 | [],_=>rfl
 | i::is,h=>by
  have ih:=rq (tt:=tt) (te:=te) (r:=r) (f:=f) (q:=q) is λj hj=>h j (zC _ hj);obtain⟨h1,h2⟩:=h i zE;have hg:fG 0 (none::r) (nD i)=some (some (nD i)::r):=rfl;rw[zI,dU,hg,zA,h1,zA,jY];cases e:q i with
  | true =>
   rw[yM rfl,yM rfl,h2 e,zA,ih];rfl
  | false =>
   rw[yO (by simp),yO (by simp),ih]
def Fs{cs:List Nat}{fi:Dl.Env->Option (List D)}{tt:Dl.Env->Option Bool}{te:Dl.Env->Option D}{ρ:Dl.Env}{is:List Nat}{f:Nat->D}{q:Nat->Bool}(Xp:fi ρ=some (is.map nD))(hl:is.length<=1000)(hh:∀i∈is,tt (some (nD i)::cs.map λj=>(ρ[j]?).getD none)=some (q i)/\(q i=true->te (some (nD i)::cs.map λj=>(ρ[j]?).getD none)=some (f i))):aw 1 cs fi (fG 0) tt te ρ=some ((is.filter q).map f):=by
 have:=rq is hh;simp only[aw,Xp,zA,fv,List.replicate,xG,xP,this];refine bU ?_;rw[zD];refine yD (xQ _ _) ?_;lia
end
def tH(f:Nat->D)(R:Nat->ar->Prop):∀ (n k:Nat) (ρ:ar),
  (∀j ρ,k<=j->j < k+n->R j ρ->∃ρ1 Xw,tgt ρ (f j)=some ρ1/\gb ρ1=some (.nx Xw)/\R (j+1) Xw)->R k ρ->∃ρ',cE tgt gb ((List.range' k n).map f) ρ=some (.nx ρ')/\R (k+n) ρ'
 | 0,k,ρ,_,h=>⟨ρ,rfl,h⟩
 | n+1,k,ρ,hh,h=>by
  obtain⟨ρ1,Xw,e1,e2,h2⟩:=hh k ρ (yN _) (by lia) h;obtain⟨ρ',e3,h3⟩:=tH f R n (k+1) Xw (λj ρ a b=>hh j ρ (by lia) (by lia)) h2;refine⟨ρ',?_,by rw[show k+(n+1)=k+1+n by lia];exact h3⟩;rw[vL,zI,cE,e1,zA,e2];exact e3
def Sd(hl:n<=1000):Dl.cJ (.tuple [.int 0]) (nD n)=some (ah (zs n)):=by
 have e:uq (.tuple [.int 0]) (nD n)=some (ah (zs n)):=by
  show (if Bu ((n:Nat):Int)=true/\[PyData.int 0].length * ((n:Nat):Int).toNat<=sizeLine then some (PyData.tuple (List.replicate ((n:Nat):Int).toNat [PyData.int 0]).flatten) else none)=_;have hz:[PyData.int 0].length * n<=sizeLine:=by
   rw[xD,Nat.one_mul];exact yD hl (by decide)
  rw[yG,yM ⟨oP hl,hz⟩,O8];rfl
 show ((xu ub λi j=>PyData.int (i * j)) (.tuple [.int 0]) (nD n)).or (uq (.tuple [.int 0]) (nD n))=_;rw[e];rfl
section
def n0{W:List Wy}{P:List Int}(h:P.length=W.length):lY (P.map PyData.int) (W.map au)=(List.range W.length).map λi=>.tuple [.int (P.getD i 0),au (aC W i)]:=by
 have:∀ (a:List Int) (l:List Wy),a.length=l.length->lY (a.map PyData.int) (l.map au)=(List.range l.length).map λi=>.tuple [.int (a.getD i 0),au (aC l i)]:=by
  intro a
  induction a with
  | nil=>intro l e;cases l with|nil=>rfl|cons _ _=>simp at e
  | cons x a ih =>
   intro l e;cases l with
   | nil=>simp at e
   | cons w l =>
    rw[zI,zI,lY,ih l (by simpa using e),zL,vT,zI,zM];rfl
 exact this P W h
def nY(h:Wd G T W)(hp:P.length=W.length)(hs:Sm P)(b:Bool)(p:Int):bu [aH G T W,ah P,.int (sI b),.int p]=some (.int (lK b W P p)):=by
 have hw:=h.wl;refine aJ ?_;show l0 [.val (aH G T W),.val (ah P),.val (.int (sI b)),.val (.int p)]=_;have hz:fy (aa (ae 1) (aa (f2 az (ae 0) (fC (.int 2))) af)) [some (aH G T W),some (ah P),some (.int (sI b)),some (.int p)]=some ((List.range W.length).map λi=>.tuple [.int (P.getD i 0),au (aC W i)]):=by
  rw[<- n0 hp];rfl
 have c:aw 2 [2,3] (fy (aa (ae 1) (aa (f2 az (ae 0) (fC (.int 2))) af))) (j4 0 1) (fB (f2 bz (f2 az (ae 1) (ae 2)) (ae 3))) (ae 0) [some (aH G T W),some (ah P),some (.int (sI b)),some (.int p)]=some ((own b W p).map λi=>.int (P.getD i 0)):=by
  rw[lM (p:=λi=>decide (aN b (aC W i)=p)) (h:=λi=>.int (P.getD i 0)) hz (by lia) λi hi=>⟨?_,λ_=>rfl⟩]
  ·rfl
  ·show fB (f2 bz (f2 az (ae 1) (ae 2)) (ae 3)) [some (.int (P.getD i 0)),some (au (aC W i)),some (.int (sI b)),some (.int p)]=_;exact aV (by rw[jo (a:=.int (aN b (aC W i))) (b:=.int p) (aq (kq b _) rfl rfl) rfl,cB])
 refine aL ?_;have e:((own b W p).map λi=>PyData.int (P.getD i 0))=((own b W p).map λi=>P.getD i 0).map PyData.int:=by rw[zM];rfl
 show ba iA (aa (cf (aw 2 [2,3] (fy (aa (ae 1) (aa (f2 az (ae 0) (fC (.int 2))) af))) (j4 0 1) (fB (f2 bz (f2 az (ae 1) (ae 2)) (ae 3))) (ae 0))) af) [some (aH G T W),some (ah P),some (.int (sI b)),some (.int p)]=_;rw[e] at c;simp only[ba,aa,af,cf,c,zB,zA];show iA [.list (((own b W p).map λi=>P.getD i 0).map PyData.int)]=_;simp only[iA,cg,oneOf,fE,zA,bS,G0 hs hw b p,xI];rfl
def Uk:ar->Option Out:=(cq [0,2] (bJ (aa (f2 az (ae 0) (ae 2)) af)) (gy 3 4) (eI (fB (f2 tx (ai 4 bu (aa (ae 0) (aa (ae 1) (aa (ae 2) (aa (ae 3) af))))) (f2 az (ae 4) (fC (.int 0))))) (aI (fC (.bool false))) dS))
def M3(h:Wd G T W)(hp:P.length=W.length)(hs:Sm P)(b:Bool)(x y:Slot):(G7 b G T W P=false->Uk [.val (aH G T W),.val (ah P),.val (.int (sI b)),x,y]=some (.rt (.bool false)))/\(G7 b G T W P=true->∃x' y',Uk [.val (aH G T W),.val (ah P),.val (.int (sI b)),x,y]=some (.nx [.val (aH G T W),.val (ah P),.val (.int (sI b)),x',y'])):=by
 have hl:=h.pl b;obtain⟨f1,XW⟩:=g9 (tgt:=gy 3 4) (gb:=eI (fB (f2 tx (ai 4 bu (aa (ae 0) (aa (ae 1) (aa (ae 2) (aa (ae 3) af))))) (f2 az (ae 4) (fC (.int 0))))) (aI (fC (.bool false))) dS)
  (λρ=>∃x y,ρ=[.val (aH G T W),.val (ah P),.val (.int (sI b)),x,y]) (λi:Nat=>.tuple [nD i,bc (bR b G T i)]) (λi=>decide ((bR b G T i).1 < lK b W P i)) (λ_=>.bool false)
  (l:=List.range (aP b G T).length) (ρ:=[.val (aH G T W),.val (ah P),.val (.int (sI b)),x,y])
  (λρ i hi Xz=>by
   obtain⟨x,y,rfl⟩:=Xz;have c:(fB (f2 tx (ai 4 bu (aa (ae 0) (aa (ae 1) (aa (ae 2) (aa (ae 3) af))))) (f2 az (ae 4) (fC (.int 0))))) (aK [.val (aH G T W),.val (ah P),.val (.int (sI b)),.val (nD i),.val (bc (bR b G T i))])=some (decide ((bR b G T i).1 < lK b W P i)) :=
    aV (aq (eY _ _) (call_of (nY h hp hs b i) rfl rfl) (aq (a:=bc (bR b G T i)) (b:=.int 0) rfl rfl rfl))
   refine⟨_,rfl,λhq=>?_,λhq=>?_⟩
   ·rw[hq] at c;exact (bW c).trans (aL rfl)
   ·rw[hq] at c;exact⟨_,bj c,_,_,rfl⟩) ⟨_,_,rfl⟩
 have he:bJ (aa (f2 az (ae 0) (ae 2)) af) (bV [.val (aH G T W),.val (ah P),.val (.int (sI b)),x,y])=some ((List.range (aP b G T).length).map λi=>.tuple [nD i,bc (bR b G T i)]):=by
  have:=tV (aP b G T);unfold bR;rw[<- this];cases b<;>rfl
 have hh:hand [0,2] 0 [Slot.val (aH G T W),.val (ah P),.val (.int (sI b)),x,y]=[Slot.val (aH G T W),.val (ah P),.val (.int (sI b)),x,y]:=rfl;unfold G7;constructor
 ·intro hk;cases e:(List.range (aP b G T).length).find? λi=>decide ((bR b G T i).1 < lK b W P i) with
  | some i=>exact bF (f1 i e) he hh
  | none =>
   rw[wY] at e;rw[List.all_eq_false] at hk;obtain⟨i,hi,hn⟩:=hk;have:=e i hi;simp only[zJ] at this hn;lia
 ·intro hk;have e:(List.range (aP b G T).length).find? (λi=>decide ((bR b G T i).1 < lK b W P i))=none:=by
   rw[wY];intro i hi;have:=List.all_eq_true.mp hk i hi;simp only[zJ] at this ⊢;lia
  obtain⟨ρ',e',x',y',rfl⟩:=XW e;exact⟨x',y',bF e' he hh⟩
def LH:uh G T W P=(G7 false G T W P&&G7 true G T W P):=rfl
def uT(h:Wd G T W)(hp:P.length=W.length)(hs:Sm P):cy [aH G T W,ah P]=some (.bool (uh G T W P)):=by
 obtain⟨f1,XW⟩:=g9 (tgt:=gM 2) (gb:=Uk)
  (λρ=>∃x y z,ρ=[.val (aH G T W),.val (ah P),x,y,z]) (λb:Bool=>.int (sI b)) (λb=>!(G7 b G T W P)) (λ_=>.bool false)
  (l:=[false,true]) (ρ:=[.val (aH G T W),.val (ah P),.V6,.V6,.V6])
  (λρ b _ Xz=>by
   obtain⟨x,y,z,rfl⟩:=Xz;obtain⟨r1,r2⟩:=M3 h hp hs b y z;refine⟨_,rfl,λhq=>?_,λhq=>?_⟩
   ·exact r1 (by simpa using hq)
   ·obtain⟨x',y',e⟩:=r2 (by simpa using hq);exact⟨_,e,_,_,_,rfl⟩) ⟨_,_,_,rfl⟩
 have hr:aE (aa (fC (.int 2)) af) (bV [.val (aH G T W),.val (ah P),.V6,.V6,.V6])=some ([false,true].map λb=>.int (sI b)):=gu (n:=2) rfl (by lia);refine aJ ?_;show iM [.val (aH G T W),.val (ah P),.V6,.V6,.V6]=_;unfold iM;rw[LH];cases e0:G7 false G T W P with
 | false =>
  have e:[false,true].find? (λb=>!(G7 b G T W P))=some false:=by rw[vV (by simp[e0])]
  exact eZ (bF (f1 _ e) hr rfl)
 | true =>
  cases e1:G7 true G T W P with
  | false =>
   have e:[false,true].find? (λb=>!(G7 b G T W P))=some true:=by rw[kO (by simp[e0]),vV (by simp[e1])]
   exact eZ (bF (f1 _ e) hr rfl)
  | true =>
   have e:[false,true].find? (λb=>!(G7 b G T W P))=none:=by rw[kO (by simp[e0]),kO (by simp[e1])];rfl
   obtain⟨ρ',e',x,y,z,rfl⟩:=XW e;exact (ak (bF e' hr rfl)).trans (aL rfl)
end
def Sm.app(ha:Sm a)(hb:Sm b):Sm (a++b):=λk=>by
 by_cases hk:k < a.length
 ·have:=ha k
  rwa [show (a++b).getD k 0=a.getD k 0 by simp[yT hk]]
 ·have:=hb (k - a.length)
  rwa [show (a++b).getD k 0=b.getD (k - a.length) 0 by simp[yU (by lia:a.length<=k)]]
def PR(h1:-1000000<=x)(h2:x<=1000000):Sm [x]:=λk=>by
 cases k with
 | zero=>exact⟨h1,h2⟩
 | succ k=>simp
def TF(n:Nat):Sm (zs n):=λk=>by rw[O4];lia
section
def vh(ns:List Int)(at':Int)(W:List Wy)(k:Nat):Int:=dr ns (at'+(k:Nat)) ((aC W k).2.2+1)
def Es(hl:ns.length<=63)(h:Wd G T W)(hk:k < W.length):0<=vh ns at' W k/\vh ns at' W k<=(aC W k).2.2:=by
 have:=(h.wr _ (mi hk)).2.2;have h1:=O2 (ns:=ns) (at'+(k:Nat)) ((aC W k).2.2+1) hl (by lia);have h2:=Pb (ns:=ns) (at'+(k:Nat)) ((aC W k).2.2+1) hl (by lia);unfold vh;lia
def U2:ar->Option Out:=(ay (aR 6 [0,1,3,4,5] (f2 aD (ae 3) (aA (aa (ai 3 ao (aa (ae 0) (aa (f2 aD (ae 1) (ae 4)) (aa (f2 aD (f2 az (ae 5) (fC (.int 2))) (fC (.int 1))) af)))) af)))) (ay (aR 7 [2,6] (ai 2 cy (aa (ae 2) (aa (f2 aD (ae 6) (f2 cJ (aA (aa (fC (.int 0)) af)) (f2 Dl.dJ (ba aZ (aa (f2 az (ae 2) (fC (.int 2))) af)) (ba aZ (aa (ae 6) af))))) af)))) (aR 3 [3,6,7] (GI (fB (ae 7)) (ae 6) (f2 aD (ae 3) (aA (aa (fC (.int 0)) af)))))))
def mM(h:a.length+b.length<=1000):Dl.aD (ah a) (ah b)=some (ah (a++b)):=by
 unfold ah;rw[Oa (by simp;lia),jB]
def sU(h:tc ρ=some true)(ha:fa ρ=some d):GI tc fa fb ρ=some d:=by
 simp only[GI,h,zA,ha]
def As(h:tc ρ=some false)(ha:fb ρ=some d):GI tc fa fb ρ=some d:=by
 simp only[GI,h,zA,ha]
def Qu(hl:ns.length<=63)(h:Wd G T W)(hk:k<=W.length):Sm (nU (vh ns at' W) G T W k):=λj=>by
 by_cases hj:j < k
 ·have:=D5 (d:=vh ns at' W) (G:=G) (T:=T) (W:=W) (λk hk=>Es hl h hk) h.lim k hk j hj;have:=(h.wr _ (mi (show j < W.length by lia))).2.2;lia
 ·rw[zG,jN (by rw[oX];lia)];simp
def MF(hl:ns.length<=63)(h:Wd G T W)(hk:k < W.length)(x y:Slot):∃x' y',U2 [.val (cH ns),.val (.int at'),.val (aH G T W),.val (ah (nU (vh ns at' W) G T W k)),.val (nD k),.val (au (aC W k)),x,y]=some (.nx [.val (cH ns),.val (.int at'),.val (aH G T W),.val (ah (nU (vh ns at' W) G T W (k+1))),.val (nD k),.val (au (aC W k)),x',y']):=by
 have hw:=h.wl;have hr:=(h.wr _ (mi hk)).2.2;have hsm:=Qu (at':=at') hl h (jU hk);have WV:=oX (d:=vh ns at' W) (G:=G) (T:=T) (W:=W) k;have WI:=Es (at':=at') hl h hk;have e2:nU (vh ns at' W) G T W (k+1)=if uh G T W ((nU (vh ns at' W) G T W k++[vh ns at' W k])++zs (W.length - (nU (vh ns at' W) G T W k++[vh ns at' W k]).length))=true then nU (vh ns at' W) G T W k++[vh ns at' W k] else nU (vh ns at' W) G T W k++[0]:=rfl
 rw[e2];clear e2;generalize hf:nU (vh ns at' W) G T W k=f at hsm WV ⊢;generalize hd:vh ns at' W k=d at WI ⊢;have ed:∀ρ:Dl.Env,ae 0 ρ=some (cH ns)->ae 1 ρ=some (.int at')->ae 4 ρ=some (nD k)->ae 5 ρ=some (au (aC W k))->(ai 3 ao (aa (ae 0) (aa (f2 aD (ae 1) (ae 4)) (aa (f2 aD (f2 az (ae 5) (fC (.int 2))) (fC (.int 1))) af)))) ρ=some (.int d):=λρ a b c e=>by
  rw[<- hd];exact call_of (xk (at'+((k:Nat):Int)) ((aC W k).2.2+1) hl (by lia)) (cons_of a (cons_of (aq (cZ at' k) b c) (cons_of (aq (cZ (aC W k).2.2 1) (aq (td _) e rfl) rfl) rfl))) rfl
 have em:∀ρ:Dl.Env,ae 0 ρ=some (cH ns)->ae 1 ρ=some (.int at')->ae 3 ρ=some (ah f)->ae 4 ρ=some (nD k)->ae 5 ρ=some (au (aC W k))->(f2 aD (ae 3) (aA (aa (ai 3 ao (aa (ae 0) (aa (f2 aD (ae 1) (ae 4)) (aa (f2 aD (f2 az (ae 5) (fC (.int 2))) (fC (.int 1))) af)))) af))) ρ=some (ah (f++[d])):=λρ a b z c e =>
  aq (mM (a:=f) (b:=[d]) (by simp;lia)) z (E8 (ed ρ a b c e))
 have t6:Dl.aR 6 [0,1,3,4,5] (f2 aD (ae 3) (aA (aa (ai 3 ao (aa (ae 0) (aa (f2 aD (ae 1) (ae 4)) (aa (f2 aD (f2 az (ae 5) (fC (.int 2))) (fC (.int 1))) af)))) af))) [.val (cH ns),.val (.int at'),.val (aH G T W),.val (ah f),.val (nD k),.val (au (aC W k)),x,y]=some (.nx [.val (cH ns),.val (.int at'),.val (aH G T W),.val (ah f),.val (nD k),.val (au (aC W k)),.val (ah (f++[d])),y]) :=
  b8 (em _ rfl rfl rfl rfl rfl) (em _ rfl rfl rfl rfl rfl) rfl
 have hlen:(f++[d]).length=k+1:=by simp[WV]
 have aae:((W.length:Nat):Int) - (((f++[d]).length:Nat):Int)=((W.length - (f++[d]).length:Nat):Int):=by lia
 have YL:((f++[d])++zs (W.length - (f++[d]).length)).length=W.length:=by simp[zs,WV];lia
 have Yo:Sm ((f++[d])++zs (W.length - (f++[d]).length)):=(hsm.app (PR (by lia) (by lia))).app (TF _);have ef:∀ρ:Dl.Env,ae 2 ρ=some (aH G T W)->ae 6 ρ=some (ah (f++[d]))->(ai 2 cy (aa (ae 2) (aa (f2 aD (ae 6) (f2 cJ (aA (aa (fC (.int 0)) af)) (f2 Dl.dJ (ba aZ (aa (f2 az (ae 2) (fC (.int 2))) af)) (ba aZ (aa (ae 6) af))))) af))) ρ=some (.bool (uh G T W ((f++[d])++zs (W.length - (f++[d]).length)))):=λρ a b=>by
  refine call_of (uT h YL Yo) (cons_of a (cons_of (aq (mM ?_) b (aq (Sd (n:=W.length - (f++[d]).length) (by lia)) (E8 rfl) ?_)) rfl)) rfl
  ·rw[<- zN,YL];lia
  ·rw[show nD (W.length - (f++[d]).length)=.int (((W.length:Nat):Int) - (((f++[d]).length:Nat):Int)) by rw[aae]];exact aq (sub_int _ _) (iO (l:=W) (k:=au) (aq (tj G T W) a rfl)) (iO (l:=f++[d]) (k:=PyData.int) b)
 have t7:Dl.aR 7 [2,6] (ai 2 cy (aa (ae 2) (aa (f2 aD (ae 6) (f2 cJ (aA (aa (fC (.int 0)) af)) (f2 Dl.dJ (ba aZ (aa (f2 az (ae 2) (fC (.int 2))) af)) (ba aZ (aa (ae 6) af))))) af))) [.val (cH ns),.val (.int at'),.val (aH G T W),.val (ah f),.val (nD k),.val (au (aC W k)),.val (ah (f++[d])),y]=some (.nx [.val (cH ns),.val (.int at'),.val (aH G T W),.val (ah f),.val (nD k),.val (au (aC W k)),.val (ah (f++[d])),.val (.bool (uh G T W ((f++[d])++zs (W.length - (f++[d]).length))))]) :=
  b8 (ef _ rfl rfl) (ef _ rfl rfl) rfl
 unfold U2;rw[ak t6,ak t7];have h0:∀ρ:Dl.Env,ae 3 ρ=some (ah f)->(f2 aD (ae 3) (aA (aa (fC (.int 0)) af))) ρ=some (ah (f++[0])):=λρ z=>aq (mM (a:=f) (b:=[0]) (by simp;lia)) z (E8 rfl);generalize uh G T W ((f++[d])++zs (W.length - (f++[d]).length))=fb;cases fb with
 | true =>
  rw[yM rfl];exact⟨_,_,b8 (sU (aV rfl) rfl) (sU (aV rfl) rfl) rfl⟩
 | false =>
  rw[yO (by simp)];exact⟨_,_,b8 (As (aV rfl) (h0 _ rfl)) (As (aV rfl) (h0 _ rfl)) rfl⟩
def IC(W:List Wy):bK 0 (W.map au)=(List.range' 0 W.length).map λi=>.tuple [nD i,au (aC W i)]:=by
 rw[<- yH,enum_zip];apply jI
 ·simp
 ·intro i h1 h2;have:i < W.length:=by simpa using h2
  simp[n5 this]
def Fo(hl:ns.length<=63)(h:Wd G T W):gm [cH ns,.int at',aH G T W]=some (ah (nU (vh ns at' W) G T W W.length)):=by
 have hw:=h.wl;obtain⟨ρ',e,x4,x5,x6,x7,rfl⟩:=tH (tgt:=gy 4 5) (gb:=U2) (λi=>.tuple [nD i,au (aC W i)]) (λk ρ=>∃x4 x5 x6 x7,ρ=[.val (cH ns),.val (.int at'),.val (aH G T W),.val (ah (nU (vh ns at' W) G T W k)),x4,x5,x6,x7]) W.length 0 [.val (cH ns),.val (.int at'),.val (aH G T W),.val (ah []),.V6,.V6,.V6,.V6]
  (λj ρ _ hj Xz=>by
   obtain⟨x4,x5,x6,x7,rfl⟩:=Xz;obtain⟨x',y',e⟩:=MF (at':=at') hl h (show j < W.length by lia) x6 x7;exact⟨_,_,rfl,e,_,_,_,_,rfl⟩) ⟨_,_,_,_,rfl⟩
 refine aJ ?_;show iJ [.val (cH ns),.val (.int at'),.val (aH G T W),.V6,.V6,.V6,.V6,.V6]=_;unfold iJ;have t3:Dl.aR 3 [] (aA af) [.val (cH ns),.val (.int at'),.val (aH G T W),.V6,.V6,.V6,.V6,.V6]=some (.nx [.val (cH ns),.val (.int at'),.val (aH G T W),.val (ah []),.V6,.V6,.V6,.V6]) :=
  b8 (tup_is (ds:=[]) rfl (by simp)) (tup_is (ds:=[]) rfl (by simp)) rfl
 rw[ak t3];have he:bJ (aa (f2 az (ae 2) (fC (.int 2))) af) (bV [.val (cH ns),.val (.int at'),.val (aH G T W),.val (ah []),.V6,.V6,.V6,.V6])=some ((List.range' 0 W.length).map λi=>.tuple [nD i,au (aC W i)]):=by
  rw[<- IC];rfl
 rw[jE] at e;exact (ak (bF e he rfl)).trans (aL rfl)
def Ol(hl:ns.length<=63)(h:Wd G T W):Pn G T W (nU (vh ns at' W) G T W W.length):=QC h λk hk=>Es hl h hk
end
def z7(cont:S->Bool)(st:S->S)(μ:S->Nat)(I:S->Prop)(hb:∀s,I s->cont s=true->I (st s)/\μ (st s) < μ s):∀ (n:Nat) (s:S),μ s < n->I s->cont (lp cont st n s)=false/\I (lp cont st n s)
 | 0,s,h,_=>absurd h (by lia)
 | n+1,s,h,i=>by
  rw[lp];cases hc:cont s with
  | false=>exact⟨by simpa [hc] using hc,by simpa using i⟩
  | true =>
   obtain⟨i2,hm⟩:=hb s i hc;have:=z7 cont st μ I hb n (st s) (by lia) i2;simpa using this
section
def Kd(hk:k < W.length):(m5 W).getD k 0=(aC W k).2.2:=by
 unfold m5;rw[zG,zO,pL hk];rfl
def Gx(h:Wd G T W):DJ G T W (fin G T W).2=none/\Mn W (fin G T W)/\∀k,k < W.length->(fin G T W).2.getD k 0<=(aC W k).2.2:=by
 have hb:=h.Yc;obtain⟨h1,i,h2⟩:=z7 (RR G T W) (spS G T W) (λs=>Yc s.2) (λs=>Mn W s/\∀k,k < W.length->s.2.getD k 0<=(aC W k).2.2)
  (λs ⟨i,l⟩ hc=>by
   obtain⟨p,e⟩:=C7 hc;obtain⟨a,b,c⟩:=J1 h i.off e;obtain⟨i2,hm⟩:=i.step h e;refine⟨⟨i2,λk hk=>?_⟩,hm⟩;rw[DU e];show (s.2.set p.1 p.2).getD k 0<=_;by_cases z:k=p.1
   ·subst z;have:=l p.1 a;have hl:p.1 < s.2.length:=by rw[i.len];exact a
    rw[show (s.2.set p.1 p.2).getD p.1 0=p.2 by simp[hl]];lia
   ·rw[show (s.2.set p.1 p.2).getD k 0=s.2.getD k 0 by simp[kY (jO z)]];exact l k hk) Rf.turns ([],m5 W) (jA hb (by decide)) ⟨Mn.start h,λk hk=>by rw[Kd hk];lia⟩
 refine⟨?_,i,h2⟩;have:RR G T W (fin G T W)=false:=h1;unfold RR at this;exact Option.isNone_iff_eq_none.mp (by simpa using this)
def Rb(G T:List Pl)(W:List Wy):List Int:=fu false G T W (fin G T W).2
def Qi(h:Wd G T W):Pn G T W (Rb G T W):=by
 obtain⟨h1,i,h2⟩:=Gx h;exact M4 h i.off h2 h1
def mG:∀ {l:List D},(∀d∈l,PyData.eqv d d=true)->PyData.eqvAll l l=true
 | [],_=>by simp[PyData.eqvAll]
 | d::l,h=>by
  rw[PyData.eqvAll,h d zE,mG λx hx=>h x (zC _ hx)];rfl
def MR(h:∀d∈l,PyData.eqv d d=true):PyData.eqv (.tuple l) (.tuple l)=true:=by
 rw[PyData.eqv,mG h]
def PU(a:List Int):PyData.eqv (ah a) (ah a)=true:=by rw[B4];simp
def JE(a:Int):PyData.eqv (.int a) (.int a)=true:=by
 have:=PU [a];rw[ah,PyData.eqv,zI,yV,PyData.eqvAll] at this;simp only[zF] at this;exact this.1
def NF(a:Int):gU (.int a) (.int a)=some (.bool false):=by
 have hs:SeqAt.shaped (.int a)=true:=(kh (b:=1) (k:=0) a).shaped (by decide);simp only[gU,RL,hs,jQ,xI,JE,zB,xZ]
def uJ(h:Wd G T W):bp [aH G T W]=some (.bool true):=by rw[n6 h.fit (by decide),h.wok]
end
section
variable {P off:List Int}
def Ky:∀ (xs:List Nat),(∀i∈xs,0<=off.getD i 0)->0<=(xs.map λi=>off.getD i 0).sum
 | [],_=>by simp
 | i::xs,h=>by
  have:=Ky xs λj hj=>h j (zC _ hj);have:=h i zE;rw[zI,kF];lia
def Gd:∀ (xs:List Nat),(∀i∈xs,0<=P.getD i 0)->(0 < (xs.map λi=>P.getD i 0).sum↔(xs.any λi=>decide (0 < P.getD i 0))=true)
 | [],_=>by simp
 | i::xs,h=>by
  have ih:=Gd xs λj hj=>h j (zC _ hj);have h0:=Ky (off:=P) xs λj hj=>h j (zC _ hj);have hi:=h i zE;rw[zI,kF,List.any_cons,jC,zJ,<- ih];lia
def Mz(h:Wd G T W){b:Bool}(hk:k < W.length) :
  let i:=(aN b (aC W k)).toNat;let L:=(bR b G T i).2
  fX b W i L=(L.take (lI L (bP b (aC W k)))).map (p9 b W i)++k::(L.drop (lI L (bP b (aC W k))+1)).map (p9 b W i):=by
 intro i L;obtain⟨h1,h2,h3⟩:=h.WC b hk;have e:=ik h2;have hm:bP b (aC W k)∈L:=by
  rw[(h.lik e).mem_iff,<- tI];exact List.mem_map.mpr ⟨k,dv.mpr ⟨hk,h3.symm⟩,rfl⟩
 have Wg:lI L (bP b (aC W k)) < L.length:=by
  unfold lI;exact kP ⟨_,hm,by simp⟩
 have hg:L[lI L (bP b (aC W k))]=bP b (aC W k):=by
  have:=wM (w:=Wg);exact yR this
 have hx:p9 b W i (bP b (aC W k))=k:=zt h.wp (dv.mpr ⟨hk,h3.symm⟩);unfold fX
 conv=>lhs;rw[<- List.take_append_drop (lI L (bP b (aC W k))) L,vF Wg,hg,jB,zI,hx]
end
def sm(l:List Nat)(f:Nat->Int):Int:=(l.map f).sum
def du(q:Nat)(l:List Nat)(f:Nat->Int):sm (q::l) f=f q+sm l f:=by simp[sm]
def Qj(l r:List Nat)(f:Nat->Int):sm (l++r) f=sm l f+sm r f:=by simp[sm]
def Aa(q:Nat)(f:Nat->Int):sm [q] f=f q:=by simp[sm]
def jt:∀ {l:List Nat}{f g:Nat->Int},(∀q∈l,f q=g q)->sm l f=sm l g
 | [],_,_,_=>rfl
 | q::l,f,g,h=>by rw[du,du,h q zE,jt λx hx=>h x (zC _ hx)]
def KI:∀ {l:List Nat}{f g:Nat->Int},(∀q∈l,f q<=g q)->sm l f<=sm l g
 | [],_,_,_=>qA _
 | q::l,f,g,h=>by
  have h1:=h q zE;have h2:=KI (l:=l) λx hx=>h x (zC _ hx);rw[du,du];lia
def Ph(h:∀q∈l,0<=f q):0<=sm l f:=by
 have:sm l (λ_=>0)=0:=by induction l with
  | nil=>rfl
  | cons q l ih=>rw[du,ih λx hx=>h x (zC _ hx)];rfl
 rw[<- this];exact KI h
def Nb(p:l.Perm r)(f:Nat->Int):sm l f=sm r f:=by
 induction p with
 | nil=>rfl
 | cons x _ ih=>rw[du,du,ih]
 | swap x y l=>rw[du,du,du,du];lia
 | trans _ _ h1 h2=>rw[h1,h2]
def ch(m:Nat->Int):Int->List Nat->Nat->Int
 | _,[],_=>0
 | a,q::r,k=>if k=q then min (m q) a else ch m (a - min (m q) a) r k
def cR(m:Nat->Int)(a:Int)(q:Nat)(r:List Nat):ch m a (q::r) q=min (m q) a:=by simp[ch]
def cT(h:k≠q):ch m a (q::r) k=ch m (a - min (m q) a) r k:=by simp[ch,h]
def OW:∀ {a:Int}{l:List Nat},(∀q∈l,0<=m q)->0<=a->∀k,0<=ch m a l k/\ch m a l k<=a/\(k∈l->ch m a l k<=m k)
 | a,[],_,ha,k=>⟨qA _,ha,λh=>by cases h⟩
 | a,q::r,hm,ha,k=>by
  have h0:=hm q zE;by_cases e:k=q
  ·subst e;rw[cR];exact⟨by lia,by lia,λ_=>by lia⟩
  ·rw[cT e];obtain⟨h1,h2,h3⟩:=OW (m:=m) (a:=a - min (m q) a) (l:=r) (λx hx=>hm x (zC _ hx)) (by lia) k;refine⟨h1,by lia,λhk=>?_⟩;rcases List.mem_cons.mp hk with z|z
   ·exact absurd z e
   ·exact h3 z
def Gm:∀ {a a':Int}{l:List Nat}{k:Nat},a<=a'->ch m a l k<=ch m a' l k
 | _,_,[],_,_=>qA _
 | a,a',q::r,k,h=>by
  by_cases e:k=q
  ·subst e;rw[cR,cR];lia
  ·rw[cT e,cT e];exact Gm (by lia)
def ua:∀ {a:Int}{l:List Nat},(∀q∈l,m q=m' q)->∀k,ch m a l k=ch m' a l k
 | _,[],_,_=>rfl
 | a,q::r,h,k=>by
  have h0:=h q zE;by_cases e:k=q
  ·subst e;rw[cR,cR,h0]
  ·rw[cT e,cT e,h0];exact ua (λx hx=>h x (zC _ hx)) k
def up:List Nat->Nat->List Nat
 | [],_=>[]
 | q::r,k=>if k=q then [q] else q::up r k
def tJ(q:Nat)(r:List Nat):up (q::r) q=[q]:=by simp[up]
def sX(h:k≠q):up (q::r) k=q::up r k:=by simp[up,h]
def me:∀ {l:List Nat}{k q:Nat},q∈up l k->q∈l
 | [],_,_,h=>by cases h
 | x::l,k,q,h=>by
  by_cases e:k=x
  ·subst e;rw[tJ,yK] at h;exact h ▸ zE
  ·rw[sX e] at h;rcases List.mem_cons.mp h with z|z
   ·exact z ▸ zE
   ·exact zC _ (me z)
def JX:∀ {xs ys:List Nat}{k:Nat},k∉xs->up (xs++k::ys) k=xs++[k]
 | [],ys,k,_=>tJ _ _
 | x::xs,ys,k,h=>by
  rw[zQ,not_or] at h;rw[xG,sX h.1,JX h.2];rfl
def FI:∀ {a:Int}{l:List Nat}{k:Nat},l.Nodup->k∈l->ch m a l k < m k->sm (up l k) (ch m a l)=a
 | a,q::r,k,hn,hk,h=>by
  rw[kZ] at hn;by_cases e:k=q
  ·subst e;rw[cR] at h;rw[tJ,Aa,cR];lia
  ·rw[cT e] at h;have Ww:k∈r:=by
    rcases List.mem_cons.mp hk with z|z
    ·exact absurd z e
    ·exact z
   have ih:=FI hn.2 Ww h;rw[sX e,du,cR,jt (g:=ch m (a - min (m q) a) r) λx hx=>cT λz=>hn.1 (z ▸ me hx),ih];lia
def Pk:∀ {a:Int}{l:List Nat}{k:Nat},l.Nodup->(∀x∈l,0<=m x)->0<=a->k∈l->sm (up l k) (ch m a l)=min a (sm (up l k) m)
 | a,q::r,k,hn,hm,ha,hk=>by
  rw[kZ] at hn;have h0:=hm q zE;have hr:∀y∈r,0<=m y:=λy hy=>hm y (zC _ hy);by_cases e:k=q
  ·subst e;rw[tJ,Aa,Aa,cR];lia
  ·have Ww:k∈r:=by
    rcases List.mem_cons.mp hk with z|z
    ·exact absurd z e
    ·exact z
   have ih:=Pk (m:=m) (a:=a - min (m q) a) hn.2 hr (by lia) Ww;have hs:=Ph (l:=up r k) λy hy=>hr y (me hy);rw[sX e,du,du,cR,jt (g:=ch m (a - min (m q) a) r) λx hx=>cT λz=>hn.1 (z ▸ me hx),ih];lia
def KA:∀ {a:Int}{l:List Nat},l.Nodup->(∀x∈l,x≠p->m' x=m x)->m' p<=ch m a l p->(∀k∈l,k≠p->ch m a l k<=ch m' a l k)/\(p∈l->ch m' a l p=m' p)
 | _,[],_,_,_=>⟨λ_ h=>absurd h yF,λh=>absurd h yF⟩
 | a,q::r,hn,h,hp=>by
  rw[kZ] at hn;by_cases e:q=p
  ·subst e;rw[cR] at hp;have hs:∀x∈r,m' x=m x:=λx hx=>h x (zC _ hx) λz=>hn.1 (z ▸ hx);refine⟨λk hk Wz=>?_,λ_=>?_⟩
   ·rw[cT Wz,cT Wz,ua (m:=m') (m':=m) hs];exact Gm (by lia)
   ·rw[cR];lia
  ·have hq:=h q zE e;rw[cT (jO e)] at hp;obtain⟨i1,i2⟩:=KA (m:=m) (m':=m') (p:=p) (a:=a - min (m q) a) hn.2 (λx hx=>h x (zC _ hx)) hp;refine⟨λk hk Wz=>?_,λhk=>?_⟩
   ·by_cases e2:k=q
    ·subst e2;rw[cR,cR,hq];exact qA _
    ·rw[cT e2,cT e2,hq];rcases List.mem_cons.mp hk with z|z
     ·exact absurd z e2
     ·exact i1 k z Wz
   ·rw[cT (jO e),hq];rcases List.mem_cons.mp hk with z|z
    ·exact absurd z.symm e
    ·exact i2 z
def gn(b:Bool)(W:List Wy)(k:Nat):Nat:=(aN b (aC W k)).toNat
def lst(b:Bool)(G T:List Pl)(W:List Wy)(i:Nat):List Nat:=fX b W i (bR b G T i).2
def amt(b:Bool)(G T:List Pl)(i:Nat):Int:=(bR b G T i).1
def mm(W:List Wy)(off:List Int)(q:Nat):Int:=min (off.getD q 0) (aC W q).2.2
def vl(P:List Int)(q:Nat):Int:=P.getD q 0
section
variable {G T:List Pl}{W:List Wy}{P X c off:List Int}{b:Bool}{i k q:Nat}
def nO(h:Wd G T W)(b:Bool)(hk:k < W.length):gn b W k < (aP b G T).length:=(h.WC b hk).2.1
def jz(h:Wd G T W)(hi:i < (aP b G T).length):(lst b G T W i).Perm (own b W i):=dP h (ik hi)
def gY(h:Wd G T W)(hi:i < (aP b G T).length):(lst b G T W i).Nodup:=(jz h hi).nodup_iff.mpr (List.nodup_range.filter _)
def iI(h:Wd G T W)(hi:i < (aP b G T).length):q∈lst b G T W i↔q < W.length/\gn b W q=i:=by
 rw[(jz h hi).mem_iff,dv];constructor
 ·rintro⟨h1,h2⟩;exact⟨h1,by unfold gn;rw[h2];simp⟩
 ·rintro⟨h1,h2⟩;have:=(h.WC b h1).2.2;unfold gn at h2;rw[h2] at this;exact⟨h1,this.symm⟩
def jj(h:Wd G T W)(b:Bool)(hk:k < W.length):k∈lst b G T W (gn b W k):=(iI h (nO h b hk)).mpr ⟨hk,rfl⟩
def OX(h:Wd G T W)(ho:Off off)(q:Nat):0<=mm W off q:=by
 have h1:=ho q;have h2:=h.lim q;unfold mm;lia
def Lx:∀ (is:List Nat) (a:Int) (l:List Int),is.Nodup->(∀i∈is,i < l.length)->∀k,(is.foldl (sV W off) (a,l)).2.getD k 0=if k∈is then ch (mm W off) a is k else l.getD k 0
 | [],a,l,_,_,k=>by simp
 | q::is,a,l,hn,hl,k=>by
  rw[kZ] at hn;have ih:=Lx is (a - cV W off a q) (l.set q (cV W off a q)) hn.2 (λi hi=>by rw[yC];exact hl i (zC _ hi)) k;rw[yJ];show (is.foldl (sV W off) (a - cV W off a q,l.set q (cV W off a q))).2.getD k 0=_;rw[ih];have hq:=hl q zE;by_cases e:k=q
  ·subst e;rw[yO hn.1,yM zE,cR,dw,yM ⟨rfl,hq⟩];rfl
  ·rw[cT e];by_cases hk:k∈is
   ·rw[yM hk,yM (zC _ hk)];rfl
   ·rw[yO hk,yO (by rw[zQ,not_or];exact⟨e,hk⟩),dw,yO (λz=>e z.1.symm)]
def qh(h:Wd G T W)(b:Bool)(off:List Int)(hk:k < W.length):(fu b G T W off).getD k 0=ch (mm W off) (amt b G T (gn b W k)) (lst b G T W (gn b W k)) k:=by
 have hi:=nO h b hk;rw[La h b hk];show (DL W off (amt b G T (gn b W k)) (lst b G T W (gn b W k))).getD k 0=_;unfold DL;rw[Lx _ _ _ (gY h hi) (λj hj=>by rw[xN];exact ((iI h hi).mp hj).1),yM (jj h b hk)]
def Ed(h:Wd G T W)(b:Bool)(i:Nat):0<=amt b G T i:=h.amt b i
def Lf(h:Wd G T W)(hi:i < (aP b G T).length):lK b W P i=sm (lst b G T W i) (vl P):=by
 unfold lK;rw[Nb (jz h hi)];rfl
def Fl(b:Bool)(G T:List Pl)(W:List Wy)(P:List Int)(k:Nat):Prop:=sm (up (lst b G T W (gn b W k)) k) (vl P)=amt b G T (gn b W k)
def Rs(G T:List Pl)(W:List Wy)(P:List Int):Prop:=∀k,k < W.length->P.getD k 0=(aC W k).2.2\/Fl false G T W P k\/Fl true G T W P k
def Pn.nn(p:Pn G T W P)(q:Nat):0<=vl P q:=by
 by_cases hq:q < W.length
 ·exact (p.bd q hq).1
 ·unfold vl;rw[lO (by rw[p.len];lia)];lia
def Pn.ZH(h:Wd G T W)(p:Pn G T W P)(hi:i < (aP b G T).length):sm (lst b G T W i) (vl P)<=amt b G T i:=by
 rw[<- Lf h hi];exact p.am b i hi
def GQ(h:Wd G T W)(p:Pn G T W P)(b:Bool)(hk:k < W.length):v7 b G T W P k=false↔Fl b G T W P k:=by
 obtain⟨z1,z2,z3⟩:=h.WC b hk;have hc:lst b G T W (gn b W k)=((bR b G T (gn b W k)).2.take (lI (bR b G T (gn b W k)).2 (bP b (aC W k)))).map (p9 b W (gn b W k))++k::((bR b G T (gn b W k)).2.drop (lI (bR b G T (gn b W k)).2 (bP b (aC W k))+1)).map (p9 b W (gn b W k)):=Mz h hk;have hn:=gY (b:=b) h z2;change (lst b G T W (gn b W k)).Nodup at hn;have hle:=p.ZH h z2;change sm (lst b G T W (gn b W k)) (vl P)<=amt b G T (gn b W k) at hle;have hth:=Lf (P:=P) h z2;have hy:v7 b G T W P k=(decide (lK b W P ((gn b W k:Nat):Int) < amt b G T (gn b W k))||(((bR b G T (gn b W k)).2.drop (lI (bR b G T (gn b W k)).2 (bP b (aC W k))+1)).map (p9 b W (gn b W k))).any λq=>decide (0 < vl P q)):=by
  unfold v7;rw[Zg];unfold gn amt;rw[z3];rfl
 change lK b W P ((gn b W k:Nat):Int)=sm (lst b G T W (gn b W k)) (vl P) at hth;unfold Fl;rw[hy,hth];revert hc;generalize ((bR b G T (gn b W k)).2.take (lI (bR b G T (gn b W k)).2 (bP b (aC W k)))).map (p9 b W (gn b W k))=xs;generalize ((bR b G T (gn b W k)).2.drop (lI (bR b G T (gn b W k)).2 (bP b (aC W k))+1)).map (p9 b W (gn b W k))=ys;intro hc;have hx:k∉xs:=λz=>by
  rw[hc,Zi] at hn;exact hn.2.2 k z k zE rfl
 rw[hc,JX hx];rw[hc] at hle;have e:sm (xs++k::ys) (vl P)=sm (xs++[k]) (vl P)+sm ys (vl P):=by
  rw[<- Qj];simp
 have hnn:=Ph (l:=ys) λq _=>p.nn q;have Xe:=Gd (P:=P) ys λq _=>p.nn q;change (0 < sm ys (vl P)↔(ys.any λq=>decide (0 < vl P q))=true) at Xe;rw[e] at hle ⊢;rw[Bool.or_eq_false_iff,xC];constructor
 ·rintro⟨h1,h2⟩;have:¬ 0 < sm ys (vl P):=λz=>by rw[Xe.mp z] at h2;cases h2
  lia
 ·intro h1;refine⟨by lia,?_⟩;cases hh:(ys.any λq=>decide (0 < vl P q)) with
  | false=>rfl
  | true=>have:=Xe.mpr hh;lia
def Dg(h:Wd G T W)(p:Pn G T W P):Hu G T W P=[]↔Rs G T W P:=by
 unfold Hu;rw[List.filter_eq_nil_iff];constructor
 ·intro hh k hk;have:=hh k (by simpa using hk);rw[zJ] at this;unfold ou at this;by_cases e1:P.getD k 0=(aC W k).2.2
  ·exact .inl e1
  ·rw[yO e1] at this;by_cases e2:v7 false G T W P k=false
   ·exact .inr (.inl ((GQ h p false hk).mp e2))
   ·rw[yO e2] at this;by_cases e3:v7 true G T W P k=false
    ·exact .inr (.inr ((GQ h p true hk).mp e3))
    ·rw[yO e3] at this;exact absurd rfl this
 ·intro hh k hk;rw[zJ];unfold ou;rcases hh k (by simpa using hk) with e|e|e
  ·rw[yM e];lia
  ·rw[yM ((GQ h p false (by simpa using hk)).mpr e)];split<;>lia
  ·rw[yM ((GQ h p true (by simpa using hk)).mpr e)];split
   ·lia
   ·split<;>lia
def GZ(e:DJ G T W c=some (k,q')):k < W.length/\q'=(vg G T W c).getD k 0/\(vg G T W c).getD k 0 < (fu false G T W c).getD k 0:=by
 unfold DJ at e;obtain⟨j,hj,e2⟩:=Dl.ag e;cases e2;have hm:=jZ hj;have hq:=wA hj;rw[qR,zJ] at hq;exact⟨List.mem_range.mp hm,rfl,hq⟩
def NZ(e:DJ G T W c=none)(hk:k < W.length):(fu false G T W c).getD k 0<=(vg G T W c).getD k 0:=by
 unfold DJ at e;rw[Option.map_eq_none_iff] at e;have:=List.find?_eq_none.mp e k (by simpa using hk);rw[qR,zJ] at this;lia
end
section
variable {P X c off:List Int}
def J0(h:Wd G T W)(hk:k < W.length)(hq:q∈lst b G T W (gn b W k)):q < W.length/\gn b W q=gn b W k:=(iI h (nO h b hk)).mp hq
def Er(h:Wd G T W)(hi:i < (aP b G T).length)(hq:q∈lst b G T W i):vl (fu b G T W off) q=ch (mm W off) (amt b G T i) (lst b G T W i) q:=by
 obtain⟨h1,h2⟩:=(iI h hi).mp hq;have:=qh h b off h1;rw[h2] at this;exact this
def Qg(h:Wd G T W)(ho:Off off)(b:Bool)(hk:k < W.length):sm (up (lst b G T W (gn b W k)) k) (vl (fu b G T W off))=min (amt b G T (gn b W k)) (sm (up (lst b G T W (gn b W k)) k) (mm W off)):=by
 have hi:=nO h b hk;rw[jt λq hq=>Er h hi (me hq)];exact Pk (gY h hi) (λq _=>OX h ho q) (Ed h b _) (jj h b hk)
def Du(h:Wd G T W)(b:Bool)(hk:k < W.length)(e:(fu b G T W off).getD k 0 < mm W off k):Fl b G T W (fu b G T W off) k:=by
 have hi:=nO h b hk;rw[qh h b off hk] at e;unfold Fl;rw[jt λq hq=>Er h hi (me hq)];exact FI (gY h hi) (jj h b hk) e
def EN(h:Wd G T W)(ho:Off off)(b:Bool)(hk:k < W.length):0<=(fu b G T W off).getD k 0/\(fu b G T W off).getD k 0<=mm W off k:=by
 have hi:=nO h b hk;rw[qh h b off hk];have:=OW (m:=mm W off) (a:=amt b G T (gn b W k)) (l:=lst b G T W (gn b W k)) (λq _=>OX h ho q) (Ed h b _) k;exact⟨this.1,this.2.2 (jj h b hk)⟩
end
section
variable {P X c off:List Int}
def yj(h:Wd G T W)(ho:Off c)(hk:k < W.length):0<=(vg G T W c).getD k 0/\(vg G T W c).getD k 0<=(fu false G T W c).getD k 0/\(fu false G T W c).getD k 0<=c.getD k 0/\(fu false G T W c).getD k 0<=(aC W k).2.2/\mm W (fu false G T W c) k=(fu false G T W c).getD k 0:=by
 have h1:=EN h ho false hk;have h2:=EN h (kr h ho false) true hk;change 0<=(vg G T W c).getD k 0/\(vg G T W c).getD k 0<=_ at h2;unfold mm at h1 h2 ⊢;lia
def Jn(G T:List Pl)(W:List Wy)(c:List Int):Prop:=∀k,k < W.length->c.getD k 0 < (aC W k).2.2->Fl true G T W (vg G T W c) k
def Qn(h:Wd G T W)(ho:Off c)(hl:c.length=W.length)(e:DJ G T W c=some (k,v))(hq:q < W.length):(vg G T W c).getD q 0<=(fu false G T W (c.set k v)).getD q 0:=by
 obtain⟨hk,rfl,Wg⟩:=GZ e;obtain⟨b0,b1,b2,b3,b4⟩:=yj h ho hk;obtain⟨d0,d1,d2,d3,d4⟩:=yj h ho hq;have hi:=nO h false hq;have hm:∀x,x≠k->mm W (c.set k ((vg G T W c).getD k 0)) x=mm W c x:=λx hx=>by
  unfold mm;rw[dw,yO (λz=>hx z.1.symm)]
 have hmk:mm W (c.set k ((vg G T W c).getD k 0)) k=(vg G T W c).getD k 0:=by
  unfold mm;rw[dw,yM ⟨rfl,by rw[hl];exact hk⟩];lia
 rw[qh h false _ hq];by_cases z:gn false W q=gn false W k
 ·have hkL:k∈lst false G T W (gn false W q):=by rw[z];exact jj h false hk
  have hA:vl (fu false G T W c) k=ch (mm W c) (amt false G T (gn false W q)) (lst false G T W (gn false W q)) k:=Er h hi hkL;unfold vl at hA;obtain⟨l1,l2⟩:=KA (m:=mm W c) (m':=mm W (c.set k ((vg G T W c).getD k 0))) (p:=k) (a:=amt false G T (gn false W q)) (l:=lst false G T W (gn false W q)) (gY h hi) (λx _ hx=>hm x hx) (by rw[hmk,<- hA];exact b1);by_cases y:q=k
  ·subst y;rw[l2 hkL,hmk];exact qA _
  ·have:=l1 q (jj h false hq) y;rw[<- qh h false c hq] at this;lia
 ·rw[ua (m:=mm W (c.set k ((vg G T W c).getD k 0))) (m':=mm W c) λx hx=>hm x λw=>by
   subst w;exact z ((iI h hi).mp hx).2.symm]
  rw[<- qh h false c hq];exact d1
def Jn.step(h:Wd G T W)(ho:Off c)(hl:c.length=W.length)(j:Jn G T W c)(e:DJ G T W c=some (k,v)):Jn G T W (c.set k v):=λq hq X3=>by
 have XA:Off (c.set k v):=F1 ho (J1 h ho e).2.1;have fq:Fl true G T W (vg G T W c) q:=by
  obtain⟨hk,rfl,Wg⟩:=GZ e;by_cases z:q=k
  ·subst z;exact Du h true hq (by rw[(yj h ho hq).2.2.2.2];exact Wg)
  ·rw[dw,yO (λw=>z w.1.symm)] at X3;exact j q hq X3
 have hu:=Qg h (kr h XA false) true hq;change sm _ (vl (vg G T W (c.set k v)))=_ at hu;unfold Fl at fq ⊢;have hs:sm (up (lst true G T W (gn true W q)) q) (vl (vg G T W c))<=sm (up (lst true G T W (gn true W q)) q) (mm W (fu false G T W (c.set k v))):=KI λx hx=>by
  have X4:=(J0 h hq (me hx)).1;have h1:=Qn h ho hl e X4;have h2:=yj h ho X4;unfold vl mm;lia
 rw[hu];lia
def So(h:Wd G T W):Jn G T W (fin G T W).2:=by
 have hb:=h.Yc;obtain⟨_,_,h2⟩:=z7 (RR G T W) (spS G T W) (λs=>Yc s.2) (λs=>Mn W s/\Jn G T W s.2)
  (λs ⟨i,j⟩ hc=>by
   obtain⟨⟨k,v⟩,e⟩:=C7 hc;obtain⟨i2,hm⟩:=i.step h e;refine⟨⟨i2,?_⟩,hm⟩;rw[DU e];exact j.step h i.off i.len e) Rf.turns ([],m5 W) (jA hb (by decide)) ⟨Mn.start h,λk hk hl=>by rw[Kd hk] at hl;lia⟩
 exact h2
def PP(h:Wd G T W):Rs G T W (Rb G T W):=λk hk=>by
 obtain⟨acD,i,X3⟩:=Gx h;have j:=So h;have heq:∀q,q < W.length->(Rb G T W).getD q 0=(vg G T W (fin G T W).2).getD q 0:=λq hq=>by
  have h1:=NZ acD hq;have h2:=(yj h i.off hq).2.1;unfold Rb;lia
 obtain⟨d0,d1,d2,d3,d4⟩:=yj h i.off hk;by_cases e:(Rb G T W).getD k 0=(aC W k).2.2
 ·exact .inl e
 ·by_cases e2:(Rb G T W).getD k 0 < mm W (fin G T W).2 k
  ·exact .inr (.inl (Du h false hk e2))
  ·have h3:=(EN h i.off false hk).2;have:(fin G T W).2.getD k 0 < (aC W k).2.2:=by
    unfold Rb at e e2;unfold mm at e2 h3;lia
   have f:=j k hk this;refine .inr (.inr ?_);unfold Fl at f ⊢;rw[<- f];exact jt λq hq=>heq q (J0 h hk (me hq)).1
end
section
variable {P X c off:List Int}
end
section
def Hz(h:Wd G T W)(hi:i < (aP b G T).length)(hp:P.length=W.length):eL [aH G T W,.int (sI b),nD i,ah P]=some (ah ((lst b G T W i).map (vl P))):=by
 have hw:=h.wl;have hl:(lst b G T W i).length<=16:=by
  rw[(jz h hi).length_eq];exact yD (tv b W i) hw
 have ew:dg [aH G T W,.int (sI b),nD i]=some (.list ((lst b G T W i).map nD)):=ye h (ik hi);refine aJ ?_;show k8 [.val (aH G T W),.val (.int (sI b)),.val (nD i),.val (ah P)]=_;have c:aw 1 [3] (bo (ai 3 dg (aa (ae 0) (aa (ae 1) (aa (ae 2) af))))) (fG 0) (λ_=>some true) (f2 az (ae 1) (ae 0)) [some (aH G T W),some (.int (sI b)),some (nD i),some (ah P)]=some ((lst b G T W i).map λq=>.int (P.getD q 0)) :=
  gV (uG ew rfl rfl) (by lia) λq hq=>aq (Bs (by rw[hp];exact ((iI h hi).mp hq).1)) rfl rfl
 refine aL ?_;show ba cF (aa (cf (aw 1 [3] (bo (ai 3 dg (aa (ae 0) (aa (ae 1) (aa (ae 2) af))))) (fG 0) (λ_=>some true) (f2 az (ae 1) (ae 0)))) af) [some (aH G T W),some (.int (sI b)),some (nD i),some (ah P)]=_;rw[fJ (d:=.list ((lst b G T W i).map λq=>.int (P.getD q 0))) (by simp only[cf,c,zB]),PX,ah,zM];rfl
end
def gz(h:f ρ=some ds):cf f ρ=some (.list ds):=by
 simp only[cf,h,zB]
def A5(h:f ρ=some (.tuple ds)):bo f ρ=some ds:=by
 simp only[bo,h,zA,fE]
def Oe(h:f ρ=some (.list ds)):bo f ρ=some ds:=by
 simp only[bo,h,zA,fE]
def qy(h:fs ρ=some ds)(hl:ds.length<=1000):cX fs ρ=some ds:=by
 simp only[cX,h,zA,bU (show ds.length<=4000 by lia)]
def nil_of(ρ:Dl.Env):cf (cX af) ρ=some (.list []):=gz (qy (ds:=[]) rfl (by simp))
def FZ(h:t ρ=some false):eV t u ρ=some false:=by
 simp only[eV,h,zA]
def Dq(h:t ρ=some true)(h2:u ρ=some b):eV t u ρ=some b:=by
 simp only[eV,h,zA,h2]
def rg{l:List Nat}:SeqAt.shaped (.list (l.map nD))=true :=
 (ja.lst (b:=l.length) (k:=0) (by simp) λx hx=>by obtain⟨i,_,rfl⟩:=List.mem_map.mp hx;exact kh _).shaped (by decide)
def Im(l:List Nat):bz (.list (l.map nD)) (.list [])=some (.bool (decide (l=[]))):=by
 have h0:SeqAt.shaped (.list [])=true:=rg (l:=[]);have e:(l.map nD).isEmpty=decide (l=[]):=by cases l<;>rfl
 simp only[bz,OA,rg,h0,jQ,xI,PyData.eqv,vf,e,zB]
def Dz(hf:f ρ=some (aH G T W))(hg:g ρ=some (.int (sI b))):(aa (ba aZ (aa (f2 az f g) af)) af) ρ=some [nD (aP b G T).length] :=
 cons_of (iO (l:=aP b G T) (k:=bc) (aq (d9 b G T W) hf hg)) rfl
section
end
section
end
structure Wk(G T G' T':List Pl):Prop where
 len:∀b,(aP b G' T').length=(aP b G T).length
 lik:∀b i,(bR b G' T' i).2=(bR b G T i).2
 gv:∀i,amt false G' T' i<=amt false G T i
 tk:∀i,amt true G T i<=amt true G' T' i
section
end
section
variable {P X off:List Int}
def uA(h:Wd G T W)(b:Bool)(hi:i < (aP b G T).length):di [aH G T W,.int (sI b),nD i]=some .none:=by
 have:dW [.val (aH G T W),.val (.int (sI b)),.val (nD i)]=some (.nx [.val (aH G T W),.val (.int (sI b)),.val (nD i)]):=by
  unfold dW;refine (ak (hV (call_of (o5 b) rfl rfl))).trans ?_;exact hV (call_of (mv (n:=((aP b G T).length:Nat)) (i:=(i:Nat)) (by lia) (by lia)) (cons_of rfl (cons_of (iO (l:=aP b G T) (k:=bc) (aq (d9 b G T W) rfl rfl)) rfl)) rfl)
 show (dW [.val (aH G T W),.val (.int (sI b)),.val (nD i)]).map _=_;rw[this];rfl
end
def oi(l:Int)(fs:List (List Int)):List (List Int):=(fs.map λr=>(List.range (l+1).toNat).map λm=>r++[((m:Nat):Int)]).flatten
def ym:List Wy->List (List Int)->List (List Int)
 | [],fs=>fs
 | w::W,fs=>ym W (oi w.2.2 fs)
def tK:r∈oi l fs↔∃r'∈fs,∃v:Int,0<=v/\v<=l/\r=r'++[v]:=by
 unfold oi;rw[List.mem_flatten];constructor
 ·rintro⟨L,hL,hr⟩;obtain⟨r',h',rfl⟩:=List.mem_map.mp hL;obtain⟨m,hm,rfl⟩:=List.mem_map.mp hr;rw[zS] at hm;exact⟨r',h',_,by lia,by lia,rfl⟩
 ·rintro⟨r',h',v,h0,h1,rfl⟩;exact⟨_,List.mem_map.mpr ⟨r',h',rfl⟩,List.mem_map.mpr ⟨v.toNat,by rw[zS];lia,by rw[show ((v.toNat:Nat):Int)=v by lia]⟩⟩
def GF:∀ {W:List Wy}{fs:List (List Int)}{r:List Int},r∈ym W fs↔∃r'∈fs,∃q:List Int,q.length=W.length/\(∀k,k < W.length->0<=q.getD k 0/\q.getD k 0<=(aC W k).2.2)/\r=r'++q
 | [],fs,r=>by
  unfold ym;constructor
  ·intro h;exact⟨r,h,[],rfl,λk hk=>by simp at hk,by simp⟩
  ·rintro⟨r',h',q,hq,_,rfl⟩;have:q=[]:=List.length_eq_zero_iff.mp hq;subst this;simpa using h'
 | w::W,fs,r=>by
  rw[ym,GF];constructor
  ·rintro⟨r',h',q,hq,hb,rfl⟩;obtain⟨r2,h2,v,h0,h1,rfl⟩:=tK.mp h';refine⟨r2,h2,v::q,by simp[hq],λk hk=>?_,by simp⟩;cases k with
   | zero=>exact⟨h0,h1⟩
   | succ k=>exact hb k (by simpa using hk)
  ·rintro⟨r',h',q,hq,hb,rfl⟩;cases q with
   | nil=>simp at hq
   | cons v q =>
    refine⟨r'++[v],tK.mpr ⟨r',h',v,(hb 0 (by simp)).1,(hb 0 (by simp)).2,rfl⟩,q,by simpa using hq,λk hk=>hb (k+1) (by simpa using hk),by simp⟩
def Ay(l:Int)(fs:List (List Int)):(oi l fs).length=fs.length * (l+1).toNat:=by
 unfold oi
 induction fs with
 | nil=>simp
 | cons r fs ih=>rw[zI,qN,zN,ih,zL,Nat.add_mul];simp;lia
section
def wB:ar->Option Out:=(Bp 3 [2,4] (aw 1 [4] (aE (aa (f2 Dl.aD (f2 az (ae 2) (fC (.int 2))) (fC (.int 1))) af)) (fG 0) (λ_=>some true) (f2 Dl.aD (ae 1) (aA (aa (ae 0) af)))))
def ext(l:Int)(r:List Int):List (List Int):=(List.range (l+1).toNat).map λm=>r++[((m:Nat):Int)]
def QB{acc:List (List Int)}(hl:0<=w.2.2/\w.2.2<=9)(hr:r.length<=100)(ha:acc.length<=7000):wB [.val d,x1,.val (au w),.own (acc.map ah),.val (ah r)]=some (.nx [.val d,x1,.val (au w),.own ((acc++ext w.2.2 r).map ah),.val (ah r)]):=by
 have c:aw 1 [4] (aE (aa (f2 Dl.aD (f2 az (ae 2) (fC (.int 2))) (fC (.int 1))) af)) (fG 0) (λ_=>some true) (f2 Dl.aD (ae 1) (aA (aa (ae 0) af))) (bV [.val d,x1,.val (au w),.own (acc.map ah),.val (ah r)])=some ((List.range (w.2.2+1).toNat).map λm=>ah (r++[((m:Nat):Int)])):=by
  refine gV (gu (n:=(w.2.2+1).toNat) (cons_of ?_ rfl) (by lia)) (by rw[zR];lia) λm _=>aq (mM (a:=r) (b:=[((m:Nat):Int)]) (by simp;lia)) rfl (E8 rfl);rw[show nD (w.2.2+1).toNat=.int (w.2.2+1) by show PyData.int _=_;congr 1;lia];exact aq (cZ w.2.2 1) (aq (td w) rfl rfl) rfl
 have hh:hand [2,4] 0 [Slot.val d,x1,.val (au w),.own (acc.map ah),.val (ah r)]=[Slot.val d,x1,.val (au w),.own (acc.map ah),.val (ah r)]:=rfl;have hz:(acc.map ah).length+((List.range (w.2.2+1).toNat).map λm=>ah (r++[((m:Nat):Int)])).length<=sizeLine:=by
  rw[zD,zD,zR];exact yD (show acc.length+(w.2.2+1).toNat<=8000 by lia) (by decide)
 have e:(acc++ext w.2.2 r).map ah=acc.map ah++(List.range (w.2.2+1).toNat).map λm=>ah (r++[((m:Nat):Int)]):=by
  rw[jB,ext,zM];rfl
 unfold wB Bp;rw[hh,c,zA,e];simp only[sQ,yZ,xR,hz,xI,zB,zA];rfl
def wO:ar->Option Out:=(ay (aW 3 [] (cX af)) (ay (cq [1] (bo (ae 1)) (gM 4) wB) (Dl.aR 1 [3] (ae 3))))
def BP(l:Int)(r:List Int)(fs:List (List Int)):oi l (r::fs)=ext l r++oi l fs:=by simp[oi,ext]
def Kh(hl:0<=w.2.2/\w.2.2<=2):∀ (fs acc:List (List Int)) (x4:Slot),(∀r∈fs,r.length<=16)->acc.length+3 * fs.length<=7000->∃y4,cE (gM 4) wB (fs.map ah) [.val d,x1,.val (au w),.own (acc.map ah),x4]=some (.nx [.val d,x1,.val (au w),.own ((acc++oi w.2.2 fs).map ah),y4])
 | [],acc,x4,_,_=>⟨x4,by simp[oi,cE]⟩
 | r::fs,acc,x4,hr,hb=>by
  have he:(ext w.2.2 r).length<=3:=by unfold ext;rw[zD,zR];lia
  rw[zL] at hb;obtain⟨y4,e⟩:=Kh (d:=d) (x1:=x1) hl fs (acc++ext w.2.2 r) (.val (ah r)) (λq hq=>hr q (zC _ hq)) (by rw[zN];lia);have h1:=QB (d:=d) (x1:=x1) (w:=w) (acc:=acc) (r:=r) ⟨hl.1,by lia⟩ (by have:=hr r zE;lia) (by lia);have ht:gM 4 [.val d,x1,.val (au w),.own (acc.map ah),x4] (ah r)=some [.val d,x1,.val (au w),.own (acc.map ah),.val (ah r)]:=rfl;refine⟨y4,?_⟩;rw[zI,cE,ht,zA,h1];show cE (gM 4) wB (fs.map ah) _=_;rw[e,BP,List.append_assoc]
def QH(hl:0<=w.2.2/\w.2.2<=2)(hr:∀r∈fs,r.length<=16)(hf:fs.length<=2187)(h1:s1=.own (fs.map ah)\/s1=.val (.list (fs.map ah))):∃y3 y4,wO [.val d,s1,.val (au w),x3,x4]=some (.nx [.val d,.val (.list ((oi w.2.2 fs).map ah)),.val (au w),y3,y4]):=by
 obtain⟨y4,e⟩:=Kh (d:=d) (x1:=.val (.list (fs.map ah))) hl fs [] x4 hr (by simp;lia);rw[xP] at e;have t1:aW 3 [] (cX af) [.val d,s1,.val (au w),x3,x4]=some (.nx [.val d,s1,.val (au w),.own [],x4]):=gZ (qy (ds:=[]) rfl (by simp)) rfl;have hh:hand [1] 0 [.val d,s1,.val (au w),.own [],x4]=[Slot.val d,.val (.list (fs.map ah)),.val (au w),.own [],x4]:=by
  rcases h1 with rfl|rfl<;>rfl
 unfold wO;rw[ak t1];refine⟨.val (.list ((oi w.2.2 fs).map ah)),y4,?_⟩;refine (ak (bF e rfl hh)).trans ?_;exact nV (ρ':=[.val d,.val (.list (fs.map ah)),.val (au w),.val (.list ((oi w.2.2 fs).map ah)),y4]) rfl (d:=.list ((oi w.2.2 fs).map ah)) rfl rfl rfl (.inl rfl)
def F9(h:∀r∈fs,r.length<=n):∀r∈oi l fs,r.length<=n+1:=λr hr=>by
 obtain⟨r',h',v,_,_,rfl⟩:=tK.mp hr;have:=h r' h';simp;lia
def Ku:∀ (W:List Wy) (fs:List (List Int)) (s1 x2 x3 x4:Slot),(∀w∈W,0<=w.2.2/\w.2.2<=2)->fs.length * 3 ^ W.length<=2187->(∀r∈fs,r.length<=16 - W.length)->W.length<=16->(s1=.own (fs.map ah)\/s1=.val (.list (fs.map ah))) ->
  ∃YH y2 y3 y4,cE (gM 2) wO (W.map au) [.val d,s1,x2,x3,x4]=some (.nx [.val d,YH,y2,y3,y4])/\(YH=.own ((ym W fs).map ah)\/YH=.val (.list ((ym W fs).map ah)))
 | [],fs,s1,x2,x3,x4,_,_,_,_,h1=>⟨s1,x2,x3,x4,rfl,h1⟩
 | w::W,fs,s1,x2,x3,x4,hl,hf,hr,hw,h1=>by
  rw[zL] at hf hr hw;have hp:1<=3 ^ W.length:=Nat.one_le_pow _ _ (by lia);have hf1:fs.length<=2187:=by
   refine yD ?_ hf;exact Nat.le_mul_of_pos_right _ (Nat.pow_pos (by lia))
  have hlw:=hl w zE;obtain⟨y3,y4,e⟩:=QH (d:=d) (x3:=x3) (x4:=x4) hlw (λr W9=>by have:=hr r W9;lia) hf1 h1;have hll:(oi w.2.2 fs).length<=fs.length * 3:=by rw[Ay];exact Nat.mul_le_mul_left _ (by lia)
  obtain⟨YH,z2,z3,z4,e2,h2⟩:=Ku (d:=d) W (oi w.2.2 fs) (.val (.list ((oi w.2.2 fs).map ah))) (.val (au w)) y3 y4 (λq hq=>hl q (zC _ hq)) (by
   refine yD (Nat.mul_le_mul_right _ hll) ?_;rw[Nat.mul_assoc,<- Nat.pow_succ'];exact hf) (λr W9=>by
   have:=F9 (n:=16 - (W.length+1)) hr r W9;lia) (by lia) (.inr rfl)
  have ht:gM 2 [.val d,s1,x2,x3,x4] (au w)=some [.val d,s1,.val (au w),x3,x4]:=rfl;refine⟨YH,z2,z3,z4,?_,h2⟩;rw[zI,cE,ht,zA,e];exact e2
def KW(hl:∀w∈W,0<=w.2.2/\w.2.2<=2)(hw:W.length<=7):ee [.tuple (W.map au)]=some (.list ((ym W [[]]).map ah)):=by
 obtain⟨YH,z2,z3,z4,e2,h2⟩:=Ku (d:=.tuple (W.map au)) W [[]] (.own ([[]].map ah)) .V6 .V6 .V6 hl (by
  rw[xD,Nat.one_mul];exact yD (Nat.pow_le_pow_right (by lia) hw) (by decide)) (λr hr=>by simp at hr;subst hr;simp) (by lia) (.inl rfl)
 refine aJ ?_;show dY [.val (.tuple (W.map au)),.V6,.V6,.V6,.V6]=_;unfold dY;refine (ak (gZ (ds:=[[]].map ah) (qy (cons_of (tup_is (ds:=[]) rfl (by simp)) rfl) (by simp)) rfl)).trans ?_;refine (ak (bF e2 rfl rfl)).trans ?_;refine aL ?_;rcases h2 with rfl|rfl<;>rfl
def um:∀ (l:List α),(∀x∈l,tt (some (g x)::r)=some (q x)/\(q x=true->te (some (g x)::r)=some (f x)))->dU (fG 0) tt te (none::r) (l.map g)=some ((l.filter q).map f)
 | [],_=>rfl
 | x::l,h=>by
  have ih:=um (tt:=tt) (te:=te) (r:=r) (g:=g) (f:=f) (q:=q) l λy hy=>h y (zC _ hy);obtain⟨h1,h2⟩:=h x zE;have hg:fG 0 (none::r) (g x)=some (some (g x)::r):=rfl;rw[zI,dU,hg,zA,h1,zA,jY];cases e:q x with
  | true =>
   rw[yM rfl,yM rfl,h2 e,zA,ih];rfl
  | false =>
   rw[yO (by simp),yO (by simp),ih]
def mR{α:Type}{cs:List Nat}{fi:Dl.Env->Option (List D)}{tt:Dl.Env->Option Bool}{te:Dl.Env->Option D}{ρ:Dl.Env}{l:List α}{g f:α->D}{q:α->Bool}(Xp:fi ρ=some (l.map g))(hl:l.length<=3000)(hh:∀x∈l,tt (some (g x)::cs.map λj=>(ρ[j]?).getD none)=some (q x)/\(q x=true->te (some (g x)::cs.map λj=>(ρ[j]?).getD none)=some (f x))):aw 1 cs fi (fG 0) tt te ρ=some ((l.filter q).map f):=by
 have:=um l hh;simp only[aw,Xp,zA,fv,List.replicate,xG,xP,this];refine bU ?_;rw[zD];refine yD (xQ _ _) ?_;lia
def II{α:Type}{cs:List Nat}{fi:Dl.Env->Option (List D)}{tt:Dl.Env->Option Bool}{te:Dl.Env->Option D}{ρ:Dl.Env}{l:List α}{g f:α->D}{q:α->Bool}(Xp:fi ρ=some (l.map g))(hl:l.length<=1000)(hh:∀x∈l,tt (some (g x)::cs.map λj=>(ρ[j]?).getD none)=some (q x)/\(q x=true->te (some (g x)::cs.map λj=>(ρ[j]?).getD none)=some (f x))):aw 1 cs fi (fG 0) tt te ρ=some ((l.filter q).map f):=mR Xp (by lia) hh
def mB:ar->Option Out:=(Dl.aR 1 [1,2] (f2 Dl.cJ (ae 1) (f2 Dl.aD (f2 az (ae 2) (fC (.int 2))) (fC (.int 1)))))
def LW:∀ (W:List Wy) (p:Nat) (x2:Slot),(∀w∈W,0<=w.2.2/\w.2.2<=2)->p * 3 ^ W.length<=2187->∃p' y2,cE (gM 2) mB (W.map au) [.val d,.val (nD p),x2]=some (.nx [.val d,.val (nD p'),y2])/\p'<=2187
 | [],p,x2,_,hp=>⟨p,x2,rfl,by simpa using hp⟩
 | w::W,p,x2,hl,hp=>by
  have hlw:=hl w zE;rw[zL] at hp;have hp1:p<=2187:=yD (Nat.le_mul_of_pos_right _ (Nat.pow_pos (by lia))) hp;obtain⟨p',y2,e,h2⟩:=LW (d:=d) W (p * (w.2.2+1).toNat) (.val (au w)) (λq hq=>hl q (zC _ hq)) (by
   refine yD (Nat.mul_le_mul_right _ (Nat.mul_le_mul_left p (show (w.2.2+1).toNat<=3 by lia))) ?_;rw[Nat.mul_assoc,<- Nat.pow_succ'];exact hp)
  have ht:gM 2 [.val d,.val (nD p),x2] (au w)=some [.val d,.val (nD p),.val (au w)]:=rfl;have hm:mB [.val d,.val (nD p),.val (au w)]=some (.nx [.val d,.val (nD (p * (w.2.2+1).toNat)),.val (au w)]):=by
   have hv:nD (p * (w.2.2+1).toNat)=.int (((p:Nat):Int) * (w.2.2+1)):=by
    show PyData.int _=_;rw[Int.natCast_mul,show (((w.2.2+1).toNat:Nat):Int)=w.2.2+1 by lia]
   rw[hv];unfold mB;exact cm (aq (cP (.inl ⟨by lia,by lia⟩)) rfl (aq (cZ _ _) (aq (td w) rfl rfl) rfl)) rfl
  refine⟨p',y2,?_,h2⟩;rw[zI,cE,ht,zA,hm];exact e
def Az(hl:∀w∈W,0<=w.2.2/\w.2.2<=2)(hw:W.length<=7):dE [aH G T W]=some .none:=by
 obtain⟨p',y2,e,h2⟩:=LW (d:=aH G T W) W 1 .V6 hl (by rw[Nat.one_mul];exact yD (Nat.pow_le_pow_right (by lia) hw) (by decide));have:eX [.val (aH G T W),.V6,.V6]=some (.nx [.val (aH G T W),.val (nD p'),y2]):=by
  unfold eX;refine (ak (cm (d:=.int 1) rfl rfl)).trans ?_;refine (ak (bF e rfl rfl)).trans ?_;exact bj (aV (aq ((eY _ _).trans (by rw[zZ (by lia)])) rfl rfl))
 show (eX [.val (aH G T W),.V6,.V6]).map _=_;rw[this];rfl
def gp(G T:List Pl)(W:List Wy):List (List Int):=(ym W [[]]).filter (Mj G T W)
def allR(G T:List Pl)(W:List Wy):List (List Int):=(gp G T W).filter λP=>decide (Hu G T W P=[])
def A4:r∈ym W [[]]↔r.length=W.length/\∀k,k < W.length->0<=r.getD k 0/\r.getD k 0<=(aC W k).2.2:=by
 rw[GF];constructor
 ·rintro⟨r',h',q,hq,hb,rfl⟩;simp at h';subst h';exact⟨hq,hb⟩
 ·rintro⟨h1,h2⟩;exact⟨[],by simp,r,h1,h2,rfl⟩
def uz:X∈gp G T W↔Pn G T W X:=by
 unfold gp;rw[List.mem_filter,A4];constructor
 ·rintro⟨⟨h1,h2⟩,h3⟩;exact (Bg h1).mp h3
 ·intro p;exact⟨⟨p.len,p.bd⟩,(Bg p.len).mpr p⟩
def C6(h:Wd G T W):X∈allR G T W↔Pn G T W X/\Rs G T W X:=by
 unfold allR;rw[List.mem_filter,uz,zJ];constructor
 ·rintro⟨p,r⟩;exact⟨p,(Dg h p).mp r⟩
 ·rintro⟨p,r⟩;exact⟨p,(Dg h p).mpr r⟩
def AE:∀ (W:List Wy) (fs:List (List Int)),(∀w∈W,0<=w.2.2/\w.2.2<=2)->(ym W fs).length<=fs.length * 3 ^ W.length
 | [],fs,_=>by simp[ym]
 | w::W,fs,hl=>by
  rw[ym];refine yD (AE W _ λq hq=>hl q (zC _ hq)) ?_;have:=hl w zE;rw[Ay,zL,Nat.pow_succ',<- Nat.mul_assoc];exact Nat.mul_le_mul_right _ (Nat.mul_le_mul_left _ (by lia))
def BX(h:Wd G T W)(hl:∀w∈W,0<=w.2.2/\w.2.2<=2)(hw:W.length<=7):cx [aH G T W]=some (.list ((gp G T W).map ah))/\(ym W [[]]).length<=2187:=by
 have hlen:(ym W [[]]).length<=2187:=by
  have:=AE W [[]] hl;rw[xD,Nat.one_mul] at this;exact yD this (yD (Nat.pow_le_pow_right (by lia) hw) (by decide))
 refine⟨?_,hlen⟩;refine aJ ?_;show iG [.val (aH G T W)]=_;unfold iG;refine (ak (hV (call_of (iY h) rfl rfl))).trans ?_;refine (ak (hV (call_of (Az hl hw) rfl rfl))).trans ?_;refine aL (gz (mR (g:=ah) (f:=ah) (q:=Mj G T W) (uG (KW hl hw) (cons_of (aq (tj G T W) rfl rfl) rfl) rfl) (by lia) λx hx=>⟨?_,λ_=>rfl⟩));obtain⟨h1,h2⟩:=A4.mp hx;exact aV (call_of (zi h h1 λk=>by
  by_cases hk:k < W.length
  ·have a:=h2 k hk;have b:=(h.wr _ (mi hk)).2.2.2;lia
  ·rw[lO (by lia)];lia) rfl rfl)
def Bi(h:Wd G T W)(hl:∀w∈W,0<=w.2.2/\w.2.2<=2)(hw:W.length<=7):cC [aH G T W]=some (.list ((allR G T W).map ah))/\(allR G T W).length<=2187:=by
 obtain⟨e,hlen⟩:=BX h hl hw;have hp:(gp G T W).length<=2187:=yD (xQ _ _) hlen;refine⟨?_,yD (xQ _ _) hp⟩;refine aJ ?_;show iD [.val (aH G T W)]=_;unfold iD;refine aL (gz (mR (g:=ah) (f:=ah) (q:=λP=>decide (Hu G T W P=[])) (uG e rfl rfl) (by lia) λx hx=>⟨?_,λ_=>rfl⟩));have p:=uz.mp hx;exact aV (call_of (ER h p.len (p.smP h)) rfl rfl)
end
section
end
section
def Jq(P:List Int):bK 0 (P.map PyData.int)=(List.range P.length).map λi=>.tuple [nD i,.int (P.getD i 0)]:=by
 rw[enum_zip];apply jI
 ·simp
 ·intro i h1 h2;have:i < P.length:=by simpa using h2
  simp[this]
end
def JG(hf:f (bV ρ)=some (.tuple [x,y]))(hh:hand fz 0 ρ=ρ):nR i j fz f ρ=some (.nx ((ρ.set i (.val x)).set j (.val y))):=by
 simp only[nR,hh,hf,zA,ite_self]
def C4(hl:l.length<=1000)(hb:∀x∈l,-1000000<=x/\x<=1000000):iA [ah l]=some (.int l.sum):=by
 have Wb:Kg l=true:=by
  unfold Kg;rw[zF,zJ,xH];refine⟨hl,λx hx=>?_⟩;rw[zF,zJ,zJ];exact hb x hx
 show iA [.tuple (l.map PyData.int)]=_;simp only[iA,cg,oneOf,fE,zA,bS,Wb,xI]
section
def Ax(h:x∈L):iT (ah L) (.int x)=some (nD (lI L x)):=by
 show (intsOf (L.map PyData.int)).bind _=_;rw[bS,zA,mP h];rfl
def zy(h:x∈L):lI L x < L.length:=kP ⟨x,h,by simp⟩
def EK(h:x∈L):L[lI L x]?=some x:=by
 have hl:=zy h;have:=wM (xs:=L) (p:=λo=>decide (o=x)) (w:=hl);rw[zK hl];exact jD some (yR this)
def FJ(hn:L.Nodup):x∈L.drop n↔x∈L/\n<=lI L x:=by
 constructor
 ·intro h;have hm:=List.mem_of_mem_drop h;refine⟨hm,?_⟩;obtain⟨m,hm1,hm2⟩:=qS h;rw[List.getElem_drop] at hm2;have h1:L[n+m]?=some x:=by rw[zK (by rw[qJ] at hm1;lia),hm2]
  have h2:=EK hm;have:n+m=lI L x:=by
   have hl:=zy hm;exact (List.getElem?_inj (by rw[qJ] at hm1;lia) hn).mp (h1.trans h2.symm)
  lia
 ·rintro⟨hm,hle⟩;have h2:=EK hm;have:(L.drop n)[lI L x - n]?=some x:=by rw[List.getElem?_drop,show n+(lI L x - n)=lI L x by lia];exact h2
  exact qC this
def ND(b:Bool)(W:List Wy)(P L:List Int)(j:Int)(o:Int)(i:Nat):Bool:=decide (aN b (aC W i)=j)&&(decide (0 < P.getD i 0)&&decide (lI L o < lI L (bP b (aC W i))))
def RI(h:Wd G T W){b:Bool}{j:Nat}{pl:Pl}(e:(aP b G T)[j]?=some pl)(o:Int):(List.range W.length).any (ND b W P pl.2 j o)=(pl.2.drop (lI pl.2 o+1)).any λo=>decide (0 < P.getD (p9 b W j o) 0):=by
 have hn:pl.2.Nodup:=by
  have:=(dP h e).nodup_iff.mpr (List.nodup_range.filter _);unfold fX at this;exact List.Pairwise.of_map _ (λa b Xf e=>Xf (jD _ e)) this
 rw[vB,List.any_eq_true,List.any_eq_true];constructor
 ·rintro⟨i,hi,hq⟩;unfold ND at hq;simp only[zF,zJ] at hq;obtain⟨h1,h2,h3⟩:=hq;have Xt:i < W.length:=by simpa using hi
  have io:i∈own b W j:=dv.mpr ⟨Xt,h1⟩;have ip:=(dP h e).mem_iff.mpr io;unfold fX at ip;obtain⟨y,hy,hyi⟩:=List.mem_map.mp ip;have hyo:=(iH h e hy).2.2;rw[hyi] at hyo;refine⟨y,(FJ hn).mpr ⟨hy,by rw[<- hyo];lia⟩,?_⟩;rw[hyi];simpa using h2
 ·rintro⟨y,hy,hq⟩;obtain⟨hm,hle⟩:=(FJ hn).mp hy;obtain⟨h1,h2,h3⟩:=iH h e hm;refine⟨p9 b W j y,by simpa using h1,?_⟩;unfold ND;rw[h3];simp only[zF,zJ] at hq ⊢;exact⟨h2,hq,by lia⟩
abbrev sW(G T:List Pl)(W:List Wy)(P:List Int)(b:Bool)(j:Nat)(o:Int)(x y z:Slot):ar:=[.val (aH G T W),.val (ah P),.val (.int (sI b)),.val (nD j),.val (.int o),x,y,z]
abbrev sY(G T:List Pl)(W:List Wy)(P:List Int)(k:Nat):ar:=[.val (aH G T W),.val (ah P),.val (nD k),.val (.int (aC W k).1),.val (.int (aC W k).2.1),.val (.int (aC W k).2.2)]
def V3:ar->Option Out:=(eI (eV (fB (f2 bz (f2 az (ae 7) (ae 2)) (ae 3))) (eV (fB (f2 tx (ae 6) (fC (.int 0)))) (fB (f2 tx (f2 iT (ae 5) (f2 az (ae 7) (f2 Dl.dJ (fC (.int 1)) (ae 2)))) (f2 iT (ae 5) (ae 4)))))) (aI (fC (.bool true))) dS)
def rL(h:Wd G T W)(hp:P.length=W.length)(hs:Sm P)(b:Bool){k:Nat}(hk:k < W.length):cW [aH G T W,ah P,.int (sI b),.int (aN b (aC W k)),.int (bP b (aC W k))]=some (.bool (v7 b G T W P k)):=by
 have hw:=h.wl;obtain⟨z1,z2,z3⟩:=h.WC b hk;have hx:(aP b G T)[(aN b (aC W k)).toNat]?=some (bR b G T (aN b (aC W k)).toNat):=by
  rw[zK z2];simp[bR,z2]
 have Zw:∀i,i < W.length->aN b (aC W i)=((aN b (aC W k)).toNat:Int)->bP b (aC W i)∈(bR b G T (aN b (aC W k)).toNat).2:=λi hi he=>by
  have io:i∈own b W ((aN b (aC W k)).toNat:Int):=dv.mpr ⟨hi,he⟩;have ip:=(dP h hx).mem_iff.mpr io;unfold fX at ip;obtain⟨y,hy,hyi⟩:=List.mem_map.mp ip;have hyo:=(iH h hx hy).2.2;rw[hyi] at hyo;rw[hyo];exact hy
 have hko:=Zw k hk z3.symm;have acF:=RI (P:=P) h hx (bP b (aC W k));have hm:v7 b G T W P k=(decide (lK b W P ((aN b (aC W k)).toNat:Int) < (bR b G T (aN b (aC W k)).toNat).1)||((bR b G T (aN b (aC W k)).toNat).2.drop (lI (bR b G T (aN b (aC W k)).toNat).2 (bP b (aC W k))+1)).any λo=>decide (0 < P.getD (p9 b W ((aN b (aC W k)).toNat:Int) o) 0)):=by
  unfold v7;rw[z3]
 rw[hm,<- acF];have ez:PyData.int (aN b (aC W k))=nD (aN b (aC W k)).toNat:=by show _=PyData.int _;rw[z3]
 rw[ez];generalize W5:bR b G T (aN b (aC W k)).toNat=pl at *;generalize hj:(aN b (aC W k)).toNat=j at *;generalize ho:bP b (aC W k)=o at *;clear hm acF ez;have ep:az (.tuple ((aP b G T).map bc)) (nD j)=some (bc pl):=l5 hx;refine aJ ?_;show gT (sW G T W P b j o .V6 .V6 .V6)=_;unfold gT;have ct:(fB (f2 EY (ai 4 bu (aa (ae 0) (aa (ae 1) (aa (ae 2) (aa (ae 3) af))))) (f2 az (f2 az (f2 az (ae 0) (ae 2)) (ae 3)) (fC (.int 0))))) (aK (sW G T W P b j o .V6 .V6 .V6))=some (decide (lK b W P j < pl.1)):=by
  refine aV (aq (mW _ _) (call_of (nY h hp hs b j) rfl rfl) ?_);exact aq (a:=bc pl) (b:=.int 0) rfl (aq ep (aq (d9 b G T W) rfl rfl) rfl) rfl
 cases hc:decide (lK b W P j < pl.1) with
 | true =>
  rw[hc] at ct;exact eZ ((bW ct).trans (aL rfl))
 | false =>
  rw[hc] at ct;rw[ak (bj ct),Bool.false_or];have er:∀ρ:Dl.Env,ae 0 ρ=some (aH G T W)->ae 2 ρ=some (.int (sI b))->ae 3 ρ=some (nD j)->(f2 az (f2 az (f2 az (ae 0) (ae 2)) (ae 3)) (fC (.int 1))) ρ=some (ah pl.2):=λρ h0 h2 h3=>aq (a:=bc pl) (b:=.int 1) rfl (aq ep (aq (d9 b G T W) h0 h2) h3) rfl;rw[ak (b8 (er _ rfl rfl rfl) (er _ rfl rfl rfl) rfl)];obtain⟨f1,XW⟩:=g9 (tgt:=gy 6 7) (gb:=V3) (λρ=>∃x y,ρ=(sW G T W P b j o (.val (ah pl.2)) x y)) (λi:Nat=>.tuple [.int (P.getD i 0),au (aC W i)]) (ND b W P pl.2 j o) (λ_=>.bool true)
   (l:=List.range W.length) (ρ:=(sW G T W P b j o (.val (ah pl.2)) .V6 .V6))
   (λρ i hi Xz=>by
    obtain⟨x,y,rfl⟩:=Xz;have Xt:i < W.length:=by simpa using hi
    have c:(eV (fB (f2 bz (f2 az (ae 7) (ae 2)) (ae 3))) (eV (fB (f2 tx (ae 6) (fC (.int 0)))) (fB (f2 tx (f2 iT (ae 5) (f2 az (ae 7) (f2 Dl.dJ (fC (.int 1)) (ae 2)))) (f2 iT (ae 5) (ae 4)))))) (aK (sW G T W P b j o (.val (ah pl.2)) (.val (.int (P.getD i 0))) (.val (au (aC W i)))))=some (ND b W P pl.2 j o i):=by
     have c1:(fB (f2 bz (f2 az (ae 7) (ae 2)) (ae 3))) (aK (sW G T W P b j o (.val (ah pl.2)) (.val (.int (P.getD i 0))) (.val (au (aC W i)))))=some (decide (aN b (aC W i)=((j:Nat):Int))):=aV (aq (cB _ _) (aq (kq b _) rfl rfl) rfl);unfold ND;cases e1:decide (aN b (aC W i)=((j:Nat):Int)) with
     | false=>rw[e1] at c1;exact FZ c1
     | true =>
      rw[e1] at c1;refine Dq c1 ?_;have c2:(fB (f2 tx (ae 6) (fC (.int 0)))) (aK (sW G T W P b j o (.val (ah pl.2)) (.val (.int (P.getD i 0))) (.val (au (aC W i)))))=some (decide (0 < P.getD i 0)):=aV (aq (eY _ _) rfl rfl);cases e2:decide (0 < P.getD i 0) with
      | false=>rw[e2] at c2;exact FZ c2
      | true =>
       rw[e2] at c2;refine Dq c2 ?_;have hio:=Zw i Xt (by simpa using e1);have aeG:az (au (aC W i)) (.int (1 - sI b))=some (.int (bP b (aC W i))):=by cases b<;>rfl
       refine (aV (aq (eY _ _) (aq (Ax hio) rfl (aq aeG rfl (aq (sub_int 1 (sI b)) rfl rfl))) (aq (Ax hko) rfl rfl))).trans ?_
       congr 1
       exact decide_eq_decide.mpr (by lia)
    refine⟨_,rfl,λhq=>?_,λhq=>?_⟩
    ·rw[hq] at c;exact (bW c).trans (aL rfl)
    ·rw[hq] at c;exact⟨_,bj c,_,_,rfl⟩) ⟨_,_,rfl⟩
  have hz:fy (aa (ae 1) (aa (f2 az (ae 0) (fC (.int 2))) af)) (bV (sW G T W P b j o (.val (ah pl.2)) .V6 .V6))=some ((List.range W.length).map λi=>.tuple [.int (P.getD i 0),au (aC W i)]):=by
   rw[<- n0 hp];rfl
  cases ef:(List.range W.length).find? (ND b W P pl.2 j o) with
  | some i =>
   have:(List.range W.length).any (ND b W P pl.2 j o)=true:=List.any_eq_true.mpr ⟨i,jZ ef,wA ef⟩;rw[this];exact eZ (bF (f1 i ef) hz rfl)
  | none =>
   have:(List.range W.length).any (ND b W P pl.2 j o)=false:=by
    rw[List.any_eq_false];exact List.find?_eq_none.mp ef
   rw[this];obtain⟨ρ',e',x',y',rfl⟩:=XW ef;exact (ak (bF e' hz rfl)).trans (aL rfl)
def Ke(hf:f (bV ρ)=some (.tuple [x,y,z]))(hh:hand fz 0 ρ=ρ):pV i j l fz f ρ=some (.nx (((ρ.set i (.val x)).set j (.val y)).set l (.val z))):=by
 unfold pV;rw[hh,hf,zA];show some (Out.nx ((((if _ then ρ else ρ).set i _).set j _).set l _))=_;rw[ite_self]
def Iz(h:Wd G T W)(hp:P.length=W.length)(hs:Sm P)(hk:k < W.length):ig [aH G T W,ah P,nD k]=some (Rr (ou G T W P k)):=by
 refine aJ ?_;show kf [.val (aH G T W),.val (ah P),.val (nD k),.V6,.V6,.V6]=_;unfold kf ou;have hw:(f2 az (f2 az (ae 0) (fC (.int 2))) (ae 2)) (bV [.val (aH G T W),.val (ah P),.val (nD k),.V6,.V6,.V6])=some (.tuple [.int (aC W k).1,.int (aC W k).2.1,.int (aC W k).2.2]):=aq (ED hk) rfl rfl;refine (ak (Ke hw rfl)).trans ?_;have c1:(fB (f2 bz (f2 az (ae 1) (ae 2)) (ae 5))) (aK (sY G T W P k))=some (decide (P.getD k 0=(aC W k).2.2)):=aV (aq (cB _ _) (aq (Bs (by rw[hp];exact hk)) rfl rfl) rfl);have w0:=rL h hp hs false hk;have w1:=rL h hp hs true hk;have c2:(bH (fB (ai 5 cW (aa (ae 0) (aa (ae 1) (aa (fC (.int 0)) (aa (ae 3) (aa (ae 4) af)))))))) (aK (sY G T W P k))=some (!(v7 false G T W P k)):=cL (aV (call_of w0 rfl rfl));have c3:(fB (ai 5 cW (aa (ae 0) (aa (ae 1) (aa (fC (.int 1)) (aa (ae 4) (aa (ae 3) af))))))) (aK (sY G T W P k))=some (v7 true G T W P k):=aV (call_of w1 rfl rfl);by_cases e1:P.getD k 0=(aC W k).2.2
 ·rw[yA e1] at c1;rw[yM e1];exact eZ ((bW c1).trans (aL rfl))
 ·rw[zZ e1] at c1;rw[yO e1];refine (ak (bj c1)).trans ?_;cases e2:v7 false G T W P k with
  | false =>
   rw[e2] at c2;rw[yM rfl];exact eZ ((bW c2).trans (aL rfl))
  | true =>
   rw[e2] at c2;rw[yO (by simp)];refine (ak (bj c2)).trans ?_;cases e3:v7 true G T W P k with
   | false =>
    rw[e3] at c3;rw[yM rfl];exact aL (As c3 rfl)
   | true =>
    rw[e3] at c3;rw[yO (by simp)];exact aL (sU c3 rfl)
def B8(h:Wd G T W)(hp:P.length=W.length)(hs:Sm P):eP [aH G T W,ah P]=some (.bool (decide (Hu G T W P=[]))):=by
 have hw:=h.wl;refine aJ ?_;show gQ [.val (aH G T W),.val (ah P)]=_;unfold gQ;have c:aw 1 [0,1] (aE (aa (ba aZ (aa (ae 1) af)) af)) (fG 0) (fB (f2 su (ai 3 ig (aa (ae 1) (aa (ae 2) (aa (ae 0) af)))) (fC .none))) (ae 0) [some (aH G T W),some (ah P)]=some ((Hu G T W P).map nD) :=
  Fs (gu (Ci hp rfl) (by lia)) (by rw[zR];lia) λk hk=>⟨aV (aq (G1 _ (JI G T W P k)) (call_of (Iz h hp hs (by simpa using hk)) rfl rfl) rfl),λ_=>rfl⟩
 exact aL (aq (Im (Hu G T W P)) (gz c) (nil_of _))
def T6:ar->Option Out:=(aW 3 [2,3,4] (R4 oF (ae 3) (cf (aw 1 [4] (aE (aa (f2 Dl.aD (f2 az (ae 2) (fC (.int 2))) (fC (.int 1))) af)) (fG 0) (λ_=>some true) (f2 Dl.aD (ae 1) (aA (aa (ae 0) af)))))))
def NN{acc:List (List Int)}(hl:0<=w.2.2/\w.2.2<=9)(hr:r.length<=100)(ha:acc.length<=7000):T6 [.val d,x1,.val (au w),.own (acc.map ah),.val (ah r)]=some (.nx [.val d,x1,.val (au w),.own ((acc++ext w.2.2 r).map ah),.val (ah r)]):=by
 have c:aw 1 [4] (aE (aa (f2 Dl.aD (f2 az (ae 2) (fC (.int 2))) (fC (.int 1))) af)) (fG 0) (λ_=>some true) (f2 Dl.aD (ae 1) (aA (aa (ae 0) af))) (bV [.val d,x1,.val (au w),.val (.list (acc.map ah)),.val (ah r)])=some ((List.range (w.2.2+1).toNat).map λm=>ah (r++[((m:Nat):Int)])):=by
  refine gV (gu (n:=(w.2.2+1).toNat) (cons_of ?_ rfl) (by lia)) (by rw[zR];lia) λm _=>aq (mM (a:=r) (b:=[((m:Nat):Int)]) (by simp;lia)) rfl (E8 rfl);rw[show nD (w.2.2+1).toNat=.int (w.2.2+1) by show PyData.int _=_;congr 1;lia];exact aq (cZ w.2.2 1) (aq (td w) rfl rfl) rfl
 have hh:hand [2,3,4] 0 [Slot.val d,x1,.val (au w),.own (acc.map ah),.val (ah r)]=[Slot.val d,x1,.val (au w),.val (.list (acc.map ah)),.val (ah r)]:=rfl;have hz:(acc.map ah).length+((List.range (w.2.2+1).toNat).map λm=>ah (r++[((m:Nat):Int)])).length<=sizeLine:=by
  rw[zD,zD,zR];exact yD (show acc.length+(w.2.2+1).toNat<=8000 by lia) (by decide)
 have e:(acc++ext w.2.2 r).map ah=acc.map ah++(List.range (w.2.2+1).toNat).map λm=>ah (r++[((m:Nat):Int)]):=by
  rw[jB,ext,zM];rfl
 rw[e];refine FX hh ?_;show (R4 oF _ _) _=_;unfold R4;rw[show ae 3 (bV [Slot.val d,x1,.val (au w),.val (.list (acc.map ah)),.val (ah r)])=some (.list (acc.map ah)) from rfl,zA,gz c,zA];exact yM (by rw[zN];exact hz)
def U6:ar->Option Out:=(ay (aW 3 [] (cX af)) (ay (cq [1] (bo (ae 1)) (gM 4) T6) (Dl.aR 1 [3] (ae 3))))
def GX(hl:0<=w.2.2/\w.2.2<=2):∀ (fs acc:List (List Int)) (x4:Slot),(∀r∈fs,r.length<=16)->acc.length+3 * fs.length<=7000->∃y4,cE (gM 4) T6 (fs.map ah) [.val d,x1,.val (au w),.own (acc.map ah),x4]=some (.nx [.val d,x1,.val (au w),.own ((acc++oi w.2.2 fs).map ah),y4])
 | [],acc,x4,_,_=>⟨x4,by simp[oi,cE]⟩
 | r::fs,acc,x4,hr,hb=>by
  have he:(ext w.2.2 r).length<=3:=by unfold ext;rw[zD,zR];lia
  rw[zL] at hb;obtain⟨y4,e⟩:=GX (d:=d) (x1:=x1) hl fs (acc++ext w.2.2 r) (.val (ah r)) (λq hq=>hr q (zC _ hq)) (by rw[zN];lia);have h1:=NN (d:=d) (x1:=x1) (w:=w) (acc:=acc) (r:=r) ⟨hl.1,by lia⟩ (by have:=hr r zE;lia) (by lia);have ht:gM 4 [.val d,x1,.val (au w),.own (acc.map ah),x4] (ah r)=some [.val d,x1,.val (au w),.own (acc.map ah),.val (ah r)]:=rfl;refine⟨y4,?_⟩;rw[zI,cE,ht,zA,h1];show cE (gM 4) T6 (fs.map ah) _=_;rw[e,BP,List.append_assoc]
def MM(hl:0<=w.2.2/\w.2.2<=2)(hr:∀r∈fs,r.length<=16)(hf:fs.length<=2187)(h1:s1=.own (fs.map ah)\/s1=.val (.list (fs.map ah))):∃y3 y4,U6 [.val d,s1,.val (au w),x3,x4]=some (.nx [.val d,.val (.list ((oi w.2.2 fs).map ah)),.val (au w),y3,y4]):=by
 obtain⟨y4,e⟩:=GX (d:=d) (x1:=.val (.list (fs.map ah))) hl fs [] x4 hr (by simp;lia);rw[xP] at e;have t1:aW 3 [] (cX af) [.val d,s1,.val (au w),x3,x4]=some (.nx [.val d,s1,.val (au w),.own [],x4]):=gZ (qy (ds:=[]) rfl (by simp)) rfl;have hh:hand [1] 0 [.val d,s1,.val (au w),.own [],x4]=[Slot.val d,.val (.list (fs.map ah)),.val (au w),.own [],x4]:=by
  rcases h1 with rfl|rfl<;>rfl
 unfold U6;rw[ak t1];refine⟨.val (.list ((oi w.2.2 fs).map ah)),y4,?_⟩;refine (ak (bF e rfl hh)).trans ?_;exact nV (ρ':=[.val d,.val (.list (fs.map ah)),.val (au w),.val (.list ((oi w.2.2 fs).map ah)),y4]) rfl (d:=.list ((oi w.2.2 fs).map ah)) rfl rfl rfl (.inl rfl)
def Gs:∀ (W:List Wy) (fs:List (List Int)) (s1 x2 x3 x4:Slot),(∀w∈W,0<=w.2.2/\w.2.2<=2)->fs.length * 3 ^ W.length<=2187->(∀r∈fs,r.length<=16 - W.length)->W.length<=16->(s1=.own (fs.map ah)\/s1=.val (.list (fs.map ah))) ->
  ∃YH y2 y3 y4,cE (gM 2) U6 (W.map au) [.val d,s1,x2,x3,x4]=some (.nx [.val d,YH,y2,y3,y4])/\(YH=.own ((ym W fs).map ah)\/YH=.val (.list ((ym W fs).map ah)))
 | [],fs,s1,x2,x3,x4,_,_,_,_,h1=>⟨s1,x2,x3,x4,rfl,h1⟩
 | w::W,fs,s1,x2,x3,x4,hl,hf,hr,hw,h1=>by
  rw[zL] at hf hr hw;have hf1:fs.length<=2187:=yD (Nat.le_mul_of_pos_right _ (Nat.pow_pos (by lia))) hf;have hlw:=hl w zE;obtain⟨y3,y4,e⟩:=MM (d:=d) (x3:=x3) (x4:=x4) hlw (λr W9=>by have:=hr r W9;lia) hf1 h1;have hll:(oi w.2.2 fs).length<=fs.length * 3:=by rw[Ay];exact Nat.mul_le_mul_left _ (by lia)
  obtain⟨YH,z2,z3,z4,e2,h2⟩:=Gs (d:=d) W (oi w.2.2 fs) (.val (.list ((oi w.2.2 fs).map ah))) (.val (au w)) y3 y4 (λq hq=>hl q (zC _ hq)) (by
   refine yD (Nat.mul_le_mul_right _ hll) ?_;rw[Nat.mul_assoc,<- Nat.pow_succ'];exact hf) (λr W9=>by
   have:=F9 (n:=16 - (W.length+1)) hr r W9;lia) (by lia) (.inr rfl)
  have ht:gM 2 [.val d,s1,x2,x3,x4] (au w)=some [.val d,s1,.val (au w),x3,x4]:=rfl;refine⟨YH,z2,z3,z4,?_,h2⟩;rw[zI,cE,ht,zA,e];exact e2
def Cv(h:Wd G T W)(hl:∀w∈W,0<=w.2.2/\w.2.2<=2)(hw:W.length<=7):fg [aH G T W]=some (.list ((gp G T W).map ah))/\(gp G T W).length<=2187:=by
 have hlen:(ym W [[]]).length<=2187:=by
  have:=AE W [[]] hl;rw[xD,Nat.one_mul] at this;exact yD this (yD (Nat.pow_le_pow_right (by lia) hw) (by decide))
 refine⟨?_,yD (xQ _ _) hlen⟩;obtain⟨YH,z2,z3,z4,e2,h2⟩:=Gs (d:=aH G T W) W [[]] (.own ([[]].map ah)) .V6 .V6 .V6 hl (by
  rw[xD,Nat.one_mul];exact yD (Nat.pow_le_pow_right (by lia) hw) (by decide)) (λr hr=>by simp at hr;subst hr;simp) (by lia) (.inl rfl)
 refine aJ ?_;show gP [.val (aH G T W),.V6,.V6,.V6,.V6]=_;unfold gP;refine (ak (gZ (ds:=[[]].map ah) (qy (cons_of (tup_is (ds:=[]) rfl (by simp)) rfl) (by simp)) rfl)).trans ?_;refine (ak (bF e2 (A5 (aq (tj G T W) rfl rfl)) rfl)).trans ?_;refine aL (gz ?_);have hs:bo (ae 1) (aK [.val (aH G T W),YH,z2,z3,z4])=some ((ym W [[]]).map ah):=by rcases h2 with rfl|rfl<;>rfl
 refine mR (g:=ah) (f:=ah) (q:=Mj G T W) hs (by lia) λx hx=>⟨?_,λ_=>rfl⟩
 obtain⟨h1,h2⟩:=A4.mp hx;have hb:Sk W x=true:=List.all_eq_true.mpr λk hk=>by
  have:=h2 k (by simpa using hk);simp only[zF,zJ];exact this
 have YZ:Mj G T W x=uh G T W x:=by unfold Mj;rw[hb,jM,LH]
 rw[YZ];exact aV (call_of (uT h h1 λk=>by
  by_cases hk:k < W.length
  ·have a:=h2 k hk;have b:=(h.wr _ (mi hk)).2.2.2;lia
  ·rw[lO (by lia)];lia) rfl rfl)
end
def sh(k q:Nat):Nat:=if q < k then q else q+1
def nk(k:Nat):Nat->Bool:=λq=>!decide (q=k)
section
variable {G T:List Pl}{W:List Wy}{P X:List Int}{b:Bool}{i k q:Nat}
def of_map(b:Bool)(i:Int):∀ {W V:List Wy},W.map (λw=>(w.1,w.2.1))=V.map (λw=>(w.1,w.2.1))->(W.filter λw=>decide (aN b w=i)).map (bP b)=(V.filter λw=>decide (aN b w=i)).map (bP b)
 | [],[],_=>rfl
 | [],_::_,e=>by cases e
 | _::_,[],e=>by cases e
 | w::W,v::V,e=>by
  simp only[zI,vA,Prod.mk.injEq] at e;have e1:aN b w=aN b v:=by cases b<;>simp[aN,e.1]
  have e2:bP b w=bP b v:=by cases b<;>simp[bP,aN,e.1]
  have ih:=of_map b i (W:=W) (V:=V) e.2;rw[jY,jY,e1];split
  ·rw[zI,zI,ih,e2]
  ·exact ih
end
section
def vm(b:Bool)(G T:List Pl)(W:List Wy)(i:Nat)(P:List Int):List Int:=(lst b G T W i).map (vl P)
def n9(bt:Nat->Nat->Bool):∀n,PySem.argBest bt n<=n
 | 0=>yN _
 | n+1=>by
  unfold PySem.argBest;have:=n9 bt n;split<;>lia
def jd{a c:List Int}(h:lexLt a c=false)(h2:lexLt c a=false):a=c:=tL (by unfold lexLe;rw[h2];rfl) (by unfold lexLe;rw[h];rfl)
end
def tY{l:List Int}(hl:l.length<=1000)(hb:∀x∈l,-1000000<=x/\x<=1000000):iA [.list (l.map PyData.int)]=some (.int l.sum):=by
 have:=C4 hl hb;simp only[iA,cg,oneOf,fE,zA,ah] at this ⊢;exact this
section
variable {off aic:List Int}
abbrev cS(b:Bool)(G T:List Pl)(W:List Wy)(off:List Int)(i:Nat):List Int:=DL W off (amt b G T i) (lst b G T W i)
end
def cs:Int->List Int->Int
 | _,[]=>0
 | a,y::ys=>(a - y)+cs (a - y) ys
def R1:Int->List Int->Int
 | _,[]=>0
 | s,y::ys=>s * y+R1 (s+1) ys
def Fv:∀ (ys:List Int) (a s:Int),R1 s ys+(a - ys.sum) * (s+((ys.length:Nat):Int))=s * a+cs a ys
 | [],a,s=>by simp[R1,cs,Int.mul_comm]
 | y::ys,a,s=>by
  have ih:=Fv ys (a - y) (s+1);rw[R1,cs,kF,zL];rw[Int.add_mul,Int.one_mul,Int.mul_sub] at ih;rw[show a - (y+ys.sum)=a - y - ys.sum by lia,show s+((ys.length+1:Nat):Int)=s+1+((ys.length:Nat):Int) by lia];lia
def zx:∀ (ys:List Int) (s:Nat),((List.range ys.length).map λk=>((s+k:Nat):Int) * ys.getD k 0).sum=R1 s ys
 | [],s=>rfl
 | y::ys,s=>by
  have ih:=zx ys (s+1);rw[zL,vT,zI,zM,kF,R1];rw[show ((s:Nat):Int)+1=((s+1:Nat):Int) by lia,<- ih]
  congr 1
  refine jD List.sum (yI λk _=>?_);show ((s+(k+1):Nat):Int) * ys.getD k 0=_;rw[show s+(k+1)=s+1+k by lia]
def OR:∀ {ys:List Int}{a:Int},(∀y∈ys,0<=y)->ys.sum<=a->a<=9->0<=cs a ys/\cs a ys<=9 * ((ys.length:Nat):Int)
 | [],a,_,_,_=>by simp[cs]
 | y::ys,a,h0,hs,h9=>by
  have hy:=h0 y zE;rw[kF] at hs;have hr:0<=ys.sum:=by
   have:∀ {l:List Int},(∀y∈l,0<=y)->0<=l.sum:=λ{l}=>by
    induction l with
    | nil=>intro _;simp
    | cons z l ih =>
     intro hz;have h1:=ih λq hq=>hz q (zC _ hq);have h2:=hz z zE;rw[kF];lia
   exact this λq hq=>h0 q (zC _ hq)
  have ih:=OR (ys:=ys) (a:=a - y) (λq hq=>h0 q (zC _ hq)) (by lia) (by lia);rw[cs,zL];lia
section
def cst(b:Bool)(G T:List Pl)(W:List Wy)(P:List Int)(i:Nat):Int:=cs (amt b G T i) (vm b G T W i P)
def vj(b:Bool)(G T:List Pl)(W:List Wy)(P:List Int):Int:=sm (List.range (aP b G T).length) (cst b G T W P)
def S8(h:Wd G T W)(hi:i < (aP b G T).length):amt b G T i<=9:=by
 have hm:=qC (ik hi);cases b
 ·exact (h.ga _ hm).2
 ·exact (h.ta _ hm).2
def Qo(p:Pn G T W P):∀y∈vm b G T W i P,0<=y:=λy hy=>by
 obtain⟨q,_,rfl⟩:=List.mem_map.mp hy;exact p.nn q
def A0(h:Wd G T W)(hi:i < (aP b G T).length):(vm b G T W i P).length<=16:=by
 rw[vm,zD,(jz h hi).length_eq];refine yD (xQ _ _) ?_;rw[zR];exact h.wl
def LX(h:Wd G T W)(p:Pn G T W P)(hi:i < (aP b G T).length):0<=cst b G T W P i/\cst b G T W P i<=144:=by
 have h1:=OR (a:=amt b G T i) (Qo (b:=b) (i:=i) p) (p.ZH h hi) (S8 h hi);have h2:=A0 (P:=P) h hi;unfold cst;lia
end
section
def MC(h:Wd G T W)(p:Pn G T W P)(hi:i < (aP b G T).length):∀y∈vm b G T W i P,0<=y/\y<=9:=λy hy=>by
 obtain⟨q,hq,rfl⟩:=List.mem_map.mp hy;have hqW:=((iI h hi).mp hq).1;have h1:=p.bd q hqW;have h2:=(h.wr _ (mi hqW)).2.2;show 0<=P.getD q 0/\P.getD q 0<=9;lia
def lx(h:Wd G T W)(p:Pn G T W P)(hi:i < (aP b G T).length):bQ [aH G T W,.int (sI b),nD i,ah P]=some (.int (cst b G T W P i)):=by
 have hl:=A0 (P:=P) h hi;have h9:=MC h p hi;have ha:=S8 h hi;have ha0:=Ed h b i;have eo:eL [aH G T W,.int (sI b),nD i,ah P]=some (ah (vm b G T W i P)):=Hz h hi p.len;have aid:(vm b G T W i P).sum<=amt b G T i:=p.ZH h hi;have es:=C4 (l:=vm b G T W i P) (by lia) λx hx=>by have:=h9 x hx;lia
 have key:=Fv (vm b G T W i P) (amt b G T i) 0;have kw:=zx (vm b G T W i P) 0;generalize hR:vm b G T W i P=R at *;have hy:∀k,k < R.length->0<=R.getD k 0/\R.getD k 0<=9:=λk hk=>h9 _ (by simp[hk]);have hn:0<=R.sum:=by
  have:∀ {l:List Int},(∀y∈l,0<=y/\y<=9)->0<=l.sum:=λ{l}=>by
   induction l with
   | nil=>intro _;simp
   | cons z l ih =>
    intro hz;have h1:=ih λq hq=>hz q (zC _ hq);have h2:=hz z zE;rw[kF];lia
  exact this h9
 refine aJ ?_;show eh [.val (aH G T W),.val (.int (sI b)),.val (nD i),.val (ah P),.V6,.V6]=_;unfold eh;refine (ak (b8 (call_of eo rfl rfl) (call_of eo rfl rfl) rfl)).trans ?_;refine (ak (cm (d:=.int (amt b G T i - R.sum)) (aq (lS _ _) (aq (a:=bc (bR b G T i)) (b:=.int 0) rfl (aq (l5 (ik hi)) (aq (d9 b G T W) rfl rfl) rfl) rfl) ((fJ rfl).trans es)) rfl)).trans ?_;have aa7:cst b G T W P i=((List.range R.length).map λk=>((k:Nat):Int) * R.getD k 0).sum+(amt b G T i - R.sum) * ((R.length:Nat):Int):=by
  unfold cst;rw[hR];simp only[jE] at kw;rw[kw];simp only[Int.zero_add,Int.zero_mul] at key;exact key.symm
 rw[aa7];have c:∀ρ:Dl.Env,ae 4 ρ=some (ah R)->aw 2 [] (bJ (aa (ae 4) af)) (j4 0 1) (λ_=>some true) (f2 Dl.cJ (ae 0) (ae 1)) ρ=some (((List.range R.length).map λk=>((k:Nat):Int) * R.getD k 0).map PyData.int):=λρ e4=>by
  have c:=lM (ρ:=ρ) (fi:=bJ (aa (ae 4) af)) (cs:=[]) (tt:=λ_=>some true) (te:=f2 Dl.cJ (ae 0) (ae 1)) (n:=R.length) (x:=nD) (y:=λk=>.int (R.getD k 0)) (p:=λ_=>true) (h:=λk=>.int (((k:Nat):Int) * R.getD k 0)) (by
   show ((aa _ af) ρ).bind (λds=>(cg ds).map (bK 0))=_;rw[cons_of e4 rfl];show some (bK 0 (R.map PyData.int))=_;rw[Jq]) (by lia) λk hk=>⟨rfl,λ_=>aq (cP (.inl ⟨by lia,by lia⟩)) rfl rfl⟩
  rw[List.filter_eq_self.mpr λ_ _=>rfl] at c;rw[c,zM];rfl
 have bd:∀x∈(List.range R.length).map λk=>((k:Nat):Int) * R.getD k 0,-1000000<=x/\x<=1000000:=λx hx=>by
  obtain⟨k,hk,rfl⟩:=List.mem_map.mp hx;have hk:=List.mem_range.mp hk;have h1:=hy k hk;have h2:0<=((k:Nat):Int) * R.getD k 0:=Int.mul_nonneg (by lia) h1.1;have h3:((k:Nat):Int) * R.getD k 0<=16 * 9:=Int.mul_le_mul (by lia) h1.2 h1.1 (by lia);lia
 exact aL (aq (cZ _ _) ((fJ (gz (c _ rfl))).trans (tY (by simp;lia) bd)) (aq (cP (.inl ⟨by lia,by lia⟩)) rfl ((fJ rfl).trans (Bc _))))
def fj(h:Wd G T W)(p:Pn G T W P)(b:Bool):bO [aH G T W,.int (sI b),ah P]=some (.int (vj b G T W P)):=by
 have h4:=h.pl b;refine aJ ?_;show eO [.val (aH G T W),.val (.int (sI b)),.val (ah P)]=_;unfold eO;have c:=gV (ρ:=aK [.val (aH G T W),.val (.int (sI b)),.val (ah P)]) (fi:=aE (aa (ba aZ (aa (f2 az (ae 0) (ae 1)) af)) af)) (cs:=[0,1,2]) (te:=ai 4 bQ (aa (ae 1) (aa (ae 2) (aa (ae 0) (aa (ae 3) af))))) (is:=List.range (aP b G T).length) (f:=λi=>.int (cst b G T W P i))
  (gu (Dz (b:=b) rfl rfl) (by lia)) (by rw[zR];lia) λi hi=>call_of (lx h p (List.mem_range.mp hi)) rfl rfl
 refine aL ((fJ (gz c)).trans ?_);have:=tY (l:=(List.range (aP b G T).length).map (cst b G T W P)) (by simp;lia) λx hx=>by
  obtain⟨k,hk,rfl⟩:=List.mem_map.mp hx;have:=LX (b:=b) h p (List.mem_range.mp hk);lia
 rw[zM] at this;exact this
def P9(h:Wd G T W)(p:Pn G T W P)(hi:i < (aP b G T).length):k4 [aH G T W,.int (sI b),nD i,ah P]=some (.int (cst b G T W P i)):=by
 refine aJ ?_;show Ab [.val (aH G T W),.val (.int (sI b)),.val (nD i),.val (ah P)]=_;unfold Ab;refine (ak (hV (call_of (ke h p) rfl rfl))).trans ?_;refine (ak (hV (call_of (uA h b hi) rfl rfl))).trans ?_;exact aL (call_of (lx h p hi) rfl rfl)
def UO(G T:List Pl)(W:List Wy)(P:List Int):List Int:=[vj false G T W P,vj true G T W P]
def N4(h:Wd G T W)(p:Pn G T W P):j6 [aH G T W,ah P]=some (ah (UO G T W P)):=by
 refine aJ ?_;show tE [.val (aH G T W),.val (ah P)]=_;unfold tE;refine (ak (hV (call_of (ke h p) rfl rfl))).trans ?_;exact aL (SU (call_of (fj h p false) rfl rfl) (call_of (fj h p true) rfl rfl))
def Qc(G T:List Pl)(W:List Wy)(P:List Int):List Int:=[vj false G T W P+vj true G T W P,if vj false G T W P - vj true G T W P < 0 then -(vj false G T W P - vj true G T W P) else vj false G T W P - vj true G T W P]
def Aw(h:Wd G T W)(p:Pn G T W P):e9 [aH G T W,ah P]=some (ah (Qc G T W P)):=by
 refine aJ ?_;show gN [.val (aH G T W),.val (ah P),.V6,.V6]=_;unfold gN;refine (ak (cm (call_of (fj h p false) rfl rfl) rfl)).trans ?_;refine (ak (cm (call_of (fj h p true) rfl rfl) rfl)).trans ?_;exact aL (SU (aq (cZ _ _) rfl rfl) ((fJ (aq (lS _ _) rfl rfl)).trans rfl))
def CM:∀ {l:List (List Int)},(∀x∈l,te (ρ.set 0 (some (ah x)))=some (ah (f x)))->ie te ρ (l.map ah)=some ((l.map f).map ah)
 | [],_=>rfl
 | x::l,hh=>by
  have ih:=CM (te:=te) (ρ:=ρ) (f:=f) (l:=l) λy hy=>hh y (zC _ hy);rw[zI,ie,hh x zE,zA,ih];rfl
def Q0(G T:List Pl)(W:List Wy):List Int:=(allR G T W).getD (PySem.argBest (bT ((allR G T W).map (Qc G T W))) ((allR G T W).length - 1)) []
def JV(h:Wd G T W):PySem.argBest (bT ((allR G T W).map (Qc G T W))) ((allR G T W).length - 1) < (allR G T W).length:=by
 have Xe:0 < (allR G T W).length:=List.length_pos_of_mem ((C6 h).mpr ⟨Qi h,PP h⟩);have:=n9 (bT ((allR G T W).map (Qc G T W))) ((allR G T W).length - 1);lia
def IS(h:Wd G T W)(ea:cC [aH G T W]=some (.list ((allR G T W).map ah))):fF [aH G T W]=some (ah (Q0 G T W)):=by
 refine aJ ?_;show mS [.val (aH G T W)]=_;unfold mS;refine aL ?_;have ek:ie (ai 2 e9 (aa (ae 1) (aa (ae 0) af))) (fv 1 [0] (aK [.val (aH G T W)])) ((allR G T W).map ah)=some (((allR G T W).map (Qc G T W)).map ah) :=
  CM λX hX=>call_of (Aw h ((C6 h).mp hX).1) rfl rfl
 have ec:ai 1 cC (aa (ae 0) af) (aK [.val (aH G T W)])=some (.list ((allR G T W).map ah)):=call_of ea rfl rfl;unfold zg;rw[ec,zA];show (ie _ _ _).bind _=_;rw[ek,zA,zf,zA,zD,zO];unfold Q0;rw[zG,zK (JV h)];rfl
end
section
open Ex
abbrev TM:Str:="NoWorld"
abbrev Ud:Str:="NoPlan"
abbrev Pw:Str:="NoPlace"
structure pS(m:List D->Option D)(x:List D->Option Str)(ds:List D)(c:Str):Prop where
 n:m ds=none
 x:x ds=some c
structure KM(m:List D->Option D)(x:List D->Option Str)(ds:List D):Prop where
 n:m ds=some .none
 x:x ds=none
section
variable {m:List D->Option D}{x:List D->Option Str}{ds:List D}{c:Str}{n:Nat}{fs:Dl.Env->Option (List D)}{ρ:ar}
def yq(h:m ds=none){ρ:Dl.Env}(hf:fs ρ=some ds):ai n m fs ρ=none:=by
 unfold ai;rw[hf,zA,h];simp
def RW(h:x ds=some c){ρ:Dl.Env}(hf:fs ρ=some ds)(hn:ds.length=n):rX n x fs ρ=some c:=by
 unfold rX;rw[hf,zA,yM hn,h]
def VY(h:x ds=none){ρ:Dl.Env}(hf:fs ρ=some ds):rX n x fs ρ=none:=by
 unfold rX;rw[hf,zA,h];simp
def Uz(h:f (aK ρ)=none):fR f ρ=none:=by
 unfold fR;rw[h];rfl
def pS.one(B:pS m x ds c)(hf:fs (aK ρ)=some ds)(hn:ds.length=n):fR (ai n m fs) ρ=none/\iB (rX n x fs) ρ=some c:=⟨Uz (yq B.n hf),RW B.x hf hn⟩
def KM.one(B:KM m x ds)(hf:fs (aK ρ)=some ds)(hn:ds.length=n):fR (ai n m fs) ρ=some (.nx ρ)/\iB (rX n x fs) ρ=none:=⟨hV (call_of B.n hf hn),VY B.x hf⟩
def pS.head(B:pS m x ds c)(hf:fs (aK ρ)=some ds)(hn:ds.length=n):ay (fR (ai n m fs)) g ρ=none/\gG (iB (rX n x fs)) (fR (ai n m fs)) xr ρ=some c:=by
 obtain⟨a,b⟩:=B.one hf hn;constructor
 ·unfold ay;rw[a];rfl
 ·unfold gG;rw[b]
def KM.tail(B:KM m x ds)(hf:fs (aK ρ)=some ds)(hn:ds.length=n):ay (fR (ai n m fs)) g ρ=g ρ/\gG (iB (rX n x fs)) (fR (ai n m fs)) xr ρ=xr ρ:=by
 obtain⟨a,b⟩:=B.one hf hn;constructor
 ·exact ak a
 ·unfold gG EF;rw[b,a];rfl
def runN(h:g (ds.map Slot.val++List.replicate (n - ds.length) .V6)=none):bq g n ds=none:=by
 unfold bq;rw[h];rfl
def TX(h:t (aK ρ)=some true):Ly t xa xb ρ=xa ρ:=by
 unfold Ly;rw[h,zA,yM rfl]
def Ka(h:t (aK ρ)=some false):Ly t xa xb ρ=xb ρ:=by
 unfold Ly;rw[h,zA,yO (by simp)]
end
section
variable {G T:List Pl}{W:List Wy}{P X:List Int}{b:Bool}{i:Nat}
def Ss(h:bp [d]=some (.bool false)):pS aX bL [d] TM:=by
 have c:(bH (fB (ai 1 bp (aa (ae 0) af)))) (aK [.val d])=some true:=cL (b:=false) (aV (call_of h rfl rfl));exact⟨runN (bW c),TX c⟩
def T1(h:Wd G T W):KM aX bL [aH G T W]:=⟨iY h,Ka (cL (b:=true) (aV (call_of (uJ h) rfl rfl)))⟩
def DQ(h:bp [d]=some (.bool false)):pS aY bC [d,p] TM :=
 let z:=(Ss h).head (ρ:=[.val d,.val p]) (fs:=aa (ae 0) af) rfl rfl
 ⟨runN z.1,z.2⟩
def Uj(h:Wd G T W)(hp:ck [aH G T W,p]=some (.bool false)):pS aY bC [aH G T W,p] Ud:=by
 have c:(bH (fB (ai 2 ck (aa (ae 0) (aa (ae 1) af))))) (aK [.val (aH G T W),.val p])=some true:=cL (b:=false) (aV (call_of hp rfl rfl));exact⟨runN (((T1 h).tail (ρ:=[.val (aH G T W),.val p]) (fs:=aa (ae 0) af) rfl rfl (xr:=m8)).1.trans (bW c)),((T1 h).tail (ρ:=[.val (aH G T W),.val p]) (fs:=aa (ae 0) af) rfl rfl (g:=dS)).2.trans (TX c)⟩
def V4(h:Wd G T W)(p:Pn G T W P):KM aY bC [aH G T W,ah P] :=
 ⟨ke h p,((T1 h).tail (ρ:=[.val (aH G T W),.val (ah P)]) (fs:=aa (ae 0) af) rfl rfl (g:=dS)).2.trans (Ka (cL (b:=true) (aV (call_of (nK h p) rfl rfl))))⟩
def UJ(hd:iz d=true)(h:whole a e d=false):pS dh dQ [d,.int a,.int e] Pw:=by
 have c:(bH (fB (ai 3 aO (aa (ae 0) (aa (ae 1) (aa (ae 2) af)))))) (aK [.val d,.val (.int a),.val (.int e)])=some true:=cL (b:=false) (aV (call_of ((et hd a e).trans (by rw[h])) rfl rfl));exact⟨runN (bW c),TX c⟩
def VH(hd:iz d=true)(h:whole a e d=true):KM dh dQ [d,.int a,.int e]:=by
 have c:(bH (fB (ai 3 aO (aa (ae 0) (aa (ae 1) (aa (ae 2) af)))))) (aK [.val d,.val (.int a),.val (.int e)])=some false:=cL (b:=true) (aV (call_of ((et hd a e).trans (by rw[h])) rfl rfl));refine⟨?_,Ka c⟩;show (cG [.val d,.val (.int a),.val (.int e)]).map _=_;rw[show cG [.val d,.val (.int a),.val (.int e)]=some (.nx [.val d,.val (.int a),.val (.int e)]) from bj c];rfl
def Uv(hd:iz d=true)(h:whole 0 (n - 1) d=false):pS bA bN [d,.int n] Pw :=
 let z:=(UJ hd h).one (ρ:=[.val d,.val (.int n)]) (fs:=aa (ae 0) (aa (fC (.int 0)) (aa (f2 Dl.dJ (ae 1) (fC (.int 1))) af))) (n:=3) rfl rfl
 ⟨runN z.1,z.2⟩
def okN(hd:iz d=true)(h:whole 0 (n - 1) d=true):KM bA bN [d,.int n]:=by
 have z:=(VH hd h).one (ρ:=[.val d,.val (.int n)]) (fs:=aa (ae 0) (aa (fC (.int 0)) (aa (f2 Dl.dJ (ae 1) (fC (.int 1))) af))) (n:=3) rfl rfl;refine⟨?_,z.2⟩;show (b9 [.val d,.val (.int n)]).map _=_;rw[show b9 [.val d,.val (.int n)]=_ from z.1];rfl
def Kg(b:Bool):KM dH gJ [.int (sI b)]:=by
 have hb:whole 0 (2 - 1) (.int (sI b))=true:=by cases b<;>rfl
 exact⟨o5 b,((okN (n:=2) rfl hb).one (ρ:=[.val (.int (sI b))]) (fs:=aa (ae 0) (aa (fC (.int 2)) af)) (n:=2) rfl rfl).2⟩
def UF(h:Wd G T W)(b:Bool)(hd:iz d=true)(hw:whole 0 ((aP b G T).length - 1) d=false):pS di dR [aH G T W,.int (sI b),d] Pw:=by
 have z:=(Uv (n:=(aP b G T).length) hd hw).one (ρ:=[.val (aH G T W),.val (.int (sI b)),.val d]) (fs:=aa (ae 2) (aa (ba aZ (aa (f2 az (ae 0) (ae 1)) af)) af)) (n:=2) (cons_of rfl (Dz (b:=b) rfl rfl)) rfl;have t:=(Kg b).tail (ρ:=[.val (aH G T W),.val (.int (sI b)),.val d]) (fs:=aa (ae 1) af) (n:=1) rfl rfl (g:=fR (ai 2 bA (aa (ae 2) (aa (ba aZ (aa (f2 az (ae 0) (ae 1)) af)) af)))) (xr:=iB (rX 2 bN (aa (ae 2) (aa (ba aZ (aa (f2 az (ae 0) (ae 1)) af)) af))));exact⟨runN (t.1.trans z.1),t.2.trans z.2⟩
def tm(h:Wd G T W)(hd:iz d=true)(hl:long W.length W.length d=false):ck [aH G T W,d]=some (.bool false):=by
 refine aJ ?_;show g8 [.val (aH G T W),.val d,.V6]=_;unfold g8;have ew:∀ρ:Dl.Env,ae 0 ρ=some (aH G T W)->f2 az (ae 0) (fC (.int 2)) ρ=some (.tuple (W.map au)):=λρ a=>aq (tj G T W) a rfl;refine (ak (b8 (ew _ rfl) (ew _ rfl) rfl)).trans ?_;have el:∀ρ:Dl.Env,ae 2 ρ=some (.tuple (W.map au))->ba aZ (aa (ae 2) af) ρ=some (nD W.length):=λρ a=>iO a;refine eZ ((bW (cL (b:=false) (aV (call_of ((eA hd W.length W.length).trans (by rw[hl])) (cons_of rfl (cons_of (el _ rfl) (cons_of (el _ rfl) rfl))) rfl)))).trans (aL rfl))
def BZ{ds:List D}(h:ds.length≠n):long (n:Int) n (.tuple ds)=false:=by
 rw[u9];exact zZ h
def J6{fin:Str->Option D}(h:gb ρ=some (.rt d)):C0 gb xg fin ρ=some (.rt d):=by
 unfold C0;rw[h]
def Ec{fin:Str->Option D}(h:gb ρ=none)(h2:xg ρ=some c)(h3:fin c=some d):C0 gb xg fin ρ=some (.rt d):=by
 unfold C0;rw[h,h2];simp only[zA,h3,zB]
def dM(j:Int):D:=.tuple [.str "refused",.int j]
def MJ(b:Bool):PyData.eqv (.bool b) (.bool true)=b:=by cases b<;>simp[PyData.eqv]
def FA(j:Int):PyData.eqv (dM j) (dM j)=true:=MR λd hd=>by
 simp only[zQ,yF,xV] at hd;rcases hd with rfl|rfl
 ·simp[PyData.eqv]
 ·exact JE j
def lZ(j:Int):∀n:Nat,SeqAt.shaped (.list (List.replicate n (dM j)))=true:=λn=>by
 have h:∀n:Nat,PyData.canLayAll0 (List.replicate n (dM j))=true/\PyData.depthAll (List.replicate n (dM j))<=2:=λn=>by
  have hs:PyData.canLay0 (dM j)=true:=by simp[dM,PyData.canLay0,PyData.canLayAll0];decide +kernel
  have hd:PyData.depth (dM j)<=2:=by simp[dM,PyData.depth,PyData.depthAll]
  induction n with
  | zero=>exact⟨by simp[PyData.canLayAll0],by simp[PyData.depthAll]⟩
  | succ n ih=>exact⟨by simp[xF,PyData.canLayAll0,hs,ih.1],by simp only[xF,PyData.depthAll];lia⟩
 have:=h n;unfold SeqAt.shaped;rw[zF];exact⟨by simp[PyData.canLay0,this.1],by simp[PyData.depth];lia⟩
def C5(j:Int)(n:Nat):PyData.eqv (.list (List.replicate n (dM j))) (.list (List.replicate n (dM j)))=true:=by
 rw[PyData.eqv];exact mG λd hd=>by rw[List.eq_of_mem_replicate hd];exact FA j
def IT(j:Int)(n:Nat):bz (.list (List.replicate n (dM j))) (.list (List.replicate n (dM j)))=some (.bool true):=by simp only[bz,OA,lZ,jQ,xI,C5,zB]
def He(j:Int)(n:Nat):gU (.list (List.replicate n (dM j))) (.list (List.replicate n (dM j)))=some (.bool false):=by simp only[gU,RL,lZ,jQ,xI,C5,zB];rfl
def qa(a:α):∀n:Nat,(List.replicate n [a]).flatten=List.replicate n a
 | 0=>rfl
 | n+1=>by rw[xF,qN,qa a n,xF];rfl
def DC(j:Int){n:Nat}(hn:n<=10)(ρ:Dl.Env):cf (rZ (cX (aa (aA (aa (fC (.str "refused")) (aa (fC (.int j)) af))) af)) (fC (.int n))) ρ=some (.list (List.replicate n (dM j))):=by
 refine gz ?_;have hr:cX (aa (aA (aa (fC (.str "refused")) (aa (fC (.int j)) af))) af) ρ=some [dM j]:=qy (cons_of (tup_is rfl (by simp)) rfl) (by simp);have hg:GN [dM j] (.int ((n:Nat):Int))=some (List.replicate n [dM j]).flatten:=by
  have:=K8 (ds:=[dM j]) (k:=((n:Nat):Int)) (oP (by lia)) (by rw[xD,Nat.one_mul,yG];exact yD hn (by decide));rw[yG] at this;exact this
 have hc:(fC (.int ((n:Nat):Int)):Dl.Env->Option D) ρ=some (.int ((n:Nat):Int)):=rfl;unfold rZ;rw[hr,zA,hc,zA,hg,qa]
def xq{cs:List Nat}{ρ:Dl.Env}{is:List Nat}(Xp:fi ρ=some (is.map nD))(hl:is.length<=1000)(hh:∀i∈is,te (some (nD i)::cs.map λj=>(ρ[j]?).getD none)=some (dM j)):cf (aw 1 cs fi (fG 0) (λ_=>some true) te) ρ=some (.list (List.replicate is.length (dM j))):=by
 rw[gz (gV (f:=λ_=>dM j) Xp hl hh),List.map_const']
end
end
namespace K34M
open Ex
section
variable {G T:List Pl}{W:List Wy}{P X:List Int}{b:Bool}{i j k:Nat}{w d:D}{c:Str}
def FM:∀ (a:List Int) {c d:List Int},lexLt (a++c) (a++d)=lexLt c d
 | [],_,_=>rfl
 | x::a,c,d=>by
  show HT.lexLt _ _=_;rw[xG,xG,HT.bg,yM rfl];exact FM a
def Gj:∀ {a b c d:List Int},a.length=b.length->lexLt a b=true->lexLt (a++c) (b++d)=true
 | [],[],_,_,_,h=>by rw[dB] at h;cases h
 | [],_::_,_,_,e,_=>by cases e
 | _::_,[],_,_,e,_=>by cases e
 | x::a,y::b,c,d,e,h=>by
  have h:HT.lexLt (x::a) (y::b)=true:=h;show HT.lexLt _ _=_;rw[HT.bg] at h;rw[xG,xG,HT.bg];split at h
  ·rename_i z;rw[yM z];exact Gj (by simpa using e) h
  ·rename_i z;rw[yO z];exact h
def Gf:∀ {a b c d:List Int},a.length=b.length->lexLt c d=false->lexLt (a++c) (b++d)=lexLt a b
 | [],[],_,_,_,h=>by rw[dB];exact h
 | [],_::_,_,_,e,_=>by cases e
 | _::_,[],_,_,e,_=>by cases e
 | x::a,y::b,c,d,e,h=>by
  show HT.lexLt _ _=HT.lexLt _ _;rw[xG,xG,HT.bg,HT.bg];split
  ·exact Gf (by simpa using e) h
  ·rfl
def KP{a b:List Int}(h:lexLt a b=true):lexLt b a=false:=by
 cases z:lexLt b a with
 | false=>rfl
 | true =>
  have:=eH h z;rw[dB] at this;cases this
def RC{l:Int}{fs:List (List Int)}{n:Nat}(hn:∀r∈fs,r.length=n)(hp:fs.Pairwise λa b=>Dl.lexLt a b=true):(oi l fs).Pairwise (λa b=>Dl.lexLt a b=true)/\∀r∈oi l fs,r.length=n+1:=by
 constructor
 ·unfold oi;rw[List.pairwise_flatten];constructor
  ·intro L hL;obtain⟨r,_,rfl⟩:=List.mem_map.mp hL;rw[jF];refine List.Pairwise.imp ?_ List.pairwise_lt_range;intro p q hpq;rw[FM];show HT.lexLt [_] [_]=true;rw[HT.bg,yO (by lia)];exact yA (by lia)
  ·rw[jF];refine List.Pairwise.imp_of_mem ?_ hp;intro r q hr hq hrq x hx y hy;obtain⟨_,_,rfl⟩:=List.mem_map.mp hx;obtain⟨_,_,rfl⟩:=List.mem_map.mp hy;exact Gj (by rw[hn r hr,hn q hq]) hrq
 ·intro r hr;obtain⟨r',h',v,_,_,rfl⟩:=tK.mp hr;simp[hn r' h']
def Lk:∀ {W:List Wy}{fs:List (List Int)}{n:Nat},(∀r∈fs,r.length=n)->(fs.Pairwise λa b=>Dl.lexLt a b=true)->(ym W fs).Pairwise λa b=>Dl.lexLt a b=true
 | [],_,_,_,hp=>hp
 | w::W,fs,n,hn,hp=>by
  obtain⟨h1,h2⟩:=RC (l:=w.2.2) hn hp;rw[ym];exact Lk h2 h1
def Nq(G T:List Pl)(W:List Wy):(allR G T W).Pairwise λa b=>Dl.lexLt a b=true:=((Lk (n:=0) (λr hr=>by rw[List.mem_singleton.mp hr];rfl) (vN _ _)).filter _).filter _
def Dv{l:List (List Int)}{f:List Int->List Int}(hs:l.Pairwise λa b=>Dl.lexLt a b=true)(hf:∀a b,(f a).length=(f b).length):∀j,j < l.length->PySem.argBest (bT (l.map λX=>f X++X)) j=PySem.argBest (bT (l.map f)) j
 | 0,_=>rfl
 | j+1,hj=>by
  have ih:=Dv hs hf j (by lia);have hk:=n9 (bT (l.map f)) j;rw[PySem.argBest,PySem.argBest,ih];generalize PySem.argBest (bT (l.map f)) j=k at hk;have d1:∀ (g:List Int->List Int) q,(hq:q < l.length)->(l.map g).getD q []=g l[q]:=λg q hq=>by simp[hq]
  have hb:bT (l.map λX=>f X++X) (j+1) k=bT (l.map f) (j+1) k:=by
   unfold bT;rw[d1 _ _ hj,d1 _ _ (show k < l.length by lia),d1 _ _ hj,d1 _ _ (show k < l.length by lia)];exact Gf (hf _ _) (KP (List.pairwise_iff_getElem.mp hs k (j+1) (by lia) hj (by lia)))
  rw[hb]
def FQ:∀ {nss:List (List Int)},(∀ns∈nss,∃x y m,ns=x::y::m)->yw (nss.map Bt)=some nss
 | [],_=>rfl
 | ns::r,h=>by
  obtain⟨x,y,m,rfl⟩:=h ns zE;have e:NQ (Bt (x::y::m))=some (x::y::m):=by
   show (fZ (ah m)).map _=_;rw[show fZ (ah m)=some m from bS m];rfl
  rw[zI,yw,e,zA,FQ λz hz=>h z (zC _ hz)];rfl
def fl(G T:List Pl)(W:List Wy)(X:List Int):List Int:=Qc G T W X++X
def PY(h:Wd G T W):og [.list ((allR G T W).map λX=>Bt (fl G T W X))]=some (Bt (fl G T W (Q0 G T W))):=by
 have hm:((allR G T W).map λX=>Bt (fl G T W X))=((allR G T W).map (fl G T W)).map Bt:=by rw[zM];rfl
 have hr:=FQ (nss:=(allR G T W).map (fl G T W)) λns XU=>by
  obtain⟨X,_,rfl⟩:=List.mem_map.mp XU;exact⟨_,_,_,rfl⟩
 rw[hm];show (yw (((allR G T W).map (fl G T W)).map Bt)).bind _=_;rw[hr,zA];have Wg:=JV h;rw[zD,show PySem.argBest (bT ((allR G T W).map (fl G T W))) ((allR G T W).length - 1)=_ from Dv (f:=Qc G T W) (Nq G T W) (λ_ _=>rfl) _ (by lia),zO,zO,zK Wg];unfold Q0;rw[zG,zK Wg];rfl
def QM(b:Bool)(W:List Wy)(P L:List Int)(q:Nat):Int:=P.getD q 0 * ((lI L (bP b (aC W q)):Nat):Int)
def MD{L:List Int}(hn:L.Nodup){r:Nat}(hr:r < L.length):lI L L[r]=r:=by
 have h1:=EK (L:=L) (x:=L[r]) (qB hr);have h2:=zy (L:=L) (x:=L[r]) (qB hr);rw[zK h2] at h1;exact (List.getElem_inj hn).mp (xE h1)
def MB(h:Wd G T W)(hi:i < (aP b G T).length):cst b G T W P i=(((bR b G T i).2.length:Nat):Int) * (amt b G T i - lK b W P i)+((own b W i).map (QM b W P (bR b G T i).2)).sum:=by
 have key:=Fv (vm b G T W i P) (amt b G T i) 0;have kw:=zx (vm b G T W i P) 0;have hp:=jz h hi;have e1:(vm b G T W i P).sum=lK b W P i:=uj (hp.map (vl P));have e2:(vm b G T W i P).length=(bR b G T i).2.length:=by simp[vm,lst,fX]
 have e3:((own b W i).map (QM b W P (bR b G T i).2)).sum=((lst b G T W i).map (QM b W P (bR b G T i).2)).sum:=(uj (hp.map _)).symm;have e4:(lst b G T W i).map (QM b W P (bR b G T i).2)=(List.range (vm b G T W i P).length).map λk=>((0+k:Nat):Int) * (vm b G T W i P).getD k 0:=by
  have Xn:(bR b G T i).2.Nodup:=by
   have:=gY h hi;unfold lst fX at this;exact List.Pairwise.of_map _ (λa c hac e=>hac (by rw[e])) this
  refine jI (by simp[vm]) λr h1 h2=>?_;have hr:r < (bR b G T i).2.length:=by simpa [lst,fX] using h1
  have ho:=(iH h (ik hi) (qB hr)).2.2;simp only[List.getElem_map,List.getElem_range,jE,QM,lst,fX];rw[ho,MD Xn hr];have:(vm b G T W i P).getD r 0=P.getD (p9 b W i (bR b G T i).2[r]) 0:=by
   simp[vm,lst,fX,hr,vl]
  rw[this,Int.mul_comm]
 unfold cst;rw[e3,e4,kw];simp only[Int.zero_add,Int.zero_mul,e1,e2] at key;rw[<- key,Int.mul_comm (((bR b G T i).2.length:Nat):Int)];exact Int.add_comm _ _
def TN:ar->Option Out:=(eI (fB (f2 bz (f2 az (ae 7) (ae 1)) (ae 2))) (Dl.aR 5 [1,4,5,6,7] (f2 Dl.aD (ae 5) (f2 Dl.cJ (ae 6) (f2 iT (ae 4) (f2 az (ae 7) (f2 Dl.dJ (fC (.int 1)) (ae 1))))))) dS)
abbrev sC(G T:List Pl)(W:List Wy)(P:List Int)(b:Bool)(i:Nat)(v:Int)(x6 x7:Slot):ar:=[.val (aH G T W),.val (.int (sI b)),.val (nD i),.val (ah P),.val (ah (bR b G T i).2),.val (.int v),x6,x7]
def uw(h:Wd G T W)(p:Pn G T W P)(hi:i < (aP b G T).length):bD [aH G T W,.int (sI b),nD i,ah P]=some (.int (cst b G T W P i)):=by
 have hp:=p.len;have hw:=h.wl;have hs:=Pn.smP h p;have h9:∀q,q < W.length->0<=P.getD q 0/\P.getD q 0<=9:=λq hq=>by
  have h1:=p.bd q hq;have h2:=(h.wr _ (mi hq)).2.2;lia
 have hlen:(bR b G T i).2.length<=16:=by
  have:=A0 (P:=P) h hi;simpa [vm,lst,fX] using this
 have hm:∀q,q < W.length->aN b (aC W q)=((i:Nat):Int)->bP b (aC W q)∈(bR b G T i).2:=λq hq e=>by
  have X7:q∈lst b G T W i:=(iI h hi).mpr ⟨hq,by unfold gn;rw[e];simp⟩;unfold lst fX at X7;obtain⟨o,ho,e'⟩:=List.mem_map.mp X7;have:=(iH h (ik hi) ho).2.2;rw[e'] at this;rw[this];exact ho
 refine aJ ?_;show lV [.val (aH G T W),.val (.int (sI b)),.val (nD i),.val (ah P),.V6,.V6,.V6,.V6]=_;show (ay (Dl.aR 4 [0,1,2] (f2 az (f2 az (f2 az (ae 0) (ae 1)) (ae 2)) (fC (.int 1)))) (ay (Dl.aR 5 [0,1,2,3,4] (f2 Dl.cJ (ba aZ (aa (ae 4) af)) (f2 Dl.dJ (f2 az (f2 az (f2 az (ae 0) (ae 1)) (ae 2)) (fC (.int 0))) (ai 4 bu (aa (ae 0) (aa (ae 3) (aa (ae 1) (aa (ae 2) af)))))))) (ay (cq [0,3] (fy (aa (ae 3) (aa (f2 az (ae 0) (fC (.int 2))) af))) (gy 6 7) TN) (aI (ae 5))))) _=_;have ep:az (.tuple ((aP b G T).map bc)) (nD i)=some (bc (bR b G T i)):=l5 (ik hi);have er:∀ρ:Dl.Env,ae 0 ρ=some (aH G T W)->ae 1 ρ=some (.int (sI b))->ae 2 ρ=some (nD i)->(f2 az (f2 az (f2 az (ae 0) (ae 1)) (ae 2)) (fC (.int 1))) ρ=some (ah (bR b G T i).2):=λρ h0 h1 h2=>aq (a:=bc (bR b G T i)) (b:=.int 1) rfl (aq ep (aq (d9 b G T W) h0 h1) h2) rfl;refine (ak (b8 (er _ rfl rfl rfl) (er _ rfl rfl rfl) rfl)).trans ?_;refine (ak (cm (d:=.int ((((bR b G T i).2.length:Nat):Int) * (amt b G T i - lK b W P i))) (aq (cP (.inl ⟨by lia,by lia⟩)) (iO (l:=(bR b G T i).2) (k:=PyData.int) rfl) (aq (sub_int _ _) (aq (a:=bc (bR b G T i)) (b:=.int 0) rfl (aq ep (aq (d9 b G T W) rfl rfl) rfl) rfl) (call_of (nY h hp hs b i) rfl rfl))) rfl)).trans ?_;rw[MB h hi];generalize (((bR b G T i).2.length:Nat):Int) * (amt b G T i - lK b W P i)=v0;obtain⟨ρ',f,x6,x7,rfl⟩:=tH (tgt:=gy 6 7) (gb:=TN) (λq:Nat=>.tuple [.int (P.getD q 0),au (aC W q)]) (λq ρ=>∃x6 x7,ρ=sC G T W P b i (v0+(((List.range q).filter λi'=>decide (aN b (aC W i')=((i:Nat):Int))).map (QM b W P (bR b G T i).2)).sum) x6 x7) W.length 0 (sC G T W P b i v0 .V6 .V6)
  (λq ρ _ hq Xz=>by
   have hq:q < W.length:=by lia
   obtain⟨x6,x7,rfl⟩:=Xz;refine⟨_,_,rfl,?_,.val (.int (P.getD q 0)),.val (au (aC W q)),rfl⟩;rw[vY,List.filter_append,jB,List.sum_append];unfold TN;by_cases e:aN b (aC W q)=((i:Nat):Int)
   ·rw[show ([q].filter λi'=>decide (aN b (aC W i')=((i:Nat):Int)))=[q] by simp[e]];refine (bW (aV (aq ((cB _ _).trans (by rw[yA e])) (aq (kq b _) rfl rfl) rfl))).trans ?_;have hio:=hm q hq e;have hx:=zy hio;have h9q:=h9 q hq;refine (cm (d:=.int (v0+(((List.range q).filter λi'=>decide (aN b (aC W i')=((i:Nat):Int))).map (QM b W P (bR b G T i).2)).sum+P.getD q 0 * ((lI (bR b G T i).2 (bP b (aC W q)):Nat):Int))) (aq (cZ _ _) rfl (aq (cP (.inl ⟨by lia,by lia⟩)) rfl (aq (Ax hio) rfl (aq (GO b _) rfl (aq (sub_int 1 (sI b)) rfl rfl))))) rfl).trans ?_;rw[Int.add_assoc];simp only[zI,yV,kF,List.sum_nil,Int.add_zero];rfl
   ·rw[show ([q].filter λi'=>decide (aN b (aC W i')=((i:Nat):Int)))=[] by simp[e]];refine (bj (aV (aq ((cB _ _).trans (by rw[zZ e])) (aq (kq b _) rfl rfl) rfl))).trans ?_;simp only[yV,List.sum_nil,Int.add_zero];rfl) ⟨.V6,.V6,by simp⟩
 rw[<- yH] at f;have hz:fy (aa (ae 3) (aa (f2 az (ae 0) (fC (.int 2))) af)) (bV (sC G T W P b i v0 .V6 .V6))=some ((List.range W.length).map λi=>.tuple [.int (P.getD i 0),au (aC W i)]):=by
  rw[<- n0 hp];rfl
 refine (ak (bF f hz rfl)).trans ?_;rw[jE];exact aL rfl
def yg{tgt:ar->D->Option ar}{gb:ar->Option Out}{ρ ρ1 Xw:ar}{d:D}{ds:List D}(h1:tgt ρ d=some ρ1)(h2:gb ρ1=some (.nx Xw)):cE tgt gb (d::ds) ρ=cE tgt gb ds Xw:=by
 rw[cE,h1,zA,h2];rfl
def uW(h:Wd G T W)(p:Pn G T W P):dC [aH G T W,ah P]=some (ah (UO G T W P)):=by
 have es:∀ (b:Bool) (ρ:Dl.Env),(ρ[0]?).getD none=some (aH G T W)->(ρ[1]?).getD none=some (ah P)->(ρ[3]?).getD none=some (.int (sI b))->ae 0 ρ=some (aH G T W)->ae 3 ρ=some (.int (sI b))->(ba iA (aa (cf (aw 1 [0,1,3] (aE (aa (ba aZ (aa (f2 az (ae 0) (ae 3)) af)) af)) (fG 0) (λ_=>some true) (ai 4 bD (aa (ae 1) (aa (ae 3) (aa (ae 0) (aa (ae 2) af))))))) af)) ρ=some (.int (vj b G T W P)):=λb ρ h0 h1 h3 g0 g3=>by
  have hr:aE (aa (ba aZ (aa (f2 az (ae 0) (ae 3)) af)) af) ρ=some ((List.range (aP b G T).length).map nD):=gu (cons_of (iO (l:=aP b G T) (k:=bc) (aq (d9 b G T W) g0 g3)) rfl) (by have:=h.pl b;lia);have c:=II (cs:=[0,1,3]) (tt:=λ_=>some true) (te:=ai 4 bD (aa (ae 1) (aa (ae 3) (aa (ae 0) (aa (ae 2) af))))) (g:=nD) (f:=λk=>.int (cst b G T W P k)) (q:=λ_=>true) (l:=List.range (aP b G T).length) hr (by rw[zR];have:=h.pl b;lia) λk hk=>⟨rfl,λ_=>by
   simp only[zI,yV,h0,h1,h3];exact call_of (uw h p (List.mem_range.mp hk)) rfl rfl⟩
  rw[List.filter_eq_self.mpr λ_ _=>rfl] at c;have e2:((List.range (aP b G T).length).map λk=>PyData.int (cst b G T W P k))=((List.range (aP b G T).length).map λk=>cst b G T W P k).map PyData.int:=by rw[zM];rfl
  rw[e2] at c;refine (fJ (gz c)).trans ((tY (by rw[zD,zR];have:=h.pl b;lia) λx hx=>?_).trans rfl);obtain⟨k,hk,rfl⟩:=List.mem_map.mp hx;have:=LX h p (List.mem_range.mp hk);lia
 refine aJ ?_;show (ay (aW 2 [] (cX af)) (ay (cq [] (aE (aa (fC (.int 2)) af)) (gM 3) (lG 2 [0,1,3] (ba iA (aa (cf (aw 1 [0,1,3] (aE (aa (ba aZ (aa (f2 az (ae 0) (ae 3)) af)) af)) (fG 0) (λ_=>some true) (ai 4 bD (aa (ae 1) (aa (ae 3) (aa (ae 0) (aa (ae 2) af))))))) af)))) (aI (ba cF (aa (ae 2) af))))) [.val (aH G T W),.val (ah P),.V6,.V6]=_;refine (ak (gZ (ds:=[]) rfl rfl)).trans ?_;have e1:∀ (b:Bool) (l:List D) (hl:l.length<=10),(lG 2 [0,1,3] (ba iA (aa (cf (aw 1 [0,1,3] (aE (aa (ba aZ (aa (f2 az (ae 0) (ae 3)) af)) af)) (fG 0) (λ_=>some true) (ai 4 bD (aa (ae 1) (aa (ae 3) (aa (ae 0) (aa (ae 2) af))))))) af))) [.val (aH G T W),.val (ah P),.own l,.val (.int (sI b))]=some (.nx [.val (aH G T W),.val (ah P),.own (l++[.int (vj b G T W P)]),.val (.int (sI b))]):=λb l hl=>Jm (es b _ rfl rfl rfl rfl rfl) (es b _ rfl rfl rfl rfl rfl) rfl rfl (by lia);have f:cE (gM 3) (lG 2 [0,1,3] (ba iA (aa (cf (aw 1 [0,1,3] (aE (aa (ba aZ (aa (f2 az (ae 0) (ae 3)) af)) af)) (fG 0) (λ_=>some true) (ai 4 bD (aa (ae 1) (aa (ae 3) (aa (ae 0) (aa (ae 2) af))))))) af))) ([false,true].map λb=>.int (sI b)) [.val (aH G T W),.val (ah P),.own [],.V6]=some (.nx [.val (aH G T W),.val (ah P),.own [.int (vj false G T W P),.int (vj true G T W P)],.val (.int (sI true))]):=by
  rw[zI,zI,yV];refine (yg (ρ1:=[.val (aH G T W),.val (ah P),.own [],.val (.int (sI false))]) rfl (e1 false [] (by simp))).trans ?_;exact (yg (ρ1:=[.val (aH G T W),.val (ah P),.own ([]++[.int (vj false G T W P)]),.val (.int (sI true))]) rfl (e1 true _ (by simp))).trans rfl
 refine (ak (bF f (gu (n:=2) rfl (by lia)) rfl)).trans ?_;exact aL ((fJ rfl).trans rfl)
abbrev GA:List Str:=["NoWorld","NoPlan","NoPlace","TooMany"]
abbrev R3:Str:="TooMany"
def Nm{j:Nat}(h:GA.contains c=true)(hj:tZ (.bool true) (GA.map λn=>.bool (c == n))=some j):nh GA c=some (dM j):=by
 unfold nh;rw[yM h,hj];rfl
def Ub:nh GA TM=some (dM 0):=Nm (by decide +kernel) (by simp only[GA,zI,tZ,MJ,show (TM == ("NoWorld":Str))=true by decide +kernel,xI])
def gK:nh GA Ud=some (dM 1):=Nm (by decide +kernel) (by simp only[GA,zI,tZ,MJ,show (Ud == ("NoWorld":Str))=false by decide +kernel,show (Ud == ("NoPlan":Str))=true by decide +kernel,xI,yP,qQ,zB])
def VJ:nh GA Pw=some (dM 2):=Nm (by decide +kernel) (by simp only[GA,zI,tZ,MJ,show (Pw == ("NoWorld":Str))=false by decide +kernel,show (Pw == ("NoPlan":Str))=false by decide +kernel,show (Pw == ("NoPlace":Str))=true by decide +kernel,xI,yP,qQ,zB])
def VS:nh GA R3=some (dM 3):=Nm (by decide +kernel) (by simp only[GA,zI,tZ,MJ,show (R3 == ("NoWorld":Str))=false by decide +kernel,show (R3 == ("NoPlan":Str))=false by decide +kernel,show (R3 == ("NoPlace":Str))=false by decide +kernel,show (R3 == ("TooMany":Str))=true by decide +kernel,xI,yP,qQ,zB])
def JP{f:Dl.Env->Option D}{ρ:ar}(h:f (aK ρ)=none):aI f ρ=none:=by
 unfold aI;rw[h];rfl
def TJ{xh xr:XS}{g:ar->Option Out}{ρ:ar}(h:xh ρ=some c):gG xh g xr ρ=some c:=by
 unfold gG;rw[h]
def O0{xh xr:XS}{g:ar->Option Out}{ρ:ar}(h:xh ρ=none)(hg:g ρ=some (.nx ρ)):gG xh g xr ρ=xr ρ:=by
 unfold gG EF;rw[h,hg];rfl
def UA{g1 g2:ar->Option Out}{ρ:ar}(h:g1 ρ=none):ay g1 g2 ρ=none:=by
 unfold ay;rw[h];rfl
def UX{t:Dl.Env->Option Bool}{fa fb:Dl.Env->Option D}{ρ:Dl.Env}(h:t ρ=some true)(ha:fa ρ=none):GI t fa fb ρ=none:=by simp only[GI,h,zA,ha]
def UM{t:Dl.Env->Option Bool}{fa fb:Dl.Env->Option D}{ρ:Dl.Env}(h:t ρ=some false)(ha:fb ρ=none):GI t fa fb ρ=none:=by simp only[GI,h,zA,ha]
def U0{t:Dl.Env->Option Bool}{xa xb:XE}{ρ:Dl.Env}(h:t ρ=some true):E3 t xa xb ρ=xa ρ:=by simp only[E3,h,zA,xI]
def Vd{t:Dl.Env->Option Bool}{xa xb:XE}{ρ:Dl.Env}(h:t ρ=some false):E3 t xa xb ρ=xb ρ:=by simp only[E3,h,zA,yP,qQ]
abbrev env(k:Int)(w p l:D):ar:=[.val (.int k),.val w,.val p,.val l,.V6]
section
variable {p l:D}
def YV(k:Int):(fB (f2 Dl.EY (ae 0) (fC (.int 2)))) (aK (env k w p l))=some (decide (k < 2)):=aV (aq (mW k 2) rfl rfl)
def teq(k:Int):(fB (f2 bz (ae 0) (fC (.int 2)))) (aK (env k w p l))=some (decide (k=2)):=aV (aq (cB k 2) rfl rfl)
def UT(b:Bool):decide (sI b < 2)=true:=by cases b<;>rfl
def Rc(b:Bool)(h:k4 [w,.int (sI b),l,p]=some d):av [.int (sI b),w,p,l]=some d:=aJ (J6 (ρ:=env (sI b) w p l) (eZ ((bW ((YV _).trans (by rw[UT]))).trans (aL (call_of h rfl rfl)))))
def Ta(h:j6 [w,p]=some d):av [.int 2,w,p,l]=some d:=aJ (J6 (ρ:=env 2 w p l) ((ak (bj (YV 2))).trans (aL (sU (teq 2) (call_of h rfl rfl)))))
def Tu(h:fF [w]=some d):av [.int 3,w,p,l]=some d:=aJ (J6 (ρ:=env 3 w p l) ((ak (bj (YV 3))).trans (aL (As (teq 3) (call_of h rfl rfl)))))
def DB(b:Bool)(B:pS k4 qk [w,.int (sI b),l,p] c)(hf:nh GA c=some d):av [.int (sI b),w,p,l]=some d:=aJ (Ec (ρ:=env (sI b) w p l) (UA ((bW ((YV _).trans (by rw[UT]))).trans (JP (yq B.n rfl)))) (TJ ((TX ((YV _).trans (by rw[UT]))).trans (RW B.x rfl rfl))) hf)
def Tw(B:pS j6 oq [w,p] c)(hf:nh GA c=some d):av [.int 2,w,p,l]=some d:=aJ (Ec (ρ:=env 2 w p l) ((ak (bj (YV 2))).trans (JP (UX (teq 2) (yq B.n rfl)))) ((O0 (Ka (YV 2)) (bj (YV 2))).trans ((U0 (teq 2)).trans (RW B.x rfl rfl))) hf)
def SI(B:pS fF jg [w] c)(hf:nh GA c=some d):av [.int 3,w,p,l]=some d:=aJ (Ec (ρ:=env 3 w p l) ((ak (bj (YV 3))).trans (JP (UM (teq 3) (yq B.n rfl)))) ((O0 (Ka (YV 3)) (bj (YV 3))).trans ((Vd (teq 3)).trans (RW B.x rfl rfl))) hf)
def FD{s:D}(B:pS aY bC [w,p] c):pS k4 qk [w,s,l,p] c :=
 let z:=B.head (ρ:=[.val w,.val s,.val l,.val p]) (fs:=aa (ae 0) (aa (ae 3) af)) rfl rfl
 ⟨runN z.1,z.2⟩
def Tz{s:D}(O:KM aY bC [w,p])(B:pS di dR [w,s,l] c):pS k4 qk [w,s,l,p] c:=by
 have t:=λg xr=>O.tail (ρ:=[.val w,.val s,.val l,.val p]) (fs:=aa (ae 0) (aa (ae 3) af)) (n:=2) rfl rfl (g:=g) (xr:=xr);have z:=λg=>B.head (ρ:=[.val w,.val s,.val l,.val p]) (fs:=aa (ae 0) (aa (ae 1) (aa (ae 2) af))) (n:=3) rfl rfl (g:=g) (xr:=m8);have z2:=B.one (ρ:=[.val w,.val s,.val l,.val p]) (fs:=aa (ae 0) (aa (ae 1) (aa (ae 2) af))) (n:=3) rfl rfl;exact⟨runN ((t _ m8).1.trans (z _).1),(t dS _).2.trans z2.2⟩
def Jx(B:pS aY bC [w,p] c):pS j6 oq [w,p] c:=by
 have z:=λg=>B.head (ρ:=[.val w,.val p]) (fs:=aa (ae 0) (aa (ae 1) af)) (n:=2) rfl rfl (g:=g) (xr:=m8);have z2:=B.one (ρ:=[.val w,.val p]) (fs:=aa (ae 0) (aa (ae 1) af)) (n:=2) rfl rfl;exact⟨runN (z _).1,z2.2⟩
def Us(B:pS aX bL [w] c):pS cx eC [w] c :=
 let z:=B.head (ρ:=[.val w]) (fs:=aa (ae 0) af) rfl rfl
 ⟨runN z.1,z.2⟩
def Ve(O:KM aX bL [w])(B:pS dE eS [w] c):pS cx eC [w] c:=by
 have t:=λg xr=>O.tail (ρ:=[.val w]) (fs:=aa (ae 0) af) (n:=1) rfl rfl (g:=g) (xr:=xr);have z:=λg=>B.head (ρ:=[.val w]) (fs:=aa (ae 0) af) (n:=1) rfl rfl (g:=g) (xr:=m8);have z2:=B.one (ρ:=[.val w]) (fs:=aa (ae 0) af) (n:=1) rfl rfl;exact⟨runN ((t _ m8).1.trans (z _).1),(t dS _).2.trans z2.2⟩
def OK(B:pS cx eC [w] c):pS cC gc [w] c:=by
 refine⟨runN (JP ?_),RW (n:=1) (ρ:=aK [.val w]) (fs:=aa (ae 0) af) B.x rfl rfl⟩;have:ai 1 cx (aa (ae 0) af) (aK [.val w])=none:=yq B.n rfl;show cf (aw 1 [0] (bo (ai 1 cx (aa (ae 0) af))) (fG 0) _ _) (aK [.val w])=none;unfold cf aw bo;rw[this];rfl
def Oz(B:pS cC gc [w] c):pS fF jg [w] c:=by
 refine⟨runN (JP ?_),RW (n:=1) (ρ:=aK [.val w]) (fs:=aa (ae 0) af) B.x rfl rfl⟩;have:ai 1 cC (aa (ae 0) af) (aK [.val w])=none:=yq B.n rfl;show zg _ _ _ (aK [.val w])=none;unfold zg;rw[this];rfl
end
def Sn:List Pl:=[(9,[0,1,2,3])]
def QU:List Pl:=[(9,[0]),(9,[0]),(9,[0]),(9,[0])]
def TZ:List Wy:=[(0,0,9),(0,1,9),(0,2,9),(0,3,9)]
def Tj:Wd Sn QU TZ:=by
 refine⟨by decide,by decide,by decide,by decide,by decide,by decide,λi p e=>?_,λi p e=>?_,by decide,by unfold Ja;decide,by decide⟩
 ·match i,e with
  | 0,e=>cases e;decide
  | n+1,e=>simp[Sn] at e
 ·match i,e with
  | 0,e=>cases e;decide
  | 1,e=>cases e;decide
  | 2,e=>cases e;decide
  | 3,e=>cases e;decide
  | n+4,e=>simp[QU] at e
def NB:pS dE eS [aH Sn QU TZ] R3:=⟨by kernel_rfl,by kernel_rfl⟩
def Ef(j:Int):SeqAt.shaped (dM j)=true:=by
 have:=lZ j 1;simp[SeqAt.shaped,dM,PyData.canLay0,PyData.canLayAll0,PyData.depth,PyData.depthAll];decide +kernel
def Cb(j:Int):gU (dM j) (dM j)=some (.bool false):=by simp only[gU,RL,Ef,jQ,xI,FA,zB];rfl
def Tc(j:Int)(ρ:Dl.Env):aA (aa (fC (.str "refused")) (aa (fC (.int j)) af)) ρ=some (dM j):=tup_is (ds:=[.str "refused",.int j]) rfl (by simp)
def N3(h:Wd G T W):bp [.tuple [.tuple (G.map bc),.tuple (T.map bc)]]=some (.bool false):=by
 have hf:∀x∈[PyData.tuple (G.map bc),.tuple (T.map bc),.tuple (W.map au)],ja 16 3 x:=by
  rcases h.fit with z|⟨xs,z,_,z2⟩
  ·exact z.elim
  ·rcases z with z|z
   ·cases z
   ·cases z;exact z2
 have Yk:ja 16 4 (.tuple [.tuple (G.map bc),.tuple (T.map bc)]):=.tup (by simp) λx hx=>hf x (by simp only[zQ,yF,xV] at hx ⊢;rcases hx with rfl|rfl<;>simp);rw[n6 Yk (by decide)];rfl
def R8{n:Nat}(hl:n<=1000):Dl.cJ (.tuple [.int 9]) (nD n)=some (.tuple (List.replicate n (.int 9))):=by
 have e:uq (.tuple [.int 9]) (nD n)=some (.tuple (List.replicate n (.int 9))):=by
  show (if Bu ((n:Nat):Int)=true/\[PyData.int 9].length * ((n:Nat):Int).toNat<=sizeLine then some (PyData.tuple (List.replicate ((n:Nat):Int).toNat [PyData.int 9]).flatten) else none)=_;have hz:[PyData.int 9].length * n<=sizeLine:=by
   rw[xD,Nat.one_mul];exact yD hl (by decide)
  rw[yG,yM ⟨oP hl,hz⟩,qa]
 show ((xu ub λi j=>PyData.int (i * j)) (.tuple [.int 9]) (nD n)).or (uq (.tuple [.int 9]) (nD n))=_;rw[e];rfl
def LB(n:Nat):List D:=[.int (-1),nD n,.none,.bool true,.str "0"]
def Q7{n:Nat}:∀d∈LB n,iz d=true/\whole 0 ((n:Int) - 1) d=false:=λd hd=>by
 simp only[LB,zQ,yF,xV] at hd;rcases hd with rfl|rfl|rfl|rfl|rfl
 ·exact⟨rfl,rfl⟩
 ·refine⟨rfl,?_⟩;show (decide ((0:Int)<=(n:Int))&&decide ((n:Int)<=(n:Int) - 1))=false;rw[zZ (show ¬ (n:Int)<=(n:Int) - 1 by lia),vC]
 ·exact⟨rfl,rfl⟩
 ·exact⟨rfl,rfl⟩
 ·exact⟨rfl,rfl⟩
def LN(P:List Int):List D:=[.none,ah (P++[0]),.list (P.map PyData.int),.tuple (List.replicate (P.length+2) (.int 9))]
def RF(h:Wd G T W)(hp:P.length=W.length):∀d∈LN P,ck [aH G T W,d]=some (.bool false):=λd hd=>by
 simp only[LN,zQ,yF,xV] at hd;rcases hd with rfl|rfl|rfl|rfl
 ·exact tm h rfl rfl
 ·exact tm h rfl (BZ (by simp;lia))
 ·exact tm h rfl rfl
 ·exact tm h rfl (BZ (by simp;lia))
abbrev st(s:D)(G T:List Pl)(W:List Wy)(P:List Int)(x3 x4 x5 x6 x7 x8 x9 x10 x11:Slot):ar:=[.val s,.val (aH G T W),.val (ah P),x3,x4,x5,x6,x7,x8,x9,x10,x11]
def pB:ar->Option Out:=(eI (fB (f2 gU (ai 4 av (aa (ae 3) (aa (ae 1) (aa (ae 2) (aa (ae 4) af))))) (ai 4 bD (aa (ae 1) (aa (ae 3) (aa (ae 4) (aa (ae 2) af))))))) (aI (fC (.bool false))) dS)
def oB:ar->Option Out:=(eI (fB (f2 gU (ai 4 av (aa (ae 3) (aa (ae 1) (aa (ae 2) (aa (ae 5) af))))) (aA (aa (fC (.str "refused")) (aa (fC (.int 2)) af))))) (aI (fC (.bool false))) dS)
def sB:ar->Option Out:=(ay (cq [1,3] (aE (aa (ba aZ (aa (f2 az (ae 1) (ae 3)) af)) af)) (gM 4) pB) (cq [1,3] (bo (aA (aa (f1 MG (fC (.int 1))) (aa (ba aZ (aa (f2 az (ae 1) (ae 3)) af)) (aa (fC .none) (aa (fC (.bool true)) (aa (fC (.str "0")) af))))))) (gM 5) oB))
def PB(h:Wd G T W)(p:Pn G T W P)(b:Bool){s:D}{x4 x5:Slot}:∃y4 y5,sB (st s G T W P (.val (.int (sI b))) x4 x5 .V6 .V6 .V6 .V6 .V6 .V6)=some (.nx (st s G T W P (.val (.int (sI b))) y4 y5 .V6 .V6 .V6 .V6 .V6 .V6)):=by
 have W5:=h.pl b;obtain⟨ρ',f,y4,rfl⟩:=l8 (tgt:=gM 4) (gb:=pB) (R:=λ(_:Unit) ρ=>∃y4,ρ=st s G T W P (.val (.int (sI b))) y4 x5 .V6 .V6 .V6 .V6 .V6 .V6) nD (λs _=>s)
  (l:=List.range (aP b G T).length) (s:=()) (ρ:=st s G T W P (.val (.int (sI b))) x4 x5 .V6 .V6 .V6 .V6 .V6 .V6)
  (λ_ ρ k hk Xz=>by
   obtain⟨x4,rfl⟩:=Xz;have hk:=List.mem_range.mp hk;exact⟨_,_,rfl,bj (aV (aq (NF _) (call_of (Rc b (P9 h p hk)) rfl rfl) (call_of (uw h p hk) rfl rfl))),_,rfl⟩) ⟨_,rfl⟩
 obtain⟨ρ',XW,y5,rfl⟩:=l8 (tgt:=gM 5) (gb:=oB) (R:=λ(_:Unit) ρ=>∃y5,ρ=st s G T W P (.val (.int (sI b))) y4 y5 .V6 .V6 .V6 .V6 .V6 .V6) (λd:D=>d) (λs _=>s)
  (l:=LB (aP b G T).length) (s:=()) (ρ:=st s G T W P (.val (.int (sI b))) y4 x5 .V6 .V6 .V6 .V6 .V6 .V6)
  (λ_ ρ d hd Xz=>by
   obtain⟨x5,rfl⟩:=Xz;have hn:=Q7 d hd;exact⟨_,_,rfl,bj (aV (aq (Cb 2) (call_of (DB b (Tz (V4 h p) (UF h b hn.1 hn.2)) VJ) rfl rfl) (Tc 2 _))),_,rfl⟩) ⟨_,rfl⟩
 rw[List.map_id'] at XW;refine⟨y4,y5,?_⟩;unfold sB;refine (ak (bF f (gu (cons_of (iO (l:=aP b G T) (k:=bc) (aq (d9 b G T W) rfl rfl)) rfl) (by lia)) rfl)).trans ?_;exact bF XW (A5 (tup_is (ds:=LB (aP b G T).length) (cons_of rfl (cons_of (iO (l:=aP b G T) (k:=bc) (aq (d9 b G T W) rfl rfl)) rfl)) (by simp[LB]))) rfl
def rB:ar->Option Out:=(eI (fB (ai 2 eP (aa (ae 1) (aa (ae 7) af)))) (ay (nR 8 9 [1,7] (ai 2 dC (aa (ae 1) (aa (ae 7) af)))) (lG 6 [7,8,9] (aA (aa (f2 Dl.aD (ae 8) (ae 9)) (aa (ba Fi (aa (f2 Dl.dJ (ae 8) (ae 9)) af)) (aa (ae 7) af)))))) dS)
def bB:ar->Option Out:=(eI (fB (f2 gU (cf (aw 1 [1,5] (aE (aa (fC (.int 3)) af)) (fG 0) (λ_=>some true) (ai 4 av (aa (ae 0) (aa (ae 1) (aa (ae 2) (aa (fC .none) af))))))) (cf (rZ (cX (aa (aA (aa (fC (.str "refused")) (aa (fC (.int 1)) af))) af)) (fC (.int 3)))))) (aI (fC (.bool false))) dS)
def rws(G T:List Pl)(W:List Wy)(l:List (List Int)):List D:=(l.filter λP=>decide (Hu G T W P=[])).map λX=>Bt (fl G T W X)
def D7(h:Wd G T W)(x:Pn G T W X){s:D}{x3 x4 x5 x8 x9:Slot}{l:List (List Int)}(hl:l.length<=3000):∃y8 y9,rB (st s G T W P x3 x4 x5 (.own (rws G T W l)) (.val (ah X)) x8 x9 .V6 .V6)=some (.nx (st s G T W P x3 x4 x5 (.own (rws G T W (l++[X]))) (.val (ah X)) y8 y9 .V6 .V6)):=by
 have er:=B8 h x.len (Pn.smP h x);have hlen:(rws G T W l).length<=3000:=by
  unfold rws;rw[zD];exact yD (xQ _ _) hl
 have ew:rws G T W (l++[X])=rws G T W l++rws G T W [X]:=by
  unfold rws;rw[List.filter_append,jB]
 rw[ew];cases e:decide (Hu G T W X=[]) with
 | false =>
  rw[e] at er;refine⟨x8,x9,(bj (aV (call_of er rfl rfl))).trans ?_⟩;rw[show rws G T W [X]=[] by unfold rws;rw[jY,e];rfl,qG]
 | true =>
  rw[e] at er;refine⟨.val (.int (vj false G T W X)),.val (.int (vj true G T W X)),?_⟩;rw[show rws G T W [X]=[Bt (fl G T W X)] by unfold rws;rw[jY,e];rfl];refine (bW (aV (call_of er rfl rfl))).trans ?_;refine (ak (JG (x:=.int (vj false G T W X)) (y:=.int (vj true G T W X)) (call_of (uW h x) rfl rfl) rfl)).trans ?_;have e3:∀ρ:Dl.Env,ae 7 ρ=some (ah X)->ae 8 ρ=some (.int (vj false G T W X))->ae 9 ρ=some (.int (vj true G T W X))->aA (aa (f2 Dl.aD (ae 8) (ae 9)) (aa (ba Fi (aa (f2 Dl.dJ (ae 8) (ae 9)) af)) (aa (ae 7) af))) ρ=some (Bt (fl G T W X)):=λρ h7 h8 h9=>(tup_is (cons_of (aq (cZ _ _) h8 h9) (cons_of ((fJ (aq (sub_int _ _) h8 h9)).trans rfl) (cons_of h7 rfl))) (by simp)).trans rfl;exact Jm (e3 _ rfl rfl rfl) (e3 _ rfl rfl rfl) rfl rfl (by lia)
def main(ns:List Int)(hl:ns.length<=63):ji [.list (ns.map PyData.int)]=some (.bool true):=by
 obtain⟨G,T,W,ew,h,few⟩:=Cq (ns:=ns) (a:=0) (mo:=6) hl (by lia);have hw:W.length<=6:=by have:=few.wm;lia
 have X3:∀w∈W,0<=w.2.2/\w.2.2<=2:=λw hw=>⟨by have:=(h.wr w hw).2.2;lia,few.w2 w hw⟩
 have ep:=Fo (ns:=ns) (at':=70) hl h;have p:=Ol (ns:=ns) (at':=70) hl h;generalize nU (vh ns 70 W) G T W W.length=P at ep p;have ef:=IS h (Bi h X3 (by lia)).1;obtain⟨elp,hal⟩:=Cv h X3 (by lia);obtain⟨ρ',fs,x3,x4,x5,rfl⟩:=l8 (tgt:=gM 3) (gb:=sB) (R:=λ(_:Unit) ρ=>∃x3 x4 x5,ρ=st (cH ns) G T W P x3 x4 x5 .V6 .V6 .V6 .V6 .V6 .V6) (λb:Bool=>.int (sI b)) (λs _=>s)
  (l:=[false,true]) (s:=()) (ρ:=st (cH ns) G T W P .V6 .V6 .V6 .V6 .V6 .V6 .V6 .V6 .V6)
  (λ_ ρ b _ Xz=>by
   obtain⟨x3,x4,x5,rfl⟩:=Xz;obtain⟨y4,y5,e⟩:=PB (s:=cH ns) (x4:=x4) (x5:=x5) h p b;exact⟨_,_,rfl,e,_,_,_,rfl⟩) ⟨_,_,_,rfl⟩
 obtain⟨ρ',fr,x7,x8,x9,rfl⟩:=tH (tgt:=gM 7) (gb:=rB) (λj=>ah ((gp G T W).getD j [])) (λj ρ=>∃x7 x8 x9,ρ=st (cH ns) G T W P x3 x4 x5 (.own (rws G T W ((gp G T W).take j))) x7 x8 x9 .V6 .V6) (gp G T W).length 0 (st (cH ns) G T W P x3 x4 x5 (.own []) .V6 .V6 .V6 .V6 .V6)
  (λj ρ _ hj Xz=>by
   obtain⟨x7,x8,x9,rfl⟩:=Xz;have hj:j < (gp G T W).length:=by lia
   have hx:(gp G T W).getD j []=(gp G T W)[j]:=by simp[hj]
   have px:Pn G T W ((gp G T W).getD j []):=by rw[hx];exact uz.mp (qB hj)
   have ht:(gp G T W).take (j+1)=(gp G T W).take j++[(gp G T W).getD j []]:=by rw[hx,List.take_append_getElem]
   obtain⟨y8,y9,e⟩:=D7 (P:=P) (s:=cH ns) (x3:=x3) (x4:=x4) (x5:=x5) (x8:=x8) (x9:=x9) (l:=(gp G T W).take j) h px (by rw[jX];lia);rw[<- ht] at e;exact⟨_,_,rfl,e,_,_,_,rfl⟩) ⟨_,_,_,by simp[rws];exact⟨rfl,rfl,rfl⟩⟩
 have hrr:(List.range' 0 (gp G T W).length).map (λj=>ah ((gp G T W).getD j []))=(gp G T W).map ah:=by
  refine jI (by simp) λj h1 h2=>?_;have:j < (gp G T W).length:=by simpa using h2
  simp[this]
 rw[hrr,jE,List.take_length] at fr;have hnp:=RF h p.len;have h1:=p.len;refine aJ ?_;show (ay (Dl.aR 1 [0] (ai 3 cn (aa (ae 0) (aa (fC (.int 0)) (aa (fC (.int 6)) af))))) (ay (Dl.aR 2 [0,1] (ai 3 gm (aa (ae 0) (aa (fC (.int 70)) (aa (ae 1) af))))) (ay (cq [] (aE (aa (fC (.int 2)) af)) (gM 3) sB) (ay (eI (fB (f2 gU (ai 4 av (aa (fC (.int 2)) (aa (ae 1) (aa (ae 2) (aa (fC .none) af))))) (ai 2 dC (aa (ae 1) (aa (ae 2) af))))) (aI (fC (.bool false))) dS) (ay (aW 6 [] (cX af)) (ay (cq [1] (bo (ai 1 fg (aa (ae 1) af))) (gM 7) rB) (ay (eI (fB (f2 gU (ai 4 av (aa (fC (.int 3)) (aa (ae 1) (aa (fC .none) (aa (fC .none) af))))) (f2 az (ba og (aa (ae 6) af)) (fC (.int 2))))) (aI (fC (.bool false))) dS) (ay (cq [2] (bo (aA (aa (fC .none) (aa (f2 Dl.aD (ae 2) (aA (aa (fC (.int 0)) af))) (aa (cf (m6 cg (aa (ae 2) af))) (aa (f2 Dl.cJ (aA (aa (fC (.int 9)) af)) (f2 Dl.aD (ba aZ (aa (ae 2) af)) (fC (.int 2)))) af)))))) (gM 5) bB) (ay (Dl.aR 10 [] (ba cF (aa (cf (aw 1 [] (aE (aa (fC (.int 4)) af)) (fG 0) (λ_=>some true) (aA (aa (fC (.int 9)) (aa (aA (aa (fC (.int 0)) af)) af))))) af))) (ay (Dl.aR 11 [10] (aA (aa (aA (aa (aA (aa (fC (.int 9)) (aa (aA (aa (fC (.int 0)) (aa (fC (.int 1)) (aa (fC (.int 2)) (aa (fC (.int 3)) af))))) af))) af)) (aa (ae 10) (aa (ba cF (aa (cf (aw 1 [] (aE (aa (fC (.int 4)) af)) (fG 0) (λ_=>some true) (aA (aa (fC (.int 0)) (aa (ae 0) (aa (fC (.int 9)) af)))))) af)) af))))) (ay (eI (fB (f2 gU (ai 4 av (aa (fC (.int 3)) (aa (ae 11) (aa (fC .none) (aa (fC .none) af))))) (aA (aa (fC (.str "refused")) (aa (fC (.int 3)) af))))) (aI (fC (.bool false))) dS) (aI (f2 bz (cf (aw 1 [1] (aE (aa (fC (.int 4)) af)) (fG 0) (λ_=>some true) (ai 4 av (aa (ae 0) (aa (sy lQ (ae 1) ud (KJ (fC (.int 2)))) (aa (fC .none) (aa (fC .none) af))))))) (cf (rZ (cX (aa (aA (aa (fC (.str "refused")) (aa (fC (.int 0)) af))) af)) (fC (.int 4))))))))))))))))) [.val (cH ns),.V6,.V6,.V6,.V6,.V6,.V6,.V6,.V6,.V6,.V6,.V6]=_;refine (ak (b8 (call_of ew rfl rfl) (call_of ew rfl rfl) rfl)).trans ?_;refine (ak (b8 (call_of ep rfl rfl) (call_of ep rfl rfl) rfl)).trans ?_;refine (ak (bF fs (gu (n:=2) rfl (by lia)) rfl)).trans ?_;refine (ak (bj (aV (aq (wz (UO G T W P)) (call_of (Ta (N4 h p)) rfl rfl) (call_of (uW h p) rfl rfl))))).trans ?_;refine (ak (gZ (ds:=[]) rfl rfl)).trans ?_;refine (ak (bF fr (Oe (call_of elp rfl rfl)) rfl)).trans ?_;have e6:ba og (aa (ae 6) af) (aK (st (cH ns) G T W P x3 x4 x5 (.own (rws G T W (gp G T W))) x7 x8 x9 .V6 .V6))=some (Bt (fl G T W (Q0 G T W))):=(fJ (d:=.list (rws G T W (gp G T W))) rfl).trans (PY h);refine (ak (bj (aV (aq (wz (Q0 G T W)) (call_of (Tu ef) rfl rfl) (aq (a:=Bt (fl G T W (Q0 G T W))) (b:=.int 2) rfl e6 rfl))))).trans ?_;generalize Slot.own (rws G T W (gp G T W))=x6;obtain⟨ρ',fb,y5,rfl⟩:=l8 (tgt:=gM 5) (gb:=bB) (R:=λ(_:Unit) ρ=>∃y5,ρ=st (cH ns) G T W P x3 x4 y5 x6 x7 x8 x9 .V6 .V6) (λd:D=>d) (λs _=>s)
  (l:=LN P) (s:=()) (ρ:=st (cH ns) G T W P x3 x4 x5 x6 x7 x8 x9 .V6 .V6)
  (λ_ ρ d hd Xz=>by
   obtain⟨x5,rfl⟩:=Xz;have hn:=Uj h (hnp d hd);have c3:=xq (cs:=[1,5]) (fi:=aE (aa (fC (.int 3)) af)) (te:=ai 4 av (aa (ae 0) (aa (ae 1) (aa (ae 2) (aa (fC .none) af))))) (ρ:=aK (st (cH ns) G T W P x3 x4 (.val d) x6 x7 x8 x9 .V6 .V6)) (is:=List.range 3) (j:=1) (gu (n:=3) rfl (by lia)) (by simp) λk hk=>by
    have hk:k < 3:=by simpa using hk
    rcases (by lia:k=0\/k=1\/k=2) with rfl|rfl|rfl
    ·exact call_of (DB false (FD hn) gK) rfl rfl
    ·exact call_of (DB true (FD hn) gK) rfl rfl
    ·exact call_of (Tw (Jx hn) gK) rfl rfl
   rw[zR] at c3;exact⟨_,_,rfl,bj (aV (aq (He 1 3) c3 (DC 1 (n:=3) (by lia) _))),_,rfl⟩) ⟨_,rfl⟩
 rw[List.map_id'] at fb;have e4:aA (aa (fC .none) (aa (f2 Dl.aD (ae 2) (aA (aa (fC (.int 0)) af))) (aa (cf (m6 cg (aa (ae 2) af))) (aa (f2 Dl.cJ (aA (aa (fC (.int 9)) af)) (f2 Dl.aD (ba aZ (aa (ae 2) af)) (fC (.int 2)))) af)))) (bV (st (cH ns) G T W P x3 x4 x5 x6 x7 x8 x9 .V6 .V6))=some (.tuple (LN P)):=by
  refine tup_is (cons_of rfl (cons_of (aq (mM (a:=P) (b:=[0]) (by simp;lia)) rfl (E8 rfl)) (cons_of (gz rfl) (cons_of (aq (R8 (n:=P.length+2) (by lia)) (E8 rfl) (aq (cZ ((P.length:Nat):Int) 2) ((fJ rfl).trans (Bc P)) rfl)) rfl)))) (by simp[LN])
 refine (ak (bF fb (A5 e4) rfl)).trans ?_;refine (ak (b8 (d:=.tuple (QU.map bc)) rfl rfl rfl)).trans ?_;refine (ak (b8 (d:=aH Sn QU TZ) rfl rfl rfl)).trans ?_;refine (ak (bj (aV (aq (Cb 3) (call_of (SI (Oz (OK (Ve (T1 Tj) NB))) VS) rfl rfl) (Tc 3 _))))).trans ?_;have hn:=N3 h;have aak:∀ρ:Dl.Env,ae 1 ρ=some (aH G T W)->sy lQ (ae 1) ud (KJ (fC (.int 2))) ρ=some (.tuple [.tuple (G.map bc),.tuple (T.map bc)]):=λρ h1=>by
  unfold sy;rw[h1];rfl
 have c4:=xq (cs:=[1]) (fi:=aE (aa (fC (.int 4)) af)) (te:=ai 4 av (aa (ae 0) (aa (sy lQ (ae 1) ud (KJ (fC (.int 2)))) (aa (fC .none) (aa (fC .none) af))))) (ρ:=aK (st (cH ns) G T W P x3 x4 y5 x6 x7 x8 x9 (.val (.tuple (QU.map bc))) (.val (aH Sn QU TZ)))) (is:=List.range 4) (j:=0) (gu (n:=4) rfl (by lia)) (by simp) λk hk=>by
  have hk:k < 4:=by simpa using hk
  rcases (by lia:k=0\/k=1\/k=2\/k=3) with rfl|rfl|rfl|rfl
  ·exact call_of (DB false (FD (DQ hn)) Ub) (cons_of rfl (cons_of (aak _ rfl) rfl)) rfl
  ·exact call_of (DB true (FD (DQ hn)) Ub) (cons_of rfl (cons_of (aak _ rfl) rfl)) rfl
  ·exact call_of (Tw (Jx (DQ hn)) Ub) (cons_of rfl (cons_of (aak _ rfl) rfl)) rfl
  ·exact call_of (SI (Oz (OK (Us (Ss hn)))) Ub) (cons_of rfl (cons_of (aak _ rfl) rfl)) rfl
 rw[zR] at c4;exact aL (aq (IT 0 4) c4 (DC 0 (n:=4) (by lia) _))
end
end K34M
end Wm
namespace K34
open PySem L2 Dl PySem.Spec PyProof.Rows Pg Hd PySem.W
def main(ns:List Int)(h:ns.length<=63):ji [.list (ns.map PyData.int)]=some (.bool true):=Wm.K34M.main ns h
def ins(P:Params){h:Heap}{mg:Str->Option Value}(X:(Kf P).In h)(G:h.Ns mainGlobals mg):bh (Kf P) mg:=⟨aM.mg (f3 82 81 lJ) X G,aM.mg (f2 89 88 lJ) X G,aM.mg (f3 96 95 lJ) X G,aM.mg (f2 101 100 lJ) X G,aM.mg (f2 108 107 lJ) X G,aM.mg (f3 115 114 lJ) X G,aM.mg (f3 120 119 lJ) X G,aM.mg (f1 125 124 lJ) X G,aM.mg (f1 130 129 lJ) X G,aM.mg (f4 135 134 lJ) X G,aM.mg (f3 140 139 lJ) X G,aM.mg (f2 145 144 lJ) X G,aM.mg (f1 152 151 lJ) X G,aM.mg (f2 159 158 lJ) X G,aM.mg (f3 166 165 lJ) X G,aM.mg (f2 173 172 lJ) X G,aM.mg (f1 180 179 lJ) X G,aM.mg (f3 187 186 lJ) X G,sd.mg (l3 192 191 Mm) X G,aM.mg (f4 197 196 Mm) X G,aM.mg (f3 204 203 Mm) X G,aM.mg (f2 211 210 Mm) X G,aM.mg (f2 218 217 Mm) X G,aM.mg (f4 223 222 Vp) X G,aM.mg (f1 230 229 OJ) X G,aM.mg (f1 235 234 OJ) X G,aM.mg (f1 240 239 OJ) X G,aM.mg (f1 245 244 OJ) X G,aM.mg (f4 250 249 Jb) X G,aM.mg (f3 255 254 Jb) X G,aM.mg (f4 262 261 Jb) X G,aM.mg (f2 269 268 Jb) X G,aM.mg (f2 276 275 Jb) X G,sd.mg (l1 283 282 Jb) X G,aM.mg (f2 290 289 nj) X G,aM.mg (f3 297 296 nj) X G,aM.mg (f3 304 303 nj) X G,aM.mg (f3 309 308 nj) X G,aM.mg (f4 314 313 nj) X G,aM.mg (f2 321 320 nj) X G,aM.mg (f1 326 325 nj) X G,aM.mg (f3 333 332 nj) X G,aM.mg (f5 340 339 nj) X G,aM.mg (f3 347 346 nj) X G,aM.mg (f2 352 351 nj) X G,aM.mg (f4 359 358 nj) X G,aM.mg (f2 364 363 nj) X G,aM.mg (f1 371 370 nj) X G,aM.mg (f4 378 377 nj) X G,aM.mg (f1 383 382 nj) X G,⟨273,mg_of X G (by kernel_rfl)⟩,⟨275,mg_of X G (by kernel_rfl)⟩,⟨460,mg_of X G (by kernel_rfl)⟩,Ex.N0 X G (by kernel_rfl),λx hx=>mg_none_of X G (Dl.Rk (by kernel_rfl) x hx)⟩
def T4(w:World):oV (Kf w.params) [189,278]=true:=by kernel_rfl
end K34
open PySem PySem.W PyProof.Rows
theorem PySem.Challenge.cw_stillflow_k34_costs_holds : PySem.Challenge.rw_stillflow_k34_costs.Holds := by
 refine holds_law K34.Uo λk1=>?_
 refine holds_open (XP:=XL K34.vw []) (YP:=K34.hk.says) K34.left K34.hk.of K34.hk.keeps (λs e=>xl_of s (Bool.and_eq_true_iff.mp e).1) XL.keeps (by rfl) (by rfl) (by rfl) (λs e=>recFacts_of (Bool.and_eq_true_iff.mp e).2) (by rfl) k1 (by decide +kernel) ⟨rfl,rfl,rfl,rfl,rfl,by decide +kernel⟩ ?hw ?hc
 case hw=>w_witness2
 case hc=>exact K34.walk (l:=PySem.Challenge.rw_stillflow_k34_costs) (K:=K34.Kf) (ts:=[189,278]) rfl rfl rfl (λw h Y=>⟨Y.1,Y.2⟩) K34.T4 (λw=>K34.ins w.params) K34.main
