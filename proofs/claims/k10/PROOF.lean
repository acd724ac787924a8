import PyProof.Rows.All
import Wide.All
import OpenK.AllK
import Wide.FinOn
import PyProof.EqAt
import PyProof.EqKinds
import PyProof.TupleCall
import Lean
import PyProof.Draws
import PyProof.ListRange
import KE.KIsAll
import PySem.Challenge.RW_stillflow_k10_flows
set_option Elab.async false
set_option linter.all false
set_option maxRecDepth 100000
set_option maxHeartbeats 4000000
abbrev _root_.zA:=@Option.bind_some
abbrev _root_.zB:=@Option.map_some
abbrev _root_.zC:=@List.mem_cons_of_mem
abbrev _root_.zD:=@List.length_map
abbrev _root_.zE:=@List.mem_cons_self
abbrev _root_.zF:=@Bool.and_eq_true
abbrev _root_.zG:=@List.getD_eq_getElem?_getD
abbrev _root_.zH:=@List.size_toArray
abbrev _root_.zI:=@List.map_cons
abbrev _root_.zJ:=@decide_eq_true_eq
abbrev _root_.zK:=@List.getElem?_eq_getElem
abbrev _root_.zL:=@List.length_cons
abbrev _root_.zM:=@List.map_map
abbrev _root_.zN:=@List.length_append
abbrev _root_.zO:=@List.getElem?_map
abbrev _root_.zP:=@Nat.lt_of_lt_of_le
abbrev _root_.zQ:=@List.mem_cons
abbrev _root_.zR:=@List.length_range
abbrev _root_.zS:=@List.getElem?_eq_some_iff
abbrev _root_.zT:=@PySem.Heap.get?_push_of_some
abbrev _root_.zU:=@PySem.wpAny_bind
abbrev _root_.zV:=@PySem.wpAny_pure
abbrev _root_.zW:=@PySem.Heap.get?_push_size
abbrev _root_.zX:=@PySem.Heap.lt_size
abbrev _root_.zY:=@decide_eq_false
abbrev _root_.zZ:=@decide_eq_true
abbrev _root_.yA:=@List.lookup_cons
abbrev _root_.yB:=@List.length_set
abbrev _root_.yC:=@Nat.le_trans
abbrev _root_.yD:=@List.mem_append_right
abbrev _root_.yE:=@List.not_mem_nil
abbrev _root_.yF:=@Int.toNat_natCast
abbrev _root_.yG:=@List.range_eq_range'
abbrev _root_.yH:=@List.map_congr_left
abbrev _root_.yI:=@List.foldl_cons
abbrev _root_.yJ:=@List.mem_singleton
abbrev _root_.yK:=@Option.some.injEq
abbrev _root_.yL:=@if_pos
abbrev _root_.yM:=@Nat.le_refl
abbrev _root_.yN:=@if_neg
abbrev _root_.yO:=@Bool.false_eq_true
abbrev _root_.yP:=@Bool.not_eq_true'
abbrev _root_.yQ:=@of_decide_eq_true
abbrev _root_.yR:=@Nat.ne_of_lt
abbrev _root_.yS:=@List.getElem?_append_left
abbrev _root_.yT:=@List.getElem?_append_right
abbrev _root_.yU:=@List.map_nil
abbrev _root_.yV:=@List.set_cons_zero
abbrev _root_.yW:=@List.set_cons_succ
abbrev _root_.yX:=@List.getElem?_replicate
abbrev _root_.yY:=@List.getElem?_cons_succ
abbrev _root_.yZ:=@Bool.false_ne_true
abbrev _root_.xA:=@PySem.wpAny_mono
abbrev _root_.xB:=@decide_eq_false_iff_not
abbrev _root_.xC:=@List.length_singleton
abbrev _root_.xD:=@Option.some.inj
abbrev _root_.xE:=@List.replicate_succ
abbrev _root_.xF:=@List.cons_append
abbrev _root_.xG:=@List.all_eq_true
abbrev _root_.xH:=@if_true
abbrev _root_.xI:=@List.getElem?_set
abbrev _root_.xJ:=@PySem.Heap.size_push
abbrev _root_.xK:=@List.length_nil
abbrev _root_.xM:=@List.length_replicate
abbrev _root_.xN:=@PySem.Heap.get?_update_other
abbrev _root_.xO:=@List.nil_append
abbrev _root_.xP:=@List.length_filter_le
abbrev _root_.xQ:=@List.getElem?_cons_zero
abbrev _root_.xR:=@PySem.wpAny_pyIter_tuple
abbrev _root_.xS:=@List.all_cons
abbrev _root_.xU:=@or_false
abbrev _root_.xV:=@Nat.zero_le
abbrev _root_.xW:=@PySem.wpAny_truthy_bool
abbrev _root_.xX:=@PySem.wpAny_holding
abbrev _root_.xY:=@Bool.not_true
abbrev _root_.xZ:=@Int.le_refl
abbrev _root_.qA:=@List.getElem_mem
abbrev _root_.qB:=@List.mem_of_getElem?
abbrev _root_.qC:=@PySem.wpAny_callSpecial?_slot
abbrev _root_.qD:=@Array.getD_eq_getD_getElem?
abbrev _root_.qE:=@Nat.lt_irrefl
abbrev _root_.qF:=@List.append_nil
abbrev _root_.qG:=@Option.getD_some
abbrev _root_.qH:=@List.length_drop
abbrev _root_.qJ:=@List.mem_append_left
abbrev _root_.qK:=@PySem.wpAny_pyIter_list
abbrev _root_.qL:=@PySem.wpAny_newObj_type
abbrev _root_.qM:=@List.flatten_cons
abbrev _root_.qN:=@PySem.F.plainAttrs_list
abbrev _root_.qP:=@if_false
abbrev _root_.qQ:=@List.getElem_of_mem
abbrev _root_.qS:=@PyProof.Rows.callWith_type1
abbrev _root_.qT:=@PySem.wpAny_field
abbrev _root_.qU:=@PySem.sizeLine_eq
abbrev _root_.qV:=@PySem.wpAny_call_entry
abbrev _root_.qX:=@PySem.call_meets
abbrev _root_.qY:=@PySem.wpAny_Call_Name_kw
abbrev _root_.qZ:=@Nat.lt_of_le_of_lt
abbrev _root_.jA:=@List.map_append
abbrev _root_.jB:=@Bool.or_eq_true
abbrev _root_.jC:=@congrArg
abbrev _root_.jD:=@Nat.zero_add
abbrev _root_.jE:=@List.pairwise_map
abbrev _root_.jF:=@PyProof.Rows.slot_tuple_getitem
abbrev _root_.jG:=@List.filterMap_cons
abbrev _root_.jH:=@List.ext_getElem
abbrev _root_.jI:=@Nat.ne_of_gt
abbrev _root_.jJ:=@PySem.Calls.spliced_cons
abbrev _root_.jK:=@PySem.wpAny_passesOwn
abbrev _root_.jL:=@Bool.true_and
abbrev _root_.jM:=@List.getElem?_eq_none
abbrev _root_.jN:=@Ne.symm
abbrev _root_.jO:=@Nat.lt_succ_of_lt
abbrev _root_.jP:=@and_self
abbrev _root_.jQ:=@decide_true
abbrev _root_.jR:=@PySem.F.slot_tuple_iterator_next
abbrev _root_.jS:=@PySem.codeAny_mono
abbrev _root_.jT:=@Nat.le_of_lt
abbrev _root_.jU:=@Int.le_trans
abbrev _root_.jV:=@Nat.le_add_right
abbrev _root_.jW:=@List.length_take
abbrev _root_.jX:=@List.filter_cons
abbrev _root_.jY:=@List.mem_of_find?_eq_some
abbrev _root_.jZ:=@Array.getElem?_eq_getElem
abbrev _root_.kA:=@PySem.mem_of_lookup
abbrev _root_.kC:=@PyProof.Rows.listUpdate_at
abbrev _root_.kE:=@PyProof.Rows.get?_update_seq
abbrev _root_.kF:=@PySem.codeAny_builtin
abbrev _root_.kG:=@List.filter_map
abbrev _root_.kH:=@PySem.wpAny_seqItems
abbrev _root_.kJ:=@PySem.Calls.spliced_nil
abbrev _root_.kK:=@PySem.SeqAt.canLay_of_shaped
abbrev _root_.kL:=@List.take_of_length_le
abbrev _root_.kM:=@List.find?_cons_of_neg
abbrev _root_.kN:=@List.findIdx_lt_length_of_exists
abbrev _root_.kO:=@Option.getD_none
abbrev _root_.kP:=@Nat.lt_succ_self
abbrev _root_.kR:=@PySem.wpAny_newList
abbrev _root_.kU:=@PySem.wpAny_attempt
abbrev _root_.kW:=@List.getElem?_set_ne
abbrev _root_.kX:=@List.cons.injEq
abbrev _root_.kY:=@Bool.eq_iff_iff
abbrev _root_.kZ:=@Bool.and_false
abbrev _root_.vA:=@PySem.wpAny_setField_rec
abbrev _root_.vB:=@Int.emod_lt_of_pos
abbrev _root_.vC:=@List.drop_eq_getElem_cons
abbrev _root_.vD:=@List.findIdx_cons
abbrev _root_.vE:=@PySem.wpAny_standAt
abbrev _root_.vF:=@PySem.F.args_tuple_add_2
abbrev _root_.vG:=@PySem.wpAny_execs_cons
abbrev _root_.vH:=@List.range'_succ
abbrev _root_.vI:=@PySem.F.entry_tuple_add
abbrev _root_.vJ:=@List.pairwise_singleton
abbrev _root_.vK:=@Int.eq_ofNat_of_zero_le
abbrev _root_.vL:=@PySem.wpAny_call
abbrev _root_.vM:=@beq_iff_eq
abbrev _root_.vN:=@PyProof.Rows.listItems_at
abbrev _root_.vO:=@PySem.F.slot_tuple_add
abbrev _root_.vP:=@List.range_succ_eq_map
abbrev _root_.vQ:=@List.getElem?_set_self
abbrev _root_.vR:=@List.find?_cons_of_pos
abbrev _root_.vS:=@PySem.wpAny_execs_nil
abbrev _root_.vT:=@Nat.not_lt_zero
abbrev _root_.vU:=@List.of_mem_zip
abbrev _root_.vV:=@Int.emod_nonneg
abbrev _root_.vW:=@PySem.F.slot_zip_next
abbrev _root_.vX:=@PySem.F.slot_int_rmul
abbrev _root_.vY:=@List.getElem?_toArray
abbrev _root_.vZ:=@Nat.mul_le_mul
abbrev _root_.wA:=@PyProof.Rows.IntsAre.length
abbrev _root_.wC:=@Bool.false_and
abbrev _root_.wD:=@PySem.wpAny_loadName_local
abbrev _root_.wF:=@PySem.codeAny_call_builtin
abbrev _root_.wG:=@List.getD_cons_zero
abbrev _root_.wH:=@List.getD_cons_succ
abbrev _root_.wI:=@Array.length_toList
abbrev _root_.wJ:=@PySem.wpAny_rule
abbrev _root_.wK:=@PySem.wpAny_Name
abbrev _root_.wL:=@PySem.typeIs_int
abbrev _root_.wM:=@List.find?_eq_none
abbrev _root_.wN:=@PySem.F.args_tuple_mul_2
abbrev _root_.wQ:=@PySem.Code.quiet_builtin
abbrev _root_.wR:=@PySem.Calls.Constant_str
abbrev _root_.wU:=@PySem.wpAny_typeOf
abbrev _root_.wV:=@decide_false
abbrev _root_.wW:=@PySem.concat_meets
abbrev _root_.wX:=@Nat.lt_trans
abbrev _root_.wY:=@PySem.wpAny_pyIter_enum
abbrev _root_.wZ:=@List.take_add_one
abbrev _root_.Za:=@Function.comp_def
abbrev _root_.Zb:=@PySem.F.entry_tuple_mul
local macro_rules|`(def $i:declId $s:optDeclSig $v:declVal)=>`(noncomputable def $i:declId $s:optDeclSig $v:declVal)
local macro_rules|`(abbrev $i:declId $s:optDeclSig $v:declVal)=>`(noncomputable abbrev $i:declId $s:optDeclSig $v:declVal)
namespace L2
open PySem
def gY(s:Stmt):Arguments:=match s with
 | .FunctionDef _ a _ _ _ _ _ _ _ _=>a
 | _=>{ posonlyargs:=[],args:=[],vararg:=none,kwonlyargs:=[],kw_defaults:=[],kwarg:=none,defaults:=[] }
def bC(s:Stmt):List Stmt:=match s with
 | .FunctionDef _ _ b _ _ _ _ _ _ _=>b
 | _=>[]
def aj(s:Stmt):Scope:=match s with
 | .FunctionDef _ _ _ _ _ _ sc _ _ _=>sc
 | _=>{ kind:=.function,names:=[],isGenerator:=false,isCoroutine:=false }
end L2
namespace Hd
open PySem L2 PySem.Spec PyProof.Rows
def en(P:Params)(x:String)(t:Nat)(v:Value):DictEntry:=⟨PyData.keyHash P (Str.ofString x),.str (Str.ofString x) t,v⟩
def fo(x:Str)(st:Stmt)(pm:Value)(c:Addr):Obj:=⟨.type "function",none,.func (W.fnOf x x (gY st) (bC st) (aj st) .none .none .none pm none (.ref c) .none),#[]⟩
def co(vs:List Value):Obj:=⟨.type "code",none,.fields vs.toArray,#[]⟩
def O7(n:Nat):Value:=if n=0 then .none else .ref n
def gH(x:Str)(t l n a b c d e f u:Nat):Obj:=co [.str x t,.str x (t+1),.str "/claim/cut.py" (t+2),.int l 0,.int n 0,.int 0 0,.int 0 0,.int 3 0,O7 a,.bool true,.int 181 0,O7 b,O7 c,O7 d,O7 e,O7 f,.int u 0,.int l 0,.str "/claim/cut.py" (u+1)]
theorem NJ{S A B C D E F J O:Type}{x:Option S}{f:S->A×B×C×D×E×F×J}{o:S->O}{g:A×B×C×D×E×F×J}{v:O}(h0:x.map (fun s=>(f s).1)=some g.1)(h1:x.map (fun s=>(f s).2.1)=some g.2.1)(h2:x.map (fun s=>(f s).2.2.1)=some g.2.2.1)(h3:x.map (fun s=>((f s).2.2.2.1,(f s).2.2.2.2.1))=some (g.2.2.2.1,g.2.2.2.2.1))(h4:x.map (fun s=>(f s).2.2.2.2.2.1)=some g.2.2.2.2.2.1)(h5:x.map (fun s=>(f s).2.2.2.2.2.2)=some g.2.2.2.2.2.2)(h6:x.map o=some v):x.map (fun s=>(f s,o s))=some (g,v):=by
 obtain⟨a,b,c,d,e,i,j⟩:=g
 cases x with
 | none=>cases h0
 | some s =>
  simp only[zB,yK,Prod.mk.injEq] at h0 h1 h2 h3 h4 h5 h6 ⊢
  refine⟨?_,h6⟩
  generalize f s=t at *
  obtain⟨a',b',c',d',e',i',j'⟩:=t
  dsimp only at *
  obtain⟨h3,h3'⟩:=h3
  subst h0 h1 h2 h3 h3' h4 h5
  rfl
end Hd
namespace K10
open PySem L2 PySem.Spec PyProof.Rows Hd PySem.W
abbrev top(i:Nat):Stmt:=PySem.Challenge.pw_stillflow_k10_flows.main.body.getD i (.Pass ⟨0,0,0,0⟩)
def vw:Program:=W.view PySem.Challenge.pw_stillflow_k10_flows [1,2,3,4,5,6,8,9,10,11,12,13,14,15,16,17,18,19,20,21,22,23,24,25,26,27,29,30,31,32,33,34,35,36,37,38,39,40,42,43,44,45,46,47,48,49,50,51,52,53,54,55,56,57]
abbrev Sa:Addr:=24
abbrev R1:List (Str×Addr):=[("NoWorld",37),("NoPlan",49),("NoPlace",61),("TooMany",73),("Nothing",85)]
def ka:Value:=(.str "stillflow.worlds" 287)
def qq:Value:=(.str "stillflow.flows" 426)
def mH:Value:=(.str "law_stillflow_k10_flows" 523)
def Kf(P:Params):W.Frag:=[(3,⟨.type "dict",none,.dict #[en P "__name__" 165 (.str "law_stillflow_k10_flows" 523),en P "__doc__" 166 .none,en P "__package__" 167 .none,en P "__loader__" 168 (.builtin "__main__.__loader__#opaque"),en P "__spec__" 169 .none,en P "__annotations__" 170 (.ref 6),en P "__builtins__" 171 (.ref 4),en P "__file__" 173 (.str "/claim/cut.py" 172),en P "__cached__" 174 .none,en P "FlowError" 206 (.ref 24),en P "NoWorld" 222 (.ref 37),en P "NoPlan" 238 (.ref 49),en P "NoPlace" 254 (.ref 61),en P "TooMany" 270 (.ref 73),en P "Nothing" 286 (.ref 85),en P "MOST_PLACES" 290 (.int 4 289),en P "MOST" 292 (.int 9 291),en P "is_whole" 301 (.ref 94),en P "is_number" 309 (.ref 101),en P "is_long" 318 (.ref 108),en P "are_likes" 324 (.ref 113),en P "is_end" 332 (.ref 120),en P "is_way" 341 (.ref 127),en P "are_parts" 347 (.ref 132),en P "liked_pairs" 353 (.ref 137),en P "is_world" 359 (.ref 142),en P "through" 365 (.ref 147),en P "keeps_amounts" 371 (.ref 152),en P "is_plan" 377 (.ref 157),en P "check_world" 384 (.ref 164),en P "check_plan" 392 (.ref 171),en P "check_whole" 401 (.ref 178),en P "check_number" 409 (.ref 185),en P "check_side" 416 (.ref 192),en P "check_place" 425 (.ref 199),en P "sent" 436 (.ref 206),en P "taken" 445 (.ref 213),en P "ways_of" 451 (.ref 218),en P "chosen_by" 457 (.ref 223),en P "choice" 467 (.ref 230),en P "wants_more" 473 (.ref 235),en P "why_kept" 482 (.ref 242),en P "first_leaving" 491 (.ref 249),en P "is_still" 499 (.ref 256),en P "leaving" 505 (.ref 261),en P "rests" 513 (.ref 268),en P "reason" 522 (.ref 275),en P "_law_cell" 532 (.ref 282),en P "_law_drawn" 542 (.ref 289),en P "_law_orders" 557 (.ref 296),en P "_law_world" 563 (.ref 301),en P "_law_used" 569 (.ref 306),en P "_law_fits" 580 (.ref 313),en P "_law_plans" 586 (.ref 318),en P "_law_plan" 600 (.ref 325),en P "_law_wants" 614 (.ref 332),en P "_law_why" 626 (.ref 339),en P "_law_rests" 632 (.ref 344),en P "_law_choice" 646 (.ref 351),en P "_law_ends" 652 (.ref 356),en P "_law_refused" 660 (.ref 363),en P "_law_told" 671 (.ref 370),en P "law" 677 (.ref 375)] 63,#[]⟩),
 (23,⟨.type "dict",none,.dict #[en P "__module__" 196 (.str "stillflow.errors" 187),en P "__firstlineno__" 200 (.int 2 199),en P "__static_attributes__" 201 (.ref 22),en P "__weakref__" 203 (.ref 25),en P "__doc__" 204 .none] 3,#[]⟩),
 (24,⟨.type "type",none,.cls { name:="FlowError",bases:=[(.type "ValueError")],mro:=[(.ref 24),(.type "ValueError"),(.type "Exception"),(.type "BaseException"),(.type "object")],ns:=23,qualname:="FlowError",subclasses:=[(.ref 37),(.ref 49),(.ref 61),(.ref 73),(.ref 85)] },#[some (.ref 15),none,some (.str "FlowError" 189),some (.str "FlowError" 197),some (.builtin "ValueError.__new__"),some (.bool true)]⟩),
 (36,⟨.type "dict",none,.dict #[en P "__module__" 214 (.str "stillflow.errors" 187),en P "__firstlineno__" 218 (.int 4 217),en P "__static_attributes__" 219 (.ref 35),en P "__doc__" 220 .none] 2,#[]⟩),
 (37,⟨.type "type",none,.cls { name:="NoWorld",bases:=[(.ref 24)],mro:=[(.ref 37),(.ref 24),(.type "ValueError"),(.type "Exception"),(.type "BaseException"),(.type "object")],ns:=36,qualname:="NoWorld",subclasses:=[] },#[some (.ref 28),none,some (.str "NoWorld" 207),some (.str "NoWorld" 215),some (.builtin "ValueError.__new__"),some (.bool true)]⟩),
 (48,⟨.type "dict",none,.dict #[en P "__module__" 230 (.str "stillflow.errors" 187),en P "__firstlineno__" 234 (.int 6 233),en P "__static_attributes__" 235 (.ref 47),en P "__doc__" 236 .none] 2,#[]⟩),
 (49,⟨.type "type",none,.cls { name:="NoPlan",bases:=[(.ref 24)],mro:=[(.ref 49),(.ref 24),(.type "ValueError"),(.type "Exception"),(.type "BaseException"),(.type "object")],ns:=48,qualname:="NoPlan",subclasses:=[] },#[some (.ref 40),none,some (.str "NoPlan" 223),some (.str "NoPlan" 231),some (.builtin "ValueError.__new__"),some (.bool true)]⟩),
 (60,⟨.type "dict",none,.dict #[en P "__module__" 246 (.str "stillflow.errors" 187),en P "__firstlineno__" 250 (.int 8 249),en P "__static_attributes__" 251 (.ref 59),en P "__doc__" 252 .none] 2,#[]⟩),
 (61,⟨.type "type",none,.cls { name:="NoPlace",bases:=[(.ref 24)],mro:=[(.ref 61),(.ref 24),(.type "ValueError"),(.type "Exception"),(.type "BaseException"),(.type "object")],ns:=60,qualname:="NoPlace",subclasses:=[] },#[some (.ref 52),none,some (.str "NoPlace" 239),some (.str "NoPlace" 247),some (.builtin "ValueError.__new__"),some (.bool true)]⟩),
 (72,⟨.type "dict",none,.dict #[en P "__module__" 262 (.str "stillflow.errors" 187),en P "__firstlineno__" 266 (.int 10 265),en P "__static_attributes__" 267 (.ref 71),en P "__doc__" 268 .none] 2,#[]⟩),
 (73,⟨.type "type",none,.cls { name:="TooMany",bases:=[(.ref 24)],mro:=[(.ref 73),(.ref 24),(.type "ValueError"),(.type "Exception"),(.type "BaseException"),(.type "object")],ns:=72,qualname:="TooMany",subclasses:=[] },#[some (.ref 64),none,some (.str "TooMany" 255),some (.str "TooMany" 263),some (.builtin "ValueError.__new__"),some (.bool true)]⟩),
 (84,⟨.type "dict",none,.dict #[en P "__module__" 278 (.str "stillflow.errors" 187),en P "__firstlineno__" 282 (.int 12 281),en P "__static_attributes__" 283 (.ref 83),en P "__doc__" 284 .none] 2,#[]⟩),
 (85,⟨.type "type",none,.cls { name:="Nothing",bases:=[(.ref 24)],mro:=[(.ref 85),(.ref 24),(.type "ValueError"),(.type "Exception"),(.type "BaseException"),(.type "object")],ns:=84,qualname:="Nothing",subclasses:=[] },#[some (.ref 76),none,some (.str "Nothing" 271),some (.str "Nothing" 279),some (.builtin "ValueError.__new__"),some (.bool true)]⟩),
 (93,gH "is_whole" 293 17 3 88 89 0 90 91 92 299),
 (94,fo "is_whole" (top 10) ka 93),
 (100,gH "is_number" 302 21 2 95 96 0 97 98 99 307),
 (101,fo "is_number" (top 11) ka 100),
 (107,gH "is_long" 310 23 3 102 103 0 104 105 106 316),
 (108,fo "is_long" (top 12) ka 107),
 (112,gH "are_likes" 319 25 2 109 110 0 0 0 111 322),
 (113,fo "are_likes" (top 13) ka 112),
 (119,gH "is_end" 325 31 2 114 115 0 116 117 118 330),
 (120,fo "is_end" (top 14) ka 119),
 (126,gH "is_way" 333 33 3 121 122 0 123 124 125 339),
 (127,fo "is_way" (top 15) ka 126),
 (131,gH "are_parts" 342 37 3 128 129 0 0 0 130 345),
 (132,fo "are_parts" (top 16) ka 131),
 (136,gH "liked_pairs" 348 45 1 133 134 0 0 0 135 351),
 (137,fo "liked_pairs" (top 17) ka 136),
 (141,gH "is_world" 354 50 1 138 139 0 0 0 140 357),
 (142,fo "is_world" (top 18) ka 141),
 (146,gH "through" 360 57 4 143 144 0 0 0 145 363),
 (147,fo "through" (top 19) ka 146),
 (151,gH "keeps_amounts" 366 59 3 148 149 0 0 0 150 369),
 (152,fo "keeps_amounts" (top 20) ka 151),
 (156,gH "is_plan" 372 61 2 153 154 0 0 0 155 375),
 (157,fo "is_plan" (top 21) ka 156),
 (163,gH "check_world" 378 68 1 158 159 0 160 161 162 382),
 (164,fo "check_world" (top 22) ka 163),
 (170,gH "check_plan" 385 71 2 165 166 0 167 168 169 390),
 (171,fo "check_plan" (top 23) ka 170),
 (177,gH "check_whole" 393 75 3 172 173 0 174 175 176 399),
 (178,fo "check_whole" (top 24) ka 177),
 (184,gH "check_number" 402 78 2 179 180 0 181 182 183 407),
 (185,fo "check_number" (top 25) ka 184),
 (191,gH "check_side" 410 80 1 186 187 0 188 189 190 414),
 (192,fo "check_side" (top 26) ka 191),
 (198,gH "check_place" 417 82 3 193 194 0 195 196 197 423),
 (199,fo "check_place" (top 27) ka 198),
 (205,gH "sent" 428 86 3 200 201 0 202 203 204 434),
 (206,fo "sent" (top 29) qq 205),
 (212,gH "taken" 437 90 3 207 208 0 209 210 211 443),
 (213,fo "taken" (top 30) qq 212),
 (217,gH "ways_of" 446 94 3 214 215 0 0 0 216 449),
 (218,fo "ways_of" (top 31) qq 217),
 (222,gH "chosen_by" 452 99 4 219 220 0 0 0 221 455),
 (223,fo "chosen_by" (top 32) qq 222),
 (229,gH "choice" 458 106 4 224 225 0 226 227 228 465),
 (230,fo "choice" (top 33) qq 229),
 (234,gH "wants_more" 468 110 4 231 232 0 0 0 233 471),
 (235,fo "wants_more" (top 34) qq 234),
 (241,gH "why_kept" 474 117 3 236 237 0 238 239 240 480),
 (242,fo "why_kept" (top 35) qq 241),
 (248,gH "first_leaving" 483 125 2 243 244 0 245 246 247 489),
 (249,fo "first_leaving" (top 36) qq 248),
 (255,gH "is_still" 492 130 2 250 251 0 252 253 254 497),
 (256,fo "is_still" (top 37) qq 255),
 (260,gH "leaving" 500 132 2 257 258 0 0 0 259 503),
 (261,fo "leaving" (top 38) qq 260),
 (267,gH "rests" 506 135 2 262 263 0 264 265 266 511),
 (268,fo "rests" (top 39) qq 267),
 (274,gH "reason" 514 138 3 269 270 0 271 272 273 520),
 (275,fo "reason" (top 40) qq 274),
 (281,gH "_law_cell" 525 143 2 276 277 0 278 279 280 530),
 (282,fo "_law_cell" (top 42) mH 281),
 (288,gH "_law_drawn" 533 147 3 283 284 0 285 286 287 540),
 (289,fo "_law_drawn" (top 43) mH 288),
 (295,gH "_law_orders" 543 151 3 290 291 0 292 293 294 555),
 (296,fo "_law_orders" (top 44) mH 295),
 (300,gH "_law_world" 558 159 3 297 298 0 0 0 299 561),
 (301,fo "_law_world" (top 45) mH 300),
 (305,gH "_law_used" 564 175 4 302 303 0 0 0 304 567),
 (306,fo "_law_used" (top 46) mH 305),
 (312,gH "_law_fits" 570 177 2 307 308 0 309 310 311 578),
 (313,fo "_law_fits" (top 47) mH 312),
 (317,gH "_law_plans" 581 183 1 314 315 0 0 0 316 584),
 (318,fo "_law_plans" (top 48) mH 317),
 (324,gH "_law_plan" 587 191 3 319 320 0 321 322 323 598),
 (325,fo "_law_plan" (top 49) mH 324),
 (331,gH "_law_wants" 601 198 5 326 327 0 328 329 330 612),
 (332,fo "_law_wants" (top 50) mH 331),
 (338,gH "_law_why" 615 206 3 333 334 0 335 336 337 624),
 (339,fo "_law_why" (top 51) mH 338),
 (343,gH "_law_rests" 627 213 2 340 341 0 0 0 342 630),
 (344,fo "_law_rests" (top 52) mH 343),
 (350,gH "_law_choice" 633 215 4 345 346 0 347 348 349 644),
 (351,fo "_law_choice" (top 53) mH 350),
 (355,gH "_law_ends" 647 224 3 352 353 0 0 0 354 650),
 (356,fo "_law_ends" (top 54) mH 355),
 (362,gH "_law_refused" 653 229 1 357 358 0 359 360 361 658),
 (363,fo "_law_refused" (top 55) mH 362),
 (369,gH "_law_told" 661 235 4 364 365 0 366 367 368 669),
 (370,fo "_law_told" (top 56) mH 369),
 (374,gH "law" 672 246 1 371 372 0 0 0 373 675),
 (375,fo "law" (top 57) mH 374)]
def hk:W.Hook:=W.kmHook Kf [3,23,24,36,37,48,49,60,61,72,73,84,85,93,94,100,101,107,108,112,113,119,120,126,127,131,132,136,137,141,142,146,147,151,152,156,157,163,164,170,171,177,178,184,185,191,192,198,199,205,206,212,213,217,218,222,223,229,230,234,235,241,242,248,249,255,256,260,261,267,268,274,275,281,282,288,289,295,296,300,301,305,306,312,313,317,318,324,325,331,332,338,339,343,344,350,351,355,356,362,363,369,370,374,375] (fun _=>rfl) [215]
abbrev rn(w:World):=openEnds treeTable PySem.Challenge.pw_stillflow_k10_flows w 6000
abbrev sn(s:Shared):=openSeen vw [] (importedModules PySem.Challenge.pw_stillflow_k10_flows.main.body) (fun s=>xlAt vw [] s&&recOk [] s) true s
abbrev gd:=openGood vw []
theorem So(w:World):(rn w).map (fun s=>(sn s).1)=some (gd.1):=by kernel_rfl
theorem SL(w:World):(rn w).map (fun s=>(sn s).2.1)=some (gd.2.1):=by kernel_rfl
theorem SR(w:World):(rn w).map (fun s=>(sn s).2.2.1)=some (gd.2.2.1):=by kernel_rfl
theorem Sv(w:World):(rn w).map (fun s=>((sn s).2.2.2.1,(sn s).2.2.2.2.1))=some ((gd.2.2.2.1,gd.2.2.2.2.1)):=by kernel_rfl
theorem SU(w:World):(rn w).map (fun s=>(sn s).2.2.2.2.2.1)=some (gd.2.2.2.2.2.1):=by kernel_rfl
theorem SH(w:World):(rn w).map (fun s=>(sn s).2.2.2.2.2.2)=some (gd.2.2.2.2.2.2):=by kernel_rfl
theorem SN(w:World):(rn w).map (fun s=>hk.obs s)=some (hk.val w):=by kernel_rfl
theorem left:LeftO PySem.Challenge.pw_stillflow_k10_flows vw [] (fun s=>xlAt vw [] s&&recOk [] s) hk.obs hk.val 6000:=fun w=>NJ (So w) (SL w) (SR w) (Sv w) (SU w) (SH w) (SN w)
theorem RT:PySem.Challenge.rw_stillflow_k10_flows.wellSaid=true:=by kernel_rfl
end K10
namespace L2
open PySem PySem.Spec PyProof.Rows
abbrev BB:=Sum Int Str
def LV:BB->Value->Bool
 | .inl k,v=>Value.isInt k v
 | .inr x,v=>Value.isStrOf x v
def RL(w:World):BB->Int
 | .inl k=>hashInt k
 | .inr x=>hashStr w x
theorem b9:∀ {k:BB}{v:Value},LV k v=true->(∃i t,k=Sum.inl i/\v=Value.int i t)\/(∃x t,k=Sum.inr x/\v=Value.str x t)
 | .inl i,v,h=>by
  obtain⟨t,e⟩:=Value.isInt_shape (k:=i) (v:=v) h
  exact .inl ⟨i,t,rfl,e⟩
 | .inr x,v,h=>by
  obtain⟨t,e⟩:=Value.isStrOf_shape (x:=x) (v:=v) h
  exact .inr ⟨x,t,rfl,e⟩
theorem MZ(a b:Int):decide ((Sum.inl a:BB)=Sum.inl b)=(a == b):=by
 by_cases e:a=b
 ·subst e;simp
 ·have h:¬ (Sum.inl a:BB)=Sum.inl b:=fun q=>e (Sum.inl.inj q)
  rw[zY h]
  exact (beq_eq_false_iff_ne.mpr e).symm
theorem Oh(a b:Str):decide ((Sum.inr a:BB)=Sum.inr b)=decide (a=b):=by
 by_cases e:a=b
 ·subst e;simp
 ·have h:¬ (Sum.inr a:BB)=Sum.inr b:=fun q=>e (Sum.inr.inj q)
  rw[zY h,zY e]
theorem OG(a:Int)(b:Str):decide ((Sum.inl a:BB)=Sum.inr b)=false:=zY (fun q=>nomatch q)
theorem OC(a:Str)(b:Int):decide ((Sum.inr a:BB)=Sum.inl b)=false:=zY (fun q=>nomatch q)
def DC(prog:Program)(w:World):PySem.KeyKind prog w BB where
 is:=LV
 hash:=RL w
 inj:=fun v a b ha hb=>by
  rcases b9 ha with ⟨i,t,rfl,rfl⟩|⟨x,t,rfl,rfl⟩
  ·rcases b9 hb with ⟨j,u,rfl,e⟩|⟨y,u,rfl,e⟩
   ·injection e with e1 _;rw[e1]
   ·exact nomatch e
  ·rcases b9 hb with ⟨j,u,rfl,e⟩|⟨y,u,rfl,e⟩
   ·exact nomatch e
   ·injection e with e1 _;rw[e1]
 byValue:=fun k v h=>by
  rcases b9 h with ⟨i,t,rfl,rfl⟩|⟨x,t,rfl,rfl⟩<;>rfl
 pyHash:=fun hv h=>by
  rcases b9 hv with ⟨i,t,rfl,rfl⟩|⟨x,t,rfl,rfl⟩
  ·exact wpAny_pyHash_int h
  ·exact wpAny_pyHash_str h
 eqBool:=fun hu hv h=>by
  rcases b9 hu with ⟨i,t,rfl,rfl⟩|⟨x,t,rfl,rfl⟩
  ·rcases b9 hv with ⟨j,u,rfl,rfl⟩|⟨y,u,rfl,rfl⟩
   ·rw[MZ] at h;exact wpAny_eqBool_int h
   ·rw[OG] at h;exact SeqAt.EqAt.int_str i t y u _ _ _ _ h
  ·rcases b9 hv with ⟨j,u,rfl,rfl⟩|⟨y,u,rfl,rfl⟩
   ·rw[OC] at h;exact SeqAt.EqAt.str_int x t j u _ _ _ _ h
   ·rw[Oh] at h;exact wpAny_eqBool_str h
 «strs»:=fun k x t v h=>by
  rcases b9 h with ⟨i,u,rfl,e⟩|⟨y,u,rfl,e⟩
  ·exact nomatch e
  ·injection e with e1 _
   subst e1
   cases v<;>rfl
inductive V where
 | non|bl (b:Bool)|int (i:Int)|str (x:Str)|byt (b:Array UInt8)|flt (b:UInt64)|ref (a:Addr)|ty (n:String)
 deriving DecidableEq
def RelV:V->Value->Prop
 | .non,u=>u=Value.none
 | .bl b,u=>u=Value.bool b
 | .int i,u=>∃t,u=Value.int i t
 | .str x,u=>∃t,u=Value.str x t
 | .byt b,u=>∃t,u=Value.bytes b t
 | .flt b,u=>∃t,u=Value.float b t
 | .ref a,u=>u=Value.ref a
 | .ty n,u=>u=Value.type n
abbrev aQ:List V->List Value->Prop:=Paired RelV
theorem aQ.length{xs:List V}{us:List Value}(r:aQ xs us):xs.length=us.length:=Paired.length r
theorem aQ.get:∀ {xs:List V}{us:List Value}{i:Nat}{x:V},aQ xs us->xs[i]?=some x->∃u,us[i]?=some u/\RelV x u
 | _,_,_,_,.nil,e=>by simp at e
 | _,_,0,_,.cons r _,e=>by simp at e;subst e;exact⟨_,rfl,r⟩
 | _,_,i+1,x,.cons _ t,e=>by
  obtain⟨u,h1,h2⟩:=aQ.get (i:=i) (x:=x) t (by simpa using e)
  exact⟨u,by simpa using h1,h2⟩
theorem aQ.set{x:V}{u:Value}(r:RelV x u):∀ {xs:List V}{us:List Value}(i:Nat),aQ xs us->aQ (xs.set i x) (us.set i u)
 | _,_,_,.nil=>.nil
 | _,_,0,.cons _ t=>.cons r t
 | _,_,i+1,.cons q t=>.cons q (aQ.set r i t)
theorem aQ.append:∀ {xs ys:List V}{us ws:List Value},aQ xs us->aQ ys ws->aQ (xs++ys) (us++ws)
 | _,_,_,_,.nil,s=>s
 | _,_,_,_,.cons r t,s=>.cons r (aQ.append t s)
theorem aQ.take:∀ {xs:List V}{us:List Value}(n:Nat),aQ xs us->aQ (xs.take n) (us.take n)
 | _,_,0,_=>.nil
 | _,_,_+1,.nil=>.nil
 | _,_,n+1,.cons r t=>.cons r (aQ.take n t)
theorem aQ.drop:∀ {xs:List V}{us:List Value}(n:Nat),aQ xs us->aQ (xs.drop n) (us.drop n)
 | _,_,0,r=>r
 | _,_,_+1,.nil=>.nil
 | _,_,n+1,.cons _ t=>aQ.drop n t
def QA:Option V->Option Value->Prop
 | some v,some u=>RelV v u
 | none,none=>True
 | _,_=>False
def KV{κ:Type}:List (κ×V)->List (κ×Value)->Prop:=Paired fun (p:κ×V) (q:κ×Value)=>p.1=q.1/\RelV p.2 q.2
def kV:BB->V
 | .inl i=>.int i
 | .inr x=>.str x
inductive HO where
  | lst (xs:List V)
  | tup (xs:List V)
  | dK (kvs:List (BB×V))|dT (kvs:List (List BB×V))
  | set (S:Int->Bool) (n:Nat)
  | ins (C dx:Addr) (fs:List (Str×V))
  | own (x:Addr)
  | xd (fs:List (Str×V))
  | met (f x:Addr)
  | rng (lo hi:Int)
  | frz (o:Obj) (u:HO)
  | tab (q:Str)
 | cod (q:Str)
  | ext (φ:Heap->Prop)
abbrev Hp:=Addr->Option HO
def upd(H:Hp)(a:Addr)(o:HO):Hp:=fun b=>if b=a then some o else H b
theorem aC{H:Hp}{a:Addr}{o:HO}:upd H a o a=some o:=by unfold upd;rw[yL rfl]
theorem aF{H:Hp}{a b:Addr}{o:HO}(h:b≠a):upd H a o b=H b:=by unfold upd;rw[yN h]
theorem aX{H:Hp}{a b:Addr}{o:HO}(h:H a=some o)(h':H b=none):a≠b:=by
 intro e;subst e;rw[h] at h';cases h'
def sJ(h:Heap)(a:Addr)(its:Array Value):Prop:=IsTup h a its/\∃o,h.get? a=some o/\o.dict=none
theorem sJ.new(h:Heap)(its:Array Value):sJ (h.push { cls:=.type "tuple",data:=.seq its }) h.objs.size its:=⟨IsTup.new _ _,_,zW _ rfl,rfl⟩
section
variable (P:Program) (w:World)
def eL(H:Hp)(h:Heap)(a:Addr):HO->Prop
 | .lst xs=>xs.length<=sizeLine/\∃ (its:List Value) (n:Nat),aQ xs its/\h.get? a=some { cls:=.type "list",data:=.seq its.toArray n }
 | .tup xs=>xs.length<=sizeLine/\∃its:List Value,aQ xs its/\sJ h a its.toArray
 | .dK kvs=>kvs.length<=sizeLine/\(a == sysModules)=false/\∃vs,KV kvs vs/\h.DictOf (DC P w) a vs
 | .dT kvs=>kvs.length<=sizeLine/\(a == sysModules)=false/\∃xs:List (List BB×Addr×Value),
   Paired (fun (p:List BB×V) (q:List BB×Addr×Value)=>p.1=q.1/\H q.2.1=some (.tup (p.1.map kV))/\RelV p.2 q.2.2) kvs xs /\
   ∃o es ep,h.get? a=some o/\o.ExactDict/\o.data=.dict es ep/\es.toList=xs.map (entryOfKey (tupleKind (DC P w)))/\(xs.map (·.1)).Nodup
 | .set S n=>h.SetOf (intKind P w) a S n
 | .ins C dx fs=>H dx=some (.own a)/\fs.length<=1000/\dx≠a/\h.get? a=some (W.instObj C dx) /\
   ∃mA,h.Ns1 dx mA/\(∀f,QA (fs.lookup f) (mA f))/\PySem.Within mA (fs.map (·.1))
 | .own _=>∃o,h.get? a=some o
 | .xd fs=>∃mA,h.Ns1 a mA/\∀f,QA (fs.lookup f) (mA f)
 | .rng lo hi=>∃t u v,h.get? a=some { cls:=.type "range",data:=.fields #[.int lo t,.int hi u,.int 1 v] }
 | .frz o u=>h.get? a=some o/\eL H h a u
 | .tab q=>∃ps:Array Value,h.get? a=some { cls:=.none,data:=.fields ps }/\TriplesOk ps.toList/\∀pos v,codeAmong pos ps.toList=some v->∃c,v=.ref c/\H c=some (.cod q)
 | .cod q=>h.CodeRec (.ref a) q
 | .met f x=>h.get? a=some (W.methodObj (.ref f) (.ref x))
 | .ext φ=>φ h/\(∃o,h.get? a=some o)/\∀h1 h2:Heap,φ h1->(∀o,h1.get? a=some o->h2.get? a=some o)->φ h2
def oC(H:Hp)(h:Heap):Prop:=∀a o,H a=some o->eL P w H h a o
end
section
variable {P:Program}{w:World}{H H':Hp}{h h':Heap}{a:Addr}{o:HO}
theorem eL.lt(x:eL P w H h a o):a < h.objs.size:=by
 cases o with
 | lst xs=>obtain⟨_,_,_,_,e⟩:=x;exact zX e
 | tup xs=>obtain⟨_,_,_,p⟩:=x;exact p.1.lt
 | dK kvs=>obtain⟨_,_,_,_,o,_,_,e,_⟩:=x;exact zX e
 | dT kvs=>obtain⟨_,_,_,_,o,_,_,e,_⟩:=x;exact zX e
 | set S n=>obtain⟨o,_,_,_,e,_⟩:=x;exact zX e
 | ins C dx fs=>obtain⟨_,_,_,e,_⟩:=x;exact zX e
 | own y=>obtain⟨_,e⟩:=x;exact zX e
 | xd fs=>obtain⟨_,⟨_,_,_,e,_⟩,_⟩:=x;exact zX e
 | rng lo hi=>obtain⟨_,_,_,e⟩:=x;exact zX e
 | frz ob u=>obtain⟨e,_⟩:=x;exact zX e
 | tab q=>obtain⟨_,e,_⟩:=x;exact zX e
 | cod q=>obtain⟨_,_,_,_,e0,e,_⟩:=x;cases e0;exact zX e
 | met f y=>exact zX (show h.get? a=some _ from x)
 | ext φ=>obtain⟨_,⟨_,e⟩,_⟩:=x;exact zX e
theorem Paired.mapP{α β:Type}{F G:α->β->Prop}:∀ {l₁:List α}{l₂:List β},Paired F l₁ l₂->(∀a b,F a b->G a b)->Paired G l₁ l₂
 | _,_,.nil,_=>.nil
 | _,_,.cons r t,f=>.cons (f _ _ r) (Paired.mapP t f)
def Sj:HO->Prop
 | .tup _=>True
 | .cod _=>True
 | _=>False
theorem eL.stay(x:eL P w H h a o)(k:∀b u,(b=a\/H b=some (.own a))->h.get? b=some u->h'.get? b=some u)
  (ho:∀b,H b=some (.own a)->H' b=some (.own a)) (ht:∀b u,H b=some u->Sj u->H' b=some u):eL P w H' h' a o:=by
 induction o with
 | lst xs=>obtain⟨z,its,n,r,e⟩:=x;exact⟨z,its,n,r,k _ _ (.inl rfl) e⟩
 | tup xs=>obtain⟨z,its,r,⟨ob,e,c⟩,o2,e2,d2⟩:=x;exact⟨z,its,r,⟨ob,k _ _ (.inl rfl) e,c⟩,o2,k _ _ (.inl rfl) e2,d2⟩
 | dK kvs=>obtain⟨z,y,vs,r,ob,es,ep,e,c⟩:=x;exact⟨z,y,vs,r,ob,es,ep,k _ _ (.inl rfl) e,c⟩
 | dT kvs =>
  obtain⟨z,y,xs,r,ob,es,ep,e,c⟩:=x
  exact⟨z,y,xs,Paired.mapP r fun p q z=>⟨z.1,ht _ _ z.2.1 trivial,z.2.2⟩,ob,es,ep,k _ _ (.inl rfl) e,c⟩
 | set S n=>obtain⟨ob,es,ep,t,e,c⟩:=x;exact⟨ob,es,ep,t,k _ _ (.inl rfl) e,c⟩
 | ins C dx fs =>
  obtain⟨d,z,ne,e,mA,⟨od,es,ep,e2,c⟩,r⟩:=x
  exact⟨ho _ d,z,ne,k _ _ (.inl rfl) e,mA,⟨od,es,ep,k _ _ (.inr d) e2,c⟩,r⟩
 | own y=>obtain⟨ob,e⟩:=x;exact⟨ob,k _ _ (.inl rfl) e⟩
 | xd fs=>obtain⟨mA,⟨od,es,ep,e,c⟩,r⟩:=x;exact⟨mA,⟨od,es,ep,k _ _ (.inl rfl) e,c⟩,r⟩
 | rng lo hi=>obtain⟨t,u,v,e⟩:=x;exact⟨t,u,v,k _ _ (.inl rfl) e⟩
 | frz ob u ih=>obtain⟨e,q⟩:=x;exact⟨k _ _ (.inl rfl) e,ih q⟩
 | tab q=>obtain⟨ps,e,t,c⟩:=x;exact⟨ps,k a _ (.inl rfl) e,t,fun pos v z=>let ⟨c0,z1,z2⟩:=c pos v z;⟨c0,z1,ht _ _ z2 trivial⟩⟩
 | cod q=>obtain⟨c,oc,vs,t,e0,e,r⟩:=x;cases e0;exact⟨_,oc,vs,t,rfl,k _ _ (.inl rfl) e,r⟩
 | met f y =>
  have e:h.get? a=some (W.methodObj (.ref f) (.ref y)):=x
  show h'.get? a=some (W.methodObj (.ref f) (.ref y))
  exact k a _ (.inl rfl) e
 | ext φ=>obtain⟨p,⟨o,e⟩,st⟩:=x;exact⟨st _ _ p fun o q=>k _ _ (.inl rfl) q,⟨o,k _ _ (.inl rfl) e⟩,st⟩
theorem oC.lt(x:oC P w H h)(e:H a=some o):a < h.objs.size:=(x a o e).lt
theorem oC.fresh(x:oC P w H h)(e:h.objs.size<=a):H a=none:=by
 cases q:H a with
 | none=>rfl
 | some u=>exact absurd (zP (x.lt q) e) (qE _)
theorem oC.kept(x:oC P w H h)(k:∀b u,h.get? b=some u->h'.get? b=some u):oC P w H h':=fun a o e =>
 (x a o e).stay (fun b u _ q=>k b u q) (fun _ q=>q) fun _ _ q _=>q
theorem oC.laid(x:oC P w H h)(k:∀b u,h.get? b=some u->h'.get? b=some u)(hp:h.objs.size<=a)(new:eL P w (upd H a o) h' a o):oC P w (upd H a o) h':=fun b u e=>by
 have hn:=x.fresh hp
 by_cases hb:b=a
 ·subst hb;rw[aC] at e;cases e;exact new
 ·rw[aF hb] at e
  exact (x b u e).stay (fun c v _ q=>k c v q) (fun c q=>by rw[aF (aX q hn)];exact q) fun c xs q _=>by rw[aF (aX q hn)];exact q
end
def Rd(H:Hp)(a:Addr)(u:HO):Prop:=H a=some u\/∃o,H a=some (.frz o u)
theorem Rd.ok{P:Program}{w:World}{H:Hp}{h:Heap}{a:Addr}{u:HO}(r:Rd H a u)(x:oC P w H h):eL P w H h a u:=by
 rcases r with r|⟨o,r⟩
 ·exact x a u r
 ·obtain⟨_,q⟩:=x a _ r
  exact q
def P5:Option HO->Prop
 | some (.lst _)=>True
 | some (.dK _)=>True
 | some (.dT _)=>True
 | some (.set _ _)=>True
 | some (.ins _ _ _)=>True
 | some (.ext _)=>True
 | _=>False
section
variable {P:Program}{w:World}{H:Hp}{h h':Heap}{x e:Addr}{o':HO}
theorem oC.write(ok:oC P w H h)(mu:P5 (H x))(he:e=x\/H e=some (.own x))(k:∀b u,b≠e->h.get? b=some u->h'.get? b=some u)(heo:∃u,h'.get? e=some u)
  (new:eL P w (upd H x o') h' x o'):oC P w (upd H x o') h':=fun b u q=>by
 have nown:∀c y,H c=some (.own y)->c≠x:=fun c y r z=>by subst z;rw[r] at mu;exact mu
 have ntup:∀c u,H c=some u->Sj u->c≠x:=fun c u r hr z=>by subst z;rw[r] at mu;cases u<;>first|exact mu|exact hr
 by_cases hb:b=x
 ·subst hb;rw[aC] at q;cases q;exact new
 ·rw[aF hb] at q
  by_cases hbe:b=e
  ·have q':H b=some (.own x):=by
    rcases he with z|z
    ·exact absurd (hbe.trans z) hb
    ·rw[hbe];exact z
   rw[q] at q';cases q'
   obtain⟨v,hv⟩:=heo
   exact⟨v,by rw[hbe];exact hv⟩
  ·refine (ok b u q).stay (fun c v hc r=>k c v ?_ r) (fun c r=>by rw[aF (nown c b r)];exact r) fun c xs r hr=>by rw[aF (ntup c xs r hr)];exact r
   rcases hc with rfl|hc
   ·exact hbe
   ·rintro rfl
    rcases he with z|z
    ·exact nown c b hc z
    ·rw[hc] at z;cases z;exact hb rfl
end
def QU:HO->Prop
 | .tab _=>True
 | .cod _=>True
 | _=>False
theorem QU.not_mut{u:HO}(h:QU u):¬ P5 (some u):=by cases u<;>first|exact fun z=>z|exact h.elim
structure Ml(H H':Hp)(h h':Heap):Prop where
 st:∀b u,H b=some u->QU u->H' b=some u
 gr:∀b q ps,H b=some (.tab q)->h.get? b=some { cls:=.none,data:=.fields ps }->∃more:Array Value,h'.get? b=some { cls:=.none,data:=.fields (ps++more) }
theorem Ml.kept{H H':Hp}{h h':Heap}(k:∀b u,(∃q,H b=some (.tab q))->h.get? b=some u->h'.get? b=some u)(st:∀b u,H b=some u->QU u->H' b=some u):Ml H H' h h' :=
 ⟨st,fun b q ps e z=>⟨#[],by rw[Array.append_empty];exact k b _ ⟨q,e⟩ z⟩⟩
theorem Ml.trans{H H1 H2:Hp}{h h1 h2:Heap}(a:Ml H H1 h h1)(b:Ml H1 H2 h1 h2):Ml H H2 h h2 :=
 ⟨fun c u q t=>b.st c u (a.st c u q t) t,fun c q ps e z=>by
  obtain⟨m1,z1⟩:=a.gr c q ps e z
  obtain⟨m2,z2⟩:=b.gr c q _ (a.st c _ e trivial) z1
  exact⟨m1++m2,by rw[z2,Array.append_assoc]⟩⟩
structure Un(fs ex:List Addr)(H H':Hp)(h h':Heap):Prop where
 keep:∀b o,h.get? b=some o->H b=none->b∉fs->b∉ex->h'.get? b=some o
 slot:∀b o,h.get? b=some o->H b=none->b∈fs->b∉ex->∃sl,h'.get? b=some { o with slots:=sl }
 free:∀b o,h.get? b=some o->H b=none->b∉ex->H' b=none
 there:∀b o,h.get? b=some o->b∉ex->∃o',h'.get? b=some o'
 tups:∀b xs,H b=some (.tup xs)->H' b=some (.tup xs)
 frzs:∀b o u,H b=some (.frz o u)->H' b=some (.frz o u)
 tbls:Ml H H' h h'
section
variable {fs fs' ex ex':List Addr}{H H1 H2:Hp}{h h1 h2 h':Heap}{a x e:Addr}{o:HO}
theorem Un.any(u:Un fs ex H H1 h h1){b:Addr}{ob:Obj}(q:h.get? b=some ob)(n:H b=none)(hx:b∉ex):∃sl,h1.get? b=some { ob with slots:=sl }:=by
 by_cases hb:b∈fs
 ·exact u.slot b ob q n hb hx
 ·exact⟨ob.slots,u.keep b ob q n hb hx⟩
theorem Un.kept(k:∀b u,h.get? b=some u->h'.get? b=some u):Un fs ex H H h h' :=
 ⟨fun b ob q _ _ _=>k b ob q,fun b ob q _ _ _=>⟨ob.slots,k b ob q⟩,fun _ _ _ n _=>n,fun b ob q _=>⟨ob,k b ob q⟩,fun _ _ q=>q,fun _ _ _ q=>q,.kept (fun b u _ e=>k b u e) fun _ _ e _=>e⟩
theorem Un.refl:Un fs ex H H h h:=Un.kept fun _ _ q=>q
theorem Un.laid(k:∀b u,h.get? b=some u->h'.get? b=some u)(hp:h.objs.size<=a)(hn:H a=none):Un fs ex H (upd H a o) h h' where
 keep:=fun b u q _ _ _=>k b u q
 slot:=fun b u q _ _ _=>⟨u.slots,k b u q⟩
 free:=fun b u q n _=>by rw[aF (yR (zP (zX q) hp))];exact n
 there:=fun b u q _=>⟨u,k b u q⟩
 tups:=fun b xs q=>by rw[aF (aX q hn)];exact q
 frzs:=fun b u xs q=>by rw[aF (aX q hn)];exact q
 tbls:=.kept (fun b u _ e=>k b u e) fun b u q _=>by rw[aF (aX q hn)];exact q
theorem Un.write(mu:P5 (H x))(he:e=x\/H e=some (.own x))(k:∀b u,b≠e->h.get? b=some u->h'.get? b=some u)(heo:∃u,h'.get? e=some u):Un fs ex H (upd H x o) h h':=by
 have hx:∀b,H b=none->b≠x:=fun b n z=>by subst z;rw[n] at mu;exact mu
 have hb:∀b,H b=none->b≠e:=fun b n z=>by
  subst z
  rcases he with r|r
  ·exact hx b n r
  ·rw[n] at r;cases r
 have hm:∀b u,H b=some u->¬ P5 (some u)->b≠x:=fun b u q nm z=>by subst z;rw[q] at mu;exact nm mu
 refine⟨fun b u q n _ _=>k b u (hb b n) q,fun b u q n _ _=>⟨u.slots,k b u (hb b n) q⟩,fun b u q n _=>by rw[aF (hx b n)];exact n,fun b u q _=>?_,
  fun b xs q=>by rw[aF (hm b _ q fun z=>z)];exact q,fun b u xs q=>by rw[aF (hm b _ q fun z=>z)];exact q,.kept (fun b u z e=>k b u (fun r=>by subst r;rcases he with r|r<;>first|(subst r;rcases z with ⟨q,z⟩;rw[z] at mu;exact mu)|(rcases z with ⟨q,z⟩;rw[z] at r;cases r)) e) fun b u q nm=>by rw[aF (hm b _ q (nm.not_mut))];exact q⟩
 by_cases hbe:b=e
 ·subst hbe;exact heo
 ·exact⟨u,k b u hbe q⟩
end
def JR(h:Heap)(H:Hp):List Addr:=(List.range h.objs.size).filter fun a=>(H a).isSome
def wa(h:Heap)(H:Hp):Heap:=W.hideAll h (JR h H)
theorem FW(h:Heap)(H:Hp):(wa h H).objs.size=h.objs.size:=W.hideAll_size _ _
theorem IB{h:Heap}{H:Hp}{b:Addr}{o:Obj}(e:h.get? b=some o)(n:H b=none):(wa h H).get? b=some o :=
 W.hideAll_get _ e fun hm=>by
  have q:(H b).isSome=true:=(List.mem_filter.mp hm).2
  rw[n] at q;simp at q
theorem Kl{h:Heap}{H:Hp}{b:Addr}{o:Obj}(e:(wa h H).get? b=some o):h.get? b=some o/\H b=none:=by
 have e':h.get? b=some o:=W.of_hideAll (JR h H) e
 refine⟨e',?_⟩
 cases q:H b with
 | none=>rfl
 | some x =>
  have hm:b∈JR h H:=List.mem_filter.mpr ⟨List.mem_range.mpr (zX e'),by simp[q]⟩
  have z:(wa h H).get? b=none:=W.hideAll_none (JR h H) hm
  rw[z] at e;cases e
def QL(mg:Str->Option Value)(base:Heap):Prop:=∃bm o,mg "__builtins__"=some (.ref bm)/\bm≠builtinsNs/\bm≠mainGlobals/\base.get? bm=some o/\o.cls=.type "module"/\o.dict=some builtinsNs/\o.data=.plain
structure Mod(K:W.Frag)(mg:Str->Option Value)(base:Heap):Prop where
 kin:K.In base
 glob:base.Ns mainGlobals mg
 blt:∃mb,base.Ns builtinsNs mb/\∀x:Str,x≠"__name__"->mb x=bootBuiltins x
 nolimit:base.NoLimit
 bmd:QL mg base
structure Cx where
 prog:Program
 w:World
 K:W.Frag
 mg:Str->Option Value
 base:Heap
 A:Around
 N:List Str
 s₀:Shared
 H₀:Hp
 env:Env
 outer:List Env
 stack:List Env
 ex:List Addr
 fn:Str->Bool
 calm:Bool
 pn:List (Addr×Obj)
 xe:Value->Shared->Prop
def ix(l:List Env):List Addr:=l.filterMap (·.frame)
abbrev Cx.fs(X:Cx):List Addr:=ix X.outer
def Lx(sc:Scope)(x:Str):Prop:=sc.names.lookup x=some .local \/ sc.names.lookup x=some .cell\/sc.names.lookup x=some .free
def Loc(sc:Scope)(x:Str):Prop:=sc.names.lookup x=some .local \/ sc.names.lookup x=some .cell
def Look(env:Env)(h:Heap)(m:Str->Option Value)(x:Str)(u:Value):Prop :=
 (env.kindOf x=some .local /\ m x=some u)\/((env.kindOf x=some .cell\/env.kindOf x=some .free)/\∃c,env.cells.lookup x=some c/\h.IsCell c (some u))
structure Cx.Ok(X:Cx):Prop where
 mod:Mod X.K X.mg X.base
 kind:X.env.scope.kind=.function
 glob:X.env.globals=mainGlobals
 blt:X.env.builtins=builtinsNs
 above:X.s₀.heap.objs.size<=X.env.locals
 inj:∀x y c,X.env.cells.lookup x=some c->X.env.cells.lookup y=some c->x=y
 has:∀x,(X.env.kindOf x=some .cell\/X.env.kindOf x=some .free)->∃c,X.env.cells.lookup x=some c
 cab:∀x c,X.fn x=true->X.env.cells.lookup x=some c->X.s₀.heap.objs.size<=c
 hd:X.calm=true->X.A.handled=none
 frames:X.A.frames=some X.stack
 stk:X.stack=X.outer\/(X.stack=X.env::X.outer/\X.env.frame=some X.env.locals)
 exf:∀b∈X.ex,b≠X.env.locals/\∀x c,X.env.cells.lookup x=some c->c≠b
 bs:∀b o,X.base.get? b=some o->X.s₀.heap.get? b=some o/\X.H₀ b=none
 bsz:X.base.objs.size<=X.s₀.heap.objs.size
 noex:∀b o,X.base.get? b=some o->b∉X.ex
 exfs:∀b∈X.ex,b∉X.fs
 funs:X.s₀.heap.FunFrames X.base X.outer
 frf:∀b∈X.fs,X.H₀ b=none
structure Inv(X:Cx)(pins:List (Addr×Obj))(σ:List (Option V))(H:Hp)(s:Shared):Prop where
 ok:X.Ok
 os:s.os=X.s₀.os
 bare:AllBare s.gens
 base:Un X.fs X.ex X.H₀ H X.s₀.heap s.heap
 loc:∃m,s.heap.Ns X.env.locals m/\∀ (i:Nat) (x:Str) (v:V),X.N[i]?=some x->σ[i]?=some (some v)->Lx X.env.scope x->∃u,RelV v u/\Look X.env s.heap m x u
 cell:∀x c,X.env.cells.lookup x=some c->∃v,s.heap.IsCell c v
 free:H X.env.locals=none
 freeC:∀x c,X.env.cells.lookup x=some c->H c=none
 pin:∀p∈X.pn++pins,s.heap.get? p.1=some p.2/\H p.1=none/\p.1≠X.env.locals/\p.1∉X.fs/\∀v,p.2.data≠.cell v
 hok:oC X.prog X.w H s.heap
 len:σ.length=X.N.length
section
variable {X:Cx}{pins:List (Addr×Obj)}{σ:List (Option V)}{H H':Hp}{s:Shared}{h':Heap}
theorem Cx.Ok.nofr(ok:X.Ok){b:Addr}{o:Obj}(e:X.base.get? b=some o):b∉X.fs:=fun hb=>by
 have:=(ok.funs.mem hb).1
 rw[e] at this;cases this
theorem Inv.bs(I:Inv X pins σ H s):∀b o,X.base.get? b=some o->s.heap.get? b=some o/\H b=none:=fun b o e =>
 ⟨I.base.keep b o (I.ok.bs b o e).1 (I.ok.bs b o e).2 (I.ok.nofr e) (I.ok.noex b o e),I.base.free b o (I.ok.bs b o e).1 (I.ok.bs b o e).2 (I.ok.noex b o e)⟩
theorem Inv.bk(I:Inv X pins σ H s):∀b o,X.base.get? b=some o->s.heap.get? b=some o:=fun b o e=>(I.bs b o e).1
theorem Inv.mod(I:Inv X pins σ H s):Mod X.K X.mg X.base:=I.ok.mod
theorem Inv.kIn(I:Inv X pins σ H s):X.K.In s.heap:=I.ok.mod.kin.keeps I.bk
theorem Inv.nolimit(I:Inv X pins σ H s):s.heap.NoLimit:=I.ok.mod.nolimit.keeps I.bk
theorem Inv.lt(I:Inv X pins σ H s):X.env.locals < s.heap.objs.size:=let ⟨_,hn,_⟩:=I.loc;hn.lt
theorem Inv.sz(I:Inv X pins σ H s):X.s₀.heap.objs.size<=s.heap.objs.size:=yC I.ok.above (jT I.lt)
theorem Inv.nofs(I:Inv X pins σ H s){a:Addr}(h:s.heap.objs.size<=a):a∉X.fs:=fun hb=>by
 obtain⟨_,o,ho,_⟩:=I.ok.funs.mem hb
 exact absurd (zP (zX ho) (yC I.sz h)) (qE _)
theorem Inv.cne(I:Inv X pins σ H s):∀x c,X.env.cells.lookup x=some c->c≠X.env.locals:=fun x c e z=>by
 obtain⟨v,o,ho,hd⟩:=I.cell x c e
 obtain⟨m,⟨o',es,ep,ho',hd',_⟩,_⟩:=I.loc
 rw[z,ho'] at ho;cases ho;rw[hd'] at hd;cases hd
theorem Inv.funs(I:Inv X pins σ H s):s.heap.FunFrames X.base X.outer:=by
 have all:∀ (l:List Env),(∀b∈ix l,b∈X.fs)->X.s₀.heap.FunFrames X.base l->s.heap.FunFrames X.base l:=by
  intro l
  induction l with
  | nil=>intro _ _;trivial
  | cons env r ih =>
   intro hs hl
   obtain⟨hk,⟨L,o,hf,hn,ho,hd⟩,hr⟩:=hl
   have hL:L∈X.fs:=hs L (by unfold ix;rw[jG,hf];exact zE)
   obtain⟨sl,e⟩:=I.base.slot L o ho (I.ok.frf L hL) hL fun z=>I.ok.exfs L z hL
   exact⟨hk,⟨L,_,hf,hn,e,hd⟩,ih (fun b hb=>hs b (by unfold ix;rw[jG,hf];exact zC _ hb)) hr⟩
 exact all X.outer (fun _ hb=>hb) I.ok.funs
theorem Inv.stack(I:Inv X pins σ H s):s.heap.FunFrames X.base X.stack:=by
 rcases I.ok.stk with e|⟨e,hf⟩
 ·rw[e];exact I.funs
 ·rw[e]
  obtain⟨m,hn,_⟩:=I.loc
  refine .cons (by rw[I.ok.kind];decide) hf hn ?_ I.funs
  exact Heap.get?_none_of_le (yC I.ok.bsz I.ok.above)
theorem Inv.stkSub(I:Inv X pins σ H s):∀b∈ix X.stack,b∈X.env.locals::X.fs:=fun b hb=>by
 rcases I.ok.stk with e|⟨e,hf⟩
 ·rw[e] at hb;exact zC _ hb
 ·rw[e] at hb
  unfold ix at hb
  rw[jG,hf] at hb
  exact hb
theorem Inv.stkFree(I:Inv X pins σ H s):∀b∈ix X.stack,H b=none:=fun b hb=>by
 rcases List.mem_cons.mp (I.stkSub b hb) with e|hb
 ·rw[e];exact I.free
 ·obtain⟨_,o,ho,_⟩:=I.ok.funs.mem hb
  exact I.base.free b o ho (I.ok.frf b hb) fun z=>I.ok.exfs b z hb
theorem Inv.step{g':Array GenState}{t':Nat}{d':Drawn}{ch:List Addr}(I:Inv X pins σ H s)
  (hch:∀b∈ch,(b∈X.ex\/X.s₀.heap.objs.size<=b)/\b≠X.env.locals/\(∀x c,X.env.cells.lookup x=some c->c≠b)/\∀p∈X.pn++pins,p.1≠b)
  (keep:∀b o,b≠X.env.locals->b∉X.fs->b∉ch->s.heap.get? b=some o->H b=none->h'.get? b=some o)
  (slot:∀b o,b≠X.env.locals->b∈X.fs->b∉ch->s.heap.get? b=some o->H b=none->∃sl,h'.get? b=some { o with slots:=sl }) (free:∀b o,b∉ch->s.heap.get? b=some o->H b=none->H' b=none)
  (there:∀b o,b∉ch->s.heap.get? b=some o->∃o',h'.get? b=some o')
  (tups:∀b xs,H b=some (.tup xs)->H' b=some (.tup xs)) (frzs:∀b o u,H b=some (.frz o u)->H' b=some (.frz o u)) (tbls:Ml H H' s.heap h')
  (ns:∀m,s.heap.Ns X.env.locals m->h'.Ns X.env.locals m) (hok:oC X.prog X.w H' h') (hg:AllBare g') :
  Inv X pins σ H' { s with heap:=h',gens:=g',drawn:=d',toks:=t' }:=by
 have neL:∀b o,X.s₀.heap.get? b=some o->b≠X.env.locals:=fun b o e=>yR (zP (zX e) I.ok.above)
 have neC:∀b o,X.s₀.heap.get? b=some o->b∉X.ex->b∉ch:=fun b o e hx hb=>by
  rcases (hch b hb).1 with z|z
  ·exact hx z
  ·exact absurd (zP (zX e) z) (qE _)
 have cellK:∀x c,X.env.cells.lookup x=some c->∀v,s.heap.IsCell c v->h'.IsCell c v:=fun x c e v ⟨o,ho,hd⟩=>by
  have nch:c∉ch:=fun z=>(hch c z).2.2.1 x c e rfl
  by_cases hc:c∈X.fs
  ·obtain⟨sl,q⟩:=slot c o (I.cne x c e) hc nch ho (I.freeC x c e)
   exact⟨_,q,hd⟩
  ·exact⟨o,keep c o (I.cne x c e) hc nch ho (I.freeC x c e),hd⟩
 refine⟨I.ok,I.os,hg,⟨fun b o e n hb hx=>?_,fun b o e n hb hx=>?_,fun b o e n hx=>?_,fun b o e hx=>?_,fun b xs e=>tups b xs (I.base.tups b xs e),fun b o xs e=>frzs b o xs (I.base.frzs b o xs e),I.base.tbls.trans tbls⟩,?_,fun x c e=>?_,?_,fun x c e=>?_,fun p hp=>?_,hok,I.len⟩
 ·exact keep b o (neL b o e) hb (neC b o e hx) (I.base.keep b o e n hb hx) (I.base.free b o e n hx)
 ·obtain⟨sl,e1⟩:=I.base.slot b o e n hb hx
  obtain⟨sl',e2⟩:=slot b _ (neL b o e) hb (neC b o e hx) e1 (I.base.free b o e n hx)
  exact⟨sl',e2⟩
 ·obtain⟨o',e1⟩:=I.base.there b o e hx
  exact free b o' (neC b o e hx) e1 (I.base.free b o e n hx)
 ·obtain⟨o',e1⟩:=I.base.there b o e hx
  exact there b o' (neC b o e hx) e1
 ·obtain⟨m,hn,hl⟩:=I.loc
  refine⟨m,ns m hn,fun i x v e1 e2 e3=>?_⟩
  obtain⟨u,r,l⟩:=hl i x v e1 e2 e3
  refine⟨u,r,?_⟩
  rcases l with l|⟨k,c,e,z⟩
  ·exact .inl l
  ·exact .inr ⟨k,c,e,cellK x c e _ z⟩
 ·obtain⟨v,z⟩:=I.cell x c e
  exact⟨v,cellK x c e v z⟩
 ·obtain⟨m,⟨o,_,_,ho,_⟩,_⟩:=I.loc
  exact free _ o (fun z=>(hch _ z).2.1 rfl) ho I.free
 ·obtain⟨v,o,ho,hd⟩:=I.cell x c e
  exact free c o (fun z=>(hch c z).2.2.1 x c e rfl) ho (I.freeC x c e)
 ·obtain⟨e,n,ne,nf,d⟩:=I.pin p hp
  have nch:p.1∉ch:=fun z=>(hch p.1 z).2.2.2 p hp rfl
  exact⟨keep p.1 p.2 ne nf nch e n,free p.1 p.2 nch e n,ne,nf,d⟩
theorem Inv.un{t':Nat}(I:Inv X pins σ H s)(u:Un X.fs [] H H' s.heap h')(hok:oC X.prog X.w H' h'):Inv X pins σ H' { s with heap:=h',toks:=t' }:=by
 obtain⟨m,⟨o,es,ep,ho,r⟩,_⟩:=id I.loc
 obtain⟨sl,hL⟩:=u.any ho I.free (by simp)
 exact I.step (g':=s.gens) (d':=s.drawn) (ch:=[]) (fun _ z=>nomatch z) (fun b o _ hb _ e n=>u.keep b o e n hb (by simp)) (fun b o _ hb _ e n=>u.slot b o e n hb (by simp)) (fun b o _ e n=>u.free b o e n (by simp)) (fun b o _ e=>u.there b o e (by simp)) u.tups u.frzs u.tbls (fun m' hm=>by
  obtain⟨o',es',ep',ho',r'⟩:=hm
  rw[ho] at ho';cases ho'
  exact⟨_,es',ep',hL,r'⟩) hok I.bare
theorem Inv.call{g':Array GenState}{t':Nat}{d':Drawn}{ch:List Addr}(I:Inv X pins σ H s)(u:Un (ix X.stack) ch H H' s.heap h')(hok:oC X.prog X.w H' h')(hg:AllBare g')
  (hch:∀b∈ch,(b∈X.ex\/X.s₀.heap.objs.size<=b)/\b≠X.env.locals/\(∀x c,X.env.cells.lookup x=some c->c≠b)/\∀p∈X.pn++pins,p.1≠b) :
  Inv X pins σ H' { s with heap:=h',gens:=g',drawn:=d',toks:=t' }:=by
 obtain⟨m,⟨o,es,ep,ho,r⟩,_⟩:=id I.loc
 obtain⟨sl,hL⟩:=u.any ho I.free fun z=>(hch _ z).2.1 rfl
 exact I.step (ch:=ch) hch (fun b o hL hb hc e n=>u.keep b o e n (fun z=>(List.mem_cons.mp (I.stkSub b z)).elim hL hb) hc) (fun b o _ _ hc e n=>u.any e n hc) (fun b o hc e n=>u.free b o e n hc) (fun b o hc e=>u.there b o e hc) u.tups u.frzs u.tbls (fun m' hm=>by
  obtain⟨o',es',ep',ho',r'⟩:=hm
  rw[ho] at ho';cases ho'
  exact⟨_,es',ep',hL,r'⟩) hok hg
theorem Inv.turned{t':Nat}{it:Addr}(I:Inv X pins σ H s)(k:∀b o,b≠it->s.heap.get? b=some o->h'.get? b=some o)(hn:H it=none)(hL:it≠X.env.locals)
  (h1:it∈X.ex\/X.s₀.heap.objs.size<=it) (h2:∀x c,X.env.cells.lookup x=some c->c≠it) (h3:∀p∈X.pn++pins,p.1≠it):Inv X pins σ H { s with heap:=h',toks:=t' }:=by
 have nit:∀b u,H b=some u->b≠it:=fun b u e z=>by rw[z,hn] at e;cases e
 refine I.step (g':=s.gens) (d':=s.drawn) (ch:=[it]) (fun b hb=>?_) (fun b o _ _ hc e _=>k b o (fun z=>hc (by simp[z])) e) (fun b o _ _ hc e _=>⟨o.slots,k b o (fun z=>hc (by simp[z])) e⟩) (fun _ _ _ _ n=>n)
  (fun b o hc e=>⟨o,k b o (fun z=>hc (by simp[z])) e⟩) (fun _ _ e=>e) (fun _ _ _ e=>e) (.kept (fun b u z e=>k b u (fun r=>by subst r;rcases z with ⟨q,z⟩;rw[hn] at z;cases z) e) fun _ _ e _=>e) (fun m hm=>?_) (fun b u e=>?_) I.bare
 ·have e:b=it:=by simpa using hb
  subst e
  exact⟨h1,hL,h2,h3⟩
 ·obtain⟨o,es,ep,ho,r⟩:=hm
  exact⟨o,es,ep,k _ o (jN hL) ho,r⟩
 ·refine (I.hok b u e).stay (fun c v hc q=>k c v ?_ q) (fun _ q=>q) fun _ _ q _=>q
  rcases hc with z|z
  ·rw[z];exact nit b u e
  ·exact nit c _ z
theorem Inv.tok(I:Inv X pins σ H s)(t:Nat):Inv X pins σ H { s with toks:=t }:=I.un (h':=s.heap) (t':=t) Un.refl I.hok
theorem Inv.kept{t':Nat}(I:Inv X pins σ H s)(k:∀b u,s.heap.get? b=some u->h'.get? b=some u):Inv X pins σ H { s with heap:=h',toks:=t' }:=I.un (Un.kept k) (I.hok.kept k)
theorem Inv.laid{a:Addr}{o:HO}{t':Nat}(I:Inv X pins σ H s)(k:∀b u,s.heap.get? b=some u->h'.get? b=some u)(hp:s.heap.objs.size<=a)(new:eL X.prog X.w (upd H a o) h' a o) :
  Inv X pins σ (upd H a o) { s with heap:=h',toks:=t' }:=I.un (Un.laid k hp (I.hok.fresh hp)) (I.hok.laid k hp new)
theorem Inv.write{x e:Addr}{o:HO}{t':Nat}(I:Inv X pins σ H s)(mu:P5 (H x))(he:e=x\/H e=some (.own x))(k:∀b u,b≠e->s.heap.get? b=some u->h'.get? b=some u)(heo:∃u,h'.get? e=some u)
  (new:eL X.prog X.w (upd H x o) h' x o):Inv X pins σ (upd H x o) { s with heap:=h',toks:=t' }:=I.un (Un.write mu he k heo) (I.hok.write mu he k heo new)
theorem Inv.pins_of{pins':List (Addr×Obj)}(I:Inv X pins σ H s)(h:∀p∈pins',s.heap.get? p.1=some p.2/\H p.1=none/\p.1≠X.env.locals/\p.1∉X.fs/\∀v,p.2.data≠.cell v):Inv X pins' σ H s :=
 ⟨I.ok,I.os,I.bare,I.base,I.loc,I.cell,I.free,I.freeC,fun p hp=>(List.mem_append.mp hp).elim (fun z=>I.pin p (qJ _ z)) (h p),I.hok,I.len⟩
theorem Ai{N:List Str}(hN:N.Nodup){i j:Nat}{x:Str}(a:N[i]?=some x)(b:N[j]?=some x):i=j:=by
 obtain⟨h1,e1⟩:=List.getElem?_eq_some_iff.mp a
 obtain⟨h2,e2⟩:=List.getElem?_eq_some_iff.mp b
 exact (List.getElem_inj hN).mp (e1.trans e2.symm)
theorem o9{M:Model}{A:Around}{E:Value->Shared->Prop}{i:Nat}{x:Str}{v:V}{u:Value}{Q:Unit->Shared->Prop}(I:Inv X pins σ H s)(hN:X.N.Nodup)(hi:X.N[i]?=some x)(hx:Loc X.env.scope x)(r:RelV v u)
  (h:∀s',Inv X pins (σ.set i (some v)) H s'->(∃a,Heap.SameBut a s.heap s'.heap/\(a=X.env.locals\/X.env.cells.lookup x=some a))->Q () s') (hf:X.fn x=true\/X.env.scope.names.lookup x=some .local:=by first|exact .inl rfl|exact .inr rfl|assumption):wpAny M A (storeName X.env x u) Q E s:=by
 obtain⟨m,hn,hl⟩:=id I.loc
 have hcls:(X.env.scope.kind == .class||(X.env.scope.kind == .module&&X.env.locals != X.env.globals))=false:=by rw[I.ok.kind];rfl
 have hiσ:i < σ.length:=by rw[I.len];exact (List.getElem?_eq_some_iff.mp hi).1
 have cne:=I.cne
 have tracked:∀ {a:Addr}{h':Heap},(∃o,s.heap.get? a=some o/\H a=none)->Heap.SameBut a s.heap h'->oC X.prog X.w H h':=fun {a h'} ha hs b ob e=>by
  obtain⟨_,_,hfree⟩:=ha
  refine (I.hok b ob e).stay (fun c w' hc q=>(hs.2 c ?_).trans q) (fun _ q=>q) fun _ _ q _=>q
  rintro rfl
  rcases hc with rfl|hc
  ·rw[hfree] at e;cases e
  ·rw[hfree] at hc;cases hc
 rcases hx with hk|hk
 ·refine wpAny_storeName_local hk hn (fun h' hn' hs=>?_) hcls
  obtain⟨oL,_,_,hoL,_⟩:=id hn
  refine h _ ⟨I.ok,I.os,I.bare,⟨fun b o e n hb hx=>?_,fun b o e n hb hx=>?_,I.base.free,fun b o e hx=>?_,I.base.tups,I.base.frzs,I.base.tbls.trans (.kept (fun b u z e=>(hs.2 b (fun r=>by rcases z with ⟨q,z⟩;rw[r,I.free] at z;cases z)).trans e) fun _ _ e _=>e)⟩,⟨_,hn',fun j y v' e1 e2 e3=>?_⟩,fun y c e=>?_,I.free,I.freeC,fun p hp=>?_,tracked ⟨oL,hoL,I.free⟩ hs,by simpa using I.len⟩ ⟨_,hs,.inl rfl⟩
  ·exact (hs.2 b (yR (zP (zX e) I.ok.above))).trans (I.base.keep b o e n hb hx)
  ·obtain⟨sl,e1⟩:=I.base.slot b o e n hb hx
   exact⟨sl,(hs.2 b (yR (zP (zX e) I.ok.above))).trans e1⟩
  ·obtain⟨o',e1⟩:=I.base.there b o e hx
   exact⟨o',(hs.2 b (yR (zP (zX e) I.ok.above))).trans e1⟩
  ·by_cases hj:j=i
   ·subst hj
    rw[hi] at e1;cases e1
    rw[vQ hiσ] at e2
    cases e2
    exact⟨u,r,.inl ⟨hk,by simp⟩⟩
   ·rw[kW (jN hj)] at e2
    obtain⟨u',r',q⟩:=hl j y v' e1 e2 e3
    refine⟨u',r',?_⟩
    rcases q with ⟨k,e⟩|⟨k,c,e,z⟩
    ·refine .inl ⟨k,?_⟩
     have:y≠x:=fun e=>hj (Ai hN e1 (e ▸ hi))
     simp[this,e]
    ·exact .inr ⟨k,c,e,z.sameBut hs (cne y c e)⟩
  ·obtain⟨w',z⟩:=I.cell y c e
   exact⟨w',z.sameBut hs (cne y c e)⟩
  ·obtain⟨e,n,ne,nf,d⟩:=I.pin p hp
   exact⟨(hs.2 p.1 ne).trans e,n,ne,nf,d⟩
 ·have hfn:X.fn x=true:=by
   rcases hf with z|z
   ·exact z
   ·rw[z] at hk;cases hk
  obtain⟨c,hc⟩:=I.ok.has x (.inl hk)
  obtain⟨w',z⟩:=I.cell x c hc
  refine wpAny_storeName_cell I.ok.kind hk hc z (fun h' hc' hs=>?_)
  obtain⟨oc,hoc,hocd⟩:=id z
  refine h { s with heap:=h' } ⟨I.ok,I.os,I.bare,⟨fun b o e n hb hx=>?_,fun b o e n hb hx=>?_,I.base.free,fun b o e hx=>?_,I.base.tups,I.base.frzs,I.base.tbls.trans (.kept (fun b u z e=>(hs.2 b (fun r=>by rcases z with ⟨q,z⟩;rw[r,I.freeC x c hc] at z;cases z)).trans e) fun _ _ e _=>e)⟩,⟨m,hn.sameBut hs (jN (cne x c hc)),fun j y v' e1 e2 e3=>?_⟩,fun y c' e=>?_,I.free,I.freeC,fun p hp=>?_,tracked ⟨oc,hoc,I.freeC x c hc⟩ hs,by simpa using I.len⟩ ⟨c,hs,.inr hc⟩
  ·exact (hs.2 b (yR (zP (zX e) (I.ok.cab x c hfn hc)))).trans (I.base.keep b o e n hb hx)
  ·obtain⟨sl,e1⟩:=I.base.slot b o e n hb hx
   exact⟨sl,(hs.2 b (yR (zP (zX e) (I.ok.cab x c hfn hc)))).trans e1⟩
  ·obtain⟨o',e1⟩:=I.base.there b o e hx
   exact⟨o',(hs.2 b (yR (zP (zX e) (I.ok.cab x c hfn hc)))).trans e1⟩
  ·by_cases hj:j=i
   ·subst hj
    rw[hi] at e1;cases e1
    rw[vQ hiσ] at e2
    cases e2
    exact⟨u,r,.inr ⟨.inl hk,c,hc,hc'⟩⟩
   ·rw[kW (jN hj)] at e2
    obtain⟨u',r',q⟩:=hl j y v' e1 e2 e3
    refine⟨u',r',?_⟩
    rcases q with q|⟨k,c',e,z'⟩
    ·exact .inl q
    ·refine .inr ⟨k,c',e,z'.sameBut hs ?_⟩
     rintro rfl
     exact hj (Ai hN e1 (I.ok.inj _ _ _ e hc ▸ hi))
  ·by_cases hcc:c'=c
   ·subst hcc;exact⟨_,hc'⟩
   ·obtain⟨w2,z2⟩:=I.cell y c' e
    exact⟨w2,z2.sameBut hs hcc⟩
  ·obtain⟨e,n,ne,nf,d⟩:=I.pin p hp
   refine⟨(hs.2 p.1 ?_).trans e,n,ne,nf,d⟩
   intro q
   rw[q,hoc] at e
   have q':oc=p.2:=xD e
   exact d w' (by rw[<- q'];exact hocd)
theorem AN{M:Model}{A:Around}{E:Value->Shared->Prop}{i:Nat}{x:Str}{v:V}{u:Value}{Q:Unit->Shared->Prop}(I:Inv X pins σ H s)(hN:X.N.Nodup)(hi:X.N[i]?=some x)(hx:Loc X.env.scope x)(r:RelV v u)
  (h:∀s',Inv X pins (σ.set i (some v)) H s'->Q () s') (hf:X.fn x=true\/X.env.scope.names.lookup x=some .local:=by first|exact .inl rfl|exact .inr rfl|assumption):wpAny M A (storeName X.env x u) Q E s :=
 o9 I hN hi hx r (fun s' I' _=>h s' I') hf
theorem Inv.call'{s':Shared}{ch:List Addr}(I:Inv X pins σ H s)(ho:s'.os=s.os)(u:Un (ix X.stack) ch H H' s.heap s'.heap)(hok:oC X.prog X.w H' s'.heap)(hg:AllBare s'.gens)
  (hch:∀b∈ch,(b∈X.ex\/X.s₀.heap.objs.size<=b)/\b≠X.env.locals/\(∀x c,X.env.cells.lookup x=some c->c≠b)/\∀p∈X.pn++pins,p.1≠b):Inv X pins σ H' s':=by
 obtain⟨h',g',d',t',o'⟩:=s'
 have e:o'=s.os:=ho
 subst e
 exact I.call (g':=g') (t':=t') (d':=d') u hok hg hch
end
abbrev XK:=Value->Option Addr->Hp->Prop
abbrev St:=List (Option V)
abbrev VK:=V->Hp->Prop
abbrev TE:=St->Hp->VK->Prop
abbrev TT:=St->Hp->(Bool->Hp->Prop)->Prop
abbrev TA:=St->Hp->(List V->Hp->Prop)->Prop
structure Ends where
 nx:St->Hp->Prop
 rt:VK
 bk:St->Hp->Prop:=fun _ _=>False
 ct:St->Hp->Prop:=fun _ _=>False
abbrev TS:=Ends->St->Hp->Prop
def EP(X:Cx)(pins:List (Addr×Obj))(σ:St)(Q:VK)(u:Value)(s':Shared):Prop:=∃v H',Inv X pins σ H' s'/\RelV v u/\Q v H'
def TP(X:Cx)(pins:List (Addr×Obj))(σ:St)(Q:Bool->Hp->Prop)(b:Bool)(s':Shared):Prop:=∃H',Inv X pins σ H' s'/\Q b H'
def AP(X:Cx)(pins:List (Addr×Obj))(σ:St)(Q:List V->Hp->Prop)(us:List Value)(s':Shared):Prop:=∃vs H',Inv X pins σ H' s'/\aQ vs us/\Q vs H'
def SP(X:Cx)(pins:List (Addr×Obj))(D:Ends)(f:Flow)(s':Shared):Prop :=
 match f with
 | .next=>∃σ' H',Inv X pins σ' H' s'/\D.nx σ' H'
 | .brk=>∃σ' H',Inv X pins σ' H' s'/\D.bk σ' H'
 | .cont=>∃σ' H',Inv X pins σ' H' s'/\D.ct σ' H'
 | .ret u=>∃v σ' H',Inv X pins σ' H' s'/\RelV v u/\D.rt v H'
def PE(X:Cx)(e:Expr)(t:TE):Prop :=
 ∀ (pins:List (Addr×Obj)) (s:Shared) (σ:St) (H:Hp) (Q:VK),Inv X pins σ H s->t σ H Q->wpAny (model X.prog X.w) X.A (eval e X.env) (EP X pins σ Q) X.xe s
def PT(X:Cx)(e:Expr)(t:TT):Prop :=
 ∀ (pins:List (Addr×Obj)) (s:Shared) (σ:St) (H:Hp) (Q:Bool->Hp->Prop),Inv X pins σ H s->t σ H Q->wpAny (model X.prog X.w) X.A (isTrue e X.env (eval e X.env)) (TP X pins σ Q) X.xe s
def PW(X:Cx)(e:Expr)(t:TT):Prop :=
 ∀ (whole:Sem Value) (pins:List (Addr×Obj)) (s:Shared) (σ:St) (H:Hp) (Q:Bool->Hp->Prop),Inv X pins σ H s->t σ H Q->wpAny (model X.prog X.w) X.A (isTrue e X.env whole) (TP X pins σ Q) X.xe s
theorem PW.pt{X:Cx}{e:Expr}{t:TT}(h:PW X e t):PT X e t:=h _
def PA(X:Cx)(es:List Expr)(t:TA):Prop :=
 ∀ (pos:Pos) (pins:List (Addr×Obj)) (s:Shared) (σ:St) (H:Hp) (Q:List V->Hp->Prop),Inv X pins σ H s->t σ H Q->wpAny (model X.prog X.w) X.A (spliced (backTo pos (starEach es X.env))) (AP X pins σ Q) X.xe s
def PS(X:Cx)(st:Stmt)(t:TS):Prop :=
 ∀ (pins:List (Addr×Obj)) (s:Shared) (σ:St) (H:Hp) (D:Ends),Inv X pins σ H s->t D σ H->wpAny (model X.prog X.w) X.A (exec st X.env) (SP X pins D) X.xe s
def yp(X:Cx)(st:List Stmt)(t:TS):Prop :=
 ∀ (pins:List (Addr×Obj)) (s:Shared) (σ:St) (H:Hp) (D:Ends),Inv X pins σ H s->t D σ H->wpAny (model X.prog X.w) X.A (execs st X.env) (SP X pins D) X.xe s
theorem cx{α:Type}{t:Sem α}{Q Q':α->Shared->Prop}{M:Model}{A:Around}{E:Value->Shared->Prop}{s:Shared}(h:wpAny M A t Q E s)(hQ:∀a s,Q a s->Q' a s):wpAny M A t Q' E s:=xA h hQ fun _ _ x=>x
section
variable {X:Cx}
def Rx(i:Nat):TE:=fun σ H Q=>∃v,σ[i]?=some (some v)/\Q v H
def tC(v:V):TE:=fun _ H Q=>Q v H
theorem lL{i:Nat}{x:Str}{pos:Pos}(hN:X.N[i]?=some x)(hv:Lx X.env.scope x)(hd:(x == ("__debug__":Str))=false:=by decide)(hcd:(x == ("__classdict__":Str))=false:=by decide):PE X (.Name x pos) (Rx i):=by
 intro pins s σ H Q I h
 obtain⟨v,e,h⟩:=h
 obtain⟨m,hn,hl⟩:=I.loc
 obtain⟨u,r,l⟩:=hl i x v hN e hv
 have fin:EP X pins σ Q u s:=⟨v,H,I,r,h⟩
 rcases l with ⟨hk,hm⟩|⟨hk,c,hc,hcell⟩
 ·exact wK (wD I.ok.kind hk hn hm fin) hd
 ·rcases hk with hk|hk
  ·exact wK (wpAny_loadName_cell I.ok.kind hk hc hcell fin) hd
  ·exact wK (wpAny_loadName_free I.ok.kind hk hc hcell fin hcd) hd
theorem Gg{i j pos}:PE X (.Constant (.int i) j pos) (tC (.int i)):=fun _ _ _ H _ I h=>wpAny_Constant_int ⟨.int i,H,I.tok _,⟨_,rfl⟩,h⟩
theorem IY{b j pos}:PE X (.Constant (.bool b) j pos) (tC (.bl b)):=fun _ _ _ H _ I h=>Constant_bool ⟨.bl b,H,I,rfl,h⟩
theorem NL{j pos}:PE X (.Constant .none j pos) (tC .non):=fun _ _ _ H _ I h=>Constant_none ⟨.non,H,I,rfl,h⟩
theorem Gc{x j pos}:PE X (.Constant (.str x) j pos) (tC (.str x)):=fun _ _ _ H _ I h=>wR ⟨.str x,H,I.tok _,⟨_,rfl⟩,h⟩
def Gl(X:Cx)(x:Str):Prop:=X.env.kindOf x=some .globalImplicit
theorem ma{E:Value->Shared->Prop}{pins:List (Addr×Obj)}{s:Shared}{σ:St}{H:Hp}{x:Str}{u:Value}{pos:Pos}{Q:Value->Shared->Prop}(I:Inv X pins σ H s)(hg:Gl X x)(hm:X.mg x=some u)(h:Q u s)
  (hd:(x == ("__debug__":Str))=false:=by decide):wpAny (model X.prog X.w) X.A (eval (.Name x pos) X.env) Q E s :=
 Calls.Name_function_global I.ok.kind hg (Calls.loadGlobal_global (by rw[I.ok.glob];exact I.mod.glob.keeps I.bk) hm h) hd
theorem gw{E:Value->Shared->Prop}{pins:List (Addr×Obj)}{s:Shared}{σ:St}{H:Hp}{x:Str}{u:Value}{pos:Pos}{Q:Value->Shared->Prop}(I:Inv X pins σ H s)(hg:Gl X x)(hm:X.mg x=none)(hv:bootBuiltins x=some u)(h:Q u s)
  (hn:x≠"__name__":=by decide) (hd:(x == ("__debug__":Str))=false:=by decide):wpAny (model X.prog X.w) X.A (eval (.Name x pos) X.env) Q E s:=by
 obtain⟨mb,h1,h2⟩:=I.mod.blt
 exact Calls.Name_function_global I.ok.kind hg (Calls.loadGlobal_builtin (by rw[I.ok.glob];exact I.mod.glob.keeps I.bk) hm (by rw[I.ok.blt];exact h1.keeps I.bk) ((h2 x hn).trans hv) h) hd
theorem nh{x:Str}{v:V}{u:Value}{pos:Pos}(hg:Gl X x)(hm:X.mg x=some u)(r:RelV v u)(hd:(x == ("__debug__":Str))=false:=by decide):PE X (.Name x pos) (tC v) :=
 fun _ _ _ H _ I h=>ma I hg hm ⟨v,H,I,r,h⟩ hd
theorem LB{x:Str}{v:V}{u:Value}{pos:Pos}(hg:Gl X x)(hm:X.mg x=none)(hv:bootBuiltins x=some u)(r:RelV v u)(hn:x≠"__name__":=by decide)(hd:(x == ("__debug__":Str))=false:=by decide):PE X (.Name x pos) (tC v) :=
 fun _ _ _ H _ I h=>gw I hg hm hv ⟨v,H,I,r,h⟩ hn hd
variable {a b:Expr}{ta tb:TE}{pos:Pos}
theorem IZ(b:Expr){op:CmpOp}(h:op≠.In)(h2:op≠.NotIn):behindInMarks op b=false:=by
 have e1:(op == CmpOp.In)=false:=by cases op<;>first|rfl|exact absurd rfl h
 have e2:(op == CmpOp.NotIn)=false:=by cases op<;>first|rfl|exact absurd rfl h2
 cases b<;>simp[behindInMarks,e1,e2]
def tB(t:TE):TT:=fun σ H Q=>t σ H fun x H1=>∃c,x=.bl c/\Q c H1
theorem G6{e:Expr}{t:TE}(h:PE X e t)(he:∀whole,isTrue e X.env whole=(do let v <- whole;standAt e.pos;holding [v] (truthy v)):=by intro _;rfl):PT X e (tB t):=by
 intro pins s σ H Q I hw
 refine isTrue_plain (cx (h pins s σ H _ I hw) fun v s1 ⟨x,H1,I1,r1,q1⟩=>?_) (he _)
 obtain⟨d,rfl,q⟩:=q1
 cases r1
 exact xW ⟨H1,I1,q⟩
variable {tA tB':TT}{rest:List Expr}
def RY(t u:TT):TT:=fun σ H Q=>t σ H fun c H1=>if c=true then u σ H1 Q else Q false H1
def Ss(t u:TT):TT:=fun σ H Q=>t σ H fun c H1=>if c=true then Q true H1 else u σ H1 Q
def RS(t:TT):TT:=fun σ H Q=>t σ H fun c H1=>Q (!c) H1
theorem JT(ha:PT X a tA):PW X (.BoolOp .And [a] pos) tA:=by
 intro wh pins s σ H Q I h
 refine isTrue_and (cx (ha pins s σ H Q I h) fun c s1 e=>?_)
 cases c with
 | true=>exact isTrue_and_nil e
 | false=>exact e
theorem HZ(ha:PT X a tA):PW X (.BoolOp .Or [a] pos) tA:=by
 intro wh pins s σ H Q I h
 refine isTrue_or (cx (ha pins s σ H Q I h) fun c s1 e=>?_)
 cases c with
 | false=>exact isTrue_or_nil e
 | true=>exact e
theorem N6(ha:PT X a tA)(hb:PW X (.BoolOp .And (b::rest) pos) tB'):PW X (.BoolOp .And (a::b::rest) pos) (RY tA tB'):=by
 intro wh pins s σ H Q I h
 refine isTrue_and (cx (ha pins s σ H _ I h) fun c s1 ⟨H1,I1,q1⟩=>?_)
 cases c with
 | true=>exact hb wh pins s1 σ H1 Q I1 q1
 | false=>exact⟨H1,I1,q1⟩
theorem Mh(ha:PT X a tA)(hb:PW X (.BoolOp .Or (b::rest) pos) tB'):PW X (.BoolOp .Or (a::b::rest) pos) (Ss tA tB'):=by
 intro wh pins s σ H Q I h
 refine isTrue_or (cx (ha pins s σ H _ I h) fun c s1 ⟨H1,I1,q1⟩=>?_)
 cases c with
 | true=>exact⟨H1,I1,q1⟩
 | false=>exact hb wh pins s1 σ H1 Q I1 q1
theorem Jt(ha:PT X a tA):PT X (.UnaryOp .Not a pos) (RS tA):=by
 intro pins s σ H Q I h
 exact isTrue_not (ha pins s σ H (fun c H1=>Q (!c) H1) I h)
def P7(ta tb:TE):TE:=fun σ H Q=>ta σ H fun x H1=>∃c,x=.bl c/\if c=true then tb σ H1 Q else Q (.bl false) H1
def Rt(ta tb:TE):TE:=fun σ H Q=>ta σ H fun x H1=>∃c,x=.bl c/\if c=true then Q (.bl true) H1 else tb σ H1 Q
def Px(ta:TE):TE:=fun σ H Q=>ta σ H fun x H1=>∃c,x=.bl c/\Q (.bl (!c)) H1
theorem OA{op}{t:TE}(h:PE X a t):PE X (.BoolOp op [a] pos) t:=fun pins s σ H Q I hw=>BoolOp_one (h pins s σ H Q I hw)
theorem Nw(ha:PE X a ta)(hb:PE X (.BoolOp .And (b::rest) pos) tb):PE X (.BoolOp .And (a::b::rest) pos) (P7 ta tb):=by
 intro pins s σ H Q I h
 refine BoolOp_and (cx (ha pins s σ H _ I h) fun v s1 ⟨x,H1,I1,r1,q1⟩=>?_)
 obtain⟨c,rfl,q1⟩:=q1
 cases r1
 refine xW ?_
 cases c with
 | true=>exact hb pins s1 σ H1 Q I1 q1
 | false=>exact⟨.bl false,H1,I1,rfl,q1⟩
theorem Jh(ha:PE X a ta)(hb:PE X (.BoolOp .Or (b::rest) pos) tb):PE X (.BoolOp .Or (a::b::rest) pos) (Rt ta tb):=by
 intro pins s σ H Q I h
 refine BoolOp_or (cx (ha pins s σ H _ I h) fun v s1 ⟨x,H1,I1,r1,q1⟩=>?_)
 obtain⟨c,rfl,q1⟩:=q1
 cases r1
 refine xW ?_
 cases c with
 | false=>exact hb pins s1 σ H1 Q I1 q1
 | true=>exact⟨.bl true,H1,I1,rfl,q1⟩
theorem OQ(ha:PE X a ta):PE X (.UnaryOp .Not a pos) (Px ta):=by
 intro pins s σ H Q I h
 refine UnaryOp_ (cx (ha pins s σ H _ I h) fun v s1 ⟨x,H1,I1,r1,q1⟩=>?_)
 obtain⟨c,rfl,q1⟩:=q1
 cases r1
 exact not_of (xW ⟨.bl (!c),H1,I1,rfl,q1⟩)
def SM(t:TT)(ta tb:TE):TE:=fun σ H Q=>t σ H fun c H1=>if c=true then ta σ H1 Q else tb σ H1 Q
theorem Ak{c:Expr}(hc:PT X c tA)(ha:PE X a ta)(hb:PE X b tb):PE X (.IfExp c a b pos) (SM tA ta tb):=by
 intro pins s σ H Q I h
 refine wpAny_IfExp (cx (hc pins s σ H _ I h) fun d s1 ⟨H1,I1,q1⟩=>?_)
 cases d with
 | true=>exact ha pins s1 σ H1 Q I1 q1
 | false=>exact hb pins s1 σ H1 Q I1 q1
end
def ig(K:W.Frag)(H:Hp)(a:Addr)(xs:List V):Prop :=
 Rd H a (.lst xs) \/
  ∃ (o:Obj) (its:Array Value) (n:Nat),K.lookup a=some o/\o.cls=.type "list"/\o.dict=none/\o.data=.seq its n/\its.size<=sizeLine/\aQ xs its.toList
def iY(K:W.Frag)(H:Hp)(a:Addr)(xs:List V):Prop :=
 Rd H a (.tup xs) \/
  ∃ (o:Obj) (its:Array Value) (n:Nat),K.lookup a=some o/\o.cls=.type "tuple"/\o.dict=none/\o.data=.seq its n/\its.size<=sizeLine/\aQ xs its.toList
def Rl:Value->Option V
 | .none=>some .non
 | .bool b=>some (.bl b)
 | .int i _=>some (.int i)
 | .str x _=>some (.str x)
 | .bytes b _=>some (.byt b)
 | .float b _=>some (.flt b)
 | .ref a=>some (.ref a)
 | .type n=>some (.ty n)
 | _=>none
theorem RelV.abs{x:V}{u:Value}(r:RelV x u):Rl u=some x:=by
 cases x with
 | non=>cases r;rfl
 | bl _=>cases r;rfl
 | int _=>obtain⟨t,rfl⟩:=r;rfl
 | str _=>obtain⟨t,rfl⟩:=r;rfl
 | byt _=>obtain⟨t,rfl⟩:=r;rfl
 | flt _=>obtain⟨t,rfl⟩:=r;rfl
 | ref _=>cases r;rfl
 | ty _=>cases r;rfl
theorem RelV.inj{x y:V}{u:Value}(r:RelV x u)(q:RelV y u):x=y:=xD (r.abs.symm.trans q.abs)
theorem aQ.inj:∀ {xs ys:List V}{us:List Value},aQ xs us->aQ ys us->xs=ys
 | _,_,_,.nil,.nil=>rfl
 | _,_,_,.cons r t,.cons r' t'=>by rw[r.inj r',aQ.inj t t']
section
variable {X:Cx}{pins:List (Addr×Obj)}{σ:St}{H:Hp}{s:Shared}{a:Addr}{xs ys:List V}
theorem ig.of{K:W.Frag}(h:H a=some (.lst xs)):ig K H a xs:=.inl (.inl h)
theorem Inv.list(I:Inv X pins σ H s)(h:ig X.K H a xs):∃its:List Value,aQ xs its/\PlainL s.heap a its.toArray/\xs.length<=sizeLine:=by
 rcases h with h|⟨o,its,n,hk,hc,hd,hs,hz,r⟩
 ·obtain⟨z,its,n,r,e⟩:=h.ok I.hok
  exact⟨its,r,⟨_,n,e,rfl,rfl,rfl⟩,z⟩
 ·refine⟨its.toList,r,⟨o,n,I.kIn a o hk,hc,hd,by simpa using hs⟩,?_⟩
  have e:=r.length
  simp only[wI] at e
  omega
theorem Inv.tuple(I:Inv X pins σ H s)(h:iY X.K H a xs):∃its:List Value,aQ xs its/\IsTup s.heap a its.toArray/\xs.length<=sizeLine:=by
 rcases h with h|⟨o,its,n,hk,hc,_,hs,hz,r⟩
 ·obtain⟨z,its,r,p⟩:=h.ok I.hok
  exact⟨its,r,p.1,z⟩
 ·refine⟨its.toList,r,⟨o,I.kIn a o hk,hc,n,by simpa using hs⟩,?_⟩
  have e:=r.length
  simp only[wI] at e
  omega
theorem Inv.list_inj(I:Inv X pins σ H s)(h:ig X.K H a xs)(h':ig X.K H a ys):xs=ys:=by
 obtain⟨its,r,⟨o,n,e,_,_,d⟩,_⟩:=I.list h
 obtain⟨its',r',⟨o',n',e',_,_,d'⟩,_⟩:=I.list h'
 rw[e] at e';cases e'
 rw[d] at d'
 injection d' with d1 _
 have:its=its':=by simpa using jC Array.toList d1
 subst this
 exact r.inj r'
theorem Inv.tuple_inj(I:Inv X pins σ H s)(h:iY X.K H a xs)(h':iY X.K H a ys):xs=ys:=by
 obtain⟨its,r,⟨o,e,_,n,d⟩,_⟩:=I.tuple h
 obtain⟨its',r',⟨o',e',_,n',d'⟩,_⟩:=I.tuple h'
 rw[e] at e';cases e'
 rw[d] at d'
 injection d' with d1 _
 have:its=its':=by simpa using jC Array.toList d1
 subst this
 exact r.inj r'
end
abbrev Cx.wish(X:Cx)(E:Value->Shared->Prop):Cx:={ X with xe:=E }
abbrev Cx.nox(X:Cx):Cx:=X.wish fun _ _=>False
theorem Cx.Ok.wish{X:Cx}(ok:X.Ok)(E:Value->Shared->Prop):(X.wish E).Ok :=
 ⟨ok.mod,ok.kind,ok.glob,ok.blt,ok.above,ok.inj,ok.has,ok.cab,ok.hd,ok.frames,ok.stk,ok.exf,ok.bs,ok.bsz,ok.noex,ok.exfs,ok.funs,ok.frf⟩
theorem Cx.Ok.unwish{X:Cx}{E:Value->Shared->Prop}(ok:(X.wish E).Ok):X.Ok :=
 ⟨ok.mod,ok.kind,ok.glob,ok.blt,ok.above,ok.inj,ok.has,ok.cab,ok.hd,ok.frames,ok.stk,ok.exf,ok.bs,ok.bsz,ok.noex,ok.exfs,ok.funs,ok.frf⟩
section
variable {X:Cx}{pins:List (Addr×Obj)}{σ:St}{H:Hp}{s:Shared}{E:Value->Shared->Prop}
theorem Inv.wish(I:Inv X pins σ H s)(E:Value->Shared->Prop):Inv (X.wish E) pins σ H s:=⟨I.ok.wish E,I.os,I.bare,I.base,I.loc,I.cell,I.free,I.freeC,I.pin,I.hok,I.len⟩
theorem Inv.unwish(I:Inv (X.wish E) pins σ H s):Inv X pins σ H s:=⟨I.ok.unwish,I.os,I.bare,I.base,I.loc,I.cell,I.free,I.freeC,I.pin,I.hok,I.len⟩
theorem SP.unwish{D:Ends}{f:Flow}{s':Shared}(h:SP (X.wish E) pins D f s'):SP X pins D f s':=by
 cases f with
 | next=>obtain⟨σ',H',I,q⟩:=h;exact⟨σ',H',I.unwish,q⟩
 | brk=>obtain⟨σ',H',I,q⟩:=h;exact⟨σ',H',I.unwish,q⟩
 | cont=>obtain⟨σ',H',I,q⟩:=h;exact⟨σ',H',I.unwish,q⟩
 | ret u=>obtain⟨v,σ',H',I,r,q⟩:=h;exact⟨v,σ',H',I.unwish,r,q⟩
theorem PE.nox{e:Expr}{t:TE}(h:PE X.nox e t):PE X e t:=fun pins s σ H Q I hw =>
 xA (h pins s σ H Q (I.wish _) hw) (fun _ _ ⟨v,H',I',r,q⟩=>⟨v,H',I'.unwish,r,q⟩) fun _ _ z=>False.elim z
theorem PT.nox{e:Expr}{t:TT}(h:PT X.nox e t):PT X e t:=fun pins s σ H Q I hw =>
 xA (h pins s σ H Q (I.wish _) hw) (fun _ _ ⟨H',I',q⟩=>⟨H',I'.unwish,q⟩) fun _ _ z=>False.elim z
theorem yp.nox{st:List Stmt}{t:TS}(h:yp X.nox st t):yp X st t:=fun pins s σ H D I hw =>
 xA (h pins s σ H D (I.wish _) hw) (fun _ _ q=>q.unwish) fun _ _ z=>False.elim z
end
section
variable {X:Cx}{st:Stmt}{rest:List Stmt}{t u:TS}{e:Expr}{te:TE}{pos:Pos}
def Hi:TS:=fun D σ H=>D.nx σ H
def Ru(t u:TS):TS:=fun D σ H=>t { D with nx:=u D } σ H
theorem xl:yp X [] Hi:=fun _ _ σ H _ I h=>vS ⟨σ,H,I,h⟩
theorem iU(h1:PS X st t)(h2:yp X rest u):yp X (st::rest) (Ru t u):=by
 intro pins s σ H D I h
 refine vG (cx (h1 pins s σ H { D with nx:=u D } I h) fun f s1 q=>?_)
 cases f with
 | next =>
  obtain⟨σ',H',I',q⟩:=q
  exact h2 pins s1 σ' H' D I' q
 | ret v=>exact q
 | brk=>exact q
 | cont=>exact q
theorem Km(h1:PS X st t):yp X [st] t:=by
 intro pins s σ H D I h
 refine vG (cx (h1 pins s σ H D I h) fun f s1 q=>?_)
 cases f with
 | next=>exact vS q
 | ret v=>exact q
 | brk=>exact q
 | cont=>exact q
theorem K9:PS X (.Pass pos) Hi:=fun _ _ σ H _ I h=>wpAny_Pass ⟨σ,H,I,h⟩
theorem Inv.quiet{pins:List (Addr×Obj)}{σ:St}{H:Hp}{s:Shared}(I:Inv X pins σ H s):interactive X.env=false:=by simp[interactive,I.ok.kind]
theorem N9{x j pos pos'}:PS X (.Expr (.Constant (.str x) j pos) pos') Hi:=fun _ s σ H _ I h=>wpAny_Expr (wR (show SP X _ _ .next { s with toks:=s.toks+1 } from ⟨σ,H,I.tok _,h⟩)) I.quiet
def Qq(te:TE):TS:=fun D σ H=>te σ H fun _ H1=>D.nx σ H1
theorem nu(he:PE X e te)(hs:swapsWith e none pos.line X.env=pure false:=by rfl):PS X (.Expr e pos) (Qq te):=by
 intro pins s σ H D I h
 exact wpAny_Expr_any (cx (he pins s σ H _ I h) fun v s1 ⟨x,H1,I1,r1,q1⟩=>⟨σ,H1,I1,q1⟩) I.quiet hs
def Q0(te:TE):TS:=fun D σ H=>te σ H D.rt
theorem CJ(he:PE X e te):PS X (.Return (some e) pos) (Q0 te):=by
 intro pins s σ H D I h
 exact wpAny_Return_some (cx (he pins s σ H _ I h) fun v s1 ⟨x,H1,I1,r1,q1⟩=>⟨x,σ,H1,I1,r1,q1⟩)
def Q3(c:TT)(t u:TS):TS:=fun D σ H=>c σ H fun b H1=>if b=true then t D σ H1 else u D σ H1
theorem Ha{c:Expr}{a b:List Stmt}{tc:TT}(hc:PT X c tc)(ha:yp X a t)(hb:yp X b u):PS X (.If c a b pos) (Q3 tc t u):=by
 intro pins s σ H D I h
 refine wpAny_If (cx (hc pins s σ H _ I h) fun d s1 ⟨H1,I1,q1⟩=>?_)
 cases d with
 | true=>exact ha pins s1 σ H1 D I1 q1
 | false=>exact hb pins s1 σ H1 D I1 q1
end
abbrev TG:=V->St->Hp->(St->Hp->Prop)->Prop
abbrev M1:=List V->St->Hp->(St->Hp->Prop)->Prop
def PG(X:Cx)(target:Expr)(t:TG):Prop :=
 ∀ (pins:List (Addr×Obj)) (s:Shared) (σ:St) (H:Hp) (v:V) (u:Value) (Q:St->Hp->Prop),Inv X pins σ H s->RelV v u->t v σ H Q ->
  wpAny (model X.prog X.w) X.A (assign target X.env u) (fun _ s'=>∃σ' H',Inv X pins σ' H' s'/\Q σ' H') X.xe s
def QV(X:Cx)(ts:List Expr)(t:M1):Prop :=
 ∀ (pins:List (Addr×Obj)) (s:Shared) (σ:St) (H:Hp) (vs:List V) (us:List Value) (Q:St->Hp->Prop),Inv X pins σ H s->aQ vs us->t vs σ H Q ->
  wpAny (model X.prog X.w) X.A (assignInOrder ((assignEach ts X.env).map (·.2)) us) (fun _ s'=>∃σ' H',Inv X pins σ' H' s'/\Q σ' H') X.xe s
abbrev M5:=V->V->V->Hp->(Hp->Prop)->Prop
def PZ(X:Cx)(t:M5):Prop :=
 ∀ (pins:List (Addr×Obj)) (s:Shared) (σ:St) (H:Hp) (o i v:V) (ov iv u:Value) (Q:Hp->Prop),Inv X pins σ H s->RelV o ov->RelV i iv->RelV v u->t o i v H Q ->
  wpAny (model X.prog X.w) X.A (setItem ov iv u) (fun _ s'=>∃H',Inv X pins σ H' s'/\Q H') X.xe s
section
variable {X:Cx}{pos:Pos}
def AE(i:Nat):TG:=fun v σ H Q=>Q (σ.set i (some v)) H
theorem dI{i:Nat}{x:Str}(hN:X.N.Nodup)(hi:X.N[i]?=some x)(hx:Loc X.env.scope x)(hf:X.fn x=true\/X.env.scope.names.lookup x=some .local:=by first|exact .inl rfl|exact .inr rfl|assumption):PG X (.Name x pos) (AE i):=by
 intro pins s σ H v u Q I r h
 exact wpAny_assign_Name (AN I hN hi hx r (fun s' I'=>⟨_,H,I',h⟩) hf)
def Rj:M1:=fun vs σ H Q=>vs=[]/\Q σ H
def QE(t:TG)(u:M1):M1:=fun vs σ H Q=>∃v r,vs=v::r/\t v σ H fun σ' H'=>u r σ' H' Q
theorem qr:QV X [] Rj:=by
 intro pins s σ H vs us Q I r h
 obtain⟨e,h⟩:=h
 subst e
 cases r
 exact assignInOrder_nil ⟨σ,H,I,h⟩
theorem dA{e:Expr}{es:List Expr}{t:TG}{u:M1}(h1:PG X e t)(h2:QV X es u)
  (hs:(assignEach (e::es) X.env).map (·.2)=assign e X.env::(assignEach es X.env).map (·.2):=by rfl):QV X (e::es) (QE t u):=by
 intro pins s σ H vs us Q I r h
 obtain⟨v,vr,e1,h⟩:=h
 subst e1
 cases r with
 | cons r rr =>
  rw[hs]
  refine assignInOrder_cons (cx (h1 pins s σ H _ _ _ I r h) fun _ s1 ⟨σ1,H1,I1,q1⟩=>?_)
  exact h2 pins s1 σ1 H1 _ _ Q I1 rr q1
def Rp(K:W.Frag)(n:Nat)(t:M1):TG:=fun v σ H Q=>∃a xs,v=.ref a/\iY K H a xs/\xs.length=n/\t xs σ H Q
theorem xp{es:List Expr}{k:Nat}{t:M1}{n:Nat}(hc:X.calm=true)(h:QV X es t)
  (hn:(assignEach es X.env).length=n:=by rfl) (hst:(assignEach es X.env).findIdx? (·.1)=none:=by rfl):PG X (.Tuple es k pos) (Rp X.K n t):=by
 intro pins s σ H v u Q I r hw
 obtain⟨a,xs,e1,hq,hl,hw⟩:=hw
 subst e1
 cases r
 obtain⟨its,rv,ht,hz⟩:=I.tuple hq
 refine assign_Tuple_tuple (I.ok.hd hc) ht (by simp[hn,<- hl,rv.length]) hst fun h' hx=>?_
 have I1:Inv X pins σ H { s with heap:=h' }:=I.kept (t':=s.toks) fun b o e=>hx b o (yR (zX e)) e
 exact h pins _ σ H xs _ Q I1 (by simpa using rv) hw
def cU(to ti:TE)(t:M5):TG:=fun v σ H Q=>to σ H fun o H1=>ti σ H1 fun i H2=>t o i v H2 fun H3=>Q σ H3
theorem MG{o i:Expr}{to ti:TE}{t:M5}(ho:PE X o to)(hi:PE X i ti)(hs:PZ X t)
  (ha:∀v,assign (.Subscript o i pos) X.env v=(do
   let ov <- holding [v] (eval o X.env)
   let iv <- holding [v,ov] (eval i X.env)
   standAt pos
   holding [v,ov,iv] (setItem ov iv v)
   release [v,ov,iv] []):=by intro _;rfl):PG X (.Subscript o i pos) (cU to ti t):=by
 intro pins s σ H v u Q I r h
 rw[ha]
 refine zU (xX (cx (ho pins s σ H _ I h) fun ov s1 ⟨x,H1,I1,r1,q1⟩=>?_))
 refine zU (xX (cx (hi pins s1 σ H1 _ I1 q1) fun iv s2 ⟨y,H2,I2,r2,q2⟩=>?_))
 refine zU (vE (zU (xX (cx (hs pins s2 σ H2 x y v ov iv u _ I2 r1 r2 r q2) fun _ s3 ⟨H3,I3,q3⟩=>?_))))
 exact wpAny_release ⟨σ,H3,I3,q3⟩
def JI(te:TE)(g:TG):TS:=fun D σ H=>te σ H fun x H1=>g x σ H1 D.nx
theorem HH{tg e:Expr}{te:TE}{g:TG}(he:PE X e te)(hg:PG X tg g)(hs:swapsWithSole [tg] e pos.line X.env=pure false:=by rfl)(hw:swappedStores [tg] e X.env=pure none:=by rfl)
  (h1:(assignEach [tg] X.env).map (·.2)=[assign tg X.env]:=by rfl):PS X (.Assign [tg] e pos) (JI te g):=by
 intro pins s σ H D I h
 refine wpAny_Assign_stores (cx (he pins s σ H _ I h) fun v s1 ⟨x,H1,I1,r1,q1⟩=>?_) hs hw
 rw[h1]
 exact cx (hg pins s1 σ H1 x v _ I1 r1 q1) fun _ s2 q=>q
theorem r9{i:Nat}{x:Str}{e:Expr}{te:TE}{pos':Pos}(hN:X.N.Nodup)(hi:X.N[i]?=some x)(hx:Loc X.env.scope x)(he:PE X e te)(hs:swapsWith e (some (.Name x pos')) pos.line X.env=pure false:=by rfl)(hf:X.fn x=true\/X.env.scope.names.lookup x=some .local:=by first|exact .inl rfl|exact .inr rfl|assumption) :
  PS X (.Assign [.Name x pos'] e pos) (JI te (AE i)):=by
 intro pins s σ H D I h
 refine wpAny_Assign_Name (cx (he pins s σ H _ I h) fun v s1 ⟨y,H1,I1,r1,q1⟩=>?_) hs
 exact AN I1 hN hi hx r1 (fun s2 I2=>⟨_,H1,I2,q1⟩) hf
end
section
variable {X:Cx}{pos:Pos}
def MM(c:TT)(tb:TS):TS:=fun D σ H=>∃W:Nat->St->Hp->Prop,(∃m,W m σ H)/\∀m σ H,W m σ H ->
 c σ H fun b H1=>if b=true then ∃N:St->Hp->Prop,(∀σ' H',N σ' H'->∃m',m' < m/\W m' σ' H')/\tb { D with nx:=N,ct:=N,bk:=D.nx } σ H1 else D.nx σ H1
theorem HR{c:Expr}{body:List Stmt}{tc:TT}{tb:TS}(hp:PassesOwn (model X.prog X.w) X.A X.env X.xe)(hc:PT X c tc)(hb:yp X body tb):PS X (.While c body [] pos) (MM tc tb):=by
 intro pins s σ H D I h
 obtain⟨W,⟨m0,w0⟩,turn⟩:=h
 refine wpAny_While (codeAny_whileLoop (fun n s'=>∃σ' H',Inv X pins σ' H' s'/\W n σ' H') ?_ m0 ⟨σ,H,I,w0⟩)
 rintro n s1 ⟨σ1,H1,I1,w1⟩
 refine jK hp (cx (hc pins s1 σ1 H1 _ I1 (turn n σ1 H1 w1)) fun b s2 ⟨H2,I2,q2⟩=>?_)
 cases b with
 | true =>
  obtain⟨N,hN,q2⟩:=q2
  rw[yL rfl]
  refine jK hp (cx (hb pins s2 σ1 H2 _ I2 q2) fun f s3 q3=>?_)
  cases f with
  | next =>
   obtain⟨σ3,H3,I3,n3⟩:=q3
   obtain⟨m',hm,w3⟩:=hN σ3 H3 n3
   exact⟨m',hm,σ3,H3,I3,w3⟩
  | cont =>
   obtain⟨σ3,H3,I3,n3⟩:=q3
   obtain⟨m',hm,w3⟩:=hN σ3 H3 n3
   exact⟨m',hm,σ3,H3,I3,w3⟩
  | brk=>exact q3
  | ret v=>exact q3
 | false =>
  rw[yN yZ]
  exact vS ⟨σ1,H2,I2,q2⟩
end
structure It where
 go:Nat->Hp->Prop
 yld:Nat->Hp->V->Hp->Prop
 stop:Nat->Hp->Prop
def cJ(X:Cx)(pins:List (Addr×Obj))(H:Hp)(b:Addr):Prop :=
 H b=none/\b≠X.env.locals/\b∉X.fs/\(b∈X.ex\/X.s₀.heap.objs.size<=b)/\(∀x c,X.env.cells.lookup x=some c->c≠b)/\∀p∈X.pn++pins,p.1≠b
theorem Inv.fpOk{X:Cx}{pins:List (Addr×Obj)}{σ:St}{H H':Hp}{s:Shared}{b:Addr}(I:Inv X pins σ H s)(hb:s.heap.objs.size<=b)(hn:H' b=none):cJ X pins H' b:=by
 refine⟨hn,jI (zP I.lt hb),I.nofs hb,.inr (yC I.sz hb),fun x c e z=>?_,fun p hp z=>?_⟩
 ·obtain⟨v,q⟩:=I.cell x c e
  exact absurd (zP q.lt (by rw[z];exact hb)) (qE _)
 ·exact absurd (zP (zX (I.pin p hp).1) (by rw[z];exact hb)) (qE _)
structure Turn(P:Program)(w:World)(K:W.Frag)(tg:Expr)(J:It)(fp:List Addr)(it:Addr)(tn:Nat->Heap->Prop):Prop where
 mem:it∈fp
 obj:∀i h,tn i h->∀b∈fp,∃o,h.get? b=some o/\∀v,o.data≠.cell v
 keep:∀i h h',tn i h->(∀b∈fp,∀o,h.get? b=some o->h'.get? b=some o)->tn i h'
 item:∀ (X:Cx),X.prog=P->X.w=w->X.K=K->X.calm=true->∀ (i:Nat) (pins:List (Addr×Obj)) (s:Shared) (σ:St) (H:Hp) (E:Value->Shared->Prop),Inv X pins σ H s->(∀b∈fp,cJ X pins H b)->tn i s.heap->J.go i H ->
  wpAny (model P w) X.A (pyNext (.ref it)) (fun r s1=>∃u,r=some u /\
   wpAny (model P w) X.A (letOwnedTupleGo tg (.ref it) u) (fun _ s2=>∃x H',Inv X pins σ H' s2/\RelV x u/\J.yld i H x H'/\tn (i+1) s2.heap/\∀b∈fp,H' b=none) E s1) E s
 done:∀ (X:Cx),X.prog=P->X.w=w->X.K=K->X.calm=true->∀ (i:Nat) (pins:List (Addr×Obj)) (s:Shared) (σ:St) (H:Hp) (E:Value->Shared->Prop),Inv X pins σ H s->(∀b∈fp,cJ X pins H b)->tn i s.heap->J.stop i H ->
  wpAny (model P w) X.A (pyNext (.ref it)) (fun r s1=>r=none/\Inv X pins σ H s1) E s
 self:∀ (A:Around) (i:Nat) (s:Shared) (Q:Value->Shared->Prop) (E:Value->Shared->Prop),tn i s.heap->Q (.ref it) s->wpAny (model P w) A (pyIter (.ref it)) Q E s
abbrev TI:=St->Hp->(It->Hp->Prop)->Prop
def Sk(X:Cx)(pins:List (Addr×Obj))(σ:St)(tg:Expr)(R:It->Hp->Prop)(itv:Value)(s2:Shared):Prop :=
 ∃ (it:Addr) (fp:List Addr) (tn:Nat->Heap->Prop) (J:It) (H':Hp),itv=.ref it/\Inv X pins σ H' s2/\Turn X.prog X.w X.K tg J fp it tn/\tn 0 s2.heap/\(∀b∈fp,cJ X pins H' b)/\R J H'
def PI(X:Cx)(tg iter:Expr)(wi:TI):Prop :=
 ∀ (pins:List (Addr×Obj)) (s:Shared) (σ:St) (H:Hp) (R:It->Hp->Prop),Inv X pins σ H s->wi σ H R ->
  wpAny (model X.prog X.w) X.A (eval iter X.env) (fun v s1=>wpAny (model X.prog X.w) X.A (pyIter v) (Sk X pins σ tg R) X.xe s1) X.xe s
theorem Hx{M:Model}{A:Around}{E:Value->Shared->Prop}{s:Shared}{tg:Expr}{it:Addr}{u:Value}{o:Obj}{n:String}{vs:Array Value}{Q:Unit->Shared->Prop}(ho:s.heap.get? it=some o)(hc:o.cls=.type n)(hd:o.data=.fields vs)
  (hn:["enumerate","zip","dict_itemiterator","dict_reverseitemiterator","odict_iterator","itertools.zip_longest","itertools.pairwise"].contains n=false) (hQ:Q () s):wpAny M A (letOwnedTupleGo tg (.ref it) u) Q E s:=by
 unfold letOwnedTupleGo
 cases tg<;>first
  | exact zV hQ
  | (cases u<;>first
    | exact zV hQ
    | (refine zU (wpAny_load ho ?_)
       rw[hc,hd]
       show wpAny M A (if (["enumerate","zip","dict_itemiterator","dict_reverseitemiterator","odict_iterator","itertools.zip_longest","itertools.pairwise"].contains n&&vs[0]? == some (rawInt _))=true then _ else _) Q E s
       rw[yN (by intro h;rw[hn,wC] at h;cases h)]
       exact zV hQ))
def RX(K:W.Frag)(a:Addr):It :=
 ⟨fun i H=>∃xs x,ig K H a xs/\xs[i]?=some x,fun i H x H'=>H'=H/\∀xs,ig K H a xs->xs[i]?=some x,fun i H=>∃xs,ig K H a xs/\xs.length<=i⟩
def RG(K:W.Frag)(a:Addr):It :=
 ⟨fun i H=>∃xs x,iY K H a xs/\xs[i]?=some x,fun i H x H'=>H'=H/\∀xs,iY K H a xs->xs[i]?=some x,fun i H=>∃xs,iY K H a xs/\xs.length<=i⟩
def QQ(lo:Int)(n:Nat):It:=⟨fun i _=>i < n,fun i H x H'=>H'=H/\x=.int (lo+i),fun i _=>n<=i⟩
theorem Fn{P:Program}{w:World}{K:W.Frag}{tg:Expr}(a it:Addr):Turn P w K tg (RX K a) [it] it (fun i h=>h.IsListIter it a i) where
 mem:=by simp
 obj:=fun i h st b hb=>by
  have e:b=it:=by simpa using hb
  subst e
  obtain⟨o,e,c,d⟩:=st
  exact⟨o,e,fun v z=>by rw[d] at z;cases z⟩
 keep:=fun i h h' st k=>st.at fun o e=>k it (by simp) o e
 item:=by
  intro X hP hw hK hc i pins s σ H E I hf st hg
  subst hP hw hK
  obtain⟨xs,x,hq,hx⟩:=hg
  obtain⟨its,rv,p,hz⟩:=I.list hq
  obtain⟨u,hu,ru⟩:=rv.get hx
  obtain⟨f0,f1,f2,f3,f4,f5⟩:=hf it (by simp)
  refine wpAny_pyNext_list_item st p.isList (x:=u) (by simpa using hu) fun h' st' sb=>?_
  have I1:Inv X pins σ H { s with heap:=h' }:=I.turned (t':=s.toks) (fun b o hb e=>(sb.2 b hb).trans e) f0 f1 f3 f4 f5
  obtain⟨o,e,c,d⟩:=id st'
  exact⟨u,rfl,Hx (s:={ s with heap:=h' }) e c d (by decide) ⟨x,H,I1,ru,⟨rfl,fun ys hy=>by rw[I.list_inj hy hq];exact hx⟩,st',fun b hb=>(hf b hb).1⟩⟩
 done:=by
  intro X hP hw hK hc i pins s σ H E I hf st hg
  subst hP hw hK
  obtain⟨xs,hq,hx⟩:=hg
  obtain⟨its,rv,p,hz⟩:=I.list hq
  obtain⟨f0,f1,f2,f3,f4,f5⟩:=hf it (by simp)
  have hl:=rv.length
  exact wpAny_pyNext_list_end (I.ok.hd hc) st p.isList (by simp;omega) fun h' eb=>⟨rfl,I.turned (t':=s.toks) (fun b o hb e=>eb b o hb e) f0 f1 f3 f4 f5⟩
 self:=fun _ _ _ _ _ st h=>wpAny_pyIter_listiter st h
theorem Ck{P:Program}{w:World}{K:W.Frag}{tg:Expr}(a it:Addr):Turn P w K tg (RG K a) [it] it (fun i h=>h.IsTupleIter it a i) where
 mem:=by simp
 obj:=fun i h st b hb=>by
  have e:b=it:=by simpa using hb
  subst e
  obtain⟨o,e,c,d⟩:=st
  exact⟨o,e,fun v z=>by rw[d] at z;cases z⟩
 keep:=fun i h h' st k=>st.at fun o e=>k it (by simp) o e
 item:=by
  intro X hP hw hK hc i pins s σ H E I hf st hg
  subst hP hw hK
  obtain⟨xs,x,hq,hx⟩:=hg
  obtain⟨its,rv,p,hz⟩:=I.tuple hq
  obtain⟨u,hu,ru⟩:=rv.get hx
  obtain⟨f0,f1,f2,f3,f4,f5⟩:=hf it (by simp)
  refine wpAny_pyNext_tuple_item st (show s.heap.IsTuple a its.toArray from p) (x:=u) (by simpa using hu) fun h' st' sb=>?_
  have I1:Inv X pins σ H { s with heap:=h' }:=I.turned (t':=s.toks) (fun b o hb e=>(sb.2 b hb).trans e) f0 f1 f3 f4 f5
  obtain⟨o,e,c,d⟩:=id st'
  exact⟨u,rfl,Hx (s:={ s with heap:=h' }) e c d (by decide) ⟨x,H,I1,ru,⟨rfl,fun ys hy=>by rw[I.tuple_inj hy hq];exact hx⟩,st',fun b hb=>(hf b hb).1⟩⟩
 done:=by
  intro X hP hw hK hc i pins s σ H E I hf st hg
  subst hP hw hK
  obtain⟨xs,hq,hx⟩:=hg
  obtain⟨its,rv,p,hz⟩:=I.tuple hq
  obtain⟨f0,f1,f2,f3,f4,f5⟩:=hf it (by simp)
  have hl:=rv.length
  exact wpAny_pyNext_tuple_end (I.ok.hd hc) st (show s.heap.IsTuple a its.toArray from p) (by simp;omega) fun h' eb=>⟨rfl,I.turned (t':=s.toks) (fun b o hb e=>eb b o hb e) f0 f1 f3 f4 f5⟩
 self:=fun _ _ _ _ _ st h=>wpAny_pyIter_tupleiter st h
theorem B5{P:Program}{w:World}{K:W.Frag}{tg:Expr}(it:Addr)(lo:Int)(n:Nat):Turn P w K tg (QQ lo n) [it] it (fun i h=>IsRangeIter h it (lo+(i:Nat) * 1) ((n:Int) - (i:Nat)) 1) where
 mem:=by simp
 obj:=fun i h st b hb=>by
  have e:b=it:=by simpa using hb
  subst e
  exact⟨_,st,fun v z=>by
   have z':Data.fields _=Data.cell v:=z
   cases z'⟩
 keep:=fun i h h' st k=>k it (by simp) _ st
 item:=by
  intro X hP hw hK hc i pins s σ H E I hf st hg
  subst hP hw hK
  obtain⟨f0,f1,f2,f3,f4,f5⟩:=hf it (by simp)
  have W:=Walks.range (prog:=X.prog) (w:=X.w) (I.ok.hd hc) it lo 1 n
  refine W.item i s _ _ hg st fun v h' tk hv st' kk=>?_
  obtain⟨t,rfl⟩:=hv
  have I1:Inv X pins σ H { s with heap:=h',toks:=tk }:=I.turned (fun b o hb e=>kk b o (by simpa using hb) e) f0 f1 f3 f4 f5
  refine⟨_,rfl,Hx (s:={ s with heap:=h',toks:=tk }) (n:="range_iterator") st' rfl rfl (by decide) ⟨.int (lo+i),H,I1,⟨t,?_⟩,⟨rfl,rfl⟩,st',fun b hb=>(hf b hb).1⟩⟩
  rw[Int.mul_one]
 done:=by
  intro X hP hw hK hc i pins s σ H E I hf st hg
  subst hP hw hK
  obtain⟨f0,f1,f2,f3,f4,f5⟩:=hf it (by simp)
  exact wpAny_pyNext_range_end (I.ok.hd hc) st (by have:n<=i:=hg;omega) fun h' eb=>⟨rfl,I.turned (t':=s.toks) (fun b o hb e=>eb b o hb e) f0 f1 f3 f4 f5⟩
 self:=fun _ _ _ _ _ st h=>wpAny_pyIter_rangeiter st h
section
variable {X:Cx}{tg:Expr}
theorem Jm{pins:List (Addr×Obj)}{σ:St}{H:Hp}{s:Shared}{R:It->Hp->Prop}{E:Value->Shared->Prop}{lo hi:Int}{t u v:Tok}{tk:Nat}(I:Inv X pins σ H s)(h1:-(2 ^ 62)<=lo)(h2:lo < 2 ^ 62)(h3:-(2 ^ 62)<=hi)(h4:hi < 2 ^ 62)
  (q:R (QQ lo (hi - lo).toNat) H):wpAny (model X.prog X.w) X.A (pyIter (.ref s.heap.objs.size)) (Sk X pins σ tg R) E { s with heap:=s.heap.push { cls:=.type "range",data:=.fields #[.int lo t,.int hi u,.int 1 v] },toks:=tk }:=by
 refine wpAny_pyIter_range (IsRange.new ..) (small_one h1 h2 h3 h4) ?_
 have I1:Inv X pins σ H { s with heap:=s.heap.push { cls:=.type "range",data:=.fields #[.int lo t,.int hi u,.int 1 v] },toks:=tk }:=I.kept fun b o e=>zT _ e
 refine⟨(s.heap.push { cls:=.type "range",data:=.fields #[.int lo t,.int hi u,.int 1 v] }).objs.size,[(s.heap.push { cls:=.type "range",data:=.fields #[.int lo t,.int hi u,.int 1 v] }).objs.size],_,_,H,rfl,
  I1.kept (t':=tk) fun b o e=>zT _ e,B5 _ lo (hi - lo).toNat,?_,fun b hb=>?_,q⟩
 ·have e1:lo+((0:Nat):Int) * 1=lo:=by simp
  have e2:(((hi - lo).toNat:Nat):Int) - ((0:Nat):Int)=Builtin.Range.rangeSize lo hi 1:=by rw[rangeSize_one];split<;>omega
  show IsRangeIter _ _ (lo+((0:Nat):Int) * 1) ((((hi - lo).toNat:Nat):Int) - ((0:Nat):Int)) 1
  rw[e1,e2]
  exact zW _ rfl
 ·have e:b=(s.heap.push { cls:=.type "range",data:=.fields #[.int lo t,.int hi u,.int 1 v] }).objs.size:=by simpa using hb
  subst e
  exact I1.fpOk (yM _) (I1.hok.fresh (yM _))
def PP(ta:TA):TI:=fun σ H R=>ta σ H fun vs H1=>∃j:Int,vs=[.int j]/\-(2 ^ 62)<=j/\j < 2 ^ 62/\R (QQ 0 j.toNat) H1
theorem Fm{a:Expr}{ta:TA}{p pos:Pos}(hg:Gl X "range")(hm:X.mg "range"=none)(ha:PA X [a] ta)(hs:starEach [a] X.env=[(false,eval a X.env)]:=by rfl):PI X tg (.Call (.Name "range" p) [a] [] pos) (PP ta):=by
 intro pins s σ H R I h
 refine Call_ (gw I hg hm boot_range (qS (cx (ha pos pins s σ H _ I h) fun us s1 ⟨vs,H1,I1,r1,q1⟩=>?_) hs rfl))
 obtain⟨j,e,q1,q2,q⟩:=q1
 subst e
 cases r1 with
 | cons r rr =>
  cases rr
  obtain⟨t,rfl⟩:=r
  exact call_range_1 (Jm I1 (by omega) (by omega) q1 q2 (by simpa using q))
def Ry(wi:TI)(g:TG)(tb:TS):TS:=fun D σ H=>wi σ H fun J H1=>∃W:Nat->Nat->St->Hp->Prop,(∃m,W 0 m σ H1)/\∀i m σ H,W i m σ H ->
 (J.stop i H/\D.nx σ H)\/(J.go i H/\∃N:St->Hp->Prop,(∀σ' H',N σ' H'->∃m',m' < m/\W (i+1) m' σ' H')/\∀x H',J.yld i H x H'->g x σ H' fun σ2 H2=>tb { D with nx:=N,ct:=N,bk:=D.nx } σ2 H2)
def o8(fp:List Addr)(h:Heap):List (Addr×Obj):=fp.filterMap fun b=>(h.get? b).map fun o=>(b,o)
theorem dO{fp:List Addr}{h:Heap}{b:Addr}{o:Obj}(hb:b∈fp)(e:h.get? b=some o):(b,o)∈o8 fp h:=List.mem_filterMap.mpr ⟨b,hb,by rw[e];rfl⟩
theorem ER{fp:List Addr}{h:Heap}{p:Addr×Obj}(hp:p∈o8 fp h):p.1∈fp/\h.get? p.1=some p.2:=by
 obtain⟨b,hb,e⟩:=List.mem_filterMap.mp hp
 cases q:h.get? b with
 | none=>rw[q] at e;cases e
 | some o =>
  rw[q] at e
  have e':(b,o)=p:=xD e
  subst e'
  exact⟨hb,q⟩
theorem Inv.pinned{pins:List (Addr×Obj)}{σ:St}{H:Hp}{s:Shared}{fp:List Addr}(I:Inv X pins σ H s)(hf:∀b∈fp,cJ X pins H b)(ho:∀b∈fp,∃o,s.heap.get? b=some o/\∀v,o.data≠.cell v):Inv X (pins++o8 fp s.heap) σ H s :=
 I.pins_of fun p hp=>(List.mem_append.mp hp).elim (fun z=>I.pin p (yD _ z)) fun z=>by
  obtain⟨hb,e⟩:=ER z
  obtain⟨f0,f1,f2,_⟩:=hf p.1 hb
  obtain⟨o,e',d⟩:=ho p.1 hb
  rw[e] at e';cases e'
  exact⟨e,f0,f1,f2,d⟩
theorem Inv.unpinned{pins pl:List (Addr×Obj)}{σ:St}{H:Hp}{s:Shared}(I:Inv X (pins++pl) σ H s):Inv X pins σ H s:=I.pins_of fun p hp=>I.pin p (yD _ (qJ _ hp))
theorem OK{iter:Expr}{body:List Stmt}{wi:TI}{g:TG}{tb:TS}{pos:Pos}(hp:PassesOwn (model X.prog X.w) X.A X.env X.xe)(hc:X.calm=true)(hi:PI X tg iter wi)(hg:PG X tg g)(hb:yp X body tb)
  (hs:∀x,foldedSetIterable iter X.env x=pure x:=by intro _;rfl):PS X (.For tg iter body [] pos) (Ry wi g tb):=by
 intro pins s σ H D I h
 refine wpAny_For (cx (hi pins s σ H _ I h) fun v s1 h1=>cx h1 fun itv s2 h2=>?_) hs
 obtain⟨it,fp,tn,J,H2,e,I2,T,st2,f2,W,⟨m0,w0⟩,turn⟩:=h2
 subst e
 have stat:∀ {H':Hp},(∀b∈fp,H' b=none)->∀b∈fp,cJ X pins H' b:=fun hn b hb=>⟨hn b hb,(f2 b hb).2⟩
 refine codeAny_forLoop_any (fun n s'=>∃i σ' H',Inv X pins σ' H' s'/\tn i s'.heap/\(∀b∈fp,H' b=none)/\W i n σ' H') ?_ m0 ⟨0,σ,H2,I2,st2,fun b hb=>(f2 b hb).1,w0⟩
 rintro n s3 ⟨i,σ3,H3,I3,st3,fr3,w3⟩
 rcases turn i n σ3 H3 w3 with ⟨stop,qn⟩|⟨go,N,hN,step⟩
 ·refine jK hp (cx (T.done X rfl rfl rfl hc i pins s3 σ3 H3 X.xe I3 (stat fr3) st3 stop) fun r s4 ⟨hr,I4⟩=>?_)
  subst hr
  exact vS ⟨σ3,H3,I4,qn⟩
 ·refine jK hp (cx (T.item X rfl rfl rfl hc i pins s3 σ3 H3 X.xe I3 (stat fr3) st3 go) fun r s4 ⟨u,hr,h4⟩=>?_)
  subst hr
  refine jK hp (cx h4 fun _ s5 ⟨x,H5,I5,r5,y5,st5,fr5⟩=>?_)
  have I5':=I5.pinned (stat fr5) (T.obj _ _ st5)
  refine jK hp (cx (hg _ s5 σ3 H5 x u _ I5' r5 (step x H5 y5)) fun _ s6 ⟨σ6,H6,I6,q6⟩=>?_)
  refine jK hp (cx (hb _ s6 σ6 H6 _ I6 q6) fun f s7 q7=>?_)
  have again:∀ {σ7:St}{H7:Hp},Inv X (pins++o8 fp s5.heap) σ7 H7 s7->N σ7 H7->∃m,m < n/\∃i σ' H',Inv X pins σ' H' s7/\tn i s7.heap/\(∀b∈fp,H' b=none)/\W i m σ' H':=fun {σ7 H7} I7 n7=>by
   obtain⟨m',hm,w7⟩:=hN σ7 H7 n7
   refine⟨m',hm,i+1,σ7,H7,I7.unpinned,T.keep _ _ _ st5 fun b hb o e=>(I7.pin (b,o) (yD _ (yD _ (dO hb e)))).1,fun b hb=>?_,w7⟩
   obtain⟨o,e,d⟩:=T.obj _ _ st5 b hb
   exact (I7.pin (b,o) (yD _ (yD _ (dO hb e)))).2.1
  cases f with
  | next=>obtain⟨σ7,H7,I7,n7⟩:=q7;exact again I7 n7
  | cont=>obtain⟨σ7,H7,I7,n7⟩:=q7;exact again I7 n7
  | brk=>obtain⟨σ7,H7,I7,q7⟩:=q7;exact⟨σ7,H7,I7.unpinned,q7⟩
  | ret v=>obtain⟨x7,σ7,H7,I7,r7,q7⟩:=q7;exact⟨x7,σ7,H7,I7.unpinned,r7,q7⟩
end
abbrev R2:=V->V->Hp->VK->Prop
def iw(X:Cx)(f:Value->Value->Sem Value)(r:R2):Prop :=
 ∀ (pins:List (Addr×Obj)) (s:Shared) (σ:St) (H:Hp) (x y:V) (v u:Value) (Q:VK),Inv X pins σ H s->RelV x v->RelV y u->r x y H Q ->
  wpAny (model X.prog X.w) X.A (f v u) (EP X pins σ Q) X.xe s
def Rr(X:Cx)(f:Value->Sem Value)(r:V->Hp->VK->Prop):Prop :=
 ∀ (pins:List (Addr×Obj)) (s:Shared) (σ:St) (H:Hp) (x:V) (v:Value) (Q:VK),Inv X pins σ H s->RelV x v->r x H Q ->
  wpAny (model X.prog X.w) X.A (f v) (EP X pins σ Q) X.xe s
def eK(X:Cx)(f:Value)(r:List V->Hp->VK->Prop):Prop :=
 ∀ (pins:List (Addr×Obj)) (s:Shared) (σ:St) (H:Hp) (xs:List V) (us:List Value) (Q:VK),Inv X pins σ H s->aQ xs us->r xs H Q ->
  wpAny (model X.prog X.w) X.A (call f us) (EP X pins σ Q) X.xe s
def QD(r:R2)(ta tb:TE):TE:=fun σ H Q=>ta σ H fun x H1=>tb σ H1 fun y H2=>r x y H2 Q
def SB(r:V->Hp->VK->Prop)(ta:TE):TE:=fun σ H Q=>ta σ H fun x H1=>r x H1 Q
def rI(C:Int->Int->Prop)(g:Int->Int->V):R2:=fun x y H Q=>∃i j,x=.int i/\y=.int j/\C i j/\Q (g i j) H
def JP(g:Int->Int->V):R2:=fun x y H Q=>∃i j,x=.int i/\y=.int j/\Q (g i j) H
def rU(g:Int->V):V->Hp->VK->Prop:=fun x H Q=>∃i,x=.int i/\Q (g i) H
section
variable {X:Cx}{a b c:Expr}{ta tb tc:TE}{pos:Pos}
theorem MP(ha:PE X a ta)(hb:PE X b tb){pins:List (Addr×Obj)}{s:Shared}{σ:St}{H:Hp}{R:V->V->Hp->Prop}(I:Inv X pins σ H s)
  (h:ta σ H fun x H1=>tb σ H1 fun y H2=>R x y H2) {Q:Value->Shared->Prop}{f:Value->Value->Sem Value}
  (hf:∀v u s2 x y H2,Inv X pins σ H2 s2->RelV x v->RelV y u->R x y H2->wpAny (model X.prog X.w) X.A (f v u) Q X.xe s2) :
  wpAny (model X.prog X.w) X.A (eval a X.env) (fun v s₁=>wpAny (model X.prog X.w) X.A (eval b X.env) (fun u s₂=>wpAny (model X.prog X.w) X.A (f v u) Q X.xe s₂) X.xe s₁) X.xe s:=by
 refine cx (ha pins s σ H _ I h) fun v s1 ⟨x,H1,I1,r1,q1⟩=>?_
 refine cx (hb pins s1 σ H1 _ I1 q1) fun u s2 ⟨y,H2,I2,r2,q2⟩=>?_
 exact hf v u s2 x y H2 I2 r1 r2 q2
theorem C9{op:Operator}{r:R2}(ho:iw X (binaryOp op) r)(ha:PE X a ta)(hb:PE X b tb):PE X (.BinOp a op b pos) (QD r ta tb):=by
 intro pins s σ H Q I h
 exact wpAny_BinOp (MP ha hb I h fun v u s2 x y H2 I2 rx ry q=>ho pins s2 σ H2 x y v u Q I2 rx ry q)
theorem Ph{op:UnaryOp}{r:V->Hp->VK->Prop}(ho:Rr X (unaryOp op) r)(ha:PE X a ta):PE X (.UnaryOp op a pos) (SB r ta):=by
 intro pins s σ H Q I h
 exact UnaryOp_ (cx (ha pins s σ H _ I h) fun v s1 ⟨x,H1,I1,r1,q1⟩=>ho pins s1 σ H1 x v Q I1 r1 q1)
theorem Q2{f:Value->Value->Sem Value}{C:Int->Int->Prop}{g:Int->Int->Int}
  (rule:∀ (i j:Int) (t u:Tok) (s:Shared) (Q:Value->Shared->Prop) (E:Value->Shared->Prop),C i j->Q (.int (g i j) s.toks) { s with toks:=s.toks+1 }->wpAny (model X.prog X.w) X.A (f (.int i t) (.int j u)) Q E s) :
  iw X f (rI C fun i j=>.int (g i j)):=by
 intro pins s σ H x y v u Q I rx ry h
 obtain⟨i,j,rfl,rfl,hc,q⟩:=h
 obtain⟨t,rfl⟩:=rx
 obtain⟨t',rfl⟩:=ry
 exact rule i j t t' s _ _ hc ⟨.int (g i j),H,I.tok _,⟨_,rfl⟩,q⟩
theorem P4{f:Value->Value->Sem Value}{g:Int->Int->Int}
  (rule:∀ (i j:Int) (t u:Tok) (s:Shared) (Q:Value->Shared->Prop) (E:Value->Shared->Prop),Q (.int (g i j) s.toks) { s with toks:=s.toks+1 }->wpAny (model X.prog X.w) X.A (f (.int i t) (.int j u)) Q E s) :
  iw X f (JP fun i j=>.int (g i j)):=by
 intro pins s σ H x y v u Q I rx ry h
 obtain⟨i,j,rfl,rfl,q⟩:=h
 obtain⟨t,rfl⟩:=rx
 obtain⟨t',rfl⟩:=ry
 exact rule i j t t' s _ _ ⟨.int (g i j),H,I.tok _,⟨_,rfl⟩,q⟩
theorem Kr{f:Value->Value->Sem Value}{g:Int->Int->Bool}
  (rule:∀ (i j:Int) (t u:Tok) (s:Shared) (Q:Value->Shared->Prop) (E:Value->Shared->Prop),Q (.bool (g i j)) s->wpAny (model X.prog X.w) X.A (f (.int i t) (.int j u)) Q E s) :
  iw X f (JP fun i j=>.bl (g i j)):=by
 intro pins s σ H x y v u Q I rx ry h
 obtain⟨i,j,rfl,rfl,q⟩:=h
 obtain⟨t,rfl⟩:=rx
 obtain⟨t',rfl⟩:=ry
 exact rule i j t t' s _ _ ⟨.bl (g i j),H,I,rfl,q⟩
def JZ(i j:Int):Prop:=0 < j/\j < 1073741824
def tZ(i j:Int):Prop:=(-(2 ^ 64) < i/\i < 2 ^ 64)\/(-(2 ^ 64) < j/\j < 2 ^ 64)
theorem tZ.ok{i j:Int}(h:tZ i j):IntMulOk i j:=by
 rcases h with ⟨h1,h2⟩|⟨h1,h2⟩
 ·exact .of_left (intBits_le_64 h1 h2)
 ·exact .of_right (intBits_le_64 h1 h2)
theorem MV:iw X (binaryOp .Add) (JP fun i j=>.int (i+j)):=P4 fun _ _ _ _ _ _ _ q=>add_int q
theorem N8:iw X (binaryOp .Sub) (JP fun i j=>.int (i - j)):=P4 fun _ _ _ _ _ _ _ q=>sub_int q
theorem Oq:iw X (binaryOp .Mult) (rI tZ fun i j=>.int (i * j)):=Q2 fun _ _ _ _ _ _ _ hc q=>mul_int q hc.ok
theorem Ls:iw X (binaryOp .FloorDiv) (rI JZ fun i j=>.int (i / j)):=Q2 fun i j _ _ _ _ _ hc q=>by
 have h1:(0:Int) < j:=hc.1
 have h2:j < 1073741824:=hc.2
 exact floordiv_int (by omega) (by rw[Int.fdiv_eq_ediv_of_nonneg i (by omega)];exact q) (.inl (PyProof.noPylong_small (by omega)))
theorem ML:iw X (binaryOp .Mod) (rI (fun _ j=>0 < j) fun i j=>.int (i % j)):=Q2 fun i j _ _ _ _ _ hc q=>by
 have h1:(0:Int) < j:=hc
 exact mod_int' (by omega) (by rw[Int.fmod_eq_emod_of_nonneg i (by omega)];exact q)
theorem SG{f:Value->Sem Value}{g:Int->Int}
  (rule:∀ (i:Int) (t:Tok) (s:Shared) (Q:Value->Shared->Prop) (E:Value->Shared->Prop),Q (.int (g i) s.toks) { s with toks:=s.toks+1 }->wpAny (model X.prog X.w) X.A (f (.int i t)) Q E s) :
  Rr X f (rU fun i=>.int (g i)):=by
 intro pins s σ H x v Q I rx h
 obtain⟨i,rfl,q⟩:=h
 obtain⟨t,rfl⟩:=rx
 exact rule i t s _ _ ⟨.int (g i),H,I.tok _,⟨_,rfl⟩,q⟩
theorem N3:Rr X (unaryOp .USub) (rU fun i=>.int (-i)):=SG fun _ _ _ _ _ q=>neg_int q
end
def pV:V->V->Bool
 | .non,.non=>true|.non,.int _=>true|.int _,.non=>true|.non,.bl _=>true|.bl _,.non=>true|.non,.str _=>true|.str _,.non=>true
 | .int _,.int _=>true|.bl _,.bl _=>true|.str _,.str _=>true|.byt _,.byt _=>true
 | .int _,.str _=>true|.str _,.int _=>true|.bl _,.str _=>true|.str _,.bl _=>true
 | _,_=>false
def Sq:R2:=fun x y H Q=>pV x y=true/\Q (.bl (!decide (x=y))) H
theorem J1{i j:Int}:decide (V.int i=V.int j)=(i == j):=by
 rw[kY]
 simp
theorem OD{i j:Bool}:decide (V.bl i=V.bl j)=(i == j):=by
 rw[kY]
 simp
theorem K3{i j:Str}:decide (V.str i=V.str j)=(i == j):=by
 rw[kY]
 simp
theorem Ka{i j:Array UInt8}:decide (V.byt i=V.byt j)=(i.toList == j.toList):=by
 rw[kY]
 cases i
 cases j
 simp
section
variable {X:Cx}{a b c:Expr}{ta tb tc:TE}{pos:Pos}
theorem cZ{pins:List (Addr×Obj)}{σ:St}{H:Hp}{s:Shared}{Q:VK}{k k':Bool}(I:Inv X pins σ H s)(q:Q (.bl k) H)(e:k=k'):EP X pins σ Q (.bool k') s:=by
 subst e
 exact⟨.bl k,H,I,rfl,q⟩
theorem Qr:iw X (compareOp .NotEq) Sq:=by
 intro pins s σ H x y v u Q I rx ry h
 obtain⟨hs,q⟩:=h
 cases x with
 | non =>
  cases rx
  cases y with
  | non=>cases ry;exact PySem.EqNone.ne_none_none (cZ I q (by simp))
  | bl j=>cases ry;exact PySem.EqNone.ne_none_bool (cZ I q (by simp))
  | int j=>obtain⟨t',rfl⟩:=ry;exact PySem.EqNone.ne_none_int (cZ I q (by simp))
  | str j=>obtain⟨t',rfl⟩:=ry;exact PySem.EqNone.ne_none_str (cZ I q (by simp))
  | _=>exact absurd (show false=true from hs) yZ
 | bl i =>
  cases rx
  cases y with
  | non=>cases ry;exact PySem.EqNone.ne_bool_none (cZ I q (by simp))
  | bl j=>cases ry;exact ne_bool (cZ I q (jC not OD))
  | str j=>obtain⟨t',rfl⟩:=ry;exact PySem.EqMixed.ne_bool_str (cZ I q (by simp))
  | _=>exact absurd (show false=true from hs) yZ
 | int i =>
  obtain⟨t,rfl⟩:=rx
  cases y with
  | non=>cases ry;exact PySem.EqNone.ne_int_none (cZ I q (by simp))
  | int j=>obtain⟨t',rfl⟩:=ry;exact ne_int (cZ I q (jC not J1))
  | str j=>obtain⟨t',rfl⟩:=ry;exact PySem.EqMixed.ne_int_str (cZ I q (by simp))
  | _=>exact absurd (show false=true from hs) yZ
 | str i =>
  obtain⟨t,rfl⟩:=rx
  cases y with
  | non=>cases ry;exact PySem.EqNone.ne_str_none (cZ I q (by simp))
  | bl j=>cases ry;exact PySem.EqMixed.ne_str_bool (cZ I q (by simp))
  | int j=>obtain⟨t',rfl⟩:=ry;exact PySem.EqMixed.ne_str_int (cZ I q (by simp))
  | str j=>obtain⟨t',rfl⟩:=ry;exact ne_str (cZ I q (jC not K3))
  | _=>exact absurd (show false=true from hs) yZ
 | byt i =>
  obtain⟨t,rfl⟩:=rx
  cases y with
  | byt j=>obtain⟨t',rfl⟩:=ry;exact W.ne_bytes (cZ I q (jC not Ka))
  | _=>exact absurd (show false=true from hs) yZ
 | _=>cases y<;>exact absurd (show false=true from hs) yZ
theorem IG:iw X (compareOp .Lt) (JP fun i j=>.bl (decide (i < j))):=Kr fun _ _ _ _ _ _ _ q=>lt_int q
theorem HQ:iw X (compareOp .LtE) (JP fun i j=>.bl (decide (i<=j))):=Kr fun _ _ _ _ _ _ _ q=>le_int q
theorem Mc:iw X (compareOp .Gt) (JP fun i j=>.bl (decide (j < i))):=Kr fun _ _ _ _ _ _ _ q=>gt_int q
theorem L5:iw X (compareOp .GtE) (JP fun i j=>.bl (decide (j<=i))):=Kr fun _ _ _ _ _ _ _ q=>ge_int q
theorem JK:iw X (compareOp .Is) (fun x y H Q=>y=.non/\Q (.bl (decide (x=.non))) H):=by
 intro pins s σ H x y v u Q I rx ry h
 obtain⟨rfl,q⟩:=h
 cases ry
 refine is_none_gen (cZ I q ?_)
 cases x<;>first
  | (cases rx;rfl)
  | (obtain⟨t,rfl⟩:=rx;rfl)
theorem DN:iw X (compareOp .IsNot) (fun x y H Q=>y=.non/\Q (.bl (!decide (x=.non))) H):=by
 intro pins s σ H x y v u Q I rx ry h
 obtain⟨rfl,q⟩:=h
 cases ry
 refine isnot_none_gen (cZ I q ?_)
 cases x<;>first
  | (cases rx;rfl)
  | (obtain⟨t,rfl⟩:=rx;rfl)
def isObj:HO->Bool
 | .lst _=>true
 | .ins _ _ _=>true
 | _=>false
theorem uu{pins:List (Addr×Obj)}{s:Shared}{σ:St}{H:Hp}{a:Addr}{o:HO}(I:Inv X pins σ H s)(h:H a=some o)(p:isObj o=true):∃ob,s.heap.get? a=some ob/\ob.cls≠.type "tuple":=by
 cases o with
 | lst xs =>
  obtain⟨_,its,n,_,e⟩:xs.length<=sizeLine/\∃ (its:List Value) (n:Nat),aQ xs its/\s.heap.get? a=some { cls:=.type "list",data:=.seq its.toArray n }:=I.hok a _ h
  exact⟨_,e,(by show Value.type "list"≠.type "tuple";decide +kernel)⟩
 | ins C dx fs =>
  have x:=I.hok a _ h
  obtain⟨_,_,_,e,_⟩:=x
  exact⟨_,e,(by show Value.ref C≠.type "tuple";exact fun z=>by cases z)⟩
 | _=>exact absurd (show false=true from p) yZ
theorem iw.or{f:Value->Value->Sem Value}{r r':R2}(h:iw X f r)(h':iw X f r'):iw X f (fun x y H Q=>r x y H Q\/r' x y H Q):=by
 intro pins s σ H x y v u Q I rx ry q
 rcases q with q|q
 ·exact h pins s σ H x y v u Q I rx ry q
 ·exact h' pins s σ H x y v u Q I rx ry q
theorem dm(b:Expr){op:CmpOp}(h:op≠.In:=by decide)(h2:op≠.NotIn:=by decide):behindInMarks op b=false:=by
 have e1:(op == CmpOp.In)=false:=by cases op<;>first|rfl|exact absurd rfl h
 have e2:(op == CmpOp.NotIn)=false:=by cases op<;>first|rfl|exact absurd rfl h2
 cases b<;>simp[behindInMarks,e1,e2]
theorem Li{op:CmpOp}{r:R2}(ho:iw X (compareOp op) r)(ha:PE X a ta)(hb:PE X b tb)(hm:behindInMarks op b=false):PE X (.Compare a [op] [b] pos) (QD r ta tb):=by
 intro pins s σ H Q I h
 exact wpAny_Compare1 (MP ha hb I h fun v u s2 x y H2 I2 rx ry q=>ho pins s2 σ H2 x y v u Q I2 rx ry q) hm
def Mr(t:TE):TT:=fun σ H Q=>t σ H fun x H'=>∃k,x=.bl k/\Q k H'
theorem Dg{op:CmpOp}{r:R2}(ho:iw X (compareOp op) r)(ha:PE X a ta)(hb:PE X b tb)(hm:behindInMarks op b=false):PT X (.Compare a [op] [b] pos) (Mr (QD r ta tb)):=by
 intro pins s σ H Q I h
 refine wpAny_isTrue_Compare1 (cx (ha pins s σ H _ I h) fun v s1 ⟨x,H1,I1,r1,q1⟩=>cx (hb pins s1 σ H1 _ I1 q1) fun u s2 ⟨y,H2,I2,r2,q2⟩ =>
  cx (ho pins s2 σ H2 x y v u _ I2 r1 r2 q2) fun c s3 ⟨z,H3,I3,r3,k,e,q3⟩=>?_) hm
 subst e
 cases r3
 exact xW ⟨H3,I3,q3⟩
def Cs(r r':R2)(ta tb tc:TE):TE:=fun σ H Q=>ta σ H fun x H1=>tb σ H1 fun y H2=>r x y H2 fun z H3=>∃k,z=.bl k /\
 (if k=true then tc σ H3 fun w' H4=>r' y w' H4 Q else Q (.bl false) H3)
theorem Ia{op op':CmpOp}{r r':R2}(ho:iw X (compareOp op) r)(ho':iw X (compareOp op') r')(ha:PE X a ta)(hb:PE X b tb)(hc:PE X c tc)
  (hm:lastMarks [op,op'] [b,c]=false:=by with_unfolding_all rfl):PE X (.Compare a [op,op'] [b,c] pos) (Cs r r' ta tb tc):=by
 intro pins s σ H Q I h
 refine Compare_chain (cx (ha pins s σ H _ I h) fun v s1 ⟨x,H1,I1,r1,q1⟩=>chain_link (cx (hb pins s1 σ H1 _ I1 q1) fun u s2 ⟨y,H2,I2,r2,q2⟩ =>
  cx (ho pins s2 σ H2 x y v u _ I2 r1 r2 q2) fun d s3 ⟨z,H3,I3,r3,k,e,q3⟩=>?_)) hm
 subst e
 cases r3
 refine xW ?_
 cases k with
 | false=>exact ite_ff ⟨.bl false,H3,I3,rfl,q3⟩
 | true=>exact ite_tt (chain_last (cx (hc pins s3 σ H3 _ I3 q3) fun w' s4 ⟨z',H4,I4,r4,q4⟩=>ho' pins s4 σ H4 y z' u w' Q I4 r2 r4 q4))
theorem Jg{op op':CmpOp}{r r':R2}(ho:iw X (compareOp op) r)(ho':iw X (compareOp op') r')(ha:PE X a ta)(hb:PE X b tb)(hc:PE X c tc)
  (hm:lastMarks [op,op'] [b,c]=false:=by with_unfolding_all rfl):PT X (.Compare a [op,op'] [b,c] pos) (Mr (Cs r r' ta tb tc)):=by
 intro pins s σ H Q I h
 refine isTrue_chain (cx (ha pins s σ H _ I h) fun v s1 ⟨x,H1,I1,r1,q1⟩=>test_link (cx (hb pins s1 σ H1 _ I1 q1) fun u s2 ⟨y,H2,I2,r2,q2⟩ =>
  cx (ho pins s2 σ H2 x y v u _ I2 r1 r2 q2) fun d s3 ⟨z,H3,I3,r3,k,e,q3⟩=>?_)) hm
 subst e
 cases r3
 refine xW ?_
 cases k with
 | false =>
  obtain⟨k',e',q'⟩:=q3
  cases e'
  exact ite_ff ⟨H3,I3,q'⟩
 | true =>
  refine ite_tt (test_last (cx (hc pins s3 σ H3 _ I3 q3) fun w' s4 ⟨z',H4,I4,r4,q4⟩=>cx (ho' pins s4 σ H4 y z' u w' _ I4 r2 r4 q4) fun d' s5 ⟨z2,H5,I5,r5,k2,e2,q5⟩=>?_))
  subst e2
  cases r5
  exact xW ⟨H5,I5,q5⟩
theorem rh:(sizeLine:Nat) < 2 ^ 63:=by rw[qU];decide
theorem vals1{x:V}{us:List Value}(r:aQ [x] us):∃u,us=[u]/\RelV x u:=by
 cases r with
 | cons r1 r2=>cases r2;exact⟨_,rfl,r1⟩
theorem vals2{x y:V}{us:List Value}(r:aQ [x,y] us):∃u w',us=[u,w']/\RelV x u/\RelV y w':=by
 cases r with
 | cons r1 r2 =>
  cases r2 with
  | cons r3 r4=>cases r4;exact⟨_,_,rfl,r1,r3⟩
end
section
variable {prog:Program}{w:World}{A:Around}{E:Value->Shared->Prop}{s:Shared}{K:W.Frag}{x dx C f:Addr}{mA:Str->Option Value}{name:Str}{v:Value}
end
section
variable {P:Program}{w:World}{H H':Hp}{h h':Heap}{a C dx:Addr}{fs fs':List (Str×V)}
end
section
variable {X:Cx}{pins:List (Addr×Obj)}{σ:St}{H:Hp}{s:Shared}{a C dx:Addr}{fs:List (Str×V)}{f:Str}{v:V}{A:Around}{E:Value->Shared->Prop}
end
section
variable {X:Cx}{o e value:Expr}{f:Str}{pos pos' tpos:Pos}{ta tv:TE}
end
section
variable {X:Cx}{pins:List (Addr×Obj)}{σ:St}{H:Hp}{s:Shared}{A:Around}{E:Value->Shared->Prop}{Q:Value->Shared->Prop}{c:Value}{b:Bool}
end
structure dS(k:Nat)(A:Around):Prop where
 hd:A.handled=none
 dp:A.depth+3 * k+5 < recursionLimit
 un:A.units+16 * k+200 < cLine
theorem dS.mono{j k:Nat}{A:Around}(r:dS k A)(h:j<=k):dS j A:=⟨r.hd,by have:=r.dp;omega,by have:=r.un;omega⟩
theorem dS.deeper{k:Nat}{A:Around}(r:dS (k+1) A)(env:Env):dS k (A.deeper env) :=
 ⟨r.hd,by have:=r.dp;show A.depth+1+3 * k+5 < _;omega,by have:=r.un;show A.units+3+16 * k+200 < _;omega⟩
theorem dS.in1{k:Nat}{A:Around}(r:dS (k+1) A):dS k A.in1 :=
 ⟨r.hd,by have:=r.dp;show A.depth+3 * k+5 < _;omega,by have:=r.un;show A.units+1+16 * k+200 < _;omega⟩
theorem dS.depth{k:Nat}{A:Around}(r:dS k A):A.depth < recursionLimit:=by have:=r.dp;omega
theorem dS.units{k:Nat}{A:Around}(r:dS k A):A.units+64 < cLine:=by have:=r.un;omega
theorem dS.units0{k:Nat}{A:Around}(r:dS k A):A.units < cLine:=by have:=r.un;omega
def RB:TA:=fun _ H Q=>Q [] H
def Qf(ta:TE)(tr:TA):TA:=fun σ H Q=>ta σ H fun x H1=>tr σ H1 fun xs H2=>Q (x::xs) H2
section
variable {X:Cx}{e:Expr}{es:List Expr}{te:TE}{t:TA}{pos:Pos}
theorem dP:PA X [] RB:=fun _ _ _ _ H Q I h=>kJ ⟨[],H,I,.nil,h⟩
theorem bM(ha:PE X e te)(hr:PA X es t)(hs:starEach (e::es) X.env=(false,eval e X.env)::starEach es X.env:=by rfl):PA X (e::es) (Qf te t):=by
 intro pos pins s σ H Q I h
 rw[hs]
 show wpAny _ _ (spliced ((false,eval e X.env)::backTo pos (starEach es X.env))) _ _ s
 refine jJ (cx (ha pins s σ H _ I h) fun u s1 ⟨x,H1,I1,r1,q1⟩=>?_)
 exact cx (hr pos pins s1 σ H1 _ I1 q1) fun us s2 ⟨xs,H2,I2,r2,q2⟩=>⟨x::xs,H2,I2,.cons r1 r2,q2⟩
def Rv(t:TA):TE:=fun σ H Q=>t σ H fun xs H1=>xs.length<=sizeLine/\∀p,H1 p=none->Q (.ref p) (upd H1 p (.tup xs))
def Rk(t:TA):TE:=fun σ H Q=>t σ H fun xs H1=>xs.length<=sizeLine/\∀p,H1 p=none->Q (.ref p) (upd H1 p (.lst xs))
theorem Im{x1}(h:PA X es t):PE X (.Tuple es x1 pos) (Rv t):=by
 intro pins s σ H Q I hq
 refine wpAny_Tuple_spliced (cx (h pos pins s σ H _ I hq) fun us s1 ⟨xs,H1,I1,r,z,q⟩=>⟨by rw[<- r.length];exact z,?_⟩)
 have hf:H1 s1.heap.objs.size=none:=I1.hok.fresh (yM _)
 refine⟨.ref s1.heap.objs.size,upd H1 s1.heap.objs.size (.tup xs),I1.laid (t':=s1.toks) (fun b u e=>zT _ e) (yM _) ?_,rfl,q _ hf⟩
 exact⟨z,us,r,⟨_,zW _ rfl,rfl,_,rfl⟩,_,zW _ rfl,rfl⟩
theorem sQ(h:PA X es t):PE X (.List es pos) (Rk t):=by
 intro pins s σ H Q I hq
 refine wpAny_List_spliced (cx (h pos pins s σ H _ I hq) fun us s1 ⟨xs,H1,I1,r,z,q⟩=>⟨by rw[<- r.length];exact z,?_⟩)
 have hf:H1 s1.heap.objs.size=none:=I1.hok.fresh (yM _)
 refine⟨.ref s1.heap.objs.size,upd H1 s1.heap.objs.size (.lst xs),I1.laid (t':=s1.toks) (fun b u e=>zT _ e) (yM _) ?_,rfl,q _ hf⟩
 exact⟨z,us,0,r,zW _ rfl⟩
end
abbrev Sp:=List V->Hp->VK->XK->Prop
abbrev FB:=List Env->Hp->Shared->XK->Value->Shared->Prop
structure C2(P:Program)(w:World)(K:W.Frag)(mg:Str->Option Value)(base:Heap)(A:Around)(outer:List Env)(s:Shared)(H:Hp):Prop where
 frames:A.frames=some outer
 mod:Mod K mg base
 bs:∀b o,base.get? b=some o->s.heap.get? b=some o/\H b=none
 bsz:base.objs.size<=s.heap.objs.size
 funs:s.heap.FunFrames base outer
 frf:∀b∈ix outer,H b=none
 hok:oC P w H s.heap
 bare:AllBare s.gens
def CE(outer:List Env)(P:Program)(w:World)(H:Hp)(s:Shared)(Q:VK)(u:Value)(s':Shared):Prop :=
 ∃v H',s'.os=s.os/\AllBare s'.gens/\Un (ix outer) [] H H' s.heap s'.heap/\oC P w H' s'.heap/\RelV v u/\Q v H'
def CR(CX:FB)(outer:List Env)(P:Program)(w:World)(H:Hp)(s:Shared)(Q:VK)(E:XK)(r:Result)(s':Shared):Prop :=
 match r with
 | .ok (.ret u)=>CE outer P w H s Q u s'
 | .ok _=>False
 | .error e=>CX outer H s E e s'
structure ni(P:Program)(w:World)(K:W.Frag)(mg:Str->Option Value)(base:Heap)(CX:FB)(k:Nat)(f:Addr)(fd:FuncData)(ps:List Str)(sp:Sp):Prop where
 len:∀vs H Q E,sp vs H Q E->vs.length=ps.length
 run:∀ (A:Around) (outer:List Env) (s:Shared) (H:Hp) (args:Args) (us:List Value) (vs:List V) (Q:VK) (E:XK),dS k A->C2 P w K mg base A outer s H->BindsTo s fd args (ps.zip us)->aQ vs us->sp vs H Q E ->
  codeAny (model P w) A (.call (.ref f) args) (CR CX outer P w H s Q E) s
theorem ni.mono{P:Program}{w:World}{K:W.Frag}{mg:Str->Option Value}{base:Heap}{CX:FB}{j k:Nat}{f:Addr}{fd:FuncData}{ps:List Str}{sp:Sp}(F:ni P w K mg base CX j f fd ps sp)(h:j<=k) :
  ni P w K mg base CX k f fd ps sp:=⟨F.len,fun A outer s H args us vs Q E hr=>F.run A outer s H args us vs Q E (hr.mono h)⟩
section
variable {X:Cx}{pins:List (Addr×Obj)}{σ:St}{H:Hp}{s s':Shared}
theorem Inv.env0(I:Inv X pins σ H s):C2 X.prog X.w X.K X.mg X.base X.A X.stack s H :=
 ⟨I.ok.frames,I.ok.mod,I.bs,yC I.ok.bsz I.sz,I.stack,I.stkFree,I.hok,I.bare⟩
theorem Inv.after{Q:VK}{u:Value}(I:Inv X pins σ H s)(h:CE X.stack X.prog X.w H s Q u s'):EP X pins σ Q u s':=by
 obtain⟨v,H',os,bare,un,hok,r,q⟩:=h
 obtain⟨hh,g,d,t,os'⟩:=s'
 obtain rfl:os'=s.os:=os
 exact⟨v,H',I.call (h':=hh) (g':=g) (d':=d) (t':=t) (ch:=[]) un hok bare (fun b z=>absurd z (by simp)),r,q⟩
end
def P1(sp:Sp)(dvs:List V)(E:XK)(t:TA):TE:=fun σ H Q=>t σ H fun vs H1=>sp (vs++dvs) H1 Q E
def Binds(K:W.Frag)(fd:FuncData)(ps:List Str)(ds:List Value):Prop :=
 ∀ (s:Shared) (us:List Value),K.In s.heap->(us++ds).length=ps.length->BindsTo s fd ⟨us,[]⟩ (ps.zip (us++ds))
theorem Binds.all{K:W.Frag}{fd:FuncData}{ps:List Str}(h:∀us:List Value,us.length=ps.length->bindArgs fd ⟨us,[]⟩=pure (ps.zip us)):Binds K fd ps []:=fun s us _ hl=>by
 rw[qF] at hl ⊢
 exact .of_eq (h us hl)
def eh(CX:FB)(X:Cx)(E:XK):Prop:=∀ (pins:List (Addr×Obj)) (σ:St) (H:Hp) (s:Shared) (e:Value) (s':Shared),Inv X pins σ H s->CX X.stack H s E e s'->X.xe e s'
section
variable {X:Cx}{CX:FB}{k:Nat}{f C:Addr}{fd:FuncData}{ps:List Str}{sp:Sp}{dvs:List V}{ds:List Value}{E:XK}{x m:Str}{p pos apos:Pos}{e o:Expr}{es:List Expr}{ta:TE}{t:TA}
theorem CZ{pins:List (Addr×Obj)}{σ:St}{H:Hp}{s:Shared}{Q:VK}{us:List Value}{vs:List V}(F:ni X.prog X.w X.K X.mg X.base CX k f fd ps sp)(hr:dS k X.A)(hb:Binds X.K fd ps ds)(hd:aQ dvs ds)(hx:eh CX X E)
  (I:Inv X pins σ H s) (r:aQ vs us) (h:sp (vs++dvs) H Q E):wpAny (model X.prog X.w) X.A (call (.ref f) us) (EP X pins σ Q) X.xe s:=by
 have r2:aQ (vs++dvs) (us++ds):=r.append hd
 have hl:(us++ds).length=ps.length:=by rw[<- r2.length];exact F.len _ _ _ _ h
 refine vL (jS (F.run X.A X.stack s H ⟨us,[]⟩ (us++ds) (vs++dvs) Q E hr I.env0 (hb s us I.kIn hl) r2 h) fun r s' hq=>?_)
 cases r with
 | error e=>exact hx pins σ H s e s' I hq
 | ok fl =>
  cases fl with
  | ret u=>exact I.after hq
  | next=>exact False.elim hq
  | brk=>exact False.elim hq
  | cont=>exact False.elim hq
theorem DP(F:ni X.prog X.w X.K X.mg X.base CX k f fd ps sp)(hr:dS k X.A)(hg:Gl X x)(hm:X.mg x=some (.ref f))(hk:W.keepIn X.K (.ref f)=true)(hb:Binds X.K fd ps ds)(hd:aQ dvs ds)(hx:eh CX X E)
  (ha:PA X (e::es) t) (hdb:(x == ("__debug__":Str))=false:=by decide) (he:starEach (e::es) X.env=(false,eval e X.env)::starEach es X.env:=by rfl) (hpl:(backTo pos (starEach es X.env)).any (·.1)=false:=by rfl) :
  PE X (.Call (.Name x p) (e::es) [] pos) (P1 sp dvs E t):=by
 intro pins s σ H Q I h
 refine qY (ma I hg hm ?_ hdb)
 refine W.callWith_K (h₀:=X.base) I.ok.mod.kin hk (cx (ha pos pins s σ H _ I h) fun us s1 ⟨vs,H1,I1,r,q⟩=>⟨I1.kIn,?_⟩) he hpl
 exact CZ F hr hb hd hx I1 r q
end
section
variable {X:Cx}{CX:FB}{k:Nat}{f C:Addr}{fd:FuncData}{ps ks:List Str}{sp:Sp}{E:XK}{x m:Str}{p pos apos kpos:Pos}{e o:Expr}{es:List Expr}{kws:List Keyword}{te ta:TE}{t tk:TA}{nm:Option Str}
variable {g:List Value->List Value->List Value}{gV:List V->List V->List V}
end
structure cT(N P:List Str)(sc:Scope):Prop where
 kind:sc.kind=.function
 co:sc.isCoroutine=false
 gen:sc.isGenerator=false
 nd:N.Nodup
 pre:N.take P.length=P
 par:∀x∈P,sc.names.lookup x=some .local \/ sc.names.lookup x=some .cell
 nofree:∀y∈sc.names,y.2≠.free
theorem uH{kindOf:Str->Option NameKind}{x:Str}:∀ {binds:List (Str×Value)}{m:Str->Option Value},(∀v,(x,v)∉binds)->bindL kindOf binds m x=m x
 | [],_,_=>rfl
 | (n,v)::r,m,h=>by
  unfold bindL
  rw[uH fun w hw=>h w (zC _ hw)]
  split
  ·have:x≠n:=by rintro rfl;exact h v zE
   simp[this]
  ·rfl
theorem uB{kindOf:Str->Option NameKind}{x:Str}:∀ {binds:List (Str×Value)}{m:Str->Option Value},(∀v,(x,v)∉binds)->bindC kindOf binds m x=m x
 | [],_,_=>rfl
 | (n,v)::r,m,h=>by
  unfold bindC
  rw[uB fun w hw=>h w (zC _ hw)]
  split
  ·rfl
  ·have:x≠n:=by rintro rfl;exact h v zE
   simp[this]
theorem uX{kindOf:Str->Option NameKind}{x:Str}{v:Value}:∀ {P:List Str}{vs:List Value}{i:Nat}{m:Str->Option Value},P.Nodup->P[i]?=some x->vs[i]?=some v->kindOf x=some .local ->
  bindL kindOf (P.zip vs) m x=some v
 | [],_,_,_,_,h,_,_=>by simp at h
 | _::_,[],_,_,_,_,h,_=>by simp at h
 | p::P,w::vs,0,m,nd,h1,h2,hk=>by
  simp at h1 h2;subst h1;subst h2
  show bindL kindOf ((p,w)::P.zip vs) m p=_
  unfold bindL
  rw[uH fun v hv=>(List.nodup_cons.mp nd).1 (vU hv).1,yL hk]
  simp
 | p::P,w::vs,i+1,m,nd,h1,h2,hk=>by
  show bindL kindOf ((p,w)::P.zip vs) m x=_
  unfold bindL
  exact uX (i:=i) (List.nodup_cons.mp nd).2 (by simpa using h1) (by simpa using h2) hk
theorem uY{kindOf:Str->Option NameKind}{x:Str}{v:Value}:∀ {P:List Str}{vs:List Value}{i:Nat}{m:Str->Option Value},P.Nodup->P[i]?=some x->vs[i]?=some v->kindOf x≠some .local ->
  bindC kindOf (P.zip vs) m x=some v
 | [],_,_,_,_,h,_,_=>by simp at h
 | _::_,[],_,_,_,_,h,_=>by simp at h
 | p::P,w::vs,0,m,nd,h1,h2,hk=>by
  simp at h1 h2;subst h1;subst h2
  show bindC kindOf ((p,w)::P.zip vs) m p=_
  unfold bindC
  rw[uB fun v hv=>(List.nodup_cons.mp nd).1 (vU hv).1,yN hk]
  simp
 | p::P,w::vs,i+1,m,nd,h1,h2,hk=>by
  show bindC kindOf ((p,w)::P.zip vs) m x=_
  unfold bindC
  exact uY (i:=i) (List.nodup_cons.mp nd).2 (by simpa using h1) (by simpa using h2) hk
def start(N:List Str)(vs:List V):St:=vs.map some++List.replicate (N.length - vs.length) none
def sF(CX:FB)(P:Program)(w:World)(K:W.Frag)(mg:Str->Option Value)(base:Heap)(N:List Str)(qual:Str)(scope:Scope)(f:Addr)(cd:Value)(A:Around)(outer:List Env)(s:Shared)(H:Hp)(E:XK):Cx where
 prog:=P
 w:=w
 K:=K
 mg:=mg
 base:=base
 A:=A.deeper (envOfC qual scope s.heap.objs.size f cd)
 N:=N
 s₀:=s
 H₀:=H
 env:=envOfC qual scope s.heap.objs.size f cd
 outer:=outer
 stack:=envOfC qual scope s.heap.objs.size f cd::outer
 ex:=[]
 calm:=true
 fn:=fun _=>true
 pn:=[]
 xe:=fun e s'=>wpAny (model P w) (A.deeper (envOfC qual scope s.heap.objs.size f cd)) (leaving (envOfC qual scope s.heap.objs.size f cd) e) (fun _ s''=>CX outer H s E e s'') (fun e' s''=>CX outer H s E e' s'') s'
theorem sX{sc:Scope}{n:Nat}{x:Str}(h:sc.names.lookup x=some .cell):∃c,(cellsFrom n sc.names []).lookup x=some c:=by
 have q:=W.cellsFrom_some sc.names n [] (.inl h)
 exact Option.isSome_iff_exists.mp q
theorem vo{CX:FB}{P:Program}{w:World}{K:W.Frag}{mg:Str->Option Value}{base:Heap}{N ps:List Str}{qual:Str}{scope:Scope}{f:Addr}{cd:Value}{A:Around}{outer:List Env}{s s1:Shared}{H:Hp}{E:XK}{us:List Value}{vs:List V}
  (S:cT N ps scope) (hd:A.handled=none) (e0:C2 P w K mg base A outer s H) (hl:vs.length=ps.length) (r:aQ vs us)
  (x:InCallC s s.heap.objs.size (bindL (envOfC qual scope s.heap.objs.size f cd).kindOf (ps.zip us) fun _=>none) (cellsFrom (s.heap.objs.size+1) scope.names []) (bindC (envOfC qual scope s.heap.objs.size f cd).kindOf (ps.zip us) fun _=>none) s1) :
  Inv (sF CX P w K mg base N qual scope f cd A outer s H E) [] (start N vs) H s1:=by
 have hpl:ps.length<=N.length:=by have:=jC List.length S.pre;rw[jW] at this;omega
 obtain⟨h1,tk,rfl,hk⟩:=x.done
 have noA:∀b:Addr,b∉(sF CX P w K mg base N qual scope f cd A outer s H E).ex:=fun b z=>absurd (show b∈([]:List Addr) from z) (by simp)
 refine⟨⟨e0.mod,S.kind,rfl,rfl,yM _,fun y z c h1 h2=>?_,fun y hy=>?_,fun y c _ h=>?_,fun _=>hd,Around.frames_deeper e0.frames,.inr ⟨rfl,rfl⟩,fun b z=>absurd z (noA b),e0.bs,e0.bsz,fun b _ _=>noA b,fun b z=>absurd z (noA b),e0.funs,e0.frf⟩,
  rfl,e0.bare,Un.kept hk,⟨_,x.toInCall.ns,fun i y v h1 h2 h3=>?_⟩,fun y c h=>⟨_,x.cell y c h⟩,e0.hok.fresh (yM _),fun y c h=>?_,fun p hp=>absurd (show p∈([]:List (Addr×Obj)) from hp) (by simp),e0.hok.kept hk,?_⟩
 ·exact name_of_addr x.apart (kA h1) (kA h2)
 ·have hy:scope.names.lookup y=some .cell\/scope.names.lookup y=some .free:=hy
  rcases hy with hy|hy
  ·exact sX hy
  ·exact absurd rfl (S.nofree _ (kA hy))
 ·exact jT (x.above y c (kA h))
 ·have hi:i < vs.length:=by
   unfold start at h2
   by_cases hi:i < vs.length
   ·exact hi
   ·rw[yT (by simpa using hi)] at h2
    rw[yX] at h2
    split at h2<;>cases h2
  have ha:vs[i]?=some v:=by
   unfold start at h2
   rw[yS (by simpa using hi),zO] at h2
   cases e:vs[i]? with
   | none=>rw[e] at h2;cases h2
   | some a=>rw[e] at h2;cases h2;rfl
  obtain⟨u,hu,rv⟩:=r.get ha
  have hp:ps[i]?=some y:=by
   rw[<- S.pre,List.getElem?_take_of_lt (by omega)];exact h1
  have ndP:ps.Nodup:=by rw[<- S.pre];exact S.nd.sublist (List.take_sublist _ _)
  refine⟨u,rv,?_⟩
  rcases S.par y (qB hp) with k|k
  ·exact .inl ⟨k,uX ndP hp hu k⟩
  ·obtain⟨c,e⟩:=sX (n:=s.heap.objs.size+1) k
   refine .inr ⟨.inl k,c,e,?_⟩
   have q:=x.cell y c e
   rw[uY ndP hp hu (by show scope.names.lookup y≠_;rw[k];decide)] at q
   exact q
 ·exact e0.hok.fresh (jT (x.above y c (kA h)))
 ·unfold start
  show _=N.length
  rw[zN,zD,xM]
  omega
theorem Jk{CX:FB}{P:Program}{w:World}{K:W.Frag}{mg:Str->Option Value}{base:Heap}{k:Nat}{f:Addr}{name qual:Str}{params:Arguments}{body:List Stmt}{scope:Scope}{dV kV doc pm cdv ct oc:Value}{an od:Option Addr}
  {osl:Array (Option Value)}{N ps:List Str}{sp:Sp}(lk:K.lookup f=some ⟨oc,od,.func (W.fnOf name qual params body scope dV kV doc pm an cdv ct),osl⟩) (hcd:W.codeIn K cdv qual=true) (S:cT N ps scope)
  (len:∀vs H Q E,sp vs H Q E->vs.length=ps.length)
  (hbody:∀ (A:Around) (outer:List Env) (s:Shared) (H:Hp) (vs:List V) (Q:VK) (E:XK),dS k (A.deeper (envOfC qual scope s.heap.objs.size f cdv))->sp vs H Q E ->
   ∃t,yp (sF CX P w K mg base N qual scope f cdv A outer s H E) body t/\t { nx:=fun _ H'=>Q .non H',rt:=Q } (start N vs) H) :
  ni P w K mg base CX (k+1) f (W.fnOf name qual params body scope dV kV doc pm an cdv ct) ps sp:=by
 refine⟨len,fun A outer s H args us vs Q E hr e0 hb r hsp=>?_⟩
 have hl:=len _ _ _ _ hsp
 have KX:K.In s.heap:=e0.mod.kin.keeps fun b o e=>(e0.bs b o e).1
 have lim:s.heap.NoLimit:=e0.mod.nolimit.keeps fun b o e=>(e0.bs b o e).1
 have hkind:∀y∈ps.zip us,scope.names.lookup y.1=some .local \/ (scope.names.lookup y.1=some .cell/\((cellsFrom (s.heap.objs.size+1) scope.names []).lookup y.1).isSome=true):=fun ⟨n,v⟩ hy=>by
  rcases S.par n (vU hy).1 with q|q
  ·exact .inl q
  ·exact .inr ⟨q,W.cellsFrom_some _ _ _ (.inl q)⟩
 refine codeAny_call_function hr.depth (KX _ _ lk) rfl S.co S.gen rfl (W.codeRec_of KX hcd) (hb _ _ _ _ ?_)
 refine wpAny_newFunctionEnv_cells S.kind hkind fun env he s1 x=>?_
 subst he
 refine⟨lim.keeps x.toInCall.keep,codeAny_func ?_⟩
 obtain⟨t,ht,hq⟩:=hbody A outer s H vs Q E (hr.deeper _) hsp
 have I:Inv (sF CX P w K mg base N qual scope f cdv A outer s H E) [] (start N vs) H s1:=vo S hr.hd e0 hl r x
 refine xA (ht [] s1 (start N vs) H _ I hq) (fun fl s' hs=>?_) fun e s' hs=>hs
 have fin:∀ {σ':St}{H':Hp}{v:V}{u:Value},Inv (sF CX P w K mg base N qual scope f cdv A outer s H E) [] σ' H' s'->RelV v u->Q v H'->CE outer P w H s Q u s' :=
  fun {σ' H' v u} J rv q=>⟨v,H',J.os,J.bare,J.base,J.hok,rv,q⟩
 cases fl with
 | ret u =>
  obtain⟨v,σ',H',J,rv,q⟩:=hs
  exact fin J rv q
 | next =>
  obtain⟨σ',H',J,q⟩:=hs
  exact fin (v:=V.non) (u:=Value.none) J rfl q
 | brk =>
  obtain⟨_,_,_,q⟩:=hs
  exact False.elim q
 | cont =>
  obtain⟨_,_,_,q⟩:=hs
  exact False.elim q
section
variable {X:Cx}{x:Str}{p pos:Pos}{e:Expr}{es:List Expr}{t:TA}{id T:String}{r:List V->Hp->VK->Prop}
def QK(r:List V->Hp->VK->Prop)(t:TA):TE:=fun σ H Q=>t σ H fun vs H1=>r vs H1 Q
theorem nI(hc:eK X (.builtin id) r)(hg:Gl X x)(hm:X.mg x=none)(hv:bootBuiltins x=some (.builtin id))(ha:PA X (e::es) t)(hn:x≠"__name__":=by decide)(hdb:(x == ("__debug__":Str))=false:=by decide)
  (he:starEach (e::es) X.env=(false,eval e X.env)::starEach es X.env:=by rfl) (hpl:(backTo pos (starEach es X.env)).any (·.1)=false:=by rfl):PE X (.Call (.Name x p) (e::es) [] pos) (QK r t):=by
 intro pins s σ H Q I h
 refine qY (gw I hg hm hv ?_ hn hdb)
 exact PyProof.Rows.callWith_builtin1 (cx (ha pos pins s σ H _ I h) fun us s1 ⟨vs,H1,I1,r1,q1⟩=>hc pins s1 σ H1 vs us Q I1 r1 q1) he hpl
theorem pq(hc:eK X (.type T) r)(hg:Gl X x)(hm:X.mg x=none)(hv:bootBuiltins x=some (.type T))(ha:PA X (e::es) t)(hn:x≠"__name__":=by decide)(hdb:(x == ("__debug__":Str))=false:=by decide)
  (he:starEach (e::es) X.env=(false,eval e X.env)::starEach es X.env:=by rfl) (hpl:(backTo pos (starEach es X.env)).any (·.1)=false:=by rfl):PE X (.Call (.Name x p) (e::es) [] pos) (QK r t):=by
 intro pins s σ H Q I h
 refine qY (gw I hg hm hv ?_ hn hdb)
 exact qS (cx (ha pos pins s σ H _ I h) fun us s1 ⟨vs,H1,I1,r1,q1⟩=>hc pins s1 σ H1 vs us Q I1 r1 q1) he hpl
end
end L2
namespace HT
open PySem PyProof.Rows
def lexLt:List Int->List Int->Bool
 | [],[]=>false
 | [],_::_=>true
 | _::_,[]=>false
 | x::xs,y::ys=>if x=y then lexLt xs ys else decide (x < y)
theorem dN(x y:Int)(xs ys:List Int):lexLt (x::xs) (y::ys)=if x=y then lexLt xs ys else decide (x < y):=rfl
theorem uq:lexLt [] []=false:=rfl
theorem rX(y:Int)(ys:List Int):lexLt [] (y::ys)=true:=rfl
theorem r8(x:Int)(xs:List Int):lexLt (x::xs) []=false:=rfl
theorem GJ(A:Around)(s:Shared)(a:Int)(t:Tok)(c:Int)(u:Tok):∃e,SeqAt.EqAt A s (.int a t) (.int c u) e/\(e=true↔a=c) :=
 ⟨(a == c),SeqAt.EqAt.int_int a t c u,by simp⟩
section
open PySem.SeqAt
open PySem.AutoSeq1 (wpAny_loadPart')
open PySem.MeetsSeq PySem.MeetsSeq2 PySem.MeetsSeq3
end
section
variable {prog:Program}{w:World}{A:Around}{E:Value->Shared->Prop}{s:Shared}
theorem J7{t b:Addr}{vs ws:List Value}{Q:Value->Shared->Prop}(ht:IsTup s.heap t vs.toArray)(hb:IsTup s.heap b ws.toArray)(hv:vs≠[])
  (h1:ws=[]->Q (.ref t) s) (h2:ws≠[]->Q (.ref s.heap.objs.size) { s with heap:=s.heap.push { cls:=.type "tuple",data:=.seq (vs++ws).toArray } })
  (hsz:vs.length+ws.length<=sizeLine):wpAny (model prog w) A (binaryOp .Add (.ref t) (.ref b)) Q E s:=by
 obtain⟨⟨cls,dd,data,sl⟩,ho,hc,n,hd⟩:=id ht
 obtain⟨⟨cls2,dd2,data2,sl2⟩,ho2,hc2,n2,hd2⟩:=id hb
 simp only at hc hd hc2 hd2
 subst hc hd hc2 hd2
 have e:vs.toArray++ws.toArray=(vs++ws).toArray:=by simp
 by_cases hw:ws=[]
 ·exact wW ⟨_,ho,rfl⟩ ⟨_,ho2,rfl⟩ noFill_tuple_add seq_tuple_add vO vI (vF _ _)
   (tuple_addW1 t b vs.toArray ws.toArray n n2 dd dd2 sl sl2 (by simpa using hv) (by simp[hw])) ⟨ho,ho2,h1 hw⟩
 ·refine wW ⟨_,ho,rfl⟩ ⟨_,ho2,rfl⟩ noFill_tuple_add seq_tuple_add vO vI (vF _ _)
   (tuple_addW2 t b vs.toArray ws.toArray n n2 dd dd2 sl sl2 (by simpa using hv) (by simpa using hw) (by rw[zH,zH];exact hsz)) ⟨ho,ho2,?_⟩
  rw[e]
  exact h2 hw
def d9(n d:Nat):Option Int->Nat
 | none=>d
 | some v=>if v < 0 then (v+(n:Int)).toNat else min v.toNat n
theorem HS(n d:Nat):d9 n d none=d:=rfl
theorem Kq(n d k:Nat):d9 n d (some (k:Int))=min k n:=by
 show (if (k:Int) < 0 then ((k:Int)+(n:Int)).toNat else min (k:Int).toNat n)=min k n
 rw[yN (by omega),yF]
theorem NN(n d:Nat)(hd:d<=n)(o:Option Int):d9 n d o<=n:=by
 cases o with
 | none=>exact hd
 | some v =>
  show (if v < 0 then (v+(n:Int)).toNat else min v.toNat n)<=n
  by_cases hv:v < 0
  ·rw[yL hv];omega
  ·rw[yN hv];exact Nat.min_le_right _ _
theorem D2(v:Int)(n d:Nat):(if v < 0 then max (v+(n:Int)) 0 else min v (n:Int))=((d9 n d (some v):Nat):Int):=by
 show (if v < 0 then max (v+(n:Int)) 0 else min v (n:Int))=(((if v < 0 then (v+(n:Int)).toNat else min v.toNat n):Nat):Int)
 by_cases hv:v < 0
 ·simp only[yL hv];omega
 ·simp only[yN hv];omega
theorem B3(lo hi:Option Int)(n:Nat):Builtin.Slice.sliceAdjust lo hi 1 (n:Int)=(((d9 n 0 lo:Nat):Int),((d9 n n hi:Nat):Int)):=by
 have h1:¬ ((1:Int) < 0):=by omega
 unfold Builtin.Slice.sliceAdjust
 simp only[h1,qP]
 refine Prod.ext ?_ ?_
 ·cases lo with
  | none=>rfl
  | some v=>exact D2 v n 0
 ·cases hi with
  | none=>rfl
  | some v=>exact D2 v n n
theorem BK(i j:Nat):Builtin.Slice.slicePlaces (i:Int) (j:Int) 1=j - i:=by
 unfold Builtin.Slice.slicePlaces
 have h1:(1:Int) > 0:=by omega
 simp only[h1,xH,Int.ediv_one]
 split<;>omega
theorem qy{v:Value}{o:Option Int}{Q:Option Int->Shared->Prop}(p:IsPart v o)(h:Q o s):wpAny (model prog w) A (Builtin.Slice.slicePartIndex v) Q E s:=by
 cases p with
 | none=>exact slicePart_none h
 | int i t=>exact slicePart_int h
theorem iX{sl:Addr}{vl vu:Value}{lo hi:Option Int}{n:Nat}{Q:Int×Int×Nat->Shared->Prop}(hs:s.heap.IsSliceOf sl vl vu .none)(pl:IsPart vl lo)(pu:IsPart vu hi)
  (h:Q (((d9 n 0 lo:Nat):Int),1,d9 n n hi - d9 n 0 lo) s):wpAny (model prog w) A (Builtin.Slice.sliceApplied (.ref sl) (pure (n:Int))) Q E s:=by
 obtain⟨os,hos,hcs,hds⟩:=id hs
 unfold Builtin.Slice.sliceApplied Builtin.Slice.sliceFields
 refine zU (zU (qT hos hds (x:=vl) rfl (zU (qT hos hds (x:=vu) rfl (zU (qT hos hds (x:=.none) rfl (zV ?_)))))))
 refine zU (slicePart_none ?_)
 show wpAny _ _ (if ((1:Int) == 0)=true then _ else _) _ _ s
 rw[yN (by decide)]
 refine zU (qy pl (zU (qy pu (zU (zV ?_)))))
 show wpAny _ _ (match Builtin.Slice.sliceAdjust lo hi 1 (n:Int) with|(lo,hi)=>pure (lo,(1:Int),Builtin.Slice.slicePlaces lo hi 1)) _ _ s
 rw[B3 lo hi n]
 show wpAny _ _ (pure (((d9 n 0 lo:Nat):Int),(1:Int),Builtin.Slice.slicePlaces ((d9 n 0 lo:Nat):Int) ((d9 n n hi:Nat):Int) 1)) _ _ s
 rw[BK]
 exact zV h
theorem GM(xs:Array Value)(i k:Nat):((List.range k).filterMap fun (m:Nat)=>xs[((i:Int)+(m:Int) * 1).toNat]?).toArray=((xs.toList.drop i).take k).toArray:=by
 have e:(fun (m:Nat)=>xs[((i:Int)+(m:Int) * 1).toNat]?)=fun m=>xs[i+m]?:=by
  funext m
  have:((i:Int)+(m:Int) * 1).toNat=i+m:=by omega
  rw[this]
 rw[e]
 have:=pick_run xs i k
 rw[List.filterMap_map] at this
 have e2:((fun x=>xs[x]?) ∘ fun x=>i+x)=fun m=>xs[i+m]?:=rfl
 rw[e2] at this
 rw[this]
theorem nS{t sl:Addr}{items:Array Value}{vl vu:Value}{lo hi:Option Int}{Q:Value->Shared->Prop}(ht:IsTup s.heap t items)(hs:s.heap.IsSliceOf sl vl vu .none)(pl:IsPart vl lo)(pu:IsPart vu hi)
  (hw:¬ (d9 items.size 0 lo=0/\d9 items.size items.size hi=items.size))
  (h:Q (.ref s.heap.objs.size) { s with heap:=s.heap.push { cls:=.type "tuple",data:=.seq ((items.toList.drop (d9 items.size 0 lo)).take (d9 items.size items.size hi - d9 items.size 0 lo)).toArray } })
  (hsz:items.size<=sizeLine):wpAny (model prog w) A (getItem (.ref t) (.ref sl)) Q E s:=by
 have htake:sizeOk (.seq ((items.toList.drop (d9 items.size 0 lo)).take (d9 items.size items.size hi - d9 items.size 0 lo)).toArray):=by
  show ((items.toList.drop (d9 items.size 0 lo)).take (d9 items.size items.size hi - d9 items.size 0 lo)).toArray.size<=sizeLine
  rw[zH,jW,qH,wI]
  omega
 have hj:d9 items.size items.size hi<=items.size:=NN _ _ (yM _) hi
 obtain⟨os,hos,hcs,hds⟩:=id hs
 have hTs:s.TypeIs (.ref sl) "slice":=⟨os,hos,hcs⟩
 unfold getItem
 try with_reducible refine xX ?_
 first|refine zU (zV ?_)|skip
 refine zU (wpAny_sequenceKey ht.typeIs (by decide) ?_)
 refine zU (qC (name:=Str.ofString "__getitem__") ht.typeIs jF
  (qV jF ht.typeIs entry_tuple_getitem ?_ (args_tuple_getitem _ _)))
 show wpAny _ _ (Builtin.Tuple.tupleItemsOf (.ref t) >>= _) _ _ s
 refine zU (tupleItemsOf_ ht ?_)
 refine zU (wU hTs ?_)
 rw[yL (by decide)]
 refine zU (iX hs pl pu ?_)
 have hno:¬ ((((d9 items.size 0 lo:Nat):Int) == 0&&(1:Int) == 1&&(d9 items.size items.size hi - d9 items.size 0 lo) == items.size)=true):=by
  intro q
  rw[zF,zF] at q
  have q1:((d9 items.size 0 lo:Nat):Int)=0:=eq_of_beq q.1.1
  have q2:d9 items.size items.size hi - d9 items.size 0 lo=items.size:=eq_of_beq q.2
  exact hw ⟨by omega,by omega⟩
 show wpAny _ _ (if (((d9 items.size 0 lo:Nat):Int) == 0&&(1:Int) == 1&&(d9 items.size items.size hi - d9 items.size 0 lo) == items.size)=true then _ else _) _ _ s
 rw[yN hno,GM]
 first
  | exact zU (m:=Builtin.Tuple.tupleExact _) (qL (zV ⟨_,rfl,zV h⟩) htake)
  | exact zU (m:=Builtin.Tuple.tupleExact _) (qL (zU (zV (zV ⟨_,rfl,zV h⟩))) htake)
  | exact zU (zU (m:=Builtin.Tuple.tupleExact _) (qL (zV (zV ⟨_,rfl,zV h⟩)) htake))
  | exact zU (zU (m:=Builtin.Tuple.tupleExact _) (qL (zV ⟨_,rfl,zV h⟩) htake))
end
end HT
namespace L2
open PySem PySem.Spec PyProof.Rows
abbrev TO:=St->Hp->(Option Int->Hp->Prop)->Prop
def PO(X:Cx)(e:Option Expr)(t:TO):Prop :=
 ∀ (pins:List (Addr×Obj)) (s:Shared) (σ:St) (H:Hp) (Q:Option Int->Hp->Prop),Inv X pins σ H s->t σ H Q ->
  wpAny (model X.prog X.w) X.A (evalPart e X.env) (fun u s'=>∃o H',Inv X pins σ H' s'/\IsPart u o/\Q o H') X.xe s
def KR:TO:=fun _ H Q=>Q none H
def PH(t:TE):TO:=fun σ H Q=>t σ H fun x H1=>∃i,x=.int i/\Q (some i) H1
theorem intsAre_of{ns:List Int}:∀ {us:List Value},aQ (ns.map V.int) us->IntsAre us ns:=by
 induction ns with
 | nil=>intro us r;rw[yU] at r;cases r;exact .nil
 | cons n ns ih =>
  intro us r
  rw[zI] at r
  cases r with
  | cons r1 r2 =>
   obtain⟨t,e⟩:=r1
   subst e
   exact .cons n t (ih r2)
section
variable {X:Cx}{e:Expr}{te:TE}{lo hi:Option Expr}{tl th:TO}{pos p2:Pos}
theorem Ks:PO X none KR:=by
 intro pins s σ H Q I h
 rw[evalPart_none]
 exact zV ⟨none,H,I,.none,h⟩
theorem Lu(h:PE X e te):PO X (some e) (PH te):=by
 intro pins s σ H Q I hw
 rw[evalPart_some]
 refine cx (h pins s σ H _ I hw) fun u s1 ⟨x,H1,I1,r1,q1⟩=>?_
 obtain⟨i,rfl,q⟩:=q1
 obtain⟨t,rfl⟩:=r1
 exact⟨some i,H1,I1,.int i t,q⟩
def Mf(X:Cx)(r:V->Option Int->Option Int->Hp->VK->Prop):Prop :=
 ∀ (pins:List (Addr×Obj)) (s:Shared) (σ:St) (H:Hp) (x:V) (v vl vu:Value) (lo hi:Option Int) (sl:Addr) (Q:VK),Inv X pins σ H s->RelV x v->s.heap.IsSliceOf sl vl vu .none->IsPart vl lo->IsPart vu hi->r x lo hi H Q ->
  ∃T id,typeLookup (.type T) "__getitem__"=pure (some (.builtin id))/\s.TypeIs v T/\wpAny (model X.prog X.w) X.A (getItem v (.ref sl)) (EP X pins σ Q) X.xe s
theorem Mf.or{r r':V->Option Int->Option Int->Hp->VK->Prop}(h:Mf X r)(h':Mf X r'):Mf X (fun x lo hi H Q=>r x lo hi H Q\/r' x lo hi H Q):=by
 intro pins s σ H x v vl vu lo hi sl Q I rx hs pl pu q
 rcases q with q|q
 ·exact h pins s σ H x v vl vu lo hi sl Q I rx hs pl pu q
 ·exact h' pins s σ H x v vl vu lo hi sl Q I rx hs pl pu q
def Sw(r:V->Option Int->Option Int->Hp->VK->Prop)(te:TE)(tl th:TO):TE:=fun σ H Q=>te σ H fun x H1=>tl σ H1 fun l H2=>th σ H2 fun u H3=>r x l u H3 Q
theorem Gr{r:V->Option Int->Option Int->Hp->VK->Prop}(hr:Mf X r)(he:PE X e te)(hl:PO X lo tl)(hu:PO X hi th):PE X (.Subscript e (.Slice lo hi none p2) pos) (Sw r te tl th):=by
 intro pins s σ H Q I h
 refine Subscript_ (cx (he pins s σ H _ I h) fun v s1 ⟨x,H1,I1,r1,q1⟩=>?_)
 refine wpAny_Slice (cx (hl pins s1 σ H1 _ I1 q1) fun vl s2 ⟨l,H2,I2,pl,q2⟩=>cx (hu pins s2 σ H2 _ I2 q2) fun vu s3 ⟨u,H3,I3,pu,q3⟩=>?_)
 rw[evalPart_none]
 refine zV ?_
 have I4:Inv X pins σ H3 { s3 with heap:=s3.heap.push { cls:=.type "slice",data:=.fields #[vl,vu,.none] } }:=I3.kept (t':=s3.toks) fun b ob q=>zT _ q
 obtain⟨T,id,hT,ht,hg⟩:=hr pins { s3 with heap:=s3.heap.push { cls:=.type "slice",data:=.fields #[vl,vu,.none] } } σ H3 x v vl vu l u s3.heap.objs.size Q I4 r1 (Heap.IsSliceOf.new ..) pl pu q3
 show wpAny (model X.prog X.w) X.A (subscriptTail e (.Slice lo hi none p2) v (.ref s3.heap.objs.size)) (EP X pins σ Q) X.xe { s3 with heap:=s3.heap.push { cls:=.type "slice",data:=.fields #[vl,vu,.none] } }
 exact tail_any (ops:=[.ref s3.heap.objs.size,v]) ht hT hg (by with_unfolding_all rfl)
def Kd(xs:List V)(lo hi:Option Int):List V:=(xs.drop (HT.d9 xs.length 0 lo)).take (HT.d9 xs.length xs.length hi - HT.d9 xs.length 0 lo)
theorem Ar(xs:List V)(lo hi:Option Int):(Kd xs lo hi).length<=xs.length:=by
 unfold Kd
 rw[jW,qH]
 omega
def RA(K:W.Frag):V->Option Int->Option Int->Hp->VK->Prop:=fun x lo hi H Q=>∃a xs,x=.ref a/\iY K H a xs /\
 ¬ (HT.d9 xs.length 0 lo=0/\HT.d9 xs.length xs.length hi=xs.length)/\∀p,H p=none->Q (.ref p) (upd H p (.tup (Kd xs lo hi)))
theorem Oe:Mf X (RA X.K):=by
 intro pins s σ H x v vl vu lo hi sl Q I rx hs pl pu h
 obtain⟨a,xs,rfl,hx,hw,q⟩:=h
 cases rx
 obtain⟨its,r,ht,hz⟩:=I.tuple hx
 have hlen:its.toArray.size=xs.length:=by rw[zH];exact r.length.symm
 refine⟨"tuple",_,PyProof.Rows.slot_tuple_getitem.lookup,ht.typeIs,?_⟩
 refine HT.nS ht hs pl pu (by rw[hlen];exact hw) ?_ (by rw[hlen];exact hz)
 rw[hlen]
 refine⟨.ref s.heap.objs.size,_,I.laid (t':=s.toks) (o:=.tup (Kd xs lo hi)) (fun b ob q=>zT _ q) (yM _) ?_,rfl,q _ (I.hok.fresh (yM _))⟩
 exact⟨yC (Ar xs lo hi) hz,_,(r.drop (HT.d9 xs.length 0 lo)).take (HT.d9 xs.length xs.length hi - HT.d9 xs.length 0 lo),sJ.new _ _⟩
def Pt(K:W.Frag):R2:=fun x y H Q=>∃a b xs ys,x=.ref a/\y=.ref b/\iY K H a xs/\iY K H b ys/\xs≠[]/\xs.length+ys.length<=sizeLine /\
 (ys=[]->Q (.ref a) H)/\(ys≠[]->∀p,H p=none->Q (.ref p) (upd H p (.tup (xs++ys))))
theorem aQ.nil_iff{xs:List V}{us:List Value}(r:aQ xs us):us=[]↔xs=[]:=by
 cases r with
 | nil=>simp
 | cons _ _=>simp
theorem Kj:iw X (binaryOp .Add) (Pt X.K):=by
 intro pins s σ H x y v u Q I rx ry h
 obtain⟨a,b,xs,ys,rfl,rfl,ha,hb,hx,hz,q1,q2⟩:=h
 cases rx
 cases ry
 obtain⟨its,r1,p1,_⟩:=I.tuple ha
 obtain⟨its2,r2,p2,_⟩:=I.tuple hb
 refine HT.J7 p1 p2 (fun z=>hx (r1.nil_iff.mp z)) (fun z=>⟨.ref a,H,I,rfl,q1 (r2.nil_iff.mp z)⟩) (fun z=>?_) (by rw[<- r1.length,<- r2.length];exact hz)
 refine⟨.ref s.heap.objs.size,_,I.laid (t':=s.toks) (o:=.tup (xs++ys)) (fun b ob q=>zT _ q) (yM _) ?_,rfl,q2 (fun w=>z (r2.nil_iff.mpr w)) _ (I.hok.fresh (yM _))⟩
 exact⟨by rw[zN];exact hz,_,r1.append r2,sJ.new _ _⟩
end
def JO(n:Nat)(i:Int):Option Nat:=if 0<=i then (if i < n then some i.toNat else none) else if -(n:Int)<=i then some (i+n).toNat else none
def y3{α:Type}(xs:List α)(i:Int):Option α:=(JO xs.length i).bind fun j=>xs[j]?
theorem D1{n:Nat}{i:Int}{j:Nat}(h:JO n i=some j):seqIndex? i n=some j/\j < n/\-(n:Int)<=i/\i < n:=by
 unfold JO at h
 by_cases h0:0<=i
 ·rw[yL h0] at h
  by_cases h1:i < n
  ·rw[yL h1] at h
   have e:i.toNat=j:=xD h
   exact⟨by rw[seqIndex_of h0 h1,e],by omega,by omega,h1⟩
  ·rw[yN h1] at h;cases h
 ·rw[yN h0] at h
  by_cases h1:-(n:Int)<=i
  ·rw[yL h1] at h
   have e:(i+n).toNat=j:=xD h
   exact⟨by rw[seqIndex_neg (by omega) h1,e],by omega,h1,by omega⟩
  ·rw[yN h1] at h;cases h
theorem vt{α:Type}{xs:List α}{i:Int}{v:α}(h:y3 xs i=some v):∃j,seqIndex? i xs.length=some j/\xs[j]?=some v/\j < xs.length/\-(xs.length:Int)<=i/\i < xs.length:=by
 unfold y3 at h
 cases e:JO xs.length i with
 | none=>rw[e] at h;cases h
 | some j =>
  rw[e] at h
  obtain⟨h1,h2,h3,h4⟩:=D1 e
  exact⟨j,h1,h,h2,h3,h4⟩
theorem yi{α:Type}{xs:List α}{j:Nat}{v:α}(h:xs[j]?=some v):y3 xs (j:Int)=some v:=by
 have hj:j < xs.length:=(List.getElem?_eq_some_iff.mp h).1
 have e:JO xs.length (j:Int)=some j:=by
  unfold JO
  rw[yL (by omega),yL (by omega)];simp
 unfold y3;rw[e];exact h
def nZ(b:Expr):Prop:=∀o i,subscripted b false o i=operate [o,i] (getItem o i)
def KI(X:Cx)(r:R2):Prop :=
 ∀ (value slice:Expr) (pins:List (Addr×Obj)) (s:Shared) (σ:St) (H:Hp) (x y:V) (v u:Value) (Q:VK),Inv X pins σ H s->RelV x v->RelV y u->r x y H Q ->
  subscripted slice false v u=operate [v,u] (getItem v u)->wpAny (model X.prog X.w) X.A (subscriptTail value slice v u) (EP X pins σ Q) X.xe s
def R7(X:Cx)(id:String)(r:V->List V->Hp->VK->Prop):Prop :=
 ∀ (pins:List (Addr×Obj)) (s:Shared) (σ:St) (H:Hp) (x:V) (xs:List V) (v:Value) (us:List Value) (Q:VK),Inv X pins σ H s->RelV x v->aQ xs us->r x xs H Q ->
  wpAny (model X.prog X.w) X.A (call (.builtin id) (v::us)) (EP X pins σ Q) X.xe s
section
variable {X:Cx}{a b:Expr}{ta tb:TE}{pos:Pos}
theorem KI.or{r r':R2}(h:KI X r)(h':KI X r'):KI X (fun x y H Q=>r x y H Q\/r' x y H Q):=by
 intro value slice pins s σ H x y v u Q I rx ry q hs
 rcases q with q|q
 ·exact h value slice pins s σ H x y v u Q I rx ry q hs
 ·exact h' value slice pins s σ H x y v u Q I rx ry q hs
theorem Hq{r:R2}(hr:KI X r)(ha:PE X a ta)(hb:PE X b tb)(hs:nZ b):PE X (.Subscript a b pos) (QD r ta tb):=by
 intro pins s σ H Q I h
 exact Subscript_ (MP ha hb I h fun v u s2 x y H2 I2 rx ry q=>hr a b pins s2 σ H2 x y v u Q I2 rx ry q (hs _ _))
def Pu(K:W.Frag):R2:=fun x y H Q=>∃p xs i v,x=.ref p/\y=.int i/\ig K H p xs/\y3 xs i=some v/\Q v H
def PL(K:W.Frag):R2:=fun x y H Q=>∃p xs i v,x=.ref p/\y=.int i/\iY K H p xs/\y3 xs i=some v/\Q v H
def Qk:R2:=fun x y H Q=>∃z i c,x=.str z/\y=.int i/\z.length<=sizeLine/\y3 z.cps.toList i=some c/\Q (.str ⟨#[c]⟩) H
theorem xk:KI X (Pu X.K):=by
 intro value slice pins s σ H x y v u Q I rx ry h hs
 obtain⟨p,xs,i,z,rfl,rfl,hq,he,q⟩:=h
 cases rx
 obtain⟨t,rfl⟩:=ry
 obtain⟨its,r,pl,hz⟩:=I.list hq
 obtain⟨j,h1,h2,h3,h4,h5⟩:=vt he
 obtain⟨w,ew,rw'⟩:=r.get h2
 have hl:=r.length
 have hn:=rh
 have fin:EP X pins σ Q w s:=⟨z,H,I,rw',q⟩
 by_cases h0:0<=i
 ·have hj:i.toNat=j:=by
   rw[seqIndex_of h0 h5] at h1
   exact xD h1
  exact item_listR pl.isList h0 (by omega) (by rw[hj];simpa using ew) fin hs
 ·have hj:(i+(its.toArray.size:Int)).toNat=j:=by
   rw[seqIndex_neg (by omega) h4] at h1
   rw[zH,<- hl]
   exact xD h1
  exact subscriptTail_builtinR (x:=w) pl.isList.typeIs slot_list_getitem.lookup
   (wpAny_getItem_list_neg (Q:=fun r s'=>r=w/\EP X pins σ Q r s') pl.isList (by omega) (by rw[zH]<;>omega) (by omega) (by rw[hj];simpa using ew) ⟨rfl,fin⟩) hs
theorem BE:KI X (PL X.K):=by
 intro value slice pins s σ H x y v u Q I rx ry h hs
 obtain⟨p,xs,i,z,rfl,rfl,hq,he,q⟩:=h
 cases rx
 obtain⟨t,rfl⟩:=ry
 obtain⟨its,r,pl,hz⟩:=I.tuple hq
 obtain⟨j,h1,h2,h3,h4,h5⟩:=vt he
 obtain⟨w,ew,rw'⟩:=r.get h2
 have hl:=r.length
 have hn:=rh
 have fin:EP X pins σ Q w s:=⟨z,H,I,rw',q⟩
 exact subscriptTail_builtinR (x:=w) pl.typeIs slot_tuple_getitem.lookup
  (getItem_tuple (j:=j) (Q:=fun r s'=>r=w/\EP X pins σ Q r s') pl (by omega) (by omega) (by rw[zH,<- hl];exact h1) (by simpa using ew) ⟨rfl,fin⟩) hs
theorem NV:KI X Qk:=by
 intro value slice pins s σ H x y v u Q I rx ry h hs
 obtain⟨z,i,c,rfl,rfl,hz,he,q⟩:=h
 obtain⟨t,rfl⟩:=rx
 obtain⟨t',rfl⟩:=ry
 obtain⟨j,h1,h2,h3,h4,h5⟩:=vt he
 have hl:z.cps.toList.length=z.length:=by simp[Str.length]
 rw[hl] at h1 h4 h5
 have hn:=rh
 exact tail_any (typeIs_str s z t) slot_str_getitem.lookup (getItem_str (c:=c) (by
  have e1:decide (i < -(2 ^ 63:Int))=false:=zY (by omega)
  have e2:decide (i >= 2 ^ 63)=false:=zY (by omega)
  rw[e1,e2,Bool.or_false]) (by rw[h1];simpa using h2) ⟨.str ⟨#[c]⟩,H,I.tok _,⟨_,rfl⟩,q⟩) hs
def R0(K:W.Frag):R2:=fun x y H Q=>Pu K x y H Q\/PL K x y H Q\/Qk x y H Q
theorem Nx:KI X (R0 X.K):=xk.or (BE.or NV)
theorem BJ(its:List Value)(n j:Nat)(u:Value):Obj.mapSeq (·.setIfInBounds j u) { cls:=.type "list",data:=.seq its.toArray n }={ cls:=.type "list",data:=.seq (its.set j u).toArray n }:=by
 simp[Obj.mapSeq]
theorem Inv.lst{pins:List (Addr×Obj)}{σ:St}{H:Hp}{s:Shared}{p:Addr}{xs:List V}(I:Inv X pins σ H s)(h:H p=some (.lst xs)) :
  ∃ (its:List Value) (n:Nat),aQ xs its/\s.heap.get? p=some { cls:=.type "list",data:=.seq its.toArray n }/\xs.length<=sizeLine:=by
 obtain⟨z,its,n,r,e⟩:=I.hok p _ h
 exact⟨its,n,r,e,z⟩
theorem Inv.lstUpd{pins:List (Addr×Obj)}{σ:St}{H:Hp}{s:Shared}{p:Addr}{xs ys:List V}{its its':List Value}{n n':Nat}{f:Obj->Obj}(I:Inv X pins σ H s)(h:H p=some (.lst xs))
  (ho:s.heap.get? p=some { cls:=.type "list",data:=.seq its.toArray n }) (hf:f { cls:=.type "list",data:=.seq its.toArray n }={ cls:=.type "list",data:=.seq its'.toArray n' }) (r:aQ ys its') (hz:ys.length<=sizeLine) (t:Nat) :
  Inv X pins σ (upd H p (.lst ys)) { s with heap:=s.heap.update p f,toks:=t }:=by
 have e:(s.heap.update p f).get? p=some { cls:=.type "list",data:=.seq its'.toArray n' }:=by
  rw[Heap.get?_update_self f ho (by rw[hf]<;>rfl),hf]
 refine I.write (x:=p) (e:=p) (by rw[h];trivial) (.inl rfl) (fun b u hb q=>(xN _ _ (jN hb)).trans q) ⟨_,e⟩ ?_
 exact⟨hz,its',n',r,e⟩
def Qb:V->V->V->Hp->(Hp->Prop)->Prop:=fun o i v H Q=>∃p xs k j,o=.ref p/\i=.int k/\H p=some (.lst xs)/\JO xs.length k=some j/\Q (upd H p (.lst (xs.set j v)))
theorem set_list:PZ X Qb:=by
 intro pins s σ H o i v ov iv u Q I ro ri rv h
 obtain⟨p,xs,k,j,rfl,rfl,hp,hj,q⟩:=h
 cases ro
 obtain⟨t,rfl⟩:=ri
 obtain⟨its,n,r,ho,hz⟩:=I.lst hp
 obtain⟨h1,h2,h3,h4⟩:=D1 hj
 have hl:=r.length
 have hn:=rh
 have I':Inv X pins σ (upd H p (.lst (xs.set j v))) { s with heap:=s.heap.update p (Obj.mapSeq (·.setIfInBounds j u)) } :=
  I.lstUpd hp ho (BJ its n j u) (r.set rv j) (by rw[yB];exact hz) s.toks
 by_cases h0:0<=k
 ·have hk:k.toNat=j:=by
   rw[seqIndex_of h0 h4] at h1
   exact xD h1
  exact W.ki_setAt ho h0 (by omega) (by rw[zH,<- hl];exact h4) (by rw[hk];exact⟨_,I',q⟩)
 ·have hk:(k+(its.toArray.size:Int)).toNat=j:=by
   rw[seqIndex_neg (by omega) h3] at h1
   rw[zH,<- hl]
   exact xD h1
  exact W.ki_setBack ho (by omega) (by rw[zH,<- hl];exact h3) (by omega) (by rw[hk];exact⟨_,I',q⟩)
theorem wt:eK X (.builtin "len") (fun xs H Q=>∃p ys,xs=[.ref p]/\(ig X.K H p ys\/iY X.K H p ys)/\Q (.int ys.length) H):=by
 intro pins s σ H xs us Q I r h
 obtain⟨p,ys,rfl,hq,q⟩:=h
 obtain⟨u,rfl,rx⟩:=vals1 r
 cases rx
 have hn:=rh
 rcases hq with hq|hq
 ·obtain⟨its,r',pl,hz⟩:=I.list hq
  have hlen:=r'.length
  exact Calls.call_len_list pl.isList (by simp only[zH]<;>omega) ⟨.int ys.length,H,I.tok _,⟨s.toks+1,by rw[zH,hlen]⟩,q⟩
 ·obtain⟨its,r',pl,hz⟩:=I.tuple hq
  have hlen:=r'.length
  exact len_tuple pl (by simp only[zH]<;>omega) ⟨.int ys.length,H,I.tok _,⟨s.toks+1,by rw[zH,hlen]⟩,q⟩
theorem yd:eK X (.type "list") (fun xs H Q=>∃p ys,xs=[.ref p]/\(ig X.K H p ys\/iY X.K H p ys)/\∀l,H l=none->Q (.ref l) (upd H l (.lst ys))):=by
 intro pins s σ H xs us Q I r h
 obtain⟨p,ys,rfl,hq,q⟩:=h
 obtain⟨u,rfl,rx⟩:=vals1 r
 cases rx
 have fin:∀ (its:List Value),aQ ys its->ys.length<=sizeLine->∀ (h':Heap) (c':Nat),(∀b o',s.heap.get? b=some o'->h'.get? b=some o') ->
   h'.get? s.heap.objs.size=some { cls:=.type "list",dict:=none,data:=.seq its.toArray c',slots:=#[] }->EP X pins σ Q (.ref s.heap.objs.size) { s with heap:=h' }:=fun its r' hz h' c' kp e =>
  ⟨.ref s.heap.objs.size,_,I.laid (t':=s.toks) kp (yM _) (show eL X.prog X.w _ h' _ (.lst ys) from ⟨hz,its,c',r',e⟩),rfl,q _ (I.hok.fresh (yM _))⟩
 rcases hq with hq|hq
 ·obtain⟨its,r',pl,hz⟩:=I.list hq
  have hlen:=r'.length
  obtain⟨o,ho,hc,n,hd⟩:=pl.isList
  exact call_list_seq p (.inl rfl) ho hc hd (fun h' c' kp e=>fin its r' hz h' c' kp e) (by simp only[zH]<;>omega)
 ·obtain⟨its,r',pl,hz⟩:=I.tuple hq
  have hlen:=r'.length
  obtain⟨o,ho,hc,n,hd⟩:=pl
  exact call_list_seq p (.inr rfl) ho hc hd (fun h' c' kp e=>fin its r' hz h' c' kp e) (by simp only[zH]<;>omega)
theorem ub:eK X (.type "tuple") (fun xs H Q=>∃p ys,xs=[.ref p]/\((ig X.K H p ys/\∀l,H l=none->Q (.ref l) (upd H l (.tup ys)))\/(iY X.K H p ys/\Q (.ref p) H))):=by
 intro pins s σ H xs us Q I r h
 obtain⟨p,ys,rfl,h⟩:=h
 obtain⟨u,rfl,rx⟩:=vals1 r
 cases rx
 rcases h with ⟨hq,q⟩|⟨hq,q⟩
 ·obtain⟨its,r',pl,hz⟩:=I.list hq
  have hlen:=r'.length
  refine call_tuple_list pl.isList (fun h' kp=>?_) (by simp only[zH]<;>omega)
  have I1:Inv X pins σ H { s with heap:=h' }:=I.kept (t':=s.toks) kp
  have I2:Inv X pins σ (upd H h'.objs.size (.tup ys)) { s with heap:=h'.push { cls:=.type "tuple",data:=.seq its.toArray } } :=
   I1.laid (t':=s.toks) (fun b o e=>zT _ e) (yM _) (show eL X.prog X.w _ _ _ (.tup ys) from ⟨hz,its,r',sJ.new _ _⟩)
  exact⟨.ref h'.objs.size,_,I2,rfl,q _ (I1.hok.fresh (yM _))⟩
 ·obtain⟨its,r',pl,hz⟩:=I.tuple hq
  exact call_tuple_same pl ⟨.ref p,H,I,rfl,q⟩
def Se(K:W.Frag)(T:String)(x:V)(H:Hp):Prop:=match x with
 | .str _=>T="str"
 | .int _=>T="int"
 | .ref p=>(T="list"/\∃xs,ig K H p xs)\/(T="tuple"/\∃xs,iY K H p xs) \/
   (T="dict"/\((∃kvs,H p=some (.dK kvs))\/∃kvs,H p=some (.dT kvs)))\/(T="set"/\∃S n,H p=some (.set S n))
 | _=>False
theorem Nf{pins:List (Addr×Obj)}{σ:St}{H:Hp}{s:Shared}{T:String}{x:V}{v:Value}(I:Inv X pins σ H s)(r:RelV x v)(ty:Se X.K T x H) :
  s.TypeIs v T/\∀a,v=.ref a->∃ob,s.heap.get? a=some ob/\ob.dict=none:=by
 cases x with
 | str z =>
  obtain⟨t,rfl⟩:=r
  cases (show T="str" from ty)
  exact⟨typeIs_str s z t,fun _ e=>nomatch e⟩
 | int i =>
  obtain⟨t,rfl⟩:=r
  cases (show T="int" from ty)
  exact⟨wL s i t,fun _ e=>nomatch e⟩
 | ref p =>
  cases r
  rcases ty with ⟨rfl,xs,hq⟩|⟨rfl,xs,hq⟩|⟨rfl,hk⟩|⟨rfl,S,n,hk⟩
  ·obtain⟨its,_,pl,_⟩:=I.list hq
   refine⟨pl.isList.typeIs,fun a e=>?_⟩
   cases e
   obtain⟨o,n,e,c,hd,_⟩:=pl
   exact⟨o,e,hd⟩
  ·rcases hq with hq|⟨o,its,n,hk,hc,hd,_⟩
   ·obtain⟨_,_,_,⟨o,e1,e2,_⟩,o2,e3,e4⟩:=hq.ok I.hok
    exact⟨⟨o,e1,e2⟩,fun a e=>by cases e;exact⟨o2,e3,e4⟩⟩
   ·exact⟨⟨o,I.kIn p o hk,hc⟩,fun a e=>by cases e;exact⟨o,I.kIn _ o hk,hd⟩⟩
  ·have z:∃o,s.heap.get? p=some o/\o.ExactDict:=by
    rcases hk with ⟨kvs,hk⟩|⟨kvs,hk⟩
    ·obtain⟨_,_,_,_,o,_,_,e,ex,_⟩:=I.hok p _ hk
     exact⟨o,e,ex⟩
    ·obtain⟨_,_,_,_,o,_,_,e,ex,_⟩:=I.hok p _ hk
     exact⟨o,e,ex⟩
   obtain⟨o,e,ex⟩:=z
   refine⟨⟨o,e,ex.1⟩,fun a e2=>?_⟩
   cases e2
   exact⟨o,e,ex.2.1⟩
  ·obtain⟨o,_,_,_,e,ex,_⟩:=I.hok p _ hk
   refine⟨⟨o,e,ex.1⟩,fun a e2=>?_⟩
   cases e2
   exact⟨o,e,ex.2.1⟩
 | _=>exact False.elim ty
def Sz(K:W.Frag)(T:String)(r:V->List V->Hp->VK->Prop)(to:TE)(t:TA):TE:=fun σ H Q=>to σ H fun x H1=>Se K T x H1/\t σ H1 fun xs H2=>r x xs H2 Q
variable {o e:Expr}{es:List Expr}{to:TE}{t:TA}{name:Str}{apos cpos:Pos}{T id:String}{r:V->List V->Hp->VK->Prop}
theorem rA(pa:PlainAttrs T)(slot:Slot T name id)(hty:typeOf (.builtin id)=pure (.type "method_descriptor"))(hm:R7 X id r)(ho:PE X o to)(ha:PA X (e::es) t)
  (hbase:attributeBase o name X.env (eval o X.env)=eval o X.env:=by rfl)
  (hfew:((backTo cpos (starEach (e::es) X.env)).all (fun x=>!x.1)&&(backToKw cpos (keywordEach [] X.env)).all (fun x=>x.1.isSome)
   &&decide ((e::es).length+([]:List Keyword).length+(if ([]:List Keyword).isEmpty then 0 else 1) < 30))=true:=by rfl)
  (hline:(apos.endLine == cpos.line)=true:=by rfl) (hs:starEach (e::es) X.env=(false,eval e X.env)::starEach es X.env:=by rfl) (hplain:(backTo cpos (starEach es X.env)).any (·.1)=false:=by rfl) :
  PE X (.Call (.Attribute o name apos) (e::es) [] cpos) (Sz X.K T r to t):=by
 intro pins s σ H Q I h
 refine wpAny_Call_method_late hbase hfew hline rfl (cx (ho pins s σ H _ I h) fun v s1 ⟨x,H1,I1,r1,ty,q1⟩=>?_)
 obtain⟨h1,h2⟩:=Nf I1 r1 ty
 refine⟨T,id,pa,slot,hty,h1,h2,?_⟩
 have hA:=ha cpos pins s1 σ H1 _ I1 q1
 rw[hs] at hA ⊢
 refine Calls.callWith_builtin (by show (false||(backTo cpos (starEach es X.env)).any (·.1))=false;rw[hplain]<;>rfl) (Calls.evalArgs_plain ?_)
 exact cx hA fun us s2 ⟨vs,H2,I2,r2,q2⟩=>hm pins s2 σ H2 x vs v us Q I2 r1 r2 q2
/- xs.append(e),list.index on a module's tuple .. are R7 facts of 06m -/
end
def MH(X:Cx)(id:String)(r:V->List V->Hp->VK->Prop):Prop :=
 ∀ (pins:List (Addr×Obj)) (s:Shared) (σ:St) (H:Hp) (x:V) (xs:List V) (v:Value) (us:List Value) (Q:VK),Inv X pins σ H s->RelV x v->aQ xs us->r x xs H Q ->
  wpAny (model X.prog X.w) X.A (call (.builtin id) (v::us)) (EP X pins σ Q) X.xe s
theorem aQ.one:∀ {x:V}{us:List Value},aQ [x] us->∃u,us=[u]/\RelV x u
 | _,_,.cons r .nil=>⟨_,rfl,r⟩
theorem aQ.two:∀ {x y:V}{us:List Value},aQ [x,y] us->∃u v,us=[u,v]/\RelV x u/\RelV y v
 | _,_,_,.cons r (.cons q .nil)=>⟨_,_,rfl,r,q⟩
theorem aQ.rep{xs:List V}{us:List Value}(h:aQ xs us):∀k:Nat,aQ (List.replicate k xs).flatten (List.replicate k us).flatten
 | 0=>.nil
 | k+1=>by
  rw[xE,xE,qM,qM]
  exact aQ.append h (aQ.rep h k)
theorem foldl_rep(its:List Value):∀ (k:Nat) (acc:List Value),
  List.foldl (fun x1 x2=>x1++x2) acc.toArray (List.replicate k its.toArray)=(acc++(List.replicate k its).flatten).toArray
 | 0,acc=>by simp
 | k+1,acc=>by
  have e:acc.toArray++its.toArray=(acc++its).toArray:=by simp
  have e2:(acc++its)++(List.replicate k its).flatten=acc++(List.replicate (k+1) its).flatten:=by
   rw[xE,qM,List.append_assoc]
  rw[<- e2,<- foldl_rep its k (acc++its),<- e,xE,yI]
section
variable {X:Cx}{pins:List (Addr×Obj)}{σ:St}{H:Hp}{s:Shared}{l b:Addr}{xs ys zs:List V}
theorem Inv.lset{its its':List Value}{n:Nat}{f:Array Value->Array Value}{t':Nat}(I:Inv X pins σ H s)(hH:H l=some (.lst xs))
  (e:s.heap.get? l=some { cls:=.type "list",data:=.seq its.toArray n }) (hf:f its.toArray=its'.toArray) (hv:aQ ys its') (hz:ys.length<=sizeLine) :
  Inv X pins σ (upd H l (.lst ys)) { s with heap:=s.heap.update l (Obj.mapSeq f),toks:=t' }:=by
 have q:=PySem.IsL.update e f
 rw[hf] at q
 refine I.write (x:=l) (e:=l) (by rw[hH];exact trivial) (.inl rfl) (fun b' u hb hu=>(xN s.heap (Obj.mapSeq f) (jN hb)).trans hu) ⟨_,q⟩ ?_
 exact⟨hz,its',_,hv,q⟩
theorem Inv.lnew{its:List Value}{t':Nat}(I:Inv X pins σ H s)(hv:aQ ys its)(hz:ys.length<=sizeLine) :
  Inv X pins σ (upd H s.heap.objs.size (.lst ys)) { s with heap:=s.heap.push { cls:=.type "list",data:=.seq its.toArray },toks:=t' } :=
 I.laid (fun _ _ q=>zT _ q) (yM _) ⟨hz,its,0,hv,zW _ rfl⟩
theorem Inv.fresh(I:Inv X pins σ H s):H s.heap.objs.size=none:=I.hok.fresh (yM _)
theorem Inv.lstM(I:Inv X pins σ H s)(hH:H l=some (.lst xs)):xs.length<=sizeLine/\∃ (its:List Value) (n:Nat),aQ xs its/\xs.length=its.length/\s.heap.get? l=some { cls:=.type "list",data:=.seq its.toArray n }:=by
 obtain⟨z,its,n,r,e⟩:=I.hok l _ hH
 exact⟨z,its,n,r,r.length,e⟩
theorem AQ{n:Nat}(h:n<=sizeLine):Builtin.List.listTooLong n=false:=by
 unfold Builtin.List.listTooLong
 exact zY (by omega)
end
section
variable {X:Cx}
def J6:V->List V->Hp->VK->Prop:=fun x vs H Q=>∃l xs y,x=.ref l/\vs=[y]/\H l=some (.lst xs)/\xs.length < sizeLine/\Q .non (upd H l (.lst (xs++[y])))
theorem uM:MH X "list.append" J6:=by
 intro pins s σ H x vs v us Q I rx rv h
 obtain⟨l,xs,y,rfl,rfl,hH,hz,q⟩:=h
 cases rx
 obtain⟨u,rfl,ru⟩:=rv.one
 obtain⟨z,its,n,r,hl,e⟩:=I.lstM hH
 refine qX F.slot_list_append ⟨_,e,rfl⟩ F.entry_list_append (F.args_list_append_2 _ _) (PySem.list_append l its.toArray n u (by rw[zH];omega)) ⟨e,?_⟩
 refine⟨.non,_,I.lset (its':=its++[u]) hH e (by simp) (r.append (.cons ru .nil)) ?_,rfl,q⟩
 rw[zN,xC]
 omega
def Kx:V->List V->Hp->VK->Prop:=fun x vs H Q=>∃l b xs zs,x=.ref l/\vs=[.ref b]/\H l=some (.lst xs)/\H b=some (.lst zs)/\xs.length+zs.length<=sizeLine/\Q .non (upd H l (.lst (xs++zs)))
theorem F0:MH X "list.extend" Kx:=by
 intro pins s σ H x vs v us Q I rx rv h
 obtain⟨l,b,xs,zs,rfl,rfl,hH,hB,hz,q⟩:=h
 cases rx
 obtain⟨u,rfl,ru⟩:=rv.one
 cases ru
 obtain⟨z,its,n,r,hl,e⟩:=I.lstM hH
 obtain⟨z2,its2,n2,r2,hl2,e2⟩:=I.lstM hB
 have hsz:its.toArray.size+its2.toArray.size<=sizeLine:=by rw[zH,zH];omega
 have hlong:¬ (!its.toArray.isEmpty&&Builtin.List.listTooLong (its.toArray.size+its2.toArray.size))=true:=by
  rw[AQ hsz,kZ]
  exact yZ
 refine qX F.slot_list_extend ⟨_,e,rfl⟩ F.entry_list_extend (F.args_list_extend_2 _ _)
  (AutoSeq1.list_extend_list_list_0 l its.toArray n b its2.toArray n2 hlong (by rw[zH];omega) (by omega)) ⟨e,e2,?_⟩
 refine⟨.non,_,I.lset (its':=its++its2) hH e (by simp) (r.append r2) ?_,rfl,q⟩
 rw[zN]
 omega
def Rb:R2:=fun x y H Q=>∃l k xs,x=.ref l/\y=.int k/\H l=some (.lst xs)/\-(2 ^ 63)<=k/\k < 2 ^ 63/\xs.length * k.toNat<=sizeLine /\
 ∀p,H p=none->Q (.ref p) (upd H p (.lst (List.replicate k.toNat xs).flatten))
theorem len_rep{α:Type}(xs:List α)(k:Nat):(List.replicate k xs).flatten.length=k * xs.length:=by
 induction k with
 | zero=>simp
 | succ k ih=>rw[xE,qM,zN,ih,Nat.succ_mul,Nat.add_comm]
theorem M3:iw X (binaryOp .Mult) Rb:=by
 intro pins s σ H x y v u Q I rx ry h
 obtain⟨l,k,xs,rfl,rfl,hH,h1,h2,hz,q⟩:=h
 cases rx
 obtain⟨t,rfl⟩:=ry
 obtain⟨z,its,n,r,hl,e⟩:=I.lstM hH
 have hlen:its.toArray.size * k.toNat<=sizeLine:=by rw[zH,<- hl];exact hz
 have hcap:¬ its.toArray.size * k.toNat > (2 ^ 63 - 1) / 8:=by
  have:(sizeLine:Nat)<=(2 ^ 63 - 1) / 8:=by decide
  omega
 have hfit:¬ (!Builtin.List.listFitsIndex k)=true:=by
  rw[fitsIndex_both h1 h2]
  exact yZ
 have hlong:¬ Builtin.List.listTooLong (its.toArray.size * k.toNat)=true:=by
  rw[AQ hlen]
  exact yZ
 have hnew:List.foldl (fun x1 x2=>x1++x2) #[] (List.replicate (if its.toArray.isEmpty=true then 0 else k.toNat) its.toArray)=(List.replicate k.toNat its).flatten.toArray:=by
  have f0:∀m:Nat,List.foldl (fun x1 x2=>x1++x2) #[] (List.replicate m its.toArray)=(List.replicate m its).flatten.toArray:=fun m=>by
   have:=foldl_rep its m []
   rw[xO] at this
   exact this
  rw[f0]
  cases its with
  | nil=>simp
  | cons a r'=>rw[yN (by simp)]
 refine wpAny_binaryOp_repeat_ref (T:="list") (U:="int") (by decide) ⟨_,e,rfl⟩ (fun s'=>wL s' k t) noFill_list_mul F.fills_int_mul vX repeat_list F.slot_int_index.lookup
  (qX vX (wL s k t) F.entry_int_rmul (F.args_int_rmul_2 _ _) (int___rmul___int_list k t l its.toArray n)
   ⟨e,rfl,⟨_,e,rfl⟩,qX F.slot_list_mul ⟨_,e,rfl⟩ F.entry_list_mul (F.args_list_mul_2 _ _) (AutoListH.list___mul___list_int_3 l its.toArray n k t hfit hcap hlong) ⟨e,?_⟩⟩)
 rw[hnew]
 exact⟨.ref _,_,I.lnew (t':=s.toks) (r.rep k.toNat) (by rw[len_rep,Nat.mul_comm];exact hz),rfl,q _ I.fresh⟩
end
section
variable {prog:Program}{w:World}{A:Around}{E:Value->Shared->Prop}{s:Shared}
end
section
variable {X:Cx}
end
end L2
namespace Att
open PySem PySem.W PySem.Calls PyProof.Rows
theorem ints_of_wellAll{P:Params}{h:Heap}:∀ (ns:List Int) (vs:List Value),WellAll P h vs (ns.map WData.int)->IntsAre vs ns:=by
 intro ns
 induction ns with
 | nil =>
  intro vs w
  rw[yU] at w
  cases w
  exact .nil
 | cons n ns ih =>
  intro vs w
  rw[zI] at w
  cases w with
  | cons a b =>
   cases a
   exact .cons _ _ (ih _ b)
theorem script_of{l:OpenLaw}{n:Nat}(hn:l.most=some n){P:Params}{h:Heap}{args:List WData}{vals:List Value}
  (hpre:l.row.toRowW.claim.pre args=true) (hwl:WellAll P h vals args) :
  ∃a vs ns,vals=[Value.ref a]/\args=[WData.list (ns.map WData.int)]/\h.get? a=some { cls:=.type "list",data:=.seq vs.toArray }/\IntsAre vs ns/\ns.length<=n:=by
 have hsh:WShape.hasAll [] args [.list .int]=true:=(pre_splitW hpre).1
 have hc:l.pre.holds [] { args:=args }=true:=(pre_splitW hpre).2
 obtain⟨d,r,rfl,h1,h2⟩:=hasAllW_cons hsh
 obtain rfl:=hasAllW_nil h2
 obtain⟨xs,rfl,h3⟩:=hasW_list h1
 obtain⟨ns,rfl⟩:=items_int h3
 have hlen:ns.length<=n:=by
  unfold OpenLaw.pre at hc
  have h4:(WTm.not (.lt (.lit (.int (n:Int))) (.len (.arg 0)))).holds [] { args:=[.list (ns.map .int)] }=true:=by
   have h4:=(holds_andW hc).1
   rw[hn] at h4
   exact h4
  have h5:=condW_of h4 (w_not (w_lt w_lit (w_len_list (w_arg rfl))))
  rw[zD] at h5
  refine Nat.le_of_not_lt fun q=>?_
  have q':(n:Int) < ((ns.length:Nat):Int):=by omega
  first
   | (rw[zZ q'] at h5;exact absurd h5 (by decide))
   | (simp at h5;omega)
 cases hwl with
 | cons w1 w2 =>
  cases w2
  cases w1 with
  | list ho hall=>exact⟨_,_,ns,rfl,rfl,ho,ints_of_wellAll ns _ hall,hlen⟩
theorem post_true(l:OpenLaw)(args:List WData):l.row.toRowW.claim.post args (.bool true) args=true :=
 postW_of (r:=l.row.toRowW) (X:=(true == true))
  (show WShape.has [] (.bool true) .bool=true by first|rfl|decide|simp[WShape.has,WShape.arms,WShape.armsAll])
  (show (WTm.eq .res (.lit (.bool true))).value [] { args:=args,res:=some (.bool true),after:=args }=some (.bool (true == true)) from w_eq_bool (w_res rfl) w_lit) rfl
theorem attach_call{l:OpenLaw}{n:Nat}{q:Program}{loose:List Str}{XP:(Str->Option Value)->Heap->Prop}{YP:World->Heap->Prop}{d:DefRec}
  (hn:l.most=some n) (hdf:d.params.defaults=[])
  (call:∀ (w:World) (s₀ s₁:Shared) (mg mb:Str->Option Value) (fa:Addr) (o:Obj) (pm cd doc:Value) (a:Addr) (vs:List Value) (ns:List Int),
   Ground q loose [] XP w s₀ mg mb s₁.heap->YP w s₁.heap ->
   s₁.heap.get? fa=some o->o.data=.func (docDef d.name d.params d.body d.scope pm cd doc)->s₁.heap.CodeRec cd d.name->mg d.name=some (.ref fa) ->
   s₁.heap.get? a=some { cls:=.type "list",data:=.seq vs.toArray }->IntsAre vs ns->ns.length<=n->s₁.gens=#[] ->
   codeAny (model l.prog w) callerA (.call (.ref fa) ⟨[.ref a],[]⟩) (fun r s'=>r=.ok (.ret (.bool true))/\OldK s₁.heap s'.heap/\s'.os=s₁.os/\AllBare s'.gens) s₁) :
  WalkO q loose XP YP l.row.toRowW d [] (fun f vs=>PySem.call f vs):=by
 intro w s₀ s₁ mg mb G Y fa o pm cd doc dV kV ho hd hcd hD hmg hg args vals as hpre hlay hrd hwl hlo
 obtain rfl:dV=.none:=Dflts.none hD hdf
 obtain rfl:kV=.none:=Dflts.noKw hD
 obtain⟨a,vs,ns,rfl,rfl,hobj,hints,hlen⟩:=script_of hn hpre hwl
 refine enter_call (jS (call w s₀ s₁ mg mb fa o pm cd doc a vs ns G Y ho (fd_plain hd) hcd hmg hobj hints hlen hg) fun r s' hq=>?_)
 obtain⟨rfl,h2,h3,h4⟩:=hq
 exact⟨.inl ⟨.bool true,.bool true,[],rfl,fun _=>rfl,.bool true,post_true l _,fun _=>⟨List.Pairwise.nil,fun _ hm=>(nomatch hm)⟩⟩,h2,h3,h4⟩
section
variable {prog:Program}{w:World}{A:Around}{E:Value->Shared->Prop}{s:Shared}{K:Frag}
end
end Att
namespace L2
open PySem PySem.Spec PyProof.Rows
theorem uO:∀ {vs:List Value}{ns:List Int},IntsAre vs ns->aQ (ns.map V.int) vs
 | _,_,.nil=>.nil
 | _,_,.cons n t h=>.cons ⟨t,rfl⟩ (uO h)
abbrev Hh:FB:=fun _ _ _ _ _ _=>False
abbrev E0:XK:=fun _ _ _=>False
theorem L9{X:Cx}:eh Hh X E0:=fun _ _ _ _ _ _ _ h=>h.elim
structure GK(K:W.Frag)(x qual:Str)(st:Stmt)(f:Addr)(fd:FuncData):Prop where
 ex:∃ (oc:Value) (od:Option Addr) (kV doc pm:Value) (an:Option Addr) (cdv ct:Value) (osl:Array (Option Value)),
  fd=W.fnOf x qual (gY st) (bC st) (aj st) .none kV doc pm an cdv ct/\K.lookup f=some ⟨oc,od,.func fd,osl⟩/\W.codeIn K cdv qual=true
 kp:W.keepIn K (.ref f)=true
section
variable {P:Program}{w:World}{K:W.Frag}{mg:Str->Option Value}{base:Heap}
theorem GK.binds{x qual:Str}{st:Stmt}{f:Addr}{fd:FuncData}{ps:List Str}(F:GK K x qual st f fd)
  (h:∀ (kV doc pm:Value) (an:Option Addr) (cdv ct:Value) (us:List Value),us.length=ps.length->bindArgs (W.fnOf x qual (gY st) (bC st) (aj st) .none kV doc pm an cdv ct) ⟨us,[]⟩=pure (ps.zip us)):Binds K fd ps []:=by
 obtain⟨oc,od,kV,doc,pm,an,cdv,ct,osl,rfl,lk,hcd⟩:=F.ex
 exact .all (h kV doc pm an cdv ct)
theorem wk{x qual:Str}{st:Stmt}{f:Addr}{oc:Value}{od an:Option Addr}{osl:Array (Option Value)}{kV doc pm cdv ct:Value}(l:K.lookup f=some ⟨oc,od,.func (W.fnOf x qual (gY st) (bC st) (aj st) .none kV doc pm an cdv ct),osl⟩)
  (c:W.codeIn K cdv qual=true) (k:W.keepIn K (.ref f)=true):GK K x qual st f (W.fnOf x qual (gY st) (bC st) (aj st) .none kV doc pm an cdv ct):=⟨⟨oc,od,kV,doc,pm,an,cdv,ct,osl,rfl,l,c⟩,k⟩
end
section
variable {X:Cx}
end
theorem p9{A B:Prop}(h:B):if false=true then A else B:=by
 rw[yN yZ]
 exact h
theorem tG{A B:Prop}(h:A):if true=true then A else B:=by
 rw[yL rfl]
 exact h
def aW(H H':Hp):Prop:=∀b o,H b=some o->H' b=some o
theorem aW.refl(H:Hp):aW H H:=fun _ _ h=>h
theorem aW.trans{H H1 H2:Hp}(a:aW H H1)(b:aW H1 H2):aW H H2:=fun c o h=>b c o (a c o h)
theorem aW.free{H H':Hp}(e:aW H H'){l:Addr}(h:H' l=Option.none):H l=Option.none:=by
 cases q:H l with
 | none=>rfl
 | some o =>
  rw[e l o q] at h
  cases h
theorem aW.seq{K:W.Frag}{H H':Hp}{a:Addr}{xs:List V}(e:aW H H')(h:ig K H a xs):ig K H' a xs:=by
 rcases h with (h|⟨o,h⟩)|h
 ·exact .inl (.inl (e _ _ h))
 ·exact .inl (.inr ⟨o,e _ _ h⟩)
 ·exact .inr h
theorem ck:∀ (names:List (Str×NameKind)) (n:Nat) (acc:List (Str×Addr)),cellsFrom n names acc=cellsFrom n names []++acc
 | [],_,_=>rfl
 | (name,kind)::r,n,acc=>by
  unfold cellsFrom
  split
  ·rw[ck r (n+1) ((name,n)::acc),ck r (n+1) [(name,n)]]
   simp
  ·exact ck r n acc
theorem jz{α:Type}{x:Str}{c:α}:∀ {l m:List (Str×α)},(l++m).lookup x=some c->l.lookup x=some c\/(l.lookup x=none/\m.lookup x=some c)
 | [],_,h=>.inr ⟨rfl,h⟩
 | (k,v)::r,m,h=>by
  have ih:=@jz α x c r m
  rw[xF,yA] at h
  rw[yA]
  cases e:x == k with
  | true=>rw[e] at h;exact .inl h
  | false=>rw[e] at h;exact ih h
theorem j8{α:Type}{x:Str}{c:α}:∀ {l m:List (Str×α)},l.lookup x=some c->(l++m).lookup x=some c
 | [],_,h=>by cases h
 | (k,v)::r,m,h=>by
  have ih:=@j8 α x c r m
  rw[yA] at h
  rw[xF,yA]
  cases e:x == k with
  | true=>rw[e] at h;exact h
  | false=>rw[e] at h;exact ih h
theorem iE{α:Type}{x:Str}:∀ {l m:List (Str×α)},l.lookup x=none->(l++m).lookup x=m.lookup x
 | [],_,_=>rfl
 | (k,v)::r,m,h=>by
  have ih:=@iE α x r m
  rw[yA] at h
  rw[xF,yA]
  cases e:x == k with
  | true=>rw[e] at h;cases h
  | false=>rw[e] at h;exact ih h
theorem gz:∀ (names:List (Str×NameKind)) (n:Nat) (x:Str) (c:Addr),(x,c)∈cellsFrom n names []->(x,NameKind.cell)∈names
 | [],_,_,_,h=>by cases h
 | (name,kind)::r,n,x,c,h=>by
  unfold cellsFrom at h
  split at h
  ·rename_i hk
   rw[ck] at h
   rcases List.mem_append.mp h with h|h
   ·exact zC _ (gz r _ x c h)
   ·have:(x,c)=(name,n):=by simpa using h
    cases this
    have:kind=.cell:=by simpa using hk
    subst this
    exact zE
  ·exact zC _ (gz r n x c h)
def eR(env:Env):List (Str×NameKind)->List (Str×Addr)->List (Str×Addr)
 | [],acc=>acc
 | (n,k)::r,acc=>if k == .free then eR env r ((n,(env.cells.lookup n).getD 0)::acc) else eR env r acc
theorem mS(env:Env):∀ (names:List (Str×NameKind)) (acc:List (Str×Addr)),(∀x∈names,x.2=.free->∃c,env.cells.lookup x.1=some c) ->
  (forIn names acc (fun (p:Str×NameKind) (cs:List (Str×Addr))=>(if p.2 == .free then (do let a <- cellOf env p.1;pure (.yield ((p.1,a)::cs))) else pure (.yield cs):Sem (ForInStep (List (Str×Addr))))))=pure (eR env names acc)
 | [],acc,_=>rfl
 | (n,k)::r,acc,h=>by
  rw[List.forIn_cons]
  have hr:=fun x hx=>h x (zC _ hx)
  unfold eR
  by_cases hk:k=.free
  ·obtain⟨c,hc⟩:=h (n,k) zE hk
   subst hk
   have e1:cellOf env n=pure c:=by
    have hc':env.cells.lookup n=some c:=hc
    unfold cellOf;rw[hc']
   have hc':env.cells.lookup n=some c:=hc
   simp only[beq_self_eq_true,xH,e1,pure_bind,hc',qG]
   exact mS env r _ hr
  ·have hb:(k == NameKind.free)=false:=by simpa using hk
   simp only[hb,yO,qP,pure_bind]
   exact mS env r _ hr
theorem m6{env:Env}{scope:Scope}(h:∀x∈scope.names,x.2=.free->∃c,env.cells.lookup x.1=some c):closureFor scope env=pure (eR env scope.names []):=by
 have:=mS env scope.names [] h
 unfold closureFor
 exact (bind_pure _).trans this
theorem lZ{env:Env}:∀ {names:List (Str×NameKind)}{acc:List (Str×Addr)},(∀x∈names,x.2=.free->∃c,env.cells.lookup x.1=some c)->(∀x c,(x,c)∈acc->env.cells.lookup x=some c) ->
  ∀x c,(x,c)∈eR env names acc->env.cells.lookup x=some c
 | [],acc,_,ha,x,c,hm=>ha x c hm
 | (n,k)::r,acc,h,ha,x,c,hm=>by
  unfold eR at hm
  have hr:=fun x hx=>h x (zC _ hx)
  split at hm
  ·rename_i hk
   have hk':k=.free:=by simpa using hk
   obtain⟨c',hc⟩:=h (n,k) zE hk'
   have hc:env.cells.lookup n=some c':=hc
   refine lZ hr (fun y d hy=>?_) x c hm
   rcases List.mem_cons.mp hy with e|hy
   ·cases e;rw[hc];rfl
   ·exact ha y d hy
  ·exact lZ hr ha x c hm
theorem gx{env:Env}:∀ {names:List (Str×NameKind)}{acc:List (Str×Addr)}{x:Str},(names.lookup x=some .free\/∃c,acc.lookup x=some c)->∃c,(eR env names acc).lookup x=some c
 | [],acc,x,h=>by
  rcases h with h|h
  ·cases h
  ·exact h
 | (n,k)::r,acc,x,h=>by
  unfold eR
  split
  ·rename_i hk
   refine gx ?_
   rcases h with h|⟨c,h⟩
   ·rw[yA] at h
    cases e:x == n with
    | true=>exact .inr ⟨_,by rw[yA,e]⟩
    | false=>rw[e] at h;exact .inl h
   ·refine .inr ?_
    rw[yA]
    cases e:x == n with
    | true=>exact⟨_,rfl⟩
    | false=>exact⟨c,h⟩
  ·rename_i hk
   refine gx ?_
   rcases h with h|h
   ·rw[yA] at h
    cases e:x == n with
    | true =>
     rw[e] at h
     cases h
     exact absurd rfl hk
    | false=>rw[e] at h;exact .inl h
   ·exact .inr h
theorem nY{env:Env}:∀ {names:List (Str×NameKind)}{x:Str}{k:NameKind},names.lookup x=some k ->
  (names.map fun (n,k)=>if (k == NameKind.free&&env.scope.kind == .function&&env.kindOf n == some .cell) then (n,NameKind.cell) else (n,k)).lookup x=some (if (k == NameKind.free&&env.scope.kind == .function&&env.kindOf x == some .cell) then NameKind.cell else k)
 | [],_,_,h=>by cases h
 | (n,k)::r,x,k',h=>by
  have ih:=@nY env r x k'
  rw[zI]
  dsimp only
  cases hx:x == n with
  | true =>
   have e:x=n:=by simpa using hx
   subst e
   rw[yA,hx] at h
   cases h
   split<;>simp[yA, *]
  | false =>
   rw[yA,hx] at h
   have ih:=ih h
   split
   ·rw[yA,hx];exact ih
   ·rw[yA,hx];exact ih
theorem pL{env:Env}:∀ {names:List (Str×NameKind)}{x:Str},names.lookup x=none ->
  (names.map fun (n,k)=>if (k == NameKind.free&&env.scope.kind == .function&&env.kindOf n == some .cell) then (n,NameKind.cell) else (n,k)).lookup x=none
 | [],_,h=>rfl
 | (n,k)::r,x,h=>by
  have ih:=@pL env r x
  rw[zI]
  dsimp only
  cases hx:x == n with
  | true=>rw[yA,hx] at h;cases h
  | false =>
   rw[yA,hx] at h
   split
   ·rw[yA,hx];exact ih h
   ·rw[yA,hx];exact ih h
def fH(X:Cx)(scope:Scope)(C:Addr):Env :=
 { scope:=relabel scope X.env,locals:=C,globals:=X.env.globals,cells:=cellsFrom (C+1) scope.names (eR X.env scope.names []),qual:=X.env.qual,func:=none,code:=X.env.code,frame:=X.env.frame,builtins:=X.env.builtins }
def bc(X:Cx)(scope:Scope)(N:List Str)(fp:List Addr)(s:Shared)(H:Hp):Cx :=
 { X with N:=N,s₀:=s,H₀:=H,env:=fH X scope s.heap.objs.size,outer:=X.stack,ex:=fp,fn:=fun x=>decide (scope.names.lookup x=some .cell),pn:=[],xe:=fun _ _=>False }
theorem Cf{M:Model}{A:Around}{E:Value->Shared->Prop}{s:Shared}{scope:Scope}{globals:Addr}{cl:List (Str×Addr)}{qual:Str}{env:Env}{Q:Env->Shared->Prop}
  (hQ:∀h',h'.Ns s.heap.objs.size (fun _=>none)->(∀b o,s.heap.get? b=some o->h'.get? b=some o)->CellsOk h' (s.heap.objs.size+1) (cellsFrom (s.heap.objs.size+1) scope.names []) ->
   Q { scope:=scope,locals:=s.heap.objs.size,globals:=globals,cells:=cellsFrom (s.heap.objs.size+1) scope.names cl,qual:=qual,func:=none,code:=env.code,frame:=env.frame,builtins:=env.builtins } { s with heap:=h' }) :
  wpAny M A (newFunctionEnv scope globals cl [] qual none .none (some env)) Q E s:=by
 simp only[newFunctionEnv,Option.isSome_some,xH]
 refine zU (wpAny_alloc ?_)
 refine zU (wpAny_layCells _ (fun name kind cells=>by cases hkc:kind == NameKind.cell<;>simp[hkc]) _ _ _ _ ?_)
 have ok:=cellsFrom_ok scope.names (s.heap.push { cls:=.type "dict",data:=.dict #[] }) (s.heap.objs.size+1) [] ⟨fun _ _ hm=>(nomatch hm),List.Pairwise.nil⟩ (by rw[xJ];exact yM _)
 rw[xJ] at ok
 rw[show ({ s with heap:=s.heap.push { cls:=.type "dict",data:=.dict #[] } }:Shared).heap.objs.size=s.heap.objs.size+1 from xJ ..]
 rw[List.forIn_nil]
 refine zU (zV (zV ?_))
 exact hQ _ ((Heap.Ns.new s.heap (.type "dict")).keeps (pushCells_keeps _ _)) (fun b o e=>pushCells_keeps _ _ b o (zT _ e)) ok
section
variable {X:Cx}{pins:List (Addr×Obj)}{σ σ':St}{H:Hp}{s:Shared}{fp:List Addr}{scope:Scope}{N:List Str}{h4:Heap}
theorem kb(ok:X.Ok)(hfree:∀x∈scope.names,x.2=.free->X.env.kindOf x.1=some .cell\/X.env.kindOf x.1=some .free):∀x∈scope.names,x.2=.free->∃c,X.env.cells.lookup x.1=some c :=
 fun x hx hk=>ok.has x.1 (hfree x hx hk)
theorem oQ{C:Addr}{x:Str}{k:NameKind}(h:scope.names.lookup x=some k):(fH X scope C).kindOf x=some k\/(k=.free/\(fH X scope C).kindOf x=some .cell):=by
 have q:=nY (env:=X.env) h
 have q':(fH X scope C).kindOf x=some (if (k == NameKind.free&&X.env.scope.kind == .function&&X.env.kindOf x == some .cell) then NameKind.cell else k):=q
 rw[q']
 split
 ·rename_i hc
  have:k=.free:=by
   simp only[zF,vM] at hc
   exact hc.1.1
  exact .inr ⟨this,rfl⟩
 ·exact .inl rfl
theorem mE{C:Addr}{x:Str}{k:NameKind}(h:(fH X scope C).kindOf x=some k):scope.names.lookup x=some k\/(k=.cell/\scope.names.lookup x=some .free):=by
 cases e:scope.names.lookup x with
 | none =>
  have q:(fH X scope C).kindOf x=none:=pL (env:=X.env) e
  rw[q] at h;cases h
 | some k' =>
  rcases oQ (X:=X) (C:=C) e with q|⟨q,q'⟩
  ·rw[q] at h;cases h;exact .inl rfl
  ·rw[q'] at h;cases h;subst q;exact .inr ⟨rfl,rfl⟩
theorem Hb(I:Inv X pins σ H s)(hf:∀b∈fp,cJ X pins H b)(hfl:∀b∈fp,b < s.heap.objs.size)(hk:scope.kind=.function)
  (hfree:∀x∈scope.names,x.2=.free->X.env.kindOf x.1=some .cell\/X.env.kindOf x.1=some .free)
  (hns:h4.Ns s.heap.objs.size (fun _=>none)) (hkeep:∀b o,s.heap.get? b=some o->h4.get? b=some o) (hco:CellsOk h4 (s.heap.objs.size+1) (cellsFrom (s.heap.objs.size+1) scope.names []))
  (hdup:∀ {x:Str},(x,NameKind.cell)∈scope.names->(x,NameKind.free)∈scope.names->False) (hcap:∀ (i:Nat) (x:Str) (v:V),N[i]?=some x->σ'[i]?=some (some v)->scope.names.lookup x=some .free/\∃j:Nat,X.N[j]?=some x/\σ[j]?=some (some v)) (hlen:σ'.length=N.length) (t':Nat) :
  Inv (bc X scope N fp s H) [] σ' H { s with heap:=h4,toks:=t' }:=by
 have hcl:=kb I.ok hfree
 have clx:∀x c,(eR X.env scope.names []).lookup x=some c->X.env.cells.lookup x=some c:=fun x c e=>lZ hcl (fun _ _ z=>by cases z) x c (mem_of_lookup e)
 have look:∀x c,(fH X scope s.heap.objs.size).cells.lookup x=some c->(x,c)∈cellsFrom (s.heap.objs.size+1) scope.names []\/X.env.cells.lookup x=some c:=fun x c e=>by
  have e:(cellsFrom (s.heap.objs.size+1) scope.names (eR X.env scope.names [])).lookup x=some c:=e
  rw[ck] at e
  rcases jz e with q|⟨_,q⟩
  ·exact .inl (mem_of_lookup q)
  ·exact .inr (clx x c q)
 have old:∀x c,X.env.cells.lookup x=some c->c < s.heap.objs.size:=fun x c e=>let ⟨_,q⟩:=I.cell x c e;q.lt
 have new:∀x c,(x,c)∈cellsFrom (s.heap.objs.size+1) scope.names []->s.heap.objs.size < c:=fun x c e=>(hco.empty x c e).2
 refine⟨⟨I.ok.mod,?_,I.ok.glob,I.ok.blt,yM _,?_,?_,?_,I.ok.hd,I.ok.frames,.inl rfl,?_,I.bs,yC I.ok.bsz I.sz,?_,?_,I.stack,I.stkFree⟩,rfl,I.bare,Un.kept hkeep,⟨_,hns,?_⟩,?_,I.hok.fresh (yM _),?_,
  fun p hp=>absurd (show p∈([]:List (Addr×Obj)) from hp) (by simp),I.hok.kept hkeep,hlen⟩
 ·show (relabel scope X.env).kind=_
  exact hk
 ·intro x y c e1 e2
  rcases look x c e1 with a|a<;>rcases look y c e2 with b|b
  ·exact name_of_addr hco.apart a b
  ·exact absurd (wX (new x c a) (old y c b)) (qE _)
  ·exact absurd (wX (new y c b) (old x c a)) (qE _)
  ·exact I.ok.inj x y c a b
 ·intro x hx
  show ∃c,(cellsFrom (s.heap.objs.size+1) scope.names (eR X.env scope.names [])).lookup x=some c
  refine Option.isSome_iff_exists.mp (W.cellsFrom_some _ _ _ ?_)
  rcases hx with hx|hx
  ·rcases mE hx with q|⟨_,q⟩
   ·exact .inl q
   ·exact .inr (Option.isSome_iff_exists.mpr (gx (.inl q)))
  ·rcases mE hx with q|⟨q,_⟩
   ·exact .inr (Option.isSome_iff_exists.mpr (gx (.inl q)))
   ·cases q
 ·intro x c hfn e
  have hfn:scope.names.lookup x=some .cell:=yQ hfn
  have e:(cellsFrom (s.heap.objs.size+1) scope.names (eR X.env scope.names [])).lookup x=some c:=e
  obtain⟨c',hc'⟩:=sX (n:=s.heap.objs.size+1) hfn
  rw[ck,j8 hc'] at e
  cases e
  exact jT (new x c (mem_of_lookup hc'))
 ·intro b hb
  refine⟨yR (hfl b hb),fun x c e z=>?_⟩
  rcases look x c e with a|a
  ·exact absurd (wX (new x c a) (by rw[z];exact hfl b hb)) (qE _)
  ·exact (hf b hb).2.2.2.2.1 x c a z
 ·intro b o e hb
  obtain⟨f0,f1,f2,f3,f4,f5⟩:=hf b hb
  rcases f3 with z|z
  ·exact I.ok.noex b o e z
  ·exact absurd (zP (zX (I.ok.bs b o e).1) z) (qE _)
 ·intro b hb hz
  obtain⟨f0,f1,f2,f3,f4,f5⟩:=hf b hb
  rcases List.mem_cons.mp (I.stkSub b hz) with z|z
  ·exact f1 z
  ·exact f2 z
 ·intro i x v e1 e2 e3
  obtain⟨hfr,j,hj,hv⟩:=hcap i x v e1 e2
  have hm:(x,NameKind.free)∈scope.names:=mem_of_lookup hfr
  obtain⟨m,hn,hl⟩:=I.loc
  have kx:=hfree _ hm rfl
  obtain⟨u,ru,lk⟩:=hl j x v hj hv (kx.elim (fun k=>.inr (.inl k)) fun k=>.inr (.inr k))
  refine⟨u,ru,.inr ⟨?_,?_⟩⟩
  ·rcases oQ (X:=X) (C:=s.heap.objs.size) hfr with q|⟨_,q⟩
   ·exact .inr q
   ·exact .inl q
  ·rcases lk with ⟨k,_⟩|⟨_,c,ec,ic⟩
   ·have k:X.env.kindOf x=some .local:=k
    rcases kx with k'|k'<;>· rw[k] at k';cases k'
   ·obtain⟨c',hc'⟩:=gx (env:=X.env) (acc:=[]) (.inl hfr)
    have e':=clx x c' hc'
    rw[ec] at e'
    cases e'
    refine⟨c,?_,ic.keeps hkeep⟩
    show (cellsFrom (s.heap.objs.size+1) scope.names (eR X.env scope.names [])).lookup x=some c
    rw[ck]
    cases eo:(cellsFrom (s.heap.objs.size+1) scope.names []).lookup x with
    | none=>rw[iE eo];exact hc'
    | some d =>
     have hcm:=gz _ _ _ _ (mem_of_lookup eo)
     exact (hdup hcm hm).elim
 ·intro x c e
  rcases look x c e with a|a
  ·exact⟨_,(hco.empty x c a).1⟩
  ·obtain⟨v,q⟩:=I.cell x c a
   exact⟨v,q.keeps hkeep⟩
 ·intro x c e
  rcases look x c e with a|a
  ·exact I.hok.fresh (jT (new x c a))
  ·exact I.freeC x c a
end
abbrev Bb(ifs:List Expr)(env:Env):Sem Bool:=forIn ifs true fun c r=>if r=true then do let ok <- isTrue c env (eval c env);pure (ForInStep.yield ok) else pure (ForInStep.yield r)
def O6(X:Cx)(ifs:List Expr)(t:TT):Prop :=
 ∀ (pins:List (Addr×Obj)) (s:Shared) (σ:St) (H:Hp) (Q:Bool->Hp->Prop),Inv X pins σ H s->t σ H Q->wpAny (model X.prog X.w) X.A (Bb ifs X.env) (TP X pins σ Q) X.xe s
theorem K7{X:Cx}:O6 X [] (fun _ H Q=>Q true H):=fun _ _ _ H _ I h=>wpAny_tests_nil ⟨H,I,h⟩
theorem Kp{X:Cx}{c:Expr}{t:TT}(h:PT X c t):O6 X [c] t:=fun pins s σ H Q I q=>wpAny_tests_one (h pins s σ H Q I q)
theorem zc{prog:Program}{w:World}{A:Around}{R:Result->Shared->Prop}{s:Shared}{elt target iter:Expr}{ifs:List Expr}{scope:Scope}{pos:Pos}{it acc:Value}{env:Env}(I:Nat->Shared->Prop)
  (turn:∀n s,I n s->wpAny (model prog w) A (pyNext it) (fun r s₁=>match r with
   | none=>R (.ok .next) s₁
   | some v=>wpAny (model prog w) A (letOwnedTupleGo target it v) (fun _ s₁'=>wpAny (model prog w) A (assign target env v) (fun _ s₂ =>
     wpAny (model prog w) A (Bb ifs env) (fun ok s₃ =>
      if ok=true then wpAny (model prog w) A (eval elt env) (fun x s₄ =>
       wpAny (model prog w) A (call (.builtin "list.append") [acc,x]) (fun _ s₅=>∃m,m < n/\I m s₅) (fun _ _=>False) s₄) (fun _ _=>False) s₃
      else ∃m,m < n/\I m s₃) (fun _ _=>False) s₂) (fun _ _=>False) s₁') (fun _ _=>False) s₁) (fun _ _=>False) s)
  (n:Nat) (h:I n s) :
  codeAny (model prog w) A (.compLoop (.ListComp elt [⟨target,iter,ifs,0⟩] scope pos) 0 it acc env) R s:=by
 refine codeAny_loop rfl I (fun n s hI=>?_) n h
 show wpAny _ A ((compTurn (.ListComp elt [⟨target,iter,ifs,0⟩] scope pos) 0 it acc env).onRaise (fun x=>do noteFrame x env;theTreesLotGoes x)) _ _ s
 refine wpAny_noted ?_
 rw[compTurn_list]
 refine zU (vE (zU (xA (turn n s hI) (fun r s₁ h₁=>?_) fun _ _ h'=>h'.elim)))
 cases r with
 | none=>exact zV h₁
 | some v =>
  refine zU (xA h₁ (fun _ s₁' h₁'=>?_) fun _ _ h'=>h'.elim)
  refine zU (xA h₁' (fun _ s₂ h₂=>zU (xA h₂ (fun ok s₃ h₃=>?_) fun _ _ h'=>h'.elim)) fun _ _ h'=>h'.elim)
  cases ok with
  | false=>exact zV ⟨rfl,h₃⟩
  | true =>
   exact zU (zU (xA h₃ (fun x s₄ h₄=>zU (xA h₄ (fun _ s₅ h₅=>zV (zV ⟨rfl,h₅⟩)) fun _ _ h'=>h'.elim)) fun _ _ h'=>h'.elim))
def DM(X:Cx)(pins:List (Addr×Obj))(σ:St)(Q:VK)(acc:Value)(C:Addr)(r:Result)(s5:Shared):Prop :=
 ∃ (D:Addr) (H5:Hp) (m:Str->Option Value),acc=.ref D/\r=.ok .next/\Inv X pins σ H5 s5/\s5.heap.Ns C m/\cJ X pins H5 C/\Q (.ref D) H5
def Ho(J:It)(g:TG)(tt:TT)(te:TE)(D:Addr)(σ0:St)(H0:Hp)(Q:VK):Prop :=
 ∃W:Nat->Nat->St->Hp->Prop,(∃m,W 0 m σ0 H0)/\∀i m σ H,W i m σ H ->
  (J.stop i H/\Q (.ref D) H)\/(J.go i H/\∀x H',J.yld i H x H'->g x σ H' fun σ2 H2=>tt σ2 H2 fun b H3 =>
   if b=true then te σ2 H3 fun v H4=>∃ys,H4 D=some (.lst ys)/\ys.length < sizeLine/\∃m',m' < m/\W (i+1) m' σ2 (upd H4 D (.lst (ys++[v])))
   else ∃m',m' < m/\W (i+1) m' σ2 H3)
section
variable {X:Cx}{pins:List (Addr×Obj)}{σ σ':St}{H:Hp}{s:Shared}{scope:Scope}{N:List Str}
 {tg iter elt:Expr}{ifs:List Expr}{pos:Pos}{g:TG}{tt:TT}{te:TE}
theorem uS{J:It}{fp:List Addr}{it:Addr}{tn:Nat->Heap->Prop}{Q:VK}(hc:X.calm=true)(I:Inv X pins σ H s)(T:Turn X.prog X.w X.K tg J fp it tn)(st:tn 0 s.heap)(hf:∀b∈fp,cJ X pins H b)(hk:scope.kind=.function)
  (hfree:∀x∈scope.names,x.2=.free->X.env.kindOf x.1=some .cell\/X.env.kindOf x.1=some .free) (hdup:∀ {x:Str},(x,NameKind.cell)∈scope.names->(x,NameKind.free)∈scope.names->False)
  (hcap:∀ (i:Nat) (x:Str) (v:V),N[i]?=some x->σ'[i]?=some (some v)->scope.names.lookup x=some .free/\∃j:Nat,X.N[j]?=some x/\σ[j]?=some (some v)) (hlen:σ'.length=N.length)
  (hY:∀fp s H,PG (bc X scope N fp s H) tg g/\O6 (bc X scope N fp s H) ifs tt/\PE (bc X scope N fp s H) elt te)
  (hrd:∀D,H D=none->Ho J g tt te D σ' (upd H D (.lst [])) Q) {E:Value->Shared->Prop} :
  wpAny (model X.prog X.w) X.A (newList []) (fun acc s₃=>wpAny (model X.prog X.w) X.A (newFunctionEnv scope X.env.globals (eR X.env scope.names []) [] X.env.qual none .none (some X.env)) (fun cenv s₄ =>
   codeAny (model X.prog X.w) X.A (.compStart (.ListComp elt [⟨tg,iter,ifs,0⟩] scope pos) 0 (.ref it) acc { cenv with scope:=relabel scope X.env }) (DM X pins σ Q acc cenv.locals) s₄) E s₃) E s:=by
 refine qL ?_
 have hfl:∀b∈fp,b < s.heap.objs.size:=fun b hb=>let ⟨o,e,_⟩:=T.obj _ _ st b hb;zX e
 have I3:=I.lnew (ys:=[]) (its:=[]) (t':=s.toks) .nil (xV _)
 have hD:H s.heap.objs.size=none:=I.fresh
 obtain⟨W,⟨m0,w0⟩,turn⟩:=hrd _ hD
 generalize e3:({ s with heap:=s.heap.push { cls:=.type "list",data:=.seq ([]:List Value).toArray },toks:=s.toks }:Shared)=s3 at I3
 have e3h:s3.heap=s.heap.push { cls:=.type "list",data:=.seq ([]:List Value).toArray }:=by rw[<- e3]
 generalize hH3:upd H s.heap.objs.size (.lst [])=H3 at I3 w0 turn
 have hlt:s.heap.objs.size < s3.heap.objs.size:=by rw[e3h,xJ];exact kP _
 have hk3:∀b o,s.heap.get? b=some o->s3.heap.get? b=some o:=fun b o e=>by rw[e3h];exact zT _ e
 generalize s.heap.objs.size=D at *
 have f3:∀b∈fp,cJ X pins H3 b:=fun b hb=>by
  obtain⟨f0,f⟩:=hf b hb
  refine⟨?_,f⟩
  rw[<- hH3,aF (yR (hfl b hb))]
  exact f0
 have st3:tn 0 s3.heap:=T.keep _ _ _ st fun b _ o e=>hk3 b o e
 refine Cf fun h4 hns hkp hco=>?_
 dsimp only
 have I4:=Hb (N:=N) (σ':=σ') (fp:=fp) I3 f3 (fun b hb=>wX (hfl b hb) hlt) hk hfree hns hkp hco hdup hcap hlen s3.toks
 have fC:∀H',H' s3.heap.objs.size=none->cJ X pins H' s3.heap.objs.size:=fun H' hn=>I3.fpOk (yM _) hn
 obtain⟨hg,htt,hte⟩:=hY fp s3 H3
 have efp:∀b∈fp,∀H':Hp,H' b=none->cJ (bc X scope N fp s3 H3) [] H' b:=fun b hb H' hn=>by
  refine⟨hn,(I4.ok.exf b hb).1,I4.ok.exfs b hb,.inl hb,(I4.ok.exf b hb).2,fun p hp=>?_⟩
  cases hp
 have loop:codeAny (model X.prog X.w) X.A (.compLoop (.ListComp elt [⟨tg,iter,ifs,0⟩] scope pos) 0 (.ref it) (.ref D) (fH X scope s3.heap.objs.size)) (DM X pins σ Q (.ref D) s3.heap.objs.size) { s3 with heap:=h4 }:=by
  refine zc (fun n s'=>∃i σ' H',Inv (bc X scope N fp s3 H3) [] σ' H' s'/\tn i s'.heap/\(∀b∈fp,H' b=none)/\W i n σ' H') ?_ m0
   ⟨0,σ',H3,I4,T.keep _ _ _ st3 fun b _ o e=>hkp b o e,fun b hb=>(f3 b hb).1,w0⟩
  rintro n s5 ⟨i,σ5,H5,I5,st5,fr5,w5⟩
  rcases turn i n σ5 H5 w5 with ⟨stop,q⟩|⟨go,step⟩
  ·refine cx (T.done (bc X scope N fp s3 H3) rfl rfl rfl hc i [] s5 σ5 H5 _ I5 (fun b hb=>efp b hb H5 (fr5 b hb)) st5 stop) fun r s6 ⟨hr,I6⟩=>?_
   subst hr
   obtain⟨m,hn6,_⟩:=I6.loc
   refine⟨D,H5,m,rfl,rfl,I3.call' I6.os I6.base I6.hok I6.bare (fun b hb=>?_),hn6,fC H5 I6.free,q⟩
   obtain⟨f0,f1,f2,f4,f5,f6⟩:=f3 b hb
   exact⟨f4,f1,f5,f6⟩
  ·refine cx (T.item (bc X scope N fp s3 H3) rfl rfl rfl hc i [] s5 σ5 H5 _ I5 (fun b hb=>efp b hb H5 (fr5 b hb)) st5 go) fun r s6 ⟨u,hr,h6⟩=>?_
   subst hr
   refine cx h6 fun _ s7 ⟨x,H7,I7,r7,y7,st7,fr7⟩=>?_
   have I7':=I7.pinned (fun b hb=>efp b hb H7 (fr7 b hb)) (T.obj _ _ st7)
   have again:∀ {pl:List (Addr×Obj)}{σ9:St}{H9:Hp}{s9:Shared}{n':Nat},Inv (bc X scope N fp s3 H3) ([]++o8 fp s7.heap) σ9 H9 s9->W (i+1) n' σ9 H9->∃i σ' H',Inv (bc X scope N fp s3 H3) [] σ' H' s9/\tn i s9.heap/\(∀b∈fp,H' b=none)/\W i n' σ' H':=fun {pl σ9 H9 s9 n'} I9 w9=>by
    refine⟨i+1,σ9,H9,I9.unpinned,T.keep _ _ _ st7 fun b hb o e=>(I9.pin (b,o) (yD _ (yD _ (dO hb e)))).1,fun b hb=>?_,w9⟩
    obtain⟨o,e,d⟩:=T.obj _ _ st7 b hb
    exact (I9.pin (b,o) (yD _ (yD _ (dO hb e)))).2.1
   refine cx (hg _ s7 σ5 H7 x u _ I7' r7 (step x H7 y7)) fun _ s8 ⟨σ8,H8,I8,q8⟩=>?_
   refine cx (htt _ s8 σ8 H8 _ I8 q8) fun ok s9 ⟨H9,I9,q9⟩=>?_
   cases ok with
   | false =>
    rw[yN (by decide)] at q9
    rw[yN (by decide)]
    obtain⟨m',hm,w9⟩:=q9
    exact⟨m',hm,again (pl:=[]) I9 w9⟩
   | true =>
    rw[yL rfl] at q9
    rw[yL rfl]
    refine cx (hte _ s9 σ8 H9 _ I9 q9) fun y s10 ⟨v,H10,I10,r10,ys,hD10,hz,m',hm,w10⟩=>?_
    refine cx (uM (X:=bc X scope N fp s3 H3) _ s10 σ8 H10 (.ref D) [v] (.ref D) [y] (fun _ H'=>W (i+1) m' σ8 H') I10 rfl (.cons r10 .nil) ⟨D,ys,v,rfl,rfl,hD10,hz,w10⟩) fun _ s11 ⟨_,H11,I11,_,w11⟩=>?_
    exact⟨m',hm,again (pl:=[]) I11 w11⟩
 exact codeAny_compStart_list loop (T.self _ 0 _ _ _ (T.keep _ _ _ st3 fun b _ o e=>hkp b o e) loop)
end
def GD(wi:TI)(g:TG)(tt:TT)(te:TE)(caps:St->St):TE:=fun σ H Q=>wi σ H fun J H1=>∀D,H1 D=none->Ho J g tt te D (caps σ) (upd H1 D (.lst [])) Q
structure ji(X:Cx)(scope:Scope)(N:List Str)(caps:St->St):Prop where
 kind:scope.kind=.function
 free:∀x∈scope.names,x.2=.free->X.env.kindOf x.1=some .cell\/X.env.kindOf x.1=some .free
 dup:∀ {x:Str},(x,NameKind.cell)∈scope.names->(x,NameKind.free)∈scope.names->False
 loc:∀x∈scope.names,x.2=.local -> scope.names.lookup x.1=some .local
 cap:∀ (σ:St) (i:Nat) (x:Str) (v:V),N[i]?=some x->(caps σ)[i]?=some (some v)->scope.names.lookup x=some .free/\∃j:Nat,X.N[j]?=some x/\σ[j]?=some (some v)
 len:∀σ:St,(caps σ).length=N.length
section
variable {X:Cx}{scope:Scope}{N:List Str}{caps:St->St}{tg iter elt:Expr}{ifs:List Expr}{pos:Pos}{wi:TI}{g:TG}{tt:TT}{te:TE}
theorem Kt(hc:X.calm=true)(S:ji X scope N caps)(hi:PI X tg iter wi)
  (hY:∀fp s H,PG (bc X scope N fp s H) tg g/\O6 (bc X scope N fp s H) ifs tt/\PE (bc X scope N fp s H) elt te)
  (hs:∀x,foldedSetIterable iter X.env x=pure x:=by intro _;rfl):PE X (.ListComp elt [⟨tg,iter,ifs,0⟩] scope pos) (GD wi g tt te caps):=by
 intro pins s σ H Q I h
 rw[eval_ListComp]
 refine wpAny_comprehension_free (use:=none) rfl hs (m6 (kb I.ok S.free)) S.kind S.loc (cx (hi pins s σ H _ I h) fun v s1 h1=>cx h1 fun itv s2 h2=>?_)
 obtain⟨it,fp,tn,J,H2,e,I2,T,st2,f2,rd⟩:=h2
 subst e
 refine cx (uS (iter:=iter) (pos:=pos) (E:=X.xe) hc I2 T st2 f2 S.kind S.free S.dup (S.cap σ) (S.len σ) hY rd) fun acc s3 h3=>cx h3 fun cenv s4 h4=>?_
 refine jS h4 fun r s5 h5=>?_
 obtain⟨D,H5,m,rfl,rfl,I5,hn,fC,q⟩:=h5
 refine⟨m,hn,fun h' sb=>?_⟩
 obtain⟨f0,f1,f2',f3,f4,f5⟩:=fC
 exact⟨.ref D,H5,I5.turned (t':=s5.toks) (fun b o hb e=>(sb.2 b hb).trans e) f0 f1 f3 f4 f5,rfl,q⟩
theorem Lf{i:Nat}{y:Str}{py spos:Pos}(hc:X.calm=true)(S:ji X scope N caps)(hi:PI X tg iter wi)
  (hY:∀fp s H,PG (bc X scope N fp s H) tg g/\O6 (bc X scope N fp s H) ifs tt/\PE (bc X scope N fp s H) elt te)
  (hN:X.N.Nodup) (hiy:X.N[i]?=some y) (hy:X.env.scope.names.lookup y=some .local)
  (hsw:swapsWith (.ListComp elt [⟨tg,iter,ifs,0⟩] scope pos) (some (.Name y py)) spos.line X.env=pure true)
  (hs:∀x,foldedSetIterable iter X.env x=pure x:=by intro _;rfl):PS X (.Assign [.Name y py] (.ListComp elt [⟨tg,iter,ifs,0⟩] scope pos) spos) (JI (GD wi g tt te caps) (AE i)):=by
 intro pins s σ H D I h
 rw[exec_Assign_Name_used _ _ _ _ hsw]
 refine zU (vE (zU ?_))
 show wpAny _ X.A (do let _ <- comprehension (.ListComp elt [⟨tg,iter,ifs,0⟩] scope pos) scope X.env _ (newList []) false (eval iter X.env) (some (assign (.Name y py) X.env))) _ _ s
 refine zU (xA (wpAny_comprehension_free (use:=some (assign (.Name y py) X.env)) (Q:=fun _ s'=>SP X pins D .next s') rfl hs (m6 (kb I.ok S.free)) S.kind S.loc
  (cx (hi pins s σ H _ I h) fun v s1 h1=>cx h1 fun itv s2 h2=>?_)) (fun _ s' hq=>zV (zV hq)) fun _ _ e=>e)
 obtain⟨it,fp,tn,J,H2,e,I2,T,st2,f2,rd⟩:=h2
 subst e
 refine cx (uS (iter:=iter) (pos:=pos) (E:=X.xe) hc I2 T st2 f2 S.kind S.free S.dup (S.cap σ) (S.len σ) hY rd) fun acc s3 h3=>cx h3 fun cenv s4 h4=>?_
 refine jS h4 fun r s5 h5=>?_
 obtain⟨D',H5,m,rfl,rfl,I5,hn,fC,q⟩:=h5
 show wpAny _ X.A (assign (.Name y py) X.env (.ref D')) _ _ _
 refine wpAny_assign_Name (o9 (v:=.ref D') I5 hN hiy (.inl hy) rfl (fun s6 I6 ⟨a,sa,ha⟩=>?_) (.inr hy))
 obtain⟨f0,f1,f2',f3,f4,f5⟩:=fC
 have hne:cenv.locals≠a:=by
  rcases ha with z|z
  ·rw[z];exact f1
  ·exact fun w=>f4 y a z w.symm
 refine⟨m,hn.sameBut sa hne,fun h' sb=>?_⟩
 exact⟨_,H5,I6.turned (t':=s6.toks) (fun b o hb e=>(sb.2 b hb).trans e) f0 f1 f3 f4 f5,q⟩
end
abbrev RO(X:Cx)(qual:Str)(scope:Scope)(f c L:Addr):Env:=W.envX qual scope L f (.ref c) (eR X.env scope.names [])
def gU(X:Cx)(A:Around)(qual:Str)(scope:Scope)(N:List Str)(f c:Addr)(s:Shared)(H:Hp):Cx where
 prog:=X.prog
 w:=X.w
 K:=X.K
 mg:=X.mg
 base:=X.base
 A:=A.deeper (RO X qual scope f c s.heap.objs.size)
 N:=N
 s₀:=s
 H₀:=H
 env:=RO X qual scope f c s.heap.objs.size
 outer:=X.stack
 stack:=RO X qual scope f c s.heap.objs.size::X.stack
 ex:=[]
 fn:=fun _=>false
 calm:=true
 pn:=[]
 xe:=fun _ _=>False
section
variable {X:Cx}{pins:List (Addr×Obj)}{σ:St}{H:Hp}{s:Shared}{scope:Scope}{N:List Str}{h1:Heap}{A:Around}{caps:St->St}{p qual:Str}{f c:Addr}{u:Value}{v:V}
theorem KY(I:Inv X pins σ H s)(hd:A.handled=none)(hA:A.frames=some X.stack)(S:ji X scope N caps)(hnc:∀x∈scope.names,x.2≠.cell)(hN0:N[0]?=some p)(hp:scope.names.lookup p=some .local)(hNd:N.Nodup)(r:RelV v u)
  (hns:h1.Ns s.heap.objs.size (fun x=>[(p,u)].reverse.lookup x)) (hkeep:∀b o,s.heap.get? b=some o->h1.get? b=some o) (t':Nat) :
  Inv (gU X A qual scope N f c s H) [] ((caps σ).set 0 (some v)) H { s with heap:=h1,toks:=t' }:=by
 have hcl:=kb I.ok S.free
 have clx:∀x c,(eR X.env scope.names []).lookup x=some c->X.env.cells.lookup x=some c:=fun x c e=>lZ hcl (fun _ _ z=>by cases z) x c (mem_of_lookup e)
 have noA:∀b:Addr,b∉(gU X A qual scope N f c s H).ex:=fun b z=>absurd (show b∈([]:List Addr) from z) (by simp)
 refine⟨⟨I.ok.mod,S.kind,rfl,rfl,yM _,fun x y d e1 e2=>I.ok.inj x y d (clx x d e1) (clx y d e2),fun x hx=>?_,fun x d z=>?_,fun _=>hd,Around.frames_deeper hA,.inr ⟨rfl,rfl⟩,fun b z=>absurd z (noA b),I.bs,yC I.ok.bsz I.sz,fun b _ _=>noA b,fun b z=>absurd z (noA b),I.stack,I.stkFree⟩,
  rfl,I.bare,Un.kept hkeep,⟨_,hns,fun i x w e1 e2 e3=>?_⟩,fun x d e=>?_,I.hok.fresh (yM _),fun x d e=>I.freeC x d (clx x d e),fun q hq=>absurd (show q∈([]:List (Addr×Obj)) from hq) (by simp),I.hok.kept hkeep,?_⟩
 ·rcases hx with hx|hx
  ·exact absurd rfl (hnc _ (mem_of_lookup (show scope.names.lookup x=some .cell from hx)))
  ·exact gx (.inl hx)
 ·cases z
 ·cases i with
  | zero =>
   have e1:N[0]?=some x:=e1
   rw[hN0] at e1
   cases e1
   have hl:0 < (caps σ).length:=by rw[S.len];exact (List.getElem?_eq_some_iff.mp hN0).1
   rw[vQ hl] at e2
   cases e2
   exact⟨u,r,.inl ⟨hp,by simp⟩⟩
  | succ i =>
   have e2':(caps σ)[i+1]?=some (some w):=by
    rw[kW (by omega)] at e2;exact e2
   obtain⟨hfr,j,hj,hv⟩:=S.cap σ (i+1) x w e1 e2'
   have hm:(x,NameKind.free)∈scope.names:=mem_of_lookup hfr
   obtain⟨m,hn,hl⟩:=I.loc
   have kx:=S.free _ hm rfl
   obtain⟨u',ru,lk⟩:=hl j x w hj hv (kx.elim (fun k=>.inr (.inl k)) fun k=>.inr (.inr k))
   refine⟨u',ru,.inr ⟨.inr hfr,?_⟩⟩
   rcases lk with ⟨k,_⟩|⟨_,c',ec,ic⟩
   ·have k:X.env.kindOf x=some .local:=k
    rcases kx with k'|k'<;>· rw[k] at k';cases k'
   ·obtain⟨c'',hc'⟩:=gx (env:=X.env) (acc:=[]) (.inl hfr)
    have e':=clx x c'' hc'
    rw[ec] at e'
    cases e'
    exact⟨c',hc',ic.keeps hkeep⟩
 ·obtain⟨w,q⟩:=I.cell x d (clx x d e)
  exact⟨w,q.keeps hkeep⟩
 ·rw[yB];exact S.len σ
theorem AF{k:Nat}{params:Arguments}{body:Expr}{pm ctv:Value}{name:Str}{te:TE}{Q:VK}(I:Inv X pins σ H s)(hr:dS (k+1) A)(hA:A.frames=some X.stack)(S:ji X scope N caps)(hnc:∀x∈scope.names,x.2≠.cell)
  (hN0:N[0]?=some p) (hp:scope.names.lookup p=some .local) (hNd:N.Nodup) (hco:scope.isCoroutine=false) (hgen:scope.isGenerator=false)
  (hf:s.heap.get? f=some (W.kla_obj name qual params body scope (eR X.env scope.names []) pm c ctv)) (hcod:H c=some (.cod qual)) (hb:bindArgs (W.kla_fn name qual params body scope (eR X.env scope.names []) pm (.ref c) ctv) ⟨[u],[]⟩=pure [(p,u)])
  (r:RelV v u) (hY:PE (gU X A qual scope N f c s H) body te) (q:te ((caps σ).set 0 (some v)) H Q) :
  wpAny (model X.prog X.w) A (call (.ref f) [u]) (EP X pins σ Q) (fun _ _=>False) s:=by
 have hcd:s.heap.CodeRec (.ref c) qual:=I.hok c _ hcod
 refine vL (W.kla_callFunE hr.depth hf rfl hco hgen rfl hcd ?_)
 rw[hb]
 refine zV (wpAny_newFunctionEnv hnc (fun y hy=>?_) (fun h1 hns hsb=>⟨?_,?_⟩) S.kind)
 ·rw[List.mem_singleton.mp hy];exact hp
 ·exact I.nolimit.fresh _ hsb
 ·have hk1:∀b o,s.heap.get? b=some o->h1.get? b=some o:=fun b o e=>hsb.extBut b o (yR (zX e)) (zT _ e)
  have I1:=KY (qual:=qual) (f:=f) (c:=c) I hr.hd hA S hnc hN0 hp hNd r hns hk1 (s.toks+[(p,u)].length)
  refine W.kla_codeExpr (xA (hY [] _ _ H Q I1 q) (fun w s' ⟨v',H',I',r',q'⟩=>?_) fun e s' h=>False.elim h)
  exact⟨v',H',I.call' I'.os I'.base I'.hok I'.bare (fun b z=>absurd (show b∈([]:List Addr) from z) (by simp)),r',q'⟩
end
theorem Ce{pos pos':Pos}{c v:Value}(l:List Value)(h:TriplesOk l)(e:codeAmong pos' (l++[rawInt pos.line,rawInt pos.col,c])=some v):codeAmong pos' l=some v\/v=c:=by
 fun_induction TriplesOk l with
 | case1 =>
  simp only[xO,codeAmong,rawInt] at e
  split at e
  ·cases e;exact .inr rfl
  ·cases e
 | case2 a t b u x rest ih =>
  simp only[xF,codeAmong] at e ⊢
  split at e
  ·rename_i hc;rw[yL hc];exact .inl e
  ·rename_i hc;rw[yN hc];exact ih h e
 | case3 l h1 h2=>exact h.elim
section
variable {X:Cx}{pins:List (Addr×Obj)}{σ:St}{H:Hp}{s:Shared}{scope:Scope}{N:List Str}{caps:St->St}{qual:Str}{c P:Addr}
theorem Bu{params:Arguments}{body:Expr}{lpos:Pos}{Q:Value->Shared->Prop}(I:Inv X pins σ H s)(S:ji X scope N caps)(hq:X.env.qual++"<lambda>"=qual)(hcode:X.env.code=.ref c)(C:W.CodeHd X.base c P)(hT:H P=some (.tab qual))(hB:QL X.mg X.base)
  (hdef:defaultsOf params X.env=([],[]))
  (h:∀ (f c':Addr) (pm ctv:Value) (s':Shared) (H':Hp),Inv X pins σ H' s'->s'.heap.get? f=some (W.kla_obj "<lambda>" qual params body scope (eR X.env scope.names []) pm c' ctv)->H' f=none->H' c'=some (.cod qual)->aW H H'->cJ X pins H' f->(∀b,H' b≠none->H b≠none\/H' b=some (.cod qual))->Q (.ref f) s') :
  wpAny (model X.prog X.w) X.A (eval (.Lambda params body scope lpos) X.env) Q X.xe s:=by
 have hcl:=m6 (kb I.ok S.free)
 have hCs:=C.keeps I.bk
 have hg:s.heap.Ns mainGlobals X.mg:=by
  obtain⟨o,es,ep,e,r⟩:=I.ok.mod.glob
  exact⟨o,es,ep,I.bk _ _ e,r⟩
 have hPn:X.base.get? P=none:=by
  cases e:X.base.get? P with
  | none=>rfl
  | some o=>rw[(I.bs P o e).2] at hT;cases hT
 obtain⟨ps,hP,ht,hco⟩:=I.hok P _ hT
 have hb:s.heap.BuiltinsAt X.mg P:=by
  obtain⟨bm,o,b1,b2,b3,b4,b5⟩:=hB
  exact⟨bm,o,b1,b2,b3,(fun z=>by rw[z,hPn] at b4;cases b4),I.bk _ _ b4,b5⟩
 refine W.kla_eval hdef ?_
 rw[hq]
 cases hf:codeAmong lpos ps.toList with
 | some cv =>
  obtain⟨c',rfl,hc'⟩:=hco lpos cv hf
  refine W.kla_makeFunctionHit hcl I.ok.glob hg hcode hCs hP ht hf hb fun ctv h' tk kp hz=>?_
  have kp2:∀b o,s.heap.get? b=some o->(h'.push (W.kla_obj "<lambda>" qual params body scope (eR X.env scope.names []) ((X.mg "__name__").getD .none) c' ctv)).get? b=some o:=fun b o e=>zT _ (kp b o e)
  have hn:H h'.objs.size=none:=I.hok.fresh hz
  exact h _ c' _ ctv _ H (I.kept (t':=tk) kp2) (zW _ rfl) hn hc' (.refl _) (I.fpOk hz hn) fun b z=>.inl z
 | none =>
  have hgP:mainGlobals≠P:=fun z=>by
   obtain⟨o,es,ep,e,r⟩:=I.ok.mod.glob
   rw[z,hPn] at e;cases e
  refine W.kla_makeFunction hcl I.ok.glob hg hcode hCs hP ht hf hgP hb fun c' ctv h' tk hx hc1 hc2 hcr hP'=>?_
  have hn:H c'=none:=I.hok.fresh hc1
  have hz:s.heap.objs.size<=h'.objs.size:=jT (qZ hc1 hc2)
  have nP:∀ {b:Addr}{u:HO},H b=some u->(∀q,u≠.tab q)->b≠P:=fun {b u} e hne z=>by subst z;rw[hT] at e;cases e;exact hne _ rfl
  have kp:∀b o,b≠P->s.heap.get? b=some o->(h'.push (W.kla_obj "<lambda>" qual params body scope (eR X.env scope.names []) ((X.mg "__name__").getD .none) c' ctv)).get? b=some o:=fun b o hb e=>zT _ (hx b o hb e)
  have hPc:P≠c':=fun z=>by rw[<- z,hT] at hn;cases hn
  have up:∀b u,H b=some u->upd H c' (.cod qual) b=some u:=fun b u e=>by rw[aF (aX e hn)];exact e
  have un:Un X.fs [] H (upd H c' (.cod qual)) s.heap (h'.push (W.kla_obj "<lambda>" qual params body scope (eR X.env scope.names []) ((X.mg "__name__").getD .none) c' ctv)):=by
   refine⟨fun b o e n _ _=>kp b o (fun z=>by rw[z,hT] at n;cases n) e,fun b o e n _ _=>⟨o.slots,kp b o (fun z=>by rw[z,hT] at n;cases n) e⟩,fun b o e n _=>?_,fun b o e _=>?_,fun b xs e=>up b _ e,fun b o u e=>up b _ e,⟨fun b u e _=>up b u e,fun b q ps' e z=>?_⟩⟩
   ·rw[aF (yR (zP (zX e) hc1))];exact n
   ·by_cases hb:b=P
    ·subst hb;exact⟨_,zT _ hP'⟩
    ·exact⟨o,kp b o hb e⟩
   ·by_cases hb:b=P
    ·subst hb
     rw[hP] at z
     cases z
     exact⟨_,zT _ hP'⟩
    ·exact⟨#[],by rw[Array.append_empty];exact kp b _ hb z⟩
  have hok:oC X.prog X.w (upd H c' (.cod qual)) (h'.push (W.kla_obj "<lambda>" qual params body scope (eR X.env scope.names []) ((X.mg "__name__").getD .none) c' ctv)):=by
   intro b u e
   by_cases hbc:b=c'
   ·subst hbc
    rw[aC] at e
    cases e
    obtain⟨c0,oc,vs,t,e0,e1,r⟩:=hcr
    exact⟨c0,oc,vs,t,e0,zT _ e1,r⟩
   ·rw[aF hbc] at e
    by_cases hb:b=P
    ·subst hb
     rw[hT] at e
     cases e
     refine⟨_,zT _ hP',?_,fun pos v hv=>?_⟩
     ·have:=TriplesOk_snoc lpos.line lpos.col (.ref c') ps.toList ht
      simpa using this
     ·have hv':codeAmong pos (ps.toList++[rawInt lpos.line,rawInt lpos.col,.ref c'])=some v:=by simpa using hv
      rcases Ce ps.toList ht hv' with z|z
      ·obtain⟨c0,z1,z2⟩:=hco pos v z
       exact⟨c0,z1,up _ _ z2⟩
      ·exact⟨c',z,aC⟩
    ·exact (I.hok b u e).stay (fun d o hd eo=>kp d o (by
      rcases hd with rfl|hd
      ·exact hb
      ·exact nP hd fun q z=>by cases z) eo) (fun d hd=>up d _ hd) fun d o hd _=>up d _ hd
  have I':=I.un (t':=tk) un hok
  have hnf:upd H c' (.cod qual) h'.objs.size=none:=by
   rw[aF (jI hc2)];exact I.hok.fresh hz
  refine h _ c' _ ctv _ _ I' (zW _ rfl) hnf aC up (I.fpOk hz hnf) fun b z=>?_
  by_cases hbc:b=c'
  ·subst hbc;exact .inr aC
  ·rw[aF hbc] at z;exact .inl z
end
end L2
namespace Dl
open PySem L2 PySem.Spec PyProof.Rows
abbrev D:=PyData
mutual
def Rep(K:W.Frag)(H:Hp):D->V->Prop
 | .none,v=>v=.non
 | .bool b,v=>v=.bl b
 | .int i,v=>v=.int i
 | .str x,v=>v=.str x
 | .tuple ds,v=>∃a vs,v=.ref a/\iY K H a vs/\aw K H ds vs
 | .list ds,v=>∃a vs,v=.ref a/\ig K H a vs/\aw K H ds vs
 | .dict _,_=>False
def aw(K:W.Frag)(H:Hp):List D->List V->Prop
 | [],vs=>vs=[]
 | d::ds,vs=>∃v r,vs=v::r/\Rep K H d v/\aw K H ds r
end
theorem aL{K:W.Frag}{H H':Hp}{a:Addr}{xs:List V}(e:aW H H')(h:iY K H a xs):iY K H' a xs:=by
 rcases h with (h|⟨o,h⟩)|h
 ·exact .inl (.inl (e _ _ h))
 ·exact .inl (.inr ⟨o,e _ _ h⟩)
 ·exact .inr h
mutual
theorem Rep.mono{K:W.Frag}{H H':Hp}(e:aW H H'):∀ {d:D}{v:V},Rep K H d v->Rep K H' d v
 | .none,_,h=>h
 | .bool _,_,h=>h
 | .int _,_,h=>h
 | .str _,_,h=>h
 | .tuple ds,_,h=>by
  simp only[Rep] at h ⊢
  obtain⟨a,vs,rfl,q,r⟩:=h
  exact⟨a,vs,rfl,aL e q,aw.mono e r⟩
 | .list ds,_,h=>by
  simp only[Rep] at h ⊢
  obtain⟨a,vs,rfl,q,r⟩:=h
  exact⟨a,vs,rfl,e.seq q,aw.mono e r⟩
 | .dict _,_,h=>h
theorem aw.mono{K:W.Frag}{H H':Hp}(e:aW H H'):∀ {ds:List D}{vs:List V},aw K H ds vs->aw K H' ds vs
 | [],_,h=>h
 | d::ds,_,h=>by
  simp only[aw] at h ⊢
  obtain⟨v,r,rfl,a,b⟩:=h
  exact⟨v,r,rfl,Rep.mono e a,aw.mono e b⟩
end
section
variable {K:W.Frag}{H:Hp}
theorem aw.nil:aw K H [] []:=by simp[aw]
theorem aw.cons{d:D}{v:V}{ds:List D}{vs:List V}(a:Rep K H d v)(b:aw K H ds vs):aw K H (d::ds) (v::vs):=by
 simp only[aw];exact⟨v,vs,rfl,a,b⟩
theorem aw.cons_inv{d:D}{ds:List D}{vs:List V}(h:aw K H (d::ds) vs):∃v r,vs=v::r/\Rep K H d v/\aw K H ds r:=by simpa only[aw] using h
theorem aw.nil_inv{vs:List V}(h:aw K H [] vs):vs=[]:=by simpa only[aw] using h
theorem aw.length:∀ {ds:List D}{vs:List V},aw K H ds vs->vs.length=ds.length
 | [],_,h=>by rw[h.nil_inv];rfl
 | d::ds,_,h=>by obtain⟨v,r,rfl,_,b⟩:=h.cons_inv;simp[aw.length b]
theorem aw.get:∀ {ds:List D}{vs:List V}{i:Nat}{v:V},aw K H ds vs->vs[i]?=some v->∃d,ds[i]?=some d/\Rep K H d v
 | [],_,i,v,h,e=>by rw[h.nil_inv] at e;simp at e
 | d::ds,_,i,v,h,e=>by
  obtain⟨v',r,rfl,a,b⟩:=h.cons_inv
  cases i with
  | zero=>simp at e;subst e;exact⟨d,rfl,a⟩
  | succ i=>simp at e;obtain⟨d',h1,h2⟩:=aw.get b e;exact⟨d',by simpa using h1,h2⟩
theorem aw.getD:∀ {ds:List D}{vs:List V}{i:Nat}{d:D},aw K H ds vs->ds[i]?=some d->∃v,vs[i]?=some v/\Rep K H d v
 | [],_,i,d,h,e=>by simp at e
 | d::ds,_,i,d',h,e=>by
  obtain⟨v',r,rfl,a,b⟩:=h.cons_inv
  cases i with
  | zero=>simp at e;subst e;exact⟨v',rfl,a⟩
  | succ i=>simp at e;obtain⟨v,h1,h2⟩:=aw.getD b e;exact⟨v,by simpa using h1,h2⟩
theorem aw.append:∀ {ds es:List D}{vs us:List V},aw K H ds vs->aw K H es us->aw K H (ds++es) (vs++us)
 | [],_,_,_,h,g=>by rw[h.nil_inv];exact g
 | d::ds,_,_,_,h,g=>by obtain⟨v,r,rfl,a,b⟩:=h.cons_inv;exact aw.cons a (aw.append b g)
theorem aw.take:∀ {ds:List D}{vs:List V}(n:Nat),aw K H ds vs->aw K H (ds.take n) (vs.take n)
 | [],_,n,h=>by rw[h.nil_inv];simp[aw]
 | d::ds,_,0,h=>by simp[aw]
 | d::ds,_,n+1,h=>by obtain⟨v,r,rfl,a,b⟩:=h.cons_inv;exact aw.cons a (aw.take n b)
theorem aw.drop:∀ {ds:List D}{vs:List V}(n:Nat),aw K H ds vs->aw K H (ds.drop n) (vs.drop n)
 | [],_,n,h=>by rw[h.nil_inv];simp[aw]
 | d::ds,_,0,h=>h
 | d::ds,_,n+1,h=>by obtain⟨v,r,rfl,a,b⟩:=h.cons_inv;exact aw.drop n b
end
structure bF(HF H HF' H':Hp):Prop where
 hh:aW H H'
 ff:aW HF HF'
 fh:aW HF' H'
 nw:∀a o,HF' a=some o->HF a=some o\/H a=none
theorem bF.refl{HF H:Hp}(s:aW HF H):bF HF H HF H:=⟨.refl _,.refl _,s,fun _ _ e=>.inl e⟩
theorem bF.trans{HF H HF1 H1 HF2 H2:Hp}(a:bF HF H HF1 H1)(b:bF HF1 H1 HF2 H2):bF HF H HF2 H2 :=
 ⟨a.hh.trans b.hh,a.ff.trans b.ff,b.fh,fun x o e=>(b.nw x o e).elim (fun z=>a.nw x o z) fun z=>.inr (a.hh.free z)⟩
theorem eC{H:Hp}{p:Addr}{o:HO}(h:H p=none):aW H (upd H p o):=fun b u e=>by rw[aF (aX e h)];exact e
theorem bF.new{HF H:Hp}{p:Addr}{o:HO}(s:aW HF H)(h:H p=none):bF HF H (upd HF p o) (upd H p o):=by
 have hf:HF p=none:=s.free h
 refine⟨eC h,eC hf,fun b u e=>?_,fun b u e=>?_⟩
 ·by_cases hb:b=p
  ·subst hb;rw[aC] at e ⊢;exact e
  ·rw[aF hb] at e ⊢;exact s b u e
 ·by_cases hb:b=p
  ·subst hb;exact .inr h
  ·rw[aF hb] at e;exact .inl e
theorem bF.own{HF H:Hp}{p:Addr}{o:HO}(s:aW HF H)(h:H p=none):bF HF H HF (upd H p o) :=
 ⟨eC h,.refl _,fun b u e=>by rw[aF (aX (s b u e) h)];exact s b u e,fun _ _ e=>.inl e⟩
theorem bF.freeze{HF H HF1 H1:Hp}{p:Addr}{o:HO}(g:bF HF H HF1 H1)(h:H p=none)(h1:H1 p=some o)(hf:HF1 p=none):bF HF H (upd HF1 p o) H1 :=
 ⟨g.hh,g.ff.trans (eC hf),fun b u e=>by
  by_cases hb:b=p
  ·subst hb;rw[aC] at e;rw[h1,<- e]
  ·rw[aF hb] at e;exact g.fh b u e,fun b u e=>by
  by_cases hb:b=p
  ·subst hb;exact .inr h
  ·rw[aF hb] at e;exact g.nw b u e⟩
def ku:List Str:=["ways_of","turned_order","fairest"]
def eX(K:W.Frag)(HF:Hp):Prop:=∀ (f:Addr) (oc:Value) (od:Option Addr) (fd:FuncData) (sl:Array (Option Value)) (c P:Addr),K.lookup f=some ⟨oc,od,.func fd,sl⟩->fd.qualname∈ku->fd.code=.ref c->W.codeHdIn K c P=true->HF P=some (.tab (fd.qualname++".<locals>."++"<lambda>"))
theorem eX.mono{K:W.Frag}{HF HF':Hp}(h:eX K HF)(e:aW HF HF'):eX K HF':=fun f oc od fd sl c P a b d q=>e _ _ (h f oc od fd sl c P a b d q)
abbrev Env:=List (Option D)
structure cS(K:W.Frag)(HF:Hp)(ρ:Env)(σ:L2.St):Prop where
 get:∀ (i:Nat) (d:D),ρ[i]?=some (some d)->∃v,σ[i]?=some (some v)/\Rep K HF d v
 len:ρ.length<=σ.length
 tb:eX K HF
theorem cS.mono{K:W.Frag}{HF HF':Hp}{ρ:Env}{σ:L2.St}(h:cS K HF ρ σ)(e:aW HF HF'):cS K HF' ρ σ:=⟨fun i d q=>let ⟨v,a,b⟩:=h.get i d q;⟨v,a,b.mono e⟩,h.len,h.tb.mono e⟩
def tD(K:W.Frag)(f:Env->Option D):TE:=fun σ H Q=>∃HF ρ d,aW HF H/\cS K HF ρ σ/\f ρ=some d/\∀v H' HF',bF HF H HF' H'->Rep K HF' d v->Q v H'
def DE(X:Cx)(e:Expr)(f:Env->Option D):Prop:=PE X e (tD X.K f)
def tF(K:W.Frag)(f:Env->Option (List D)):TE:=fun σ H Q=>∃HF ρ ds,aW HF H/\cS K HF ρ σ/\f ρ=some ds /\
 ∀a vs H' HF',bF HF H HF' H'->H a=none->HF' a=none->H' a=some (.lst vs)->aw K HF' ds vs->Q (.ref a) H'
def DF(X:Cx)(e:Expr)(f:Env->Option (List D)):Prop:=PE X e (tF X.K f)
def NC(K:W.Frag)(f:Env->Option Bool):TT:=fun σ H Q=>∃HF ρ b,aW HF H/\cS K HF ρ σ/\f ρ=some b/\∀H' HF',bF HF H HF' H'->Q b H'
def DT(X:Cx)(e:Expr)(f:Env->Option Bool):Prop:=PT X e (NC X.K f)
def RR(K:W.Frag)(f:Env->Option (List D)):TA:=fun σ H Q=>∃HF ρ ds,aW HF H/\cS K HF ρ σ/\f ρ=some ds/\∀vs H' HF',bF HF H HF' H'->aw K HF' ds vs->Q vs H'
def DA(X:Cx)(es:List Expr)(f:Env->Option (List D)):Prop:=PA X es (RR X.K f)
section
variable {X:Cx}
theorem bf{e:Expr}{t t':TE}(h:PE X e t)(i:∀σ H Q,t' σ H Q->t σ H Q):PE X e t':=fun pins s σ H Q I q=>h pins s σ H Q I (i σ H Q q)
theorem ya{e:Expr}{t t':TT}(h:PT X e t)(i:∀σ H Q,t' σ H Q->t σ H Q):PT X e t':=fun pins s σ H Q I q=>h pins s σ H Q I (i σ H Q q)
theorem CI{e:List Expr}{t t':TA}(h:PA X e t)(i:∀σ H Q,t' σ H Q->t σ H Q):PA X e t':=fun pos pins s σ H Q I q=>h pos pins s σ H Q I (i σ H Q q)
theorem bs{α β:Type}{x:Option α}{f:α->Option β}{b:β}(h:x.bind f=some b):∃a,x=some a/\f a=some b:=by
 cases x with
 | none=>cases h
 | some a=>exact⟨a,rfl,h⟩
theorem DF.de{e:Expr}{f:Env->Option (List D)}(h:DF X e f):DE X e (fun ρ=>(f ρ).map PyData.list):=bf h fun σ H Q ⟨HF,ρ,d,sm,eo,hf,q⟩=>by
 have hf:(f ρ).map PyData.list=some d:=hf
 cases e1:f ρ with
 | none=>rw[e1] at hf;cases hf
 | some ds =>
  rw[e1] at hf
  obtain rfl:PyData.list ds=d:=xD hf
  refine⟨HF,ρ,ds,sm,eo,e1,fun a vs H' HF' g ha hf' h' r=>q _ _ (upd HF' a (.lst vs)) (g.freeze ha h' hf') ?_⟩
  simp only[Rep]
  exact⟨a,vs,rfl,.inl (.inl aC),r.mono (eC hf')⟩
def ae(i:Nat):Env->Option D:=fun ρ=>(ρ[i]?).getD none
theorem Nl(i:Nat){x:Str}{pos:Pos}(hN:X.N[i]?=some x)(hv:Lx X.env.scope x)(hd:(x == ("__debug__":Str))=false:=by decide)(hcd:(x == ("__classdict__":Str))=false:=by decide):DE X (.Name x pos) (ae i) :=
 bf (lL hN hv hd hcd) fun σ H Q ⟨HF,ρ,d,sm,eo,hf,q⟩=>by
  have hf:(ρ[i]?).getD none=some d:=hf
  cases e:ρ[i]? with
  | none=>rw[e] at hf;cases hf
  | some o =>
   rw[e] at hf
   have hf:o=some d:=hf
   subst hf
   obtain⟨v,a,b⟩:=eo.get i d e
   exact⟨v,a,q v H HF (.refl sm) b⟩
def fC(d:D):Env->Option D:=fun _=>some d
theorem MC{i j pos}:DE X (.Constant (.int i) j pos) (fC (.int i)):=bf Gg fun σ H Q ⟨HF,ρ,d,sm,eo,hf,q⟩=>by cases hf;exact q _ H HF (.refl sm) (by simp[Rep])
theorem P2{b j pos}:DE X (.Constant (.bool b) j pos) (fC (.bool b)):=bf IY fun σ H Q ⟨HF,ρ,d,sm,eo,hf,q⟩=>by cases hf;exact q _ H HF (.refl sm) (by simp[Rep])
theorem Nm{j pos}:DE X (.Constant .none j pos) (fC .none):=bf NL fun σ H Q ⟨HF,ρ,d,sm,eo,hf,q⟩=>by cases hf;exact q _ H HF (.refl sm) (by simp[Rep])
theorem NY{x j pos}:DE X (.Constant (.str x) j pos) (fC (.str x)):=bf Gc fun σ H Q ⟨HF,ρ,d,sm,eo,hf,q⟩=>by cases hf;exact q _ H HF (.refl sm) (by simp[Rep])
theorem LP{x:Str}{i:Int}{t:Tok}{pos:Pos}(hg:Gl X x)(hm:X.mg x=some (.int i t))(hd:(x == ("__debug__":Str))=false:=by decide):DE X (.Name x pos) (fC (.int i)) :=
 bf (nh (v:=.int i) hg hm ⟨t,rfl⟩ hd) fun σ H Q ⟨HF,ρ,d,sm,eo,hf,q⟩=>by cases hf;exact q _ H HF (.refl sm) (by simp[Rep])
def fX(K:W.Frag)(r:R2)(g:D->D->Option D):Prop:=∀HF H x y v1 v2 d Q,aW HF H->Rep K HF x v1->Rep K HF y v2->g x y=some d->(∀v H' HF',bF HF H HF' H'->Rep K HF' d v->Q v H')->r v1 v2 H Q
def f2(g:D->D->Option D)(f1 f2:Env->Option D):Env->Option D:=fun ρ=>(f1 ρ).bind fun x=>(f2 ρ).bind fun y=>g x y
variable {a b c:Expr}{fa fb fc:Env->Option D}{pos:Pos}
theorem K6{r:R2}{g:D->D->Option D}(hr:fX X.K r g):∀σ H Q,tD X.K (f2 g fa fb) σ H Q->QD r (tD X.K fa) (tD X.K fb) σ H Q:=fun σ H Q ⟨HF,ρ,d,sm,eo,hf,q⟩=>by
 obtain⟨x,hx,hf⟩:=bs hf
 obtain⟨y,hy,hg⟩:=bs hf
 exact⟨HF,ρ,x,sm,eo,hx,fun v1 H1 HF1 g1 r1=>⟨HF1,ρ,y,g1.fh,eo.mono g1.ff,hy,fun v2 H2 HF2 g2 r2=>hr HF2 H2 x y v1 v2 d Q g2.fh (r1.mono g2.ff) r2 hg fun v H' HF' g3 r3=>q v H' HF' ((g1.trans g2).trans g3) r3⟩⟩
theorem zp{op:Operator}{r:R2}{g:D->D->Option D}(ho:iw X (binaryOp op) r)(hr:fX X.K r g)(ha:DE X a fa)(hb:DE X b fb):DE X (.BinOp a op b pos) (f2 g fa fb):=bf (C9 ho ha hb) (K6 hr)
theorem lg{op:CmpOp}{r:R2}{g:D->D->Option D}(ho:iw X (compareOp op) r)(hr:fX X.K r g)(ha:DE X a fa)(hb:DE X b fb)(hm:behindInMarks op b=false):DE X (.Compare a [op] [b] pos) (f2 g fa fb):=bf (Li ho ha hb hm) (K6 hr)
def za(C:Int->Int->Prop)[∀i j,Decidable (C i j)](g:Int->Int->D):D->D->Option D
 | .int i,.int j=>if C i j then some (g i j) else none
 | _,_=>none
theorem Hw{K:W.Frag}{C:Int->Int->Prop}[∀i j,Decidable (C i j)]{gi:Int->Int->Int}:fX K (rI C fun i j=>.int (gi i j)) (za C fun i j=>.int (gi i j)):=by
 intro HF H x y v1 v2 d Q sm r1 r2 hg q
 cases x<;>cases y<;>simp only[za] at hg<;>try cases hg
 rename_i i j
 simp only[Rep] at r1 r2
 by_cases hc:C i j
 ·rw[yL hc] at hg
  cases hg
  exact⟨i,j,r1,r2,hc,q _ H HF (.refl sm) (by simp[Rep])⟩
 ·rw[yN hc] at hg;cases hg
theorem GB{K:W.Frag}{gi:Int->Int->Int}:fX K (JP fun i j=>.int (gi i j)) (za (fun _ _=>True) fun i j=>.int (gi i j)):=by
 intro HF H x y v1 v2 d Q sm r1 r2 hg q
 cases x<;>cases y<;>simp only[za] at hg<;>try cases hg
 rename_i i j
 simp only[Rep] at r1 r2
 exact⟨i,j,r1,r2,q _ H HF (.refl sm) (by simp[Rep])⟩
theorem ib{K:W.Frag}{gi:Int->Int->Bool}:fX K (JP fun i j=>.bl (gi i j)) (za (fun _ _=>True) fun i j=>.bool (gi i j)):=by
 intro HF H x y v1 v2 d Q sm r1 r2 hg q
 cases x<;>cases y<;>simp only[za] at hg<;>try cases hg
 rename_i i j
 simp only[Rep] at r1 r2
 exact⟨i,j,r1,r2,q _ H HF (.refl sm) (by simp[Rep])⟩
noncomputable instance (i j:Int):Decidable (tZ i j):=by unfold tZ;infer_instance
noncomputable instance (i j:Int):Decidable (JZ i j):=by unfold JZ;infer_instance
end
section
variable {X:Cx}{a b c:Expr}{fa fb fc:Env->Option D}{pos:Pos}{rest:List Expr}
def me(fa fb:Env->Option D):Env->Option D:=fun ρ=>(fa ρ).bind fun|.bool true=>fb ρ|.bool false=>some (.bool false)|_=>none
def QZ(fa fb:Env->Option D):Env->Option D:=fun ρ=>(fa ρ).bind fun|.bool true=>some (.bool true)|.bool false=>fb ρ|_=>none
def Qt:D->Option D|.bool b=>some (.bool (!b))|_=>none
def OS(fa:Env->Option D):Env->Option D:=fun ρ=>(fa ρ).bind Qt
theorem NB{op}(h:DE X a fa):DE X (.BoolOp op [a] pos) fa:=OA h
theorem OT(ha:DE X a fa)(hb:DE X (.BoolOp .And (b::rest) pos) fb):DE X (.BoolOp .And (a::b::rest) pos) (me fa fb):=bf (Nw ha hb) fun σ H Q ⟨HF,ρ,d,sm,eo,hf,q⟩=>by
 obtain⟨x,hx,hf⟩:=bs hf
 refine⟨HF,ρ,x,sm,eo,hx,fun v1 H1 HF1 g1 r1=>?_⟩
 cases x<;>try cases hf
 rename_i k
 simp only[Rep] at r1
 refine⟨k,r1,?_⟩
 cases k with
 | true=>exact tG ⟨HF1,ρ,d,g1.fh,eo.mono g1.ff,hf,fun v H' HF' g r=>q v H' HF' (g1.trans g) r⟩
 | false=>cases hf;exact p9 (q _ H1 HF1 g1 (by simp[Rep]))
theorem P8(ha:DE X a fa)(hb:DE X (.BoolOp .Or (b::rest) pos) fb):DE X (.BoolOp .Or (a::b::rest) pos) (QZ fa fb):=bf (Jh ha hb) fun σ H Q ⟨HF,ρ,d,sm,eo,hf,q⟩=>by
 obtain⟨x,hx,hf⟩:=bs hf
 refine⟨HF,ρ,x,sm,eo,hx,fun v1 H1 HF1 g1 r1=>?_⟩
 cases x<;>try cases hf
 rename_i k
 simp only[Rep] at r1
 refine⟨k,r1,?_⟩
 cases k with
 | false=>exact p9 ⟨HF1,ρ,d,g1.fh,eo.mono g1.ff,hf,fun v H' HF' g r=>q v H' HF' (g1.trans g) r⟩
 | true=>cases hf;exact tG (q _ H1 HF1 g1 (by simp[Rep]))
theorem NW(ha:DE X a fa):DE X (.UnaryOp .Not a pos) (OS fa):=bf (OQ ha) fun σ H Q ⟨HF,ρ,d,sm,eo,hf,q⟩=>by
 obtain⟨x,hx,hf⟩:=bs hf
 refine⟨HF,ρ,x,sm,eo,hx,fun v1 H1 HF1 g1 r1=>?_⟩
 cases x<;>try cases hf
 rename_i k
 simp only[Rep] at r1
 exact⟨k,r1,q _ H1 HF1 g1 (by simp[Rep])⟩
def gB:D->Option Bool|.bool b=>some b|_=>none
def fB(f:Env->Option D):Env->Option Bool:=fun ρ=>(f ρ).bind gB
theorem CM{f:Env->Option D}:∀σ H (Q:Bool->Hp->Prop),NC X.K (fB f) σ H Q->tD X.K f σ H fun x H1=>∃c,x=.bl c/\Q c H1:=fun σ H Q ⟨HF,ρ,k,sm,eo,hf,q⟩=>by
 obtain⟨x,hx,hf⟩:=bs hf
 refine⟨HF,ρ,x,sm,eo,hx,fun v1 H1 HF1 g1 r1=>?_⟩
 cases x<;>try cases hf
 simp only[Rep] at r1
 exact⟨_,r1,q H1 HF1 g1⟩
theorem Oc{f:Env->Option D}(h:DE X a f)(he:∀whole,isTrue a X.env whole=(do let v <- whole;standAt a.pos;holding [v] (truthy v)):=by intro _;rfl):DT X a (fB f):=ya (G6 h he) CM
theorem lu{op:CmpOp}{r:R2}{g:D->D->Option D}(ho:iw X (compareOp op) r)(hr:fX X.K r g)(ha:DE X a fa)(hb:DE X b fb)(hm:behindInMarks op b=false):DT X (.Compare a [op] [b] pos) (fB (f2 g fa fb)) :=
 ya (Dg ho ha hb hm) fun σ H Q h=>K6 hr σ H _ (CM σ H Q h)
def dw(fa fb:Env->Option Bool):Env->Option Bool:=fun ρ=>(fa ρ).bind fun|true=>fb ρ|false=>some false
def sM(fa fb:Env->Option Bool):Env->Option Bool:=fun ρ=>(fa ρ).bind fun|true=>some true|false=>fb ρ
def bE(fa:Env->Option Bool):Env->Option Bool:=fun ρ=>(fa ρ).map (!·)
variable {ta tb:Env->Option Bool}
def DW(X:Cx)(e:Expr)(f:Env->Option Bool):Prop:=PW X e (NC X.K f)
theorem Il{e:Expr}{t t':TT}(h:PW X e t)(i:∀σ H Q,t' σ H Q->t σ H Q):PW X e t':=fun wh pins s σ H Q I q=>h wh pins s σ H Q I (i σ H Q q)
theorem DW.dt(h:DW X a ta):DT X a ta:=PW.pt h
theorem KG(ha:DT X a ta):DW X (.BoolOp .And [a] pos) ta:=JT ha
theorem M7(ha:DT X a ta):DW X (.BoolOp .Or [a] pos) ta:=HZ ha
theorem M0(ha:DT X a ta)(hb:DW X (.BoolOp .And (b::rest) pos) tb):DW X (.BoolOp .And (a::b::rest) pos) (dw ta tb):=Il (N6 ha hb) fun σ H Q ⟨HF,ρ,d,sm,eo,hf,q⟩=>by
 obtain⟨x,hx,hf⟩:=bs hf
 refine⟨HF,ρ,x,sm,eo,hx,fun H1 HF1 g1=>?_⟩
 cases x with
 | true=>exact tG ⟨HF1,ρ,d,g1.fh,eo.mono g1.ff,hf,fun H' HF' g=>q H' HF' (g1.trans g)⟩
 | false=>cases hf;exact p9 (q H1 HF1 g1)
theorem P9(ha:DT X a ta)(hb:DW X (.BoolOp .Or (b::rest) pos) tb):DW X (.BoolOp .Or (a::b::rest) pos) (sM ta tb):=Il (Mh ha hb) fun σ H Q ⟨HF,ρ,d,sm,eo,hf,q⟩=>by
 obtain⟨x,hx,hf⟩:=bs hf
 refine⟨HF,ρ,x,sm,eo,hx,fun H1 HF1 g1=>?_⟩
 cases x with
 | false=>exact p9 ⟨HF1,ρ,d,g1.fh,eo.mono g1.ff,hf,fun H' HF' g=>q H' HF' (g1.trans g)⟩
 | true=>cases hf;exact tG (q H1 HF1 g1)
theorem OM(ha:DT X a ta):DT X (.UnaryOp .Not a pos) (bE ta):=ya (Jt ha) fun σ H Q ⟨HF,ρ,d,sm,eo,hf,q⟩=>by
 have hf:(ta ρ).map (!·)=some d:=hf
 cases e:ta ρ with
 | none=>rw[e] at hf;cases hf
 | some k=>rw[e] at hf;cases hf;exact⟨HF,ρ,k,sm,eo,e,fun H1 HF1 g1=>q H1 HF1 g1⟩
def Dd(tc:Env->Option Bool)(fa fb:Env->Option D):Env->Option D:=fun ρ=>(tc ρ).bind fun|true=>fa ρ|false=>fb ρ
theorem Qy{c:Expr}(hc:DT X c ta)(ha:DE X a fa)(hb:DE X b fb):DE X (.IfExp c a b pos) (Dd ta fa fb):=bf (Ak hc ha hb) fun σ H Q ⟨HF,ρ,d,sm,eo,hf,q⟩=>by
 obtain⟨x,hx,hf⟩:=bs hf
 refine⟨HF,ρ,x,sm,eo,hx,fun H1 HF1 g1=>?_⟩
 cases x with
 | true=>exact tG ⟨HF1,ρ,d,g1.fh,eo.mono g1.ff,hf,fun v H' HF' g r=>q v H' HF' (g1.trans g) r⟩
 | false=>exact p9 ⟨HF1,ρ,d,g1.fh,eo.mono g1.ff,hf,fun v H' HF' g r=>q v H' HF' (g1.trans g) r⟩
def lx(g g':D->D->Option D)(fa fb fc:Env->Option D):Env->Option D:=fun ρ=>(fa ρ).bind fun x=>(fb ρ).bind fun y=>(g x y).bind fun|.bool true=>(fc ρ).bind fun z=>g' y z|.bool false=>some (.bool false)|_=>none
theorem Dh{r r':R2}{g g':D->D->Option D}(hr:fX X.K r g)(hr':fX X.K r' g'):∀σ H Q,tD X.K (lx g g' fa fb fc) σ H Q->Cs r r' (tD X.K fa) (tD X.K fb) (tD X.K fc) σ H Q:=fun σ H Q ⟨HF,ρ,d,sm,eo,hf,q⟩=>by
 obtain⟨x,hx,hf⟩:=bs hf
 obtain⟨y,hy,hf⟩:=bs hf
 obtain⟨z,hz,hf⟩:=bs hf
 refine⟨HF,ρ,x,sm,eo,hx,fun v1 H1 HF1 g1 r1=>⟨HF1,ρ,y,g1.fh,eo.mono g1.ff,hy,fun v2 H2 HF2 g2 r2=>hr HF2 H2 x y v1 v2 z _ g2.fh (r1.mono g2.ff) r2 hz fun v3 H3 HF3 g3 r3=>?_⟩⟩
 cases z<;>try cases hf
 rename_i k
 simp only[Rep] at r3
 refine⟨k,r3,?_⟩
 have G:=(g1.trans g2).trans g3
 cases k with
 | false=>cases hf;exact p9 (q _ H3 HF3 G (by simp[Rep]))
 | true =>
  obtain⟨w,hw,hg⟩:=bs hf
  exact tG ⟨HF3,ρ,w,G.fh,eo.mono G.ff,hw,fun v4 H4 HF4 g4 r4=>hr' HF4 H4 y w v2 v4 d Q g4.fh (r2.mono (g3.ff.trans g4.ff)) r4 hg fun v H' HF' g5 r5=>q v H' HF' ((G.trans g4).trans g5) r5⟩
theorem Ja{op op':CmpOp}{r r':R2}{g g':D->D->Option D}(ho:iw X (compareOp op) r)(hr:fX X.K r g)(ho':iw X (compareOp op') r')(hr':fX X.K r' g')(ha:DE X a fa)(hb:DE X b fb)(hc:DE X c fc)
  (hm:lastMarks [op,op'] [b,c]=false:=by with_unfolding_all rfl):DE X (.Compare a [op,op'] [b,c] pos) (lx g g' fa fb fc):=bf (Ia ho ho' ha hb hc hm) (Dh hr hr')
theorem IL{op op':CmpOp}{r r':R2}{g g':D->D->Option D}(ho:iw X (compareOp op) r)(hr:fX X.K r g)(ho':iw X (compareOp op') r')(hr':fX X.K r' g')(ha:DE X a fa)(hb:DE X b fb)(hc:DE X c fc)
  (hm:lastMarks [op,op'] [b,c]=false:=by with_unfolding_all rfl):DT X (.Compare a [op,op'] [b,c] pos) (fB (lx g g' fa fb fc)) :=
 ya (Jg ho ho' ha hb hc hm) fun σ H Q h=>Dh hr hr' σ H _ (CM σ H Q h)
def af:Env->Option (List D):=fun _=>some []
def aa(f:Env->Option D)(g:Env->Option (List D)):Env->Option (List D):=fun ρ=>(f ρ).bind fun x=>(g ρ).map (x::·)
theorem Gb:DA X [] af:=CI dP fun σ H Q ⟨HF,ρ,d,sm,eo,hf,q⟩=>by cases hf;exact q [] H HF (.refl sm) aw.nil
theorem Ee{e:Expr}{es:List Expr}{f:Env->Option D}{g:Env->Option (List D)}(he:DE X e f)(hs:DA X es g)(hst:starEach (e::es) X.env=(false,eval e X.env)::starEach es X.env:=by rfl):DA X (e::es) (aa f g) :=
 CI (bM he hs hst) fun σ H Q ⟨HF,ρ,d,sm,eo,hf,q⟩=>by
  obtain⟨x,hx,hf⟩:=bs hf
  have hf:(g ρ).map (x::·)=some d:=hf
  cases e1:g ρ with
  | none=>rw[e1] at hf;cases hf
  | some xs =>
   rw[e1] at hf;cases hf
   exact⟨HF,ρ,x,sm,eo,hx,fun v1 H1 HF1 g1 r1=>⟨HF1,ρ,xs,g1.fh,eo.mono g1.ff,e1,fun vs H2 HF2 g2 r2=>q (v1::vs) H2 HF2 (g1.trans g2) (aw.cons (r1.mono g2.ff) r2)⟩⟩
variable {es:List Expr}{fs:Env->Option (List D)}
def small(ds:List D):Option (List D):=if ds.length<=sizeLine then some ds else none
theorem eS{ds es:List D}(h:small ds=some es):es=ds/\ds.length<=sizeLine:=by
 unfold small at h
 split at h
 ·cases h;exact⟨rfl,‹_›⟩
 ·cases h
def aN(g:Env->Option (List D)):Env->Option D:=fun ρ=>(g ρ).bind fun ds=>(small ds).map PyData.tuple
def b0(g:Env->Option (List D)):Env->Option (List D):=fun ρ=>(g ρ).bind small
theorem Nr{x1}(h:DA X es fs):DE X (.Tuple es x1 pos) (aN fs):=bf (Im h) fun σ H Q ⟨HF,ρ,d,sm,eo,hf,q⟩=>by
 obtain⟨ds,hx,hf⟩:=bs hf
 have hf:(small ds).map PyData.tuple=some d:=hf
 cases e:small ds with
 | none=>rw[e] at hf;cases hf
 | some es' =>
  rw[e] at hf;cases hf
  obtain⟨rfl,hz⟩:=eS e
  refine⟨HF,ρ,_,sm,eo,hx,fun vs H1 HF1 g1 r1=>⟨by rw[r1.length];exact hz,fun p hp=>q _ _ (upd HF1 p (.tup vs)) (g1.trans (.new g1.fh hp)) ?_⟩⟩
  simp only[Rep]
  exact⟨p,vs,rfl,.inl (.inl aC),r1.mono (eC (g1.fh.free hp))⟩
theorem OH(h:DA X es fs):DF X (.List es pos) (b0 fs):=bf (sQ h) fun σ H Q ⟨HF,ρ,d,sm,eo,hf,q⟩=>by
 obtain⟨ds,hx,hf⟩:=bs hf
 obtain⟨rfl,hz⟩:=eS hf
 exact⟨HF,ρ,_,sm,eo,hx,fun vs H1 HF1 g1 r1=>⟨by rw[r1.length];exact hz,fun p hp=>q p vs _ HF1 (g1.trans (.own g1.fh hp)) (g1.hh.free hp) (g1.fh.free hp) aC r1⟩⟩
def av:D->D->Option D
 | .tuple ds,.int i=>y3 ds i
 | .list ds,.int i=>y3 ds i
 | _,_=>none
theorem Ay{K:W.Frag}{HF:Hp}{ds:List D}{vs:List V}{i:Int}{d:D}(r:aw K HF ds vs)(h:y3 ds i=some d):∃v,y3 vs i=some v/\Rep K HF d v:=by
 unfold y3 at h ⊢
 rw[r.length]
 obtain⟨j,hj,h⟩:=bs h
 obtain⟨v,a,b⟩:=r.getD h
 exact⟨v,by rw[hj];exact a,b⟩
theorem Ng{K:W.Frag}:fX K (R0 K) av:=by
 intro HF H x y v1 v2 d Q sm r1 r2 hg q
 cases x<;>cases y<;>simp only[av] at hg<;>try cases hg
 ·simp only[Rep] at r1 r2
  obtain⟨a,vs,rfl,hs,r⟩:=r1
  obtain⟨v,hv,rv⟩:=Ay r hg
  exact .inl ⟨a,vs,_,v,rfl,r2,sm.seq hs,hv,q v H HF (.refl sm) rv⟩
 ·simp only[Rep] at r1 r2
  obtain⟨a,vs,rfl,hs,r⟩:=r1
  obtain⟨v,hv,rv⟩:=Ay r hg
  exact .inr (.inl ⟨a,vs,_,v,rfl,r2,aL sm hs,hv,q v H HF (.refl sm) rv⟩)
theorem PR(ha:DE X a fa)(hb:DE X b fb)(hs:nZ b:=by intro _ _;rfl):DE X (.Subscript a b pos) (f2 av fa fb):=bf (Hq Nx ha hb hs) (K6 Ng)
mutual
theorem et{pins:List (Addr×Obj)}{σ:L2.St}{H HF:Hp}{s:Shared}(I:Inv X pins σ H s)(sm:aW HF H):∀ {d:D}{v:V}{u:Value},Rep X.K HF d v->RelV v u->∃as,Reads s.heap u d as
 | .none,_,_,h,r=>by simp only[Rep] at h;subst h;cases r;exact⟨_,.none⟩
 | .bool b,_,_,h,r=>by simp only[Rep] at h;subst h;cases r;exact⟨_,.bool b⟩
 | .int i,_,_,h,r=>by simp only[Rep] at h;subst h;obtain⟨t,rfl⟩:=r;exact⟨_,.int i t⟩
 | .str i,_,_,h,r=>by simp only[Rep] at h;subst h;obtain⟨t,rfl⟩:=r;exact⟨_,.str i t⟩
 | .tuple ds,_,_,h,r=>by
  simp only[Rep] at h
  obtain⟨a,vs,rfl,hs,rr⟩:=h
  cases r
  obtain⟨its,rv,⟨o,ho,hc,n,hd⟩,_⟩:=I.tuple (aL sm hs)
  obtain⟨as,q⟩:=pd I sm rr rv
  exact⟨as,.tuple ho hc hd (by simpa using q)⟩
 | .list ds,_,_,h,r=>by
  simp only[Rep] at h
  obtain⟨a,vs,rfl,hs,rr⟩:=h
  cases r
  obtain⟨its,rv,pl,_⟩:=I.list (sm.seq hs)
  obtain⟨o,ho,hc,n,hd⟩:=pl.isList
  obtain⟨as,q⟩:=pd I sm rr rv
  exact⟨_,.list ho hc hd (by simpa using q)⟩
 | .dict _,_,_,h,r=>by simp only[Rep] at h
theorem pd{pins:List (Addr×Obj)}{σ:L2.St}{H HF:Hp}{s:Shared}(I:Inv X pins σ H s)(sm:aW HF H):∀ {ds:List D}{vs:List V}{us:List Value},aw X.K HF ds vs->aQ vs us->∃as,ReadsAll s.heap us ds as
 | [],_,_,h,r=>by rw[h.nil_inv] at r;cases r;exact⟨_,.nil⟩
 | d::ds,_,_,h,r=>by
  obtain⟨v,vr,rfl,a,b⟩:=h.cons_inv
  cases r with
  | cons r rr =>
   obtain⟨as,q⟩:=et I sm a r
   obtain⟨bs,p⟩:=pd I sm b rr
   exact⟨_,.cons q p⟩
end
def QM(K:W.Frag)(g:D->D->Option Bool):R2:=fun v1 v2 H Q=>∃HF x y k,aW HF H/\Rep K HF x v1/\Rep K HF y v2/\g x y=some k/\Q (.bl k) H
theorem o4{K:W.Frag}{g:D->D->Option Bool}:fX K (QM K g) (fun x y=>(g x y).map PyData.bool):=by
 intro HF H x y v1 v2 d Q sm r1 r2 hg q
 have hg:(g x y).map PyData.bool=some d:=hg
 cases e:g x y with
 | none=>rw[e] at hg;cases hg
 | some k=>rw[e] at hg;cases hg;exact⟨HF,x,y,k,sm,r1,r2,e,q _ H HF (.refl sm) (by simp[Rep])⟩
def MB(x y:D):Option Bool:=if SeqAt.shaped x=true/\SeqAt.shaped y=true then some (PyData.eqv x y) else none
def Kh(x y:D):Option Bool:=if SeqAt.shaped x=true/\SeqAt.shaped y=true then some (!PyData.eqv x y) else none
theorem Iv(hu:X.A.units+64 < cLine):iw X (compareOp .Eq) (QM X.K MB):=by
 intro pins s σ H v1 v2 u1 u2 Q I rx ry h
 obtain⟨HF,x,y,k,sm,r1,r2,hg,q⟩:=h
 unfold MB at hg
 split at hg<;>cases hg
 rename_i hh
 obtain⟨as,ra⟩:=et I sm r1 rx
 obtain⟨bs,rb⟩:=et I sm r2 ry
 exact eq_dataH ra rb hh.1 hh.2 hu ⟨.bl _,H,I,rfl,q⟩
theorem Iz(hu:X.A.units+64 < cLine):iw X (compareOp .NotEq) (QM X.K Kh):=by
 intro pins s σ H v1 v2 u1 u2 Q I rx ry h
 obtain⟨HF,x,y,k,sm,r1,r2,hg,q⟩:=h
 unfold Kh at hg
 split at hg<;>cases hg
 rename_i hh
 obtain⟨as,ra⟩:=et I sm r1 rx
 obtain⟨bs,rb⟩:=et I sm r2 ry
 exact ne_dataH ra rb hh.1 hh.2 hu ⟨.bl _,H,I,rfl,q⟩
def items:D->Option (List D)|.tuple ds=>some ds|.list ds=>some ds|_=>none
end
def ON(K:W.Frag)(n:Nat)(m:List D->Option D):Sp:=fun vs H Q _=>∃HF ds d,aW HF H/\eX K HF/\aw K HF ds vs/\ds.length=n/\m ds=some d/\∀v H' HF',bF HF H HF' H'->Rep K HF' d v->Q v H'
structure eJ(P:Program)(w:World)(K:W.Frag)(mg:Str->Option Value)(base:Heap)(k:Nat)(x:Str)(n:Nat)(m:List D->Option D):Prop where
 ex:∃ (f:Addr) (fd:FuncData) (ps:List Str),ni P w K mg base Hh k f fd ps (ON K n m)/\mg x=some (.ref f)/\W.keepIn K (.ref f)=true/\Binds K fd ps []
theorem eJ.mono{P:Program}{w:World}{K:W.Frag}{mg:Str->Option Value}{base:Heap}{k j:Nat}{x:Str}{n:Nat}{m:List D->Option D}(F:eJ P w K mg base k x n m)(h:k<=j):eJ P w K mg base j x n m:=by
 obtain⟨f,fd,ps,a,b,c,d⟩:=F.ex
 exact⟨f,fd,ps,a.mono h,b,c,d⟩
section
variable {X:Cx}{a b c e:Expr}{es:List Expr}{fa fb fc:Env->Option D}{fs:Env->Option (List D)}{pos p:Pos}{x:Str}
def ai(n:Nat)(m:List D->Option D)(fs:Env->Option (List D)):Env->Option D:=fun ρ=>(fs ρ).bind fun ds=>if ds.length=n then m ds else none
theorem KO{k n:Nat}{m:List D->Option D}(F:eJ X.prog X.w X.K X.mg X.base k x n m)(hr:dS k X.A)(hg:Gl X x)(ha:DA X (e::es) fs)(hdb:(x == ("__debug__":Str))=false:=by decide)
  (he:starEach (e::es) X.env=(false,eval e X.env)::starEach es X.env:=by rfl) (hpl:(backTo pos (starEach es X.env)).any (·.1)=false:=by rfl):DE X (.Call (.Name x p) (e::es) [] pos) (ai n m fs):=by
 obtain⟨f,fd,ps,ok,hm,hk,hb⟩:=F.ex
 refine bf (DP (E:=E0) ok hr hg hm hk hb .nil L9 ha hdb he hpl) fun σ H Q ⟨HF,ρ,d,sm,eo,hf,q⟩=>?_
 obtain⟨ds,hx,hf⟩:=bs hf
 split at hf
 ·rename_i hl
  exact⟨HF,ρ,ds,sm,eo,hx,fun vs H1 HF1 g1 r1=>⟨HF1,ds,d,g1.fh,eo.tb.mono g1.ff,by rw[qF];exact r1,hl,hf,fun v H' HF' g r=>q v H' HF' (g1.trans g) r⟩⟩
 ·cases hf
def Hv(K:W.Frag)(r:List V->Hp->VK->Prop)(g:List D->Option D):Prop:=∀HF H ds vs d Q,aW HF H->aw K HF ds vs->g ds=some d->(∀v H' HF',bF HF H HF' H'->Rep K HF' d v->Q v H')->r vs H Q
def aZ(g:List D->Option D)(fs:Env->Option (List D)):Env->Option D:=fun ρ=>(fs ρ).bind g
theorem Pa{r:List V->Hp->VK->Prop}{g:List D->Option D}(hs:Hv X.K r g):∀σ H Q,tD X.K (aZ g fs) σ H Q->QK r (RR X.K fs) σ H Q:=fun σ H Q ⟨HF,ρ,d,sm,eo,hf,q⟩=>by
 obtain⟨ds,hx,hf⟩:=bs hf
 exact⟨HF,ρ,ds,sm,eo,hx,fun vs H1 HF1 g1 r1=>hs HF1 H1 ds vs d Q g1.fh r1 hf fun v H' HF' g2 r2=>q v H' HF' (g1.trans g2) r2⟩
def DU(K:W.Frag)(r:List V->Hp->VK->Prop)(g:List D->Option (List D)):Prop:=∀HF H ds vs es Q,aW HF H->aw K HF ds vs->g ds=some es ->
 (∀a us H' HF',bF HF H HF' H'->H a=none->HF' a=none->H' a=some (.lst us)->aw K HF' es us->Q (.ref a) H')->r vs H Q
def k6(g:List D->Option (List D))(fs:Env->Option (List D)):Env->Option (List D):=fun ρ=>(fs ρ).bind g
theorem LW{r:List V->Hp->VK->Prop}{g:List D->Option (List D)}(hs:DU X.K r g):∀σ H Q,tF X.K (k6 g fs) σ H Q->QK r (RR X.K fs) σ H Q:=fun σ H Q ⟨HF,ρ,d,sm,eo,hf,q⟩=>by
 obtain⟨ds,hx,hf⟩:=bs hf
 exact⟨HF,ρ,ds,sm,eo,hx,fun vs H1 HF1 g1 r1=>hs HF1 H1 ds vs d Q g1.fh r1 hf fun a us H' HF' g2 ha hf' h' r2=>q a us H' HF' (g1.trans g2) (g1.hh.free ha) hf' h' r2⟩
structure pO(X:Cx)(x:Str)(v:Value):Prop where
 gl:Gl X x
 mg:X.mg x=none
 bt:bootBuiltins x=some v
theorem iz{id:String}{r:List V->Hp->VK->Prop}{g:List D->Option D}(hc:eK X (.builtin id) r)(hs:Hv X.K r g)(B:pO X x (.builtin id))(ha:DA X (e::es) fs)(hn:x≠"__name__":=by decide)(hdb:(x == ("__debug__":Str))=false:=by decide)
  (he:starEach (e::es) X.env=(false,eval e X.env)::starEach es X.env:=by rfl) (hpl:(backTo pos (starEach es X.env)).any (·.1)=false:=by rfl):DE X (.Call (.Name x p) (e::es) [] pos) (aZ g fs) :=
 bf (nI hc B.gl B.mg B.bt ha hn hdb he hpl) (Pa hs)
theorem Gj{id:String}{r:List V->Hp->VK->Prop}{g:List D->Option (List D)}(hc:eK X (.builtin id) r)(hs:DU X.K r g)(B:pO X x (.builtin id))(ha:DA X (e::es) fs)(hn:x≠"__name__":=by decide)(hdb:(x == ("__debug__":Str))=false:=by decide)
  (he:starEach (e::es) X.env=(false,eval e X.env)::starEach es X.env:=by rfl) (hpl:(backTo pos (starEach es X.env)).any (·.1)=false:=by rfl):DF X (.Call (.Name x p) (e::es) [] pos) (k6 g fs) :=
 bf (nI hc B.gl B.mg B.bt ha hn hdb he hpl) (LW hs)
theorem EM{T:String}{r:List V->Hp->VK->Prop}{g:List D->Option D}(hc:eK X (.type T) r)(hs:Hv X.K r g)(B:pO X x (.type T))(ha:DA X (e::es) fs)(hn:x≠"__name__":=by decide)(hdb:(x == ("__debug__":Str))=false:=by decide)
  (he:starEach (e::es) X.env=(false,eval e X.env)::starEach es X.env:=by rfl) (hpl:(backTo pos (starEach es X.env)).any (·.1)=false:=by rfl):DE X (.Call (.Name x p) (e::es) [] pos) (aZ g fs) :=
 bf (pq hc B.gl B.mg B.bt ha hn hdb he hpl) (Pa hs)
theorem E5{T:String}{r:List V->Hp->VK->Prop}{g:List D->Option (List D)}(hc:eK X (.type T) r)(hs:DU X.K r g)(B:pO X x (.type T))(ha:DA X (e::es) fs)(hn:x≠"__name__":=by decide)(hdb:(x == ("__debug__":Str))=false:=by decide)
  (he:starEach (e::es) X.env=(false,eval e X.env)::starEach es X.env:=by rfl) (hpl:(backTo pos (starEach es X.env)).any (·.1)=false:=by rfl):DF X (.Call (.Name x p) (e::es) [] pos) (k6 g fs) :=
 bf (pq hc B.gl B.mg B.bt ha hn hdb he hpl) (LW hs)
def g0:D->Option (List D)|.tuple ds=>some ds|.list ds=>some ds|_=>none
def oneOf:List D->Option D|[d]=>some d|_=>none
theorem gE{ds:List D}{d:D}(h:oneOf ds=some d):ds=[d]:=by
 cases ds with
 | nil=>cases h
 | cons x r=>cases r with
  | nil=>cases h;rfl
  | cons _ _=>cases h
theorem mQ{d:D}{ds:List D}(h:g0 d=some ds):d=.tuple ds\/d=.list ds:=by
 cases d<;>cases h
 ·exact .inr rfl
 ·exact .inl rfl
def cI:List D->Option (List D):=fun ds=>(oneOf ds).bind g0
theorem gX{ds es:List D}(h:cI ds=some es):ds=[.tuple es]\/ds=[.list es]:=by
 obtain⟨d,h1,h2⟩:=bs h
 rw[gE h1]
 rcases mQ h2 with rfl|rfl
 ·exact .inl rfl
 ·exact .inr rfl
def aP:List D->Option D:=fun ds=>(cI ds).map fun es=>.int es.length
theorem ag{α β:Type}{x:Option α}{f:α->β}{b:β}(h:x.map f=some b):∃a,x=some a/\f a=b:=by
 cases x with
 | none=>cases h
 | some a=>exact⟨a,rfl,xD h⟩
theorem Ln{K:W.Frag}:Hv K (fun xs H Q=>∃p ys,xs=[.ref p]/\(ig K H p ys\/iY K H p ys)/\Q (.int ys.length) H) aP:=by
 intro HF H ds vs d Q sm r hg q
 obtain⟨es,h1,rfl⟩:=ag hg
 rcases gX h1 with rfl|rfl
 all_goals
  obtain⟨v,r',rfl,a,b⟩:=r.cons_inv
  rw[b.nil_inv]
  simp only[Rep] at a
  obtain⟨p,us,rfl,h,rr⟩:=a
 ·exact⟨p,us,rfl,.inr (aL sm h),q _ H HF (.refl sm) (by simp[Rep,rr.length])⟩
 ·exact⟨p,us,rfl,.inl (sm.seq h),q _ H HF (.refl sm) (by simp[Rep,rr.length])⟩
theorem M9(B:pO X "len" (.builtin "len"))(ha:DA X [e] fs)(he:starEach [e] X.env=(false,eval e X.env)::starEach [] X.env:=by rfl):DE X (.Call (.Name "len" p) [e] [] pos) (aZ aP fs) :=
 iz wt Ln B ha (by decide) (by decide) he rfl
theorem JM{K:W.Frag}:DU K (fun xs H Q=>∃p ys,xs=[.ref p]/\(ig K H p ys\/iY K H p ys)/\∀l,H l=none->Q (.ref l) (upd H l (.lst ys))) cI:=by
 intro HF H ds vs d Q sm r hg q
 rcases gX hg with rfl|rfl
 all_goals
  obtain⟨v,r',rfl,a,b⟩:=r.cons_inv
  rw[b.nil_inv]
  simp only[Rep] at a
  obtain⟨p,us,rfl,h,rr⟩:=a
 ·exact⟨p,us,rfl,.inr (aL sm h),fun l hl=>q l us _ HF (.own sm hl) hl (sm.free hl) aC rr⟩
 ·exact⟨p,us,rfl,.inl (sm.seq h),fun l hl=>q l us _ HF (.own sm hl) hl (sm.free hl) aC rr⟩
theorem Ly(B:pO X "list" (.type "list"))(ha:DA X [e] fs)(he:starEach [e] X.env=(false,eval e X.env)::starEach [] X.env:=by rfl):DF X (.Call (.Name "list" p) [e] [] pos) (k6 cI fs) :=
 E5 yd JM B ha (by decide) (by decide) he rfl
theorem eW{K:W.Frag}{HF:Hp}{l:Addr}{ds:List D}{vs:List V}(h:HF l=none)(r:aw K HF ds vs):Rep K (upd HF l (.tup vs)) (.tuple ds) (.ref l):=by
 simp only[Rep];exact⟨l,vs,rfl,.inl (.inl aC),r.mono (eC h)⟩
theorem E2{K:W.Frag}:Hv K (fun xs H Q=>∃p ys,xs=[.ref p]/\((ig K H p ys/\∀l,H l=none->Q (.ref l) (upd H l (.tup ys)))\/(iY K H p ys/\Q (.ref p) H))) (fun ds=>(cI ds).map PyData.tuple):=by
 intro HF H ds vs d Q sm r hg q
 obtain⟨es,h1,rfl⟩:=ag hg
 rcases gX h1 with rfl|rfl
 all_goals
  obtain⟨v,r',rfl,a,b⟩:=r.cons_inv
  rw[b.nil_inv]
  have a':=a
  simp only[Rep] at a
  obtain⟨p,us,rfl,h,rr⟩:=a
 ·exact⟨p,us,rfl,.inr ⟨aL sm h,q _ H HF (.refl sm) a'⟩⟩
 ·exact⟨p,us,rfl,.inl ⟨sm.seq h,fun l hl=>q _ _ _ (.new sm hl) (eW (sm.free hl) rr)⟩⟩
theorem Gs(B:pO X "tuple" (.type "tuple"))(ha:DA X [e] fs)(he:starEach [e] X.env=(false,eval e X.env)::starEach [] X.env:=by rfl):DE X (.Call (.Name "tuple" p) [e] [] pos) (aZ (fun ds=>(cI ds).map PyData.tuple) fs) :=
 EM ub E2 B ha (by decide) (by decide) he rfl
def hV:D->String|.none=>"NoneType" | .bool _=>"bool" | .int _=>"int" | .str _=>"str" | .tuple _=>"tuple" | .list _=>"list" | .dict _=>"dict"
def xx(a b:String):Option Bool:=if ((Value.type a) == (Value.type b))=true then some true else if W.kitMeta b=true then (fastBuiltinMro a).map (·.contains (Value.type b)) else none
theorem LO:∀a∈["NoneType","bool","int","str","tuple","list"],xx a "int"=some (a == "int"||a == "bool"):=by decide +kernel
theorem GE:∀a∈["NoneType","bool","int","str","tuple","list"],xx a "bool"=some (a == "bool"):=by decide +kernel
theorem kit_tuple:∀a∈["NoneType","bool","int","str","tuple","list"],xx a "tuple"=some (a == "tuple"):=by decide +kernel
theorem Gh{pins:List (Addr×Obj)}{σ:L2.St}{H HF:Hp}{s:Shared}{A:Around}{E:Value->Shared->Prop}{Q:Value->Shared->Prop}{d:D}{v:V}{u:Value}{T:String}{k:Bool}(I:Inv X pins σ H s)(sm:aW HF H)(r:Rep X.K HF d v)(rv:RelV v u)
  (e:xx (hV d) T=some k) (h:∀tk,Q (.bool k) { s with toks:=tk }):wpAny (model X.prog X.w) A (call (.builtin "isinstance") [u,.type T]) Q E s:=by
 have e':W.kitOne X.K (.type (hV d)) (.type T)=some k:=e
 cases d<;>simp only[Rep] at r
 ·subst r;cases rv;exact W.kia_one W.kitx_none I.kIn True.intro e' (fun z=>nomatch z) h
 ·subst r;cases rv;exact W.kia_one W.kitx_bool I.kIn True.intro e' (fun z=>nomatch z) h
 ·subst r;obtain⟨t,rfl⟩:=rv;exact W.kia_one W.kitx_int I.kIn True.intro e' (fun z=>nomatch z) h
 ·subst r;obtain⟨t,rfl⟩:=rv;exact W.kia_one W.kitx_str I.kIn True.intro e' (fun z=>nomatch z) h
 ·obtain⟨a,vs,rfl,hs,rr⟩:=r
  cases rv
  obtain⟨its,rv,pl,_⟩:=I.list (sm.seq hs)
  obtain⟨o,ho,hc,n,hd⟩:=pl.isList
  exact W.kia_one W.kitx_list I.kIn ⟨o,ho,hc⟩ e' (fun z=>nomatch z) h
 ·obtain⟨a,vs,rfl,hs,rr⟩:=r
  cases rv
  obtain⟨its,rv,⟨o,ho,hc,n,hd⟩,_⟩:=I.tuple (aL sm hs)
  exact W.kia_one W.kitx_tuple I.kIn ⟨o,ho,hc⟩ e' (fun z=>nomatch z) h
def Mp(T:String)(f:Env->Option D):Env->Option D:=fun ρ=>(f ρ).bind fun d=>(xx (hV d) T).map PyData.bool
theorem PJ{T:String}{xT:Str}{pT:Pos}{f:Env->Option D}(B:pO X "isinstance" (.builtin "isinstance"))(C:pO X xT (.type T))(h:DE X e f)(hn:xT≠"__name__":=by decide)(hd:(xT == ("__debug__":Str))=false:=by decide)
  (he:starEach [e,.Name xT pT] X.env=(false,eval e X.env)::starEach [.Name xT pT] X.env:=by rfl):DE X (.Call (.Name "isinstance" p) [e,.Name xT pT] [] pos) (Mp T f):=by
 have hc:eK X (.builtin "isinstance") (fun xs H Q=>∃HF d v k,xs=[v,.ty T]/\aW HF H/\Rep X.K HF d v/\xx (hV d) T=some k/\Q (.bl k) H):=by
  intro pins s σ H xs us Q I r h
  obtain⟨HF,d,v,k,rfl,sm,rp,hk,q⟩:=h
  cases r with
  | cons ra rr =>
   cases rr with
   | cons rb rn =>
    cases rn
    cases rb
    exact Gh I sm rp ra hk fun tk=>⟨.bl k,H,I.tok _,rfl,q⟩
 refine bf (nI hc B.gl B.mg B.bt (bM h (bM (LB (v:=.ty T) C.gl C.mg C.bt rfl hn hd) dP) he) (by decide) (by decide) he rfl) fun σ H Q ⟨HF,ρ,d,sm,eo,hf,q⟩=>?_
 obtain⟨x,hx,hf⟩:=bs hf
 obtain⟨k,hk,rfl⟩:=ag hf
 exact⟨HF,ρ,x,sm,eo,hx,fun v1 H1 HF1 g1 r1=>⟨HF1,x,v1,k,rfl,g1.fh,r1,hk,q _ H1 HF1 g1 (by simp[Rep])⟩⟩
def Ke:D->D->Option D
 | .tuple xs,.tuple ys=>(small (xs++ys)).map PyData.tuple
 | _,_=>none
def Eo(K:W.Frag):R2:=fun x y H Q=>∃a b xs ys,x=.ref a/\y=.ref b/\iY K H a xs/\iY K H b ys/\xs.length+ys.length<=sizeLine /\
 (xs=[]->Q (.ref b) H)/\(ys=[]->Q (.ref a) H)/\(∀p,H p=none->Q (.ref p) (upd H p (.tup (xs++ys))))
theorem Fe:iw X (binaryOp .Add) (Eo X.K):=by
 intro pins s σ H x y v u Q I rx ry h
 obtain⟨a,b,xs,ys,rfl,rfl,ha,hb,hz,q0,q1,q2⟩:=h
 by_cases hx:xs=[]
 ·cases rx
  cases ry
  obtain⟨its,r1,p1,_⟩:=I.tuple ha
  obtain⟨its2,r2,p2,_⟩:=I.tuple hb
  obtain⟨⟨cls,dd,data,sl⟩,ho,hc,n,hd⟩:=id p1
  obtain⟨⟨cls2,dd2,data2,sl2⟩,ho2,hc2,n2,hd2⟩:=id p2
  simp only at hc hd hc2 hd2
  subst hc hd hc2 hd2
  have e:its=[]:=(L2.aQ.nil_iff r1).mpr hx
  exact wW ⟨_,ho,rfl⟩ ⟨_,ho2,rfl⟩ noFill_tuple_add seq_tuple_add vO vI (vF _ _)
   (tuple_addW0 a b its.toArray its2.toArray n n2 dd dd2 sl sl2 (by simp[e])) ⟨ho,ho2,⟨.ref b,H,I,rfl,q0 hx⟩⟩
 ·exact Kj pins s σ H _ _ v u Q I rx ry ⟨a,b,xs,ys,rfl,rfl,ha,hb,hx,hz,q1,fun _ p hp=>q2 p hp⟩
theorem KE{K:W.Frag}:fX K (Eo K) Ke:=by
 intro HF H x y v1 v2 d Q sm r1 r2 hg q
 cases x<;>cases y<;>simp only[Ke] at hg<;>try cases hg
 rename_i xs ys
 obtain⟨es,h1,rfl⟩:=ag hg
 obtain⟨rfl,hz⟩:=eS h1
 have r1':=r1
 have r2':=r2
 simp only[Rep] at r1 r2
 obtain⟨a,vs,rfl,ha,ra⟩:=r1
 obtain⟨b,us,rfl,hb,rb⟩:=r2
 refine⟨a,b,vs,us,rfl,rfl,aL sm ha,aL sm hb,by rw[ra.length,rb.length,<- zN];exact hz,fun e=>?_,fun e=>?_,fun p hp=>q _ _ _ (.new sm hp) (eW (sm.free hp) (ra.append rb))⟩
 ·have:xs=[]:=by have:=ra.length;rw[e] at this;exact List.length_eq_zero_iff.mp this.symm
  subst this
  exact q _ H HF (.refl sm) r2'
 ·have:ys=[]:=by have:=rb.length;rw[e] at this;exact List.length_eq_zero_iff.mp this.symm
  subst this
  rw[qF] at q
  exact q _ H HF (.refl sm) r1'
end
structure uD(K:W.Frag)(J:It)(HF:Hp)(ds:List D):Prop where
 go:∀i d H₁ HF₁,ds[i]?=some d->aW HF HF₁->aW HF₁ H₁->J.go i H₁/\∀x H₂,J.yld i H₁ x H₂->∃HF₂,bF HF₁ H₁ HF₂ H₂/\Rep K HF₂ d x
 stop:∀H₁ HF₁,aW HF HF₁->aW HF₁ H₁->J.stop ds.length H₁
def R9(K:W.Frag)(f:Env->Option (List D)):TI:=fun σ H R=>∃HF ρ ds,aW HF H/\cS K HF ρ σ/\f ρ=some ds/\∀J H' HF',bF HF H HF' H'->uD K J HF' ds->R J H'
def DI(X:Cx)(tg iter:Expr)(f:Env->Option (List D)):Prop:=PI X tg iter (R9 X.K f)
theorem Fc{K:W.Frag}{HF:Hp}{a:Addr}{ds:List D}{vs:List V}(h:ig K HF a vs)(r:aw K HF ds vs):uD K (RX K a) HF ds where
 go:=fun i d H₁ HF₁ e s1 s2=>by
  obtain⟨v,hv,rv⟩:=r.getD e
  have q:=s2.seq (s1.seq h)
  refine⟨⟨vs,v,q,hv⟩,fun x H₂ ⟨e2,hy⟩=>⟨HF₁,by rw[e2];exact .refl s2,?_⟩⟩
  have:=hy vs q
  rw[hv] at this
  cases this
  exact rv.mono s1
 stop:=fun H₁ HF₁ s1 s2=>⟨vs,s2.seq (s1.seq h),by rw[r.length];exact yM _⟩
theorem Hs{K:W.Frag}{HF:Hp}{a:Addr}{ds:List D}{vs:List V}(h:iY K HF a vs)(r:aw K HF ds vs):uD K (RG K a) HF ds where
 go:=fun i d H₁ HF₁ e s1 s2=>by
  obtain⟨v,hv,rv⟩:=r.getD e
  have q:=aL s2 (aL s1 h)
  refine⟨⟨vs,v,q,hv⟩,fun x H₂ ⟨e2,hy⟩=>⟨HF₁,by rw[e2];exact .refl s2,?_⟩⟩
  have:=hy vs q
  rw[hv] at this
  cases this
  exact rv.mono s1
 stop:=fun H₁ HF₁ s1 s2=>⟨vs,aL s2 (aL s1 h),by rw[r.length];exact yM _⟩
theorem BG{K:W.Frag}{HF:Hp}{lo:Int}{n:Nat}:uD K (QQ lo n) HF ((List.range n).map fun i=>PyData.int (lo+(i:Nat))) where
 go:=fun i d H₁ HF₁ e s1 s2=>by
  rw[zO] at e
  obtain⟨j,hj,rfl⟩:=ag e
  obtain⟨hi,hj'⟩:=List.getElem?_eq_some_iff.mp hj
  have hi':i < n:=by simpa using hi
  have:j=i:=by rw[<- hj'];simp
  subst this
  exact⟨hi',fun x H₂ ⟨e2,hx⟩=>⟨HF₁,by rw[e2];exact .refl s2,by simp[Rep,hx]⟩⟩
 stop:=fun H₁ HF₁ s1 s2=>by
  show n<=_
  simp
section
variable {X:Cx}{tg l e:Expr}{f:Env->Option D}{fs:Env->Option (List D)}{pos p:Pos}
theorem yk{t t':TI}(h:PI X tg l t)(i:∀σ H R,t' σ H R->t σ H R):PI X tg l t':=fun pins s σ H R I q=>h pins s σ H R I (i σ H R q)
theorem N0{tl:TE}(hl:PE X l tl):PI X tg l (fun σ H R=>tl σ H fun x H1=>∃a,x=.ref a/\((∃xs,ig X.K H1 a xs/\R (RX X.K a) H1)\/∃xs,iY X.K H1 a xs/\R (RG X.K a) H1)):=by
 intro pins s σ H R I h
 refine cx (hl pins s σ H _ I h) fun v s1 ⟨x,H1,I1,r1,q1⟩=>?_
 obtain⟨a,e,q⟩:=q1
 subst e
 cases r1
 rcases q with ⟨xs,hq,q⟩|⟨xs,hq,q⟩
 ·obtain⟨its,rv,pl,hz⟩:=I1.list hq
  refine qK pl.isList ⟨s1.heap.objs.size,[s1.heap.objs.size],_,_,H1,rfl,I1.kept (t':=s1.toks) fun b o e=>zT _ e,Fn a _,⟨_,zW _ rfl,rfl,rfl⟩,fun b hb=>?_,q⟩
  cases List.mem_singleton.mp hb
  exact I1.fpOk (yM _) I1.fresh
 ·obtain⟨its,rv,pl,hz⟩:=I1.tuple hq
  refine xR (show s1.heap.IsTuple a its.toArray from pl) ⟨s1.heap.objs.size,[s1.heap.objs.size],_,_,H1,rfl,I1.kept (t':=s1.toks) fun b o e=>zT _ e,Ck a _,⟨_,zW _ rfl,rfl,rfl⟩,fun b hb=>?_,q⟩
  cases List.mem_singleton.mp hb
  exact I1.fpOk (yM _) I1.fresh
def bL(f:Env->Option D):Env->Option (List D):=fun ρ=>(f ρ).bind g0
theorem Jp(h:DE X l f):DI X tg l (bL f):=yk (N0 h) fun σ H R ⟨HF,ρ,ds,sm,eo,hf,q⟩=>by
 obtain⟨x,hx,hf⟩:=bs hf
 refine⟨HF,ρ,x,sm,eo,hx,fun v1 H1 HF1 g1 r1=>?_⟩
 rcases mQ hf with rfl|rfl
 ·simp only[Rep] at r1
  obtain⟨a,vs,rfl,hs,rr⟩:=r1
  exact⟨a,rfl,.inr ⟨vs,aL g1.fh hs,q _ H1 HF1 g1 (Hs hs rr)⟩⟩
 ·simp only[Rep] at r1
  obtain⟨a,vs,rfl,hs,rr⟩:=r1
  exact⟨a,rfl,.inl ⟨vs,g1.fh.seq hs,q _ H1 HF1 g1 (Fc hs rr)⟩⟩
def Aa(i:Int):Bool:=decide (-(2 ^ 62)<=i)&&decide (i < 2 ^ 62)
def mZ:List D->Option (List D)
 | [.int j]=>if Aa j then some ((List.range j.toNat).map fun i=>PyData.int ((i:Nat):Int)) else none
 | _=>none
theorem A2{ds es:List D}(h:mZ ds=some es):∃j,ds=[.int j]/\Aa j=true/\es=(List.range j.toNat).map fun i=>PyData.int ((i:Nat):Int):=by
 unfold mZ at h
 split at h
 ·split at h
  ·cases h;exact⟨_,rfl,‹_›,rfl⟩
  ·cases h
 ·cases h
def aK(fs:Env->Option (List D)):Env->Option (List D):=fun ρ=>(fs ρ).bind mZ
theorem IX(B:pO X "range" (.type "range"))(h:DA X [e] fs)(hs:starEach [e] X.env=[(false,eval e X.env)]:=by rfl):DI X tg (.Call (.Name "range" p) [e] [] pos) (aK fs) :=
 yk (Fm B.gl B.mg h hs) fun σ H R ⟨HF,ρ,ds,sm,eo,hf,q⟩=>by
  obtain⟨x,hx,hf⟩:=bs hf
  obtain⟨j,rfl,hj,rfl⟩:=A2 hf
  refine⟨HF,ρ,_,sm,eo,hx,fun vs H1 HF1 g1 r1=>?_⟩
  obtain⟨v,r,rfl,a,b⟩:=r1.cons_inv
  rw[b.nil_inv]
  simp only[Rep] at a
  subst a
  unfold Aa at hj
  rw[zF] at hj
  refine⟨j,rfl,yQ hj.1,yQ hj.2,q _ H1 HF1 g1 ?_⟩
  have:=BG (K:=X.K) (HF:=HF1) (lo:=0) (n:=j.toNat)
  simpa using this
def QR(K:W.Frag)(f:Env->D->Option Env):TG:=fun v σ H Q=>∃HF ρ d ρ',aW HF H/\cS K HF ρ σ/\Rep K HF d v/\f ρ d=some ρ'/\∀σ',cS K HF ρ' σ'->cS K HF ρ σ'->Q σ' H
def DG(X:Cx)(tg:Expr)(f:Env->D->Option Env):Prop:=PG X tg (QR X.K f)
theorem sg{t t':TG}(h:PG X tg t)(i:∀v σ H Q,t' v σ H Q->t v σ H Q):PG X tg t':=fun pins s σ H v u Q I r q=>h pins s σ H v u Q I r (i v σ H Q q)
def isFree(ρ:Env)(i:Nat):Bool:=((ρ[i]?).getD none).isNone
theorem jn{K:W.Frag}{HF:Hp}{ρ:Env}{σ:L2.St}{i:Nat}{d:D}{v:V}(eo:cS K HF ρ σ)(r:Rep K HF d v):cS K HF (ρ.set i (some d)) (σ.set i (some v)):=by
 refine⟨fun j e h=>?_,by rw[yB,yB];exact eo.len,eo.tb⟩
 rw[xI] at h ⊢
 by_cases hij:i=j
 ·rw[yL hij] at h ⊢
  by_cases hl:i < ρ.length
  ·rw[yL hl] at h
   cases h
   rw[yL (zP hl eo.len)]
   exact⟨v,rfl,r⟩
  ·rw[yN hl] at h;cases h
 ·rw[yN hij] at h ⊢
  exact eo.get j e h
theorem lX{K:W.Frag}{HF:Hp}{ρ:Env}{σ:L2.St}{i:Nat}{v:V}(eo:cS K HF ρ σ)(hf:isFree ρ i=true):cS K HF ρ (σ.set i (some v)):=by
 refine⟨fun j e h=>?_,by rw[yB];exact eo.len,eo.tb⟩
 have hij:i≠j:=by
  intro z;subst z
  unfold isFree at hf;rw[h] at hf;cases hf
 rw[xI,yN hij]
 exact eo.get j e h
def fG(i:Nat):Env->D->Option Env:=fun ρ d=>if isFree ρ i=true then some (ρ.set i (some d)) else none
theorem K1(i:Nat){x:Str}(hN:X.N.Nodup)(hi:X.N[i]?=some x)(hx:Loc X.env.scope x)(hf:X.fn x=true\/X.env.scope.names.lookup x=some .local:=by first|exact .inl rfl|exact .inr rfl|assumption):DG X (.Name x pos) (fG i) :=
 sg (dI hN hi hx hf) fun v σ H Q ⟨HF,ρ,d,ρ',sm,eo,r,hf,q⟩=>by
  unfold fG at hf
  split at hf
  ·cases hf;exact q _ (jn eo r) (lX eo ‹_›)
  ·cases hf
def j6(i j:Nat):Env->D->Option Env:=fun ρ d=>match d with
 | .tuple [x,y]=>if isFree ρ i=true/\isFree ρ j=true then some ((ρ.set i (some x)).set j (some y)) else none
 | _=>none
theorem N7(i j:Nat){x y:Str}{px py:Pos}{k:Nat}(hc:X.calm=true)(hN:X.N.Nodup)(hi:X.N[i]?=some x)(hx:Loc X.env.scope x)(hj:X.N[j]?=some y)(hy:Loc X.env.scope y)
  (hf:X.fn x=true\/X.env.scope.names.lookup x=some .local:=by first|exact .inl rfl|exact .inr rfl|assumption) (hf':X.fn y=true\/X.env.scope.names.lookup y=some .local:=by first|exact .inl rfl|exact .inr rfl|assumption) :
  DG X (.Tuple [.Name x px,.Name y py] k pos) (j6 i j) :=
 sg (xp hc (dA (dI hN hi hx hf) (dA (dI hN hj hy hf') qr))) fun v σ H Q ⟨HF,ρ,d,ρ',sm,eo,r,hf,q⟩=>by
  unfold j6 at hf
  split at hf
  ·rename_i x' y'
   split at hf
   ·rename_i hh
    cases hf
    simp only[Rep] at r
    obtain⟨a,vs,rfl,hs,rr⟩:=r
    obtain⟨v1,r1,rfl,a1,b1⟩:=rr.cons_inv
    obtain⟨v2,r2,rfl,a2,b2⟩:=b1.cons_inv
    rw[b2.nil_inv] at hs
    exact⟨a,_,rfl,aL sm hs,rfl,v1,_,rfl,v2,_,rfl,rfl,q _ (jn (jn eo a1) a2) (lX (lX eo hh.1) hh.2)⟩
   ·cases hf
  ·cases hf
def dz(tgt:Env->D->Option Env)(tt:Env->Option Bool)(te:Env->Option D)(ρ:Env):List D->Option (List D)
 | []=>some []
 | d::ds=>(tgt ρ d).bind fun ρ'=>(tt ρ').bind fun b=>if b=true then (te ρ').bind fun x=>(dz tgt tt te ρ ds).map (x::·) else dz tgt tt te ρ ds
def PM(X:Cx)(ifs:List Expr)(f:Env->Option Bool):Prop:=O6 X ifs (NC X.K f)
theorem JX:PM X [] (fun _=>some true):=fun pins s σ H Q I ⟨HF,ρ,b,sm,eo,hf,q⟩=>K7 pins s σ H Q I (by cases hf;exact q H HF (.refl sm))
theorem LH{c:Expr}{t:Env->Option Bool}(h:DT X c t):PM X [c] t:=Kp h
def kg(t:Nat)(cs:List Nat)(σ:L2.St):L2.St:=List.replicate t none++cs.map fun j=>(σ[j]?).getD none
def fJ(t:Nat)(cs:List Nat)(ρ:Env):Env:=List.replicate t none++cs.map fun j=>(ρ[j]?).getD none
theorem D5{K:W.Frag}{HF:Hp}{ρ:Env}{σ:L2.St}{t:Nat}{cs:List Nat}(eo:cS K HF ρ σ):cS K HF (fJ t cs ρ) (kg t cs σ):=by
 refine⟨fun i d h=>?_,by simp[fJ,kg],eo.tb⟩
 unfold fJ at h
 unfold kg
 by_cases hi:i < t
 ·rw[yS (by simpa using hi),yX,yL hi] at h
  cases h
 ·rw[yT (by simpa using hi),zO,xM] at h
  rw[yT (by simpa using hi),zO,xM]
  obtain⟨j,hj,h⟩:=ag h
  rw[hj]
  cases e:ρ[j]? with
  | none=>rw[e] at h;cases h
  | some o =>
   rw[e] at h
   have h:o=some d:=h
   subst h
   obtain⟨v,a,b⟩:=eo.get j d e
   exact⟨v,by show some ((σ[j]?).getD none)=_;rw[a];rfl,b⟩
def au(t:Nat)(cs:List Nat)(fi:Env->Option (List D))(tgt:Env->D->Option Env)(tt:Env->Option Bool)(te:Env->Option D):Env->Option (List D):=fun ρ=>(fi ρ).bind fun ds=>(dz tgt tt te (fJ t cs ρ) ds).bind small
variable {elt iter:Expr}{ifs:List Expr}{scope:Scope}{N:List Str}{t:Nat}{cs:List Nat}{fi:Env->Option (List D)}{tgt:Env->D->Option Env}{tt:Env->Option Bool}{te:Env->Option D}
theorem Jo:∀σ H Q,tF X.K (au t cs fi tgt tt te) σ H Q->GD (R9 X.K fi) (QR X.K tgt) (NC X.K tt) (tD X.K te) (kg t cs) σ H Q:=fun σ H Q ⟨HF,ρ,out,sm,eo,hf,q⟩=>by
 obtain⟨ds,hx,hf⟩:=bs hf
 obtain⟨out',ho,hf⟩:=bs hf
 obtain⟨rfl,hz⟩:=eS hf
 refine⟨HF,ρ,ds,sm,eo,hx,fun J H1 HF1 g1 it Dn hD=>?_⟩
 have eo1:=D5 (t:=t) (cs:=cs) (eo.mono g1.ff)
 have hFD:HF1 Dn=none:=g1.fh.free hD
 refine⟨fun i m σ' H'=>m+i=ds.length/\∃HF' xs ys rest,bF HF1 H1 HF' H'/\HF' Dn=none/\H' Dn=some (.lst ys)/\aw X.K HF' xs ys/\cS X.K HF' (fJ t cs ρ) σ'/\dz tgt tt te (fJ t cs ρ) (ds.drop i)=some rest/\xs++rest=out,
  ⟨ds.length,rfl,HF1,[],[],out,.own g1.fh hD,hFD,aC,aw.nil,eo1,ho,rfl⟩,?_⟩
 rintro i m σ' H' ⟨hm,HF',xs,ys,rest,G,hFD',hHD,rr,eo',hc,hout⟩
 by_cases hi:i < ds.length
 ·refine .inr ?_
  have hd:ds.drop i=ds[i]::ds.drop (i+1):=vC hi
  have he:ds[i]?=some ds[i]:=List.getElem?_eq_some_iff.mpr ⟨hi,rfl⟩
  generalize ds[i]=d at hd he
  rw[hd] at hc
  unfold dz at hc
  obtain⟨ρ',h1,hc⟩:=bs hc
  obtain⟨b,h2,hc⟩:=bs hc
  obtain⟨go,yld⟩:=it.go i d H' HF' he G.ff G.fh
  refine⟨go,fun x H2 y=>?_⟩
  obtain⟨HF2,G2,rx⟩:=yld x H2 y
  refine⟨HF2,_,d,ρ',G2.fh,eo'.mono G2.ff,rx,h1,fun σ2 eo2 eo2'=>?_⟩
  refine⟨HF2,ρ',b,G2.fh,eo2,h2,fun H3 HF3 G3=>?_⟩
  have nof:∀HF4 H4,bF HF' H' HF4 H4->HF4 Dn=none:=fun HF4 H4 G4=>by
   cases e4:HF4 Dn with
   | none=>rfl
   | some o =>
    rcases G4.nw Dn o e4 with z|z
    ·rw[hFD'] at z;cases z
    ·rw[hHD] at z;cases z
  cases b with
  | false =>
   refine p9 ⟨m - 1,by omega,by omega,HF3,xs,ys,rest,(G.trans G2).trans G3,nof _ _ (G2.trans G3),(G2.trans G3).hh _ _ hHD,rr.mono (G2.trans G3).ff,eo2'.mono G3.ff,by simpa using hc,hout⟩
  | true =>
   rw[yL rfl] at hc
   obtain⟨z,h3,hc⟩:=bs hc
   obtain⟨rest',h4,rfl⟩:=ag hc
   refine tG ⟨HF3,ρ',z,G3.fh,eo2.mono G3.ff,h3,fun v H4 HF4 G4 rv=>?_⟩
   have GG:=(G2.trans G3).trans G4
   have n4:=nof _ _ GG
   have h4D:=GG.hh _ _ hHD
   have hlen:ys.length < sizeLine:=by
    have e1:=rr.length
    have e2:out.length=xs.length+(rest'.length+1):=by rw[<- hout];simp
    omega
   refine⟨ys,h4D,hlen,m - 1,by omega,by omega,HF4,xs++[z],ys++[v],rest',?_,n4,aC,(rr.mono GG.ff).append (aw.cons rv aw.nil),eo2'.mono (G3.ff.trans G4.ff),h4,by simp[<- hout]⟩
   have G5:=G.trans GG
   refine⟨fun b o e=>?_,G5.ff,fun b o e=>?_,G5.nw⟩
   ·rw[aF (aX e hD)];exact G5.hh b o e
   ·rw[aF (aX e n4)];exact G5.fh b o e
 ·have hi':i=ds.length:=by omega
  subst hi'
  rw[List.drop_length] at hc
  cases hc
  rw[qF] at hout
  subst hout
  exact .inl ⟨it.stop H' HF' G.ff G.fh,q Dn ys H' HF' (g1.trans G) (g1.hh.free hD) hFD' hHD rr⟩
theorem KL(hc:X.calm=true)(S:ji X scope N (kg t cs))(hi:DI X tg iter fi)
  (hY:∀fp s H,DG (bc X scope N fp s H) tg tgt/\PM (bc X scope N fp s H) ifs tt/\DE (bc X scope N fp s H) elt te)
  (hs:∀x,foldedSetIterable iter X.env x=pure x:=by intro _;rfl):DF X (.ListComp elt [⟨tg,iter,ifs,0⟩] scope pos) (au t cs fi tgt tt te):=bf (Kt (g:=QR X.K tgt) (tt:=NC X.K tt) (te:=tD X.K te) hc S hi hY hs) Jo
end
inductive Slot where
 | non|val (d:D)|own (ds:List D)
abbrev ar:=List Slot
def Slot.all:Slot->Option D|.non=>none|.val d=>some d|.own ds=>some (.list ds)
def Slot.frz:Slot->Option D|.val d=>some d|_=>none
def Slot.thaw:Slot->Slot|.own ds=>.val (.list ds)|s=>s
def aJ(ρ:ar):Env:=ρ.map Slot.all
def bZ(ρ:ar):Env:=ρ.map Slot.frz
def hand(fz:List Nat):Nat->ar->ar
 | _,[]=>[]
 | k,s::r=>(if fz.contains k=true then s.thaw else s)::hand fz (k+1) r
theorem iG(fz:List Nat):∀ (ρ:ar) (k i:Nat),(hand fz k ρ)[i]?=(ρ[i]?).map fun s=>if fz.contains (k+i)=true then s.thaw else s
 | [],k,i=>by simp[hand]
 | s::r,k,0=>by simp[hand]
 | s::r,k,i+1=>by
  simp only[hand,yY]
  rw[iG fz r (k+1) i,Nat.add_assoc,Nat.add_comm 1 i]
theorem Am(fz:List Nat):∀ (ρ:ar) (k:Nat),(hand fz k ρ).length=ρ.length
 | [],k=>rfl
 | s::r,k=>by simp[hand,Am fz r (k+1)]
structure j4(K:W.Frag)(HF₀ H₀ HF H:Hp)(ρ:ar)(σ:L2.St):Prop where
 gr:bF HF₀ H₀ HF H
 val:∀ (i:Nat) (d:D),ρ[i]?=some (.val d)->∃v,σ[i]?=some (some v)/\Rep K HF d v
 own:∀ (i:Nat) (ds:List D),ρ[i]?=some (.own ds)->∃a vs,σ[i]?=some (some (.ref a))/\H a=some (.lst vs)/\HF a=none/\H₀ a=none/\aw K HF ds vs
 inj:∀ (i j:Nat) (ds es:List D) (a:Addr),ρ[i]?=some (.own ds)->ρ[j]?=some (.own es)->σ[i]?=some (some (.ref a))->σ[j]?=some (some (.ref a))->i=j
 len:ρ.length<=σ.length
 tb:eX K HF
section
variable {K:W.Frag}{HF₀ H₀ HF H HF' H':Hp}{ρ:ar}{σ:L2.St}
theorem j4.all(S:j4 K HF₀ H₀ HF H ρ σ):cS K H (aJ ρ) σ:=by
 refine⟨fun i d h=>?_,by simpa [aJ] using S.len,S.tb.mono S.gr.fh⟩
 unfold aJ at h
 rw[zO] at h
 obtain⟨s,hs,h⟩:=ag h
 cases s with
 | non=>cases h
 | val e=>cases h;obtain⟨v,a,b⟩:=S.val i _ hs;exact⟨v,a,b.mono S.gr.fh⟩
 | own ds =>
  cases h
  obtain⟨a,vs,e1,e2,e3,_,e4⟩:=S.own i ds hs
  exact⟨.ref a,e1,by simp only[Rep];exact⟨a,vs,rfl,ig.of e2,e4.mono S.gr.fh⟩⟩
theorem j4.frz(S:j4 K HF₀ H₀ HF H ρ σ):cS K HF (bZ ρ) σ:=by
 refine⟨fun i d h=>?_,by simpa [bZ] using S.len,S.tb⟩
 unfold bZ at h
 rw[zO] at h
 obtain⟨s,hs,h⟩:=ag h
 cases s with
 | non=>cases h
 | val e=>cases h;exact S.val i _ hs
 | own ds=>cases h
theorem j4.grow(S:j4 K HF₀ H₀ HF H ρ σ)(g:bF HF H HF' H'):j4 K HF₀ H₀ HF' H' ρ σ where
 gr:=S.gr.trans g
 val:=fun i d h=>let ⟨v,a,b⟩:=S.val i d h;⟨v,a,b.mono g.ff⟩
 own:=fun i ds h=>by
  obtain⟨a,vs,e1,e2,e3,e5,e4⟩:=S.own i ds h
  refine⟨a,vs,e1,g.hh _ _ e2,?_,e5,e4.mono g.ff⟩
  cases e:HF' a with
  | none=>rfl
  | some o =>
   rcases g.nw a o e with z|z
   ·rw[e3] at z;cases z
   ·rw[e2] at z;cases z
 inj:=S.inj
 len:=S.len
 tb:=S.tb.mono g.ff
theorem j4.step(S:j4 K HF₀ H₀ HF H ρ σ)(g:aW H H'):j4 K HF₀ H₀ HF H' ρ σ:=S.grow ⟨g,.refl _,S.gr.fh.trans g,fun _ _ e=>.inl e⟩
theorem j4.hand(S:j4 K HF₀ H₀ HF H ρ σ)(fz:List Nat):∃HF1,aW HF HF1/\j4 K HF₀ H₀ HF1 H (hand fz 0 ρ) σ:=by
 let P:Addr->Prop:=fun a=>∃i ds,fz.contains i=true/\ρ[i]?=some (.own ds)/\σ[i]?=some (some (.ref a))
 have cl:=Classical.propDecidable
 let HF1:Hp:=fun a=>if P a then H a else HF a
 have hP:∀a,P a->HF a=none/\H₀ a=none:=fun a ⟨i,ds,_,h1,h2⟩=>by
  obtain⟨a',vs,e1,e2,e3,e5,e4⟩:=S.own i ds h1
  rw[h2] at e1
  cases e1
  exact⟨e3,e5⟩
 have s1:aW HF HF1:=fun b o e=>by
  show (if P b then H b else HF b)=some o
  by_cases h:P b
  ·rw[(hP b h).1] at e;cases e
  ·rw[yN h];exact e
 have s2:aW HF1 H:=fun b o e=>by
  have e:(if P b then H b else HF b)=some o:=e
  by_cases h:P b
  ·rw[yL h] at e;exact e
  ·rw[yN h] at e;exact S.gr.fh b o e
 refine⟨HF1,s1,⟨S.gr.hh,S.gr.ff.trans s1,s2,fun b o e=>?_⟩,fun i d h=>?_,fun i ds h=>?_,fun i j ds es a h1 h2=>?_,by rw[Am];exact S.len,S.tb.mono s1⟩
 ·have e:(if P b then H b else HF b)=some o:=e
  by_cases h:P b
  ·exact .inr (hP b h).2
  ·rw[yN h] at e;exact S.gr.nw b o e
 ·rw[iG] at h
  obtain⟨s,hs,h⟩:=ag h
  rw[jD] at h
  cases s with
  | non=>split at h<;>cases h
  | val e =>
   have:Slot.val e=Slot.val d:=by split at h<;>exact h
   cases this
   obtain⟨v,a,b⟩:=S.val i _ hs
   exact⟨v,a,b.mono s1⟩
  | own ds =>
   split at h
   ·rename_i hc
    cases h
    obtain⟨a,vs,e1,e2,e3,e5,e4⟩:=S.own i ds hs
    refine⟨.ref a,e1,?_⟩
    simp only[Rep]
    refine⟨a,vs,rfl,.inl (.inl ?_),e4.mono s1⟩
    show (if P a then H a else HF a)=_
    rw[yL ⟨i,ds,hc,hs,e1⟩]
    exact e2
   ·cases h
 ·rw[iG] at h
  obtain⟨s,hs,h⟩:=ag h
  rw[jD] at h
  cases s with
  | non=>split at h<;>cases h
  | val e=>split at h<;>cases h
  | own es =>
   split at h
   ·cases h
   ·rename_i hc
    cases h
    obtain⟨a,vs,e1,e2,e3,e5,e4⟩:=S.own i ds hs
    refine⟨a,vs,e1,e2,?_,e5,e4.mono s1⟩
    show (if P a then H a else HF a)=none
    rw[yN ?_]
    ·exact e3
    ·rintro⟨j,es,hj,h1,h2⟩
     have:=S.inj i j ds es a hs h1 e1 h2
     subst this
     exact hc hj
 ·rw[iG] at h1 h2
  obtain⟨s,hs,h1⟩:=ag h1
  obtain⟨s',hs',h2⟩:=ag h2
  rw[jD] at h1 h2
  cases s with
  | non=>split at h1<;>cases h1
  | val e=>split at h1<;>cases h1
  | own xs =>
   cases s' with
   | non=>split at h2<;>cases h2
   | val e=>split at h2<;>cases h2
   | own ys=>exact S.inj i j _ _ a hs hs'
theorem j4.setV(S:j4 K HF₀ H₀ HF H ρ σ){i:Nat}{d:D}{v:V}(r:Rep K HF d v):j4 K HF₀ H₀ HF H (ρ.set i (.val d)) (σ.set i (some v)):=by
 have ne:∀ {j:Nat}{s:Slot},(ρ.set i (.val d))[j]?=some s->(∀e,s≠.val e)->i≠j/\ρ[j]?=some s:=fun {j s} h hn=>by
  rw[xI] at h
  by_cases hij:i=j
  ·rw[yL hij] at h
   split at h
   ·cases h;exact absurd rfl (hn _)
   ·cases h
  ·rw[yN hij] at h;exact⟨hij,h⟩
 refine⟨S.gr,fun j e h=>?_,fun j ds h=>?_,fun j k ds es a h1 h2 h3 h4=>?_,by rw[yB,yB];exact S.len,S.tb⟩
 ·rw[xI] at h ⊢
  by_cases hij:i=j
  ·rw[yL hij] at h ⊢
   split at h
   ·rename_i hl
    cases h
    rw[yL (zP hl S.len)]
    exact⟨v,rfl,r⟩
   ·cases h
  ·rw[yN hij] at h ⊢
   exact S.val j e h
 ·obtain⟨hij,h⟩:=ne h fun e z=>by cases z
  rw[xI,yN hij]
  exact S.own j ds h
 ·obtain⟨n1,h1⟩:=ne h1 fun e z=>by cases z
  obtain⟨n2,h2⟩:=ne h2 fun e z=>by cases z
  rw[xI,yN n1] at h3
  rw[xI,yN n2] at h4
  exact S.inj j k ds es a h1 h2 h3 h4
theorem j4.setO(S:j4 K HF₀ H₀ HF H ρ σ){i:Nat}{ds:List D}{a:Addr}{vs:List V}(hs:aW H H')(h1:H' a=some (.lst vs))(h2:HF a=none)(h3:H₀ a=none)(r:aw K HF ds vs)
  (fr:∀j es,i≠j->ρ[j]?=some (.own es)->σ[j]?≠some (some (.ref a))):j4 K HF₀ H₀ HF H' (ρ.set i (.own ds)) (σ.set i (some (.ref a))):=by
 have S:=S.step hs
 refine⟨S.gr,fun j e h=>?_,fun j es h=>?_,fun j k xs ys b e1 e2 e3 e4=>?_,by rw[yB,yB];exact S.len,S.tb⟩
 ·rw[xI] at h ⊢
  by_cases hij:i=j
  ·rw[yL hij] at h
   split at h<;>cases h
  ·rw[yN hij] at h ⊢
   exact S.val j e h
 ·rw[xI] at h ⊢
  by_cases hij:i=j
  ·rw[yL hij] at h ⊢
   split at h
   ·rename_i hl
    cases h
    rw[yL (zP hl S.len)]
    exact⟨a,vs,rfl,h1,h2,h3,r⟩
   ·cases h
  ·rw[yN hij] at h ⊢
   exact S.own j es h
 ·rw[xI] at e1 e2 e3 e4
  by_cases hij:i=j
  ·by_cases hik:i=k
   ·exact hij.symm.trans hik
   ·rw[yL hij] at e1 e3
    rw[yN hik] at e2 e4
    split at e3
    ·cases e3;exact absurd e4 (fr k ys hik e2)
    ·cases e3
  ·by_cases hik:i=k
   ·rw[yN hij] at e1 e3
    rw[yL hik] at e2 e4
    split at e4
    ·cases e4;exact absurd e3 (fr j xs hij e1)
    ·cases e4
   ·rw[yN hij] at e1 e3
    rw[yN hik] at e2 e4
    exact S.inj j k xs ys b e1 e2 e3 e4
end
inductive Out where
 | nx (ρ:ar)|rt (d:D)
def Ec(K:W.Frag)(HF₀ H₀ HF:Hp)(E:Ends):Out->Prop
 | .nx ρ'=>∀σ' H' HF',j4 K HF₀ H₀ HF' H' ρ' σ'->aW HF HF'->E.nx σ' H'
 | .rt d=>∀v H' HF',bF HF₀ H₀ HF' H'->Rep K HF' d v->E.rt v H'
def tS(K:W.Frag)(HF₀ H₀:Hp)(g:ar->Option Out):TS:=fun E σ H=>∃HF ρ o,j4 K HF₀ H₀ HF H ρ σ/\g ρ=some o/\Ec K HF₀ H₀ HF E o
def DS(X:Cx)(HF₀ H₀:Hp)(st:Stmt)(g:ar->Option Out):Prop:=PS X st (tS X.K HF₀ H₀ g)
def D4(X:Cx)(HF₀ H₀:Hp)(st:List Stmt)(g:ar->Option Out):Prop:=yp X st (tS X.K HF₀ H₀ g)
section
variable {X:Cx}{HF₀ H₀:Hp}{st:Stmt}{rest:List Stmt}{g g1 g2:ar->Option Out}{e:Expr}{pos:Pos}
theorem cD{t t':TS}(h:PS X st t)(i:∀E σ H,t' E σ H->t E σ H):PS X st t':=fun pins s σ H E I q=>h pins s σ H E I (i E σ H q)
theorem qf{t t':TS}(h:yp X rest t)(i:∀E σ H,t' E σ H->t E σ H):yp X rest t':=fun pins s σ H E I q=>h pins s σ H E I (i E σ H q)
def du:ar->Option Out:=fun ρ=>some (.nx ρ)
def ay(g1 g2:ar->Option Out):ar->Option Out:=fun ρ=>(g1 ρ).bind fun|.nx ρ'=>g2 ρ'|.rt d=>some (.rt d)
theorem Ec.mono{K:W.Frag}{HF HF':Hp}{E:Ends}{o:Out}(s:aW HF HF')(h:Ec K HF₀ H₀ HF E o):Ec K HF₀ H₀ HF' E o:=by
 cases o with
 | nx ρ'=>exact fun σ' H' HF2 S s2=>h σ' H' HF2 S (s.trans s2)
 | rt d=>exact h
theorem Lq:D4 X HF₀ H₀ [] du:=qf xl fun E σ H ⟨HF,ρ,o,S,hg,q⟩=>by cases hg;exact q σ H HF S (.refl _)
theorem JG(h1:DS X HF₀ H₀ st g1)(h2:D4 X HF₀ H₀ rest g2):D4 X HF₀ H₀ (st::rest) (ay g1 g2):=qf (iU h1 h2) fun E σ H ⟨HF,ρ,o,S,hg,q⟩=>by
 obtain⟨o1,h,hg⟩:=bs hg
 refine⟨HF,ρ,o1,S,h,?_⟩
 cases o1 with
 | nx ρ'=>exact fun σ' H' HF' S' s=>⟨HF',ρ',o,S',hg,q.mono s⟩
 | rt d=>cases hg;exact q
theorem Dr(h1:DS X HF₀ H₀ st g1):D4 X HF₀ H₀ [st] g1:=Km h1
theorem Kb:DS X HF₀ H₀ (.Pass pos) du:=cD K9 fun E σ H ⟨HF,ρ,o,S,hg,q⟩=>by cases hg;exact q σ H HF S (.refl _)
theorem MD{x j pos pos'}:DS X HF₀ H₀ (.Expr (.Constant (.str x) j pos) pos') du:=cD N9 fun E σ H ⟨HF,ρ,o,S,hg,q⟩=>by cases hg;exact q σ H HF S (.refl _)
def dW(t:Env->Option Bool)(g1 g2:ar->Option Out):ar->Option Out:=fun ρ=>(t (aJ ρ)).bind fun b=>if b=true then g1 ρ else g2 ρ
theorem Pw{c:Expr}{a b:List Stmt}{t:Env->Option Bool}(hc:DT X c t)(ha:D4 X HF₀ H₀ a g1)(hb:D4 X HF₀ H₀ b g2):DS X HF₀ H₀ (.If c a b pos) (dW t g1 g2):=cD (Ha hc ha hb) fun E σ H ⟨HF,ρ,o,S,hg,q⟩=>by
 obtain⟨b,h,hg⟩:=bs hg
 refine⟨H,aJ ρ,b,.refl _,S.all,h,fun H' HF' G=>?_⟩
 cases b with
 | true=>exact tG ⟨HF,ρ,o,S.step G.hh,hg,q⟩
 | false=>exact p9 ⟨HF,ρ,o,S.step G.hh,hg,q⟩
theorem A8:∀ (ρ:ar) (k n:Nat),k+ρ.length<=n->bZ (hand (List.range n) k ρ)=aJ ρ
 | [],k,n,h=>rfl
 | s::r,k,n,h=>by
  have hk:(List.range n).contains k=true:=by simp at h ⊢;omega
  have ih:=A8 r (k+1) n (by simp at h;omega)
  unfold bZ aJ at ih ⊢
  rw[hand,yL hk,zI,zI,ih]
  cases s<;>rfl
def aM(f:Env->Option D):ar->Option Out:=fun ρ=>(f (aJ ρ)).map Out.rt
theorem Nc{f:Env->Option D}(h:DE X e f):DS X HF₀ H₀ (.Return (some e) pos) (aM f):=cD (CJ h) fun E σ H ⟨HF,ρ,o,S,hg,q⟩=>by
 obtain⟨d,h,rfl⟩:=ag hg
 obtain⟨HF1,s1,S1⟩:=S.hand (List.range ρ.length)
 refine⟨HF1,aJ ρ,d,S1.gr.fh,?_,h,fun v H' HF' G r=>q v H' HF' (S1.gr.trans G) r⟩
 have:=S1.frz
 rw[A8 ρ 0 ρ.length (by omega)] at this
 exact this
def pV:D->Bool|.none=>true|.bool _=>true|.int _=>true|.str _=>true|_=>false
theorem Bs{K:W.Frag}{HF HF':Hp}{d:D}{v:V}(h:pV d=true)(r:Rep K HF d v):Rep K HF' d v:=by
 cases d<;>cases h<;>(simp only[Rep] at r ⊢;exact r)
mutual
def iW:D->Bool
 | .tuple ds=>rY ds
 | .list _=>false
 | .dict _=>false
 | _=>true
def rY:List D->Bool
 | []=>true
 | d::ds=>iW d&&rY ds
end
mutual
theorem zy{K:W.Frag}{H1 H2:Hp}(ht:∀a xs,iY K H1 a xs->iY K H2 a xs):∀ {d:D}{v:V},iW d=true->Rep K H1 d v->Rep K H2 d v
 | .none,_,_,r=>by simp only[Rep] at r ⊢;exact r
 | .bool _,_,_,r=>by simp only[Rep] at r ⊢;exact r
 | .int _,_,_,r=>by simp only[Rep] at r ⊢;exact r
 | .str _,_,_,r=>by simp only[Rep] at r ⊢;exact r
 | .tuple ds,v,h,r=>by
  simp only[iW] at h
  simp only[Rep] at r ⊢
  obtain⟨a,vs,e,q,rr⟩:=r
  exact⟨a,vs,e,ht _ _ q,uQ ht h rr⟩
 | .list _,_,h,_=>by simp[iW] at h
 | .dict _,_,h,_=>by simp[iW] at h
theorem uQ{K:W.Frag}{H1 H2:Hp}(ht:∀a xs,iY K H1 a xs->iY K H2 a xs):∀ {ds:List D}{vs:List V},rY ds=true->aw K H1 ds vs->aw K H2 ds vs
 | [],_,_,r=>by simp only[aw] at r ⊢;exact r
 | d::ds,vs,h,r=>by
  simp only[rY,zF] at h
  simp only[aw] at r ⊢
  obtain⟨v,r',e,a,b⟩:=r
  exact⟨v,r',e,zy ht h.1 a,uQ ht h.2 b⟩
end
theorem j4.back{K:W.Frag}{HF₀ H₀ HF H HF1 HF' H':Hp}{ρ ρ1:ar}{σ:L2.St}(S:j4 K HF₀ H₀ HF H ρ σ)(S1:j4 K HF₀ H₀ HF1 H ρ1 σ)(s1:aW HF HF1)(G:bF HF1 H HF' H'):∃HF2,aW HF HF2/\j4 K HF₀ H₀ HF2 H' ρ σ/\∀d v,iW d=true->Rep K HF' d v->Rep K HF2 d v:=by
 have cl:=Classical.propDecidable
 let O:Addr->Prop:=fun a=>∃ (i:Nat) (ds:List D),ρ[i]?=some (Slot.own ds)/\σ[i]?=some (some (V.ref a))
 let HF2:Hp:=fun a=>if O a then none else HF' a
 have hO:∀a,O a->HF a=none/\∃vs,H a=some (.lst vs):=fun a ⟨i,ds,h1,h2⟩=>by
  obtain⟨a',vs,e1,e2,e3,_,_⟩:=S.own i ds h1
  rw[h2] at e1
  cases e1
  exact⟨e3,vs,e2⟩
 have h2:∀a,¬ O a->HF2 a=HF' a:=fun a n=>yN n
 have h3:∀a,O a->HF2 a=none:=fun a n=>yL n
 have sa:aW HF HF2:=fun b o e=>by
  have nb:¬ O b:=fun z=>by rw[(hO b z).1] at e;cases e
  rw[h2 b nb]
  exact G.ff b o (s1 b o e)
 have sb:∀b o,HF2 b=some o->HF' b=some o:=fun b o e=>by
  by_cases z:O b
  ·rw[h3 b z] at e;cases e
  ·rwa [h2 b z] at e
 have g2:=S1.gr.trans G
 refine⟨HF2,sa,⟨⟨g2.hh,S.gr.ff.trans sa,fun b o e=>G.fh b o (sb b o e),fun b o e=>g2.nw b o (sb b o e)⟩,fun i d h=>?_,fun i ds h=>?_,S.inj,S.len,S.tb.mono sa⟩,fun d v hn r=>zy (fun a xs q=>?_) hn r⟩
 ·obtain⟨v,e1,r⟩:=S.val i d h
  exact⟨v,e1,r.mono sa⟩
 ·obtain⟨a,vs,e1,e2,e3,e5,e4⟩:=S.own i ds h
  exact⟨a,vs,e1,G.hh _ _ e2,h3 a ⟨i,ds,h,e1⟩,e5,e4.mono sa⟩
 ·have nt:∀o,HF' a=some o->(∀vs,o≠.lst vs)->HF2 a=some o:=fun o e hne=>by
   by_cases z:O a
   ·obtain⟨_,vs,e2⟩:=hO a z
    have:=G.hh _ _ e2
    rw[G.fh a o e] at this
    cases this
    exact absurd rfl (hne vs)
   ·rw[h2 a z];exact e
  rcases q with (q|⟨o,q⟩)|q
  ·exact .inl (.inl (nt _ q fun vs z=>by cases z))
  ·exact .inl (.inr ⟨o,nt _ q fun vs z=>by cases z⟩)
  ·exact .inr q
def aY(i:Nat)(fz:List Nat)(f:Env->Option D):ar->Option Out:=fun ρ=>(f (aJ ρ)).bind fun d=>if pV d=true then some (.nx (ρ.set i (.val d))) else (f (bZ (hand fz 0 ρ))).map fun d'=>.nx ((if iW d'=true then ρ else hand fz 0 ρ).set i (.val d'))
theorem O9{i:Nat}{fz:List Nat}{f:Env->Option D}:∀E σ H,tS X.K HF₀ H₀ (aY i fz f) E σ H->JI (tD X.K f) (AE i) E σ H:=fun E σ H ⟨HF,ρ,o,S,hg,q⟩=>by
 obtain⟨d,h,hg⟩:=bs hg
 split at hg
 ·rename_i hs
  cases hg
  exact⟨H,aJ ρ,d,.refl _,S.all,h,fun v H' HF' G r=>q _ H' HF ((S.step G.hh).setV (Bs hs r)) (.refl _)⟩
 ·obtain⟨d',h',rfl⟩:=ag hg
  obtain⟨HF1,s1,S1⟩:=S.hand fz
  refine⟨HF1,_,d',S1.gr.fh,S1.frz,h',fun v H' HF' G r=>?_⟩
  by_cases hn:iW d'=true
  ·rw[yL hn] at q
   obtain⟨HF2,s2,S2,hb⟩:=S.back S1 s1 G
   exact q _ H' HF2 (S2.setV (hb d' v hn r)) s2
  ·rw[yN hn] at q
   exact q _ H' HF' ((S1.grow G).setV r) (s1.trans G.ff)
theorem N4(i:Nat)(fz:List Nat){x:Str}{f:Env->Option D}{pos':Pos}(hN:X.N.Nodup)(hi:X.N[i]?=some x)(hx:Loc X.env.scope x)(he:DE X e f)(hs:swapsWith e (some (.Name x pos')) pos.line X.env=pure false:=by rfl)
  (hf:X.fn x=true\/X.env.scope.names.lookup x=some .local:=by first|exact .inl rfl|exact .inr rfl|assumption):DS X HF₀ H₀ (.Assign [.Name x pos'] e pos) (aY i fz f):=cD (r9 hN hi hx he hs hf) O9
def bu(i:Nat)(fz:List Nat)(f:Env->Option (List D)):ar->Option Out:=fun ρ=>(f (bZ (hand fz 0 ρ))).map fun ds=>.nx ((hand fz 0 ρ).set i (.own ds))
theorem HD{i:Nat}{fz:List Nat}{f:Env->Option (List D)}:∀E σ H,tS X.K HF₀ H₀ (bu i fz f) E σ H->JI (tF X.K f) (AE i) E σ H:=fun E σ H ⟨HF,ρ,o,S,hg,q⟩=>by
 obtain⟨ds,h,rfl⟩:=ag hg
 obtain⟨HF1,s1,S1⟩:=S.hand fz
 refine⟨HF1,_,ds,S1.gr.fh,S1.frz,h,fun a vs H' HF' G ha hf h' r=>q _ H' HF' ?_ (s1.trans G.ff)⟩
 have S2:=S1.grow G
 refine S2.setO (.refl _) h' hf (S1.gr.hh.free ha) r fun j es _ hj z=>?_
 obtain⟨b,us,e1,e2,_⟩:=S1.own j es hj
 rw[e1] at z
 cases z
 rw[ha] at e2;cases e2
theorem y0(i:Nat)(fz:List Nat){x:Str}{f:Env->Option (List D)}{pos':Pos}(hN:X.N.Nodup)(hi:X.N[i]?=some x)(hx:Loc X.env.scope x)(he:DF X e f)(hs:swapsWith e (some (.Name x pos')) pos.line X.env=pure false:=by rfl)
  (hf:X.fn x=true\/X.env.scope.names.lookup x=some .local:=by first|exact .inl rfl|exact .inr rfl|assumption):DS X HF₀ H₀ (.Assign [.Name x pos'] e pos) (bu i fz f):=cD (r9 hN hi hx he hs hf) HD
theorem J8(i:Nat)(fz:List Nat){y:Str}{py spos:Pos}{tg iter elt:Expr}{ifs:List Expr}{scope:Scope}{N:List Str}{t:Nat}{cs:List Nat}{fi:Env->Option (List D)}{tgt:Env->D->Option Env}{tt:Env->Option Bool}{te:Env->Option D}
  (hc:X.calm=true) (S:ji X scope N (kg t cs)) (hi:DI X tg iter fi)
  (hY:∀fp s H,DG (bc X scope N fp s H) tg tgt/\PM (bc X scope N fp s H) ifs tt/\DE (bc X scope N fp s H) elt te)
  (hN:X.N.Nodup) (hiy:X.N[i]?=some y) (hy:X.env.scope.names.lookup y=some .local)
  (hsw:swapsWith (.ListComp elt [⟨tg,iter,ifs,0⟩] scope pos) (some (.Name y py)) spos.line X.env=pure true)
  (hs:∀x,foldedSetIterable iter X.env x=pure x:=by intro _;rfl):DS X HF₀ H₀ (.Assign [.Name y py] (.ListComp elt [⟨tg,iter,ifs,0⟩] scope pos) spos) (bu i fz (au t cs fi tgt tt te)) :=
 cD (Lf (g:=QR X.K tgt) (tt:=NC X.K tt) (te:=tD X.K te) hc S hi hY hN hiy hy hsw hs) fun E σ H q=>by
  have:=HD E σ H q
  exact Jo σ H _ this
def SI(K:W.Frag)(HF₀ H₀:Hp)(f:ar->D->Option ar):TG:=fun v σ H Q=>∃HF ρ d ρ',j4 K HF₀ H₀ HF H ρ σ/\Rep K HF d v/\f ρ d=some ρ'/\∀σ',j4 K HF₀ H₀ HF H ρ' σ'->Q σ' H
def QF(X:Cx)(HF₀ H₀:Hp)(tg:Expr)(f:ar->D->Option ar):Prop:=PG X tg (SI X.K HF₀ H₀ f)
def qt(i:Nat):ar->D->Option ar:=fun ρ d=>some (ρ.set i (.val d))
theorem IR(i:Nat){x:Str}(hN:X.N.Nodup)(hi:X.N[i]?=some x)(hx:Loc X.env.scope x)(hf:X.fn x=true\/X.env.scope.names.lookup x=some .local:=by first|exact .inl rfl|exact .inr rfl|assumption):QF X HF₀ H₀ (.Name x pos) (qt i) :=
 sg (dI hN hi hx hf) fun v σ H Q ⟨HF,ρ,d,ρ',S,r,hf,q⟩=>by cases hf;exact q _ (S.setV r)
def gJ(i j:Nat):ar->D->Option ar:=fun ρ d=>match d with
 | .tuple [x,y]=>some ((ρ.set i (.val x)).set j (.val y))
 | _=>none
theorem Lw(i j:Nat){x y:Str}{px py:Pos}{k:Nat}(hc:X.calm=true)(hN:X.N.Nodup)(hi:X.N[i]?=some x)(hx:Loc X.env.scope x)(hj:X.N[j]?=some y)(hy:Loc X.env.scope y)
  (hf:X.fn x=true\/X.env.scope.names.lookup x=some .local:=by first|exact .inl rfl|exact .inr rfl|assumption) (hf':X.fn y=true\/X.env.scope.names.lookup y=some .local:=by first|exact .inl rfl|exact .inr rfl|assumption) :
  QF X HF₀ H₀ (.Tuple [.Name x px,.Name y py] k pos) (gJ i j) :=
 sg (xp hc (dA (dI hN hi hx hf) (dA (dI hN hj hy hf') qr))) fun v σ H Q ⟨HF,ρ,d,ρ',S,r,hf,q⟩=>by
  unfold gJ at hf
  split at hf
  ·cases hf
   simp only[Rep] at r
   obtain⟨a,vs,rfl,hs,rr⟩:=r
   obtain⟨v1,r1,rfl,a1,b1⟩:=rr.cons_inv
   obtain⟨v2,r2,rfl,a2,b2⟩:=b1.cons_inv
   rw[b2.nil_inv] at hs
   exact⟨a,_,rfl,aL S.gr.fh hs,rfl,v1,_,rfl,v2,_,rfl,rfl,q _ ((S.setV a1).setV a2)⟩
  ·cases hf
def fO(tgt:ar->D->Option ar)(gb:ar->Option Out):List D->ar->Option Out
 | [],ρ=>some (.nx ρ)
 | d::ds,ρ=>(tgt ρ d).bind fun ρ1=>(gb ρ1).bind fun|.nx ρ2=>fO tgt gb ds ρ2|.rt v=>some (.rt v)
def ee(fz:List Nat)(fi:Env->Option (List D))(tgt:ar->D->Option ar)(gb:ar->Option Out):ar->Option Out:=fun ρ=>(fi (bZ (hand fz 0 ρ))).bind fun ds=>fO tgt gb ds (hand fz 0 ρ)
theorem MW(fz:List Nat){tg iter:Expr}{body:List Stmt}{fi:Env->Option (List D)}{tgt:ar->D->Option ar}{gb:ar->Option Out}(hp:PassesOwn (model X.prog X.w) X.A X.env X.xe)(hc:X.calm=true)(hi:DI X tg iter fi)(hg:QF X HF₀ H₀ tg tgt)(hb:D4 X HF₀ H₀ body gb)
  (hs:∀x,foldedSetIterable iter X.env x=pure x:=by intro _;rfl):DS X HF₀ H₀ (.For tg iter body [] pos) (ee fz fi tgt gb):=cD (OK hp hc hi hg hb hs) fun E σ H ⟨HF,ρ,o,S,hg,q⟩=>by
 obtain⟨ds,h,hg⟩:=bs hg
 obtain⟨HF1,s1,S1⟩:=S.hand fz
 refine⟨HF1,_,ds,S1.gr.fh,S1.frz,h,fun J H2 HF2 G it=>?_⟩
 refine⟨fun i m σ' H'=>m+i=ds.length/\∃HF' ρ',j4 X.K HF₀ H₀ HF' H' ρ' σ'/\aW HF2 HF'/\fO tgt gb (ds.drop i) ρ'=some o,⟨ds.length,rfl,HF2,_,S1.grow G,.refl _,hg⟩,?_⟩
 rintro i m σ' H' ⟨hm,HF',ρ',S',s',hf⟩
 by_cases hi:i < ds.length
 ·refine .inr ?_
  have hd:ds.drop i=ds[i]::ds.drop (i+1):=vC hi
  have he:ds[i]?=some ds[i]:=List.getElem?_eq_some_iff.mpr ⟨hi,rfl⟩
  generalize ds[i]=d at hd he
  rw[hd] at hf
  unfold fO at hf
  obtain⟨ρ1,h1,hf⟩:=bs hf
  obtain⟨o1,h2,hf⟩:=bs hf
  obtain⟨go,yld⟩:=it.go i d H' HF' he s' S'.gr.fh
  refine⟨go,fun σ2 H3=>∃HF3 ρ3,j4 X.K HF₀ H₀ HF3 H3 ρ3 σ2/\aW HF2 HF3/\fO tgt gb (ds.drop (i+1)) ρ3=some o,fun σ2 H3 ⟨HF3,ρ3,a1,a2,a3⟩=>⟨m - 1,by omega,by omega,HF3,ρ3,a1,a2,a3⟩,fun x H3 y=>?_⟩
  obtain⟨HF3,G3,rx⟩:=yld x H3 y
  refine⟨HF3,ρ',d,ρ1,S'.grow G3,rx,h1,fun σ2 S2=>⟨HF3,ρ1,o1,S2,h2,?_⟩⟩
  cases o1 with
  | nx ρ2=>exact fun σ4 H4 HF4 S4 s4=>⟨HF4,ρ2,S4,(s'.trans G3.ff).trans s4,hf⟩
  | rt d=>cases hf;exact q
 ·have hi':i=ds.length:=by omega
  subst hi'
  rw[List.drop_length] at hf
  cases hf
  exact .inl ⟨it.stop H' HF' s' S'.gr.fh,q σ' H' HF' S' ((s1.trans G.ff).trans s')⟩
end
def KA(X:Cx)(sc:Scope):Prop:=∀x k,sc.names.lookup x=some k->X.env.kindOf x=some k\/(k=.free/\X.env.kindOf x=some .cell)
structure Bk(X:Cx)(N:List Str)(sc:Scope)(k:Nat):Prop where
 n:X.N=N
 nd:N.Nodup
 tb:KA X sc
 calm:X.calm=true
 fn:∀x,sc.names.lookup x=some .cell->X.fn x=true
 room:dS k X.A
 xe:X.xe=fun _ _=>False
 kd:X.env.scope.kind=.function
def cg:List Str:=["len","isinstance","int","bool","tuple","list","range","all","any","set","sorted","enumerate","zip","sum","min","max","reversed","abs","dict","str","type","iter","next"]
def Bn(X:Cx):Prop:=∀x∈cg,X.mg x=none
def pU(sc:Scope)(x:Str):Bool:=decide (sc.names.lookup x=some .globalImplicit)
def F3(N:List Str)(sc:Scope)(i:Nat)(x:Str):Bool:=decide (N[i]?=some x)&&(decide (sc.names.lookup x=some .local)||decide (sc.names.lookup x=some .cell)||decide (sc.names.lookup x=some .free))&&!(x == ("__debug__":Str))&&!(x == ("__classdict__":Str))
def rl(N:List Str)(sc:Scope)(i:Nat)(x:Str):Bool:=decide (N[i]?=some x)&&(decide (sc.names.lookup x=some .local)||decide (sc.names.lookup x=some .cell))
section
variable {X:Cx}{N:List Str}{sc:Scope}{k:Nat}
theorem Bk.gl(C:Bk X N sc k){x:Str}(h:pU sc x=true):Gl X x:=by
 rcases C.tb x _ (yQ h) with q|⟨q,_⟩
 ·exact q
 ·cases q
theorem Bk.vis(C:Bk X N sc k){i:Nat}{x:Str}(h:F3 N sc i x=true):X.N[i]?=some x/\Lx X.env.scope x/\(x == ("__debug__":Str))=false/\(x == ("__classdict__":Str))=false:=by
 unfold F3 at h
 simp only[zF,jB,zJ,yP] at h
 obtain⟨⟨⟨h1,h2⟩,h3⟩,h4⟩:=h
 refine⟨by rw[C.n];exact h1,?_,h3,h4⟩
 rcases h2 with (h2|h2)|h2
 ·rcases C.tb x _ h2 with q|⟨q,_⟩
  ·exact .inl q
  ·cases q
 ·rcases C.tb x _ h2 with q|⟨q,_⟩
  ·exact .inr (.inl q)
  ·cases q
 ·rcases C.tb x _ h2 with q|⟨_,q⟩
  ·exact .inr (.inr q)
  ·exact .inr (.inl q)
theorem Bk.loc(C:Bk X N sc k){i:Nat}{x:Str}(h:rl N sc i x=true):X.N.Nodup/\X.N[i]?=some x/\Loc X.env.scope x/\(X.fn x=true\/X.env.scope.names.lookup x=some .local):=by
 unfold rl at h
 simp only[zF,jB,zJ] at h
 obtain⟨h1,h2⟩:=h
 refine⟨by rw[C.n];exact C.nd,by rw[C.n];exact h1,?_⟩
 rcases h2 with h2|h2
 ·rcases C.tb x _ h2 with q|⟨q,_⟩
  ·exact⟨.inl q,.inr q⟩
  ·cases q
 ·rcases C.tb x _ h2 with q|⟨q,_⟩
  ·exact⟨.inr q,.inl (C.fn x h2)⟩
  ·cases q
theorem Bk.blt(C:Bk X N sc k)(B:Bn X){x:Str}{v:Value}(h:pU sc x=true)(hm:x∈cg)(hv:bootBuiltins x=some v):pO X x v:=⟨C.gl h,B x hm,hv⟩
theorem Bk.v(C:Bk X N sc k)(i:Nat){x:Str}{pos:Pos}(h:F3 N sc i x=true):DE X (.Name x pos) (ae i):=let ⟨a,b,c,d⟩:=C.vis h;Nl i a b c d
theorem Bk.pass(C:Bk X N sc k):PassesOwn (model X.prog X.w) X.A X.env X.xe:=by rw[C.xe];exact PassesOwn.never
def jw(sc scope:Scope)(N N':List Str)(t:Nat)(cs:List Nat):Bool :=
 decide (scope.kind=.function)&&scope.names.all (fun p=>(!decide (p.2=NameKind.free)||decide (sc.names.lookup p.1=some .cell)||decide (sc.names.lookup p.1=some .free))&&(!decide (p.2=NameKind.local)||decide (scope.names.lookup p.1=some .local)))
  &&scope.names.all (fun p=>!decide (p.2=NameKind.cell)||!scope.names.any fun q=>decide (q.1=p.1)&&decide (q.2=NameKind.free))
  &&decide (N'.length=t+cs.length)&&decide (N'.drop t=cs.filterMap fun j=>N[j]?)&&cs.all (fun j=>decide (j < N.length))&&(N'.drop t).all (fun x=>decide (scope.names.lookup x=some .free))&&decide N'.Nodup
theorem filterMap_get{α:Type}(N:List α):∀ (cs:List Nat),(∀j∈cs,j < N.length)->∀ (i:Nat),(cs.filterMap fun j=>N[j]?)[i]?=(cs[i]?).bind fun j=>N[j]?
 | [],_,i=>by simp
 | c::cs,h,i=>by
  have hc:=h c zE
  rw[jG,zK hc]
  cases i with
  | zero=>simp[hc]
  | succ i =>
   simp only[yY]
   exact filterMap_get N cs (fun j hj=>h j (zC _ hj)) i
theorem Bk.comp(C:Bk X N sc k){scope:Scope}{N':List Str}{t:Nat}{cs:List Nat}(h:jw sc scope N N' t cs=true):ji X scope N' (kg t cs)/\∀fp s H,Bk (bc X scope N' fp s H) N' scope k:=by
 unfold jw at h
 simp only[zF,zJ,xG,jB,yP,xB] at h
 obtain⟨⟨⟨⟨⟨⟨⟨h1,h2⟩,h3⟩,h4⟩,h5⟩,h6⟩,h7⟩,h8⟩:=h
 refine⟨⟨h1,fun x hx hk=>?_,fun {x} a b=>?_,fun x hx hk=>?_,fun σ i x v e1 e2=>?_,fun σ=>?_⟩,fun fp s H=>⟨rfl,h8,fun x k hx=>oQ hx,C.calm,fun x hx=>zZ hx,C.room,rfl,h1⟩⟩
 ·rcases (h2 x hx).1 with (q|q)|q
  ·exact absurd hk q
  ·rcases C.tb _ _ q with z|⟨z,_⟩
   ·exact .inl z
   ·cases z
  ·rcases C.tb _ _ q with z|⟨_,z⟩
   ·exact .inr z
   ·exact .inl z
 ·rcases h3 _ a with q|q
  ·exact q rfl
  ·have:(scope.names.any fun q=>decide (q.1=x)&&decide (q.2=NameKind.free))=true:=List.any_eq_true.mpr ⟨_,b,by simp⟩
   rw[this] at q
   cases q
 ·rcases (h2 x hx).2 with q|q
  ·exact absurd hk q
  ·exact q
 ·unfold kg at e2
  by_cases hi:i < t
  ·rw[yS (by simpa using hi),yX,yL hi] at e2
   cases e2
  ·rw[yT (by simpa using hi),zO,xM] at e2
   obtain⟨j,hj,e2⟩:=ag e2
   have e3:(N'.drop t)[i - t]?=some x:=by rw[List.getElem?_drop];rw[show t+(i - t)=i by omega];exact e1
   refine⟨h7 x (qB e3),j,?_,?_⟩
   ·rw[h5,filterMap_get N cs h6,hj] at e3
    rw[C.n];exact e3
   ·cases e:σ[j]? with
    | none=>rw[e] at e2;cases e2
    | some o=>rw[e] at e2;have e2:o=some v:=e2;rw[e2]
 ·unfold kg
  rw[zN,xM,zD,h4]
def bD(g:ar->Option Out)(n:Nat)(args:List D):Option D:=(g (args.map Slot.val++List.replicate (n - args.length) .non)).map fun|.rt d=>d|.nx _=>.none
theorem Mz{P:Program}{w:World}{K:W.Frag}{mg:Str->Option Value}{base:Heap}{x qual:Str}{st:Stmt}{f:Addr}{fd:FuncData}{ps:List Str}{g:ar->Option Out}(F:GK K x qual st f fd)(S:cT N ps (aj st))
  (body:∀X:Cx,X.prog=P->X.w=w->X.K=K->X.mg=mg->X.base=base->Bk X N (aj st) k->X.env.code=fd.code->X.env.qual=qual++".<locals>."->∀HF₀ H₀,D4 X HF₀ H₀ (bC st) g):ni P w K mg base Hh (k+1) f fd ps (ON K ps.length (bD g N.length)):=by
 obtain⟨oc,od,kV,doc,pm,an,cdv,ct,osl,rfl,lk,hcd⟩:=F.ex
 refine Jk lk hcd S (fun vs H Q E ⟨HF,ds,d,h1,_,h2,h3,_⟩=>by rw[h2.length,h3]) fun A outer s H vs Q E hr ⟨HF,ds,d,sm,tb,rr,hl,hd,q⟩=>?_
 refine⟨_,(body (sF Hh P w K mg base N qual (aj st) f cdv A outer s H E).nox rfl rfl rfl rfl rfl ⟨rfl,S.nd,fun y kd hy=>.inl hy,rfl,fun _ _=>rfl,hr,rfl,S.kind⟩ rfl rfl HF H).nox,?_⟩
 unfold bD at hd
 obtain⟨o,ho,hd⟩:=ag hd
 have hpl:ps.length<=N.length:=by have:=jC List.length S.pre;rw[jW] at this;omega
 refine⟨HF,_,o,⟨.refl sm,fun i e h=>?_,fun i es h=>?_,fun i j es fs a h=>?_,?_,tb⟩,ho,?_⟩
 ·have hi:i < ds.length:=by
   by_cases hi:i < ds.length
   ·exact hi
   ·rw[yT (by simpa using hi),yX] at h
    split at h<;>cases h
  rw[yS (by simpa using hi),zO] at h
  obtain⟨d',hd',h⟩:=ag h
  cases h
  obtain⟨v,hv,rv⟩:=rr.getD hd'
  refine⟨v,?_,rv⟩
  unfold L2.start
  rw[yS (by simpa [rr.length] using hi),zO,hv]
  rfl
 ·exfalso
  by_cases hi:i < ds.length
  ·rw[yS (by simpa using hi),zO] at h
   obtain⟨d',hd',h⟩:=ag h
   cases h
  ·rw[yT (by simpa using hi),yX] at h
   split at h<;>cases h
 ·exfalso
  by_cases hi:i < ds.length
  ·rw[yS (by simpa using hi),zO] at h
   obtain⟨d',hd',h⟩:=ag h
   cases h
  ·rw[yT (by simpa using hi),yX] at h
   split at h<;>cases h
 ·unfold L2.start
  rw[zN,zN,zD,zD,xM,xM,rr.length]
  exact yM _
 ·cases o with
  | rt d'=>cases hd;exact fun v H' HF' G r=>q v H' HF' G r
  | nx ρ'=>cases hd;exact fun σ' H' HF' S' _=>q .non H' HF' S'.gr (by simp[Rep])
theorem R4{P:Program}{w:World}{K:W.Frag}{mg:Str->Option Value}{base:Heap}{x qual:Str}{st:Stmt}{f:Addr}{fd:FuncData}{ps:List Str}{g:ar->Option Out}(F:GK K x qual st f fd)(S:cT N ps (aj st))(hb:Binds K fd ps [])(hm:mg x=some (.ref f))
  (body:∀X:Cx,X.prog=P->X.w=w->X.K=K->X.mg=mg->X.base=base->Bk X N (aj st) k->X.env.code=fd.code->X.env.qual=qual++".<locals>."->∀HF₀ H₀,D4 X HF₀ H₀ (bC st) g):eJ P w K mg base (k+1) x ps.length (bD g N.length):=⟨f,fd,ps,Mz F S body,hm,F.kp,hb⟩
end
section
variable {X:Cx}{HF₀ H₀:Hp}{e e2:Expr}{pos apos cpos px:Pos}{x:Str}
def pF(fz:List Nat)(f:Env->Option D)(ρ:ar):Option (D×ar):=(f (aJ ρ)).bind fun d=>if pV d=true then some (d,ρ) else (f (bZ (hand fz 0 ρ))).map fun d'=>(d',hand fz 0 ρ)
theorem oF{K:W.Frag}{HF H:Hp}{ρ ρ':ar}{σ:L2.St}{fz:List Nat}{f:Env->Option D}{d:D}(S:j4 K HF₀ H₀ HF H ρ σ)(h:pF fz f ρ=some (d,ρ')){Q:VK}
  (q:∀v H' HF',aW HF HF'->j4 K HF₀ H₀ HF' H' ρ' σ->aW H H'->Rep K HF' d v->Q v H'):tD K f σ H Q:=by
 obtain⟨d1,h1,h⟩:=bs h
 split at h
 ·rename_i hs
  cases h
  exact⟨H,aJ ρ,d,.refl _,S.all,h1,fun v H' HF' G r=>q v H' HF (.refl _) (S.step G.hh) G.hh (Bs hs r)⟩
 ·obtain⟨d2,h2,h⟩:=ag h
  cases h
  obtain⟨HF1,s1,S1⟩:=S.hand fz
  exact⟨HF1,_,d,S1.gr.fh,S1.frz,h2,fun v H' HF' G r=>q v H' HF' (s1.trans G.ff) (S1.grow G) G.hh r⟩
def sS(i:Nat)(m:List D->Option (List D))(ρ:ar):Option Out:=match ρ[i]? with
 | some (.own ds)=>(m ds).map fun es=>.nx (ρ.set i (.own es))
 | _=>none
theorem l9{i:Nat}{m:List D->Option (List D)}{ρ:ar}{o:Out}(h:sS i m ρ=some o):∃ds es,ρ[i]?=some (.own ds)/\m ds=some es/\o=.nx (ρ.set i (.own es)):=by
 unfold sS at h
 split at h
 ·rename_i ds hd
  obtain⟨es,h1,h2⟩:=ag h
  exact⟨ds,es,hd,h1,h2.symm⟩
 ·cases h
theorem j4.mut{K:W.Frag}{HF H:Hp}{ρ:ar}{σ:L2.St}(S:j4 K HF₀ H₀ HF H ρ σ){i:Nat}{ds es:List D}{a:Addr}{vs us:List V}(h:ρ[i]?=some (.own ds))(ha:σ[i]?=some (some (.ref a)))(hH:H a=some (.lst vs))(r:aw K HF es us) :
  j4 K HF₀ H₀ HF (upd H a (.lst us)) (ρ.set i (.own es)) σ:=by
 obtain⟨a',vs',e1,e2,e3,e5,e4⟩:=S.own i ds h
 rw[ha] at e1;cases e1
 have hl:i < ρ.length:=(List.getElem?_eq_some_iff.mp h).1
 have gr:bF HF₀ H₀ HF (upd H a (.lst us)):=⟨fun b o e=>by rw[aF (aX e e5)];exact S.gr.hh b o e,S.gr.ff,fun b o e=>by rw[aF (aX e e3)];exact S.gr.fh b o e,S.gr.nw⟩
 refine⟨gr,fun j d hj=>?_,fun j xs hj=>?_,fun j k xs ys b f1 f2 f3 f4=>?_,by rw[yB];exact S.len,S.tb⟩
 ·rw[xI] at hj
  by_cases hij:i=j
  ·rw[yL hij] at hj
   split at hj<;>cases hj
  ·rw[yN hij] at hj;exact S.val j d hj
 ·rw[xI] at hj
  by_cases hij:i=j
  ·subst hij
   rw[yL rfl,yL hl] at hj
   cases hj
   exact⟨a,us,ha,aC,e3,e5,r⟩
  ·rw[yN hij] at hj
   obtain⟨b,ws,f1,f2,f3,f5,f4⟩:=S.own j xs hj
   refine⟨b,ws,f1,?_,f3,f5,f4⟩
   rw[aF]
   ·exact f2
   ·rintro rfl
    exact hij (S.inj i j ds xs b h hj ha f1)
 ·have old:∀ {j:Nat}{xs:List D},(ρ.set i (.own es))[j]?=some (.own xs)->∃ys,ρ[j]?=some (.own ys):=fun {j xs} hj=>by
   rw[xI] at hj
   by_cases hij:i=j
   ·subst hij;exact⟨ds,h⟩
   ·rw[yN hij] at hj;exact⟨xs,hj⟩
  obtain⟨xs',g1⟩:=old f1
  obtain⟨ys',g2⟩:=old f2
  exact S.inj j k xs' ys' b g1 g2 f3 f4
def um(i:Nat)(fz:List Nat)(f:Env->Option D):ar->Option Out:=fun ρ=>(pF fz f ρ).bind fun p=>sS i (fun ds=>if ds.length < sizeLine then some (ds++[p.1]) else none) p.2
theorem EO(i:Nat)(fz:List Nat){f:Env->Option D}(hN:X.N[i]?=some x)(hv:Lx X.env.scope x)(h:DE X e f)(hd:(x == ("__debug__":Str))=false:=by decide)(hcd:(x == ("__classdict__":Str))=false:=by decide)
  (hfew:((backTo cpos (starEach [e] X.env)).all (fun x=>!x.1)&&(backToKw cpos (keywordEach [] X.env)).all (fun x=>x.1.isSome)&&decide ([e].length+([]:List Keyword).length+(if ([]:List Keyword).isEmpty then 0 else 1) < 30))=true:=by rfl)
  (hline:(apos.endLine == cpos.line)=true:=by rfl) (hs:starEach [e] X.env=(false,eval e X.env)::starEach [] X.env:=by rfl) :
  DS X HF₀ H₀ (.Expr (.Call (.Attribute (.Name x px) "append" apos) [e] [] cpos) pos) (um i fz f) :=
 cD (nu (rA qN PySem.F.slot_list_append PySem.F.type_list_append uM (lL hN hv hd hcd) (bM h dP hs) rfl hfew hline hs rfl)) fun E σ H ⟨HF,ρ,o,S,hg,q⟩=>by
  obtain⟨⟨d,ρ'⟩,h1,hg⟩:=bs hg
  obtain⟨ds,es,h2,h3,rfl⟩:=l9 hg
  have hown:∃ds',ρ[i]?=some (.own ds'):=by
   obtain⟨d1,_,h1⟩:=bs h1
   split at h1
   ·cases h1;exact⟨ds,h2⟩
   ·obtain⟨d2,_,h1⟩:=ag h1
    cases h1
    rw[iG] at h2
    obtain⟨s,hs,h2⟩:=ag h2
    cases s with
    | non=>split at h2<;>cases h2
    | val _=>split at h2<;>cases h2
    | own xs=>exact⟨xs,hs⟩
  obtain⟨ds',hown⟩:=hown
  obtain⟨a,vs,e1,e2,e3,e5,e4⟩:=S.own i ds' hown
  refine⟨.ref a,e1,.inl ⟨rfl,vs,ig.of e2⟩,oF S h1 fun v H' HF' s1 S' sh r=>?_⟩
  obtain⟨a',vs',f1,f2,f3,f5,f4⟩:=S'.own i ds h2
  rw[e1] at f1;cases f1
  split at h3
  ·rename_i hz
   cases h3
   exact⟨a,vs',v,rfl,rfl,f2,by rw[f4.length];exact hz,q σ _ HF' (S'.mut h2 e1 f2 (f4.append (aw.cons r aw.nil))) s1⟩
  ·cases h3
end
def v5(K:W.Frag)(o:Obj):Option (Addr×Str):=match o.data with
 | .func fd=>if ku.contains fd.qualname=true then (match fd.code with
   | .ref c=>(match K.lookup c with
    | some ⟨_,_,.fields vs,_⟩=>(match (vs[11]?:Option Value) with
     | some (.ref P)=>if W.codeHdIn K c P=true then some (P,fd.qualname++".<locals>."++"<lambda>") else none
     | _=>none)
    | _=>none)
   | _=>none) else none
 | _=>none
def g9(K:W.Frag):List (Addr×Str):=K.filterMap fun p=>v5 K p.2
def n9(K:W.Frag)(ts:List Addr):Bool:=(g9 K).all fun p=>ts.contains p.1&&(K.lookup p.1).isNone&&decide ((g9 K).lookup p.1=some p.2)
theorem z8{K:W.Frag}{o:Obj}{P:Addr}{q:Str}(h:v5 K o=some (P,q)):∃c,W.codeHdIn K c P=true:=by
 unfold v5 at h
 split at h
 ·split at h
  ·split at h
   ·split at h
    ·split at h
     ·split at h
      ·cases h;exact⟨_,‹_›⟩
      ·cases h
     ·cases h
    ·cases h
   ·cases h
  ·cases h
 ·cases h
theorem Bq{K:W.Frag}{P:Addr}{q:Str}(h:(P,q)∈g9 K):∃c,W.codeHdIn K c P=true:=by
 obtain⟨p,_,e⟩:=List.mem_filterMap.mp h
 exact z8 e
theorem CK{K:W.Frag}{f c P:Addr}{oc:Value}{od:Option Addr}{fd:FuncData}{sl:Array (Option Value)}(a:K.lookup f=some ⟨oc,od,.func fd,sl⟩)(b:fd.qualname∈ku)(d:fd.code=.ref c)(e:W.codeHdIn K c P=true) :
  (P,fd.qualname++".<locals>."++"<lambda>")∈g9 K:=by
 refine List.mem_filterMap.mpr ⟨(f,_),W.mem_of_lookupK a,?_⟩
 have e':=e
 unfold W.codeHdIn at e'
 unfold v5
 simp only[d,List.contains_iff_mem,b,xH]
 split at e'
 ·rename_i vs sl' hl
  simp only[hl]
  simp only[zF] at e'
  have e1:=e'.1.1.1.1.1
  split at e1
  ·rename_i P' hv
   have:P'=P:=by simpa using e1
   subst this
   simp only[hv,e,xH]
  ·cases e1
 ·cases e'
theorem JN{α:Type}{b:Addr}{q:α}:∀ {l:List (Addr×α)},l.lookup b=some q->(b,q)∈l
 | [],e=>by cases e
 | (c,x)::r,e=>by
  rw[yA] at e
  cases h:b == c with
  | true=>rw[h] at e;cases e;rw[eq_of_beq h];exact zE
  | false=>rw[h] at e;exact zC _ (JN e)
def fK(K:W.Frag)(h0:Hp):Hp:=fun b=>match (g9 K).lookup b with|some q=>some (.tab q)|none=>h0 b
theorem Fz{K:W.Frag}{ts:List Addr}{h0:Hp}(h:n9 K ts=true):eX K (fK K h0):=fun f oc od fd sl c P a b d e=>by
 have hm:=CK a b d e
 have:=List.all_eq_true.mp h _ hm
 simp only[zF,zJ] at this
 unfold fK
 rw[this.2]
theorem Ey{P:Program}{w:World}{K:W.Frag}{mg mb:Str->Option Value}{CX:FB}{k:Nat}{fa a:Addr}{fd:FuncData}{x:Str}{sp:Sp}{s₁:Shared}{vs:List Value}{ns:List Int}{ts:List Addr}
  (KX:K.In s₁.heap) (hns:s₁.heap.Ns mainGlobals mg) (hb:s₁.heap.Ns builtinsNs mb) (hbb:∀x:Str,x≠"__name__"->mb x=bootBuiltins x) (hlim:s₁.heap.NoLimit) (hbm:QL mg s₁.heap) (hg:s₁.gens=#[])
  (ht:n9 K ts=true) (hts:∀P∈ts,s₁.heap.get? P=some (W.tabObj #[]))
  (ha:s₁.heap.get? a=some { cls:=.type "list",data:=.seq vs.toArray }) (hi:IntsAre vs ns) (hl:ns.length<=sizeLine) (hr:dS k callerA)
  (F:∀base:Heap,K.In base->base.Ns mainGlobals mg->ni P w K mg base CX k fa fd [x] sp) (hbind:∀ (s:Shared) (u:Value),BindsTo s fd ⟨[u],[]⟩ [(x,u)])
  (hsp:∀H:Hp,eX K H->ig K H a (ns.map V.int)->sp [.ref a] H (fun v _=>v=.bl true) fun _ _ _=>False)
  (hCX:∀H e s',CX [] H s₁ (fun _ _ _=>False) e s'->False) :
  codeAny (model P w) callerA (.call (.ref fa) ⟨[.ref a],[]⟩) (fun r s'=>r=.ok (.ret (.bool true))/\OldK s₁.heap s'.heap/\s'.os=s₁.os/\AllBare s'.gens) s₁:=by
 have rv:=uO hi
 have lenV:=hi.length
 have tabAt:∀b q,(g9 K).lookup b=some q->s₁.heap.get? b=some (W.tabObj #[])/\K.lookup b=none/\∃c,W.CodeHd s₁.heap c b:=fun b q e=>by
  have hm:=JN e
  have:=List.all_eq_true.mp ht _ hm
  simp only[zF,zJ,List.contains_iff_mem,Option.isNone_iff_eq_none] at this
  obtain⟨c,hc⟩:=Bq hm
  exact⟨hts b this.1.1,this.1.2,c,W.codeHd_of_K KX hc⟩
 have aT:(g9 K).lookup a=none:=by
  cases e:(g9 K).lookup a with
  | none=>rfl
  | some q=>have:=(tabAt a q e).1;rw[ha] at this;cases this
 have core:∀h0:Hp,ig K (fK K h0) a (ns.map V.int)->oC P w (fK K h0) s₁.heap->(∀b,h0 b≠none->b=a)->(h0 a≠none->K.lookup a=none)->(∀b,h0 b=none\/∃o xs,h0 b=some (.frz o (.lst xs))) ->
   codeAny (model P w) callerA (.call (.ref fa) ⟨[.ref a],[]⟩) (fun r s'=>r=.ok (.ret (.bool true))/\OldK s₁.heap s'.heap/\s'.os=s₁.os/\AllBare s'.gens) s₁:=by
  intro h0 hS hok hA hK hO
  have look:∀b u,fK K h0 b=some u->(∃q,(g9 K).lookup b=some q/\u=.tab q)\/(b=a/\h0 b=some u):=fun b u e=>by
   unfold fK at e
   split at e
   ·rename_i q hq;cases e;exact .inl ⟨q,hq,rfl⟩
   ·exact .inr ⟨hA b (by rw[e];simp),e⟩
  have nB:∀ {b:Addr}{o:Obj},s₁.heap.get? b=some o->fK K h0 b=none->(wa s₁.heap (fK K h0)).get? b=some o:=fun e n=>IB e n
  have noA:∀ {b:Addr}{o:Obj},s₁.heap.get? b=some o->(∀vs n,o.data≠.seq vs n)->(∀vs,o.data≠.fields vs)->fK K h0 b=none:=fun {b o} e d d2=>by
   cases q:fK K h0 b with
   | none=>rfl
   | some u =>
    rcases look b u q with ⟨q',z,_⟩|⟨z,_⟩
    ·rw[(tabAt b q' z).1] at e;cases e;exact absurd rfl (d2 _)
    ·subst z;rw[ha] at e;cases e;exact absurd rfl (d _ _)
  have nsK:∀ {b:Addr}{m:Str->Option Value},s₁.heap.Ns b m->(wa s₁.heap (fK K h0)).Ns b m:=fun {b m} ⟨o,es,ep,e,d,r⟩=>⟨o,es,ep,nB e (noA e (fun _ _ z=>by rw[d] at z;cases z) fun _ z=>by rw[d] at z;cases z),d,r⟩
  have hKb:K.In (wa s₁.heap (fK K h0)):=fun b o e=>nB (KX b o e) (by
   cases q:fK K h0 b with
   | none=>rfl
   | some u =>
    rcases look b u q with ⟨q',z,_⟩|⟨z,z2⟩
    ·rw[(tabAt b q' z).2.1] at e;cases e
    ·subst z;rw[hK (by rw[z2];simp)] at e;cases e)
  have hM:Mod K mg (wa s₁.heap (fK K h0)):=⟨hKb,nsK hns,⟨mb,nsK hb,hbb⟩,let ⟨mc,h1,h2⟩:=hlim;⟨mc,nsK h1,h2⟩,
   let ⟨bm,o,b1,b2,b3,b4,b5,b6,b7⟩:=hbm;⟨bm,o,b1,b2,b3,nB b4 (noA b4 (fun _ _ z=>by rw[b7] at z;cases z) fun _ z=>by rw[b7] at z;cases z),b5,b6,b7⟩⟩
  have e0:C2 P w K mg (wa s₁.heap (fK K h0)) callerA [] s₁ (fK K h0):=⟨rfl,hM,fun b o e=>Kl e,Nat.le_of_eq (FW _ _),trivial,fun b hb=>absurd (show b∈([]:List Addr) from hb) (by simp),hok,.of_eq hg⟩
  refine jS ((F _ hKb (nsK hns)).run callerA [] s₁ (fK K h0) ⟨[.ref a],[]⟩ [.ref a] [.ref a] _ _ hr e0 (hbind s₁ (.ref a)) (.cons rfl .nil) (hsp _ (Fz ht) hS)) fun r s' h=>?_
  cases r with
  | error e=>exact (hCX _ e s' h).elim
  | ok fl =>
   cases fl with
   | next=>exact False.elim h
   | brk=>exact False.elim h
   | cont=>exact False.elim h
   | ret u =>
    obtain⟨v,H',os,bare,un,hok',r',q⟩:=h
    have q':v=.bl true:=q
    subst q'
    obtain rfl:u=Value.bool true:=r'
    have key:∀b o,s₁.heap.get? b=some o->s'.heap.get? b=some o\/(isCodeTable s₁.heap b/\o=W.tabObj #[]/\∃ps,s'.heap.get? b=some (W.tabObj ps)):=fun b o e=>by
     cases q:fK K h0 b with
     | none=>exact .inl (un.keep b o e q (by intro z;exact absurd (show b∈([]:List Addr) from z) (by simp)) (by simp))
     | some u =>
      rcases look b u q with ⟨q',z,rfl⟩|⟨z,z2⟩
      ·obtain⟨t1,_,c,t3⟩:=tabAt b q' z
       obtain⟨more,m1⟩:=un.tbls.gr b q' #[] q t1
       rw[e] at t1
       cases t1
       exact .inr ⟨(t3.tab e).isCodeTable,rfl,_,m1⟩
      ·rcases hO b with z3|⟨ob,xs,z3⟩
       ·rw[z2] at z3;cases z3
       ·rw[z2] at z3
        cases z3
        have z4:=un.frzs b ob _ q
        obtain⟨e1,_⟩:=hok b _ q
        obtain⟨e2,_⟩:=hok' b _ z4
        rw[e] at e1;cases e1
        exact .inl e2
    refine⟨rfl,⟨fun b o e=>?_,fun b o e=>?_⟩,os,bare⟩
    ·rcases key b o e with z|⟨t,rfl,ps,z⟩
     ·exact .inl z
     ·exact .inr (.inl ⟨t,rfl,#[],ps,rfl,by rw[Array.empty_append];exact z⟩)
    ·rcases key b o e with z|⟨_,_,ps,z⟩
     ·exact⟨o,z⟩
     ·exact⟨_,z⟩
 have hoT:∀ (h0:Hp) b q,(g9 K).lookup b=some q->eL P w (fK K h0) s₁.heap b (.tab q):=fun h0 b q e=>⟨#[],(tabAt b q e).1,trivial,fun pos v z=>by cases z⟩
 cases hk:K.lookup a with
 | some o =>
  have e:=KX a o hk
  rw[ha] at e
  cases e
  refine core (fun _=>none) (.inr ⟨_,vs.toArray,_,hk,rfl,rfl,rfl,by rw[zH,lenV];exact hl,by simpa using rv⟩) (fun b u z=>?_) (fun b z=>absurd rfl z) (fun z=>absurd rfl z) fun _=>.inl rfl
  unfold fK at z
  split at z
  ·rename_i q hq;cases z;exact hoT _ b q hq
  ·cases z
 | none =>
  refine core (fun b=>if b=a then some (.frz { cls:=.type "list",data:=.seq vs.toArray } (.lst (ns.map V.int))) else none) (.inl (.inr ⟨{ cls:=.type "list",data:=.seq vs.toArray },?_⟩)) (fun b u z=>?_) (fun b z=>?_) (fun _=>hk) fun b=>?_
  ·unfold fK;rw[aT];exact yL rfl
  ·unfold fK at z
   split at z
   ·rename_i q hq;cases z;exact hoT _ b q hq
   ·by_cases hb:b=a
    ·replace z:=(yL hb).symm.trans z
     cases z
     subst hb
     exact⟨ha,by rw[zD];exact hl,vs,_,rv,ha⟩
    ·replace z:=(yN hb).symm.trans z;cases z
  ·by_cases hb:b=a
   ·exact hb
   ·exact absurd (yN hb) z
  ·by_cases hb:b=a
   ·exact .inr ⟨_,_,yL hb⟩
   ·exact .inl (yN hb)
theorem JL{l:W.OpenLaw}{n k:Nat}{q:Program}{loose:List Str}{XP:(Str->Option Value)->Heap->Prop}{YP:World->Heap->Prop}{d:DefRec}{K:Params->W.Frag}{CX:World->FB}{sp:World->Sp}{x:Str}{ts:List Addr}
  (hn:l.most=some n) (hn2:n<=sizeLine) (hdf:d.params.defaults=[]) (hr:dS k callerA)
  (hY:∀ (w:World) (h:Heap),YP w h->(K w.params).In h/\∀P∈ts,h.get? P=some (W.tabObj #[])) (ht:∀w:World,n9 (K w.params) ts=true)
  (F:∀ (w:World) (mg:Str->Option Value) (fa:Addr) (h:Heap),(K w.params).In h->h.Ns mainGlobals mg->mg d.name=some (.ref fa) ->
   ∃fd:FuncData,(∀ (s:Shared) (u:Value),BindsTo s fd ⟨[u],[]⟩ [(x,u)]) /\
    ∀base:Heap,(K w.params).In base->base.Ns mainGlobals mg->ni l.prog w (K w.params) mg base (CX w) k fa fd [x] (sp w))
  (hsp:∀ (w:World) (H:Hp) (a:Addr) (ns:List Int),ns.length<=n->eX (K w.params) H->ig (K w.params) H a (ns.map V.int)->sp w [.ref a] H (fun v _=>v=.bl true) fun _ _ _=>False)
  (hCX:∀ (w:World) (H:Hp) (s:Shared) (e:Value) (s':Shared),CX w [] H s (fun _ _ _=>False) e s'->False) :
  W.WalkO q loose XP YP l.row.toRowW d [] (fun f vs=>PySem.call f vs):=by
 refine Att.attach_call hn hdf fun w s₀ s₁ mg mb fa o pm cd doc a vs ns G Y ho hd hcd hmg hobj hints hlen hg=>?_
 obtain⟨KX,hts⟩:=hY w _ Y
 obtain⟨fd,hb,hF⟩:=F w mg fa _ KX G.T.g hmg
 have hbm:QL mg s₁.heap:=by
  obtain⟨bm,ob,b1,b2,b3,b4,b5,b6⟩:=G.T.bmain
  refine⟨bm,ob,b1,b2,fun z=>?_,b3,b4,b5,b6⟩
  obtain⟨o',es,ep,e1,e2,_⟩:=G.T.g
  rw[<- z,b3] at e1
  cases e1
  rw[b6] at e2;cases e2
 exact Ey KX G.T.g G.T.b G.T.builtins G.T.nolimit hbm hg (ht w) hts hobj hints (yC hlen hn2) hr hF hb (fun H hT hS=>hsp w H a ns hlen hT hS) fun H e s'=>hCX w H s₁ e s'
end Dl
namespace SP
open PySem PySem.W PyProof.Rows
def run{α:Type}(lt:Nat->Nat->Bool):KasT α->α
 | .ret a=>a
 | .ask i j k=>run lt (k (lt i j))
theorem iM{α β:Type}(lt:Nat->Nat->Bool)(f:α->KasT β):∀t:KasT α,run lt (t.bind f)=run lt (f (run lt t))
 | .ret a=>rfl
 | .ask i j k=>by
  show run lt ((k (lt i j)).bind f)=run lt (f (run lt (k (lt i j))))
  exact iM lt f (k (lt i j))
def O3(n:Nat){α:Type}:KasT α->Prop
 | .ret _=>True
 | .ask i j k=>i < n/\j < n/\∀b,O3 n (k b)
theorem wp_run{α:Type}{n:Nat}{cmp:Nat->Nat->(Bool->Shared->Prop)->Shared->Prop}{lt:Nat->Nat->Bool}{s:Shared}(hc:∀i j C,i < n->j < n->C (lt i j) s->cmp i j C s):∀ (t:KasT α) {Q:α->Shared->Prop},O3 n t->Q (run lt t) s->t.kasWp cmp Q s
 | .ret a,Q,_,h=>h
 | .ask i j k,Q,b,h=>hc i j _ b.1 b.2.1 (wp_run hc (k (lt i j)) (b.2.2 _) h)
def rL(n:Nat){α:Type}(R:α->Prop):KasT α->Prop
 | .ret a=>R a
 | .ask i j k=>i < n/\j < n/\∀b,rL n R (k b)
theorem oJ{α β:Type}{n:Nat}{R:α->Prop}{f:α->KasT β}:∀ {t:KasT α},rL n R t->(∀a,R a->O3 n (f a))->O3 n (t.bind f)
 | .ret a,b,h=>h a b
 | .ask i j k,b,h=>⟨b.1,b.2.1,fun c=>oJ (b.2.2 c) h⟩
theorem jo{α β:Type}{n:Nat}{R:α->Prop}{S:β->Prop}{f:α->KasT β}:∀ {t:KasT α},rL n R t->(∀a,R a->rL n S (f a))->rL n S (t.bind f)
 | .ret a,b,h=>h a b
 | .ask i j k,b,h=>⟨b.1,b.2.1,fun c=>jo (b.2.2 c) h⟩
def Bd(n:Nat)(p:Array Nat):Prop:=∀a,p.getD a 0 < n
theorem Bd.perm{n:Nat}{p q:Array Nat}(h:Bd n p)(e:q.Perm p):Bd n q:=by
 intro a
 rw[qD]
 cases ha:q[a]? with
 | none=>have:=h p.size;rw[qD] at this;simpa using this
 | some x =>
  have hx:x∈q:=Array.mem_of_getElem? ha
  have hx':x∈p:=e.mem_iff.mp hx
  obtain⟨i,hi,rfl⟩:=Array.mem_iff_getElem.mp hx'
  have:=h i
  rw[qD] at this
  simpa [hi] using this
theorem Ii{n:Nat}{p:Array Nat}(h:Bd n p):∀f m,rL n (fun _=>True) (kas_asc p f m)
 | 0,m=>trivial
 | f+1,m=>⟨h _,h _,fun c=>by
  dsimp only
  split
  ·trivial
  ·exact Ii h f (m+1)⟩
theorem Aq{n:Nat}{p:Array Nat}(h:Bd n p)(i j:Nat):Bd n (kas_rev p i j):=h.perm (mirror_perm _ _ _ _)
theorem yt{n:Nat}:∀ (f:Nat) {p:Array Nat}(h:Bd n p) (m q:Nat),rL n (fun r=>Bd n r.1) (kas_desc f p m q)
 | 0,p,h,m,q=>h
 | f+1,p,h,m,q=>⟨h _,h _,fun c=>by
  dsimp only
  split
  ·split
   ·exact yt f (Aq h _ _) (m+1) 0
   ·exact yt f h (m+1) 0
  ·exact⟨h _,h _,fun d=>by
    dsimp only
    split
    ·exact h
    ·exact yt f h (m+1) (q+1)⟩⟩
theorem DQ{n:Nat}{p:Array Nat}(h:Bd n p)(m nrem:Nat):rL n (fun r=>Bd n r.2) (kas_tail3 m nrem p):=jo (Ii (Aq h 0 m) _ _) fun _ _=>Aq h 0 m
theorem sk{n:Nat}{p:Array Nat}(h:Bd n p)(m nrem:Nat):rL n (fun r=>Bd n r.2) (kas_descPart m nrem p):=jo (yt _ h _ _) fun r hr=>by
 split
 ·exact DQ (Aq hr _ _) _ _
 ·exact DQ hr _ _
theorem K4{n:Nat}{p:Array Nat}(h:Bd n p)(nrem:Nat):rL n (fun r=>Bd n r.2) (kas_count nrem p):=jo (Ii h _ _) fun m _=>by
 split
 ·exact h
 ·split
  ·exact⟨h _,h _,fun c=>by
    dsimp only
    split
    ·exact h
    ·exact sk (Aq h _ _) _ _⟩
  ·exact sk h _ _
theorem vp{n:Nat}{p:Array Nat}(h:Bd n p)(k:Nat):∀f l r,rL n (fun _=>True) (kas_place p k f l r)
 | 0,l,r=>trivial
 | f+1,l,r=>by
  unfold kas_place
  split
  ·trivial
  ·exact⟨h _,h _,fun c=>by
    dsimp only
    split
    ·exact vp h k f _ _
    ·exact vp h k f _ _⟩
theorem Mw{n:Nat}:∀ (f:Nat) {p:Array Nat}(h:Bd n p) (k:Nat),O3 n (kas_bin f p k)
 | 0,p,h,k=>trivial
 | f+1,p,h,k=>oJ (vp h k _ _ _) fun l _=>Mw f (h.perm (bubble_perm _ _ _)) (k+1)
theorem HB{n:Nat}(h1:1<=n):O3 n (kas_sort n):=by
 have h:Bd n (List.toArray (List.range n)):=fun a=>by
  rw[qD]
  by_cases ha:a < n
  ·simp[ha]
  ·simp[ha];omega
 refine oJ (K4 h n) fun r hr=>?_
 split
 ·exact Mw _ hr _
 ·trivial
section
variable (z:Nat->Int)
def Z(p:Array Nat)(a:Nat):Int:=z (p.getD a 0)
def eQ:Nat->Nat->Bool:=fun i j=>decide (z i < z j)
theorem nX{p q:Array Nat}{a b:Nat}(h:p[a]?=q[b]?):Z z p a=Z z q b:=by
 unfold Z
 rw[qD,qD,h]
theorem HX{p:Array Nat}{i j:Nat}(hj:j<=p.size)(k:Nat):Z z (kas_rev p i j) k=if i<=k/\k < j then Z z p (i+j - 1 - k) else Z z p k:=by
 have e:=getElem?_mirror_all (xs:=p) (i:=i) hj k
 unfold kas_rev
 by_cases h1:i<=k/\k < j
 ·rw[yL h1] at e ⊢;exact nX z e
 ·rw[yN h1] at e ⊢;exact nX z e
theorem GY{p:Array Nat}{src d:Nat}(hs:src < p.size)(hd:d<=src)(k:Nat):Z z (bubble p src d) k=if k=src - d then Z z p src else if src - d < k/\k<=src then Z z p (k - 1) else Z z p k:=by
 have e:=getElem?_bubble hs d hd k
 by_cases h1:k=src - d
 ·rw[yL h1] at e ⊢;exact nX z e
 ·rw[yN h1] at e ⊢
  by_cases h2:src - d < k/\k<=src
  ·rw[yL h2] at e ⊢;exact nX z e
  ·rw[yN h2] at e ⊢;exact nX z e
def Up(p:Array Nat)(n:Nat):Prop:=∀a b,a<=b->b < n->Z z p a<=Z z p b
def Dn(p:Array Nat)(n:Nat):Prop:=∀a b,a<=b->b < n->Z z p b<=Z z p a
variable {z}
theorem Kn{p:Array Nat}{n:Nat}(h:Up z p n)(hn:1<=n)(h1:Z z p (n - 1)<=Z z p n):Up z p (n+1):=by
 intro a b hab hb
 by_cases hbn:b < n
 ·exact h a b hab hbn
 ·have e:b=n:=by omega
  subst e
  by_cases ha:a=b
  ·subst ha;exact xZ _
  ·exact jU (h a (b - 1) (by omega) (by omega)) h1
theorem Rg{p:Array Nat}:∀ (f n:Nat),1<=n->Up z p n->n<=run (eQ z) (kas_asc p f n)/\run (eQ z) (kas_asc p f n)<=n+f/\Up z p (run (eQ z) (kas_asc p f n))/\(run (eQ z) (kas_asc p f n) < n+f->Z z p (run (eQ z) (kas_asc p f n)) < Z z p (run (eQ z) (kas_asc p f n) - 1))
 | 0,n,hn,h=>⟨yM _,yM _,h,fun q=>absurd q (qE _)⟩
 | f+1,n,hn,h=>by
  unfold kas_asc
  show n<=run (eQ z) (if eQ z (p.getD n 0) (p.getD (n - 1) 0)=true then .ret n else kas_asc p f (n+1))/\run (eQ z) (if eQ z (p.getD n 0) (p.getD (n - 1) 0)=true then .ret n else kas_asc p f (n+1))<=n+(f+1)/\Up z p (run (eQ z) (if eQ z (p.getD n 0) (p.getD (n - 1) 0)=true then .ret n else kas_asc p f (n+1)))/\(run (eQ z) (if eQ z (p.getD n 0) (p.getD (n - 1) 0)=true then .ret n else kas_asc p f (n+1)) < n+(f+1)->Z z p (run (eQ z) (if eQ z (p.getD n 0) (p.getD (n - 1) 0)=true then .ret n else kas_asc p f (n+1))) < Z z p (run (eQ z) (if eQ z (p.getD n 0) (p.getD (n - 1) 0)=true then .ret n else kas_asc p f (n+1)) - 1))
  by_cases hc:eQ z (p.getD n 0) (p.getD (n - 1) 0)=true
  ·rw[yL hc]
   exact⟨yM _,jV _ _,h,fun _=>yQ hc⟩
  ·rw[yN hc]
   have h1:Z z p (n - 1)<=Z z p n:=by
    have:¬ (Z z p n < Z z p (n - 1)):=fun q=>hc (zZ q)
    omega
   obtain⟨a,b,c,d⟩:=Rg f (n+1) (by omega) (Kn h hn h1)
   exact⟨by omega,by omega,c,fun q=>d (by omega)⟩
theorem CN{p:Array Nat}{i j:Nat}(hj:j<=p.size)(h:∀a b,i<=a->a < j->i<=b->b < j->Z z p a=Z z p b)(k:Nat):Z z (kas_rev p i j) k=Z z p k:=by
 rw[HX z hj]
 split
 ·rename_i hk
  exact h _ _ (by omega) (by omega) hk.1 hk.2
 ·rfl
theorem GH{p q:Array Nat}{n:Nat}(e:∀k,Z z q k=Z z p k)(h:Dn z p n):Dn z q n:=fun a b hab hb=>by rw[e,e];exact h a b hab hb
theorem Nv{p:Array Nat}{n:Nat}(hn:n<=p.size)(h:Dn z p n):Up z (kas_rev p 0 n) n:=by
 intro a b hab hb
 rw[HX z hn,HX z hn,yL ⟨xV _,by omega⟩,yL ⟨xV _,hb⟩]
 exact h _ _ (by omega) (by omega)
theorem nG(p:Array Nat)(i j:Nat):(kas_rev p i j).size=p.size:=mirror_size _ _ _ _
theorem oA(p:Array Nat)(i j:Nat):(kas_rev p i j).Perm p:=mirror_perm _ _ _ _
structure Nh(z:Nat->Int)(p₀ p:Array Nat)(n q nrem:Nat):Prop where
 perm:p.Perm p₀
 size:p.size=p₀.size
 le:n<=nrem
 qn:q+1<=n
 dn:Dn z p n
 eq:∀a b,n - (q+1)<=a->a < n->n - (q+1)<=b->b < n->Z z p a=Z z p b
theorem Lj{p₀:Array Nat}{nrem:Nat}(hz:nrem<=p₀.size):∀ (f:Nat) (p:Array Nat) (n q:Nat),n+f<=nrem->Nh z p₀ p n q nrem ->
  let r:=run (eQ z) (kas_desc f p n q);Nh z p₀ r.1 r.2.1 r.2.2 nrem
 | 0,p,n,q,hn,h=>h
 | f+1,p,n,q,hn,h=>by
  intro r
  have hr:r=run (eQ z) (if eQ z (p.getD n 0) (p.getD (n - 1) 0)=true then (if q > 0 then kas_desc f (kas_rev p (n - (q+1)) n) (n+1) 0 else kas_desc f p (n+1) 0)
   else .ask (p.getD (n - 1) 0) (p.getD n 0) fun d=>if d=true then .ret (p,n,q) else kas_desc f p (n+1) (q+1)):=rfl
  have hq:=h.qn
  by_cases hc:eQ z (p.getD n 0) (p.getD (n - 1) 0)=true
  ·rw[yL hc] at hr
   have hlt:Z z p n < Z z p (n - 1):=yQ hc
   have step:∀p':Array Nat,p'.Perm p₀->p'.size=p₀.size->(∀k,Z z p' k=Z z p k)->Nh z p₀ p' (n+1) 0 nrem:=fun p' a1 a2 a3=>by
    refine⟨a1,a2,by omega,by omega,fun a b hab hb=>?_,fun a b h1 h2 h3 h4=>by rw[show a=b by omega]⟩
    rw[a3,a3]
    by_cases hbn:b < n
    ·exact h.dn a b hab hbn
    ·have e:b=n:=by omega
     subst e
     by_cases ha:a=b
     ·subst ha;exact xZ _
     ·exact jU (Int.le_of_lt hlt) (h.dn a (b - 1) (by omega) (by omega))
   by_cases hq0:q > 0
   ·rw[yL hq0] at hr
    rw[hr]
    exact Lj hz f _ (n+1) 0 (by omega) (step _ ((oA _ _ _).trans h.perm) (by rw[nG,h.size]) (CN (by rw[h.size];omega) h.eq))
   ·rw[yN hq0] at hr
    rw[hr]
    exact Lj hz f p (n+1) 0 (by omega) (step p h.perm h.size fun _=>rfl)
  ·rw[yN hc] at hr
   have hge:Z z p (n - 1)<=Z z p n:=by
    have:¬ (Z z p n < Z z p (n - 1)):=fun q=>hc (zZ q)
    omega
   have hr':r=run (eQ z) (if eQ z (p.getD (n - 1) 0) (p.getD n 0)=true then .ret (p,n,q) else kas_desc f p (n+1) (q+1)):=hr
   by_cases hd:eQ z (p.getD (n - 1) 0) (p.getD n 0)=true
   ·rw[yL hd] at hr'
    rw[hr']
    exact h
   ·rw[yN hd] at hr'
    rw[hr']
    have heq:Z z p n=Z z p (n - 1):=by
     have:¬ (Z z p (n - 1) < Z z p n):=fun q=>hd (zZ q)
     omega
    refine Lj hz f p (n+1) (q+1) (by omega) ⟨h.perm,h.size,by omega,by omega,fun a b hab hb=>?_,fun a b h1 h2 h3 h4=>?_⟩
    ·by_cases hbn:b < n
     ·exact h.dn a b hab hbn
     ·have e:b=n:=by omega
      subst e
      by_cases ha:a=b
      ·subst ha;exact xZ _
      ·rw[heq];exact h.dn a (b - 1) (by omega) (by omega)
    ·have key:∀c,n+1 - (q+1+1)<=c->c < n+1->Z z p c=Z z p (n - 1):=fun c c1 c2=>by
      by_cases hcn:c < n
      ·exact h.eq c (n - 1) (by omega) hcn (by omega) (by omega)
      ·have e:c=n:=by omega
       subst e;exact heq
     rw[key a h1 h2,key b h3 h4]
structure QH(z:Nat->Int)(p₀:Array Nat)(nrem:Nat)(r:Nat×Array Nat):Prop where
 perm:r.2.Perm p₀
 size:r.2.size=p₀.size
 ge:1<=r.1
 le:r.1<=nrem
 up:Up z r.2 r.1
theorem tail3{p₀ p:Array Nat}{n nrem:Nat}(hz:nrem<=p₀.size)(h1:1<=n)(hn:n<=nrem)(hp:p.Perm p₀)(hs:p.size=p₀.size)(hd:Dn z p n):QH z p₀ nrem (run (eQ z) (kas_tail3 n nrem p)):=by
 unfold kas_tail3
 rw[iM]
 obtain⟨a,b,c,_⟩:=Rg (nrem - n) n h1 (Nv (by omega) hd)
 exact⟨(oA _ _ _).trans hp,by show (kas_rev p 0 n).size=_;rw[nG,hs],by show 1<=run _ (kas_asc _ _ _);omega,by show run _ (kas_asc _ _ _)<=nrem;omega,c⟩
theorem descPart{p₀ p:Array Nat}{n nrem:Nat}(hz:nrem<=p₀.size)(h1:1<=n)(hn:n < nrem)(hp:p.Perm p₀)(hs:p.size=p₀.size)(hd:Dn z p n)(hlt:Z z p n<=Z z p (n - 1)):QH z p₀ nrem (run (eQ z) (kas_descPart n nrem p)):=by
 unfold kas_descPart
 rw[iM]
 have D:=Lj (z:=z) hz (nrem - (n+1)) p (n+1) 0 (by omega) ⟨hp,hs,by omega,by omega,fun a b hab hb=>by
  by_cases hbn:b < n
  ·exact hd a b hab hbn
  ·have e:b=n:=by omega
   subst e
   by_cases ha:a=b
   ·subst ha;exact xZ _
   ·exact jU hlt (hd a (b - 1) (by omega) (by omega)),fun a b h1 h2 h3 h4=>by rw[show a=b by omega]⟩
 dsimp only at D
 generalize run (eQ z) (kas_desc (nrem - (n+1)) p (n+1) 0)=r at D
 have hq:=D.qn
 split
 ·exact tail3 hz (by omega) D.le ((oA _ _ _).trans D.perm) (by rw[nG,D.size]) (GH (CN (by have:=D.size;have:=D.le;omega) D.eq) D.dn)
 ·exact tail3 hz (by omega) D.le D.perm D.size D.dn
theorem count{p:Array Nat}{nrem:Nat}(hz:nrem<=p.size)(h1:1<=nrem):QH z p nrem (run (eQ z) (kas_count nrem p)):=by
 unfold kas_count
 rw[iM]
 obtain⟨a,b,c,d⟩:=Rg (z:=z) (p:=p) (nrem - 1) 1 (yM _) (fun x y hxy hy=>by rw[show x=y by omega];exact xZ _)
 generalize run (eQ z) (kas_asc p (nrem - 1) 1)=n at a b c d
 split
 ·exact⟨Array.Perm.refl _,rfl,a,by show n<=nrem;omega,c⟩
 ·rename_i hne
  have hlt:n < nrem:=by
   have:n≠nrem:=fun e=>hne (by simp[e])
   omega
  have hd:=d (by omega)
  split
  ·rename_i hn1
   show QH z p nrem (run (eQ z) (if eQ z (p.getD 0 0) (p.getD (n - 1) 0)=true then .ret (n,p) else kas_descPart n nrem (kas_rev p 0 n)))
   by_cases hc:eQ z (p.getD 0 0) (p.getD (n - 1) 0)=true
   ·rw[yL hc]
    exact⟨Array.Perm.refl _,rfl,a,by show n<=nrem;omega,c⟩
   ·rw[yN hc]
    have hge:Z z p (n - 1)<=Z z p 0:=by
     have:¬ (Z z p 0 < Z z p (n - 1)):=fun q=>hc (zZ q)
     omega
    have all:∀x,x < n->Z z p x=Z z p 0:=fun x hx=>by
     have e1:=c 0 x (xV _) hx
     have e2:=c x (n - 1) (by omega) (by omega)
     omega
    have same:=CN (z:=z) (p:=p) (i:=0) (j:=n) (by omega) fun x y _ hx _ hy=>by rw[all x hx,all y hy]
    refine descPart hz (by omega) hlt (oA _ _ _) (by rw[nG]) (fun x y hxy hy=>?_) ?_
    ·rw[same,same,all x (by omega),all y hy];exact xZ _
    ·rw[same,same];omega
  ·exact descPart hz (by omega) hlt (Array.Perm.refl _) rfl (fun x y hxy hy=>by rw[show x=y by omega];exact xZ _) (by omega)
theorem place{p:Array Nat}{k:Nat}(hu:Up z p k):∀ (f l r:Nat),r - l<=f->l<=r->r<=k->(∀a,a < l->Z z p a<=Z z p k)->(∀a,r<=a->a < k->Z z p k<=Z z p a) ->
  let m:=run (eQ z) (kas_place p k f l r);m<=k/\(∀a,a < m->Z z p a<=Z z p k)/\(∀a,m<=a->a < k->Z z p k<=Z z p a)
 | 0,l,r,hf,hl,hr,h1,h2=>by
  intro m
  have e:l=r:=by omega
  subst e
  exact⟨hr,h1,h2⟩
 | f+1,l,r,hf,hl,hr,h1,h2=>by
  intro m
  have hm:m=run (eQ z) (if l >= r then .ret l else .ask (p.getD k 0) (p.getD ((l+r) / 2) 0) fun c=>if c=true then kas_place p k f l ((l+r) / 2) else kas_place p k f ((l+r) / 2+1) r):=rfl
  by_cases hlr:l >= r
  ·rw[yL hlr] at hm
   rw[hm]
   have e:l=r:=by omega
   subst e
   exact⟨hr,h1,h2⟩
  ·rw[yN hlr] at hm
   have hm':m=run (eQ z) (if eQ z (p.getD k 0) (p.getD ((l+r) / 2) 0)=true then kas_place p k f l ((l+r) / 2) else kas_place p k f ((l+r) / 2+1) r):=hm
   by_cases hc:eQ z (p.getD k 0) (p.getD ((l+r) / 2) 0)=true
   ·rw[yL hc] at hm'
    rw[hm']
    have hlt:Z z p k < Z z p ((l+r) / 2):=yQ hc
    exact place hu f l ((l+r) / 2) (by omega) (by omega) (by omega) h1 fun a ha hak=>jU (Int.le_of_lt hlt) (hu _ a ha hak)
   ·rw[yN hc] at hm'
    rw[hm']
    have hge:Z z p ((l+r) / 2)<=Z z p k:=by
     have:¬ (Z z p k < Z z p ((l+r) / 2)):=fun q=>hc (zZ q)
     omega
    exact place hu f ((l+r) / 2+1) r (by omega) (by omega) hr (fun a ha=>jU (hu a ((l+r) / 2) (by omega) (by omega)) hge) h2
theorem bin{p₀:Array Nat}:∀ (f:Nat) (p:Array Nat) (k:Nat),p.Perm p₀->p.size=p₀.size->k+f<=p₀.size->Up z p k ->
  (run (eQ z) (kas_bin f p k)).Perm p₀/\(run (eQ z) (kas_bin f p k)).size=p₀.size/\Up z (run (eQ z) (kas_bin f p k)) (k+f)
 | 0,p,k,hp,hs,hk,hu=>⟨hp,hs,hu⟩
 | f+1,p,k,hp,hs,hk,hu=>by
  unfold kas_bin
  rw[iM]
  have P:=place hu k 0 k (by omega) (by omega) (yM _) (fun a ha=>absurd ha (vT _)) fun a ha hak=>absurd ha (by omega)
  dsimp only at P
  generalize run (eQ z) (kas_place p k k 0 k)=l at P
  obtain⟨p1,p2,p3⟩:=P
  have zb:=GY z (p:=p) (src:=k) (d:=k - l) (by omega) (by omega)
  have e:k - (k - l)=l:=by omega
  rw[e] at zb
  obtain⟨q1,q2,q3⟩:=bin f (bubble p k (k - l)) (k+1) ((bubble_perm _ _ _).trans hp) (by rw[bubble_size,hs]) (by omega) fun a b hab hb=>by
   rw[zb,zb]
   by_cases ha1:a=l
   ·rw[yL ha1]
    by_cases hb1:b=l
    ·rw[yL hb1];exact xZ _
    ·rw[yN hb1]
     rw[yL (by omega)]
     exact p3 _ (by omega) (by omega)
   ·rw[yN ha1]
    by_cases hb1:b=l
    ·rw[yL hb1,yN (by omega)]
     exact p2 a (by omega)
    ·rw[yN hb1]
     by_cases ha2:l < a/\a<=k
     ·rw[yL ha2,yL (by omega)]
      exact hu _ _ (by omega) (by omega)
     ·rw[yN ha2]
      by_cases hb2:l < b/\b<=k
      ·rw[yL hb2]
       exact hu _ _ (by omega) (by omega)
      ·rw[yN hb2]
       exact hu _ _ hab (by omega)
  exact⟨q1,q2,by rw[show k+(f+1)=k+1+f by omega];exact q3⟩
theorem jb{n:Nat}(h1:1<=n):(run (eQ z) (kas_sort n)).toList.Perm (List.range n)/\((run (eQ z) (kas_sort n)).toList.map z).Pairwise (·<=·):=by
 have hsz:(List.toArray (List.range n)).size=n:=by simp
 have C:=count (z:=z) (p:=List.toArray (List.range n)) (nrem:=n) (by omega) h1
 have fin:∀p:Array Nat,p.Perm (List.toArray (List.range n))->p.size=n->Up z p n->p.toList.Perm (List.range n)/\(p.toList.map z).Pairwise (·<=·):=fun p a b c=>by
  refine⟨by have:=a.toList;simpa using this,?_⟩
  rw[List.pairwise_iff_getElem]
  intro i j hi hj hij
  have hi':i < n:=by simpa [b] using hi
  have hj':j < n:=by simpa [b] using hj
  have:=c i j (jT hij) hj'
  unfold Z at this
  have e1:p.getD i 0=p[i]:=by simp[Array.getD,b,hi']
  have e2:p.getD j 0=p[j]:=by simp[Array.getD,b,hj']
  rw[e1,e2] at this
  simpa using this
 unfold kas_sort
 rw[iM]
 generalize run (eQ z) (kas_count n (List.toArray (List.range n)))=r at C
 obtain⟨k,p⟩:=r
 have hs:=C.size
 rw[hsz] at hs
 split
 ·rename_i hlt
  have hge:=C.ge
  have e:max k 1=k:=by have:1<=k:=hge;omega
  rw[e]
  obtain⟨q1,q2,q3⟩:=bin (z:=z) (n - k) p k C.perm C.size (by rw[hsz];have:k < n:=hlt;omega) C.up
  refine fin _ q1 (by rw[q2,hsz]) ?_
  rw[show k+(n - k)=n by have:k < n:=hlt;omega] at q3
  exact q3
 ·rename_i hnlt
  have hle:=C.le
  have e:k=n:=by have h3:k<=n:=hle;have h4:¬ k < n:=hnlt;omega
  subst e
  exact fin p C.perm hs C.up
end
end SP
namespace Srt
open PySem PySem.W PySem.Calls PyProof.Rows
def outV(z:Nat->Int)(vs:List Value):List Value:=if vs.length < 2 then vs else (SP.run (SP.eQ z) (kas_sort vs.length)).toList.map fun i=>vs.getD i Value.none
theorem outV_len(z:Nat->Int)(vs:List Value):(outV z vs).length=vs.length:=by
 unfold outV
 split
 ·rfl
 ·rename_i h
  have:=(SP.jb (z:=z) (n:=vs.length) (by omega)).1.length_eq
  simpa using this
section
variable {prog:Program}{w:World}{A:Around}{E:Value->Shared->Prop}{s:Shared}
theorem list_sortG{a:Addr}{vs:List Value}{n:Nat}{P:PySem.Fin->Shared->Prop}(ho:s.heap.get? a=some (seqObj "list" vs.toArray n))(h64:vs.length < 64)(z:Nat->Int)(κ:SortKind)
  (hk:2<=vs.length->∀h':Heap,(∀b o,b≠a->s.heap.get? b=some o->h'.get? b=some o)->∀Q':SortKind->Shared->Prop,Q' κ { s with heap:=h' }->wpAny (model prog w) A (keyKind' vs.toArray) Q' (fun _ _=>False) { s with heap:=h' })
  (hlt:2<=vs.length->∀h':Heap,(∀b o,b≠a->s.heap.get? b=some o->h'.get? b=some o)->∀i j C,i < vs.length->j < vs.length->C (SP.eQ z i j) { s with heap:=h' }->kas_ask prog w A κ vs i j C { s with heap:=h' })
  (h:∀ (h':Heap) (c:Nat),(∀b o,b≠a->s.heap.get? b=some o->h'.get? b=some o)->h'.get? a=some (seqObj "list" (outV z vs).toArray c)->P (.done (.ret .none)) { s with heap:=h' }) :
  wpAny (model prog w) A (Builtin.«list.sort» ⟨[.ref a],[]⟩) P E s:=by
 rw[list_sort_plain]
 have ha:a < s.heap.objs.size:=zX ho
 have hsl:vs.length<=sizeLine:=by rw[qU];omega
 refine zU (vN ho rfl (zU (kC ho rfl ?_ (by simpa using hsl) (xV _))))
 obtain⟨e1,ho1⟩:∃e,(s.heap.update a (Obj.mapSeq fun _=>(#[]:Array Value))).get? a=some (seqObj "list" #[] e):=⟨_,kE ho fun _=>#[]⟩
 have kp1:∀b o,b≠a->s.heap.get? b=some o->(s.heap.update a (Obj.mapSeq fun _=>(#[]:Array Value))).get? b=some o:=fun b o hb e=>(xN _ _ (jN hb)).trans e
 refine zU (seqEpoch_at ho1 rfl (zU (wpAny_newTuple ?_ (by simpa using hsl))))
 refine zU (kR (xX ?_) (xV _))
 have ho3:(((s.heap.update a (Obj.mapSeq fun _=>(#[]:Array Value))).push (seqObj "tuple" vs.toArray 0)).push (seqObj "list" #[] 0)).get? a=some (seqObj "list" #[] e1):=zT _ (zT _ ho1)
 have kp3:∀b o,b≠a->s.heap.get? b=some o->(((s.heap.update a (Obj.mapSeq fun _=>(#[]:Array Value))).push (seqObj "tuple" vs.toArray 0)).push (seqObj "list" #[] 0)).get? b=some o:=fun b o hb e=>zT _ (zT _ (kp1 b o hb e))
 show wpAny _ A _ P E { s with heap:=((s.heap.update a (Obj.mapSeq fun _=>(#[]:Array Value))).push (seqObj "tuple" vs.toArray 0)).push (seqObj "list" #[] 0) }
 generalize ((s.heap.update a (Obj.mapSeq fun _=>(#[]:Array Value))).push (seqObj "tuple" vs.toArray 0)).push (seqObj "list" #[] 0)=h3 at ho3 kp3
 clear ho1 kp1
 dsimp only
 have fin:∀st':SortSt,(arrOf st').map (·.2)=(outV z vs).toArray->failedOf st'=none ->
   wpAny (model prog w) A (do
    let sorted:=(arrOf st').map (·.2)
    let touched:=(<- seqEpoch a) != e1
    Builtin.List.listUpdate (.ref a) fun _=>sorted
    if let some e:=failedOf st' then rule "list.sort.comparison-raised";throw e
    if touched then rule "list.sort.modified";raiseError "ValueError" "list modified during sort"
    ret .none) P E { s with heap:=h3 }:=fun st' h1 h2=>by
  dsimp only
  rw[h1,h2]
  refine zU (seqEpoch_at ho3 rfl ?_)
  refine zU (kC ho3 rfl ?_ (xV _) (by show (outV z vs).toArray.size<=_;rw[zH,outV_len];omega))
  obtain⟨c,hc⟩:∃c,(h3.update a (Obj.mapSeq fun _=>(outV z vs).toArray)).get? a=some (seqObj "list" (outV z vs).toArray c):=⟨_,kE ho3 fun _=>(outV z vs).toArray⟩
  have q:=h _ c (fun b o hb e=>(xN _ _ (jN hb)).trans (kp3 b o hb e)) hc
  simp only[bne_self_eq_false,yO,qP]
  exact zV q
 by_cases h2:vs.toArray.size < 2
 ·rw[yL h2,yL h2]
  refine zU (zV ?_)
  rw[StateT.run_pure]
  refine zU (zV (fin _ ?_ rfl))
  have h2':vs.length < 2:=by simpa using h2
  unfold outV
  rw[yL h2']
  show ((vs.toArray.zip vs.toArray).map (·.2))=vs.toArray
  apply Array.toList_inj.mp
  simp only[Array.toList_map,Array.toList_zip]
  exact List.map_snd_zip (yM _)
 ·rw[yN h2,yN h2]
  have h2':2<=vs.length:=by
   have:¬ vs.length < 2:=by simpa using h2
   omega
  refine zU (xA (hk h2' h3 kp3 (fun κ' s'=>κ'=κ/\s'={ s with heap:=h3 }) ⟨rfl,rfl⟩) (fun κ' s' hs=>?_) fun _ _ x=>x.elim)
  obtain⟨rfl,rfl⟩:=hs
  refine zU (xA (kat_run (Q:=fun st' s'=>s'={ s with heap:=h3 }/\(arrOf st').map (·.2)=(outV z vs).toArray/\failedOf st'=none) (G:=fun p s'=>s'={ s with heap:=h3 }/\p=SP.run (SP.eQ z) (kas_sort vs.length))
   rfl h2' h64 (fun p st' s' a1 a2 a3 a4=>⟨a4.1,?_,a3⟩) (SP.wp_run (hlt h2' h3 kp3) (kas_sort vs.length) (SP.HB (by omega)) ⟨rfl,rfl⟩)) ?_ fun _ _ e=>e)
  ·rw[kat_snds rfl a2,a4.2]
   unfold outV
   rw[yN (by omega)]
  ·rintro⟨⟨⟩,st'⟩ s' ⟨hs,h4,h5⟩
   subst hs
   exact fin st' h4 h5
def Coll(h:Heap)(l:Addr)(vs:List Value):Prop:=∃ (o:Obj) (T:String) (n:Nat),(T="list"\/T="tuple")/\h.get? l=some o/\o.cls=.type T/\o.data=.seq vs.toArray n
theorem collectC{l:Addr}{vs:List Value}{Q:List Value->Shared->Prop}(hl:Coll s.heap l vs)
  (h:Q vs { s with heap:=(s.heap.push (seqObj "list" #[] 0)).update s.heap.objs.size (Obj.mapSeq (·++vs.toArray)) }) (hsz:vs.length<=sizeLine):wpAny (model prog w) A (collect (.ref l)) Q E s:=by
 obtain⟨o,T,n,hT,ho,hc,hd⟩:=hl
 unfold collect
 refine zU (wpAny_runValue (kF entry_proto_collect' ?_))
 show wpAny _ _ (do again (.builtin "list.__iadd__" ⟨[<- newList [],.ref l],[]⟩)) _ _ s
 refine zU (kR (zV ⟨wQ _ (by decide +kernel),kF entry_list_iadd' ?_⟩))
 show wpAny _ _ (Builtin.List.listExtendWith (.ref s.heap.objs.size) (.ref l) (.ref s.heap.objs.size)) _ _ { s with heap:=s.heap.push (seqObj "list" #[] 0) }
 unfold Builtin.List.listExtendWith
 have ho':(s.heap.push (seqObj "list" #[] 0)).get? l=some o:=zT _ ho
 refine zU (wU (T:=T) ⟨o,ho',hc⟩ ?_)
 rw[yL (by rcases hT with rfl|rfl<;>simp)]
 refine zU (vN ho' hd (zU (vN (xs:=#[]) (n:=0) (zW _ rfl) rfl ?_)))
 rw[yN (by simp)]
 refine zU (kC (xs:=#[]) (n:=0) (zW _ rfl) rfl ?_ (xV _) (by show (#[]++vs.toArray).size<=sizeLine+1;simp only[Array.size_append,zH,xK];omega))
 refine zV ?_
 refine zU (wpAny_load (kE (zW _ rfl) _) ?_)
 show wpAny _ _ (pure ((#[]:Array Value)++vs.toArray).toList) Q E _
 rw[show ((#[]:Array Value)++vs.toArray).toList=vs by simp]
 exact zV h
theorem sortedG{l:Addr}{vs:List Value}{Q:Value->Shared->Prop}(hl:Coll s.heap l vs)(h64:vs.length < 64)(z:Nat->Int)(κ:SortKind)
  (hk:2<=vs.length->∀h':Heap,(∀b o,s.heap.get? b=some o->h'.get? b=some o)->∀Q':SortKind->Shared->Prop,Q' κ { s with heap:=h' }->wpAny (model prog w) A.in1.in1 (keyKind' vs.toArray) Q' (fun _ _=>False) { s with heap:=h' })
  (hlt:2<=vs.length->∀h':Heap,(∀b o,s.heap.get? b=some o->h'.get? b=some o)->∀i j C,i < vs.length->j < vs.length->C (SP.eQ z i j) { s with heap:=h' }->kas_ask prog w A.in1.in1 κ vs i j C { s with heap:=h' })
  (h:∀ (h':Heap) (D:Addr) (c:Nat),(∀b o,s.heap.get? b=some o->h'.get? b=some o)->s.heap.objs.size<=D->h'.get? D=some (seqObj "list" (outV z vs).toArray c)->Q (.ref D) { s with heap:=h' }) :
  wpAny (model prog w) A (call (.builtin "sorted") [.ref l]) Q E s:=by
 have hsl:vs.length<=sizeLine:=by rw[qU];omega
 refine Calls.call_function_entry kind_sorted plain_sorted entry_sorted (args_sorted1 _) ?_
 unfold Builtin.«sorted»
 refine zU (m:=checkCount "sorted" 1 1 _) (zV (zU (collectC hl ?_ hsl)))
 refine zU (kR ?_ (by simpa using hsl))
 have hsz:((s.heap.push (seqObj "list" #[] 0)).update s.heap.objs.size (Obj.mapSeq (·++vs.toArray))).objs.size=s.heap.objs.size+1:=by rw[Heap.size_update,size_push']
 have kp:∀b o,s.heap.get? b=some o->(((s.heap.push (seqObj "list" #[] 0)).update s.heap.objs.size (Obj.mapSeq (·++vs.toArray))).push (seqObj "list" vs.toArray 0)).get? b=some o:=fun b o e =>
  zT _ ((xN _ _ (jI (zX e))).trans (zT _ e))
 have hoD:(((s.heap.push (seqObj "list" #[] 0)).update s.heap.objs.size (Obj.mapSeq (·++vs.toArray))).push (seqObj "list" vs.toArray 0)).get? (s.heap.objs.size+1)=some (seqObj "list" vs.toArray 0):=by
  rw[<- hsz];exact zW _ rfl
 show wpAny _ _ _ _ _ { s with heap:=((s.heap.push (seqObj "list" #[] 0)).update s.heap.objs.size (Obj.mapSeq (·++vs.toArray))).push (seqObj "list" vs.toArray 0) }
 rw[hsz]
 generalize ((s.heap.push (seqObj "list" #[] 0)).update s.heap.objs.size (Obj.mapSeq (·++vs.toArray))).push (seqObj "list" vs.toArray 0)=h1 at kp hoD
 have kk:∀h':Heap,(∀b o,b≠s.heap.objs.size+1->h1.get? b=some o->h'.get? b=some o)->∀b o,s.heap.get? b=some o->h'.get? b=some o:=fun h' q b o e=>q b o (yR (jO (zX e))) (kp b o e)
 refine zU (xX (qV slot_list_sort ⟨_,hoD,rfl⟩ entry_list_sort (list_sortG hoD h64 z κ (fun a h' q=>hk a h' (kk h' q)) (fun a h' q=>hlt a h' (kk h' q)) fun h' c q e=>⟨_,rfl,?_⟩) (args_list_sort _)))
 exact zV ⟨_,rfl,h h' _ c (kk h' q) (by omega) e⟩
end
end Srt
namespace Dl
open PySem L2 PySem.Spec PyProof.Rows
section
variable {X:Cx}{HF₀ H₀:Hp}{e e2:Expr}{es:List Expr}{pos apos cpos px p:Pos}{x:Str}{fs:Env->Option (List D)}
def Ew(i:Nat)(fz:List Nat)(f:Env->Option (List D)):ar->Option Out:=fun ρ=>(f (bZ (hand fz 0 ρ))).bind fun us=>sS i (fun ds=>if ds.length+us.length<=sizeLine then some (ds++us) else none) (hand fz 0 ρ)
theorem E9(i:Nat)(fz:List Nat){f:Env->Option (List D)}(hN:X.N[i]?=some x)(hv:Lx X.env.scope x)(h:DF X e f)(hd:(x == ("__debug__":Str))=false:=by decide)(hcd:(x == ("__classdict__":Str))=false:=by decide)
  (hfew:((backTo cpos (starEach [e] X.env)).all (fun x=>!x.1)&&(backToKw cpos (keywordEach [] X.env)).all (fun x=>x.1.isSome)&&decide ([e].length+([]:List Keyword).length+(if ([]:List Keyword).isEmpty then 0 else 1) < 30))=true:=by rfl)
  (hline:(apos.endLine == cpos.line)=true:=by rfl) (hs:starEach [e] X.env=(false,eval e X.env)::starEach [] X.env:=by rfl) :
  DS X HF₀ H₀ (.Expr (.Call (.Attribute (.Name x px) "extend" apos) [e] [] cpos) pos) (Ew i fz f) :=
 cD (nu (rA qN PySem.F.slot_list_extend PySem.F.type_list_extend F0 (lL hN hv hd hcd) (bM h dP hs) rfl hfew hline hs rfl)) fun E σ H ⟨HF,ρ,o,S,hg,q⟩=>by
  obtain⟨us,h1,hg⟩:=bs hg
  obtain⟨ds,es,h2,h3,rfl⟩:=l9 hg
  obtain⟨HF1,s1,S1⟩:=S.hand fz
  obtain⟨a,vs,e1,e2,e3,e5,e4⟩:=S1.own i ds h2
  refine⟨.ref a,e1,.inl ⟨rfl,vs,ig.of e2⟩,HF1,_,us,S1.gr.fh,S1.frz,h1,fun b ws H' HF' G hb hf h' r=>?_⟩
  have S2:=S1.grow G
  obtain⟨a',vs',f1,f2,f3,f5,f4⟩:=S2.own i ds h2
  rw[e1] at f1;cases f1
  split at h3
  ·rename_i hz
   cases h3
   exact⟨a,b,vs',ws,rfl,rfl,f2,h',by rw[f4.length,r.length];exact hz,q σ _ HF' (S2.mut h2 e1 f2 (f4.append r)) (s1.trans G.ff)⟩
  ·cases h3
def Ed(ds:List D)(k:Int)(d:D):List D:=let j:=if k < 0 then (k+(ds.length:Int)).toNat else min k.toNat ds.length;ds.take j++d::ds.drop j
def LK:V->List V->Hp->VK->Prop:=fun x vs H Q=>∃l xs k y,x=.ref l/\vs=[.int k,y]/\H l=some (.lst xs)/\xs.length < sizeLine/\-(2 ^ 62)<=k/\k < 2 ^ 62 /\
 Q .non (upd H l (.lst (xs.take (if k < 0 then (k+(xs.length:Int)).toNat else min k.toNat xs.length)++y::xs.drop (if k < 0 then (k+(xs.length:Int)).toNat else min k.toNat xs.length))))
theorem Fk:MH X "list.insert" LK:=by
 intro pins s σ H x vs v us Q I rx rv h
 obtain⟨l,xs,k,y,rfl,rfl,hH,hz,k1,k2,q⟩:=h
 cases rx
 obtain⟨u1,u2,rfl,⟨t,rfl⟩,ru⟩:=L2.aQ.two rv
 obtain⟨z,its,n,r,hl,e⟩:=I.lstM hH
 have hfit:¬(!Builtin.List.listFitsIndex k)=true:=by
  have:Builtin.List.listFitsIndex k=true:=by
   unfold Builtin.List.listFitsIndex
   simp only[zF,zJ]
   omega
  rw[this];simp
 refine qX F.slot_list_insert ⟨_,e,rfl⟩ F.entry_list_insert (F.args_list_insert_3 _ _ _) (AutoListH.list_insert_list_int_val_1 l its.toArray n k t u2 hfit (by rw[zH];omega)) ⟨e,?_⟩
 have hlen:its.length=xs.length:=hl.symm
 refine⟨.non,_,I.lset (its':=its.take (if k < 0 then (k+(xs.length:Int)).toNat else min k.toNat xs.length)++u2::its.drop (if k < 0 then (k+(xs.length:Int)).toNat else min k.toNat xs.length)) hH e ?_ ((r.take _).append (.cons ru (r.drop _))) ?_,rfl,q⟩
 ·dsimp only
  rw[zH,hlen]
  apply Array.toList_inj.mp
  simp
  exact kL (by rw[qH,hlen];exact yM _)
 ·rw[zN,zL,jW,qH]
  omega
def HY(i:Nat)(fz:List Nat)(fk f:Env->Option D):ar->Option Out:=fun ρ=>(fk (aJ ρ)).bind fun kd=>match kd with
 | .int k=>(pF fz f ρ).bind fun p=>sS i (fun ds=>if Aa k=true/\ds.length < sizeLine then some (Ed ds k p.1) else none) p.2
 | _=>none
theorem FL(i:Nat)(fz:List Nat){fk f:Env->Option D}(hN:X.N[i]?=some x)(hv:Lx X.env.scope x)(hk:DE X e fk)(h:DE X e2 f)(hd:(x == ("__debug__":Str))=false:=by decide)(hcd:(x == ("__classdict__":Str))=false:=by decide)
  (hfew:((backTo cpos (starEach [e,e2] X.env)).all (fun x=>!x.1)&&(backToKw cpos (keywordEach [] X.env)).all (fun x=>x.1.isSome)&&decide ([e,e2].length+([]:List Keyword).length+(if ([]:List Keyword).isEmpty then 0 else 1) < 30))=true:=by rfl)
  (hline:(apos.endLine == cpos.line)=true:=by rfl) (hs:starEach [e,e2] X.env=(false,eval e X.env)::starEach [e2] X.env:=by rfl) (hs2:starEach [e2] X.env=(false,eval e2 X.env)::starEach [] X.env:=by rfl) :
  DS X HF₀ H₀ (.Expr (.Call (.Attribute (.Name x px) "insert" apos) [e,e2] [] cpos) pos) (HY i fz fk f) :=
 cD (nu (rA qN PySem.F.slot_list_insert PySem.F.type_list_insert Fk (lL hN hv hd hcd) (bM hk (bM h dP hs2) hs) rfl hfew hline hs (by rw[hs2];rfl))) fun E σ H ⟨HF,ρ,o,S,hg,q⟩=>by
  obtain⟨kd,hkd,hg⟩:=bs hg
  cases kd<;>try cases hg
  rename_i k
  obtain⟨⟨d,ρ'⟩,h1,hg⟩:=bs hg
  obtain⟨ds,es,h2,h3,rfl⟩:=l9 hg
  have hown:∃ds',ρ[i]?=some (.own ds'):=by
   obtain⟨d1,_,h1⟩:=bs h1
   split at h1
   ·cases h1;exact⟨ds,h2⟩
   ·obtain⟨d2,_,h1⟩:=ag h1
    cases h1
    rw[iG] at h2
    obtain⟨s,hs,h2⟩:=ag h2
    cases s with
    | non=>split at h2<;>cases h2
    | val _=>split at h2<;>cases h2
    | own xs=>exact⟨xs,hs⟩
  obtain⟨ds',hown⟩:=hown
  obtain⟨a,vs,e1,e2,e3,e5,e4⟩:=S.own i ds' hown
  refine⟨.ref a,e1,.inl ⟨rfl,vs,ig.of e2⟩,H,aJ ρ,_,.refl _,S.all,hkd,fun vk Hk HFk Gk rk=>?_⟩
  simp only[Rep] at rk
  subst rk
  refine oF (S.step Gk.hh) h1 fun v H' HF' s1 S' sh r=>?_
  obtain⟨a',vs',f1,f2,f3,f5,f4⟩:=S'.own i ds h2
  rw[e1] at f1;cases f1
  split at h3
  ·rename_i hz
   cases h3
   have ok:=hz.1
   unfold Aa at ok
   rw[zF] at ok
   refine⟨a,vs',k,v,rfl,rfl,f2,by rw[f4.length];exact hz.2,yQ ok.1,yQ ok.2,q σ _ HF' (S'.mut h2 e1 f2 ?_) s1⟩
   unfold Ed
   rw[f4.length]
   exact (f4.take _).append (aw.cons r (f4.drop _))
  ·cases h3
def uN:D->D->Option (List D)
 | .list xs,.list ys=>small (xs++ys)
 | _,_=>none
def Je(K:W.Frag):R2:=fun x y H Q=>∃a b xs ys,x=.ref a/\y=.ref b/\ig K H a xs/\ig K H b ys/\xs.length+ys.length<=sizeLine/\∀p,H p=none->Q (.ref p) (upd H p (.lst (xs++ys)))
theorem rR:iw X (binaryOp .Add) (Je X.K):=by
 intro pins s σ H x y v u Q I rx ry h
 obtain⟨a,b,xs,ys,rfl,rfl,ha,hb,hz,q⟩:=h
 cases rx
 cases ry
 obtain⟨its,r1,p1,_⟩:=I.list ha
 obtain⟨its2,r2,p2,_⟩:=I.list hb
 obtain⟨⟨cls,dd,data,sl⟩,ho,hc,n,hd⟩:=id p1.isList
 obtain⟨⟨cls2,dd2,data2,sl2⟩,ho2,hc2,n2,hd2⟩:=id p2.isList
 simp only at hc hd hc2 hd2
 subst hc hd hc2 hd2
 refine wW ⟨_,ho,rfl⟩ ⟨_,ho2,rfl⟩ noFill_list_add seq_list_add PySem.F.slot_list_add PySem.F.entry_list_add (PySem.F.args_list_add_2 _ _) (list_addW a b its.toArray its2.toArray n n2 dd dd2 sl sl2 (by rw[zH,zH,<- r1.length,<- r2.length];exact hz)) ⟨ho,ho2,?_⟩
 have e:its.toArray++its2.toArray=(its++its2).toArray:=by simp
 rw[e]
 exact⟨.ref s.heap.objs.size,_,I.lnew (t':=s.toks) (r1.append r2) (by rw[zN];exact hz),rfl,q _ I.fresh⟩
def Sn(g:D->D->Option (List D))(f1 f2:Env->Option D):Env->Option (List D):=fun ρ=>(f1 ρ).bind fun x=>(f2 ρ).bind fun y=>g x y
theorem Nn{a b:Expr}{fa fb:Env->Option D}(ha:DE X a fa)(hb:DE X b fb):DF X (.BinOp a .Add b pos) (Sn uN fa fb):=bf (C9 rR ha hb) fun σ H Q ⟨HF,ρ,d,sm,eo,hf,q⟩=>by
 obtain⟨x,hx,hf⟩:=bs hf
 obtain⟨y,hy,hg⟩:=bs hf
 refine⟨HF,ρ,x,sm,eo,hx,fun v1 H1 HF1 g1 r1=>⟨HF1,ρ,y,g1.fh,eo.mono g1.ff,hy,fun v2 H2 HF2 g2 r2=>?_⟩⟩
 have r1:=r1.mono g2.ff
 cases x<;>cases y<;>simp only[uN] at hg<;>try cases hg
 rename_i xs ys
 obtain⟨rfl,hz⟩:=eS hg
 simp only[Rep] at r1 r2
 obtain⟨a,vs,rfl,ha,ra⟩:=r1
 obtain⟨b,us,rfl,hb,rb⟩:=r2
 have G:=g1.trans g2
 exact⟨a,b,vs,us,rfl,rfl,g2.fh.seq ha,g2.fh.seq hb,by rw[ra.length,rb.length,<- zN];exact hz,fun p hp=>q p _ _ HF2 (G.trans (.own G.fh hp)) (G.hh.free hp) (G.fh.free hp) aC (ra.append rb)⟩
def boolsOf:List D->Option (List Bool)
 | []=>some []
 | .bool b::r=>(boolsOf r).map (b::·)
 | _::_=>none
theorem jc:∀ {ds:List D}{bs:List Bool},boolsOf ds=some bs->ds=bs.map PyData.bool
 | [],bs,h=>by cases h;rfl
 | d::r,bs,h=>by
  cases d<;>simp only[boolsOf] at h<;>try cases h
  obtain⟨bs',h1,rfl⟩:=ag h
  rw[jc h1]
  rfl
theorem eO{K:W.Frag}{H:Hp}:∀ {bs:List Bool}{vs:List V},aw K H (bs.map PyData.bool) vs->vs=bs.map V.bl
 | [],vs,h=>h.nil_inv
 | b::bs,vs,h=>by
  obtain⟨v,r,rfl,a,c⟩:=h.cons_inv
  simp only[Rep] at a
  rw[a,eO c]
  rfl
theorem mR:∀ {bs:List Bool}{us:List Value},aQ (bs.map V.bl) us->us=bs.map Value.bool
 | [],us,h=>by cases h;rfl
 | b::bs,us,h=>by
  cases h with
  | cons r rr=>cases r;rw[mR rr];rfl
theorem range_all(bs:List Bool):(List.range bs.length).all (fun i=>bs.getD i false)=bs.all id:=by
 induction bs with
 | nil=>rfl
 | cons b bs ih=>rw[zL,vP,xS,List.all_map,xS];simpa [Za] using jC (b&&·) ih
theorem range_any(bs:List Bool):(List.range bs.length).any (fun i=>bs.getD i false)=bs.any id:=by
 induction bs with
 | nil=>rfl
 | cons b bs ih=>rw[zL,vP,List.any_cons,List.any_map,List.any_cons];simpa [Za] using jC (b||·) ih
theorem BC(hc:X.calm=true):eK X (.builtin "all") (fun xs H Q=>∃ (a:Addr) (bs:List Bool),xs=[.ref a]/\ig X.K H a (bs.map V.bl)/\Q (.bl (bs.all id)) H):=by
 intro pins s σ H xs us Q I r h
 obtain⟨a,bs,rfl,hq,q⟩:=h
 obtain⟨u,rfl,rx⟩:=vals1 r
 cases rx
 obtain⟨its,rv,pl,hz⟩:=I.list hq
 have hv:=mR rv
 subst hv
 have hh:X.A.in1.handled=none:=I.ok.hd hc
 refine call_all_walk (qK pl.isList ?_)
 obtain⟨o,ho,hcl,n,hd⟩:=pl.isList
 have hne:a≠s.heap.objs.size:=yR (zX ho)
 refine⟨_,_,_,_,_,_,fun i=>bs.getD i false,rfl,Walks.list hh s.heap.objs.size a hne (bs.map Value.bool).toArray,⟨⟨_,zW _ rfl,rfl,rfl⟩,pl.isList.push _⟩,fun i v s' Q' E' hP hQ=>?_,fun h' tk kp=>?_⟩
 ·have e:v=Value.bool (bs.getD i false):=by
   have hP:(bs.map Value.bool).toArray[i]?=some v:=hP
   rw[vY,zO] at hP
   obtain⟨b,hb,rfl⟩:=ag hP
   rw[zG,hb]
   rfl
  subst e
  exact xW hQ
 ·refine⟨.bl (bs.all id),H,?_,?_,q⟩
  ·exact I.kept (t':=tk) fun b o' e=>kp b o' (by simp;exact yR (zX e)) (zT _ e)
  ·show Value.bool _=Value.bool _
   have:=range_all bs
   simp only[zH,zD]
   rw[this]
def n6:List D->Option D:=fun ds=>(oneOf ds).bind fun d=>match d with
 | .list es=>(boolsOf es).map fun bs=>.bool (bs.all id)
 | _=>none
theorem MS(hc:X.calm=true)(B:pO X "all" (.builtin "all"))(ha:DA X [e] fs)(he:starEach [e] X.env=(false,eval e X.env)::starEach [] X.env:=by rfl):DE X (.Call (.Name "all" p) [e] [] pos) (aZ n6 fs) :=
 iz (BC hc) (by
  intro HF H ds vs d Q sm r hg q
  obtain⟨x,hx,hg⟩:=bs hg
  rw[gE hx] at r
  cases x<;>try cases hg
  obtain⟨bs,hb,rfl⟩:=ag hg
  obtain⟨v,r',rfl,a,b⟩:=r.cons_inv
  rw[b.nil_inv]
  simp only[Rep] at a
  obtain⟨p,us,rfl,h,rr⟩:=a
  rw[jc hb] at rr
  have:=eO rr
  subst this
  exact⟨p,bs,rfl,sm.seq h,q _ H HF (.refl sm) (by simp[Rep])⟩) B ha (by decide) (by decide) he rfl
end
abbrev lexLt:=HT.lexLt
theorem gy:∀a:List Int,lexLt a a=false
 | []=>rfl
 | x::a=>by show HT.lexLt (x::a) (x::a)=false;rw[HT.dN,yL rfl];exact gy a
theorem eN:∀ {a b c:List Int},lexLt a b=true->lexLt b c=true->lexLt a c=true
 | [],[],_,h,_=>by cases h
 | [],_::_,[],_,h=>by cases h
 | [],_::_,_::_,_,_=>rfl
 | _::_,[],_,h,_=>by cases h
 | _::_,_::_,[],_,h=>by cases h
 | x::a,y::b,z::c,h1,h2=>by
  have h1:HT.lexLt (x::a) (y::b)=true:=h1
  have h2:HT.lexLt (y::b) (z::c)=true:=h2
  show HT.lexLt (x::a) (z::c)=true
  rw[HT.dN] at h1 h2 ⊢
  by_cases e1:x=y
  ·rw[yL e1] at h1
   by_cases e2:y=z
   ·rw[yL e2] at h2
    rw[yL (e1.trans e2)]
    exact eN h1 h2
   ·rw[yN e2] at h2
    rw[yN (by omega)]
    have:=yQ h2
    exact zZ (by omega)
  ·rw[yN e1] at h1
   have q1:=yQ h1
   by_cases e2:y=z
   ·rw[yN (by omega)]
    exact zZ (by omega)
   ·rw[yN e2] at h2
    have q2:=yQ h2
    rw[yN (by omega)]
    exact zZ (by omega)
theorem iT:∀ {a b:List Int},lexLt a b=false->lexLt b a=false->a=b
 | [],[],_,_=>rfl
 | [],_::_,h,_=>by cases h
 | _::_,[],_,h=>by cases h
 | x::a,y::b,h1,h2=>by
  have h1:HT.lexLt (x::a) (y::b)=false:=h1
  have h2:HT.lexLt (y::b) (x::a)=false:=h2
  rw[HT.dN] at h1 h2
  by_cases e:x=y
  ·rw[yL e] at h1
   rw[yL e.symm] at h2
   rw[e,iT h1 h2]
  ·rw[yN e] at h1
   rw[yN (fun z=>e z.symm)] at h2
   have:=of_decide_eq_false h1
   have:=of_decide_eq_false h2
   omega
def lexLe(a b:List Int):Bool:=!lexLt b a
theorem Bh(a b c:List Int)(h1:lexLe a b=true)(h2:lexLe b c=true):lexLe a c=true:=by
 unfold lexLe at *
 rw[yP] at *
 cases e:lexLt c a with
 | false=>rfl
 | true =>
  cases e1:lexLt a b with
  | true=>rw[eN e e1] at h2;cases h2
  | false =>
   have:=iT e1 h1
   subst this
   rw[e] at h2;cases h2
theorem zw(a b:List Int):(lexLe a b||lexLe b a)=true:=by
 unfold lexLe
 cases e1:lexLt b a with
 | false=>rfl
 | true =>
  cases e2:lexLt a b with
  | false=>rfl
  | true=>have:=eN e1 e2;rw[gy] at this;cases this
theorem rM{a b:List Int}(h1:lexLe a b=true)(h2:lexLe b a=true):a=b:=by
 unfold lexLe at *
 rw[yP] at *
 exact iT h2 h1
theorem vc{α:Type}{le:α->α->Bool}(anti:∀a b,le a b=true->le b a=true->a=b):∀ {l m:List α},l.Perm m->l.Pairwise (fun a b=>le a b=true)->m.Pairwise (fun a b=>le a b=true)->l=m
 | [],m,p,_,_=>p.nil_eq
 | a::l,[],p,_,_=>by have:=p.length_eq;simp at this
 | a::l,b::m,p,h1,h2=>by
  obtain⟨h1a,h1b⟩:=List.pairwise_cons.mp h1
  obtain⟨h2a,h2b⟩:=List.pairwise_cons.mp h2
  have e:a=b:=by
   have ha:a∈b::m:=p.mem_iff.mp zE
   have hb:b∈a::l:=p.mem_iff.mpr zE
   rcases List.mem_cons.mp ha with e|ha
   ·exact e
   ·rcases List.mem_cons.mp hb with e|hb
    ·exact e.symm
    ·exact anti a b (h1a b hb) (h2a a ha)
  subst e
  rw[vc anti (List.perm_cons a |>.mp p) h1b h2b]
def sZ(l:List (List Int)):List (List Int):=l.mergeSort lexLe
theorem Gx(l:List (List Int)):(sZ l).Perm l:=List.mergeSort_perm l lexLe
theorem NZ(l:List (List Int)):(sZ l).Pairwise (fun a b=>lexLe a b=true):=List.pairwise_mergeSort Bh zw l
theorem IU{l m:List (List Int)}(p:l.Perm m)(h:l.Pairwise (fun a b=>lexLe a b=true)):l=sZ m:=vc (fun _ _=>rM) (p.trans (Gx m).symm) h (NZ m)
def rk(l:List (List Int))(a:List Int):Int:=((l.countP fun b=>lexLt b a:Nat):Int)
theorem HE{l:List (List Int)}{a b:List Int}(ha:a∈l):lexLt a b=decide (rk l a < rk l b):=by
 unfold rk
 have mono:∀ {a b:List Int},lexLt a b=true->(l.countP fun c=>lexLt c a)<=l.countP fun c=>lexLt c b:=fun {a b} h=>List.countP_mono_left fun c _ hc=>eN hc h
 have strict:∀ {a b:List Int}(ha:a∈l),lexLt a b=true->(l.countP fun c=>lexLt c a) < l.countP fun c=>lexLt c b:=fun {a b} ha h=>by
  have key:∀m:List (List Int),a∈m->(m.countP fun c=>lexLt c a) < m.countP fun c=>lexLt c b:=fun m hm=>by
   induction m with
   | nil=>cases hm
   | cons x m ih =>
    rw[List.countP_cons,List.countP_cons]
    have mo:(m.countP fun c=>lexLt c a)<=m.countP fun c=>lexLt c b:=List.countP_mono_left fun c _ hc=>eN hc h
    rcases List.mem_cons.mp hm with e|hm
    ·subst e
     rw[gy,h]
     simp only[yO,qP,xH]
     omega
    ·have:=ih hm
     by_cases hx:lexLt x a=true
     ·rw[hx,eN hx h];simp only[xH];omega
     ·have hx':lexLt x a=false:=by simpa using hx
      rw[hx']
      simp only[yO,qP]
      split<;>omega
  exact key l ha
 cases e:lexLt a b with
 | true=>exact (zZ (by have:=strict ha e;omega)).symm
 | false =>
  refine (zY ?_).symm
  cases e2:lexLt b a with
  | true=>have:=mono e2;omega
  | false=>rw[iT e e2];omega
section
variable {prog:Program}{w:World}{A:Around}{E:Value->Shared->Prop}{s:Shared}
theorem rH{Q:Bool->Shared->Prop}:∀ {us ws:List Value}{ns ms:List Int}(i:Nat),IntsAre us ns->IntsAre ws ms->Q (lexLt ns ms) s->W.KatLex prog w A true (decide (ns.length < ms.length)) Q (us.zip ws) i s
 | [],[],_,_,i,.nil,.nil,h=>h
 | [],_::_,_,_,i,.nil,.cons _ _ _,h=>by
  show Q (decide (0 < _+1)) s
  rw[zZ (Nat.succ_pos _)]
  exact h
 | _::_,[],_,_,i,.cons _ _ _,.nil,h=>by
  show Q (decide (_+1 < 0)) s
  rw[zY (vT _)]
  exact h
 | _::us,_::ws,_,_,i,.cons n t r1,.cons m u r2,h=>by
  have h:Q (HT.lexLt (n::_) (m::_)) s:=h
  rw[HT.dN] at h
  refine W.kat_cons (SeqAt.EqAt.int_int n t m u prog w _ _ ?_)
  cases e:(n == m) with
  | true =>
   have e':n=m:=eq_of_beq e
   rw[yL e'] at h
   refine W.kat_yes ?_
   have:=rH (i+1) r1 r2 h
   simp only[zL,Nat.add_lt_add_iff_right]
   exact this
  | false =>
   have e':¬ n=m:=fun q=>by rw[q] at e;simp at e
   rw[yN e'] at h
   refine W.kat_no ?_
   by_cases hi:(true&&i == 0)=true
   ·rw[hi]
    exact oneLt_int h
   ·have hi':(true&&i == 0)=false:=by simpa using hi
    rw[hi']
    refine W.kat_one _ _ (lt_int ?_)
    exact h
end
def ah(ns:List Int):D:=.tuple (ns.map PyData.int)
def intsOf:List D->Option (List Int)
 | []=>some []
 | .int n::r=>(intsOf r).map (n::·)
 | _::_=>none
theorem d0:∀ {ds:List D}{ns:List Int},intsOf ds=some ns->ds=ns.map PyData.int
 | [],ns,h=>by cases h;rfl
 | d::r,ns,h=>by
  cases d<;>simp only[intsOf] at h<;>try cases h
  obtain⟨ns',h1,rfl⟩:=ag h
  rw[d0 h1]
  rfl
theorem cG:∀ns:List Int,intsOf (ns.map PyData.int)=some ns
 | []=>rfl
 | n::ns=>by simp[intsOf,cG ns]
def D7:D->Option (List Int)|.tuple ds=>(intsOf ds).bind fun ns=>if ns=[] then none else some ns|_=>none
theorem Cy{d:D}{ns:List Int}(h:D7 d=some ns):d=ah ns/\ns≠[]:=by
 cases d<;>try cases h
 obtain⟨ms,h1,h2⟩:=bs h
 split at h2
 ·cases h2
 ·rename_i hn
  cases h2
  rw[d0 h1]
  exact⟨rfl,hn⟩
theorem E8{ns:List Int}(h:ns≠[]):D7 (ah ns)=some ns:=by
 unfold ah D7
 simp only[cG,zA]
 rw[yN h]
def rowsOf:List D->Option (List (List Int))
 | []=>some []
 | d::r=>(D7 d).bind fun ns=>(rowsOf r).map (ns::·)
theorem lz:∀ {ds:List D}{nss:List (List Int)},rowsOf ds=some nss->ds=nss.map ah/\∀ns∈nss,ns≠[]
 | [],nss,h=>by cases h;exact⟨rfl,fun _ z=>by cases z⟩
 | d::r,nss,h=>by
  obtain⟨ns,h1,h⟩:=bs h
  obtain⟨rest,h2,rfl⟩:=ag h
  obtain⟨e,hn⟩:=Cy h1
  obtain⟨e2,hn2⟩:=lz h2
  refine⟨by rw[e,e2];rfl,fun m hm=>?_⟩
  rcases List.mem_cons.mp hm with q|q
  ·subst q;exact hn
  ·exact hn2 m q
theorem sT:∀ {nss:List (List Int)},(∀ns∈nss,ns≠[])->rowsOf (nss.map ah)=some nss
 | [],_=>rfl
 | ns::r,h=>by
  simp only[zI,rowsOf,E8 (h ns zE),zA,sT fun m hm=>h m (zC _ hm),zB]
structure we(h:Heap)(v:Value)(ns:List Int):Prop where
 ex:∃ (a:Addr) (o:Obj) (its:Array Value) (n:Nat),v=.ref a/\h.get? a=some o/\o.cls=.type "tuple"/\o.data=.seq its n/\IntsAre its.toList ns
theorem we.keep{h h':Heap}{v:Value}{ns:List Int}(r:we h v ns)(k:∀b o,h.get? b=some o->h'.get? b=some o):we h' v ns:=let ⟨a,o,its,n,e,e1,e2,e3,e4⟩:=r.ex;⟨a,o,its,n,e,k _ _ e1,e2,e3,e4⟩
section
variable {prog:Program}{w:World}{A:Around}{E:Value->Shared->Prop}{s:Shared}
theorem r0{h:Heap}:∀ {vs:List Value}{nss:List (List Int)},Paired (we h) vs nss->(∀ns∈nss,ns≠[])->∃fs:List Value,W.KatTups h vs fs/\fs.length=vs.length/\∀f∈fs,∃n t,f=Value.int n t
 | _,_,.nil,_=>⟨[],trivial,rfl,fun _ z=>by cases z⟩
 | _,_,.cons (a:=v) (b:=ns) r p,hn=>by
  obtain⟨fs,h1,h2,h3⟩:=r0 p fun m hm=>hn m (zC _ hm)
  obtain⟨a,o,its,n,rfl,e1,e2,e3,e4⟩:=r.ex
  cases hits:its.toList with
  | nil =>
   rw[hits] at e4
   cases e4
   exact absurd rfl (hn [] zE)
  | cons f rest =>
   rw[hits] at e4
   cases e4 with
   | cons m t e5 =>
    have h0:its[0]?=some (.int m t):=by
     have:its.toList[0]?=some (Value.int m t):=by rw[hits];rfl
     simpa using this
    exact⟨.int m t::fs,W.KatTups.cons e1 e2 e3 h0 h1,by simp[h2],fun g hg=>by
     rcases List.mem_cons.mp hg with q|q
     ·exact⟨m,t,q⟩
     ·exact h3 g q⟩
theorem gp{α β:Type}{R:α->β->Prop}{d:α}{d':β}:∀ {l:List α}{m:List β}{i:Nat},Paired R l m->i < l.length->R (l.getD i d) (m.getD i d')
 | _,_,i,.nil,h=>by simp at h
 | _,_,0,.cons r _,_=>r
 | _,_,i+1,.cons _ p,h=>by simpa using gp (i:=i) (d:=d) (d':=d') p (by simpa using h)
theorem AH{l:Addr}{vs:List Value}{nss:List (List Int)}{Q:Value->Shared->Prop}(hl:Srt.Coll s.heap l vs)(hp:Paired (we s.heap) vs nss)(hn:∀ns∈nss,ns≠[])(h64:vs.length < 64)
  (h:∀ (h':Heap) (D:Addr) (c:Nat),(∀b o,s.heap.get? b=some o->h'.get? b=some o)->s.heap.objs.size<=D->h'.get? D=some (seqObj "list" (Srt.outV (fun i=>rk nss (nss.getD i [])) vs).toArray c)->Q (.ref D) { s with heap:=h' }) :
  wpAny (model prog w) A (call (.builtin "sorted") [.ref l]) Q E s:=by
 refine Srt.sortedG hl h64 (fun i=>rk nss (nss.getD i [])) (tuples' true) (fun h2 h' kp Q' q=>?_) (fun h2 h' kp i j C hi hj q=>?_) h
 ·have hp':Paired (we h') vs nss:=Paired.mapP hp fun _ _ r=>r.keep kp
  obtain⟨fs,t,hlen,hf⟩:=r0 hp' hn
  refine W.kat_kind (s:={ s with heap:=h' }) (T:=.type "int") t (by omega) (fun v hv=>?_) (by decide) q
  obtain⟨n,t,rfl⟩:=hf v hv
  exact W.Looks.of_pure rfl
 ·have ri:=(gp (d:=Value.none) (d':=[]) hp hi).keep kp
  have rj:=(gp (d:=Value.none) (d':=[]) hp hj).keep kp
  have hlen:=hp.length
  obtain⟨a,o,its,n,ea,e1,e2,e3,e4⟩:=ri.ex
  obtain⟨b,o',its',n',eb,f1,f2,f3,f4⟩:=rj.ex
  unfold W.kas_ask
  rw[ea,eb]
  have hmem:nss.getD i []∈nss:=by
   rw[zG,zK (by omega)]
   exact qA _
  have q':C (lexLt (nss.getD i []) (nss.getD j [])) { s with heap:=h' }:=by
   rw[HE hmem]
   exact q
  refine W.kat_lt (s:={ s with heap:=h' }) e1 e3 f1 f3 ?_
  have:=rH (prog:=prog) (w:=w) (A:=A.in1.in1) (s:={ s with heap:=h' }) 0 e4 f4 q'
  have l1:its.size=(nss.getD i []).length:=by have:=wA e4;simpa using this
  have l2:its'.size=(nss.getD j []).length:=by have:=wA f4;simpa using this
  rw[l1,l2]
  exact this
end
def uy{α:Type}(z:Nat->Int)(l:List α)(d:α):List α:=if l.length < 2 then l else (SP.run (SP.eQ z) (W.kas_sort l.length)).toList.map fun i=>l.getD i d
theorem kq{α:Type}(l:List α)(d:α):(List.range l.length).map (fun i=>l.getD i d)=l:=by
 apply jH
 ·simp
 ·intro i h1 h2
  simp[h2]
theorem lN{α:Type}(z:Nat->Int)(l:List α)(d:α):(uy z l d).Perm l:=by
 unfold uy
 split
 ·exact List.Perm.refl _
 ·rename_i h
  have:=((SP.jb (z:=z) (n:=l.length) (by omega)).1).map fun i=>l.getD i d
  rw[kq] at this
  exact this
theorem K2(nss:List (List Int)):uy (fun i=>rk nss (nss.getD i [])) nss []=sZ nss:=by
 refine IU (lN _ _ _) ?_
 unfold uy
 split
 ·rename_i h
  match nss,h with
  | [],_=>exact List.Pairwise.nil
  | [a],_=>exact vJ _ _
 ·rename_i h
  obtain⟨hp,hs⟩:=SP.jb (z:=fun i=>rk nss (nss.getD i [])) (n:=nss.length) (by omega)
  rw[jE] at hs ⊢
  refine hs.imp_of_mem fun {i j} hi hj hij=>?_
  have hj':j < nss.length:=by have:=hp.mem_iff.mp hj;simpa using this
  unfold lexLe
  rw[HE (l:=nss) (a:=nss.getD j []) (by rw[zG,zK hj'];exact qA _)]
  simp only[yP,xB]
  omega
section
variable {X:Cx}
theorem su{K:W.Frag}{HF:Hp}{ds:List D}{vs:List V}(z:Nat->Int)(r:aw K HF ds vs):aw K HF (uy z ds .none) (uy z vs .non):=by
 unfold uy
 rw[r.length]
 split
 ·exact r
 ·rename_i h
  obtain⟨hp,_⟩:=SP.jb (z:=z) (n:=ds.length) (by omega)
  have key:∀l:List Nat,(∀i∈l,i < ds.length)->aw K HF (l.map fun i=>ds.getD i .none) (l.map fun i=>vs.getD i .non):=fun l=>by
   induction l with
   | nil=>exact fun _=>aw.nil
   | cons i l ih =>
    intro hl
    have hi:=hl i zE
    obtain⟨v,e1,e2⟩:=r.getD (zK hi)
    refine aw.cons ?_ (ih fun j hj=>hl j (zC _ hj))
    dsimp only
    rw[zG,zG,e1,zK hi]
    exact e2
  exact key _ fun i hi=>by have:=hp.mem_iff.mp hi;simpa using this
theorem sO{vs:List V}{us:List Value}(z:Nat->Int)(r:aQ vs us):aQ (uy z vs .non) (Srt.outV z us):=by
 unfold uy Srt.outV
 rw[r.length]
 split
 ·exact r
 ·rename_i h
  obtain⟨hp,_⟩:=SP.jb (z:=z) (n:=us.length) (by omega)
  have key:∀l:List Nat,(∀i∈l,i < vs.length)->aQ (l.map fun i=>vs.getD i .non) (l.map fun i=>us.getD i Value.none):=fun l=>by
   induction l with
   | nil=>exact fun _=>.nil
   | cons i l ih =>
    intro hl
    have hi:=hl i zE
    obtain⟨v,e1,e2⟩:=r.get (zK hi)
    refine .cons ?_ (ih fun j hj=>hl j (zC _ hj))
    dsimp only
    rw[zG,zG,e1,zK hi]
    exact e2
  exact key _ fun i hi=>by have:=hp.mem_iff.mp hi;rw[r.length];simpa using this
theorem Lg(z:Nat->Int)(nss:List (List Int)):uy z (nss.map ah) .none=(uy z nss []).map ah:=by
 unfold uy
 rw[zD]
 split
 ·rfl
 ·rename_i h
  rw[zM]
  obtain⟨hp,_⟩:=SP.jb (z:=z) (n:=nss.length) (by omega)
  refine yH fun i hi=>?_
  have hi':i < nss.length:=by have:=hp.mem_iff.mp hi;simpa using this
  simp[hi']
theorem oq{pins:List (Addr×Obj)}{σ:L2.St}{H HF:Hp}{s:Shared}(I:Inv X pins σ H s)(sm:aW HF H):∀ {nss:List (List Int)}{vs:List V}{us:List Value},aw X.K HF (nss.map ah) vs->aQ vs us->Paired (we s.heap) us nss
 | [],_,_,h,r=>by rw[h.nil_inv] at r;cases r;exact .nil
 | ns::nss,_,_,h,r=>by
  obtain⟨v,vr,rfl,a,b⟩:=h.cons_inv
  cases r with
  | cons r rr =>
   refine .cons ?_ (oq I sm b rr)
   unfold ah at a
   simp only[Rep] at a
   obtain⟨p,ws,rfl,hs,rw'⟩:=a
   cases r
   obtain⟨its,rv,⟨o,ho,hc,n,hd⟩,_⟩:=I.tuple (aL sm hs)
   have:ws=ns.map V.int:=by
    have key:∀ {ns:List Int}{ws:List V},aw X.K HF (ns.map PyData.int) ws->ws=ns.map V.int:=fun {ns}=>by
     induction ns with
     | nil=>exact fun h=>h.nil_inv
     | cons n ns ih =>
      intro ws h
      obtain⟨v,r,rfl,a,b⟩:=h.cons_inv
      simp only[Rep] at a
      rw[a,ih b]
      rfl
    exact key rw'
   subst this
   exact⟨p,o,its.toArray,n,rfl,ho,hc,hd,intsAre_of rv⟩
theorem oU:eK X (.builtin "sorted") (fun xs H Q=>∃ (HF:Hp) (a:Addr) (vs:List V) (nss:List (List Int)),xs=[.ref a]/\aW HF H/\(ig X.K HF a vs\/iY X.K HF a vs)/\aw X.K HF (nss.map ah) vs/\(∀ns∈nss,ns≠[])/\nss.length < 64 /\
  ∀ (Dn:Addr) (us:List V),H Dn=none->aw X.K HF ((sZ nss).map ah) us->Q (.ref Dn) (upd H Dn (.lst us))):=by
 intro pins s σ H xs us Q I r h
 obtain⟨HF,a,vs,nss,rfl,sm,hq,rr,hn,h64,q⟩:=h
 obtain⟨u,rfl,rx⟩:=vals1 r
 cases rx
 obtain⟨its,rv,pl,hz⟩:∃its:List Value,aQ vs its/\Srt.Coll s.heap a its/\vs.length<=sizeLine:=by
  rcases hq with hq|hq
  ·obtain⟨its,rv,pl,hz⟩:=I.list (sm.seq hq)
   obtain⟨o,ho,hc,n,hd⟩:=pl.isList
   exact⟨its,rv,⟨o,"list",n,.inl rfl,ho,hc,hd⟩,hz⟩
  ·obtain⟨its,rv,pl,hz⟩:=I.tuple (aL sm hq)
   obtain⟨o,ho,hc,n,hd⟩:=(show s.heap.IsTuple a its.toArray from pl)
   exact⟨its,rv,⟨o,"tuple",n,.inr rfl,ho,hc,hd⟩,hz⟩
 have hl1:=rr.length
 rw[zD] at hl1
 refine AH pl (oq I sm rr rv) hn (by have:=rv.length;omega) fun h' Dn c kp hD e=>?_
 have hv:=sO (fun i=>rk nss (nss.getD i [])) rv
 have hr:=su (fun i=>rk nss (nss.getD i [])) rr
 rw[Lg,K2] at hr
 refine⟨.ref Dn,_,I.laid (t':=s.toks) (o:=.lst (uy (fun i=>rk nss (nss.getD i [])) vs .non)) kp hD ⟨?_,_,c,hv,e⟩,rfl,q Dn _ (I.hok.fresh hD) hr⟩
 rw[(lN _ _ _).length_eq]
 exact hz
def gQ:List D->Option (List D):=fun ds=>(oneOf ds).bind fun d=>match d with
 | .list es=>(rowsOf es).bind fun nss=>if nss.length < 64 then some ((sZ nss).map ah) else none
 | .tuple es=>(rowsOf es).bind fun nss=>if nss.length < 64 then some ((sZ nss).map ah) else none
 | _=>none
variable {e:Expr}{fs:Env->Option (List D)}{p pos:Pos}
theorem ET(B:pO X "sorted" (.builtin "sorted"))(ha:DA X [e] fs)(he:starEach [e] X.env=(false,eval e X.env)::starEach [] X.env:=by rfl):DF X (.Call (.Name "sorted" p) [e] [] pos) (k6 gQ fs) :=
 Gj oU (by
  intro HF H ds vs d Q sm r hg q
  obtain⟨x,hx,hg⟩:=bs hg
  rw[gE hx] at r
  have key:∀ (b:Bool) (es:List D),aw X.K HF [if b then .tuple es else .list es] vs->((rowsOf es).bind fun nss=>if nss.length < 64 then some ((sZ nss).map ah) else none)=some d->(∃ (HF:Hp) (a:Addr) (us:List V) (nss:List (List Int)),vs=[.ref a]/\aW HF H/\(ig X.K HF a us\/iY X.K HF a us)/\aw X.K HF (nss.map ah) us/\(∀ns∈nss,ns≠[])/\nss.length < 64/\∀ (Dn:Addr) (ws:List V),H Dn=none->aw X.K HF ((sZ nss).map ah) ws->Q (.ref Dn) (upd H Dn (.lst ws))):=fun b es r hg=>by
   obtain⟨nss,hb,hg⟩:=bs hg
   split at hg
   ·rename_i h64
    cases hg
    obtain⟨v,r',rfl,a,e0⟩:=r.cons_inv
    rw[e0.nil_inv]
    obtain⟨e1,e2⟩:=lz hb
    obtain⟨p,us,rfl,h,rr⟩:∃p us,v=.ref p/\(ig X.K HF p us\/iY X.K HF p us)/\aw X.K HF es us:=by
     cases b
     ·simp only[yO,qP,Rep] at a
      obtain⟨p,us,rfl,h,rr⟩:=a
      exact⟨p,us,rfl,.inl h,rr⟩
     ·simp only[xH,Rep] at a
      obtain⟨p,us,rfl,h,rr⟩:=a
      exact⟨p,us,rfl,.inr h,rr⟩
    rw[e1] at rr
    exact⟨HF,p,us,nss,rfl,sm,h,rr,e2,h64,fun Dn ws hD hr=>q Dn ws _ HF (.own sm hD) hD (sm.free hD) aC hr⟩
   ·cases hg
  cases x<;>try cases hg
  ·exact key false _ r hg
  ·exact key true _ r hg) B ha (by decide) (by decide) he rfl
end
end Dl
namespace En
open PySem PyProof.Rows
open AutoSeq1 (wpAny_loadPart')
section
variable {prog:Program}{w:World}{A:Around}{E:Value->Shared->Prop}{s:Shared}
theorem nextT_item{j t:Addr}{k:Nat}{its:Array Value}{v:Value}{Q:Value->Shared->Prop}(hj:s.heap.IsTupleIter j t k)(ht:s.heap.IsTuple t its)(hv:its[k]?=some v)
  (hQ:∀g,g.IsTupleIter j t (k+1)->Heap.SameBut j s.heap g->Q v { s with heap:=g }):wpAny (model prog w) A (Builtin.SmallTypes.nextOf (.ref j)) Q E s:=by
 obtain⟨oj,gj,cj,dj⟩:=id hj
 obtain⟨ot,gt,_,nt,dt⟩:=ht
 unfold Builtin.SmallTypes.nextOf
 refine zU (qC (name:=Str.ofString "__next__") hj.typeIs jR (qV jR hj.typeIs F.entry_tuple_iterator_next ?_ (F.args_tuple_iterator_next_1 _)))
 refine zU (m:=field (.ref j) 0) (qT gj dj (x:=.ref t) rfl ?_)
 show wpAny _ _ (if (Value.ref t == Value.none)=true then _ else _) _ _ s
 rw[yN (show ¬ ((Value.ref t == Value.none)=true) by exact yZ)]
 refine zU (m:=field (.ref j) 1) (qT gj dj (x:=.int k 0) rfl ?_)
 refine zU (m:=seqItems? (.ref t)) (kH gt dt ?_)
 simp only[yF,hv]
 refine zU (wpAny_setField gj dj (by simp) (zV ⟨v,rfl,zV (hQ _ ⟨_,Heap.get?_update_self _ gj (Obj.isFreed_of_fields (Obj.data_mapFields dj _)),(Obj.cls_mapFields ..).trans cj,?_⟩ (Heap.SameBut.update ..))⟩))
 rw[Obj.data_mapFields dj];simp[rawInt]
theorem nextT_end{j t:Addr}{k:Nat}{its:Array Value}{Q:Value->Shared->Prop}(hh:A.handled=none)(hj:s.heap.IsTupleIter j t k)(ht:s.heap.IsTuple t its)(hv:its[k]?=none)
  (hE:∀g x,Heap.ExtBut j s.heap g->(∃o,g.get? x=some o/\o.cls=.type "StopIteration")->E (.ref x) { s with heap:=g }):wpAny (model prog w) A (Builtin.SmallTypes.nextOf (.ref j)) Q E s:=by
 obtain⟨oj,gj,cj,dj⟩:=id hj
 obtain⟨ot,gt,_,nt,dt⟩:=ht
 unfold Builtin.SmallTypes.nextOf
 refine zU (qC (name:=Str.ofString "__next__") hj.typeIs jR (qV jR hj.typeIs F.entry_tuple_iterator_next ?_ (F.args_tuple_iterator_next_1 _)))
 refine zU (m:=field (.ref j) 0) (qT gj dj (x:=.ref t) rfl ?_)
 show wpAny _ _ (if (Value.ref t == Value.none)=true then _ else _) _ _ s
 rw[yN (show ¬ ((Value.ref t == Value.none)=true) by exact yZ)]
 refine zU (m:=field (.ref j) 1) (qT gj dj (x:=.int k 0) rfl ?_)
 refine zU (m:=seqItems? (.ref t)) (kH gt dt ?_)
 simp only[yF,hv]
 refine zU (wJ (zU (wpAny_setField gj dj (by simp) (zU (m:=newExc (.type "StopIteration") []) ?_))))
 simp only[newExc,newTuple]
 refine zU (qL (zU (m:=firstArgMember _ _) (wpAny_of_eq (a:=Value.none) (by first|rfl|(simp only[firstArgMember];rfl)) ?_)) (by size_fits))
 refine qL ?_ (by size_fits);simp only[raiseNew]
 refine zU (wpAny_handled ?_)
 first|rw[show A.in1.handled=none from hh]|rw[hh]
 exact zU (zV (wpAny_throw (hE _ _ (((Heap.SameBut.update ..).extBut.push _).push _) ⟨_,zW _ rfl,rfl⟩)))
theorem meets_enumT(t:Addr)(its:Array Value)(n:Nat)(dd:Option Addr)(sl:Array (Option Value)) :
  Meets (Builtin.«enumerate.__new__» ⟨[.type "enumerate",.ref t],[]⟩) (fun _ R s=>s.heap.get? t=some { cls:=.type "tuple",dict:=dd,data:=.seq its n,slots:=sl } /\
   R (.ok (.ret (.ref (s.heap.push { cls:=.type "tuple_iterator",data:=.fields #[.ref t,.int 0 0] }).objs.size)))
    { s with heap:=(s.heap.push { cls:=.type "tuple_iterator",data:=.fields #[.ref t,.int 0 0] }).push { cls:=.type "enumerate",data:=.fields #[.none,.bool false,.ref s.heap.objs.size,rawInt 0,.none,.none] } }) :=
 .of_wp fun prog w A R s h=>by
  obtain⟨hp,g,d,tk,os⟩:=s
  obtain⟨hl,h⟩:=h
  have hsub:=sub_enumerate
  have hL:Heap.IsTuple (Shared.heap ⟨hp,g,d,tk,os⟩) t its:=⟨_,hl,rfl,n,rfl⟩
  wp_walk using wpAny_loadPart' hl
  refine wpAny_stack_any fun st=>zV ?_
  split
  ·rename_i c _ _ _ _ _
   cases (c == Value.type "enumerate")
   ·wp_walk using wpAny_loadPart' hl,xR hL
    exact⟨_,rfl,h⟩
   ·wp_walk using wpAny_loadPart' hl,xR hL
    exact⟨_,rfl,h⟩
  ·wp_walk using wpAny_loadPart' hl,xR hL
   exact⟨_,rfl,h⟩
theorem call_enumT{t:Addr}{its:Array Value}{Q:Value->Shared->Prop}(ht:s.heap.IsTuple t its)
  (h:∀h',IsEnum h' (s.heap.objs.size+1) s.heap.objs.size 0 .none->h'.IsTupleIter s.heap.objs.size t 0->h'.objs.size=s.heap.objs.size+2->(∀b o,s.heap.get? b=some o->h'.get? b=some o)->Q (.ref (s.heap.objs.size+1)) { s with heap:=h' }) :
  wpAny (model prog w) A (call (.type "enumerate") [.ref t]) Q E s:=by
 obtain⟨⟨c,dct,dt,sl⟩,hl,hc,n,hd⟩:=ht
 simp only at hc hd
 subst hc hd
 refine callType_new F.called_enumerate (by decide) (F.typeCall_enumerate_1 _) (F.newCall_enumerate_1 _) (fun obj=>F.args_object_init_2 obj _) F.entry_enumerate_new (meets_enumT t its n dct sl) ⟨hl,?_⟩
 have hz:(s.heap.push { cls:=.type "tuple_iterator",data:=.fields #[.ref t,.int 0 0] }).objs.size=s.heap.objs.size+1:=by rw[xJ]
 have he:=zW (s.heap.push { cls:=.type "tuple_iterator",data:=.fields #[.ref t,.int 0 0] }) (o:={ cls:=.type "enumerate",data:=.fields #[.none,.bool false,.ref s.heap.objs.size,rawInt 0,.none,.none] }) rfl
 show _/\_
 rw[hz] at he ⊢
 refine⟨⟨_,he,rfl⟩,h _ he ⟨_,zT _ (zW _ rfl),rfl,rfl⟩ ?_ fun b o x=>zT _ (zT _ x)⟩
 show (Heap.push _ _).objs.size=_
 rw[xJ,hz]
end
end En
namespace Dl
open PySem L2 PySem.Spec PyProof.Rows
section
variable {X:Cx}{pins:List (Addr×Obj)}{σ:L2.St}{H:Hp}{s:Shared}{h':Heap}{t':Nat}{ch:List Addr}
theorem Bj(I:Inv X pins σ H s)(hch:∀b∈ch,cJ X pins H b)(k:∀b o,b∉ch->s.heap.get? b=some o->h'.get? b=some o){T:Addr}{vals:List Value}{xs:List V}(hT:s.heap.objs.size<=T)(ht:sJ h' T vals.toArray)
  (rv:aQ xs vals) (hz:xs.length<=sizeLine):Inv X pins σ (upd H T (.tup xs)) { s with heap:=h',toks:=t' }:=by
 have nT:H T=none:=I.hok.fresh hT
 have ne:∀b o,s.heap.get? b=some o->b≠T:=fun b o e=>yR (zP (zX e) hT)
 have ne2:∀b o,H b=some o->b≠T:=fun b o e=>aX e nT
 have nch:∀b o,H b=some o->b∉ch:=fun b o e z=>by rw[(hch b z).1] at e;cases e
 refine I.step (g':=s.gens) (d':=s.drawn) (ch:=ch) (fun b hb=>?_) (fun b o _ _ hc e _=>k b o hc e) (fun b o _ _ hc e _=>⟨o.slots,k b o hc e⟩) (fun b o _ e n=>by rw[aF (ne b o e)];exact n)
  (fun b o hc e=>⟨o,k b o hc e⟩) (fun b ys e=>by rw[aF (ne2 b _ e)];exact e) (fun b o u e=>by rw[aF (ne2 b _ e)];exact e) (.kept (fun b u ⟨q,z⟩ e=>k b u (nch b _ z) e) fun b u e _=>by rw[aF (ne2 b _ e)];exact e) (fun m hm=>?_) (fun b u e=>?_) I.bare
 ·obtain⟨f0,f1,f2,f3,f4,f5⟩:=hch b hb
  exact⟨f3,f1,f4,f5⟩
 ·obtain⟨o,es,ep,ho,r⟩:=hm
  exact⟨o,es,ep,k _ o (fun z=>(hch _ z).2.1 rfl) ho,r⟩
 ·by_cases hb:b=T
  ·subst hb
   rw[aC] at e
   cases e
   exact⟨hz,vals,rv,ht⟩
  ·rw[aF hb] at e
   refine (I.hok b u e).stay (fun c v hc q=>k c v ?_ q) (fun _ q=>?_) fun c v q _=>?_
   ·rcases hc with z|z
    ·rw[z];exact nch b u e
    ·exact nch c _ z
   all_goals first
    | (rw[aF (ne2 _ _ q)];exact q)
    | exact q
theorem Pc(I:Inv X pins σ H s){a b:Addr}{o:Obj}(hf:cJ X pins H b)(h:X.K.lookup a=some o):a≠b:=by
 rintro rfl
 have hb:=I.ok.mod.kin a o h
 rcases hf.2.2.2.1 with z|z
 ·exact I.ok.noex a o hb z
 ·exact absurd (zP (zX (I.ok.bs a o hb).1) z) (qE _)
theorem Ni(I:Inv X pins σ H s){a b:Addr}{xs:List V}(hf:cJ X pins H b)(h:ig X.K H a xs):a≠b:=by
 rcases h with (h|⟨o,h⟩)|⟨o,its,n,h,_⟩
 ·exact aX h hf.1
 ·exact aX h hf.1
 ·exact Pc I hf h
theorem Nd(I:Inv X pins σ H s){a b:Addr}{xs:List V}(hf:cJ X pins H b)(h:iY X.K H a xs):a≠b:=by
 rcases h with (h|⟨o,h⟩)|⟨o,its,n,h,_⟩
 ·exact aX h hf.1
 ·exact aX h hf.1
 ·exact Pc I hf h
end
def RH(sq:Hp->List V->Prop):It:=⟨fun i H=>∃xs x,sq H xs/\xs[i]?=some x,fun i H v H'=>∃T y,v=.ref T/\H T=none/\H'=upd H T (.tup [.int (i:Nat),y])/\∀xs,sq H xs->xs[i]?=some y,fun i H=>∃xs,sq H xs/\xs.length<=i⟩
def bP(k:Nat):List D->List D
 | []=>[]
 | d::ds=>.tuple [.int (k:Nat),d]::bP (k+1) ds
theorem uw:∀ {ds:List D}{k i:Nat}{d:D},(bP k ds)[i]?=some d->∃x,ds[i]?=some x/\d=.tuple [.int ((k+i:Nat):Int),x]
 | [],k,i,d,h=>by simp[bP] at h
 | x::ds,k,0,d,h=>by simp[bP] at h;exact⟨x,rfl,h.symm⟩
 | x::ds,k,i+1,d,h=>by
  simp only[bP,yY] at h
  obtain⟨y,h1,h2⟩:=uw h
  refine⟨y,by simpa using h1,?_⟩
  rw[h2,show k+1+i=k+(i+1) by omega]
theorem lP:∀ (ds:List D) (k:Nat),(bP k ds).length=ds.length
 | [],k=>rfl
 | x::ds,k=>by simp[bP,lP ds (k+1)]
theorem Fq{K:W.Frag}{HF:Hp}{sq:Hp->List V->Prop}{ds:List D}{vs:List V}(h:sq HF vs)(mo:∀H H',aW H H'->sq H vs->sq H' vs)(r:aw K HF ds vs):uD K (RH sq) HF (bP 0 ds) where
 go:=fun i d H₁ HF₁ e s1 s2=>by
  obtain⟨x,hx,rfl⟩:=uw e
  rw[jD]
  obtain⟨v,hv,rv⟩:=r.getD hx
  have q:=mo _ _ s2 (mo _ _ s1 h)
  refine⟨⟨vs,v,q,hv⟩,fun y H₂ ⟨T,z,e1,hT,e2,hy⟩=>?_⟩
  have:=hy vs q
  rw[hv] at this
  cases this
  subst e1 e2
  exact⟨_,.new s2 hT,eW (s2.free hT) (aw.cons (by simp[Rep]) (aw.cons (rv.mono s1) aw.nil))⟩
 stop:=fun H₁ HF₁ s1 s2=>⟨vs,mo _ _ s2 (mo _ _ s1 h),by rw[lP,r.length];exact yM _⟩
def RZ(sq1 sq2:Hp->List V->Prop):It:=⟨fun i H=>∃xs ys x y,sq1 H xs/\sq2 H ys/\xs[i]?=some x/\ys[i]?=some y,
 fun i H v H'=>∃T x y,v=.ref T/\H T=none/\H'=upd H T (.tup [x,y])/\(∀xs,sq1 H xs->xs[i]?=some x)/\∀ys,sq2 H ys->ys[i]?=some y,
 fun i H=>∃xs ys,sq1 H xs/\sq2 H ys/\(xs.length<=i\/ys.length<=i)⟩
section
variable {X:Cx}{pins:List (Addr×Obj)}{σ:L2.St}{H:Hp}{s:Shared}{h':Heap}{t':Nat}{ch:List Addr}
theorem FY(I:Inv X pins σ H s)(hch:∀b∈ch,cJ X pins H b)(k:∀b o,b∉ch->s.heap.get? b=some o->h'.get? b=some o):Inv X pins σ H { s with heap:=h',toks:=t' }:=by
 have nch:∀b o,H b=some o->b∉ch:=fun b o e z=>by rw[(hch b z).1] at e;cases e
 refine I.step (g':=s.gens) (d':=s.drawn) (ch:=ch) (fun b hb=>?_) (fun b o _ _ hc e _=>k b o hc e) (fun b o _ _ hc e _=>⟨o.slots,k b o hc e⟩) (fun b o _ e n=>n)
  (fun b o hc e=>⟨o,k b o hc e⟩) (fun b ys e=>e) (fun b o u e=>e) (.kept (fun b u ⟨q,z⟩ e=>k b u (nch b _ z) e) fun b u e _=>e) (fun m hm=>?_) (fun b u e=>?_) I.bare
 ·obtain⟨f0,f1,f2,f3,f4,f5⟩:=hch b hb
  exact⟨f3,f1,f4,f5⟩
 ·obtain⟨o,es,ep,ho,r⟩:=hm
  exact⟨o,es,ep,k _ o (fun z=>(hch _ z).2.1 rfl) ho,r⟩
 ·refine (I.hok b u e).stay (fun c v hc q=>k c v ?_ q) (fun _ q=>q) fun c v q _=>q
  rcases hc with z|z
  ·rw[z];exact nch b u e
  ·exact nch c _ z
end
structure SK(z TI TO i1 i2:Addr):Prop where
 a1:TI≠z
 a2:TO≠z
 a3:i1≠z
 a4:i2≠z
 a5:TI≠TO
 a6:TI≠i1
 a7:TI≠i2
 a8:TO≠i1
 a9:TO≠i2
 a0:i1≠i2
section
variable {X:Cx}{l l':Expr}{fs:Env->Option (List D)}{elts:List Expr}{k:Nat}{pos p tp:Pos}
def kl:List D->List D->List D
 | x::xs,y::ys=>.tuple [x,y]::kl xs ys
 | _,_=>[]
theorem sy:∀ {xs ys:List D}{i:Nat}{d:D},(kl xs ys)[i]?=some d->∃x y,xs[i]?=some x/\ys[i]?=some y/\d=.tuple [x,y]
 | [],_,i,d,h=>by simp[kl] at h
 | _::_,[],i,d,h=>by simp[kl] at h
 | x::xs,y::ys,0,d,h=>by simp[kl] at h;exact⟨x,y,rfl,rfl,h.symm⟩
 | x::xs,y::ys,i+1,d,h=>by
  simp only[kl,yY] at h
  obtain⟨a,b,h1,h2,h3⟩:=sy h
  exact⟨a,b,by simpa using h1,by simpa using h2,h3⟩
theorem n0:∀ (xs ys:List D),(kl xs ys).length=min xs.length ys.length
 | [],_=>by simp[kl]
 | _::_,[]=>by simp[kl]
 | x::xs,y::ys=>by simp[kl,n0 xs ys]
theorem HC{K:W.Frag}{HF:Hp}{sq1 sq2:Hp->List V->Prop}{xs ys:List D}{vs us:List V}(h1:sq1 HF vs)(mo1:∀H H',aW H H'->sq1 H vs->sq1 H' vs)(h2:sq2 HF us)(mo2:∀H H',aW H H'->sq2 H us->sq2 H' us)(r1:aw K HF xs vs)(r2:aw K HF ys us) :
  uD K (RZ sq1 sq2) HF (kl xs ys) where
 go:=fun i d H₁ HF₁ e s1 s2=>by
  obtain⟨x,y,hx,hy,rfl⟩:=sy e
  obtain⟨v,hv,rv⟩:=r1.getD hx
  obtain⟨u,hu,ru⟩:=r2.getD hy
  have q1:=mo1 _ _ s2 (mo1 _ _ s1 h1)
  have q2:=mo2 _ _ s2 (mo2 _ _ s1 h2)
  refine⟨⟨vs,us,v,u,q1,q2,hv,hu⟩,fun w H₂ ⟨T,a,b,e1,hT,e2,ha,hb⟩=>?_⟩
  have ea:=ha vs q1
  have eb:=hb us q2
  rw[hv] at ea
  rw[hu] at eb
  cases ea
  cases eb
  subst e1 e2
  exact⟨_,.new s2 hT,eW (s2.free hT) (aw.cons (rv.mono s1) (aw.cons (ru.mono s1) aw.nil))⟩
 stop:=fun H₁ HF₁ s1 s2=>⟨vs,us,mo1 _ _ s2 (mo1 _ _ s1 h1),mo2 _ _ s2 (mo2 _ _ s1 h2),by rw[n0,r1.length,r2.length];omega⟩
end
def cut{α:Type}(xs:List α)(lo hi:Option Int):List α:=(xs.drop (HT.d9 xs.length 0 lo)).take (HT.d9 xs.length xs.length hi - HT.d9 xs.length 0 lo)
theorem Ky{α:Type}(xs:List α)(lo hi:Option Int):(cut xs lo hi).length<=xs.length:=by
 unfold cut;rw[jW,qH];omega
theorem rZ{K:W.Frag}{H:Hp}{ds:List D}{vs:List V}(r:aw K H ds vs)(lo hi:Option Int):aw K H (cut ds lo hi) (cut vs lo hi):=by
 unfold cut;rw[r.length];exact (r.drop _).take _
section
variable {X:Cx}
theorem FR{prog:Program}{w:World}{A:Around}{E:Value->Shared->Prop}{s:Shared}{t sl:Addr}{its:Array Value}{vl vu:Value}{lo hi:Option Int}{Q:Value->Shared->Prop}(ht:IsTup s.heap t its)(hs:s.heap.IsSliceOf sl vl vu .none)(pl:IsPart vl lo)(pu:IsPart vu hi)
  (hw:HT.d9 its.size 0 lo=0/\HT.d9 its.size its.size hi=its.size) (h:Q (.ref t) s):wpAny (model prog w) A (getItem (.ref t) (.ref sl)) Q E s:=by
 obtain⟨os,hos,hcs,hds⟩:=id hs
 have hTs:s.TypeIs (.ref sl) "slice":=⟨os,hos,hcs⟩
 unfold getItem
 try with_reducible refine xX ?_
 first|refine zU (zV ?_)|skip
 refine zU (wpAny_sequenceKey ht.typeIs (by decide) (zU (qC (name:=Str.ofString "__getitem__") ht.typeIs jF (qV jF ht.typeIs entry_tuple_getitem ?_ (args_tuple_getitem _ _)))))
 refine zU (m:=Builtin.Tuple.tupleItemsOf (.ref t)) (tupleItemsOf_ ht (zU (wU hTs ?_)))
 rw[yL (by decide)]
 refine zU (HT.iX hs pl pu ?_)
 show wpAny _ _ (if (((HT.d9 its.size 0 lo:Nat):Int) == 0&&(1:Int) == 1&&(HT.d9 its.size its.size hi - HT.d9 its.size 0 lo) == its.size)=true then _ else _) _ _ s
 rw[hw.1,hw.2,yL (by simp)]
 unfold Builtin.Tuple.tupleIsExact
 refine zU (zU (wU ht.typeIs (zV ?_)))
 rw[yL (by decide)]
 first
  | exact zU (wJ (zV ⟨_,rfl,zV h⟩))
  | exact zU (wJ (zU (zV (zV ⟨_,rfl,zV h⟩))))
def RC(K:W.Frag):V->Option Int->Option Int->Hp->VK->Prop:=fun x lo hi H Q=>∃a xs,x=.ref a/\iY K H a xs/\(cut xs lo hi=xs->Q (.ref a) H)/\∀p,H p=none->Q (.ref p) (upd H p (.tup (cut xs lo hi)))
theorem NF:Mf X (RC X.K):=by
 intro pins s σ H x v vl vu lo hi sl Q I rx hs pl pu h
 obtain⟨a,xs,rfl,hx,q1,q2⟩:=h
 by_cases hw:HT.d9 xs.length 0 lo=0/\HT.d9 xs.length xs.length hi=xs.length
 ·cases rx
  obtain⟨its,r,ht,hz⟩:=I.tuple hx
  have hlen:its.toArray.size=xs.length:=by rw[zH];exact r.length.symm
  refine⟨"tuple",_,PyProof.Rows.slot_tuple_getitem.lookup,ht.typeIs,FR ht hs pl pu (by rw[hlen];exact hw) ⟨.ref a,H,I,rfl,q1 ?_⟩⟩
  unfold cut
  rw[hw.1,hw.2,List.drop_zero,Nat.sub_zero,List.take_length]
 ·exact Oe pins s σ H (.ref a) v vl vu lo hi sl Q I rx hs pl pu ⟨a,xs,rfl,hx,hw,q2⟩
def RP(K:W.Frag):V->Option Int->Option Int->Hp->VK->Prop:=fun x lo hi H Q=>∃a xs,x=.ref a/\ig K H a xs/\∀p,H p=none->Q (.ref p) (upd H p (.lst (cut xs lo hi)))
theorem BI(lo hi:Option Int)(n:Nat):sliceBounds lo hi none n=(((HT.d9 n 0 lo:Nat):Int),((HT.d9 n n hi:Nat):Int),1):=by
 have h1:(1:Int) > 0:=by omega
 refine Prod.ext ?_ (Prod.ext ?_ rfl)
 ·cases lo with
  | none=>simp[sliceBounds,HT.d9]
  | some x =>
   by_cases h:x < 0
   ·simp only[sliceBounds,HT.d9,kO,h1,xH,yL h];omega
   ·simp only[sliceBounds,HT.d9,kO,h1,xH,yN h];omega
 ·cases hi with
  | none=>simp[sliceBounds,HT.d9]
  | some x =>
   by_cases h:x < 0
   ·simp only[sliceBounds,HT.d9,kO,h1,xH,yL h];omega
   ·simp only[sliceBounds,HT.d9,kO,h1,xH,yN h];omega
theorem LJ:Mf X (RP X.K):=by
 intro pins s σ H x v vl vu lo hi sl Q I rx hs pl pu h
 obtain⟨a,xs,rfl,hx,q⟩:=h
 cases rx
 obtain⟨its,r,p,hz⟩:=I.list hx
 have hlen:=r.length
 refine⟨"list",_,slot_list_getitem.lookup,p.isList.typeIs,wpAny_getItem_list_slice p.isList hs pl pu .none (by simp) ?_ (by rw[zH];omega)⟩
 rw[W.kmk_pick_nat its.toArray (BI lo hi its.toArray.size)]
 have e:((its.toArray.toList.drop (HT.d9 its.toArray.size 0 lo)).take (HT.d9 its.toArray.size its.toArray.size hi - HT.d9 its.toArray.size 0 lo))=cut its lo hi:=by unfold cut;simp
 rw[e]
 have rc:aQ (cut xs lo hi) (cut its lo hi):=by unfold cut;rw[hlen];exact (r.drop _).take _
 exact⟨.ref s.heap.objs.size,_,I.lnew (t':=s.toks) rc (yC (Ky xs lo hi) hz),rfl,q _ I.fresh⟩
def Sy(K:W.Frag)(f:Env->Option (Option Int)):TO:=fun σ H Q=>∃HF ρ o,aW HF H/\cS K HF ρ σ/\f ρ=some o/\∀H' HF',bF HF H HF' H'->Q o H'
def DO(X:Cx)(e:Option Expr)(f:Env->Option (Option Int)):Prop:=PO X e (Sy X.K f)
def uj:Env->Option (Option Int):=fun _=>some none
def gI:D->Option Int|.int i=>some i|_=>none
def JQ(f:Env->Option D):Env->Option (Option Int):=fun ρ=>(f ρ).bind fun d=>(gI d).map some
theorem Kk:DO X none uj:=fun pins s σ H Q I ⟨HF,ρ,o,sm,eo,hf,q⟩=>Ks pins s σ H Q I (by cases hf;exact q H HF (.refl sm))
theorem LG{e:Expr}{f:Env->Option D}(h:DE X e f):DO X (some e) (JQ f):=fun pins s σ H Q I ⟨HF,ρ,o,sm,eo,hf,q⟩=>Lu h pins s σ H Q I (by
 obtain⟨d,hd,hf⟩:=bs hf
 obtain⟨i,hi,rfl⟩:=ag hf
 cases d<;>try cases hi
 exact⟨HF,ρ,_,sm,eo,hd,fun v H1 HF1 g1 r1=>⟨_,by simpa only[Rep] using r1,q H1 HF1 g1⟩⟩)
variable {a:Expr}{lo hi:Option Expr}{fa:Env->Option D}{fl fh:Env->Option (Option Int)}{pos p2:Pos}
def se{β:Type}(g:D->Option Int->Option Int->Option β)(fa:Env->Option D)(fl fh:Env->Option (Option Int)):Env->Option β:=fun ρ=>(fa ρ).bind fun x=>(fl ρ).bind fun l=>(fh ρ).bind fun h=>g x l h
end
section
variable {X:Cx}{a:Expr}{fa:Env->Option D}{pos p2 p3 p4:Pos}{j:Nat}
def f1(g:D->Option D)(f:Env->Option D):Env->Option D:=fun ρ=>(f ρ).bind g
end
end Dl
namespace HT
open PySem PyProof.Rows
section
open PySem.SeqAt
open PySem.AutoSeq1 (wpAny_loadPart')
open PySem.MeetsSeq PySem.MeetsSeq2 PySem.MeetsSeq3
theorem HK(A:Around)(s:Shared)(a:Int)(t:Tok)(c:Int)(u:Tok)(prog:Program)(w:World)(E:Value->Shared->Prop)(Q:Value->Shared->Prop)(h:Q (.bool (decide (c<=a))) s) :
  wpAny (model prog w) A (richCompare .GtE (.int a t) (.int c u)) Q E s :=
 (PyProof.Rows.ge_int h:wpAny (model prog w) A (compareOp .GtE (.int a t) (.int c u)) Q E s)
theorem ue(l b:Addr)(items items2:Array Value)(n n2:Nat)(dd dd2:Option Addr)(sl sl2:Array (Option Value))(ns ms:List Int)(hi:IntsAre items.toList ns)(hj:IntsAre items2.toList ms) :
  Meets (Builtin.«tuple.__ge__» ⟨[.ref l,.ref b],[]⟩)
   (fun _ R s=>s.heap.get? l=some { cls:=.type "tuple",dict:=dd,data:=.seq items n,slots:=sl }/\s.heap.get? b=some { cls:=.type "tuple",dict:=dd2,data:=.seq items2 n2,slots:=sl2 } /\
    R (.ok (.ret (.bool (!lexLt ns ms)))) s) :=
 .of_wp fun prog w A R s h=>by
  obtain⟨hp,g,d,tk,os⟩:=s;obtain⟨hl,hb,h⟩:=h
  have f2:=AutoSeq1.sub_tuple_tuple
  have z1:items.size=ns.length:=by rw[<- hi.length];simp
  have z2:items2.size=ms.length:=by rw[<- hj.length];simp
  wp_walk using wpAny_loadPart' hl,wpAny_loadPart' hb,wpAny_forIn_list _ (fun rest b s'=>b.1=none/\s'=⟨hp,g,d,tk,os⟩/\∃ (vs ws:List Value) (ns' ms':List Int),rest=vs.zip ws /\
   IntsAre vs ns'/\IntsAre ws ms'/\ns'.length+items2.size=ms'.length+items.size/\R (.ok (.ret (.bool (!lexLt ns' ms')))) ⟨hp,g,d,tk,os⟩) _
  case turn =>
   rintro⟨y,x⟩ rest b s' ⟨hb',rfl,vs,ws,ns',ms',hz,hvi,hwi,hlen,hR⟩
   cases hvi with
   | nil=>rw[List.zip_nil_left] at hz;cases hz
   | cons a t hvi' =>
    cases hwi with
    | nil=>rw[List.zip_nil_right] at hz;cases hz
    | cons c u hwi' =>
     rw[List.zip_cons_cons] at hz
     injection hz with hyx hrest
     injection hyx with hy hx
     subst hy hx
     rw[dN] at hR
     simp only[zL] at hlen
     obtain⟨e,he,hiff⟩:=GJ A.in1 ⟨hp,g,d,tk,os⟩ a t c u
     refine zU (he prog w _ _ ?_)
     cases e with
     | true =>
      rw[yL (hiff.mp rfl)] at hR
      wp_walk
      exact⟨rfl,rfl,_,_,_,_,hrest,hvi',hwi',by omega,hR⟩
     | false =>
      rw[yN (fun q=>absurd (hiff.mpr q) yZ)] at hR
      have hri:=HK A.in1 ⟨hp,g,d,tk,os⟩ a t c u prog w
      have e1:(!decide (a < c))=decide (c<=a):=by
       rw[<- decide_not]
       exact decide_eq_decide.mpr (by omega)
      rw[e1] at hR
      wp_walk using hri
      exact⟨_,rfl,hR⟩
  case fin =>
   rintro⟨b1,b2⟩ s' ⟨hb',rfl,vs,ws,ns',ms',hz,hvi,hwi,hlen,hR⟩
   simp only at hb'
   subst hb'
   have hv:lexLt ns' ms'=decide (items.size < items2.size):=by
    cases hvi with
    | nil =>
     cases hwi with
     | nil =>
      simp only[xK] at hlen
      rw[uq]
      exact (zY (by omega)).symm
     | cons c u hw =>
      simp only[xK,zL] at hlen
      rw[rX]
      exact (zZ (by omega)).symm
    | cons a t hv =>
     cases hwi with
     | nil =>
      simp only[xK,zL] at hlen
      rw[r8]
      exact (zY (by omega)).symm
     | cons c u hw =>
      rw[List.zip_cons_cons] at hz
      cases hz
   have hv2:(!lexLt ns' ms')=decide (items.size >= items2.size):=by
    rw[hv,<- decide_not]
    exact decide_eq_decide.mpr (by omega)
   rw[hv2] at hR
   wp_walk
   exact⟨_,rfl,hR⟩
  case h =>
   exact⟨rfl,rfl,items.toList,items2.toList,ns,ms,rfl,hi,hj,by omega,h⟩
end
end HT
namespace Dl
open PySem L2 PySem.Spec PyProof.Rows
section
variable {X:Cx}
def lW:D->Option (List Int)|.tuple ds=>intsOf ds|_=>none
theorem jq{x:D}{ns:List Int}(h:lW x=some ns):x=.tuple (ns.map PyData.int):=by
 cases x<;>try cases h
 rename_i xs
 have h:intsOf xs=some ns:=h
 rw[d0 h]
def Qn:D->D->Option Bool:=fun x y=>(lW x).bind fun ns=>(lW y).map fun ms=>!lexLt ns ms
theorem Jf(hu:X.A.units < cLine):iw X (compareOp .GtE) (QM X.K Qn):=by
 intro pins s σ H v1 v2 u1 u2 Q I rx ry h
 obtain⟨HF,x,y,k,sm,r1,r2,hg,q⟩:=h
 obtain⟨ns,h1,hg⟩:=bs hg
 obtain⟨ms,h2,rfl⟩:=ag hg
 rw[jq h1] at r1
 rw[jq h2] at r2
 have key:∀ {ns:List Int}{v:V}{u:Value},Rep X.K HF (.tuple (ns.map PyData.int)) v->RelV v u->∃a its,u=.ref a/\IsTup s.heap a its/\IntsAre its.toList ns:=fun {ns v u} r rv=>by
  have p:we s.heap u ns:=by
   cases oq (X:=X) (us:=[u]) (vs:=[v]) (nss:=[ns]) I sm (aw.cons r aw.nil) (.cons rv .nil) with
   | cons p _=>exact p
  obtain⟨a,o,its,n,rfl,e1,e2,e3,e4⟩:=p.ex
  exact⟨a,its,rfl,⟨o,e1,e2,n,e3⟩,e4⟩
 obtain⟨a,its,rfl,⟨⟨cls,dd,data,sl⟩,ho,hc,n,hd⟩,i1⟩:=key r1 rx
 obtain⟨b,its2,rfl,⟨⟨cls2,dd2,data2,sl2⟩,ho2,hc2,n2,hd2⟩,i2⟩:=key r2 ry
 simp only at hc hd hc2 hd2
 subst hc hd hc2 hd2
 exact richCompare_meets_room (op:=.GtE) ⟨_,ho,rfl⟩ ⟨_,ho2,rfl⟩ PySem.F.slot_tuple_ge PySem.F.entry_tuple_ge (PySem.F.args_tuple_ge_2 _ _) (HT.ue a b its its2 n n2 dd dd2 sl sl2 ns ms i1 i2)
  ⟨ho,ho2,show Value.bool (!lexLt ns ms)≠Value.notImplemented/\EP X pins σ Q (.bool (!lexLt ns ms)) s from ⟨(fun x=>nomatch x),⟨.bl _,H,I,rfl,q⟩⟩⟩ hu
end
end Dl
namespace En
open PySem PyProof.Rows
open AutoSeq1 (wpAny_loadPart')
theorem noFill_tup:fillsNumberSlot (.type "tuple") "mul"=pure false:=PySem.fillsNumberSlot_seq (id:="tuple.__mul__") (r:=some (.builtin "tuple.__rmul__")) F.slot_tuple_mul.lookup (by decide +kernel) F.slot_tuple_rmul.lookup (by decide +kernel)
theorem repeat_tup:seqRepeat? (.type "tuple")=pure (some (.builtin "tuple.__mul__")):=by
 unfold seqRepeat?
 rw[PySem.seqSlot_of (T:="tuple") (name:="__mul__") (id:="tuple.__mul__") F.slot_tuple_mul.lookup (by decide +kernel),PySem.seqSlot_of (T:="tuple") (name:="__rmul__") (id:="tuple.__rmul__") F.slot_tuple_rmul.lookup (by decide +kernel)];rfl
theorem rmul_tup(a:Int)(t:Tok)(l:Addr)(its:Array Value)(n:Nat)(dd:Option Addr)(sl:Array (Option Value)) :
  Meets (Builtin.«int.__rmul__» ⟨[.int a t,.ref l],[]⟩) (fun _ R s=>s.heap.get? l=some { cls:=.type "tuple",dict:=dd,data:=.seq its n,slots:=sl }/\R (.ok (.ret Value.notImplemented)) s) :=
 .of_wp fun prog w A R s h=>by
  obtain⟨hp,g,d,tk,os⟩:=s;obtain⟨hl,h⟩:=h
  wp_walk
  exact⟨_,rfl,h⟩
theorem mulT_same(l:Addr)(its:Array Value)(n:Nat)(dd:Option Addr)(sl:Array (Option Value))(k:Int)(t:Tok)(h1:¬ (decide (k < -(2 ^ 63))||decide (k >= 2 ^ 63))=true)(h2:(its.isEmpty||k == 1)=true) :
  Meets (Builtin.«tuple.__mul__» ⟨[.ref l,.int k t],[]⟩) (fun _ R s=>s.heap.get? l=some { cls:=.type "tuple",dict:=dd,data:=.seq its n,slots:=sl }/\R (.ok (.ret (.ref l))) s) :=
 .of_wp fun prog w A R s h=>by
  obtain⟨hp,g,d,tk,os⟩:=s;obtain⟨hl,h⟩:=h
  have f1:=AutoSeq1.idx_int
  wp_walk using wpAny_loadPart' hl
  rw[yN h1]
  wp_walk using wpAny_loadPart' hl
  exact⟨_,rfl,h⟩
theorem mulT_none(l:Addr)(its:Array Value)(n:Nat)(dd:Option Addr)(sl:Array (Option Value))(k:Int)(t:Tok)(h1:¬ (decide (k < -(2 ^ 63))||decide (k >= 2 ^ 63))=true)(h2:¬ (its.isEmpty||k == 1)=true)(h3:(decide (k<=0)||its.isEmpty)=true) :
  Meets (Builtin.«tuple.__mul__» ⟨[.ref l,.int k t],[]⟩) (fun _ R s=>s.heap.get? l=some { cls:=.type "tuple",dict:=dd,data:=.seq its n,slots:=sl }/\R (.ok (.ret (.ref s.heap.objs.size))) { s with heap:=s.heap.push { cls:=.type "tuple",data:=.seq #[] } }) :=
 .of_wp fun prog w A R s h=>by
  obtain⟨hp,g,d,tk,os⟩:=s;obtain⟨hl,h⟩:=h
  have f1:=AutoSeq1.idx_int
  wp_walk using wpAny_loadPart' hl
  rw[yN h1]
  wp_walk using wpAny_loadPart' hl
  exact⟨_,rfl,h⟩
theorem mulT_many(l:Addr)(its:Array Value)(n:Nat)(dd:Option Addr)(sl:Array (Option Value))(k:Int)(t:Tok)(h1:¬ (decide (k < -(2 ^ 63))||decide (k >= 2 ^ 63))=true)(h2:¬ (its.isEmpty||k == 1)=true)(h3:¬ (decide (k<=0)||its.isEmpty)=true)
  (h4:¬ ((its.size:Nat):Int) * k > (2 ^ 63 - 1) / 8) (h5:¬ Builtin.Tuple.tupleTooMany (((its.size:Nat):Int) * k)=true) (hz:((List.replicate k.toNat its).foldl (·++·) #[]).size<=sizeLine) :
  Meets (Builtin.«tuple.__mul__» ⟨[.ref l,.int k t],[]⟩) (fun _ R s=>s.heap.get? l=some { cls:=.type "tuple",dict:=dd,data:=.seq its n,slots:=sl }/\R (.ok (.ret (.ref s.heap.objs.size))) { s with heap:=s.heap.push { cls:=.type "tuple",data:=.seq ((List.replicate k.toNat its).foldl (·++·) #[]) } }) :=
 .of_wp fun prog w A R s h=>by
  obtain⟨hp,g,d,tk,os⟩:=s;obtain⟨hl,h⟩:=h
  have f1:=AutoSeq1.idx_int
  wp_walk using wpAny_loadPart' hl
  rw[yN h1]
  wp_walk using wpAny_loadPart' hl
  rw[yN h4]
  wp_walk using wpAny_loadPart' hl
  exact⟨_,rfl,h⟩
end En
namespace Dl
open PySem L2 PySem.Spec PyProof.Rows
section
variable {X:Cx}
def Mt(K:W.Frag):R2:=fun x y H Q=>∃a k xs,x=.ref a/\y=.int k/\iY K H a xs/\-(2 ^ 62)<=k/\k < 2 ^ 62/\xs.length * k.toNat<=sizeLine/\((List.replicate k.toNat xs).flatten=xs->Q (.ref a) H) /\
 ∀p,H p=none->Q (.ref p) (upd H p (.tup (List.replicate k.toNat xs).flatten))
theorem KS:iw X (binaryOp .Mult) (Mt X.K):=by
 intro pins s σ H x y v u Q I rx ry h
 obtain⟨a,k,xs,rfl,rfl,hq,k1,k2,hz,q1,q2⟩:=h
 cases rx
 obtain⟨t,rfl⟩:=ry
 obtain⟨its,r,pl,hzx⟩:=I.tuple hq
 have hl:=r.length
 obtain⟨⟨cls,dd,data,sl⟩,ho,hc,n,hd⟩:=id pl
 simp only at hc hd
 subst hc hd
 have b1:¬ (decide (k < -(2 ^ 63))||decide (k >= 2 ^ 63))=true:=by
  simp only[jB,zJ]
  omega
 refine wpAny_binaryOp_repeat_ref (T:="tuple") (U:="int") (by decide) ⟨_,ho,rfl⟩ (fun s'=>wL s' k t) En.noFill_tup F.fills_int_mul vX En.repeat_tup F.slot_int_index.lookup
  (qX vX (wL s k t) F.entry_int_rmul (F.args_int_rmul_2 _ _) (En.rmul_tup k t a its.toArray n dd sl) ⟨ho,rfl,⟨_,ho,rfl⟩,?_⟩)
 have hfl:∀m:Nat,List.foldl (fun x1 x2=>x1++x2) #[] (List.replicate m its.toArray)=(List.replicate m its).flatten.toArray:=fun m=>by
  have:=foldl_rep its m []
  rw[xO] at this
  exact this
 by_cases h2:(its.toArray.isEmpty||k == 1)=true
 ·refine qX F.slot_tuple_mul ⟨_,ho,rfl⟩ Zb (wN _ _) (En.mulT_same a its.toArray n dd sl k t b1 h2) ⟨ho,⟨.ref a,H,I,rfl,q1 ?_⟩⟩
  rw[jB] at h2
  rcases h2 with h2|h2
  ·have:xs=[]:=by
    have e:its=[]:=by simpa using h2
    rw[e] at hl
    exact List.length_eq_zero_iff.mp hl
   rw[this]
   simp
  ·have:k=1:=eq_of_beq h2
   subst this
   simp
 ·by_cases h3:(decide (k<=0)||its.toArray.isEmpty)=true
  ·refine qX F.slot_tuple_mul ⟨_,ho,rfl⟩ Zb (wN _ _) (En.mulT_none a its.toArray n dd sl k t b1 h2 h3) ⟨ho,?_⟩
   have hk0:k.toNat=0:=by
    simp only[jB,zJ] at h3 h2
    rcases h3 with h3|h3
    ·omega
    ·exact absurd (.inl h3) h2
   have q3:=q2 s.heap.objs.size I.fresh
   rw[hk0] at q3
   exact⟨.ref s.heap.objs.size,_,I.laid (t':=s.toks) (o:=.tup []) (fun b ob q=>zT _ q) (yM _) ⟨xV _,[],.nil,sJ.new _ _⟩,rfl,q3⟩
  ·have hm:its.length * k.toNat<=sizeLine:=by rw[<- hl];exact hz
   have hkn:(k.toNat:Int)=k:=by
    simp only[jB,zJ,not_or] at h3
    omega
   have hmi:((its.toArray.size:Nat):Int) * k=((its.length * k.toNat:Nat):Int):=by rw[zH,Int.natCast_mul,hkn]
   have hv:=L2.aQ.rep r k.toNat
   have hlen2:(List.replicate k.toNat xs).flatten.length<=sizeLine:=by rw[len_rep,Nat.mul_comm];exact hz
   have hs8:(sizeLine:Nat)<=(2 ^ 63 - 1) / 8:=by decide
   have h4:¬ ((its.toArray.size:Nat):Int) * k > (2 ^ 63 - 1) / 8:=by rw[hmi];omega
   have h5:¬ Builtin.Tuple.tupleTooMany (((its.toArray.size:Nat):Int) * k)=true:=by
    unfold Builtin.Tuple.tupleTooMany
    rw[hmi]
    simp only[zJ]
    omega
   refine qX F.slot_tuple_mul ⟨_,ho,rfl⟩ Zb (wN _ _) (En.mulT_many a its.toArray n dd sl k t b1 h2 h3 h4 h5 (by rw[hfl,zH,<- hv.length];exact hlen2)) ⟨ho,?_⟩
   rw[hfl]
   exact⟨.ref s.heap.objs.size,_,I.laid (t':=s.toks) (o:=.tup (List.replicate k.toNat xs).flatten) (fun b ob q=>zT _ q) (yM _) ⟨hlen2,_,hv,sJ.new _ _⟩,rfl,q2 _ I.fresh⟩
def Bc:D->D->Option D
 | .tuple ds,.int k=>if Aa k=true/\ds.length * k.toNat<=sizeLine then some (.tuple (List.replicate k.toNat ds).flatten) else none
 | _,_=>none
theorem ny{K:W.Frag}{HF:Hp}{ds:List D}{vs:List V}(r:aw K HF ds vs):∀k:Nat,aw K HF (List.replicate k ds).flatten (List.replicate k vs).flatten
 | 0=>aw.nil
 | k+1=>by rw[xE,xE,qM,qM];exact r.append (ny r k)
theorem Jr{K:W.Frag}:fX K (Mt K) Bc:=by
 intro HF H x y v1 v2 d Q sm r1 r2 hg q
 cases x<;>cases y<;>simp only[Bc] at hg<;>try cases hg
 split at hg
 ·rename_i xs k hh
  cases hg
  simp only[Rep] at r1 r2
  obtain⟨a,vs,rfl,ha,ra⟩:=r1
  have ok:=hh.1
  unfold Aa at ok
  rw[zF] at ok
  refine⟨a,k,vs,rfl,r2,aL sm ha,yQ ok.1,yQ ok.2,by rw[ra.length];exact hh.2,fun e=>q _ H HF (.refl sm) ?_,fun p hp=>q _ _ _ (.new sm hp) (eW (sm.free hp) (ny ra _))⟩
  simp only[Rep]
  refine⟨a,vs,rfl,ha,?_⟩
  have:=ny ra k.toNat
  rw[e] at this
  exact this
 ·cases hg
end
end Dl
namespace En
open PySem PyProof.Rows
section
variable {prog:Program}{w:World}{A:Around}{E:Value->Shared->Prop}{s:Shared}
theorem call_setT{l:Addr}{its:Array Value}{ns:List Int}{Q:Value->Shared->Prop}(hh:A.handled=none)(hl:s.heap.IsTuple l its)(hi:IntsAre its.toList ns)(hb:its.size+1 < scanBound)
  (h:∀ (h':Heap) (tk:Nat),h'.SetOf (intKind prog w) s.heap.objs.size (fun k'=>(firstMet (fun i=>ns.getD i 0) its.size).any (· == k')) (firstMet (fun i=>ns.getD i 0) its.size).length->(∀b o,b < s.heap.objs.size->s.heap.get? b=some o->h'.get? b=some o)->Q (.ref s.heap.objs.size) { s with heap:=h',toks:=tk }) :
  wpAny (model prog w) A (call (.type "set") [.ref l]) Q E s:=by
 obtain⟨c,tl,hmro⟩:=F.called_set.mro
 have hmade:=F.called_set.made
 have hsub:=F.called_set.sub
 refine vL (codeAny_of_tree ?_);show wpAny _ _ (callAny (.type "set") _) _ _ _
 refine zV ⟨wQ _ (by decide +kernel),kF F.entry_type_call ?_⟩
 rw[Around.under_plain (weight_type_call_type "set" [.ref l] []) rfl]
 have h1:=F.called_set.notType
 have h2:=F.called_set.canCreate
 have hct:=F.typeCall_set_1 (.ref l)
 repeat (any_goals (first|assumption|wp_step))
 refine jS (code_set_new_1 (.ref l) (E:=E) (Q₁:=fun obj s1=>∃led:Bool,obj=.ref s.heap.objs.size/\s1={ s with heap:=s.heap.push { cls:=.type "set",dict:=none,data:=.set #[] 0 (.fresh 0 0 led) } }) fun led=>⟨led,rfl,rfl⟩) fun r s1 hr=>?_
 cases r with
 | error e=>exact hr
 | ok fl =>
  cases fl with
  | ret obj =>
   obtain⟨led,rfl,rfl⟩:=hr
   have hS:(s.heap.push { cls:=.type "set",dict:=none,data:=.set #[] 0 (.fresh 0 0 led) }).get? s.heap.objs.size=some { cls:=.type "set",dict:=none,data:=.set #[] 0 (.fresh 0 0 led) }:=by exact zW _ rfl
   have hT:Shared.TypeIs { s with heap:=s.heap.push { cls:=.type "set",dict:=none,data:=.set #[] 0 (.fresh 0 0 led) } } (.ref s.heap.objs.size) "set":=⟨_,hS,rfl⟩
   have hli:=F.called_set.init.lookup
   have hbi:=F.called_set.init.bind (.ref s.heap.objs.size)
   repeat (any_goals (first|assumption|wp_step))
   refine jS (wF (R:=wants (fun r s2=>r=.none/\∃h' tk,s2={ s with heap:=h',toks:=tk }/\h'.SetOf (intKind prog w) s.heap.objs.size (fun k'=>(firstMet (fun i=>ns.getD i 0) its.size).any (· == k')) (firstMet (fun i=>ns.getD i 0) its.size).length /\
     (∀b o,b < s.heap.objs.size->s.heap.get? b=some o->h'.get? b=some o)) E) F.called_set.init.plain F.entry_set_init (check_set_init_1 hT ?_)) fun r2 s2 hr2=>?_
   ·obtain⟨ol,hol,hcl,nl,hdl⟩:=hl
    obtain⟨ocls,odict,odata,oslots⟩:=ol
    simp only at hcl hdl
    subst hcl hdl
    have hol':(s.heap.push { cls:=.type "set",dict:=none,data:=.set #[] 0 (.fresh 0 0 led) }).get? l=some { cls:=.type "tuple",dict:=odict,data:=.seq its nl,slots:=oslots }:=zT _ hol
    have hsls:=F.sub_tuple_set
    have hslf:=F.sub_tuple_frozenset
    have hne:(Value.type "tuple" == Value.type "dict")=false:=by decide
    have hl1:(s.heap.push { cls:=.type "set",dict:=none,data:=.set #[] 0 (.fresh 0 0 led) }).IsTuple l its:=⟨_,hol',rfl,nl,rfl⟩
    unfold Builtin.«set.__init__» noKeywords Builtin.Frozenset.updateFrom
    generalize hPI:pyIter=PI
    wp_walk
    subst hPI
    refine xR hl1 (zU (wpAny_runValue ?_))
    have hlS:l < s.heap.objs.size:=zX hol
    have hh3:A.in1.in1.in1.handled=none:=by simp[hh]
    have hneI:l≠(s.heap.push { cls:=.type "set",dict:=none,data:=.set #[] 0 (.fresh 0 0 led) }).objs.size:=by rw[xJ];exact yR (jO hlS)
    have hSf:s.heap.objs.size∉[(s.heap.push { cls:=.type "set",dict:=none,data:=.set #[] 0 (.fresh 0 0 led) }).objs.size,l]:=by
     rw[xJ];simp only[zQ,yE,xU,not_or]
     exact⟨yR (kP _),jI hlS⟩
    have hval:∀ (i:Nat) (v:Value),its[i]?=some v->∃t,v=.int ((fun i=>ns.getD i 0) i) t:=fun i v hv=>IntsAre.int_at hi i v (by rw[Array.getElem?_toList];exact hv)
    refine codeAny_set_update_loopS ((Walks.tuple hh3 _ l hneI its).toS) s.heap.objs.size hSf (fun i=>ns.getD i 0) hval hb (its.size - 0) 0 _ (by omega) (xV _) ⟨⟨_,zW _ rfl,rfl,rfl⟩,?ht⟩ ?hS0 ?hR
    case ht=>exact⟨_,zT _ hol',rfl,nl,rfl⟩
    case hS0 =>
     have hget:((s.heap.push { cls:=.type "set",dict:=none,data:=.set #[] 0 (.fresh 0 0 led) }).push { cls:=.type "tuple_iterator",data:=.fields #[.ref l,.int 0 0] }).get? s.heap.objs.size=some { cls:=.type "set",dict:=none,data:=.set #[] 0 (.fresh 0 0 led) }:=by exact zT _ hS
     exact SetOf_congr ((setObjOf_fresh (knd:=intKind prog w) led).setOf hget (by unfold scanBound;omega)) (fun _=>rfl) rfl
    case hR =>
     intro s' hm hS'
     obtain⟨h',g',d',tk',os'⟩:=s'
     have eg:g'=s.gens:=hm.gens
     have ed:d'=s.drawn:=hm.drawn
     have eo:os'=s.os:=hm.os
     subst eg ed eo
     show wpAny _ _ _ _ _ _
     refine zV ?_
     show wpAny _ _ (ret Value.none) _ _ _
     refine zV ⟨rfl,h',tk',rfl,hS',fun b o hb' e=>?_⟩
     refine hm.heap b o ?_ (zT _ (zT _ e))
     simp only[zQ,yE,xU,not_or]
     exact⟨yR hb',by rw[xJ];exact yR (jO hb')⟩
   ·cases r2 with
    | error e=>exact hr2
    | ok fl2 =>
     cases fl2 with
     | ret r =>
      obtain⟨rfl,h',tk,rfl,hS',hk'⟩:=hr2
      repeat (any_goals (first|assumption|wp_step))
      exact h _ _ hS' hk'
     | _=>exact hr2.elim
  | _=>exact hr.elim
end
end En
namespace Dl
open PySem L2 PySem.Spec PyProof.Rows
def many(ns:List Int):Nat:=(firstMet (fun i=>ns.getD i 0) ns.length).length
section
variable {X:Cx}{e:Expr}{f:Env->Option D}{pos p p' pos':Pos}
theorem EF(hc:X.calm=true):eK X (.type "set") (fun xs H Q=>∃ (a:Addr) (ns:List Int),xs=[.ref a]/\iY X.K H a (ns.map V.int)/\ns.length+1 < scanBound/\∀q S,H q=none->Q (.ref q) (upd H q (.set S (many ns)))):=by
 intro pins s σ H xs us Q I r h
 obtain⟨a,ns,rfl,hq,hb,q⟩:=h
 obtain⟨u,rfl,rx⟩:=vals1 r
 cases rx
 obtain⟨its,rv,pl,hz⟩:=I.tuple hq
 have hi:IntsAre its.toArray.toList ns:=intsAre_of rv
 have hlen:its.toArray.size=ns.length:=by have:=rv.length;simpa using this.symm
 refine En.call_setT (I.ok.hd hc) (show s.heap.IsTuple a its.toArray from pl) hi (by rw[hlen];exact hb) fun h' tk hS hk=>?_
 rw[hlen] at hS
 exact⟨.ref s.heap.objs.size,_,I.laid (t':=tk) (fun b o e=>hk b o (zX e) e) (yM _) (show eL X.prog X.w _ h' _ (.set _ (many ns)) from hS),rfl,q _ _ I.fresh⟩
theorem ED:eK X (.builtin "len") (fun xs H Q=>∃ (a:Addr) (S:Int->Bool) (n:Nat),xs=[.ref a]/\H a=some (.set S n)/\Q (.int n) H):=by
 intro pins s σ H xs us Q I r h
 obtain⟨a,S,n,rfl,hq,q⟩:=h
 obtain⟨u,rfl,rx⟩:=vals1 r
 cases rx
 obtain⟨o,es,ep,t,ho,hex,hd,hel,hmem,hlt,hf,hn⟩:=(show s.heap.SetOf (intKind X.prog X.w) a S n from I.hok a _ hq)
 have hfit:((es.size:Nat):Int) < 2 ^ 63:=by unfold scanBound at hlt;omega
 refine call_len_set ho hex hd hf hfit ⟨.int n,H,I.tok _,⟨s.toks+1,by rw[hn]⟩,q⟩
def l6:D->Option D:=fun d=>(lW d).bind fun ns=>if ns.length+1 < scanBound then some (.int (many ns)) else none
theorem FP(hc:X.calm=true)(B:pO X "len" (.builtin "len"))(C:pO X "set" (.type "set"))(h:DE X e f)(he:starEach [e] X.env=(false,eval e X.env)::starEach [] X.env:=by rfl) :
  DE X (.Call (.Name "len" p) [.Call (.Name "set" p') [e] [] pos'] [] pos) (f1 l6 f) :=
 bf (nI ED B.gl B.mg B.bt (bM (pq (EF hc) C.gl C.mg C.bt (bM h dP he) (by decide) (by decide) he rfl) dP) (by decide) (by decide) rfl rfl) fun σ H Q ⟨HF,ρ,d,sm,eo,hf,q⟩=>by
  obtain⟨x,hx,hf⟩:=bs hf
  obtain⟨ns,h1,hf⟩:=bs hf
  split at hf
  ·rename_i hb
   cases hf
   refine⟨HF,ρ,x,sm,eo,hx,fun v1 H1 HF1 g1 r1=>?_⟩
   rw[jq h1] at r1
   simp only[Rep] at r1
   obtain⟨a,vs,rfl,hs,rr⟩:=r1
   have key:∀ {ns:List Int}{ws:List V},aw X.K HF1 (ns.map PyData.int) ws->ws=ns.map V.int:=fun {ns}=>by
    induction ns with
    | nil=>exact fun h=>h.nil_inv
    | cons n ns ih =>
     intro ws h
     obtain⟨v,r,rfl,a,b⟩:=h.cons_inv
     simp only[Rep] at a
     rw[a,ih b]
     rfl
   have:=key rr
   subst this
   refine⟨a,ns,rfl,aL g1.fh hs,hb,fun b S hb'=>⟨b,S,_,rfl,aC,q _ _ HF1 (g1.trans (.own g1.fh hb')) (by simp[Rep])⟩⟩
  ·cases hf
end
theorem lD(val:Nat->Int):∀i,(firstMet val i).length=i↔((List.range i).map val).Nodup
 | 0=>by simp[firstMet]
 | i+1=>by
  have hle:=firstMet_length_le val i
  rw[firstMet_succ,step_length,List.range_succ,jA,List.nodup_append]
  have ha:=firstMet_any val i (val i)
  have ih:=lD val i
  constructor
  ·intro h
   by_cases hin:(firstMet val i).any (· == val i)=true
   ·rw[yL hin] at h;omega
   ·rw[yN hin] at h
    refine⟨ih.mp (by omega),by simp,fun a hm b hb z=>?_⟩
    have hb':b=val i:=by simpa using hb
    subst z hb'
    rw[ha] at hin
    exact hin (List.any_eq_true.mpr ⟨_,hm,by simp⟩)
  ·rintro⟨h1,_,h3⟩
   rw[yN ?_]
   ·rw[ih.mpr h1]
   ·rw[ha]
    intro hin
    obtain⟨x,hx,he⟩:=List.any_eq_true.mp hin
    have he':x=val i:=by simpa using he
    exact h3 x hx (val i) (by simp) he'
theorem B1(ns:List Int):many ns=ns.length↔ns.Nodup:=by
 unfold many
 rw[lD]
 have:(List.range ns.length).map (fun i=>ns.getD i 0)=ns:=kq ns 0
 rw[this]
section
variable {X:Cx}{N:List Str}{sc:Scope}{k:Nat}{a b c e e2:Expr}{es:List Expr}{fa fb fc f:Env->Option D}{fs:Env->Option (List D)}{pos p p' pos' p2 p3 p4 px apos cpos tp:Pos}{x y:Str}{HF₀ H₀:Hp}
theorem qw{K:W.Frag}{r r':R2}{g g':D->D->Option D}(h:fX K r g)(h':fX K r' g'):fX K (fun x y H Q=>r x y H Q\/r' x y H Q) (fun x y=>(g x y).or (g' x y)):=by
 intro HF H x y v1 v2 d Q sm r1 r2 hg q
 cases e:g x y with
 | some d' =>
  have hg:(g x y).or (g' x y)=some d:=hg
  rw[e] at hg
  cases hg
  exact .inl (h HF H x y v1 v2 d Q sm r1 r2 e q)
 | none =>
  have hg:(g x y).or (g' x y)=some d:=hg
  rw[e] at hg
  exact .inr (h' HF H x y v1 v2 d Q sm r1 r2 hg q)
theorem EL{K:W.Frag}:fX K (Je K) (fun x y=>(uN x y).map PyData.list):=by
 intro HF H x y v1 v2 d Q sm r1 r2 hg q
 obtain⟨zs,hg',rfl⟩:=ag hg
 clear hg
 cases x<;>cases y<;>simp only[uN] at hg'<;>try cases hg'
 obtain⟨rfl,hz⟩:=eS hg'
 simp only[Rep] at r1 r2
 obtain⟨a,vs,rfl,ha,ra⟩:=r1
 obtain⟨b,us,rfl,hb,rb⟩:=r2
 refine⟨a,b,vs,us,rfl,rfl,sm.seq ha,sm.seq hb,by rw[ra.length,rb.length,<- zN];exact hz,fun p hp=>q _ _ _ (.new sm hp) ?_⟩
 simp only[Rep]
 exact⟨p,_,rfl,.inl (.inl aC),(ra.append rb).mono (eC (sm.free hp))⟩
def aI:D->D->Option D:=fun x y=>((za (fun _ _=>True) fun i j=>.int (i+j)) x y).or ((Ke x y).or ((uN x y).map PyData.list))
theorem Bk.add(C:Bk X N sc k)(ha:DE X a fa)(hb:DE X b fb):DE X (.BinOp a .Add b pos) (f2 aI fa fb):=zp (MV.or (Fe.or rR)) (qw GB (qw KE EL)) ha hb
def cU:D->D->Option D:=za (fun _ _=>True) fun i j=>.int (i - j)
theorem Bk.sub(C:Bk X N sc k)(ha:DE X a fa)(hb:DE X b fb):DE X (.BinOp a .Sub b pos) (f2 cU fa fb):=zp N8 GB ha hb
def dM:D->D->Option D:=fun x y=>((za tZ fun i j=>.int (i * j)) x y).or (Bc x y)
theorem Bk.mul(C:Bk X N sc k)(ha:DE X a fa)(hb:DE X b fb):DE X (.BinOp a .Mult b pos) (f2 dM fa fb):=zp (Oq.or KS) (qw Hw Jr) ha hb
def ow:D->D->Option D:=za JZ fun i j=>.int (i / j)
theorem Bk.div(C:Bk X N sc k)(ha:DE X a fa)(hb:DE X b fb):DE X (.BinOp a .FloorDiv b pos) (f2 ow fa fb):=zp Ls Hw ha hb
def md:D->D->Option D:=za (fun _ j=>0 < j) fun i j=>.int (i % j)
theorem Bk.mod(C:Bk X N sc k)(ha:DE X a fa)(hb:DE X b fb):DE X (.BinOp a .Mod b pos) (f2 md fa fb):=zp ML Hw ha hb
def yc:D->D->Option D:=za (fun _ _=>True) fun i j=>.bool (decide (i < j))
def Dq:D->D->Option D:=za (fun _ _=>True) fun i j=>.bool (decide (i<=j))
def tm:D->D->Option D:=za (fun _ _=>True) fun i j=>.bool (decide (j < i))
def RI:D->D->Option D:=fun x y=>((za (fun _ _=>True) fun i j=>.bool (decide (j<=i))) x y).or ((Qn x y).map PyData.bool)
def ba:D->D->Option D:=fun x y=>(MB x y).map PyData.bool
def dv:D->D->Option D:=fun x y=>(Kh x y).map PyData.bool
theorem Bk.u64(C:Bk X N sc k):X.A.units+64 < cLine:=C.room.units
theorem Bk.lt(C:Bk X N sc k)(ha:DE X a fa)(hb:DE X b fb):DE X (.Compare a [.Lt] [b] pos) (f2 yc fa fb):=lg IG ib ha hb (dm _)
theorem Bk.le(C:Bk X N sc k)(ha:DE X a fa)(hb:DE X b fb):DE X (.Compare a [.LtE] [b] pos) (f2 Dq fa fb):=lg HQ ib ha hb (dm _)
theorem Bk.gt(C:Bk X N sc k)(ha:DE X a fa)(hb:DE X b fb):DE X (.Compare a [.Gt] [b] pos) (f2 tm fa fb):=lg Mc ib ha hb (dm _)
theorem Bk.ge(C:Bk X N sc k)(ha:DE X a fa)(hb:DE X b fb):DE X (.Compare a [.GtE] [b] pos) (f2 RI fa fb):=lg (L5.or (Jf C.room.units0)) (qw ib o4) ha hb (dm _)
theorem Bk.eq(C:Bk X N sc k)(ha:DE X a fa)(hb:DE X b fb):DE X (.Compare a [.Eq] [b] pos) (f2 ba fa fb):=lg (Iv C.u64) o4 ha hb (dm _)
theorem Bk.ne(C:Bk X N sc k)(ha:DE X a fa)(hb:DE X b fb):DE X (.Compare a [.NotEq] [b] pos) (f2 dv fa fb):=lg (Iz C.u64) o4 ha hb (dm _)
theorem Bk.tlt(C:Bk X N sc k)(ha:DE X a fa)(hb:DE X b fb):DT X (.Compare a [.Lt] [b] pos) (fB (f2 yc fa fb)):=lu IG ib ha hb (dm _)
theorem Bk.tle(C:Bk X N sc k)(ha:DE X a fa)(hb:DE X b fb):DT X (.Compare a [.LtE] [b] pos) (fB (f2 Dq fa fb)):=lu HQ ib ha hb (dm _)
theorem Bk.tgt(C:Bk X N sc k)(ha:DE X a fa)(hb:DE X b fb):DT X (.Compare a [.Gt] [b] pos) (fB (f2 tm fa fb)):=lu Mc ib ha hb (dm _)
theorem Bk.tge(C:Bk X N sc k)(ha:DE X a fa)(hb:DE X b fb):DT X (.Compare a [.GtE] [b] pos) (fB (f2 RI fa fb)):=lu (L5.or (Jf C.room.units0)) (qw ib o4) ha hb (dm _)
theorem Bk.teq(C:Bk X N sc k)(ha:DE X a fa)(hb:DE X b fb):DT X (.Compare a [.Eq] [b] pos) (fB (f2 ba fa fb)):=lu (Iv C.u64) o4 ha hb (dm _)
theorem Bk.tne(C:Bk X N sc k)(ha:DE X a fa)(hb:DE X b fb):DT X (.Compare a [.NotEq] [b] pos) (fB (f2 dv fa fb)):=lu (Iz C.u64) o4 ha hb (dm _)
def mC:D->Option Int->Option Int->Option D|.tuple ds,lo,hi=>some (.tuple (cut ds lo hi))|.list ds,lo,hi=>some (.list (cut ds lo hi))|_,_,_=>none
theorem Bk.cut(C:Bk X N sc k){lo hi:Option Expr}{fl fh:Env->Option (Option Int)}(ha:DE X a fa)(hl:DO X lo fl)(hh:DO X hi fh):DE X (.Subscript a (.Slice lo hi none p2) pos) (se mC fa fl fh):=bf (Gr (NF.or LJ) ha hl hh) fun σ H Q ⟨HF,ρ,d,sm,eo,hf,q⟩=>by
 obtain⟨x,hx,hf⟩:=bs hf
 obtain⟨l,hl,hf⟩:=bs hf
 obtain⟨u,hu,hf⟩:=bs hf
 refine⟨HF,ρ,x,sm,eo,hx,fun v1 H1 HF1 g1 r1=>⟨HF1,ρ,l,g1.fh,eo.mono g1.ff,hl,fun H2 HF2 g2=>⟨HF2,ρ,u,g2.fh,eo.mono (g1.ff.trans g2.ff),hu,fun H3 HF3 g3=>?_⟩⟩⟩
 have G:=(g1.trans g2).trans g3
 have r3:=r1.mono (g2.ff.trans g3.ff)
 cases x<;>try cases hf
 ·simp only[Rep] at r3
  obtain⟨b,vs,rfl,hs,rr⟩:=r3
  refine .inr ⟨b,vs,rfl,G.fh.seq hs,fun p hp=>q _ _ _ (G.trans (.new G.fh hp)) ?_⟩
  simp only[Rep]
  exact⟨p,_,rfl,.inl (.inl aC),(rZ rr l u).mono (eC (G.fh.free hp))⟩
 ·simp only[Rep] at r3
  obtain⟨b,vs,rfl,hs,rr⟩:=r3
  refine .inl ⟨b,vs,rfl,aL G.fh hs,fun e=>q _ H3 HF3 G ?_,fun p hp=>q _ _ _ (G.trans (.new G.fh hp)) (eW (G.fh.free hp) (rZ rr l u))⟩
  simp only[Rep]
  refine⟨b,vs,rfl,hs,?_⟩
  have:=rZ rr l u
  rw[e] at this
  exact this
def JF:D->Option D|.int i=>some (.int (-i))|_=>none
theorem Bk.neg(C:Bk X N sc k)(ha:DE X a fa):DE X (.UnaryOp .USub a pos) (f1 JF fa):=bf (Ph N3 ha) fun σ H Q ⟨HF,ρ,d,sm,eo,hf,q⟩=>by
 obtain⟨x,hx,hf⟩:=bs hf
 refine⟨HF,ρ,x,sm,eo,hx,fun v1 H1 HF1 g1 r1=>?_⟩
 cases x<;>try cases hf
 exact⟨_,by simpa only[Rep] using r1,q _ H1 HF1 g1 (by simp[Rep])⟩
theorem Hn:bootBuiltins "len"=some (.builtin "len"):=by decide +kernel
theorem tE:bootBuiltins "isinstance"=some (.builtin "isinstance"):=by decide +kernel
theorem Jd:bootBuiltins "tuple"=some (.type "tuple"):=by decide +kernel
theorem LL:bootBuiltins "list"=some (.type "list"):=by decide +kernel
theorem Bx:bootBuiltins "range"=some (.type "range"):=by decide +kernel
theorem MQ:bootBuiltins "all"=some (.builtin "all"):=by decide +kernel
theorem OV:bootBuiltins "set"=some (.type "set"):=by decide +kernel
theorem oS:bootBuiltins "sorted"=some (.builtin "sorted"):=by decide +kernel
theorem xw:bootBuiltins "enumerate"=some (.type "enumerate"):=by decide +kernel
theorem ME:bootBuiltins "zip"=some (.type "zip"):=by decide +kernel
end
abbrev bR(f:Env->Option (List D)):Env->Option D:=fun ρ=>(f ρ).map PyData.list
abbrev bV:List D->Option D:=fun ds=>(cI ds).map PyData.tuple
section
variable {X:Cx}{N:List Str}{sc:Scope}{k:Nat}
theorem Bk.locl(C:Bk X N sc k){x:Str}(h:decide (sc.names.lookup x=some .local)=true):X.env.scope.names.lookup x=some .local:=by
 rcases C.tb x _ (yQ h) with q|⟨q,_⟩
 ·exact q
 ·cases q
def isStar:Expr->Bool|.Starred ..=>true|_=>false
theorem bz{e:Expr}{es:List Expr}{env:PySem.Env}(h:isStar e=false):starEach (e::es) env=(false,eval e env)::starEach es env:=by
 cases e<;>first|rfl|cases h
theorem Na{e:Expr}{es:List Expr}{f:Env->Option D}{g:Env->Option (List D)}(he:DE X e f)(hs:DA X es g)(h:isStar e=false:=by rfl):DA X (e::es) (aa f g):=Ee he hs (bz h)
theorem sx{elt:Expr}{gens:List Comprehension}{scope:Scope}{pos py:Pos}{x:Str}{line:Nat}{env:PySem.Env}:swapsWith (.ListComp elt gens scope pos) (some (.Name x py)) line env=pure (env.blockKind == .function&&env.kindOf x == some .local && py.line == pos.line
     &&!(scope.names.any fun (n,k)=>n == x&&(k == .local || k == .cell))):=rfl
theorem Mm{env:PySem.Env}(h:env.scope.kind=.function):env.blockKind=.function:=by unfold PySem.Env.blockKind;rw[h];rfl
theorem Bk.swap(C:Bk X N sc k){elt:Expr}{gens:List Comprehension}{scope:Scope}{pos py:Pos}{x:Str}{line:Nat}(h:decide (sc.names.lookup x=some .local)=true)(h2:(py.line == pos.line&&!(scope.names.any fun (n,k)=>n == x&&(k == .local || k == .cell)))=true) :
  swapsWith (.ListComp elt gens scope pos) (some (.Name x py)) line X.env=pure true:=by
 rw[sx,Mm C.kd,show X.env.kindOf x=some .local from C.locl h]
 rw[Bool.and_assoc,h2]
 rfl
theorem Bk.noswap(C:Bk X N sc k){elt:Expr}{gens:List Comprehension}{scope:Scope}{pos py:Pos}{x:Str}{line:Nat}(h:decide (sc.names.lookup x=some .cell)=true) :
  swapsWith (.ListComp elt gens scope pos) (some (.Name x py)) line X.env=pure false:=by
 have q:X.env.kindOf x=some .cell:=by
  rcases C.tb x _ (yQ h) with q|⟨q,_⟩
  ·exact q
  ·cases q
 rw[sx,q,Mm C.kd]
 rfl
end
section
variable {K:W.Frag}
structure aU(K:W.Frag)(x:Str)(st:Stmt)(ps:List Str):Prop where
 ex:∃ (f:Addr) (fd:FuncData),W.nsIn K mainGlobals x=some (some (.ref f))/\GK K x x st f fd/\Binds K fd ps []
structure bN(K:W.Frag)(mg:Str->Option Value)(x:Str)(st:Stmt)(ps:List Str):Prop where
 ex:∃ (f:Addr) (fd:FuncData),mg x=some (.ref f)/\GK K x x st f fd/\Binds K fd ps []
theorem aU.mg{h:Heap}{mg:Str->Option Value}{x:Str}{st:Stmt}{ps:List Str}(D:aU K x st ps)(X:K.In h)(G:h.Ns mainGlobals mg):bN K mg x st ps:=by
 obtain⟨f,fd,a,b,c⟩:=D.ex
 exact⟨f,fd,W.mg_of X G a,b,c⟩
def ij(st:Stmt)(ps:List Str):Prop:=∀ (x qual:Str) (kV doc pm:Value) (an:Option Addr) (cdv ct:Value) (us:List Value),us.length=ps.length->bindArgs (W.fnOf x qual (gY st) (bC st) (aj st) .none kV doc pm an cdv ct) ⟨us,[]⟩=pure (ps.zip us)
theorem Qo{x:Str}{st:Stmt}{ps:List Str}{f:Addr}{oc:Value}{od an:Option Addr}{osl:Array (Option Value)}{kV doc pm cdv ct:Value}(hb:ij st ps)(a:W.nsIn K mainGlobals x=some (some (.ref f)))(l:K.lookup f=some ⟨oc,od,.func (W.fnOf x x (gY st) (bC st) (aj st) .none kV doc pm an cdv ct),osl⟩)
  (c:W.codeIn K cdv x=true) (k:W.keepIn K (.ref f)=true):aU K x st ps:=⟨f,_,a,wk (st:=st) l c k,(wk (st:=st) l c k).binds fun kV doc pm an cdv ct us h=>hb _ _ kV doc pm an cdv ct us h⟩
structure uZ(K:W.Frag)(x:Str)(st:Stmt)(ps:List Str):Prop where
 ex:∃ (f:Addr) (fd:FuncData) (c P:Addr),W.nsIn K mainGlobals x=some (some (.ref f))/\GK K x x st f fd/\Binds K fd ps []/\fd.code=.ref c/\W.codeHdIn K c P=true
structure KM(K:W.Frag)(mg:Str->Option Value)(x:Str)(st:Stmt)(ps:List Str):Prop where
 ex:∃ (f:Addr) (fd:FuncData) (c P:Addr),mg x=some (.ref f)/\GK K x x st f fd/\Binds K fd ps []/\fd.code=.ref c/\W.codeHdIn K c P=true
theorem uZ.mg{h:Heap}{mg:Str->Option Value}{x:Str}{st:Stmt}{ps:List Str}(D:uZ K x st ps)(X:K.In h)(G:h.Ns mainGlobals mg):KM K mg x st ps:=by
 obtain⟨f,fd,c,P,a,b⟩:=D.ex
 exact⟨f,fd,c,P,W.mg_of X G a,b⟩
def LM(K:W.Frag)(c:Addr):Addr:=match K.lookup c with
 | some ⟨_,_,.fields vs,_⟩=>(match (vs[11]?:Option Value) with|some (.ref P)=>P|_=>0)
 | _=>0
theorem Qg{x:Str}{st:Stmt}{ps:List Str}{f c:Addr}{oc:Value}{od an:Option Addr}{osl:Array (Option Value)}{kV doc pm ct:Value}(hb:ij st ps)(a:W.nsIn K mainGlobals x=some (some (.ref f)))(l:K.lookup f=some ⟨oc,od,.func (W.fnOf x x (gY st) (bC st) (aj st) .none kV doc pm an (.ref c) ct),osl⟩)
  (cd:W.codeIn K (.ref c) x=true) (k:W.keepIn K (.ref f)=true) (hh:W.codeHdIn K c (LM K c)=true):uZ K x st ps:=⟨f,_,c,LM K c,a,wk (st:=st) l cd k,(wk (st:=st) l cd k).binds fun kV doc pm an cdv ct us h=>hb _ _ kV doc pm an cdv ct us h,rfl,hh⟩
theorem Mj{x:Str}{i:Int}{t:Tok}(h:W.nsIn K mainGlobals x=some (some (.int i t))):∃t,W.nsIn K mainGlobals x=some (some (.int i t)):=⟨t,h⟩
theorem Nu{K:W.Frag}(h:(cg.all fun x=>match W.nsIn K mainGlobals x with|some none=>true|_=>false)=true):∀x∈cg,W.nsIn K mainGlobals x=some none:=by
 intro x hx
 have:=List.all_eq_true.mp h x hx
 split at this
 ·assumption
 ·cases this
theorem C3{K:W.Frag}{H:Hp}{a:Addr}{ns:List Int}{m:List D->Option D}(hS:ig K H a (ns.map V.int))(hT:eX K H)(h:m [.list (ns.map PyData.int)]=some (.bool true)){X:_}:ON K 1 m [.ref a] H (fun v _=>v=.bl true) X:=by
 refine⟨H,[.list (ns.map PyData.int)],.bool true,.refl _,hT,aw.cons ?_ aw.nil,rfl,h,fun v H' HF' G r=>by simpa only[Rep] using r⟩
 simp only[Rep]
 refine⟨a,_,rfl,hS,?_⟩
 clear h hS hT
 induction ns with
 | nil=>exact aw.nil
 | cons n ns ih=>exact aw.cons (by simp[Rep]) ih
end
theorem Rn{X:Cx}{e:Expr}{es:List Expr}{f:Env->Option D}{g:Env->Option (List D)}(h:isStar e=false)(he:DE X e f)(hs:DA X es g):DA X (e::es) (aa f g):=Na he hs h
section
variable {X:Cx}{N:List Str}{sc:Scope}{k:Nat}{HF₀ H₀:Hp}{e c:Expr}{es:List Expr}{fs:Env->Option (List D)}{pos p:Pos}
def PX:ar->Option Out:=fun _=>none
theorem Pv{st:Stmt}:DS X HF₀ H₀ st PX:=fun pins s σ H E I ⟨HF,ρ,o,S,hg,q⟩=>by cases hg
def cQ(f:Env->Option D):ar->Option Out:=fun ρ=>(f (aJ ρ)).map fun _=>.nx ρ
theorem KH{f:Env->Option D}(hs:swapsWith e none pos.line X.env=pure false)(h:DE X e f):DS X HF₀ H₀ (.Expr e pos) (cQ f):=cD (nu h hs) fun E σ H ⟨HF,ρ,o,S,hg,q⟩=>by
 obtain⟨d,h,rfl⟩:=ag hg
 exact⟨H,aJ ρ,d,.refl _,S.all,h,fun v H' HF' G r=>q σ H' HF (S.step G.hh) (.refl _)⟩
def O0(t:Env->Option Bool)(gb:ar->Option Out):Nat->ar->Option Out
 | 0,_=>none
 | n+1,ρ=>(t (aJ ρ)).bind fun b=>if b=true then (gb ρ).bind fun|.nx ρ'=>O0 t gb n ρ'|.rt d=>some (.rt d) else some (.nx ρ)
theorem Gv(n:Nat){body:List Stmt}{t:Env->Option Bool}{gb:ar->Option Out}(hp:PassesOwn (model X.prog X.w) X.A X.env X.xe)(hc:DT X c t)(hb:D4 X HF₀ H₀ body gb):DS X HF₀ H₀ (.While c body [] pos) (O0 t gb n) :=
 cD (HR hp hc hb) fun E σ H ⟨HF,ρ,o,S,hg,q⟩=>by
  refine⟨fun m σ' H'=>∃HF' ρ',j4 X.K HF₀ H₀ HF' H' ρ' σ'/\aW HF HF'/\O0 t gb m ρ'=some o,⟨n,HF,ρ,S,.refl _,hg⟩,?_⟩
  rintro m σ' H' ⟨HF',ρ',S',s',hf⟩
  cases m with
  | zero=>cases hf
  | succ m =>
   unfold O0 at hf
   obtain⟨b,hb,hf⟩:=bs hf
   refine⟨H',aJ ρ',b,.refl _,S'.all,hb,fun H1 HF1 G=>?_⟩
   cases b with
   | false =>
    rw[yN yZ] at hf ⊢
    cases hf
    exact q σ' H1 HF' (S'.step G.hh) s'
   | true =>
    rw[yL rfl] at hf ⊢
    obtain⟨o1,h2,hf⟩:=bs hf
    refine⟨fun σ2 H3=>∃HF3 ρ3,j4 X.K HF₀ H₀ HF3 H3 ρ3 σ2/\aW HF HF3/\O0 t gb m ρ3=some o,fun σ2 H3 ⟨HF3,ρ3,a1,a2,a3⟩=>⟨m,kP _,HF3,ρ3,a1,a2,a3⟩,HF',ρ',o1,S'.step G.hh,h2,?_⟩
    cases o1 with
    | nx ρ2=>exact fun σ4 H4 HF4 S4 s4=>⟨HF4,ρ2,S4,s'.trans s4,hf⟩
    | rt d=>cases hf;exact q
def sW:List D->Option D
 | [.int a,.int b]=>some (.int (min a b))
 | [.int a,.int b,.int c]=>some (.int (min (min a b) c))
 | _=>none
theorem JE(hc:X.calm=true):eK X (.builtin "min") (fun xs H Q=>(∃a b:Int,xs=[.int a,.int b]/\Q (.int (min a b)) H)\/(∃a b c:Int,xs=[.int a,.int b,.int c]/\Q (.int (min (min a b) c)) H)):=by
 intro pins s σ H xs us Q I r h
 have hh:X.A.handled=none:=I.ok.hd hc
 rcases h with ⟨a,b,rfl,q⟩|⟨a,b,c,rfl,q⟩
 ·cases r with
  | cons r1 r =>
   cases r with
   | cons r2 r =>
    cases r
    obtain⟨t,rfl⟩:=r1
    obtain⟨u,rfl⟩:=r2
    refine min_two_ints hh fun h' tk kp=>⟨.int (min a b),H,I.kept (t':=tk) kp,?_,q⟩
    by_cases h:b < a
    ·rw[yL h,show min a b=b by omega];exact⟨_,rfl⟩
    ·rw[yN h,show min a b=a by omega];exact⟨_,rfl⟩
 ·cases r with
  | cons r1 r =>
   cases r with
   | cons r2 r =>
    cases r with
    | cons r3 r =>
     cases r
     obtain⟨t,rfl⟩:=r1
     obtain⟨u,rfl⟩:=r2
     obtain⟨x,rfl⟩:=r3
     refine min_three_ints hh fun h' tk kp=>⟨.int (min (min a b) c),H,I.kept (t':=tk) kp,?_,q⟩
     by_cases h:b < a
     ·rw[yL h]
      by_cases h2:c < b
      ·rw[yL h2,show min (min a b) c=c by omega];exact⟨_,rfl⟩
      ·rw[yN h2,show min (min a b) c=b by omega];exact⟨_,rfl⟩
     ·rw[yN h]
      by_cases h2:c < a
      ·rw[yL h2,show min (min a b) c=c by omega];exact⟨_,rfl⟩
      ·rw[yN h2,show min (min a b) c=a by omega];exact⟨_,rfl⟩
theorem AK{K:W.Frag}{H:Hp}{d:D}{v:V}(r:Rep K H d v):∀ {ds:List D}{vs:List V}(j:Nat),aw K H ds vs->aw K H (ds.set j d) (vs.set j v)
 | [],vs,j,h=>by rw[h.nil_inv];exact aw.nil
 | x::ds,vs,j,h=>by
  obtain⟨u,us,rfl,a,b⟩:=h.cons_inv
  cases j with
  | zero=>exact aw.cons r b
  | succ j=>exact aw.cons a (AK r j b)
def wq(i:Nat)(fz:List Nat)(fk f:Env->Option D):ar->Option Out:=fun ρ=>(pF fz f ρ).bind fun p=>(fk (aJ p.2)).bind fun kd=>match kd with
 | .int k=>sS i (fun ds=>(JO ds.length k).map fun j=>ds.set j p.1) p.2
 | _=>none
theorem Jz(i:Nat)(fz:List Nat){x:Str}{e2:Expr}{px spos:Pos}{fk f:Env->Option D}(hN:X.N[i]?=some x)(hv:Lx X.env.scope x)(hk:DE X e fk)(h:DE X e2 f)(hd:(x == ("__debug__":Str))=false:=by decide)(hcd:(x == ("__classdict__":Str))=false:=by decide)
  (ha:∀v,assign (.Subscript (.Name x px) e spos) X.env v=(do
   let ov <- holding [v] (eval (.Name x px) X.env)
   let iv <- holding [v,ov] (eval e X.env)
   standAt spos
   holding [v,ov,iv] (setItem ov iv v)
   release [v,ov,iv] []):=by intro _;rfl)
  (hs:swapsWithSole [.Subscript (.Name x px) e spos] e2 pos.line X.env=pure false:=by rfl) (hw:swappedStores [.Subscript (.Name x px) e spos] e2 X.env=pure none:=by rfl)
  (h1:(assignEach [.Subscript (.Name x px) e spos] X.env).map (·.2)=[assign (.Subscript (.Name x px) e spos) X.env]:=by rfl):DS X HF₀ H₀ (.Assign [.Subscript (.Name x px) e spos] e2 pos) (wq i fz fk f) :=
 cD (HH h (MG (lL hN hv hd hcd) hk set_list ha) hs hw h1) fun E σ H ⟨HF,ρ,o,S,hg,q⟩=>by
  obtain⟨⟨d,ρ'⟩,h1,hg⟩:=bs hg
  obtain⟨kd,h2,hg⟩:=bs hg
  cases kd<;>try cases hg
  rename_i k
  obtain⟨ds,es,h3,h4,rfl⟩:=l9 hg
  obtain⟨j,hj,rfl⟩:=ag h4
  refine oF S h1 fun v H1 HF1 s1 S1 s2 r=>?_
  obtain⟨a,vs,e1,e2,e3,e5,e4⟩:=S1.own i ds h3
  refine⟨.ref a,e1,H1,aJ ρ',.int k,.refl _,S1.all,h2,fun kv H2 HF2 G rk=>?_⟩
  simp only[Rep] at rk
  have S2:=S1.step G.hh
  obtain⟨a',vs',f1,f2,f3,f5,f4⟩:=S2.own i ds h3
  rw[e1] at f1;cases f1
  exact⟨a,vs',k,j,rfl,rk,f2,by rw[f4.length];exact hj,q σ _ HF1 (S2.mut h3 e1 f2 (AK r j f4)) s1⟩
end
section
variable {X:Cx}{N:List Str}{sc:Scope}{k:Nat}{HF₀ H₀:Hp}{a b e c:Expr}{es:List Expr}{fa fb:Env->Option D}{fs:Env->Option (List D)}{pos p:Pos}
def O8:D->Bool|.none=>true|_=>false
theorem qd{K:W.Frag}{HF:Hp}{d:D}{v:V}(r:Rep K HF d v):decide (v=.non)=O8 d:=by
 cases d<;>simp only[Rep] at r<;>first
  | (subst r;rfl)
  | (obtain⟨a,vs,rfl,_⟩:=r;rfl)
  | exact r.elim
def mY:D->D->Option D:=fun x y=>if O8 y=true then some (.bool (O8 x)) else none
def AU:D->D->Option D:=fun x y=>if O8 y=true then some (.bool (!O8 x)) else none
theorem Eb{K:W.Frag}:fX K (fun x y H Q=>y=.non/\Q (.bl (decide (x=.non))) H) mY:=by
 intro HF H x y v1 v2 d Q sm r1 r2 hg q
 unfold mY at hg
 split at hg
 ·rename_i h
  cases hg
  have h2:=qd r2
  rw[h,zJ] at h2
  refine⟨h2,?_⟩
  rw[qd r1]
  exact q _ H HF (.refl sm) (by simp[Rep])
 ·cases hg
theorem Ba{K:W.Frag}:fX K (fun x y H Q=>y=.non/\Q (.bl (!decide (x=.non))) H) AU:=by
 intro HF H x y v1 v2 d Q sm r1 r2 hg q
 unfold AU at hg
 split at hg
 ·rename_i h
  cases hg
  have h2:=qd r2
  rw[h,zJ] at h2
  refine⟨h2,?_⟩
  rw[qd r1]
  exact q _ H HF (.refl sm) (by simp[Rep])
 ·cases hg
theorem Bk.is0(C:Bk X N sc k)(ha:DE X a fa)(hb:DE X b fb):DE X (.Compare a [.Is] [b] pos) (f2 mY fa fb):=lg JK Eb ha hb (dm _)
theorem Bk.not0(C:Bk X N sc k)(ha:DE X a fa)(hb:DE X b fb):DE X (.Compare a [.IsNot] [b] pos) (f2 AU fa fb):=lg DN Ba ha hb (dm _)
theorem Bk.tis0(C:Bk X N sc k)(ha:DE X a fa)(hb:DE X b fb):DT X (.Compare a [.Is] [b] pos) (fB (f2 mY fa fb)):=lu JK Eb ha hb (dm _)
theorem Bk.tnot0(C:Bk X N sc k)(ha:DE X a fa)(hb:DE X b fb):DT X (.Compare a [.IsNot] [b] pos) (fB (f2 AU fa fb)):=lu DN Ba ha hb (dm _)
theorem OF(hc:X.calm=true)(B:pO X "min" (.builtin "min"))(he:starEach (e::es) X.env=(false,eval e X.env)::starEach es X.env)(hpl:(backTo pos (starEach es X.env)).any (·.1)=false)(ha:DA X (e::es) fs):DE X (.Call (.Name "min" p) (e::es) [] pos) (aZ sW fs) :=
 iz (JE hc) (by
  intro HF H ds vs d Q sm r hg q
  unfold sW at hg
  split at hg
  ·cases hg
   obtain⟨v1,r1,rfl,a1,b1⟩:=r.cons_inv
   obtain⟨v2,r2,rfl,a2,b2⟩:=b1.cons_inv
   rw[b2.nil_inv]
   simp only[Rep] at a1 a2
   exact .inl ⟨_,_,by rw[a1,a2],q _ H HF (.refl sm) (by simp[Rep])⟩
  ·cases hg
   obtain⟨v1,r1,rfl,a1,b1⟩:=r.cons_inv
   obtain⟨v2,r2,rfl,a2,b2⟩:=b1.cons_inv
   obtain⟨v3,r3,rfl,a3,b3⟩:=b2.cons_inv
   rw[b3.nil_inv]
   simp only[Rep] at a1 a2 a3
   exact .inr ⟨_,_,_,by rw[a1,a2,a3],q _ H HF (.refl sm) (by simp[Rep])⟩
  ·cases hg) B ha (by decide) (by decide) he hpl
end
section
variable {X:Cx}{a b e c:Expr}{es:List Expr}{fa fb:Env->Option D}{fl fs:Env->Option (List D)}{pos p:Pos}
def Al(ds:List D):D->Option (List D)
 | .int k=>if Aa k=true/\ds.length * k.toNat<=sizeLine then some (List.replicate k.toNat ds).flatten else none
 | _=>none
def fR(fl:Env->Option (List D))(fb:Env->Option D):Env->Option (List D):=fun ρ=>(fl ρ).bind fun ds=>(fb ρ).bind (Al ds)
theorem Oj(ha:DF X a fl)(hb:DE X b fb):DF X (.BinOp a .Mult b pos) (fR fl fb):=bf (C9 M3 ha hb) fun σ H Q ⟨HF,ρ,d,sm,eo,hf,q⟩=>by
 obtain⟨ds,hx,hf⟩:=bs hf
 obtain⟨y,hy,hg⟩:=bs hf
 refine⟨HF,ρ,ds,sm,eo,hx,fun l vs H1 HF1 g1 h0 hn h1 r1=>⟨HF1,ρ,y,g1.fh,eo.mono g1.ff,hy,fun v2 H2 HF2 g2 r2=>?_⟩⟩
 cases y<;>try cases hg
 rename_i k
 have hg:(if Aa k=true/\ds.length * k.toNat<=sizeLine then some (List.replicate k.toNat ds).flatten else none)=some d:=hg
 split at hg
 ·rename_i hz
  cases hg
  simp only[Rep] at r2
  have r1:=r1.mono g2.ff
  have G:=g1.trans g2
  have ok:=hz.1
  simp only[Aa,zF,zJ] at ok
  exact⟨l,k,vs,rfl,r2,g2.hh _ _ h1,by omega,by omega,by rw[r1.length];exact hz.2,fun p hp=>q p _ _ HF2 (G.trans (.own G.fh hp)) (G.hh.free hp) (G.fh.free hp) aC (ny r1 _)⟩
 ·cases hg
theorem Cg(hc:X.calm=true):eK X (.builtin "any") (fun xs H Q=>∃ (a:Addr) (bs:List Bool),xs=[.ref a]/\ig X.K H a (bs.map V.bl)/\Q (.bl (bs.any id)) H):=by
 intro pins s σ H xs us Q I r h
 obtain⟨a,bs,rfl,hq,q⟩:=h
 obtain⟨u,rfl,rx⟩:=vals1 r
 cases rx
 obtain⟨its,rv,pl,hz⟩:=I.list hq
 have hv:=mR rv
 subst hv
 have hh:X.A.in1.handled=none:=I.ok.hd hc
 refine call_any_walk (qK pl.isList ?_)
 obtain⟨o,ho,hcl,n,hd⟩:=pl.isList
 have hne:a≠s.heap.objs.size:=yR (zX ho)
 refine⟨_,_,_,_,_,_,fun i=>bs.getD i false,rfl,Walks.list hh s.heap.objs.size a hne (bs.map Value.bool).toArray,⟨⟨_,zW _ rfl,rfl,rfl⟩,pl.isList.push _⟩,fun i v s' Q' E' hP hQ=>?_,fun h' tk kp=>?_⟩
 ·have e:v=Value.bool (bs.getD i false):=by
   have hP:(bs.map Value.bool).toArray[i]?=some v:=hP
   rw[vY,zO] at hP
   obtain⟨b,hb,rfl⟩:=ag hP
   rw[zG,hb]
   rfl
  subst e
  exact xW hQ
 ·refine⟨.bl (bs.any id),H,?_,?_,q⟩
  ·exact I.kept (t':=tk) fun b o' e=>kp b o' (by simp;exact yR (zX e)) (zT _ e)
  ·show Value.bool _=Value.bool _
   have:=range_any bs
   simp only[zH,zD]
   rw[this]
end
section
variable {X:Cx}{e:Expr}{fs:Env->Option (List D)}{pos p:Pos}
theorem OU(hc:X.calm=true)(B:pO X "any" (.builtin "any"))(he:starEach [e] X.env=(false,eval e X.env)::starEach [] X.env)(ha:DA X [e] fs):DE X (.Call (.Name "any" p) [e] [] pos) (aZ (fun ds=>(oneOf ds).bind fun d=>match d with
 | .list es=>(boolsOf es).map fun bs=>.bool (bs.any id)
 | _=>none) fs) :=
 iz (Cg hc) (by
  intro HF H ds vs d Q sm r hg q
  obtain⟨x,hx,hg⟩:=bs hg
  rw[gE hx] at r
  cases x<;>try cases hg
  obtain⟨bs,hb,rfl⟩:=ag hg
  obtain⟨v,r',rfl,a,b⟩:=r.cons_inv
  rw[b.nil_inv]
  simp only[Rep] at a
  obtain⟨p,us,rfl,h,rr⟩:=a
  rw[jc hb] at rr
  have:=eO rr
  subst this
  exact⟨p,bs,rfl,sm.seq h,q _ H HF (.refl sm) (by simp[Rep])⟩) B ha (by decide) (by decide) he rfl
theorem pN(ns:List Int):∀j:Nat,preSum (fun i=>ns.getD i 0) j=(ns.take j).sum
 | 0=>by simp[preSum]
 | j+1=>by
  rw[preSum,pN ns j,wZ,List.sum_append]
  congr 1
  rw[zG]
  cases ns[j]?<;>simp
theorem ux(val:Nat->Int)(B:Int)(h:∀i,-B<=val i/\val i<=B):∀j:Nat,-(B * j)<=preSum val j/\preSum val j<=B * j
 | 0=>by simp[preSum]
 | j+1=>by
  have ih:=ux val B h j
  have:=h j
  rw[preSum]
  have e:B * ((j+1:Nat):Int)=B * (j:Int)+B:=by rw[Int.natCast_add,Int.mul_add];simp
  rw[e]
  omega
def Lm(ns:List Int):Bool:=decide (ns.length<=1000)&&ns.all fun n=>decide (-1000000<=n)&&decide (n<=1000000)
theorem N1{ns:List Int}(h:Lm ns=true):ns.length<=1000/\∀i,-1000000<=ns.getD i 0/\ns.getD i 0<=1000000:=by
 unfold Lm at h
 rw[zF,zJ,xG] at h
 refine⟨h.1,fun i=>?_⟩
 rw[zG]
 cases e:ns[i]? with
 | none=>simp
 | some n =>
  have:=h.2 n (qB e)
  simpa using this
theorem qu{ns:List Int}{its:List Value}(r:aQ (ns.map V.int) its){i:Nat}{v:Value}(h:its.toArray[i]?=some v):∃t,v=.int (ns.getD i 0) t:=by
 rw[vY] at h
 induction ns generalizing its i with
 | nil=>cases r;simp at h
 | cons n ns ih =>
  cases r with
  | cons r1 rr =>
   cases i with
   | zero =>
    simp only[xQ,yK] at h
    subst h
    obtain⟨t,rfl⟩:=r1
    exact⟨t,rfl⟩
   | succ i =>
    simp only[yY] at h
    exact ih rr h
theorem BW(hc:X.calm=true):eK X (.builtin "sum") (fun xs H Q=>∃ (a:Addr) (ns:List Int),xs=[.ref a]/\(ig X.K H a (ns.map V.int)\/iY X.K H a (ns.map V.int))/\Lm ns=true/\Q (.int ns.sum) H):=by
 intro pins s σ H xs us Q I r h
 obtain⟨a,ns,rfl,hq,hok,q⟩:=h
 obtain⟨u,rfl,rx⟩:=vals1 r
 cases rx
 have hh:X.A.in1.handled=none:=I.ok.hd hc
 obtain⟨hlen,hbd⟩:=N1 hok
 have hin:∀n:Nat,n<=1000->∀j,j < n->InLong ((fun i=>ns.getD i 0) j)/\InLong (preSum (fun i=>ns.getD i 0) (j+1)):=fun n hn j hj=>by
  have h1:=hbd j
  have h2:=ux (fun i=>ns.getD i 0) 1000000 hbd (j+1)
  refine⟨⟨?_,?_⟩,?_,?_⟩
  ·show -(2 ^ 63)<=ns.getD j 0
   omega
  ·show ns.getD j 0 < 2 ^ 63
   omega
  ·omega
  ·omega
 have hsum:preSum (fun i=>ns.getD i 0) ns.length=ns.sum:=by rw[pN,List.take_length]
 rcases hq with hq|hq
 ·obtain⟨its,rv,pl,hz⟩:=I.list hq
  have hl:its.length=ns.length:=by rw[<- rv.length,zD]
  refine call_sum_walk (qK pl.isList ?_)
  obtain⟨o,ho,hcl,n,hd⟩:=pl.isList
  have hlt:=zX ho
  have hne:a≠s.heap.objs.size:=yR hlt
  refine⟨_,_,_,_,_,_,fun i=>ns.getD i 0,rfl,Walks.list hh s.heap.objs.size a hne its.toArray,⟨⟨_,zW _ rfl,rfl,rfl⟩,pl.isList.push _⟩,fun b hb=>?_,fun i v hP=>qu rv hP,by rw[zH,hl];exact hin _ hlen,fun h' tk t' kp=>?_⟩
  ·show b < (s.heap.push _).objs.size
   rw[xJ]
   simp only[zQ,yE,xU] at hb
   rcases hb with rfl|rfl
   ·exact kP _
   ·exact jO hlt
  ·refine⟨.int ns.sum,H,I.kept (t':=tk) fun b o' e=>kp b o' (by simp;exact yR (zX e)) (zT _ e),⟨t',?_⟩,q⟩
   rw[zH,hl,hsum]
 ·obtain⟨its,rv,pl,hz⟩:=I.tuple hq
  have pl:s.heap.IsTuple a its.toArray:=pl
  have hl:its.length=ns.length:=by rw[<- rv.length,zD]
  refine call_sum_walk (xR pl ?_)
  obtain⟨o,ho,hcl,n,hd⟩:=id pl
  have hlt:=zX ho
  have hne:a≠s.heap.objs.size:=yR hlt
  refine⟨_,_,_,_,_,_,fun i=>ns.getD i 0,rfl,Walks.tuple hh s.heap.objs.size a hne its.toArray,⟨⟨_,zW _ rfl,rfl,rfl⟩,pl.push _⟩,fun b hb=>?_,fun i v hP=>qu rv hP,by rw[zH,hl];exact hin _ hlen,fun h' tk t' kp=>?_⟩
  ·show b < (s.heap.push _).objs.size
   rw[xJ]
   simp only[zQ,yE,xU] at hb
   rcases hb with rfl|rfl
   ·exact kP _
   ·exact jO hlt
  ·refine⟨.int ns.sum,H,I.kept (t':=tk) fun b o' e=>kp b o' (by simp;exact yR (zX e)) (zT _ e),⟨t',?_⟩,q⟩
   rw[zH,hl,hsum]
end
section
variable {X:Cx}{e:Expr}{fs:Env->Option (List D)}{pos p:Pos}
def tQ:List D->Option D:=fun ds=>(cI ds).bind fun es=>(intsOf es).bind fun ns=>if Lm ns=true then some (.int ns.sum) else none
theorem l7{K:W.Frag}{H:Hp}:∀ {ns:List Int}{vs:List V},aw K H (ns.map PyData.int) vs->vs=ns.map V.int
 | [],vs,h=>h.nil_inv
 | b::bs,vs,h=>by
  obtain⟨v,r,rfl,a,c⟩:=h.cons_inv
  simp only[Rep] at a
  rw[a,l7 c]
  rfl
theorem On(hc:X.calm=true)(B:pO X "sum" (.builtin "sum"))(he:starEach [e] X.env=(false,eval e X.env)::starEach [] X.env)(ha:DA X [e] fs):DE X (.Call (.Name "sum" p) [e] [] pos) (aZ tQ fs) :=
 iz (BW hc) (by
  intro HF H ds vs d Q sm r hg q
  obtain⟨es,h1,hg⟩:=bs hg
  obtain⟨ns,h2,hg⟩:=bs hg
  have hg:(if Lm ns=true then some (PyData.int ns.sum) else none)=some d:=hg
  split at hg
  ·rename_i hok
   cases hg
   have e2:=d0 h2
   subst e2
   rcases gX h1 with rfl|rfl
   all_goals
    obtain⟨v,r',rfl,a,b⟩:=r.cons_inv
    rw[b.nil_inv]
    simp only[Rep] at a
    obtain⟨p,us,rfl,h,rr⟩:=a
    have:=l7 rr
    subst this
   ·exact⟨p,ns,rfl,.inr (aL sm h),hok,q _ H HF (.refl sm) (by simp[Rep])⟩
   ·exact⟨p,ns,rfl,.inl (sm.seq h),hok,q _ H HF (.refl sm) (by simp[Rep])⟩
  ·cases hg) B ha (by decide) (by decide) he rfl
end
section
variable {X:Cx}
def O5(i:Int):Value->Bool|.int a _=>a == i|_=>false
theorem FG:MH X "list.index" (fun x vs H Q=>∃ (l:Addr) (ns:List Int) (i:Int) (j:Nat),x=.ref l/\vs=[.int i]/\ig X.K H l (ns.map V.int)/\ns[j]?=some i/\(∀m,m < j->ns[m]?≠some i)/\Q (.int j) H):=by
 intro pins s σ H x vs v us Q I rx rv h
 obtain⟨l,ns,i,j,rfl,rfl,hq,hj,hno,q⟩:=h
 cases rx
 obtain⟨u,rfl,ru⟩:=rv.one
 obtain⟨t,rfl⟩:=ru
 obtain⟨its,r,pl,hz⟩:=I.list hq
 obtain⟨⟨cls,dd,data,sl⟩,ho,hc,n,hd⟩:=id pl.isList
 simp only at hc hd
 subst hc hd
 have hl:its.length=ns.length:=by rw[<- r.length,zD]
 have hj1:j < ns.length:=(List.getElem?_eq_some_iff.mp hj).1
 have hz':ns.length<=sizeLine:=by rw[zD] at hz;exact hz
 have hs63:(sizeLine:Nat) < 2 ^ 62:=by decide
 have at_:∀m (hm:m < its.toArray.size),∃t',its.toArray[m]=.int (ns.getD m 0) t':=fun m hm=>qu r (jZ hm)
 refine qX F.slot_list_index ⟨_,ho,rfl⟩ F.entry_list_index (F.args_list_index_2 _ _) (PySem.SeqAt.list_indexAt l its.toArray n dd sl (.int i t) (O5 i) j (by rw[zH,hl];exact hj1) (by omega) ?_ ?_) ⟨ho,?_,?_⟩
 ·obtain⟨t',e⟩:=at_ j (by rw[zH,hl];exact hj1)
  rw[e,O5,zG,hj]
  simp
 ·intro m hm hmj
  obtain⟨t',e⟩:=at_ m hm
  have hm':m < ns.length:=by omega
  have:=hno m hmj
  rw[e,O5,zG]
  rw[zK hm'] at this ⊢
  simp only[qG,beq_eq_false_iff_ne]
  exact fun h=>this (by rw[h])
 ·intro y hy
  obtain⟨m,hm,rfl⟩:=Array.getElem_of_mem hy
  obtain⟨t',e⟩:=at_ m hm
  rw[e]
  exact PySem.SeqAt.EqAt.int_int _ _ _ _
 ·exact⟨.int j,H,I.tok _,⟨_,rfl⟩,q⟩
def AV(i:Int):List Int->Option Nat
 | []=>none
 | n::ns=>if n=i then some 0 else (AV i ns).map (·+1)
theorem o7{i:Int}:∀ {ns:List Int}{j:Nat},AV i ns=some j->ns[j]?=some i/\∀m,m < j->ns[m]?≠some i
 | [],j,h=>by cases h
 | n::ns,j,h=>by
  unfold AV at h
  split at h
  ·cases h
   rename_i e
   exact⟨by rw[e];rfl,fun m hm=>absurd hm (vT _)⟩
  ·rename_i e
   obtain⟨k,hk,rfl⟩:=ag h
   obtain⟨a,b⟩:=o7 hk
   refine⟨by simpa using a,fun m hm=>?_⟩
   cases m with
   | zero=>simpa using e
   | succ m=>simpa using b m (by omega)
def Rz:D->D->Option D
 | .list es,.int i=>(intsOf es).bind fun ns=>(AV i ns).map fun j=>.int ((j:Nat):Int)
 | _,_=>none
theorem He{o e:Expr}{apos cpos:Pos}{fo fe:Env->Option D}(hbase:attributeBase o "index" X.env (eval o X.env)=eval o X.env)
  (hfew:((backTo cpos (starEach [e] X.env)).all (fun x=>!x.1)&&(backToKw cpos (keywordEach [] X.env)).all (fun x=>x.1.isSome)&&decide ([e].length+([]:List Keyword).length+(if ([]:List Keyword).isEmpty then 0 else 1) < 30))=true)
  (hline:(apos.endLine == cpos.line)=true) (hs:starEach [e] X.env=(false,eval e X.env)::starEach [] X.env) (ho:DE X o fo) (he:DE X e fe):DE X (.Call (.Attribute o "index" apos) [e] [] cpos) (f2 Rz fo fe) :=
 bf (rA qN PySem.F.slot_list_index PySem.F.type_list_index FG ho (bM he dP hs) hbase hfew hline hs rfl) fun σ H Q ⟨HF,ρ,d,sm,eo,hf,q⟩=>by
  obtain⟨x,hx,hf⟩:=bs hf
  obtain⟨y,hy,hg⟩:=bs hf
  refine⟨HF,ρ,x,sm,eo,hx,fun v1 H1 HF1 g1 r1=>?_⟩
  cases x<;>try cases hg
  cases y<;>try cases hg
  rename_i es i
  obtain⟨ns,h1,hg⟩:=bs hg
  obtain⟨j,h2,rfl⟩:=ag hg
  have e1:=d0 h1
  subst e1
  simp only[Rep] at r1
  obtain⟨l,us,rfl,hq,rr⟩:=r1
  have:=l7 rr
  subst this
  refine⟨.inl ⟨rfl,_,g1.fh.seq hq⟩,HF1,ρ,.int i,g1.fh,eo.mono g1.ff,hy,fun v2 H2 HF2 g2 r2=>?_⟩
  simp only[Rep] at r2
  obtain⟨a,b⟩:=o7 h2
  exact⟨l,ns,i,j,rfl,by rw[r2],g2.fh.seq (g2.ff.seq hq),a,b,q _ H2 HF2 (g1.trans g2) (by simp[Rep])⟩
end
end Dl
namespace Tx
open PySem PySem.SeqAt PyProof.Rows
open PySem.AutoSeq1 (wpAny_loadPart')
open PySem.MeetsSeq PySem.MeetsSeq2 PySem.MeetsSeq3
theorem wpR{M:Model}{A:Around}{E:Value->Shared->Prop}{s:Shared}{β:Type}(f:Nat->β->Sem (ForInStep β))(I:List Nat->β->Shared->Prop)(Q:β->Shared->Prop)
  (turn:∀x rest b s,I (x::rest) b s->wpAny M A (f x b) (fun r s'=>match r with|.yield b'=>I rest b' s'|.done b'=>Q b' s') E s)
  (fin:∀b s,I [] b s->Q b s) (n:Nat) (b:β) (h:I (List.range' 0 n 1) b s):wpAny M A (forIn [:n] b f) Q E s:=by
 have e:forIn [:n] b f=forIn (List.range' 0 n 1) b f:=by
  rw[Std.Legacy.Range.forIn_eq_forIn_range']
  simp[Std.Legacy.Range.size]
 rw[e]
 exact wpAny_forIn_list f I Q turn fin _ b h
theorem tuple_indexAt(l:Addr)(items:Array Value)(n:Nat)(dd:Option Addr)(sl:Array (Option Value))(x:Value)(e:Value->Bool)(j:Nat)(hj:j < items.size)(h1:e items[j]=true)(h2:∀m (hm:m < items.size),m < j->e items[m]=false) :
  Meets (Builtin.«tuple.index» ⟨[.ref l,x],[]⟩)
   (fun A R s=>s.heap.get? l=some { cls:=.type "tuple",dict:=dd,data:=.seq items n,slots:=sl }/\(∀y,y∈items->EqAt A.in1 s y x (e y))/\R (.ok (.ret (.int (j:Nat) s.toks))) { s with toks:=s.toks+1 }) :=
 .of_wp fun prog w A R s h=>by
  obtain⟨hp,g,d,tk,os⟩:=s;obtain⟨hl,he,h⟩:=h
  wp_walk using wpAny_loadPart' hl,wpR _ (fun rest b s'=>s'=⟨hp,g,d,tk,os⟩/\b.1=none/\∃i,i<=j/\rest=List.range' i (items.size - i) 1) _
  case turn =>
   rintro i rest b s' ⟨rfl,hb,i',hi,e1⟩
   have hlt:i' < items.size:=by omega
   rw[show items.size - i'=(items.size - (i'+1))+1 by omega,vH] at e1
   injection e1 with e2 e3
   subst e2
   subst e3
   simp only[jZ hlt]
   refine zU (he _ (Array.getElem_mem hlt) prog w _ _ ?_)
   by_cases hij:i=j
   ·subst hij
    rw[h1]
    wp_walk
    exact⟨_,rfl,h⟩
   ·rw[h2 i hlt (by omega)]
    wp_walk
    exact⟨rfl,rfl,i+1,by omega,rfl⟩
  case fin =>
   rintro b s' ⟨rfl,hb,i,hi,e1⟩
   have:=jC List.length e1
   simp at this
   omega
  case h =>
   exact⟨rfl,rfl,0,xV _,by simp⟩
end Tx
namespace Dl
open PySem L2 PySem.Spec PyProof.Rows
section
variable {X:Cx}
theorem Ft:MH X "tuple.index" (fun x vs H Q=>∃ (l:Addr) (ns:List Int) (i:Int) (j:Nat),x=.ref l/\vs=[.int i]/\iY X.K H l (ns.map V.int)/\ns[j]?=some i/\(∀m,m < j->ns[m]?≠some i)/\Q (.int j) H):=by
 intro pins s σ H x vs v us Q I rx rv h
 obtain⟨l,ns,i,j,rfl,rfl,hq,hj,hno,q⟩:=h
 cases rx
 obtain⟨u,rfl,ru⟩:=rv.one
 obtain⟨t,rfl⟩:=ru
 obtain⟨its,r,pl,hz⟩:=I.tuple hq
 obtain⟨⟨cls,dd,data,sl⟩,ho,hc,n,hd⟩:=id pl
 simp only at hc hd
 subst hc hd
 have hl:its.length=ns.length:=by rw[<- r.length,zD]
 have hj1:j < ns.length:=(List.getElem?_eq_some_iff.mp hj).1
 have at_:∀m (hm:m < its.toArray.size),∃t',its.toArray[m]=.int (ns.getD m 0) t':=fun m hm=>qu r (jZ hm)
 refine qX F.slot_tuple_index ⟨_,ho,rfl⟩ F.entry_tuple_index (F.args_tuple_index_2 _ _) (Tx.tuple_indexAt l its.toArray n dd sl (.int i t) (O5 i) j (by rw[zH,hl];exact hj1) ?_ ?_) ⟨ho,?_,?_⟩
 ·obtain⟨t',e⟩:=at_ j (by rw[zH,hl];exact hj1)
  rw[e,O5,zG,hj]
  simp
 ·intro m hm hmj
  obtain⟨t',e⟩:=at_ m hm
  have hm':m < ns.length:=by
   rw[zH] at hm
   omega
  have:=hno m hmj
  rw[e,O5,zG]
  rw[zK hm'] at this ⊢
  simp only[qG,beq_eq_false_iff_ne]
  exact fun h=>this (by rw[h])
 ·intro y hy
  obtain⟨m,hm,rfl⟩:=Array.getElem_of_mem hy
  obtain⟨t',e⟩:=at_ m hm
  rw[e]
  exact PySem.SeqAt.EqAt.int_int _ _ _ _
 ·exact⟨.int j,H,I.tok _,⟨_,rfl⟩,q⟩
theorem Jh{e:Expr}{t u:TE}(h:PE X e t)(g:PE X e u):PE X e (fun σ H Q=>t σ H Q\/u σ H Q):=fun pins s σ H Q I q=>q.elim (h pins s σ H Q I) (g pins s σ H Q I)
def jh:D->D->Option D
 | .list es,.int i=>(intsOf es).bind fun ns=>(AV i ns).map fun j=>.int ((j:Nat):Int)
 | .tuple es,.int i=>(intsOf es).bind fun ns=>(AV i ns).map fun j=>.int ((j:Nat):Int)
 | _,_=>none
theorem FO{o e:Expr}{apos cpos:Pos}{fo fe:Env->Option D}(hbase:attributeBase o "index" X.env (eval o X.env)=eval o X.env)
  (hfew:((backTo cpos (starEach [e] X.env)).all (fun x=>!x.1)&&(backToKw cpos (keywordEach [] X.env)).all (fun x=>x.1.isSome)&&decide ([e].length+([]:List Keyword).length+(if ([]:List Keyword).isEmpty then 0 else 1) < 30))=true)
  (hline:(apos.endLine == cpos.line)=true) (hs:starEach [e] X.env=(false,eval e X.env)::starEach [] X.env) (ho:DE X o fo) (he:DE X e fe):DE X (.Call (.Attribute o "index" apos) [e] [] cpos) (f2 jh fo fe) :=
 bf (Jh (He hbase hfew hline hs ho he) (rA PySem.F.plainAttrs_tuple PySem.F.slot_tuple_index PySem.F.type_tuple_index Ft ho (bM he dP hs) hbase hfew hline hs rfl)) fun σ H Q ⟨HF,ρ,d,sm,eo,hf,q⟩=>by
  obtain⟨x,hx,hf⟩:=bs hf
  obtain⟨y,hy,hg⟩:=bs hf
  cases x<;>try cases hg
  ·cases y<;>try cases hg
   rename_i es i
   exact .inl ⟨HF,ρ,d,sm,eo,by simp only[f2,hx,hy,zA];exact hg,q⟩
  ·cases y<;>try cases hg
   rename_i es i
   obtain⟨ns,h1,hg⟩:=bs hg
   obtain⟨j,h2,rfl⟩:=ag hg
   have e1:=d0 h1
   subst e1
   refine .inr ⟨HF,ρ,_,sm,eo,hx,fun v1 H1 HF1 g1 r1=>?_⟩
   simp only[Rep] at r1
   obtain⟨l,us,rfl,hq,rr⟩:=r1
   have:=l7 rr
   subst this
   refine⟨?_,HF1,ρ,.int i,g1.fh,eo.mono g1.ff,hy,fun v2 H2 HF2 g2 r2=>?_⟩
   ·first|exact .inr (.inl ⟨rfl,_,aL g1.fh hq⟩)|exact .inl ⟨rfl,_,aL g1.fh hq⟩|exact .inr ⟨rfl,_,aL g1.fh hq⟩
   ·simp only[Rep] at r2
    obtain⟨a,b⟩:=o7 h2
    exact⟨l,ns,i,j,rfl,by rw[r2],aL g2.fh (aL g2.ff hq),a,b,q _ H2 HF2 (g1.trans g2) (by simp[Rep])⟩
end
end Dl
namespace Zp
open PySem PyProof.Rows
def IsI(b:Bool)(h:Heap)(it l:Addr)(k:Nat):Prop:=match b with|true=>h.IsTupleIter it l k|false=>h.IsListIter it l k
def IsS(b:Bool)(h:Heap)(l:Addr)(xs:Array Value):Prop:=match b with|true=>h.IsTuple l xs|false=>h.IsList l xs
theorem IsI.obj{b:Bool}{h:Heap}{it l:Addr}{k:Nat}(x:IsI b h it l k):∃o,h.get? it=some o/\∀v,o.data≠.cell v:=by
 cases b
 ·obtain⟨o,e,_,d⟩:=(show h.IsListIter it l k from x);exact⟨o,e,fun v q=>by rw[d] at q;cases q⟩
 ·obtain⟨o,e,_,d⟩:=(show h.IsTupleIter it l k from x);exact⟨o,e,fun v q=>by rw[d] at q;cases q⟩
theorem IsI.at{b:Bool}{h h':Heap}{it l:Addr}{k:Nat}(x:IsI b h it l k)(e:∀o,h.get? it=some o->h'.get? it=some o):IsI b h' it l k:=by
 cases b
 ·exact Heap.IsListIter.at x e
 ·exact Heap.IsTupleIter.at x e
theorem IsI.extBut{b:Bool}{h h':Heap}{a it l:Addr}{k:Nat}(x:IsI b h it l k)(e:Heap.ExtBut a h h')(n:it≠a):IsI b h' it l k:=x.at fun o q=>e it o n q
theorem IsS.at{b:Bool}{h h':Heap}{l:Addr}{xs:Array Value}(x:IsS b h l xs)(e:∀o,h.get? l=some o->h'.get? l=some o):IsS b h' l xs:=by
 cases b
 ·obtain⟨o,q,r⟩:=(show h.IsList l xs from x);exact⟨o,e o q,r⟩
 ·obtain⟨o,q,r⟩:=(show h.IsTuple l xs from x);exact⟨o,e o q,r⟩
theorem IsS.extBut{b:Bool}{h h':Heap}{a l:Addr}{xs:Array Value}(x:IsS b h l xs)(e:Heap.ExtBut a h h')(n:l≠a):IsS b h' l xs:=x.at fun o q=>e l o n q
section
variable {prog:Program}{w:World}{A:Around}{E:Value->Shared->Prop}{s:Shared}
theorem nxt{b:Bool}{j t:Addr}{k:Nat}{its:Array Value}{v:Value}{Q:Value->Shared->Prop}(hj:IsI b s.heap j t k)(ht:IsS b s.heap t its)(hv:its[k]?=some v)
  (hQ:∀g,IsI b g j t (k+1)->Heap.SameBut j s.heap g->Q v { s with heap:=g }):wpAny (model prog w) A (Builtin.SmallTypes.nextOf (.ref j)) Q E s:=by
 cases b
 ·exact wpAny_nextOf_list_item hj ht hv hQ
 ·exact En.nextT_item hj ht hv hQ
theorem nxtE{b:Bool}{j t:Addr}{k:Nat}{its:Array Value}{Q:Value->Shared->Prop}(hh:A.handled=none)(hj:IsI b s.heap j t k)(ht:IsS b s.heap t its)(hv:its[k]?=none)
  (hE:∀g x,Heap.ExtBut j s.heap g->(∃o,g.get? x=some o/\o.cls=.type "StopIteration")->E (.ref x) { s with heap:=g }):wpAny (model prog w) A (Builtin.SmallTypes.nextOf (.ref j)) Q E s:=by
 cases b
 ·exact wpAny_nextOf_list_end hh hj ht hv hE
 ·exact En.nextT_end hh hj ht hv hE
structure ZS(b₁ b₂:Bool)(h₀ h:Heap)(z TI TO i j l m:Addr)(xs ys:Array Value)(f:Value)(p q:Nat)(a b:Value):Prop where
 zo:IsZip h z TI TO f
 ti:IsPair h TI (.ref i) (.ref j)
 to:IsPair h TO a b
 wi:IsI b₁ h i l p
 wj:IsI b₂ h j m q
 sl:IsS b₁ h l xs
 sm:IsS b₂ h m ys
 kp:∀c o,c≠z->c≠TO->c≠i->c≠j->h₀.get? c=some o->h.get? c=some o
 sz:h.objs.size=h₀.objs.size
section
variable {b₁ b₂:Bool}{h₀ h g:Heap}{z TI TO i j l m:Addr}{xs ys:Array Value}{f f':Value}{p q:Nat}{a b x y:Value}
theorem ZS.fl(Z:ZS b₁ b₂ h₀ h z TI TO i j l m xs ys f p q a b)(D:ZipApart z TI TO i j l m)(e:IsZip g z TI TO f')(t:Heap.SameBut z h g):ZS b₁ b₂ h₀ g z TI TO i j l m xs ys f' p q a b :=
 ⟨e,t.extBut _ _ D.TIz Z.ti,t.extBut _ _ D.TOz Z.to,Z.wi.extBut t.extBut D.i1z,Z.wj.extBut t.extBut D.i2z,Z.sl.extBut t.extBut D.l1z,Z.sm.extBut t.extBut D.l2z,fun c o n1 n2 n3 n4 r=>t.extBut _ _ n1 (Z.kp c o n1 n2 n3 n4 r),t.1.trans Z.sz⟩
theorem ZS.fst(Z:ZS b₁ b₂ h₀ h z TI TO i j l m xs ys f p q a b)(D:ZipApart z TI TO i j l m)(e:IsI b₁ g i l (p+1))(t:Heap.SameBut i h g):ZS b₁ b₂ h₀ g z TI TO i j l m xs ys f (p+1) q a b :=
 ⟨t.extBut _ _ D.i1z.symm Z.zo,t.extBut _ _ D.TIi1 Z.ti,t.extBut _ _ D.TOi1 Z.to,e,Z.wj.extBut t.extBut D.i12.symm,Z.sl.extBut t.extBut D.l1i1,Z.sm.extBut t.extBut D.l2i1,fun c o n1 n2 n3 n4 r=>t.extBut _ _ n3 (Z.kp c o n1 n2 n3 n4 r),t.1.trans Z.sz⟩
theorem ZS.snd(Z:ZS b₁ b₂ h₀ h z TI TO i j l m xs ys f p q a b)(D:ZipApart z TI TO i j l m)(e:IsI b₂ g j m (q+1))(t:Heap.SameBut j h g):ZS b₁ b₂ h₀ g z TI TO i j l m xs ys f p (q+1) a b :=
 ⟨t.extBut _ _ D.i2z.symm Z.zo,t.extBut _ _ D.TIi2 Z.ti,t.extBut _ _ D.TOi2 Z.to,Z.wi.extBut t.extBut D.i12,e,Z.sl.extBut t.extBut D.l1i2,Z.sm.extBut t.extBut D.l2i2,fun c o n1 n2 n3 n4 r=>t.extBut _ _ n4 (Z.kp c o n1 n2 n3 n4 r),t.1.trans Z.sz⟩
theorem ZS.put(Z:ZS b₁ b₂ h₀ h z TI TO i j l m xs ys f p q a b)(D:ZipApart z TI TO i j l m)(e:IsPair g TO x y)(t:Heap.SameBut TO h g):ZS b₁ b₂ h₀ g z TI TO i j l m xs ys f p q x y :=
 ⟨t.extBut _ _ D.TOz.symm Z.zo,t.extBut _ _ D.TITO Z.ti,e,Z.wi.extBut t.extBut D.TOi1.symm,Z.wj.extBut t.extBut D.TOi2.symm,Z.sl.extBut t.extBut D.l1TO,Z.sm.extBut t.extBut D.l2TO,fun c o n1 n2 n3 n4 r=>t.extBut _ _ n2 (Z.kp c o n1 n2 n3 n4 r),t.1.trans Z.sz⟩
end
variable {b₁ b₂:Bool}{z TI TO i j l m:Addr}{xs ys:Array Value}{p q:Nat}{a b:Value}
theorem zipN{Q:Value->Shared->Prop}(hn:A.handled=none)(D:ZipApart z TI TO i j l m)(Z:ZS b₁ b₂ s.heap s.heap z TI TO i j l m xs ys .none p q a b)
  (item:∀x y g g',xs[p]?=some x->ys[q]?=some y->ZS b₁ b₂ s.heap g z TI TO i j l m xs ys .ellipsis (p+1) (q+1) x y->IsZip g' z TI TO (rawInt g.objs.size) ->
   Heap.SameBut z (g.push { cls:=.type "tuple",data:=.seq #[x,y] }) g'->Q (.ref g.objs.size) { s with heap:=g' })
  (over:(xs[p]?=none\/ys[q]?=none)->∀g e,(∀c o,c≠z->c≠TO->c≠i->c≠j->s.heap.get? c=some o->g.get? c=some o)->(∃o,g.get? e=some o/\o.cls=.type "StopIteration")->E (.ref e) { s with heap:=g }) :
  wpAny (model prog w) A (Builtin.«zip.__next__» ⟨[.ref z],[]⟩) (fun r s'=>∃v,r=.done (.ret v)/\Q v s') E s:=by
 have stop:∀ {g1 g2:Heap}{e:Addr}{c:Addr}{p' q':Nat}{a' b':Value},ZS b₁ b₂ s.heap g1 z TI TO i j l m xs ys .ellipsis p' q' a' b'->(c=i\/c=j)->(xs[p]?=none\/ys[q]?=none)->Heap.ExtBut c g1 g2 ->
   (∃o,g2.get? e=some o/\o.cls=.type "StopIteration")->wpAny (model prog w) A (setField (.ref z) 0 Value.none) (fun _ t=>E (.ref e) t) E { s with heap:=g2 }:=by
  intro g1 g2 e c p' q' a' b' Y hc hv k ⟨o,ho,ht⟩
  have cz:z≠c:=hc.elim (fun e=>e ▸ D.i1z.symm) fun e=>e ▸ D.i2z.symm
  have Yz:IsZip g2 z TI TO .ellipsis:=k _ _ cz Y.zo
  refine vA Yz (by simp) fun g3 _ t=>over hv g3 e (fun d u n1 n2 n3 n4 r=>t.extBut _ _ n1 (k _ _ ?_ (Y.kp d u n1 n2 n3 n4 r))) ⟨o,t.extBut _ _ ?_ ho,ht⟩
  ·exact hc.elim (fun e=>e ▸ n3) fun e=>e ▸ n4
  ·rintro rfl;rw[Yz] at ho;cases ho;simp at ht
 show wpAny _ _ (field (.ref z) 2 >>= _) _ _ _
 refine zU (qT Z.zo rfl (x:=.bool false) rfl (zU (qT Z.zo rfl (x:=.ref TI) rfl (zU (kH Z.ti rfl (zU (m:=Builtin.SmallTypes.ownedTupleIsFree _) ?_))))))
 refine zU (qT Z.zo rfl (x:=.none) rfl (zV ?_))
 rw[yL rfl]
 refine zU (wJ (zU (qT Z.zo rfl (x:=.ref TO) rfl (zU (vA Z.zo (by simp) fun g1 e1 t1=>?_)))))
 have Z1:=Z.fl D (f':=.ellipsis) e1 t1
 refine zU ?_
 simp only[List.zipIdx_cons,List.zipIdx_nil,List.forIn_cons,List.forIn_nil]
 refine zU (zU (wpAny_onRaise (zU (m:=Builtin.SmallTypes.nextOf _) ?_)))
 cases hx:xs[p]? with
 | none=>exact nxtE hn Z1.wi Z1.sl hx fun g2 e k o=>stop Z1 (.inl rfl) (.inl hx) k o
 | some x =>
 refine nxt Z1.wi Z1.sl hx fun g2 e2 t2=>zV ?_
 have Z2:=Z1.fst D e2 t2
 refine zU (kH Z2.to rfl (zU (wpAny_updateSeq_pair Z2.to fun g3 e3 t3=>zU (wpAny_letGo (zV ?_)))))
 have Z3:=Z2.put D (x:=x) (y:=b) e3 t3
 refine zU (zU (wpAny_onRaise (zU (m:=Builtin.SmallTypes.nextOf _) ?_)))
 cases hy:ys[q]? with
 | none=>exact nxtE hn Z3.wj Z3.sm hy fun g4 e k o=>stop Z3 (.inr rfl) (.inr hy) k o
 | some y =>
 refine nxt Z3.wj Z3.sm hy fun g4 e4 t4=>zV ?_
 have Z4:=Z3.snd D e4 t4
 refine zU (kH Z4.to rfl (zU (wpAny_updateSeq_pair Z4.to fun g5 e5 t5=>zU (wpAny_letGo (zV (zV ?_))))))
 have Z5:=Z4.put D (x:=x) (y:=y) e5 t5
 refine zU (kH Z5.to rfl (zU (wpAny_newTuple (zU (m:=Builtin.SmallTypes.ownedTupleHandOut _ _) ?_))))
 refine zU (vA (zT _ Z5.zo) (by simp) fun g6 e6 t6=>vA e6 (by simp) fun g7 e7 t7=>zV ⟨_,rfl,?_⟩)
 exact item x y g5 g7 hx hy Z5 e7 (t6.trans t7)
theorem nextZ{x y:Value}{Q:Option Value->Shared->Prop}(hn:A.handled=none)(D:ZipApart z TI TO i j l m)
  (qz:IsZip s.heap z TI TO .none) (qI:IsPair s.heap TI (.ref i) (.ref j)) (qO:IsPair s.heap TO a b)
  (p1:IsI b₁ s.heap i l p) (p2:IsI b₂ s.heap j m q) (r1:IsS b₁ s.heap l xs) (r2:IsS b₂ s.heap m ys) (ex:xs[p]?=some x) (ey:ys[q]?=some y)
  (kQ:∀g,IsZip g z TI TO (rawInt s.heap.objs.size)->IsPair g TO x y->IsI b₁ g i l (p+1)->IsI b₂ g j m (q+1)->IsPair g s.heap.objs.size x y->g.objs.size=s.heap.objs.size+1 ->
   (∀c o,c≠z->c≠TO->c≠i->c≠j->s.heap.get? c=some o->g.get? c=some o)->Q (some (.ref s.heap.objs.size)) { s with heap:=g }) :
  wpAny (model prog w) A (pyNext (.ref z)) Q E s:=by
 have ty:s.TypeIs (.ref z) "zip":=⟨_,qz,rfl⟩
 have Z:ZS b₁ b₂ s.heap s.heap z TI TO i j l m xs ys .none p q a b:=⟨qz,qI,qO,p1,p2,r1,r2,fun _ _ _ _ _ _ e=>e,rfl⟩
 refine zU (kU (qC (name:=Str.ofString "__next__") ty vW (qV vW ty F.entry_zip_next (zipN hn D Z ?_ ?_) (F.args_zip_next_1 _))))
 ·intro x' y' g g' hx hy Y ez t
  rw[ex] at hx;rw[ey] at hy;cases hx;cases hy
  rw[Y.sz] at ez ⊢
  have lt:=zX Y.zo
  have up:∀c o,c≠z->g.get? c=some o->g'.get? c=some o:=fun c o n e=>t.extBut _ _ n (zT _ e)
  refine zV (kQ g' ez (up _ _ D.TOz Y.to) (Y.wi.at fun o e=>up _ _ D.i1z e) (Y.wj.at fun o e=>up _ _ D.i2z e) ?_ (by rw[t.1,xJ,Y.sz]) fun c o n1 n2 n3 n4 e=>up c o n1 (Y.kp c o n1 n2 n3 n4 e))
  rw[<- Y.sz]
  exact t.extBut _ _ (jI lt) (zW _ rfl)
 ·intro no
  rw[ex,ey] at no
  rcases no with no|no<;>cases no
theorem nextZE{Q:Option Value->Shared->Prop}(hn:A.handled=none)(D:ZipApart z TI TO i j l m)
  (qz:IsZip s.heap z TI TO .none) (qI:IsPair s.heap TI (.ref i) (.ref j)) (qO:IsPair s.heap TO a b)
  (p1:IsI b₁ s.heap i l p) (p2:IsI b₂ s.heap j m q) (r1:IsS b₁ s.heap l xs) (r2:IsS b₂ s.heap m ys) (ends:xs[p]?=none\/ys[q]?=none)
  (kQ:∀g,(∀c o,c≠z->c≠TO->c≠i->c≠j->s.heap.get? c=some o->g.get? c=some o)->Q none { s with heap:=g }):wpAny (model prog w) A (pyNext (.ref z)) Q E s:=by
 have ty:s.TypeIs (.ref z) "zip":=⟨_,qz,rfl⟩
 have Z:ZS b₁ b₂ s.heap s.heap z TI TO i j l m xs ys .none p q a b:=⟨qz,qI,qO,p1,p2,r1,r2,fun _ _ _ _ _ _ e=>e,rfl⟩
 refine zU (kU (qC (name:=Str.ofString "__next__") ty vW (qV vW ty F.entry_zip_next (zipN hn D Z ?_ ?_) (F.args_zip_next_1 _))))
 ·intro x y g g' hx hy
  rw[hx,hy] at ends
  rcases ends with no|no<;>cases no
 ·rintro _ g e kp ⟨o,ho,ht⟩
  exact zU (wpAny_isInstance (T:="StopIteration") (b:=true) ⟨o,ho,ht⟩ isSubtype_stop (zV (kQ _ kp)))
end
abbrev itO(b:Bool)(l:Addr):Obj:={ cls:=.type (if b then "tuple_iterator" else "list_iterator"),data:=.fields #[.ref l,.int 0 0] }
abbrev z1(b:Bool)(h:Heap)(l:Addr):Heap:=h.push (itO b l)
abbrev z2(b c:Bool)(h:Heap)(l m:Addr):Heap:=(z1 b h l).push (itO c m)
abbrev z3(b c:Bool)(h:Heap)(l m:Addr):Heap:=(z2 b c h l m).push { cls:=.type "tuple",data:=.seq #[.ref h.objs.size,.ref (z1 b h l).objs.size] }
abbrev z4(b c:Bool)(h:Heap)(l m:Addr):Heap:=(z3 b c h l m).push { cls:=.type "tuple",data:=.seq #[.none,.none] }
abbrev z5(b c:Bool)(h:Heap)(l m:Addr):Heap:=(z4 b c h l m).push { cls:=.type "zip",data:=.fields #[.none,.bool false,.bool false,.ref (z2 b c h l m).objs.size,.ref (z3 b c h l m).objs.size] }
theorem IsS.push{b:Bool}{h:Heap}{l:Addr}{xs:Array Value}(x:IsS b h l xs)(o:Obj):IsS b (h.push o) l xs:=x.at fun o' e=>zT _ e
theorem new_zip(b c:Bool)(l m:Addr)(xs ys:Array Value):Meets (Builtin.«zip.__new__» ⟨[.type "zip",.ref l,.ref m],[]⟩) (fun _ R s=>IsS b s.heap l xs/\IsS c s.heap m ys/\R (.ok (.ret (.ref (z4 b c s.heap l m).objs.size))) { s with heap:=z5 b c s.heap l m }) :=
 .of_wp fun prog w A R s h=>by
  obtain⟨hp,g,d,tk,os⟩:=s;obtain⟨q1,q2,h⟩:=h
  have hsub:=sub_zip
  cases b<;>cases c
  ·have L1:Heap.IsList (Shared.heap ⟨hp,g,d,tk,os⟩) l xs:=q1
   have L2:Heap.IsList (Shared.heap ⟨hp.push { cls:=.type "list_iterator",data:=.fields #[.ref l,.int 0 0] },g,d,tk,os⟩) m ys:=IsS.push (b:=false) q2 _
   wp_walk using qK L1,qK L2
   exact⟨_,rfl,h⟩
  ·have L1:Heap.IsList (Shared.heap ⟨hp,g,d,tk,os⟩) l xs:=q1
   have L2:Heap.IsTuple (Shared.heap ⟨hp.push { cls:=.type "list_iterator",data:=.fields #[.ref l,.int 0 0] },g,d,tk,os⟩) m ys:=IsS.push (b:=true) q2 _
   wp_walk using qK L1,xR L2
   exact⟨_,rfl,h⟩
  ·have L1:Heap.IsTuple (Shared.heap ⟨hp,g,d,tk,os⟩) l xs:=q1
   have L2:Heap.IsList (Shared.heap ⟨hp.push { cls:=.type "tuple_iterator",data:=.fields #[.ref l,.int 0 0] },g,d,tk,os⟩) m ys:=IsS.push (b:=false) q2 _
   wp_walk using xR L1,qK L2
   exact⟨_,rfl,h⟩
  ·have L1:Heap.IsTuple (Shared.heap ⟨hp,g,d,tk,os⟩) l xs:=q1
   have L2:Heap.IsTuple (Shared.heap ⟨hp.push { cls:=.type "tuple_iterator",data:=.fields #[.ref l,.int 0 0] },g,d,tk,os⟩) m ys:=IsS.push (b:=true) q2 _
   wp_walk using xR L1,xR L2
   exact⟨_,rfl,h⟩
section
variable {prog:Program}{w:World}{A:Around}{E:Value->Shared->Prop}{s:Shared}
theorem isI_new{b:Bool}{h:Heap}{it l:Addr}(e:h.get? it=some (itO b l)):IsI b h it l 0:=by
 cases b
 ·exact⟨_,e,rfl,rfl⟩
 ·exact⟨_,e,rfl,rfl⟩
theorem call_zip{b c:Bool}{l m:Addr}{xs ys:Array Value}{Q:Value->Shared->Prop}(q1:IsS b s.heap l xs)(q2:IsS c s.heap m ys)
  (h:∀g,IsZip g (s.heap.objs.size+4) (s.heap.objs.size+2) (s.heap.objs.size+3) .none->IsPair g (s.heap.objs.size+2) (.ref s.heap.objs.size) (.ref (s.heap.objs.size+1))->IsPair g (s.heap.objs.size+3) .none .none ->
   IsI b g s.heap.objs.size l 0->IsI c g (s.heap.objs.size+1) m 0->(∀a o,s.heap.get? a=some o->g.get? a=some o)->Q (.ref (s.heap.objs.size+4)) { s with heap:=g }) :
  wpAny (model prog w) A (call (.type "zip") [.ref l,.ref m]) Q E s:=by
 refine callType_new F.called_zip (by decide) (F.typeCall_zip_2 _ _) (F.newCall_zip_2 _ _) (fun obj=>F.args_object_init_3 obj _ _) F.entry_zip_new (new_zip b c l m xs ys) ⟨q1,q2,?_⟩
 have n1:(z1 b s.heap l).objs.size=s.heap.objs.size+1:=xJ ..
 have n2:(z2 b c s.heap l m).objs.size=s.heap.objs.size+2:=by rw[xJ,n1]
 have n3:(z3 b c s.heap l m).objs.size=s.heap.objs.size+3:=by rw[xJ,n2]
 have n4:(z4 b c s.heap l m).objs.size=s.heap.objs.size+4:=by rw[xJ,n3]
 have g5:(z5 b c s.heap l m).get? (z4 b c s.heap l m).objs.size=some _:=zW _ rfl
 have g4:(z5 b c s.heap l m).get? (z3 b c s.heap l m).objs.size=some _:=zT _ (zW _ rfl)
 have g3:(z5 b c s.heap l m).get? (z2 b c s.heap l m).objs.size=some _:=zT _ (zT _ (zW _ rfl))
 have g2:(z5 b c s.heap l m).get? (z1 b s.heap l).objs.size=some (itO c m):=zT _ (zT _ (zT _ (zW _ rfl)))
 have g1:(z5 b c s.heap l m).get? s.heap.objs.size=some (itO b l):=zT _ (zT _ (zT _ (zT _ (zW _ rfl))))
 show _/\_
 rw[n2,n3,n4] at g5
 rw[n1,n2] at g3
 rw[n3] at g4
 rw[n1] at g2
 rw[n4]
 exact⟨⟨_,g5,rfl⟩,h _ g5 g3 g4 (isI_new g1) (isI_new g2) fun a o x=>zT _ (zT _ (zT _ (zT _ (zT _ x))))⟩
end
end Zp
namespace Dl
open PySem L2 PySem.Spec PyProof.Rows Zp
def vd(K:W.Frag)(b:Bool)(a:Addr)(H:Hp)(xs:List V):Prop:=match b with|true=>iY K H a xs|false=>ig K H a xs
section
variable {X:Cx}{pins:List (Addr×Obj)}{σ:L2.St}{H:Hp}{s:Shared}{b:Bool}{a:Addr}{xs ys:List V}
theorem vd.src(I:Inv X pins σ H s)(h:vd X.K b a H xs):∃its:List Value,aQ xs its/\IsS b s.heap a its.toArray/\xs.length<=sizeLine:=by
 cases b
 ·obtain⟨its,rv,pl,hz⟩:=I.list (show ig X.K H a xs from h);exact⟨its,rv,pl.isList,hz⟩
 ·obtain⟨its,rv,pl,hz⟩:=I.tuple (show iY X.K H a xs from h);exact⟨its,rv,pl,hz⟩
theorem vd.ne(I:Inv X pins σ H s){c:Addr}(hf:cJ X pins H c)(h:vd X.K b a H xs):a≠c:=by
 cases b
 ·exact Ni I hf h
 ·exact Nd I hf h
theorem vd.inj(I:Inv X pins σ H s)(h:vd X.K b a H xs)(h':vd X.K b a H ys):xs=ys:=by
 cases b
 ·exact I.list_inj h h'
 ·exact I.tuple_inj h h'
theorem vd.mono{K:W.Frag}{H H':Hp}(e:aW H H')(h:vd K b a H xs):vd K b a H' xs:=by
 cases b
 ·exact e.seq h
 ·exact aL e h
end
theorem F1{P:Program}{w:World}{K:W.Frag}{elts:List Expr}{k:Nat}{pos:Pos}(b c:Bool)(l1 l2 z TI TO i1 i2:Addr)(Z:SK z TI TO i1 i2) :
  Turn P w K (.Tuple elts k pos) (RZ (vd K b l1) (vd K c l2)) [z,TI,TO,i1,i2] z (fun i h=>IsZip h z TI TO .none/\IsPair h TI (.ref i1) (.ref i2)/\(∃a b,IsPair h TO a b)/\IsI b h i1 l1 i/\IsI c h i2 l2 i) where
 mem:=by simp
 obj:=fun i h st d hd=>by
  obtain⟨hz,hTI,⟨a,b',hTO⟩,p1,p2⟩:=st
  simp only[zQ,yE,xU] at hd
  rcases hd with rfl|rfl|rfl|rfl|rfl
  ·exact⟨_,hz,fun v q=>by have q:Data.fields _=Data.cell v:=q;cases q⟩
  ·exact⟨_,hTI,fun v q=>by have q:Data.seq _ _=Data.cell v:=q;cases q⟩
  ·exact⟨_,hTO,fun v q=>by have q:Data.seq _ _=Data.cell v:=q;cases q⟩
  ·exact p1.obj
  ·exact p2.obj
 keep:=fun i h h' st kk=>by
  obtain⟨hz,hTI,⟨a,b',hTO⟩,h1,h2⟩:=st
  exact⟨kk z (by simp) _ hz,kk TI (by simp) _ hTI,⟨a,b',kk TO (by simp) _ hTO⟩,h1.at fun o q=>kk i1 (by simp) o q,h2.at fun o q=>kk i2 (by simp) o q⟩
 item:=by
  intro X hP hw hK hc i pins s σ H E I hf st hg
  subst hP hw hK
  obtain⟨xs,ys,x,y,hq1,hq2,hx,hy⟩:=hg
  obtain⟨its1,rv1,p1,hz1⟩:=hq1.src I
  obtain⟨its2,rv2,p2,hz2⟩:=hq2.src I
  obtain⟨u1,hu1,ru1⟩:=rv1.get hx
  obtain⟨u2,hu2,ru2⟩:=rv2.get hy
  have D:ZipApart z TI TO i1 i2 l1 l2:=⟨Z.a1,Z.a2,Z.a3,Z.a4,Z.a5,Z.a6,Z.a7,Z.a8,Z.a9,Z.a0,hq1.ne I (hf z (by simp)),hq1.ne I (hf TO (by simp)),hq1.ne I (hf i1 (by simp)),hq1.ne I (hf i2 (by simp)),hq2.ne I (hf z (by simp)),hq2.ne I (hf TO (by simp)),hq2.ne I (hf i1 (by simp)),hq2.ne I (hf i2 (by simp))⟩
  obtain⟨hz,hTI,⟨a,b',hTO⟩,h1,h2⟩:=st
  refine nextZ (I.ok.hd hc) D hz hTI hTO h1 h2 p1 p2 (x:=u1) (y:=u2) (by simpa using hu1) (by simpa using hu2) fun g b1 b2 b3 b4 b5 b6 hk=>⟨.ref s.heap.objs.size,rfl,?_⟩
  have lt:∀ {c:Addr}{o:Obj},s.heap.get? c=some o->s.heap.objs.size≠c:=fun e=>jI (zX e)
  refine wpAny_letOwnedTupleGo_zip (s:={ s with heap:=g }) b1 fun g' hz' hs'=>?_
  have b5':g'.get? s.heap.objs.size=some { cls:=.type "tuple",data:=.seq #[u1,u2] }:=hs'.extBut _ _ (lt hz) b5
  have ht:sJ g' s.heap.objs.size (List.toArray [u1,u2]):=⟨⟨_,b5',rfl,_,rfl⟩,_,b5',rfl⟩
  refine⟨.ref s.heap.objs.size,_,Bj (ch:=[z,TI,TO,i1,i2]) (xs:=[x,y]) (t':=s.toks) I hf (fun b o hb q=>?_) (yM _) ht (.cons ru1 (.cons ru2 .nil)) (by show 2<=sizeLine;decide),rfl,
   ⟨s.heap.objs.size,x,y,rfl,I.fresh,rfl,fun zs hzs=>by rw[hzs.inj I hq1];exact hx,fun zs hzs=>by rw[hzs.inj I hq2];exact hy⟩,
   ⟨hz',hs'.extBut _ _ Z.a1 (hk _ _ D.TIz D.TITO D.TIi1 D.TIi2 hTI),⟨_,_,hs'.extBut _ _ Z.a2 b2⟩,b3.extBut hs'.extBut Z.a3,b4.extBut hs'.extBut Z.a4⟩,fun b hb=>?_⟩
  ·simp only[zQ,yE,xU,not_or] at hb
   exact hs'.extBut _ _ hb.1 (hk b o hb.1 hb.2.2.1 hb.2.2.2.1 hb.2.2.2.2 q)
  ·have:s.heap.objs.size≠b:=by
    simp only[zQ,yE,xU] at hb
    obtain⟨o1,g1,_⟩:=h1.obj
    obtain⟨o2,g2,_⟩:=h2.obj
    rcases hb with rfl|rfl|rfl|rfl|rfl
    ·exact lt hz
    ·exact lt hTI
    ·exact lt hTO
    ·exact lt g1
    ·exact lt g2
   rw[aF (jN this)]
   exact (hf b hb).1
 done:=by
  intro X hP hw hK hc i pins s σ H E I hf st hg
  subst hP hw hK
  obtain⟨xs,ys,hq1,hq2,hx⟩:=hg
  obtain⟨its1,rv1,p1,hz1⟩:=hq1.src I
  obtain⟨its2,rv2,p2,hz2⟩:=hq2.src I
  have D:ZipApart z TI TO i1 i2 l1 l2:=⟨Z.a1,Z.a2,Z.a3,Z.a4,Z.a5,Z.a6,Z.a7,Z.a8,Z.a9,Z.a0,hq1.ne I (hf z (by simp)),hq1.ne I (hf TO (by simp)),hq1.ne I (hf i1 (by simp)),hq1.ne I (hf i2 (by simp)),hq2.ne I (hf z (by simp)),hq2.ne I (hf TO (by simp)),hq2.ne I (hf i1 (by simp)),hq2.ne I (hf i2 (by simp))⟩
  obtain⟨hz,hTI,⟨a,b',hTO⟩,h1,h2⟩:=st
  have e1:=rv1.length
  have e2:=rv2.length
  refine nextZE (I.ok.hd hc) D hz hTI hTO h1 h2 p1 p2 (hx.elim (fun q=>.inl (by simp;omega)) fun q=>.inr (by simp;omega)) fun g hk=>⟨rfl,?_⟩
  refine FY (ch:=[z,TI,TO,i1,i2]) (t':=s.toks) I hf fun b o hb q=>?_
  simp only[zQ,yE,xU,not_or] at hb
  exact hk b o hb.1 hb.2.2.1 hb.2.2.2.1 hb.2.2.2.2 q
 self:=fun _ _ _ _ _ st h=>wpAny_pyIter_zip st.1 h
section
variable {X:Cx}{l l':Expr}{fs:Env->Option (List D)}{elts:List Expr}{k:Nat}{pos p tp:Pos}
theorem Ki{tl:TA}(B:pO X "zip" (.type "zip"))(ha:PA X [l,l'] tl)(hs:starEach [l,l'] X.env=(false,eval l X.env)::starEach [l'] X.env)(hs2:(backTo pos (starEach [l'] X.env)).any (·.1)=false) :
  PI X (.Tuple elts k tp) (.Call (.Name "zip" p) [l,l'] [] pos) (fun σ H R=>tl σ H fun vs H1=>∃a b,vs=[.ref a,.ref b]/\∃c d xs ys,vd X.K c a H1 xs/\vd X.K d b H1 ys/\R (RZ (vd X.K c a) (vd X.K d b)) H1):=by
 intro pins s σ H R I h
 refine Call_ (gw I B.gl B.mg B.bt (qS (cx (ha pos pins s σ H _ I h) fun us s1 ⟨vs,H1,I1,r1,q1⟩=>?_) hs hs2))
 obtain⟨a,b,e,c,d,xs,ys,hq1,hq2,q⟩:=q1
 subst e
 obtain⟨u,u',rfl,rx,ry⟩:=vals2 r1
 cases rx
 cases ry
 obtain⟨its,rv,pl,hz⟩:=hq1.src I1
 obtain⟨its',rv',pl',hz'⟩:=hq2.src I1
 refine call_zip pl pl' fun g b1 b2 b3 b4 b5 kp=>wpAny_pyIter_zip (s:={ s1 with heap:=g }) b1 ?_
 refine⟨_,_,_,_,H1,rfl,I1.kept (t':=s1.toks) kp,F1 c d a b (s1.heap.objs.size+4) (s1.heap.objs.size+2) (s1.heap.objs.size+3) s1.heap.objs.size (s1.heap.objs.size+1) ?_,⟨b1,b2,⟨_,_,b3⟩,b4,b5⟩,fun c hc=>?_,q⟩
 ·constructor<;>(intro z;have z:(_:Nat)=_:=z;omega)
 ·have hge:s1.heap.objs.size<=c:=by
   simp only[zQ,yE,xU] at hc
   rcases hc with rfl|rfl|rfl|rfl|rfl
   ·exact jV _ _
   ·exact jV _ _
   ·exact jV _ _
   ·exact yM _
   ·exact jV _ _
  exact I1.fpOk hge (I1.hok.fresh hge)
def PD:List D->Option (List D):=fun ds=>match ds with
 | [x,y]=>(g0 x).bind fun xs=>(g0 y).map fun ys=>kl xs ys
 | _=>none
theorem C5{K:W.Frag}{HF:Hp}{d:D}{v:V}{xs:List D}(h:g0 d=some xs)(r:Rep K HF d v):∃b a vs,v=.ref a/\vd K b a HF vs/\aw K HF xs vs:=by
 rcases mQ h with rfl|rfl
 ·simp only[Rep] at r
  obtain⟨a,vs,rfl,q,rr⟩:=r
  exact⟨true,a,vs,rfl,q,rr⟩
 ·simp only[Rep] at r
  obtain⟨a,vs,rfl,q,rr⟩:=r
  exact⟨false,a,vs,rfl,q,rr⟩
def gD(fs:Env->Option (List D)):Env->Option (List D):=fun ρ=>(fs ρ).bind PD
theorem Lr(B:pO X "zip" (.type "zip"))(hs:starEach [l,l'] X.env=(false,eval l X.env)::starEach [l'] X.env)(hs2:(backTo pos (starEach [l'] X.env)).any (·.1)=false)(h:DA X [l,l'] fs) :
  DI X (.Tuple elts k tp) (.Call (.Name "zip" p) [l,l'] [] pos) (gD fs) :=
 yk (Ki B h hs hs2) fun σ H R ⟨HF,ρ,ds,sm,eo,hf,q⟩=>by
  obtain⟨x,hx,hf⟩:=bs hf
  refine⟨HF,ρ,_,sm,eo,hx,fun vs H1 HF1 g1 r1=>?_⟩
  unfold PD at hf
  split at hf
  ·obtain⟨xs,h1,hf⟩:=bs hf
   obtain⟨ys,h2,rfl⟩:=ag hf
   obtain⟨v,r',rfl,a,b⟩:=r1.cons_inv
   obtain⟨v',r'',rfl,a',b'⟩:=b.cons_inv
   rw[b'.nil_inv]
   obtain⟨c,ad,us,rfl,hq,rr⟩:=C5 h1 a
   obtain⟨c',ad',us',rfl,hq',rr'⟩:=C5 h2 a'
   exact⟨ad,ad',rfl,c,c',us,us',hq.mono g1.fh,hq'.mono g1.fh,q _ H1 HF1 g1 (HC hq (fun _ _ s h=>h.mono s) hq' (fun _ _ s h=>h.mono s) rr rr')⟩
  ·cases hf
end
end Dl
namespace Zp
open PySem PyProof.Rows
theorem IsI.ne{b:Bool}{h:Heap}{it l:Addr}{k:Nat}{xs:Array Value}(x:IsI b h it l k)(y:IsS b h l xs):l≠it:=by
 rintro rfl
 cases b
 ·obtain⟨o,e,c,d⟩:=(show h.IsListIter l l k from x)
  obtain⟨o',e',r⟩:=(show h.IsList l xs from y)
  rw[e] at e';cases e'
  simp_all
 ·obtain⟨o,e,c,d⟩:=(show h.IsTupleIter l l k from x)
  obtain⟨o',e',r⟩:=(show h.IsTuple l xs from y)
  rw[e] at e';cases e'
  simp_all
section
variable {prog:Program}{w:World}{A:Around}{E:Value->Shared->Prop}{s:Shared}
theorem drawsI(hn:A.handled=none)(b:Bool)(it l:Addr)(xs:Array Value):Draws prog w A it [it,l] xs.size (fun i x=>xs[i]?=some x) (fun i h=>IsI b h it l i/\IsS b h l xs) where
 live:=fun i h st=>let ⟨o,e,_⟩:=st.1.obj;⟨o,e⟩
 frame:=fun i h h' st k=>⟨st.1.at (k it (by simp)),st.2.at (k l (by simp))⟩
 item:=fun i s Q E hi st hQ=>nxt st.1 st.2 (v:=xs[i]) (by simp[hi]) fun g e t=>hQ _ g s.toks (by simp[hi]) ⟨e,st.2.extBut t.extBut (st.1.ne st.2)⟩ t
 done:=fun s Q E st hE=>nxtE hn st.1 st.2 (by simp) hE
theorem nextE{b₁:Bool}{e it l:Addr}{i:Nat}{items:Array Value}{x old:Value}{Q:Option Value->Shared->Prop}(hn:A.handled=none)
  (qe:IsEnum s.heap e it i old) (qi:IsI b₁ s.heap it l i) (ql:IsS b₁ s.heap l items) (ex:items[i]?=some x) (nei:e≠it)
  (kQ:∀g tk,IsEnumOut g e it ((i:Int)+1) x s.heap.objs.size->IsI b₁ g it l (i+1)->g.get? s.heap.objs.size=some { cls:=.type "tuple",data:=.seq #[.int i tk,x] } ->
   g.objs.size=s.heap.objs.size+1->(∀c o,c≠e->c≠it->s.heap.get? c=some o->g.get? c=some o)->Q (some (.ref s.heap.objs.size)) { s with heap:=g,toks:=tk+1 }) :
  wpAny (model prog w) A (pyNext (.ref e)) Q E s:=by
 have nel:e≠l:=by
  rintro rfl
  cases b₁
  ·obtain⟨o,e1,r⟩:=(show s.heap.IsList e items from ql)
   rw[qe] at e1;cases e1;simp at r
  ·obtain⟨o,e1,r⟩:=(show s.heap.IsTuple e items from ql)
   rw[qe] at e1;cases e1;simp at r
 have D:Draws prog w A.in1 it [it,l] items.size (fun i x=>items[i]?=some x) (fun i h=>IsI b₁ h it l i/\IsS b₁ h l items):=drawsI (A:=A.in1) hn b₁ it l items
 refine wpAny_pyNext_enum_itemD D qe ⟨qi,ql⟩ (Array.getElem?_eq_some_iff.mp ex).1 nei (by simp[nei,nel]) fun y g tk hy a b c d k=>?_
 rw[ex] at hy;cases hy
 exact kQ g tk a b.1 c d k
end
end Zp
namespace Dl
open PySem L2 PySem.Spec PyProof.Rows Zp
theorem qx{P:Program}{w:World}{K:W.Frag}{elts:List Expr}{k:Nat}{pos:Pos}(b:Bool)(a it e:Addr)(hei:e≠it):Turn P w K (.Tuple elts k pos) (RH (vd K b a)) [e,it] e (fun i h=>(∃old,IsEnum h e it i old)/\IsI b h it a i) where
 mem:=by simp
 obj:=fun i h st c hc=>by
  obtain⟨⟨old,he⟩,hi⟩:=st
  rcases List.mem_cons.mp hc with z|z
  ·subst z;exact⟨_,he,fun v q=>by have q:Data.fields _=Data.cell v:=q;cases q⟩
  ·rw[List.mem_singleton.mp z];exact hi.obj
 keep:=fun i h h' st kk=>⟨let ⟨old,he⟩:=st.1;⟨old,kk e (by simp) _ he⟩,st.2.at fun o q=>kk it (by simp) o q⟩
 item:=by
  intro X hP hw hK hc i pins s σ H E I hf st hg
  subst hP hw hK
  obtain⟨xs,x,hq,hx⟩:=hg
  obtain⟨its,rv,p,hz⟩:=hq.src I
  obtain⟨u,hu,ru⟩:=rv.get hx
  obtain⟨⟨old,he⟩,hi⟩:=st
  refine nextE (I.ok.hd hc) he hi p (x:=u) (by simpa using hu) hei fun g tk b1 b2 b3 b4 hk=>⟨.ref s.heap.objs.size,rfl,?_⟩
  have lt:∀ {c:Addr}{o:Obj},s.heap.get? c=some o->s.heap.objs.size≠c:=fun e=>jI (zX e)
  have hte:s.heap.objs.size≠e:=lt he
  refine wpAny_letOwnedTupleGo_enum (s:={ s with heap:=g,toks:=tk+1 }) b1 fun g' he' hs'=>?_
  have b3':g'.get? s.heap.objs.size=some { cls:=.type "tuple",data:=.seq #[.int i tk,u] }:=hs'.extBut _ _ hte b3
  have ht:sJ g' s.heap.objs.size (List.toArray [Value.int (i:Nat) tk,u]):=⟨⟨_,b3',rfl,_,rfl⟩,_,b3',rfl⟩
  refine⟨.ref s.heap.objs.size,_,Bj (ch:=[e,it]) (xs:=[.int (i:Nat),x]) (t':=tk+1) I hf (fun c o hb q=>?_) (yM _) ht (.cons ⟨_,rfl⟩ (.cons ru .nil)) (by show 2<=sizeLine;decide),rfl,
   ⟨s.heap.objs.size,x,rfl,I.fresh,rfl,fun zs hzs=>by rw[hzs.inj I hq];exact hx⟩,⟨⟨_,he'⟩,b2.extBut hs'.extBut (jN hei)⟩,fun c hc'=>?_⟩
  ·simp only[zQ,yE,xU,not_or] at hb
   exact hs'.extBut _ _ hb.1 (hk c o hb.1 hb.2 q)
  ·have:s.heap.objs.size≠c:=by
    simp only[zQ,yE,xU] at hc'
    obtain⟨o1,g1,_⟩:=hi.obj
    rcases hc' with rfl|rfl
    ·exact lt he
    ·exact lt g1
   rw[aF (jN this)]
   exact (hf c hc').1
 done:=by
  intro X hP hw hK hc i pins s σ H E I hf st hg
  subst hP hw hK
  obtain⟨xs,hq,hx⟩:=hg
  obtain⟨its,rv,p,hz⟩:=hq.src I
  have hh:X.A.in1.handled=none:=I.ok.hd hc
  have hl:=rv.length
  obtain⟨⟨old,he⟩,hi⟩:=st
  have hT:s.TypeIs (.ref e) "enumerate":=⟨_,he,rfl⟩
  unfold pyNext
  refine zU (kU (qC (name:=Str.ofString "__next__") hT F.slot_enumerate_next (qV F.slot_enumerate_next hT F.entry_enumerate_next ?_ (F.args_enumerate_next_1 _))))
  refine zU (m:=field (.ref e) 2) (qT he rfl (x:=.ref it) rfl ?_)
  refine zU (nxtE hh hi p (by simp;omega) fun h1 x k1 hx1=>?_)
  obtain⟨o,ho,hc1⟩:=hx1
  refine zU (wpAny_isInstance (T:="StopIteration") (b:=true) ⟨o,ho,hc1⟩ isSubtype_stop (zV ⟨rfl,?_⟩))
  obtain⟨f0,f1,f2,f3,f4,f5⟩:=hf it (by simp)
  exact I.turned (t':=s.toks) (fun b o hb q=>k1 b o hb q) f0 f1 f3 f4 f5
 self:=fun _ _ _ _ _ st h=>let ⟨_,he⟩:=st.1;wY he h
section
variable {X:Cx}{l:Expr}{f:Env->Option D}{fs:Env->Option (List D)}{elts:List Expr}{k:Nat}{pos p tp:Pos}
theorem Ld{tl:TA}(B:pO X "enumerate" (.type "enumerate"))(ha:PA X [l] tl)(hs:starEach [l] X.env=[(false,eval l X.env)]):PI X (.Tuple elts k tp) (.Call (.Name "enumerate" p) [l] [] pos) (fun σ H R=>tl σ H fun vs H1=>∃a,vs=[.ref a]/\∃b xs,vd X.K b a H1 xs/\R (RH (vd X.K b a)) H1):=by
 intro pins s σ H R I h
 refine Call_ (gw I B.gl B.mg B.bt (qS (cx (ha pos pins s σ H _ I h) fun us s1 ⟨vs,H1,I1,r1,q1⟩=>?_) hs rfl))
 obtain⟨a,e,b,xs,hq,q⟩:=q1
 subst e
 obtain⟨u,rfl,rx⟩:=vals1 r1
 cases rx
 have fresh:∀b∈[s1.heap.objs.size+1,s1.heap.objs.size],cJ X pins H1 b:=fun b hb=>by
  rcases List.mem_cons.mp hb with z|z
  ·subst z;exact I1.fpOk (Nat.le_succ _) (I1.hok.fresh (Nat.le_succ _))
  ·cases List.mem_singleton.mp z;exact I1.fpOk (yM _) I1.fresh
 obtain⟨its,rv,pl,hz⟩:=hq.src I1
 cases b with
 | false =>
  refine call_enumerate_list pl fun h' he hit hsz kp=>wY (s:={ s1 with heap:=h' }) he ?_
  exact⟨_,_,_,_,H1,rfl,I1.kept (t':=s1.toks) kp,qx false a s1.heap.objs.size (s1.heap.objs.size+1) (Nat.succ_ne_self _),⟨⟨_,he⟩,hit⟩,fresh,q⟩
 | true =>
  refine En.call_enumT (show s1.heap.IsTuple a its.toArray from pl) fun h' he hit hsz kp=>wY (s:={ s1 with heap:=h' }) he ?_
  exact⟨_,_,_,_,H1,rfl,I1.kept (t':=s1.toks) kp,qx true a s1.heap.objs.size (s1.heap.objs.size+1) (Nat.succ_ne_self _),⟨⟨_,he⟩,hit⟩,fresh,q⟩
def bO(fs:Env->Option (List D)):Env->Option (List D):=fun ρ=>(fs ρ).bind fun ds=>(cI ds).map (bP 0)
theorem JV(B:pO X "enumerate" (.type "enumerate"))(h:DA X [l] fs)(hs:starEach [l] X.env=[(false,eval l X.env)]):DI X (.Tuple elts k tp) (.Call (.Name "enumerate" p) [l] [] pos) (bO fs) :=
 yk (Ld B h hs) fun σ H R ⟨HF,ρ,ds,sm,eo,hf,q⟩=>by
  obtain⟨x,hx,hf⟩:=bs hf
  obtain⟨es,h1,rfl⟩:=ag hf
  obtain⟨d,h0,h1⟩:=bs h1
  rw[gE h0] at hx
  refine⟨HF,ρ,_,sm,eo,hx,fun vs H1 HF1 g1 r1=>?_⟩
  obtain⟨v,r',rfl,a,b⟩:=r1.cons_inv
  rw[b.nil_inv]
  obtain⟨c,ad,us,rfl,hq,rr⟩:=C5 h1 a
  exact⟨ad,rfl,c,us,hq.mono g1.fh,q _ H1 HF1 g1 (Fq hq (fun _ _ s h=>h.mono s) rr)⟩
end
end Dl
namespace Srt
open PySem PySem.W PySem.Calls PyProof.Rows L2
theorem cJ.at{X:Cx}{pins:List (Addr×Obj)}{H H':Hp}{b:Addr}(h:cJ X pins H b)(e:H' b=none):cJ X pins H' b:=⟨e,h.2⟩
section
variable {X:Cx}{pins:List (Addr×Obj)}{σ:L2.St}{H:Hp}{s:Shared}{A:Around}{E:Value->Shared->Prop}
theorem upd_inv{b:Addr}{g:Array Value->Array Value}(I:Inv X pins σ H s)(f:cJ X pins H b):Inv X pins σ H { s with heap:=s.heap.update b (Obj.mapSeq g) }:=by
 obtain⟨f0,f1,f2,f3,f4,f5⟩:=f
 exact I.turned (t':=s.toks) (h':=s.heap.update b (Obj.mapSeq g)) (fun c o hc e=>(xN _ _ (jN hc)).trans e) f0 f1 f3 f4 f5
theorem pin_get{fp:List Addr}{h:Heap}{b:Addr}{o:Obj}{H':Hp}{s':Shared}(I:Inv X (pins++o8 fp h) σ H' s')(hb:b∈fp)(e:h.get? b=some o):s'.heap.get? b=some o/\H' b=none :=
 let q:=I.pin (b,o) (yD _ (yD _ (dO hb e)));⟨q.1,q.2.1⟩
theorem list_sortK{a:Addr}{f:Value}{vs:List Value}{n:Nat}{P:PySem.Fin->Shared->Prop}(I:Inv X pins σ H s)(ho:s.heap.get? a=some (seqObj "list" vs.toArray n))(fa:cJ X pins H a)(h64:vs.length < 64)
  (J:List Value->Hp->Prop) (j0:J [] H)
  (step:∀us v,vs[us.length]?=some v->∀pl s' H',Inv X (pins++pl) σ H' s'->J us H'->wpAny (model X.prog X.w) A (call f [v]) (fun u s''=>∃H'',Inv X (pins++pl) σ H'' s''/\J (us++[u]) H'') (fun _ _=>False) s')
  (fin:∀us H',us.length=vs.length->J us H'->∃ (z:Nat->Int) (κ:SortKind),(2<=vs.length->∀s',Inv X pins σ H' s'->(∀Q':SortKind->Shared->Prop,Q' κ s'->wpAny (model X.prog X.w) A (keyKind' us.toArray) Q' (fun _ _=>False) s') /\
    ∀i j C,i < vs.length->j < vs.length->C (SP.eQ z i j) s'->kas_ask X.prog X.w A κ us i j C s') /\
   ∀s' c,Inv X pins σ H' s'->cJ X pins H' a->s'.heap.get? a=some (seqObj "list" (outV z vs).toArray c)->P (.done (.ret .none)) s') :
  wpAny (model X.prog X.w) A (ksk_tree a f false) P E s:=by
 have hsl:vs.length<=sizeLine:=by rw[qU];omega
 unfold ksk_tree
 refine zU (vN ho rfl ?_)
 refine zU (kC ho rfl ?_ (by simpa using hsl) (xV _))
 obtain⟨e1,ho1⟩:∃e,(s.heap.update a (Obj.mapSeq fun _=>(#[]:Array Value))).get? a=some (seqObj "list" #[] e):=⟨_,kE ho fun _=>#[]⟩
 have I1:=upd_inv (g:=fun _=>(#[]:Array Value)) I fa
 refine zU (seqEpoch_at ho1 rfl ?_)
 refine zU (wpAny_newTuple ?_ (by simpa using hsl))
 refine zU (kR ?_ (xV _))
 refine xX ?_
 have ho3:(((s.heap.update a (Obj.mapSeq fun _=>(#[]:Array Value))).push (seqObj "tuple" vs.toArray 0)).push (seqObj "list" #[] 0)).get? a=some (seqObj "list" #[] e1):=zT _ (zT _ ho1)
 have hk3:(((s.heap.update a (Obj.mapSeq fun _=>(#[]:Array Value))).push (seqObj "tuple" vs.toArray 0)).push (seqObj "list" #[] 0)).get? ((s.heap.update a (Obj.mapSeq fun _=>(#[]:Array Value))).push (seqObj "tuple" vs.toArray 0)).objs.size=some (seqObj "list" #[] 0):=zW _ rfl
 have I3:=(I1.kept (t':=s.toks) (h':=((s.heap.update a (Obj.mapSeq fun _=>(#[]:Array Value))).push (seqObj "tuple" vs.toArray 0)).push (seqObj "list" #[] 0)) fun b o e=>zT _ (zT _ e))
 have I2:=(I1.kept (t':=s.toks) (h':=(s.heap.update a (Obj.mapSeq fun _=>(#[]:Array Value))).push (seqObj "tuple" vs.toArray 0)) fun b o e=>zT _ e)
 have fk:cJ X pins H ((s.heap.update a (Obj.mapSeq fun _=>(#[]:Array Value))).push (seqObj "tuple" vs.toArray 0)).objs.size:=I2.fpOk (yM _) (I2.hok.fresh (yM _))
 have hka:((s.heap.update a (Obj.mapSeq fun _=>(#[]:Array Value))).push (seqObj "tuple" vs.toArray 0)).objs.size≠a:=by
  have hlt:=zX ho1
  rw[xJ]
  exact jI (jO hlt)
 show wpAny _ A _ P E { s with heap:=((s.heap.update a (Obj.mapSeq fun _=>(#[]:Array Value))).push (seqObj "tuple" vs.toArray 0)).push (seqObj "list" #[] 0) }
 generalize ((s.heap.update a (Obj.mapSeq fun _=>(#[]:Array Value))).push (seqObj "tuple" vs.toArray 0)).objs.size=kS at hk3 fk hka
 generalize e3:({ s with heap:=((s.heap.update a (Obj.mapSeq fun _=>(#[]:Array Value))).push (seqObj "tuple" vs.toArray 0)).push (seqObj "list" #[] 0) }:Shared)=s3 at I3
 have ho3:s3.heap.get? a=some (seqObj "list" #[] e1):=by rw[<- e3];exact ho3
 have hk3:s3.heap.get? kS=some (seqObj "list" #[] 0):=by rw[<- e3];exact hk3
 clear e3 I2 I1 ho1 ho
 unfold ksk_rest
 refine zU (wJ ?_)
 first
  | rw[List.forIn_toArray]
  | (rw[<- Array.forIn_toList];simp only[List.toList_toArray])
  | rw[<- Array.forIn_toList]
 refine zU (ksk_fold (fun i s'=>∃us H' e,us.length=i/\Inv X pins σ H' s'/\H' a=none/\H' kS=none/\s'.heap.get? a=some (seqObj "list" #[] e1)/\s'.heap.get? kS=some (seqObj "list" us.toArray e)/\J us H') vs 0 s3
  ⟨[],H,0,rfl,I3,fa.1,fk.1,ho3,hk3,j0⟩ ?step ?done)
 case step =>
  rintro j x s' hx ⟨us,H',e,hu,I',ha',hk',hoa,hok,j'⟩
  have hu:us.length=j:=by omega
  have hj:j < vs.length:=(List.getElem?_eq_some_iff.mp hx).1
  have Ip:=I'.pinned (fp:=[a,kS]) (fun b hb=>by
   rcases List.mem_cons.mp hb with rfl|hb
   ·exact cJ.at fa ha'
   ·rw[List.mem_singleton.mp hb];exact cJ.at fk hk') (fun b hb=>by
   rcases List.mem_cons.mp hb with rfl|hb
   ·exact⟨_,hoa,fun v z=>by cases z⟩
   ·rw[List.mem_singleton.mp hb];exact⟨_,hok,fun v z=>by cases z⟩)
  refine zU (kU (xA (step us x (by rw[hu];exact hx) _ s' H' Ip j') (fun u s'' he=>?_) fun _ _ hF=>hF.elim))
  obtain⟨H'',I'',j''⟩:=he
  try dsimp only
  obtain⟨ga,na⟩:=pin_get I'' (b:=a) zE hoa
  obtain⟨gk,nk⟩:=pin_get I'' (b:=kS) (zC _ zE) hok
  have I4:=I''.unpinned
  obtain⟨c2,hc2⟩:∃c2,(s''.heap.update kS (Obj.mapSeq (·.push u))).get? kS=some (seqObj "list" (us.toArray.push u) c2):=⟨_,kE gk (·.push u)⟩
  refine zU (kC gk rfl ?_ (by rw[zH,qU];omega) (yC (Nat.le_of_eq (Array.size_push ..)) (by rw[zH,qU];omega)))
  refine zV ⟨rfl,us++[u],H'',c2,by rw[zN,hu];simp,upd_inv I4 (cJ.at fk nk),na,nk,(xN _ _ hka).trans ga,?_,j''⟩
  rw[hc2]
  simp
 case done =>
  rintro s' ⟨us,H',e,hu,I',ha',hk',hoa,hok,j'⟩
  have hu:us.length=vs.length:=by omega
  try dsimp only
  refine zU (vN hok rfl ?_)
  obtain⟨z,κ,hz,hP⟩:=fin us H' hu j'
  have last:∀st':SortSt,(arrOf st').map (·.2)=(outV z vs).toArray->failedOf st'=none->wpAny (model X.prog X.w) A (ksk_tail a false e1 (.ref kS) st') P E s':=fun st' h1 h2=>by
   unfold ksk_tail
   try dsimp only
   rw[h1,h2]
   have na1:(s'.heap.update kS (Obj.mapSeq fun _=>(#[]:Array Value))).get? a=some (seqObj "list" #[] e1):=(xN _ _ hka).trans hoa
   have I5:=upd_inv (g:=fun _=>(#[]:Array Value)) I' (cJ.at fk hk')
   have I6:=upd_inv (s:={ s' with heap:=s'.heap.update kS (Obj.mapSeq fun _=>(#[]:Array Value)) }) (g:=fun _=>(outV z vs).toArray) I5 (cJ.at fa ha')
   refine zU (kC hok rfl ?_ (by rw[zH,qU];omega) (xV _))
   refine zU (wpAny_letGo ?_)
   refine zU (seqEpoch_at na1 rfl ?_)
   refine zU (kC na1 rfl ?_ (xV _) (by
    simp only[yO,qP]
    show (outV z vs).toArray.size<=_;rw[zH,outV_len];omega))
   obtain⟨c,hc⟩:∃c,((s'.heap.update kS (Obj.mapSeq fun _=>(#[]:Array Value))).update a (Obj.mapSeq fun _=>(outV z vs).toArray)).get? a=some (seqObj "list" (outV z vs).toArray c):=⟨_,kE na1 fun _=>(outV z vs).toArray⟩
   simp only[bne_self_eq_false,yO,qP]
   exact zV (hP _ c I6 (cJ.at fa ha') hc)
  unfold ksk_end
  try dsimp only
  simp only[yO,qP]
  by_cases h2:vs.toArray.size < 2
  ·rw[yL h2,yL h2]
   refine zU (zV ?_)
   rw[StateT.run_pure]
   refine zU (zV (last _ ?_ rfl))
   have h2':vs.length < 2:=by simpa using h2
   unfold outV
   rw[yL h2']
   show ((us.toArray.zip vs.toArray).map (·.2))=vs.toArray
   apply Array.toList_inj.mp
   simp only[Array.toList_map,Array.toList_zip]
   exact List.map_snd_zip (by rw[hu];exact yM _)
  ·rw[yN h2,yN h2]
   have h2':2<=vs.length:=by
    have:¬ vs.length < 2:=by simpa using h2
    omega
   obtain⟨hk,hlt⟩:=hz h2' s' I'
   refine zU (xA (hk (fun κ' s''=>κ'=κ/\s''=s') ⟨rfl,rfl⟩) (fun κ' s'' hs=>?_) fun _ _ x=>x.elim)
   obtain⟨rfl,rfl⟩:=hs
   refine zU (xA (kat_run (Q:=fun st' s2=>s2=s''/\(arrOf st').map (·.2)=(outV z vs).toArray/\failedOf st'=none) (G:=fun p s2=>s2=s''/\p=SP.run (SP.eQ z) (kas_sort vs.length))
    hu h2' h64 (fun p st' s2 a1 a2 a3 a4=>⟨a4.1,?_,a3⟩) (SP.wp_run hlt (kas_sort vs.length) (SP.HB (by omega)) ⟨rfl,rfl⟩)) ?_ fun _ _ e=>e)
   ·rw[kat_snds hu a2,a4.2]
    unfold outV
    rw[yN (by omega)]
   ·rintro⟨⟨⟩,st'⟩ s2 ⟨hs,h4,h5⟩
    subst hs
    exact last st' h4 h5
theorem sortedK{l:Value}{f:Addr}{vs:List Value}{Q:Value->Shared->Prop}(I:Inv X pins σ H s)(h64:vs.length < 64)
  (hcol:∀ {Q':List Value->Shared->Prop},(∀h':Heap,(∀b o,s.heap.get? b=some o->h'.get? b=some o)->Q' vs { s with heap:=h' })->wpAny (model X.prog X.w) A.in1 (collect l) Q' E s)
  (J:List Value->Hp->Prop) (j0:J [] H)
  (step:∀us v,vs[us.length]?=some v->∀pl s' H',Inv X (pins++pl) σ H' s'->J us H'->wpAny (model X.prog X.w) A.in1.in1 (call (.ref f) [v]) (fun u s''=>∃H'',Inv X (pins++pl) σ H'' s''/\J (us++[u]) H'') (fun _ _=>False) s')
  (fin:∀us H',us.length=vs.length->J us H'->∃ (z:Nat->Int) (κ:SortKind),(2<=vs.length->∀s',Inv X pins σ H' s'->(∀Q':SortKind->Shared->Prop,Q' κ s'->wpAny (model X.prog X.w) A.in1.in1 (keyKind' us.toArray) Q' (fun _ _=>False) s') /\
    ∀i j C,i < vs.length->j < vs.length->C (SP.eQ z i j) s'->kas_ask X.prog X.w A.in1.in1 κ us i j C s') /\
   ∀s' D c,Inv X pins σ H' s'->cJ X pins H' D->s'.heap.get? D=some (seqObj "list" (outV z vs).toArray c)->Q (.ref D) s') :
  wpAny (model X.prog X.w) A (call (.builtin "sorted") [l] [(Str.ofString "key",.ref f)]) Q E s:=by
 have hsl:vs.length<=sizeLine:=by rw[qU];omega
 refine call_function_entry_kw kind_sorted plain_sorted entry_sorted (ksk_s1 _ _) ?_
 unfold Builtin.«sorted»
 refine zU (m:=checkCount "sorted" 1 1 _) (zV (zU (hcol fun h1 kp=>?_)))
 refine zU (kR ?_ (by simpa using hsl))
 have I1:=I.kept (t':=s.toks) kp
 have fD:cJ X pins H h1.objs.size:=I1.fpOk (yM _) (I1.hok.fresh (yM _))
 have hoD:(h1.push (seqObj "list" vs.toArray 0)).get? h1.objs.size=some (seqObj "list" vs.toArray 0):=zW _ rfl
 have I2:=I1.kept (t':=s.toks) (h':=h1.push (seqObj "list" vs.toArray 0)) fun b o e=>zT _ e
 show wpAny _ _ _ _ _ { s with heap:=h1.push (seqObj "list" vs.toArray 0) }
 refine zU (xX (wpAny_call_entry_kw slot_list_sort ⟨_,hoD,rfl⟩ entry_list_sort ?body (ksk_l1 _ _)))
 case body =>
  show wpAny (model X.prog X.w) A.in1.in1 (Builtin.«list.sort» ⟨[.ref h1.objs.size],[(Str.ofString "key",.ref f)]⟩) _ _ _
  rw[ksk_t1]
  refine list_sortK I2 hoD fD h64 J j0 step fun us H' hu j'=>?_
  obtain⟨z,κ,hz,hP⟩:=fin us H' hu j'
  exact⟨z,κ,hz,fun s' c I' f' e=>⟨_,rfl,zV ⟨_,rfl,hP s' _ c I' f' e⟩⟩⟩
end
end Srt
namespace Dl
open PySem L2 PySem.Spec PyProof.Rows
theorem _root_.L2.Inv.track{X:Cx}{pins:List (Addr×Obj)}{σ:L2.St}{H:Hp}{s:Shared}{b:Addr}{o:HO}(I:Inv X pins σ H s)(f:cJ X pins H b)(ho:eL X.prog X.w (upd H b o) s.heap b o):Inv X pins σ (upd H b o) s:=by
 obtain⟨f0,f1,f2,f3,f4,f5⟩:=f
 have up:∀c u,H c=some u->upd H b o c=some u:=fun c u e=>by rw[aF (aX e f0)];exact e
 refine⟨I.ok,I.os,I.bare,⟨I.base.keep,I.base.slot,fun c oc e n hx=>?_,I.base.there,fun c xs e=>up c _ (I.base.tups c xs e),fun c oc u e=>up c _ (I.base.frzs c oc u e),⟨fun c u e t=>up c u (I.base.tbls.st c u e t),I.base.tbls.gr⟩⟩,I.loc,I.cell,?_,fun x c e=>?_,fun p hp=>?_,fun c u e=>?_,I.len⟩
 ·have hne:c≠b:=fun z=>by
   rcases f3 with g|g
   ·exact hx (z ▸ g)
   ·exact absurd (zP (zX e) (z ▸ g)) (qE _)
  rw[aF hne];exact I.base.free c oc e n hx
 ·rw[aF (jN f1)];exact I.free
 ·rw[aF (f4 x c e)];exact I.freeC x c e
 ·obtain⟨e,n,r⟩:=I.pin p hp
  exact⟨e,by rw[aF (f5 p hp)];exact n,r⟩
 ·by_cases hc:c=b
  ·subst hc;rw[aC] at e;cases e;exact ho
  ·rw[aF hc] at e
   exact (I.hok c u e).stay (fun d w _ q=>q) (fun d q=>up d _ q) fun d w q _=>up d _ q
def pI(scope:Scope)(N':List Str)(p:Str):Bool:=scope.names.all (fun q=>!decide (q.2=NameKind.cell))&&decide (N'[0]?=some p)&&decide (scope.names.lookup p=some .local)&&decide (scope.isCoroutine=false)&&decide (scope.isGenerator=false)
section
variable {X:Cx}{N:List Str}{sc:Scope}{k:Nat}
theorem JA{scope:Scope}{N':List Str}{p qual:Str}{A:Around}{f c:Addr}{s:Shared}{H:Hp}(C:Bk X N sc (k+3))(hA:dS (k+1) A)(hk:scope.kind=.function)(hnd:N'.Nodup)(hl:pI scope N' p=true):Bk (gU X A qual scope N' f c s H) N' scope k where
 n:=rfl
 nd:=hnd
 tb:=fun x kd hx=>.inl hx
 calm:=rfl
 fn:=fun x hx=>by
  unfold pI at hl
  simp only[zF,xG,yP,xB] at hl
  exact absurd rfl (hl.1.1.1.1 _ (mem_of_lookup hx))
 room:=hA.deeper _
 xe:=rfl
 kd:=hk
structure sU(X:Cx)(qual:Str):Prop where
 ex:∃c P,X.env.code=.ref c/\X.env.qual++"<lambda>"=qual/\W.codeHdIn X.K c P=true/\∀HF,eX X.K HF->HF P=some (.tab qual)
def kj(te:Env->Option D)(ρ:Env):List D->Option (List D)
 | []=>some []
 | d::ds=>(te (ρ.set 0 (some d))).bind fun x=>(kj te ρ ds).map (x::·)
theorem oK{te:Env->Option D}{ρ:Env}:∀ {ds ks:List D},kj te ρ ds=some ks->ks.length=ds.length
 | [],ks,h=>by cases h;rfl
 | d'::ds,ks,h=>by
  unfold kj at h
  obtain⟨y,h1,h⟩:=bs h
  obtain⟨ys,h2,rfl⟩:=ag h
  simp[oK h2]
theorem rV{te:Env->Option D}{ρ:Env}:∀ {ds ks:List D}{i:Nat}{d:D},kj te ρ ds=some ks->ds[i]?=some d->∃x,te (ρ.set 0 (some d))=some x/\ks[i]?=some x
 | [],ks,i,d,h,e=>by simp at e
 | d'::ds,ks,i,d,h,e=>by
  unfold kj at h
  obtain⟨y,h1,h⟩:=bs h
  obtain⟨ys,h2,rfl⟩:=ag h
  cases i with
  | zero=>simp at e;subst e;exact⟨y,h1,rfl⟩
  | succ i=>obtain⟨x,a,b⟩:=rV h2 (by simpa using e);exact⟨x,a,by simpa using b⟩
def oH(cs:List Nat)(fl te:Env->Option D):Env->Option (List D):=fun ρ=>(fl ρ).bind fun l=>match l with
 | .list ds=>(kj te (fJ 1 cs ρ) ds).bind fun ks=>(intsOf ks).bind fun zs=>if ds.length < 64 then some (uy (fun i=>zs.getD i 0) ds .none) else none
 | _=>none
theorem Bl{K:W.Frag}{HF:Hp}{ρ:Env}{σ:L2.St}{cs:List Nat}{d:D}{v:V}(eo:cS K HF ρ σ)(r:Rep K HF d v):cS K HF ((fJ 1 cs ρ).set 0 (some d)) ((kg 1 cs σ).set 0 (some v)):=jn (D5 eo) r
theorem oz{K:W.Frag}{HF:Hp}:∀ {ks:List D}{zs:List Int}{kvs:List V}{us:List Value},intsOf ks=some zs->aw K HF ks kvs->aQ kvs us->IntsAre us zs
 | [],zs,kvs,us,h,r,v=>by
  cases h
  rw[r.nil_inv] at v
  cases v
  exact .nil
 | d::ks,zs,kvs,us,h,r,v=>by
  cases d<;>simp only[intsOf] at h<;>try cases h
  rename_i i
  obtain⟨ys,h2,rfl⟩:=ag h
  obtain⟨w,ws,rfl,a,b⟩:=r.cons_inv
  simp only[Rep] at a
  subst a
  cases v with
  | cons r1 r2 =>
   obtain⟨t,rfl⟩:=r1
   exact .cons i t (oz h2 b r2)
theorem jj:∀ {us:List Value}{zs:List Int}{i:Nat},IntsAre us zs->i < us.length->∃t,us.getD i Value.none=.int (zs.getD i 0) t
 | _,_,i,.nil,h=>by simp at h
 | _,_,0,.cons n t r,h=>⟨t,rfl⟩
 | _,_,i+1,.cons n t r,h=>by
  obtain⟨t',e⟩:=jj (i:=i) r (by simpa using h)
  exact⟨t',by simpa using e⟩
variable {l body:Expr}{fl te:Env->Option D}{params:Arguments}{scope:Scope}{lpos pos p0 kpos:Pos}{N':List Str}{cs:List Nat}{p qual:Str}
theorem Bk.sortK(C:Bk X N sc (k+3))(B:pO X "sorted" (.builtin "sorted"))(L:sU X qual)(ok:jw sc scope N N' 1 cs=true)(hl:pI scope N' p=true)
  (hb:∀ (cl:List (Str×Addr)) (pm ctv u:Value) (c:Addr),bindArgs (W.kla_fn "<lambda>" qual params body scope cl pm (.ref c) ctv) ⟨[u],[]⟩=pure [(p,u)]) (hdef:defaultsOf params X.env=([],[])) (h:DE X l fl)
  (hY:∀A f c s H,Bk (gU X A qual scope N' f c s H) N' scope k->DE (gU X A qual scope N' f c s H) body te)
  (hst:starEach [l] X.env=(false,eval l X.env)::starEach [] X.env) (he:backTo pos (starEach [l] X.env)=(false,eval l X.env)::backTo pos (starEach [] X.env)) (hpl:(backTo pos (starEach [l] X.env)).any (·.1)=false) :
  DF X (.Call (.Name "sorted" p0) [l] [⟨some "key",.Lambda params body scope lpos,kpos⟩] pos) (oH cs fl te):=by
 obtain⟨S,_⟩:=C.comp ok
 have hnd:N'.Nodup:=by
  unfold jw at ok
  simp only[zF,zJ] at ok
  exact ok.2
 have hl':=hl
 unfold pI at hl'
 simp only[zF,xG,yP,xB,zJ] at hl'
 obtain⟨⟨⟨⟨hnc,hN0⟩,hp⟩,hco⟩,hgen⟩:=hl'
 obtain⟨cc,P,hcode,hqual,hhd,fK⟩:=L.ex
 intro pins s σ H Q I ⟨HF,ρ,out,sm,eo,hf,q⟩
 obtain⟨ld,hld,hf⟩:=bs hf
 cases ld<;>try cases hf
 rename_i ds
 obtain⟨ks,hks,hf⟩:=bs hf
 obtain⟨zs,hzs,hf⟩:=bs hf
 split at hf<;>cases hf
 rename_i h64
 refine qY (gw I B.gl B.mg B.bt ?_ (by decide) (by decide))
 refine PyProof.Rows.callWith_kw (e:=l) (rest:=[]) (kws:=[⟨some "key",.Lambda params body scope lpos,kpos⟩]) ?_ he hpl rfl rfl
 refine cx (Ee h Gb hst pos pins s σ H _ I ⟨HF,ρ,[.list ds],sm,eo,by simp[aa,af,hld],fun vs H1 HF1 g1 r1=>(⟨HF1,g1,r1⟩:∃HF1,bF HF H HF1 H1/\aw X.K HF1 [.list ds] vs)⟩) fun us s1 ⟨vs,H1,I1,rv,HF1,g1,r1⟩=>?_
 obtain⟨v,vr,rfl,a1,b1⟩:=r1.cons_inv
 rw[b1.nil_inv] at rv
 obtain⟨u,rfl,rx⟩:=vals1 rv
 simp only[Rep] at a1
 obtain⟨la,ws,rfl,hq,rr⟩:=a1
 cases rx
 have hT1:H1 P=some (.tab qual):=g1.fh _ _ (fK HF1 (eo.tb.mono g1.ff))
 show wpAny _ _ (evalAll ((do let v <- eval (.Lambda params body scope lpos) X.env;standAt pos;pure v)::[])) _ _ s1
 refine wpAny_evalAll_cons (zU ?_)
 refine Bu (P:=P) I1 S hqual hcode (W.codeHd_of_K I1.ok.mod.kin hhd) hT1 I1.ok.mod.bmd hdef fun f c' pm ctv s2 H2 I2 hfo hfn hcod s12 fp2 _=>?_
 refine zU (vE (zV (wpAny_evalAll_nil ?_)))
 show wpAny _ _ (call (.builtin "sorted") [.ref la] [(Str.ofString "key",.ref f)]) _ _ s2
 have Ip:=I2.pinned (fp:=[f]) (fun b hb=>by rw[List.mem_singleton.mp hb];exact fp2) (fun b hb=>by rw[List.mem_singleton.mp hb];exact⟨_,hfo,fun v z=>by cases z⟩)
 have g2:bF HF1 H1 HF1 H2:=⟨s12,.refl _,g1.fh.trans s12,fun _ _ e=>.inl e⟩
 obtain⟨its,rvi,pl,hz⟩:=Ip.list (s12.seq (g1.fh.seq hq))
 have hlen:its.length=ds.length:=by rw[<- rvi.length,rr.length]
 have hkl:=oK hks
 have hR:dS (k+1) X.A.in1.in1:=C.room.in1.in1
 refine Srt.sortedK (vs:=its) Ip (by omega) (fun {Q'} hQ=>?_) (fun us H'=>∃HF' kvs,bF HF1 H2 HF' H'/\aw X.K HF' (ks.take us.length) kvs/\aQ kvs us) ⟨HF1,[],.refl g2.fh,by simpa using aw.nil,.nil⟩ (fun us x hx pl' s3 H3 I3 ⟨HF3,kvs,g3,rk,rvk⟩=>?_) fun us H3 hu ⟨HF3,kvs,g3,rk,rvk⟩=>?_
 ·refine collect_list pl.isList (hQ _ fun b o e=>?_) (by rw[qU];omega)
  exact (xN _ _ (jI (zX e))).trans (zT _ e)
 ·have hi:us.length < its.length:=(List.getElem?_eq_some_iff.mp hx).1
  obtain⟨w,hw⟩:∃w,ws[us.length]?=some w:=⟨_,zK (by rw[rvi.length];exact hi)⟩
  obtain⟨x',hx',rw'⟩:=rvi.get hw
  rw[hx] at hx'
  cases hx'
  obtain⟨d,hd,rd⟩:=rr.get hw
  obtain⟨kd,hkd,hki⟩:=rV hks hd
  have hfo3:s3.heap.get? f=some (W.kla_obj "<lambda>" qual params body scope (eR X.env scope.names []) pm c' ctv) :=
   (I3.pin (f,_) (yD _ (qJ _ (yD _ (dO zE hfo))))).1
  refine xA (AF (Q:=fun v H4=>∃HF4,bF HF3 H3 HF4 H4/\Rep X.K HF4 kd v) (te:=tD X.K te) I3 hR I3.ok.frames S hnc hN0 hp hnd hco hgen hfo3 (g3.hh _ _ hcod) (hb _ _ _ _ _) rw' (hY _ _ _ _ _ (JA C hR S.kind hnd hl))
   ⟨HF3,_,kd,g3.fh,Bl (eo.mono (g1.ff.trans g3.ff)) (rd.mono g3.ff),hkd,fun v H4 HF4 g4 r4=>⟨HF4,g4,r4⟩⟩) (fun u s4 ⟨v4,H4,I4,r4,HF4,g4,rp⟩=>⟨H4,I4,HF4,kvs++[v4],g3.trans g4,?_,rvk.append (.cons r4 .nil)⟩) fun _ _ e=>e
  rw[zN,xC,wZ,hki]
  exact (rk.mono g4.ff).append (aw.cons rp aw.nil)
 ·have hk':ks.take us.length=ks:=kL (by omega)
  rw[hk'] at rk
  have ia:=oz hzs rk rvk
  refine⟨fun i=>zs.getD i 0,oneType',fun h2 s3 I3=>⟨fun Q' q'=>?_,fun i j Cc hi hj q'=>?_⟩,fun s3 Dn c I3 fD e=>?_⟩
  ·rw[PyProof.Rows.ksk_kind (keys:=us.toArray) (kz:=zs) (by simpa using ia) (by simpa [hu] using h2)]
   exact zV q'
  ·obtain⟨t1,e1⟩:=jj ia (i:=i) (by omega)
   obtain⟨t2,e2⟩:=jj ia (i:=j) (by omega)
   unfold W.kas_ask
   rw[e1,e2]
   exact W.kat_lt_int q'
  ·have hv:=sO (fun i=>zs.getD i 0) rvi
   have hr:=su (fun i=>zs.getD i 0) rr
   have hnD:H3 Dn=none:=fD.1
   have I4:=Inv.track (o:=.lst (uy (fun i=>zs.getD i 0) ws .non)) I3 fD ⟨by rw[(lN _ _ _).length_eq];exact hz,_,c,hv,e⟩
   have G:=(g1.trans g2).trans g3
   refine⟨.ref Dn,_,I4.unpinned,rfl,q Dn _ _ HF3 (G.trans (.own G.fh hnD)) (G.hh.free hnD) (G.fh.free hnD) aC (hr.mono g3.ff)⟩
end
end Dl
namespace Srt
open PySem PySem.W PySem.Calls PyProof.Rows L2
section
variable {prog:Program}{w:World}{A:Around}{E:Value->Shared->Prop}{s:Shared}
theorem iadd_rng{R:Result->Shared->Prop}{r S:Addr}{a b c:Int}{t u v:Tok}{n:Nat}(hh:A.handled=none)(hr:IsRange s.heap r a b c t u v)(hsmall:Builtin.Range.small a b c=true)(hn:Builtin.Range.rangeSize a b c=n)(hlen:n<=2 ^ 24)
  (hS:s.heap.get? S=some { cls:=.type "list",data:=.seq #[] })
  (hR:∀h' tk acc' c',(∀b o,b≠S->s.heap.get? b=some o->h'.get? b=some o)->h'.get? S=some { cls:=.type "list",dict:=none,data:=.seq acc' c',slots:=#[] } ->
   ItemsOf (fun i v=>∃t,v=.int (a+i * c) t) acc' n->R (.ok (.ret (.ref S))) { s with heap:=h',toks:=tk }):codeAny (model prog w) A (.builtin "list.__iadd__" ⟨[.ref S,.ref r],[]⟩) R s:=by
 refine kF entry_list_iadd' ?_
 rw[Around.under_plainId (by decide +kernel:plainId "list.__iadd__"=true) _]
 exact wpAny_extend_range (A:=A) hh hr hsmall hn hlen S (.ref S) _ hS hR
theorem collect_rng{r:Addr}{a b c:Int}{t u v:Tok}{n:Nat}{Q:List Value->Shared->Prop}(hh:A.handled=none)(hr:IsRange s.heap r a b c t u v)(hsmall:Builtin.Range.small a b c=true)(hn:Builtin.Range.rangeSize a b c=n)(hlen:n<=2 ^ 24)
  (h:∀h' tk acc,(∀b o,s.heap.get? b=some o->h'.get? b=some o)->ItemsOf (fun i v=>∃t,v=.int (a+i * c) t) acc n->Q acc.toList { s with heap:=h',toks:=tk }):wpAny (model prog w) A (collect (.ref r)) Q E s:=by
 unfold collect
 refine zU (wpAny_runValue (kF entry_proto_collect' ?_))
 rw[Around.under_plainId (by decide +kernel:plainId "proto.collect"=true) _]
 show wpAny _ A.in1 (newList [] >>= fun l=>again (.builtin "list.__iadd__" ⟨[l,.ref r],[]⟩)) _ _ s
 refine zU (qL ?_)
 have hS:(s.heap.push { cls:=.type "list",data:=.seq #[] }).get? s.heap.objs.size=some { cls:=.type "list",data:=.seq #[] }:=zW _ rfl
 refine zV ⟨plainId_quiet (by decide +kernel) _,iadd_rng (s:={ s with heap:=s.heap.push { cls:=.type "list",data:=.seq #[] } }) hh (zT _ hr) hsmall hn hlen hS fun h' tk acc' c' hk hS' hacc=>?_⟩
 show wpAny _ A (load s.heap.objs.size >>= _) _ _ _
 refine zU (wpAny_load hS' ?_)
 exact zV (h h' tk acc' (fun b o e=>hk b o (yR (zX e)) (zT _ e)) hacc)
end
section
variable {X:Cx}{pins:List (Addr×Obj)}{σ:L2.St}{H:Hp}{s:Shared}{A:Around}{E:Value->Shared->Prop}
theorem sortedR{l:Value}{f:Addr}{PV:List Value->Prop}{Q:Value->Shared->Prop}(I:Inv X pins σ H s)
  (hcol:∀ {Q':List Value->Shared->Prop},(∀ (h':Heap) (tk:Nat) (vs:List Value),PV vs->(∀b o,s.heap.get? b=some o->h'.get? b=some o)->Q' vs { s with heap:=h',toks:=tk })->wpAny (model X.prog X.w) A.in1 (collect l) Q' E s)
  (rest:∀vs,PV vs->vs.length < 64/\∃J:List Value->Hp->Prop,J [] H /\
   (∀us v,vs[us.length]?=some v->∀pl s' H',Inv X (pins++pl) σ H' s'->J us H'->wpAny (model X.prog X.w) A.in1.in1 (call (.ref f) [v]) (fun u s''=>∃H'',Inv X (pins++pl) σ H'' s''/\J (us++[u]) H'') (fun _ _=>False) s') /\
   (∀us H',us.length=vs.length->J us H'->∃ (z:Nat->Int) (κ:SortKind),(2<=vs.length->∀s',Inv X pins σ H' s'->(∀Q':SortKind->Shared->Prop,Q' κ s'->wpAny (model X.prog X.w) A.in1.in1 (keyKind' us.toArray) Q' (fun _ _=>False) s') /\
    ∀i j C,i < vs.length->j < vs.length->C (SP.eQ z i j) s'->kas_ask X.prog X.w A.in1.in1 κ us i j C s') /\
   ∀s' D c,Inv X pins σ H' s'->cJ X pins H' D->s'.heap.get? D=some (seqObj "list" (outV z vs).toArray c)->Q (.ref D) s')) :
  wpAny (model X.prog X.w) A (call (.builtin "sorted") [l] [(Str.ofString "key",.ref f)]) Q E s:=by
 refine call_function_entry_kw kind_sorted plain_sorted entry_sorted (ksk_s1 _ _) ?_
 unfold Builtin.«sorted»
 refine zU (m:=checkCount "sorted" 1 1 _) (zV (zU (hcol fun h1 tk vs hv kp=>?_)))
 obtain⟨h64,J,j0,step,fin⟩:=rest vs hv
 have hsl:vs.length<=sizeLine:=by rw[qU];omega
 refine zU (kR ?_ (by simpa using hsl))
 have I1:=I.kept (t':=tk) kp
 have fD:cJ X pins H h1.objs.size:=I1.fpOk (yM _) (I1.hok.fresh (yM _))
 have hoD:(h1.push (seqObj "list" vs.toArray 0)).get? h1.objs.size=some (seqObj "list" vs.toArray 0):=zW _ rfl
 have I2:=I1.kept (t':=tk) (h':=h1.push (seqObj "list" vs.toArray 0)) fun b o e=>zT _ e
 show wpAny _ _ _ _ _ { s with heap:=h1.push (seqObj "list" vs.toArray 0),toks:=tk }
 refine zU (xX (wpAny_call_entry_kw slot_list_sort ⟨_,hoD,rfl⟩ entry_list_sort ?body (ksk_l1 _ _)))
 case body =>
  show wpAny (model X.prog X.w) A.in1.in1 (Builtin.«list.sort» ⟨[.ref h1.objs.size],[(Str.ofString "key",.ref f)]⟩) _ _ _
  rw[ksk_t1]
  refine list_sortK I2 hoD fD h64 J j0 step fun us H' hu j'=>?_
  obtain⟨z,κ,hz,hP⟩:=fin us H' hu j'
  exact⟨z,κ,hz,fun s' c I' f' e=>⟨_,rfl,zV ⟨_,rfl,hP s' _ c I' f' e⟩⟩⟩
end
end Srt
namespace Dl
open PySem L2 PySem.Spec PyProof.Rows
def sR(n:Nat):List D:=(List.range n).map fun i=>PyData.int ((i:Nat):Int)
def GC(cs:List Nat)(fs:Env->Option (List D))(te:Env->Option D):Env->Option (List D):=fun ρ=>(fs ρ).bind fun l=>match l with
 | [.int n]=>if 0<=n/\n < 64 then (kj te (fJ 1 cs ρ) (sR n.toNat)).bind fun ks=>(rowsOf ks).map fun nss=>uy (fun i=>rk nss (nss.getD i [])) (sR n.toNat) .none else none
 | _=>none
theorem vh:∀ {vs:List Value}{k:Nat},(∀i v,vs[i]?=some v->∃t,v=Value.int ((k+i:Nat):Int) t)->aQ ((List.range' k vs.length).map fun i=>V.int ((i:Nat):Int)) vs
 | [],k,_=>.nil
 | v::vs,k,h=>by
  rw[zL,vH,zI]
  obtain⟨t,e⟩:=h 0 v rfl
  refine .cons ⟨t,by simpa using e⟩ (vh fun i u hu=>?_)
  obtain⟨t',e'⟩:=h (i+1) u (by simpa using hu)
  exact⟨t',by rw[e'];congr 1;omega⟩
theorem vg{K:W.Frag}{HF:Hp}:∀ (l:List Nat),aw K HF (l.map fun i=>PyData.int ((i:Nat):Int)) (l.map fun i=>V.int ((i:Nat):Int))
 | []=>aw.nil
 | i::l=>aw.cons (by simp[Rep]) (vg l)
section
variable {X:Cx}{N:List Str}{sc:Scope}{k:Nat}
variable {e body:Expr}{fs:Env->Option (List D)}{te:Env->Option D}{params:Arguments}{scope:Scope}{lpos pos p0 kpos rpos p1:Pos}{N':List Str}{cs:List Nat}{p qual:Str}
theorem Bk.sortR(C:Bk X N sc (k+3))(B:pO X "sorted" (.builtin "sorted"))(BR:pO X "range" (.type "range"))(L:sU X qual)(ok:jw sc scope N N' 1 cs=true)(hl:pI scope N' p=true)
  (hb:∀ (cl:List (Str×Addr)) (pm ctv u:Value) (c:Addr),bindArgs (W.kla_fn "<lambda>" qual params body scope cl pm (.ref c) ctv) ⟨[u],[]⟩=pure [(p,u)]) (hdef:defaultsOf params X.env=([],[])) (h:DA X [e] fs)
  (hY:∀A f c s H,Bk (gU X A qual scope N' f c s H) N' scope k->DE (gU X A qual scope N' f c s H) body te)
  (hsR:starEach [e] X.env=[(false,eval e X.env)])
  (hst:starEach [.Call (.Name "range" p1) [e] [] rpos] X.env=(false,eval (.Call (.Name "range" p1) [e] [] rpos) X.env)::starEach [] X.env) (he:backTo pos (starEach [.Call (.Name "range" p1) [e] [] rpos] X.env)=(false,eval (.Call (.Name "range" p1) [e] [] rpos) X.env)::backTo pos (starEach [] X.env)) (hpl:(backTo pos (starEach [.Call (.Name "range" p1) [e] [] rpos] X.env)).any (·.1)=false) :
  DF X (.Call (.Name "sorted" p0) [.Call (.Name "range" p1) [e] [] rpos] [⟨some "key",.Lambda params body scope lpos,kpos⟩] pos) (GC cs fs te):=by
 obtain⟨S,_⟩:=C.comp ok
 have hnd:N'.Nodup:=by
  unfold jw at ok
  simp only[zF,zJ] at ok
  exact ok.2
 have hl':=hl
 unfold pI at hl'
 simp only[zF,xG,yP,xB,zJ] at hl'
 obtain⟨⟨⟨⟨hnc,hN0⟩,hp⟩,hco⟩,hgen⟩:=hl'
 obtain⟨cc,P,hcode,hqual,hhd,fK⟩:=L.ex
 intro pins s σ H Q I ⟨HF,ρ,out,sm,eo,hf,q⟩
 obtain⟨ld,hld,hf⟩:=bs hf
 obtain⟨n,rfl⟩:∃n,ld=[.int n]:=by
  split at hf
  ·exact⟨_,rfl⟩
  ·cases hf
 simp only at hf
 split at hf
 rotate_left
 ·cases hf
 rename_i h64
 obtain⟨ks,hks,hf⟩:=bs hf
 obtain⟨nss,hns,rfl⟩:=ag hf
 obtain⟨hkr,hne⟩:=lz hns
 refine qY (gw I B.gl B.mg B.bt ?_ (by decide) (by decide))
 refine PyProof.Rows.callWith_kw (e:=.Call (.Name "range" p1) [e] [] rpos) (rest:=[]) (kws:=[⟨some "key",.Lambda params body scope lpos,kpos⟩]) ?_ he hpl rfl rfl
 rw[he]
 refine jJ ?_
 refine Call_ (gw I BR.gl BR.mg boot_range (qS (cx (h rpos pins s σ H _ I ⟨HF,ρ,[.int n],sm,eo,hld,fun vs H1 HF1 g1 r1=>(⟨HF1,g1,r1⟩:∃HF1,bF HF H HF1 H1/\aw X.K HF1 [.int n] vs)⟩) fun us s1 ⟨vs,H1,I1,rv,HF1,g1,r1⟩=>?_) hsR rfl))
 obtain⟨v,vr,rfl,a1,b1⟩:=r1.cons_inv
 rw[b1.nil_inv] at rv
 obtain⟨u,rfl,rx⟩:=vals1 rv
 simp only[Rep] at a1
 subst a1
 obtain⟨t,rfl⟩:=rx
 refine call_range_1 ?_
 refine kJ ?_
 obtain⟨hn0,hn64⟩:=h64
 have I1':=I1.kept (t':=s1.toks+1+1) (h':=s1.heap.push { cls:=Value.type "range",data:=Data.fields #[Value.int 0 s1.toks,Value.int n t,Value.int 1 (s1.toks+1)] }) fun b o e=>zT _ e
 have hro:(s1.heap.push { cls:=Value.type "range",data:=Data.fields #[Value.int 0 s1.toks,Value.int n t,Value.int 1 (s1.toks+1)] }).get? s1.heap.objs.size=some { cls:=Value.type "range",data:=Data.fields #[Value.int 0 s1.toks,Value.int n t,Value.int 1 (s1.toks+1)] }:=zW _ rfl
 have Ir:=I1'.pinned (fp:=[s1.heap.objs.size]) (fun b hb=>by rw[List.mem_singleton.mp hb];exact I1.fpOk (yM _) I1.fresh) (fun b hb=>by rw[List.mem_singleton.mp hb];exact⟨_,hro,fun v z=>by cases z⟩)
 have hT1:H1 P=some (.tab qual):=g1.fh _ _ (fK HF1 (eo.tb.mono g1.ff))
 show wpAny _ _ (evalAll ((do let v <- eval (.Lambda params body scope lpos) X.env;standAt pos;pure v)::[])) _ _ _
 refine wpAny_evalAll_cons (zU ?_)
 refine Bu (P:=P) Ir S hqual hcode (W.codeHd_of_K Ir.ok.mod.kin hhd) hT1 Ir.ok.mod.bmd hdef fun f c' pm ctv s2 H2 I2 hfo hfn hcod s12 fp2 _=>?_
 refine zU (vE (zV (wpAny_evalAll_nil ?_)))
 show wpAny _ _ (call (.builtin "sorted") [.ref s1.heap.objs.size] [(Str.ofString "key",.ref f)]) _ _ s2
 have hr2:IsRange s2.heap s1.heap.objs.size 0 n 1 s1.toks t (s1.toks+1):=(Srt.pin_get I2 zE hro).1
 have Ip:=I2.pinned (fp:=[f]) (fun b hb=>by rw[List.mem_singleton.mp hb];exact fp2) (fun b hb=>by rw[List.mem_singleton.mp hb];exact⟨_,hfo,fun v z=>by cases z⟩)
 have g2:bF HF1 H1 HF1 H2:=⟨s12,.refl _,g1.fh.trans s12,fun _ _ e=>.inl e⟩
 have hkl:=oK hks
 have hnl:(sR n.toNat).length=n.toNat:=by simp[sR]
 have hR:dS (k+1) X.A.in1.in1:=C.room.in1.in1
 refine Srt.sortedR (PV:=fun vs=>vs.length=n.toNat/\∀i v,vs[i]?=some v->∃t,v=Value.int ((i:Nat):Int) t) Ip (fun {Q'} hQ=>?_) fun its ⟨hil,hiv⟩=>⟨by omega,fun us H'=>∃HF' kvs,bF HF1 H2 HF' H'/\aw X.K HF' (ks.take us.length) kvs/\aQ kvs us,⟨HF1,[],.refl g2.fh,by simpa using aw.nil,.nil⟩,fun us x hx pl' s3 H3 I3 ⟨HF3,kvs,g3,rk,rvk⟩=>?_,fun us H3 hu ⟨HF3,kvs,g3,rk,rvk⟩=>?_⟩
 ·refine Srt.collect_rng (n:=n.toNat) C.room.in1.hd hr2 (small_one (by omega) (by omega) (by omega) (by omega)) (by rw[rangeSize_one];split<;>omega) (by omega) fun h' tk acc kp ha=>?_
  refine hQ h' tk acc.toList ⟨by have:=ha.1;simpa using this,fun i v hv=>?_⟩ kp
  obtain⟨t',e'⟩:=ha.2 i v (by simpa using hv)
  exact⟨t',by rw[e'];congr 1;omega⟩
 ·have hi:us.length < n.toNat:=by rw[<- hil];exact (List.getElem?_eq_some_iff.mp hx).1
  obtain⟨tx,rfl⟩:=hiv _ _ hx
  have hd:(sR n.toNat)[us.length]?=some (.int ((us.length:Nat):Int)):=by simp[sR,hi]
  obtain⟨kd,hkd,hki⟩:=rV hks hd
  have hfo3:s3.heap.get? f=some (W.kla_obj "<lambda>" qual params body scope (eR X.env scope.names []) pm c' ctv) :=
   (I3.pin (f,_) (yD _ (qJ _ (yD _ (dO zE hfo))))).1
  refine xA (AF (v:=V.int ((us.length:Nat):Int)) (Q:=fun v H4=>∃HF4,bF HF3 H3 HF4 H4/\Rep X.K HF4 kd v) (te:=tD X.K te) I3 hR I3.ok.frames S hnc hN0 hp hnd hco hgen hfo3 (g3.hh _ _ hcod) (hb _ _ _ _ _) ⟨tx,rfl⟩ (hY _ _ _ _ _ (JA C hR S.kind hnd hl))
   ⟨HF3,_,kd,g3.fh,Bl (eo.mono (g1.ff.trans g3.ff)) (by simp[Rep]),hkd,fun v H4 HF4 g4 r4=>⟨HF4,g4,r4⟩⟩) (fun u s4 ⟨v4,H4,I4,r4,HF4,g4,rp⟩=>⟨H4,I4,HF4,kvs++[v4],g3.trans g4,?_,rvk.append (.cons r4 .nil)⟩) fun _ _ e=>e
  rw[zN,xC,wZ,hki]
  exact (rk.mono g4.ff).append (aw.cons rp aw.nil)
 ·have hk':ks.take us.length=ks:=kL (by omega)
  rw[hk',hkr] at rk
  have hnn:nss.length=n.toNat:=by
   have:=jC List.length hkr
   rw[zD] at this
   omega
  refine⟨fun i=>Dl.rk nss (nss.getD i []),tuples' true,fun h2 s3 I3=>⟨fun Q' q'=>?_,fun i j Cc hi hj q'=>?_⟩,fun s3 Dn c I3 fD e=>?_⟩
  ·obtain⟨fs',tt,hlen,hff⟩:=r0 (oq I3 g3.fh rk rvk) hne
   refine W.kat_kind (T:=.type "int") tt (by omega) (fun v hv=>?_) (by decide) q'
   obtain⟨n',t',rfl⟩:=hff v hv
   exact W.Looks.of_pure rfl
  ·have hp3:=oq I3 g3.fh rk rvk
   have ri:=gp (d:=Value.none) (d':=[]) hp3 (show i < us.length by omega)
   have rj:=gp (d:=Value.none) (d':=[]) hp3 (show j < us.length by omega)
   obtain⟨a,o,its1,n1,ea,e1,e2,e3,e4⟩:=ri.ex
   obtain⟨b,o',its',n',eb,f1,f2,f3,f4⟩:=rj.ex
   unfold W.kas_ask
   rw[ea,eb]
   have hmem:nss.getD i []∈nss:=by
    rw[zG,zK (by omega)]
    exact qA _
   have q2:Cc (lexLt (nss.getD i []) (nss.getD j [])) s3:=by
    rw[HE hmem]
    exact q'
   refine W.kat_lt e1 e3 f1 f3 ?_
   have:=rH (prog:=X.prog) (w:=X.w) (A:=X.A.in1.in1) (s:=s3) 0 e4 f4 q2
   have l1:its1.size=(nss.getD i []).length:=by have:=wA e4;simpa using this
   have l2:its'.size=(nss.getD j []).length:=by have:=wA f4;simpa using this
   rw[l1,l2]
   exact this
  ·have rvi:aQ ((List.range n.toNat).map fun i=>V.int ((i:Nat):Int)) its:=by
    have:=vh (vs:=its) (k:=0) fun i v hv=>by
     obtain⟨t',e'⟩:=hiv i v hv
     exact⟨t',by rw[e'];congr 1;omega⟩
    rw[hil,<- yG] at this
    exact this
   have rr:aw X.K HF1 (sR n.toNat) ((List.range n.toNat).map fun i=>V.int ((i:Nat):Int)):=vg _
   have hv:=sO (fun i=>Dl.rk nss (nss.getD i [])) rvi
   have hr:=su (fun i=>Dl.rk nss (nss.getD i [])) rr
   have hnD:H3 Dn=none:=fD.1
   have I4:=Inv.track (o:=.lst (uy (fun i=>Dl.rk nss (nss.getD i [])) ((List.range n.toNat).map fun i=>V.int ((i:Nat):Int)) .non)) I3 fD ⟨by rw[(lN _ _ _).length_eq,zD,zR,PySem.sizeLine_eq];omega,_,c,hv,e⟩
   have G:=(g1.trans g2).trans g3
   refine⟨.ref Dn,_,I4.unpinned.unpinned,rfl,q Dn _ _ HF3 (G.trans (.own G.fh hnD)) (G.hh.free hnD) (G.fh.free hnD) aC (hr.mono g3.ff)⟩
end
section
variable {X:Cx}{pos:Pos}
def Q7(i j l:Nat):Env->D->Option Env:=fun ρ d=>match d with
 | .tuple [x,y,z]=>if isFree ρ i=true/\isFree ρ j=true/\isFree ρ l=true then some (((ρ.set i (some x)).set j (some y)).set l (some z)) else none
 | _=>none
theorem Hf(i j l:Nat){x y z:Str}{px py pz:Pos}{k:Nat}(hc:X.calm=true)(hN:X.N.Nodup)(hi:X.N[i]?=some x)(hx:Loc X.env.scope x)(hj:X.N[j]?=some y)(hy:Loc X.env.scope y)(hl:X.N[l]?=some z)(hz:Loc X.env.scope z)
  (hf:X.fn x=true\/X.env.scope.names.lookup x=some .local) (hf':X.fn y=true\/X.env.scope.names.lookup y=some .local) (hf'':X.fn z=true\/X.env.scope.names.lookup z=some .local) :
  DG X (.Tuple [.Name x px,.Name y py,.Name z pz] k pos) (Q7 i j l) :=
 sg (xp hc (dA (dI hN hi hx hf) (dA (dI hN hj hy hf') (dA (dI hN hl hz hf'') qr)))) fun v σ H Q ⟨HF,ρ,d,ρ',sm,eo,r,hf,q⟩=>by
  unfold Q7 at hf
  split at hf
  ·rename_i x' y' z'
   split at hf
   ·rename_i hh
    cases hf
    simp only[Rep] at r
    obtain⟨a,vs,rfl,hs,rr⟩:=r
    obtain⟨v1,r1,rfl,a1,b1⟩:=rr.cons_inv
    obtain⟨v2,r2,rfl,a2,b2⟩:=b1.cons_inv
    obtain⟨v3,r3,rfl,a3,b3⟩:=b2.cons_inv
    rw[b3.nil_inv] at hs
    exact⟨a,_,rfl,aL sm hs,rfl,v1,_,rfl,v2,_,rfl,v3,_,rfl,rfl,q _ (jn (jn (jn eo a1) a2) a3) (lX (lX (lX eo hh.1) hh.2.1) hh.2.2)⟩
   ·cases hf
  ·cases hf
end
section
variable {X:Cx}{a:Expr}{fa:Env->Option D}{pos p1 p2 p3 p4:Pos}{i j:Nat}
end
section
variable {X:Cx}
def tT(d:D):List D->Option Nat
 | []=>none
 | x::xs=>if PyData.eqv x d=true then some 0 else (tT d xs).map (·+1)
theorem ur{d:D}:∀ {xs:List D}{j:Nat},tT d xs=some j->j < xs.length/\(∀x,xs[j]?=some x->PyData.eqv x d=true)/\∀m,m < j->∀x,xs[m]?=some x->PyData.eqv x d=false
 | [],j,h=>by cases h
 | x::xs,j,h=>by
  unfold tT at h
  split at h
  ·cases h
   rename_i e
   exact⟨Nat.succ_pos _,fun y hy=>by cases hy;exact e,fun m hm=>absurd hm (vT _)⟩
  ·rename_i e
   obtain⟨k,hk,rfl⟩:=ag h
   obtain⟨a,b,c⟩:=ur hk
   refine⟨by simpa using a,fun y hy=>b y (by simpa using hy),fun m hm y hy=>?_⟩
   cases m with
   | zero=>cases hy;simpa using e
   | succ m=>exact c m (by omega) y (by simpa using hy)
theorem F5(hu:X.A.units+66 < cLine):MH X "list.index" (fun x vs H Q=>∃ (HF:Hp) (ds:List D) (d:D) (y:V) (j:Nat),aW HF H/\Rep X.K HF (.list ds) x/\vs=[y]/\Rep X.K HF d y/\SeqAt.shaped d=true/\SeqAt.shaped (.list ds)=true/\ds.length<=sizeLine/\tT d ds=some j/\Q (.int j) H):=by
 intro pins s σ H x vs v us Q I rx rv h
 obtain⟨HF,ds,d,y,j,sm,r1,rfl,r2,hd,hl,hz,hj,q⟩:=h
 obtain⟨u,rfl,ru⟩:=rv.one
 obtain⟨as,ra⟩:=et I sm r1 rx
 obtain⟨bs,rb⟩:=et I sm r2 ru
 have c1:=kK hd
 have c2:=kK hl
 have d1:=SeqAt.depth_of_shaped hd
 simp only[PyData.canLay0] at c2
 have m:=Nat.min_le_right (PyData.depthAll ds) d.depth
 obtain⟨hj1,hj2,hj3⟩:=ur hj
 cases ra with
 | list h1 h2 h3 h4 =>
  rename_i l o its n as
  obtain⟨cls,dd,data,sl⟩:=o
  simp only at h2 h3
  subst h2 h3
  have hm:=SeqAt.readsAll_map _ _ _ c2 h4
  have hlen:its.size=ds.length:=by rw[<- hm];simp
  have hs63:(sizeLine:Nat) < 2 ^ 62:=by decide
  have at_:∀m (hm:m < its.size),ds[m]?=some (SeqAt.readOf s.heap its[m]):=fun m hm'=>by
   rw[<- hm,zO,Array.getElem?_toList,jZ hm']
   rfl
  refine qX F.slot_list_index ⟨_,h1,rfl⟩ F.entry_list_index (F.args_list_index_2 _ _) (PySem.SeqAt.list_indexAt l its n dd sl u (fun y=>PyData.eqv (SeqAt.readOf s.heap y) d) j (by rw[hlen];exact hj1) (by omega) ?_ ?_) ⟨h1,?_,?_⟩
  ·exact hj2 _ (at_ j (by rw[hlen];exact hj1))
  ·intro m hm' hmj
   exact hj3 m hmj _ (at_ m hm')
  ·exact SeqAt.items_eqAt h4 rb c2 c1 (by omega)
  ·exact⟨.int j,H,I.tok _,⟨_,rfl⟩,q⟩
variable {HF₀ H₀:Hp}
end
section
variable {X:Cx}{e:Expr}{es:List Expr}{fs:Env->Option (List D)}{pos p:Pos}
def MT:List D->Option D
 | [.int a,.int b]=>some (.int (max a b))
 | _=>none
theorem G8(hc:X.calm=true):eK X (.builtin "max") (fun xs H Q=>∃a b:Int,xs=[.int a,.int b]/\Q (.int (max a b)) H):=by
 intro pins s σ H xs us Q I r h
 have hh:X.A.handled=none:=I.ok.hd hc
 obtain⟨a,b,rfl,q⟩:=h
 cases r with
 | cons r1 r =>
  cases r with
  | cons r2 r =>
   cases r
   obtain⟨t,rfl⟩:=r1
   obtain⟨u,rfl⟩:=r2
   refine max_two_ints hh fun h' tk kp=>⟨.int (max a b),H,I.kept (t':=tk) kp,?_,q⟩
   by_cases h:b > a
   ·rw[yL h,show max a b=b by omega];exact⟨_,rfl⟩
   ·rw[yN h,show max a b=a by omega];exact⟨_,rfl⟩
theorem OO(hc:X.calm=true)(B:pO X "max" (.builtin "max"))(he:starEach (e::es) X.env=(false,eval e X.env)::starEach es X.env)(hpl:(backTo pos (starEach es X.env)).any (·.1)=false)(ha:DA X (e::es) fs):DE X (.Call (.Name "max" p) (e::es) [] pos) (aZ MT fs) :=
 iz (G8 hc) (by
  intro HF H ds vs d Q sm r hg q
  unfold MT at hg
  split at hg
  ·cases hg
   obtain⟨v1,r1,rfl,a1,b1⟩:=r.cons_inv
   obtain⟨v2,r2,rfl,a2,b2⟩:=b1.cons_inv
   rw[b2.nil_inv]
   simp only[Rep] at a1 a2
   exact⟨_,_,by rw[a1,a2],q _ H HF (.refl sm) (by simp[Rep])⟩
  ·cases hg) B ha (by decide) (by decide) he hpl
end
section
variable {X:Cx}{N:List Str}{sc:Scope}{k:Nat}{a b e:Expr}{fa fb:Env->Option D}{pos p:Pos}{HF₀ H₀:Hp}
def HI:Expr->Bool
 | .Call ..=>true
 | .Subscript ..=>true
 | _=>false
end
section
variable {X:Cx}{e:Expr}{f:Env->Option D}{pos p p' pos':Pos}
end
section
variable {X:Cx}{a b c e:Expr}{es:List Expr}{fk:Env->Option D}{fs:Env->Option (List D)}{pos p p1 p2 p3:Pos}{x y:Str}
def uE(n:Nat)(m m':List D->Option D)(fk:Env->Option D)(fs:Env->Option (List D)):Env->Option D:=fun ρ=>(fk ρ).bind fun kd=>(fs ρ).bind fun ds=>if ds.length=n then (match kd with
 | .int k=>if k=0 then m ds else if k=1 then m' ds else none
 | _=>none) else none
theorem J0{k n:Nat}{m m':List D->Option D}(F:eJ X.prog X.w X.K X.mg X.base k x n m)(F':eJ X.prog X.w X.K X.mg X.base k y n m')(hr:dS k X.A)(hg:Gl X x)(hg':Gl X y)(hk:DE X b fk)(ha:DA X (e::es) fs)
  (hdb:(x == ("__debug__":Str))=false:=by decide) (hdb':(y == ("__debug__":Str))=false:=by decide) (hs:nZ b:=by intro _ _;rfl)
  (he:starEach (e::es) X.env=(false,eval e X.env)::starEach es X.env:=by rfl) (hpl:(backTo pos (starEach es X.env)).any (·.1)=false:=by rfl)
  (ht:eval (.Call (.Subscript (.List [.Name x p,.Name y p1] p2) b p3) (e::es) [] pos) X.env=(do callWith pos (<- eval (.Subscript (.List [.Name x p,.Name y p1] p2) b p3) X.env) [] (backTo pos (starEach (e::es) X.env)) (backToKw pos (keywordEach [] X.env))):=by rfl) :
  DE X (.Call (.Subscript (.List [.Name x p,.Name y p1] p2) b p3) (e::es) [] pos) (uE n m m' fk fs):=by
 obtain⟨f,fd,ps,ok,hm,hkp,hb⟩:=F.ex
 obtain⟨f',fd',ps',ok',hm',hkp',hb'⟩:=F'.ex
 intro pins s σ H Q I ⟨HF,ρ,d,sm,eo,hf,q⟩
 obtain⟨kd,h1,hf⟩:=bs hf
 obtain⟨ds,h2,hf⟩:=bs hf
 split at hf
 ·rename_i hl
  obtain⟨kk,rfl⟩:∃kk,kd=.int kk:=by cases kd<;>first|exact⟨_,rfl⟩|cases hf
  rw[ht]
  have hc:PE X (.Subscript (.List [.Name x p,.Name y p1] p2) b p3) _:=Hq xk (sQ (bM (nh (v:=.ref f) hg hm rfl hdb) (bM (nh (v:=.ref f') hg' hm' rfl hdb') dP))) hk hs
  have run:∀ {s1:Shared}{H1 HF1:Hp}{g:Addr}{gd:FuncData}{gs:List Str}{M:List D->Option D},ni X.prog X.w X.K X.mg X.base Hh k g gd gs (ON X.K n M)->W.keepIn X.K (.ref g)=true->Binds X.K gd gs []->M ds=some d->Inv X pins σ H1 s1->bF HF H HF1 H1 ->
    wpAny (model X.prog X.w) X.A (callWith pos (.ref g) [] (backTo pos (starEach (e::es) X.env)) (backToKw pos (keywordEach [] X.env))) (EP X pins σ Q) X.xe s1:=by
   intro s1 H1 HF1 g gd gs M Qh kpg bg hM I1 G1
   refine W.callWith_K (h₀:=X.base) I.ok.mod.kin kpg (cx (ha pos pins s1 σ H1 (fun vs H2=>ON X.K n M (vs++[]) H2 Q E0) I1 ⟨HF1,ρ,ds,G1.fh,eo.mono G1.ff,h2,fun vs H2 HF2 G2 r2=>⟨HF2,ds,d,G2.fh,(eo.mono G1.ff).tb.mono G2.ff,by rw[qF];exact r2,hl,hM,fun v H' HF' g' r=>q v H' HF' (G1.trans (G2.trans g')) r⟩⟩) fun us s2 ⟨vs,H2,I2,r,q2⟩=>⟨I2.kIn,?_⟩) he hpl
   exact CZ Qh hr bg .nil L9 I2 r q2
  refine zU (cx (hc pins s σ H (fun v H1=>∃HF1,bF HF H HF1 H1/\v=(if kk=0 then V.ref f else .ref f')) I ⟨by rw[qU];simp,fun z hz=>?_⟩) fun u s1 ⟨v,H1,I1,rv,HF1,G1,ev⟩=>?_)
  ·have G0:bF HF H HF (upd H z (.lst [.ref f,.ref f'])):=.own sm hz
   refine⟨HF,ρ,.int kk,G0.fh,eo,h1,fun v1 H1 HF1 g1 r1=>?_⟩
   simp only[Rep] at r1
   refine⟨z,[.ref f,.ref f'],kk,(if kk=0 then V.ref f else .ref f'),rfl,r1,.of (g1.hh z _ aC),?_,HF1,G0.trans g1,rfl⟩
   dsimp only at hf
   by_cases h0:kk=0
   ·subst h0;rfl
   ·rw[yN h0] at hf ⊢
    by_cases h1:kk=1
    ·subst h1;rfl
    ·rw[yN h1] at hf;cases hf
  ·dsimp only at hf
   by_cases h0:kk=0
   ·rw[yL h0] at hf ev
    subst ev
    cases rv
    exact run ok hkp hb hf I1 G1
   ·rw[yN h0] at hf ev
    subst ev
    cases rv
    by_cases h1:kk=1
    ·rw[yL h1] at hf
     exact run ok' hkp' hb' hf I1 G1
    ·rw[yN h1] at hf;cases hf
 ·cases hf
end
section
variable {X:Cx}{HF₀ H₀:Hp}{e:Expr}{pos:Pos}
end
structure Sf(h:Heap)(v:Value)(r:List Int):Prop where
 ex:∃ (a:Addr) (o:Obj) (n:Nat) (p:Value) (x y m:Int) (t:Tok),v=.ref a/\r=[x,y,m]/\h.get? a=some o/\o.cls=.type "tuple"/\o.data=.seq #[p,.int m t] n/\we h p [x,y]
section
variable {prog:Program}{w:World}{A:Around}{E:Value->Shared->Prop}{s:Shared}
end
section
variable {X:Cx}{e:Expr}{fs:Env->Option (List D)}{p pos:Pos}
end
end Dl
namespace HT
open PySem PyProof.Rows
section
open PySem.SeqAt
open PySem.AutoSeq1 (wpAny_loadPart')
open PySem.MeetsSeq PySem.MeetsSeq2 PySem.MeetsSeq3
end
end HT
namespace Dl
open PySem L2 PySem.Spec PyProof.Rows
section
variable {prog:Program}{w:World}{A:Around}{E:Value->Shared->Prop}{s:Shared}
end
section
variable {X:Cx}{e:Expr}{fs:Env->Option (List D)}{p pos:Pos}
def j7:List D->Option (List (List Int))
 | []=>some []
 | d::r=>(lW d).bind fun ns=>(j7 r).map (ns::·)
end
section
variable {X:Cx}{pins:List (Addr×Obj)}{σ:L2.St}{A:Around}
end
section
variable {X:Cx}{N:List Str}{sc:Scope}{k:Nat}
variable {l body:Expr}{fl te:Env->Option D}{params:Arguments}{scope:Scope}{lpos pos p0 kpos:Pos}{N':List Str}{cs:List Nat}{p qual:Str}
end
section
variable {X:Cx}{e:Expr}{fs:Env->Option (List D)}{pos p:Pos}
end
section
variable {X:Cx}{e:Expr}{pos:Pos}{HF₀ H₀:Hp}
def oN(i j l:Nat)(fz:List Nat)(f:Env->Option D):ar->Option Out:=fun ρ=>(f (bZ (hand fz 0 ρ))).bind fun d=>match d with
 | .tuple [x,y,z]=>some (.nx ((((if iW (.tuple [x,y,z])=true then ρ else hand fz 0 ρ).set i (.val x)).set j (.val y)).set l (.val z)))
 | _=>none
theorem Gd(i j l:Nat)(fz:List Nat){x y z:Str}{px py pz pt:Pos}{m:Nat}{f:Env->Option D}(hc:X.calm=true)(hN:X.N.Nodup)(hi:X.N[i]?=some x)(hx:Loc X.env.scope x)(hj:X.N[j]?=some y)(hy:Loc X.env.scope y)(hl:X.N[l]?=some z)(hz:Loc X.env.scope z)(hp:HI e=true)(he:DE X e f)
  (h1:X.fn x=true\/X.env.scope.names.lookup x=some .local) (h2:X.fn y=true\/X.env.scope.names.lookup y=some .local) (h3:X.fn z=true\/X.env.scope.names.lookup z=some .local):DS X HF₀ H₀ (.Assign [.Tuple [.Name x px,.Name y py,.Name z pz] m pt] e pos) (oN i j l fz f) :=
 cD (HH he (xp hc (dA (dI hN hi hx h1) (dA (dI hN hj hy h2) (dA (dI hN hl hz h3) qr)))) (by cases e<;>first|rfl|cases hp) (by cases e<;>first|rfl|cases hp)) fun E σ H ⟨HF,ρ,o,S,hg,q⟩=>by
  unfold oN at hg
  obtain⟨d,h,hg⟩:=bs hg
  split at hg
  ·rename_i u v t
   cases hg
   obtain⟨HF1,s1,S1⟩:=S.hand fz
   refine⟨HF1,_,.tuple [u,v,t],S1.gr.fh,S1.frz,h,fun w H' HF' G r=>?_⟩
   simp only[Rep] at r
   obtain⟨a,vs,rfl,hs,rr⟩:=r
   obtain⟨v1,r1,rfl,a1,b1⟩:=rr.cons_inv
   obtain⟨v2,r2,rfl,a2,b2⟩:=b1.cons_inv
   obtain⟨v3,r3,rfl,a3,b3⟩:=b2.cons_inv
   rw[b3.nil_inv] at hs
   refine⟨a,_,rfl,aL G.fh hs,rfl,v1,_,rfl,v2,_,rfl,v3,_,rfl,rfl,?_⟩
   by_cases hn:iW (.tuple [u,v,t])=true
   ·rw[yL hn] at q
    obtain⟨HF2,s2,S2,hb⟩:=S.back S1 s1 G
    simp only[iW,rY,zF,Bool.and_true] at hn
    exact q _ H' HF2 (((S2.setV (hb u v1 hn.1 a1)).setV (hb v v2 hn.2.1 a2)).setV (hb t v3 hn.2.2 a3)) s2
   ·rw[yN hn] at q
    exact q _ H' HF' ((((S1.grow G).setV a1).setV a2).setV a3) (s1.trans G.ff)
  ·cases hg
end
end Dl
namespace Rf
open PySem L2 Dl PySem.Spec PyProof.Rows
structure Tr where
 e:Expr->Option (Dl.Env->Option D)
 f:Expr->Option (Dl.Env->Option (List D))
 t:Expr->Option (Dl.Env->Option Bool)
structure Sg where
 fn:List (Str×Nat×(List D->Option D))
 int:List (Str×Int)
abbrev FE:=Dl.Env->Option D
def CO(G:Sg)(sc:Scope)(N:List Str)(x:Str):Option FE:=match N.idxOf? x with
 | some i=>if F3 N sc i x=true then some (ae i) else none
 | none=>if (pU sc x&&!(x == ("__debug__":Str)))=true then (G.int.lookup x).map fun n=>fC (.int n) else none
def Df:Const->Option FE
 | .int i=>some (fC (.int i))
 | .bool b=>some (fC (.bool b))
 | .none=>some (fC .none)
 | .str x=>some (fC (.str x))
 | _=>none
def PU(T:Tr)(op:UnaryOp)(a:Expr):Option FE:=match op with
 | .Not=>(T.e a).map OS
 | .USub=>(T.e a).map (f1 JF)
 | _=>none
def RQ:Operator->Option (D->D->Option D)
 | .Add=>some aI
 | .Sub=>some Dl.cU
 | .Mult=>some dM
 | .FloorDiv=>some ow
 | .Mod=>some md
 | _=>none
def Mu:Expr->Bool
 | .List ..=>true
 | .ListComp ..=>true
 | _=>false
def Ds:Expr->Bool
 | .List ..=>true
 | .ListComp ..=>true
 | .BinOp a .Mult _ _=>Mu a
 | .BinOp a .Add b _=>Ds a||Ds b
 | .Call (.Name x _) _ _ _=>x == ("sorted":Str)||x == ("list":Str)
 | _=>false
def IH(T:Tr)(whole a:Expr)(op:Operator)(b:Expr):Option FE :=
 if Ds whole=true then (T.f whole).map bR else (RQ op).bind fun g=>(T.e a).bind fun x=>(T.e b).map fun y=>f2 g x y
def vx(T:Tr)(op:BoolOp):List Expr->Option FE
 | []=>none
 | [a]=>T.e a
 | a::b::r=>(T.e a).bind fun x=>(vx T op (b::r)).map fun y=>match op with|.And=>me x y|.Or=>QZ x y
def Po:CmpOp->Option (D->D->Option D)
 | .Lt=>some yc
 | .LtE=>some Dq
 | .Gt=>some tm
 | .GtE=>some RI
 | .Eq=>some ba
 | .NotEq=>some dv
 | .In=>none
 | .NotIn=>none
 | .Is=>some mY
 | .IsNot=>some AU
def Ra:CmpOp->Option (D->D->Option D)
 | .Lt=>some yc
 | .LtE=>some Dq
 | _=>none
def DD(T:Tr)(a:Expr)(ops:List CmpOp)(cs:List Expr):Option FE:=match ops,cs with
 | [op],[b]=>if behindInMarks op b=false then (Po op).bind fun g=>(T.e a).bind fun x=>(T.e b).map fun y=>f2 g x y else none
 | [op,op'],[b,c]=>if lastMarks [op,op'] [b,c]=false then (Ra op).bind fun g=>(Ra op').bind fun g'=>(T.e a).bind fun x=>(T.e b).bind fun y=>(T.e c).map fun z=>lx g g' x y z else none
 | _,_=>none
def tq(T:Tr):List Expr->Option (Dl.Env->Option (List D))
 | []=>some af
 | e::es=>if isStar e=false then (T.e e).bind fun x=>(tq T es).map fun r=>aa x r else none
def RW(T:Tr):Option Expr->Option (Dl.Env->Option (Option Int))
 | none=>some uj
 | some e=>(T.e e).map JQ
def zl:Expr->Bool
 | .Slice ..=>true
 | .Tuple ..=>true
 | .Starred ..=>true
 | _=>false
def Hg(T:Tr)(a b:Expr):Option FE:=match b with
 | .Slice lo hi none _=>(T.e a).bind fun x=>(RW T lo).bind fun l=>(RW T hi).map fun h=>se mC x l h
 | _=>if zl b=false then (T.e a).bind fun x=>(T.e b).map fun y=>f2 av x y else none
def Iq:List D->Option D:=fun ds=>(oneOf ds).bind fun d=>match d with
 | .list es=>(boolsOf es).map fun bs=>.bool (bs.any id)
 | _=>none
def oX:Expr->Option Expr
 | .Call (.Name x _) [e] [] _=>if x="set" then some e else none
 | _=>none
def NH(x:Str):Option String:=if x="int" then some "int" else if x="bool" then some "bool" else if x="tuple" then some "tuple" else if x="list" then some "list" else none
def CA(T:Tr)(x:Str)(args:List Expr):Option FE :=
 if x="max" then (if args.isEmpty=true then none else (tq T args).map fun fs=>aZ MT fs)
 else none
def C6(G:Sg)(sc:Scope)(T:Tr)(whole:Expr)(x:Str)(args:List Expr):Option FE :=
 if (pU sc x&&args.all fun e=>!isStar e)=true then
  match G.fn.lookup x with
  | some (n,m)=>if (args.isEmpty||x == ("__debug__":Str))=true then none else (tq T args).map fun fs=>ai n m fs
  | none =>
   if x="len" then (match args with
    | [e]=>(match oX e with
     | some e'=>if (pU sc "set"&&!isStar e')=true then (T.e e').map fun y=>f1 l6 y else none
     | none=>(tq T args).map fun fs=>aZ aP fs)
    | _=>none)
   else if x="isinstance" then (match args with
    | [e,.Name y _]=>if pU sc y=true then (NH y).bind fun ty=>(T.e e).map fun z=>Mp ty z else none
    | _=>none)
   else if x="tuple" then (if args.length=1 then (tq T args).map fun fs=>aZ bV fs else none)
   else if x="all" then (if args.length=1 then (tq T args).map fun fs=>aZ n6 fs else none)
   else if x="any" then (if args.length=1 then (tq T args).map fun fs=>aZ Iq fs else none)
   else if x="sum" then (if args.length=1 then (tq T args).map fun fs=>aZ tQ fs else none)
   else if x="min" then (if args.isEmpty=true then none else (tq T args).map fun fs=>aZ sW fs)
   else if (x == ("list":Str)||x == ("sorted":Str))=true then (T.f whole).map bR
   else CA T x args
 else none
def vv:Expr->Bool
 | .Call ..=>true
 | _=>false
def BP(T:Tr)(o:Expr)(m:Str)(apos:Pos)(args:List Expr)(cpos:Pos):Option FE :=
 if (m == ("index":Str)&&apos.endLine == cpos.line&&!vv o)=true then (match args with
  | [e]=>if isStar e=false then (T.e o).bind fun x=>(T.e e).map fun y=>f2 jh x y else none
  | _=>none)
 else none
def BY(G:Sg)(sc:Scope)(T:Tr)(x y:Str)(b:Expr)(args:List Expr):Option FE :=
 if ((pU sc x&&pU sc y)&&((args.all fun e=>!isStar e)&&(!args.isEmpty&&(!zl b&&(!(x == ("__debug__":Str))&&!(y == ("__debug__":Str)))))))=true then
  (G.fn.lookup x).bind fun p=>(G.fn.lookup y).bind fun q=>if p.1=q.1 then (T.e b).bind fun fk=>(tq T args).map fun fs=>uE p.1 p.2 q.2 fk fs else none
 else none
def GL(G:Sg)(sc:Scope)(N:List Str)(T:Tr)(whole:Expr):Option FE:=match whole with
 | .Name x _=>CO G sc N x
 | .Constant c _ _=>Df c
 | .UnaryOp op a _=>PU T op a
 | .BinOp a op b _=>IH T whole a op b
 | .BoolOp op es _=>vx T op es
 | .Compare a ops cs _=>DD T a ops cs
 | .IfExp c a b _=>(T.t c).bind fun z=>(T.e a).bind fun x=>(T.e b).map fun y=>Dd z x y
 | .Tuple es _ _=>(tq T es).map aN
 | .Subscript a b _=>Hg T a b
 | .List ..=>(T.f whole).map bR
 | .ListComp ..=>(T.f whole).map bR
 | .Call (.Name x _) args [] _=>C6 G sc T whole x args
 | .Call (.Name _ _) _ (_::_) _=>(T.f whole).map bR
 | .Call (.Attribute o m apos) args [] cpos=>BP T o m apos args cpos
 | .Call (.Subscript (.List [.Name x _,.Name y _] _) b _) args [] _=>BY G sc T x y b args
 | _=>none
def QJ(T:Tr)(op:BoolOp):List Expr->Option (Dl.Env->Option Bool)
 | []=>none
 | [a]=>T.t a
 | a::b::r=>(T.t a).bind fun x=>(QJ T op (b::r)).map fun y=>match op with|.And=>dw x y|.Or=>sM x y
def Ju:Expr->Bool
 | .Name ..=>true
 | .Call ..=>true
 | .Subscript ..=>true
 | _=>false
def stepT(T:Tr)(whole:Expr):Option (Dl.Env->Option Bool):=match whole with
 | .Compare a ops cs _=>(DD T a ops cs).map fB
 | .UnaryOp .Not a _=>(T.t a).map bE
 | .BoolOp op es _=>QJ T op es
 | _=>if Ju whole=true then (T.e whole).map fB else none
def yj:Expr->Bool
 | .Tuple ..=>true
 | _=>false
def QG(sc:Scope)(T:Tr)(tg iter:Expr):Option (Dl.Env->Option (List D)):=match iter with
 | .Call (.Name x _) args [] _ =>
  if x="range" then (match args with|[e]=>if (pU sc "range"&&!isStar e)=true then (tq T args).map aK else none|_=>none)
  else if x="enumerate" then (match args with|[e]=>if (pU sc "enumerate"&&!isStar e&&yj tg)=true then (tq T args).map bO else none|_=>none)
  else if x="zip" then (match args with|[e,e']=>if (pU sc "zip"&&!isStar e&&!isStar e'&&yj tg)=true then (tq T args).map gD else none|_=>none)
  else (T.e iter).map bL
 | .Set ..=>none
 | _=>(T.e iter).map bL
def Q4:Expr->Option (List Str)
 | .Name x _=>some [x]
 | .Tuple [.Name x _,.Name y _] _ _=>some [x,y]
 | _=>none
def RU:Expr->Option (List Str)
 | .Tuple [.Name x _,.Name y _,.Name z _] _ _=>some [x,y,z]
 | tg=>Q4 tg
def fS(N:List Str)(scope:Scope):List Nat:=(List.range N.length).filter fun j=>match N[j]? with|some x=>decide (scope.names.lookup x=some .free)|none=>false
def N5:Expr->Bool
 | .Set ..=>false
 | _=>true
def Mv(B:Tr)(ifs:List Expr):Option (Dl.Env->Option Bool):=match ifs with
 | []=>some fun _=>some true
 | [c]=>B.t c
 | _=>none
def yo(sc:Scope)(N:List Str)(T:Tr)(blk:Scope->List Str->Tr)(elt:Expr)(gens:List Comprehension)(scope:Scope):Option (Dl.Env->Option (List D)):=match gens with
 | [⟨tg,iter,ifs,as⟩] =>
  if as=0 then (RU tg).bind fun xs =>
   if (jw sc scope N (xs++(fS N scope).filterMap fun j=>N[j]?) xs.length (fS N scope)&&(List.range xs.length).all fun i=>rl (xs++(fS N scope).filterMap fun j=>N[j]?) scope i (xs.getD i ""))=true then
    (QG sc T tg iter).bind fun fi=>(Mv (blk scope (xs++(fS N scope).filterMap fun j=>N[j]?)) ifs).bind fun tt =>
     ((blk scope (xs++(fS N scope).filterMap fun j=>N[j]?)).e elt).map fun te=>au xs.length (fS N scope) fi (match xs with|[_]=>fG 0|[_,_]=>j6 0 1|_=>Q7 0 1 2) tt te
   else none
  else none
 | _=>none
def Dw:Arguments->Option Str
 | ⟨[],[⟨x,none,_⟩],none,[],[],none,[]⟩=>if x="number" then some x else if x="plan" then some x else none
 | _=>none
def w4(lam:Option Str)(sc:Scope)(N:List Str)(T:Tr)(lmb:Scope->List Str->Tr)(l:Expr)(params:Arguments)(body:Expr)(scope:Scope):Option (Dl.Env->Option (List D)) :=
 if (lam.isSome&&pU sc "sorted"&&!isStar l)=true then
  (Dw params).bind fun p =>
   if (jw sc scope N (p::(fS N scope).filterMap fun j=>N[j]?) 1 (fS N scope)&&pI scope (p::(fS N scope).filterMap fun j=>N[j]?) p)=true then
    (T.e l).bind fun fl=>((lmb scope (p::(fS N scope).filterMap fun j=>N[j]?)).e body).map fun te=>oH (fS N scope) fl te
   else none
 else none
def yr(lam:Option Str)(sc:Scope)(N:List Str)(T:Tr)(lmb:Scope->List Str->Tr)(l:Expr)(params:Arguments)(body:Expr)(scope:Scope):Option (Dl.Env->Option (List D)):=match l with
 | .Call (.Name r _) [e] [] _ =>
  if (lam.isSome&&pU sc "sorted"&&r == ("range":Str)&&pU sc "range"&&!isStar e)=true then
   (Dw params).bind fun p =>
    if (jw sc scope N (p::(fS N scope).filterMap fun j=>N[j]?) 1 (fS N scope)&&pI scope (p::(fS N scope).filterMap fun j=>N[j]?) p)=true then
     (tq T [e]).bind fun fs=>((lmb scope (p::(fS N scope).filterMap fun j=>N[j]?)).e body).map fun te=>GC (fS N scope) fs te
    else none
  else none
 | _=>none
def Ei(lam:Option Str)(sc:Scope)(N:List Str)(T:Tr)(blk lmb:Scope->List Str->Tr)(whole:Expr):Option (Dl.Env->Option (List D)):=match whole with
 | .List es _=>(tq T es).map b0
 | .ListComp elt gens scope _=>yo sc N T blk elt gens scope
 | .BinOp a .Mult b _=>if Mu a=true then (T.f a).bind fun x=>(T.e b).map fun y=>fR x y else none
 | .BinOp a .Add b _=>(T.e a).bind fun x=>(T.e b).map fun y=>Sn uN x y
 | .Call (.Name x _) [l] [⟨some ky,.Lambda params body scope _,_⟩] _=>if (x == ("sorted":Str)&&ky == ("key":Str))=true then (match w4 lam sc N T lmb l params body scope with|some f=>some f|none=>yr lam sc N T lmb l params body scope) else none
 | .Call (.Name x _) [e] [] _ =>
  if (pU sc x&&!isStar e)=true then
   if x="list" then (tq T [e]).map fun fs=>k6 cI fs
   else if x="sorted" then (tq T [e]).map fun fs=>k6 gQ fs
   else none
  else none
 | _=>none
def tr(G:Sg):Nat->Option Str->Scope->List Str->Tr
 | 0,_,_,_=>⟨fun _=>none,fun _=>none,fun _=>none⟩
 | n+1,lam,sc,N=>⟨GL G sc N (tr G n lam sc N),Ei lam sc N (tr G n lam sc N) (tr G n none) (tr G n none),stepT (tr G n lam sc N)⟩
structure O2(G:Sg)(X:Cx)(j:Nat):Prop where
 fn:∀x n m,G.fn.lookup x=some (n,m)->eJ X.prog X.w X.K X.mg X.base j x n m
 int:∀x i,G.int.lookup x=some i->∃t,X.mg x=some (.int i t)
 bn:Bn X
structure rP(X:Cx)(tg iter:Expr)(ifs:List Expr)(elt:Expr)(scope:Scope)(f:Dl.Env->Option (List D)):Prop where
 ex:∃ (N':List Str) (t:Nat) (cs:List Nat) (fi:Dl.Env->Option (List D)) (tgt:Dl.Env->D->Option Dl.Env) (tt:Dl.Env->Option Bool) (te:FE),f=au t cs fi tgt tt te/\ji X scope N' (kg t cs)/\DI X tg iter fi/\(∀x,foldedSetIterable iter X.env x=pure x) /\
  ∀fp s H,DG (bc X scope N' fp s H) tg tgt/\PM (bc X scope N' fp s H) ifs tt/\DE (bc X scope N' fp s H) elt te
structure cR(X:Cx)(T:Tr):Prop where
 c:∀elt gens scope p f,T.f (.ListComp elt gens scope p)=some f->∃tg iter ifs,gens=[⟨tg,iter,ifs,0⟩]/\rP X tg iter ifs elt scope f
 e:∀e f,T.e e=some f->DE X e f
 f:∀e f,T.f e=some f->DF X e f
 t:∀e f,T.t e=some f->DT X e f
section
variable {G:Sg}{X:Cx}{N:List Str}{sc:Scope}{k j:Nat}{T:Tr}{pos p:Pos}
theorem EV(C:Bk X N sc k)(g:O2 G X j){x:Str}{f:FE}(h:CO G sc N x=some f):DE X (.Name x pos) f:=by
 unfold CO at h
 split at h
 ·split at h
  ·cases h;exact C.v _ ‹_›
  ·cases h
 ·split at h
  ·rename_i hg
   obtain⟨n,hn,rfl⟩:=ag h
   obtain⟨t,ht⟩:=g.int x n hn
   simp only[zF,yP] at hg
   exact LP (C.gl hg.1) ht hg.2
  ·cases h
theorem B6{c:Const}{i:Nat}{f:FE}(h:Df c=some f):DE X (.Constant c i pos) f:=by
 cases c<;>cases h<;>first|exact MC|exact P2|exact Nm|exact NY
theorem KC(C:Bk X N sc k)(O:cR X T){op:UnaryOp}{a:Expr}{f:FE}(h:PU T op a=some f):DE X (.UnaryOp op a pos) f:=by
 cases op<;>try cases h
 ·obtain⟨x,hx,rfl⟩:=ag h;exact NW (O.e _ _ hx)
 ·obtain⟨x,hx,rfl⟩:=ag h;exact C.neg (O.e _ _ hx)
theorem Ij(C:Bk X N sc k)(O:cR X T){op:Operator}{a b:Expr}{f:FE}(h:IH T (.BinOp a op b pos) a op b=some f):DE X (.BinOp a op b pos) f:=by
 unfold IH at h
 split at h
 ·obtain⟨x,hx,rfl⟩:=ag h;exact DF.de (O.f _ _ hx)
 ·obtain⟨g,hg,h⟩:=bs h
  obtain⟨x,hx,h⟩:=bs h
  obtain⟨y,hy,rfl⟩:=ag h
  cases op<;>cases hg
  ·exact C.add (O.e _ _ hx) (O.e _ _ hy)
  ·exact C.sub (O.e _ _ hx) (O.e _ _ hy)
  ·exact C.mul (O.e _ _ hx) (O.e _ _ hy)
  ·exact C.mod (O.e _ _ hx) (O.e _ _ hy)
  ·exact C.div (O.e _ _ hx) (O.e _ _ hy)
theorem uV(O:cR X T){op:BoolOp}:∀ {es:List Expr}{f:FE},vx T op es=some f->DE X (.BoolOp op es pos) f
 | [],f,h=>by cases h
 | [a],f,h=>NB (O.e _ _ h)
 | a::b::r,f,h=>by
  unfold vx at h
  obtain⟨x,hx,h⟩:=bs h
  obtain⟨y,hy,rfl⟩:=ag h
  have ih:=uV O hy
  cases op with
  | And=>exact OT (O.e _ _ hx) ih
  | Or=>exact P8 (O.e _ _ hx) ih
theorem MI(C:Bk X N sc k){op:CmpOp}{a b:Expr}{g:D->D->Option D}{x y:FE}(hg:Po op=some g)(hm:behindInMarks op b=false)(ha:DE X a x)(hb:DE X b y):DE X (.Compare a [op] [b] pos) (f2 g x y)/\DT X (.Compare a [op] [b] pos) (fB (f2 g x y)):=by
 cases op<;>cases hg
 ·exact⟨C.eq ha hb,C.teq ha hb⟩
 ·exact⟨C.ne ha hb,C.tne ha hb⟩
 ·exact⟨C.lt ha hb,C.tlt ha hb⟩
 ·exact⟨C.le ha hb,C.tle ha hb⟩
 ·exact⟨C.gt ha hb,C.tgt ha hb⟩
 ·exact⟨C.ge ha hb,C.tge ha hb⟩
 ·exact⟨C.is0 ha hb,C.tis0 ha hb⟩
 ·exact⟨C.not0 ha hb,C.tnot0 ha hb⟩
theorem LZ{op:CmpOp}{g:D->D->Option D}(h:Ra op=some g):∃r,iw X (compareOp op) r/\fX X.K r g:=by
 cases op<;>cases h
 ·exact⟨_,IG,ib⟩
 ·exact⟨_,HQ,ib⟩
theorem A3(C:Bk X N sc k)(O:cR X T){a:Expr}{ops:List CmpOp}{cs:List Expr}{f:FE}(h:DD T a ops cs=some f):DE X (.Compare a ops cs pos) f/\DT X (.Compare a ops cs pos) (fB f):=by
 unfold DD at h
 split at h
 ·split at h
  ·rename_i hm
   obtain⟨g,hg,h⟩:=bs h
   obtain⟨x,hx,h⟩:=bs h
   obtain⟨y,hy,rfl⟩:=ag h
   exact MI C hg hm (O.e _ _ hx) (O.e _ _ hy)
  ·cases h
 ·split at h
  ·rename_i hm
   obtain⟨g,hg,h⟩:=bs h
   obtain⟨g',hg',h⟩:=bs h
   obtain⟨x,hx,h⟩:=bs h
   obtain⟨y,hy,h⟩:=bs h
   obtain⟨z,hz,rfl⟩:=ag h
   obtain⟨r,r1,r2⟩:=LZ (X:=X) hg
   obtain⟨r',r1',r2'⟩:=LZ (X:=X) hg'
   exact⟨Ja r1 r2 r1' r2' (O.e _ _ hx) (O.e _ _ hy) (O.e _ _ hz) hm,IL r1 r2 r1' r2' (O.e _ _ hx) (O.e _ _ hy) (O.e _ _ hz) hm⟩
  ·cases h
 ·cases h
theorem cB(O:cR X T):∀ {es:List Expr}{fs:Dl.Env->Option (List D)},tq T es=some fs->DA X es fs
 | [],fs,h=>by cases h;exact Gb
 | e::es,fs,h=>by
  unfold tq at h
  split at h
  ·rename_i hs
   obtain⟨x,hx,h⟩:=bs h
   obtain⟨r,hr,rfl⟩:=ag h
   exact Rn hs (O.e _ _ hx) (cB O hr)
  ·cases h
theorem Jq(O:cR X T){o:Option Expr}{f:Dl.Env->Option (Option Int)}(h:RW T o=some f):DO X o f:=by
 cases o with
 | none=>cases h;exact Kk
 | some e=>obtain⟨x,hx,rfl⟩:=ag h;exact LG (O.e _ _ hx)
theorem mM{b:Expr}(h:zl b=false):nZ b:=by
 cases b<;>first|(intro _ _;rfl)|cases h
theorem JH(C:Bk X N sc k)(O:cR X T){a b:Expr}{f:FE}(h:Hg T a b=some f):DE X (.Subscript a b pos) f:=by
 unfold Hg at h
 split at h
 ·obtain⟨x,hx,h⟩:=bs h
  obtain⟨l,hl,h⟩:=bs h
  obtain⟨u,hu,rfl⟩:=ag h
  exact C.cut (O.e _ _ hx) (Jq O hl) (Jq O hu)
 ·split at h
  ·rename_i hc
   obtain⟨x,hx,h⟩:=bs h
   obtain⟨y,hy,rfl⟩:=ag h
   exact PR (O.e _ _ hx) (O.e _ _ hy) (mM hc)
  ·cases h
theorem cq{env:PySem.Env}:∀ {es:List Expr},(es.all fun e=>!isStar e)=true->(backTo pos (starEach es env)).any (·.1)=false
 | [],_=>rfl
 | e::es,h=>by
  rw[xS,zF,yP] at h
  rw[bz h.1]
  show (false||(backTo pos (starEach es env)).any (·.1))=false
  rw[cq h.2]
  rfl
theorem Jl{e e':Expr}(h:oX e=some e'):∃p q,e=.Call (.Name "set" p) [e'] [] q:=by
 unfold oX at h
 split at h
 ·split at h
  ·rename_i hx;cases h;subst hx;exact⟨_,_,rfl⟩
  ·cases h
 ·cases h
theorem KP{y:Str}{ty:String}(h:NH y=some ty):y∈cg/\bootBuiltins y=some (.type ty)/\y≠"__name__"/\(y == ("__debug__":Str))=false:=by
 unfold NH at h
 split at h
 ·rename_i e;cases h;subst e;exact⟨by decide +kernel,by decide +kernel,by decide,by decide⟩
 ·split at h
  ·rename_i e;cases h;subst e;exact⟨by decide +kernel,by decide +kernel,by decide,by decide⟩
  ·split at h
   ·rename_i e;cases h;subst e;exact⟨by decide +kernel,by decide +kernel,by decide,by decide⟩
   ·split at h
    ·rename_i e;cases h;subst e;exact⟨by decide +kernel,by decide +kernel,by decide,by decide⟩
    ·cases h
theorem MX:bootBuiltins "any"=some (.builtin "any"):=by decide +kernel
theorem Ol:bootBuiltins "sum"=some (.builtin "sum"):=by decide +kernel
theorem Ou:bootBuiltins "max"=some (.builtin "max"):=by decide +kernel
theorem Ox:bootBuiltins "min"=some (.builtin "min"):=by decide +kernel
theorem Cu{α:Type}{l:List α}(h:l.length=1):∃a,l=[a]:=by
 match l,h with
 | [a],_=>exact⟨a,rfl⟩
theorem EC(C:Bk X N sc k)(g:O2 G X j)(O:cR X T){x:Str}{args:List Expr}{f:FE}(hg:pU sc x=true)(hs:args.all (fun e=>!isStar e)=true)(h:CA T x args=some f):DE X (.Call (.Name x p) args [] pos) f:=by
 have st1:∀ {e:Expr}{es:List Expr},args=e::es->starEach (e::es) X.env=(false,eval e X.env)::starEach es X.env:=fun {e es} q=>by
  subst q
  rw[xS,zF,yP] at hs
  exact bz hs.1
 have st2:∀ {e:Expr}{es:List Expr},args=e::es->(backTo pos (starEach es X.env)).any (·.1)=false:=fun {e es} q=>by
  subst q
  rw[xS,zF] at hs
  exact cq hs.2
 unfold CA at h
 split at h
 ·rename_i hx
  subst hx
  split at h
  ·cases h
  ·rename_i hl
   obtain⟨fs,hfs,rfl⟩:=ag h
   cases args with
   | nil=>exact absurd rfl hl
   | cons e es =>
    exact OO C.calm (C.blt g.bn hg (by decide +kernel) Ou) (st1 rfl) (st2 rfl) (cB O hfs)
 ·cases h
theorem Ez(C:Bk X N sc k)(g:O2 G X j)(hjk:j<=k)(O:cR X T){x:Str}{args:List Expr}{f:FE}(h:C6 G sc T (.Call (.Name x p) args [] pos) x args=some f):DE X (.Call (.Name x p) args [] pos) f:=by
 unfold C6 at h
 split at h
 ·rename_i hg
  rw[zF] at hg
  obtain⟨hg,hs⟩:=hg
  have st1:∀ {e:Expr}{es:List Expr},args=e::es->starEach (e::es) X.env=(false,eval e X.env)::starEach es X.env:=fun {e es} q=>by
   subst q
   rw[xS,zF,yP] at hs
   exact bz hs.1
  have st2:∀ {e:Expr}{es:List Expr},args=e::es->(backTo pos (starEach es X.env)).any (·.1)=false:=fun {e es} q=>by
   subst q
   rw[xS,zF] at hs
   exact cq hs.2
  split at h
  ·rename_i n m hfn
   split at h
   ·cases h
   ·rename_i hne
    obtain⟨fs,hfs,rfl⟩:=ag h
    cases args with
    | nil=>exact absurd (by simp) hne
    | cons e es =>
     have hd:(x == ("__debug__":Str))=false:=by simpa using hne
     exact KO (g.fn x n m hfn) (C.room.mono hjk) (C.gl hg) (cB O hfs) hd (st1 rfl) (st2 rfl)
  ·split at h
   ·rename_i hx
    subst hx
    split at h
    ·rename_i e
     split at h
     ·rename_i e' he'
      split at h
      ·rename_i hg2
       rw[zF,yP] at hg2
       obtain⟨y,hy,rfl⟩:=ag h
       obtain⟨p1,p2,rfl⟩:=Jl he'
       exact FP C.calm (C.blt g.bn hg (by decide +kernel) Hn) (C.blt g.bn hg2.1 (by decide +kernel) OV) (O.e _ _ hy) (bz hg2.2)
      ·cases h
     ·obtain⟨fs,hfs,rfl⟩:=ag h
      exact M9 (C.blt g.bn hg (by decide +kernel) Hn) (cB O hfs) (st1 rfl)
    ·cases h
   ·split at h
    ·rename_i hx
     subst hx
     split at h
     ·rename_i e y py
      split at h
      ·rename_i hgy
       obtain⟨ty,hty,h⟩:=bs h
       obtain⟨z,hz,rfl⟩:=ag h
       obtain⟨t1,t2,t3,t4⟩:=KP hty
       exact PJ (C.blt g.bn hg (by decide +kernel) tE) (C.blt g.bn hgy t1 t2) (O.e _ _ hz) t3 t4 (st1 rfl)
      ·cases h
     ·cases h
    ·split at h
     ·rename_i hx
      subst hx
      split at h
      ·rename_i hl
       obtain⟨fs,hfs,rfl⟩:=ag h
       obtain⟨e,rfl⟩:=Cu hl
       exact Gs (C.blt g.bn hg (by decide +kernel) Jd) (cB O hfs) (st1 rfl)
      ·cases h
     ·split at h
      ·rename_i hx
       subst hx
       split at h
       ·rename_i hl
        obtain⟨fs,hfs,rfl⟩:=ag h
        obtain⟨e,rfl⟩:=Cu hl
        exact MS C.calm (C.blt g.bn hg (by decide +kernel) MQ) (cB O hfs) (st1 rfl)
       ·cases h
      ·split at h
       ·rename_i hx
        subst hx
        split at h
        ·rename_i hl
         obtain⟨fs,hfs,rfl⟩:=ag h
         obtain⟨e,rfl⟩:=Cu hl
         exact OU C.calm (C.blt g.bn hg (by decide +kernel) MX) (st1 rfl) (cB O hfs)
        ·cases h
       ·split at h
        ·rename_i hx
         subst hx
         split at h
         ·rename_i hl
          obtain⟨fs,hfs,rfl⟩:=ag h
          obtain⟨e,rfl⟩:=Cu hl
          exact On C.calm (C.blt g.bn hg (by decide +kernel) Ol) (st1 rfl) (cB O hfs)
         ·cases h
        ·split at h
         ·rename_i hx
          subst hx
          split at h
          ·cases h
          ·rename_i hl
           obtain⟨fs,hfs,rfl⟩:=ag h
           cases args with
           | nil=>exact absurd rfl hl
           | cons e es =>
            exact OF C.calm (C.blt g.bn hg (by decide +kernel) Ox) (st1 rfl) (st2 rfl) (cB O hfs)
         ·split at h
          ·obtain⟨y,hy,rfl⟩:=ag h
           exact DF.de (O.f _ _ hy)
          ·exact EC C g O hg hs h
 ·cases h
end
section
variable {G:Sg}{X:Cx}{N:List Str}{sc:Scope}{k j:Nat}{T:Tr}{pos p:Pos}
theorem Q1{env:PySem.Env}{e:Expr}{cpos:Pos}(h:isStar e=false):((backTo cpos (starEach [e] env)).all (fun x=>!x.1)&&(backToKw cpos (keywordEach [] env)).all (fun x=>x.1.isSome)&&decide ([e].length+([]:List Keyword).length+(if ([]:List Keyword).isEmpty then 0 else 1) < 30))=true:=by
 rw[bz h];rfl
theorem nB{o:Expr}{a:Str}{env:PySem.Env}{w:Sem Value}(h:vv o=false):attributeBase o a env w=w:=by
 cases o<;>first|rfl|cases h
theorem EH(C:Bk X N sc k)(O:cR X T){o:Expr}{m:Str}{apos cpos:Pos}{args:List Expr}{f:FE}(h:BP T o m apos args cpos=some f):DE X (.Call (.Attribute o m apos) args [] cpos) f:=by
 unfold BP at h
 split at h
 ·rename_i hm
  rw[zF,zF,yP] at hm
  obtain⟨⟨hm1,hm⟩,hcl⟩:=hm
  have e1:m="index":=eq_of_beq hm1
  subst e1
  split at h
  ·rename_i e
   split at h
   ·rename_i hs
    obtain⟨x,hx,h⟩:=bs h
    obtain⟨y,hy,rfl⟩:=ag h
    exact FO (nB hcl) (Q1 hs) hm (bz hs) (O.e _ _ hx) (O.e _ _ hy)
   ·cases h
  ·cases h
 ·cases h
theorem FQ(C:Bk X N sc k)(g:O2 G X j)(hjk:j<=k)(O:cR X T){x y:Str}{b:Expr}{args:List Expr}{f:FE}{p0 p1 p2 p3:Pos}(h:BY G sc T x y b args=some f):DE X (.Call (.Subscript (.List [.Name x p0,.Name y p1] p2) b p3) args [] pos) f:=by
 unfold BY at h
 split at h
 ·rename_i hg
  simp only[zF,yP] at hg
  obtain⟨⟨hx,hy⟩,hs,he,hb,dx,dy⟩:=hg
  obtain⟨⟨n,m⟩,h1,h⟩:=bs h
  obtain⟨⟨n',m'⟩,h2,h⟩:=bs h
  split at h
  ·rename_i hn
   obtain rfl:n=n':=hn
   obtain⟨fk,h3,h⟩:=bs h
   obtain⟨fs,h4,rfl⟩:=ag h
   cases args with
   | nil=>cases he
   | cons e es =>
    rw[xS,zF,yP] at hs
    exact J0 (g.fn x n m h1) (g.fn y n m' h2) (C.room.mono hjk) (C.gl hx) (C.gl hy) (O.e _ _ h3) (cB O h4) dx dy (mM hb) (bz hs.1) (cq hs.2)
  ·cases h
 ·cases h
theorem Gp(C:Bk X N sc k)(g:O2 G X j)(hjk:j<=k)(O:cR X T){e:Expr}{f:FE}(h:GL G sc N T e=some f):DE X e f:=by
 unfold GL at h
 split at h
 ·exact EV C g h
 ·exact B6 h
 ·exact KC C O h
 ·exact Ij C O h
 ·exact uV O h
 ·exact (A3 C O h).1
 ·obtain⟨z,hz,h⟩:=bs h
  obtain⟨x,hx,h⟩:=bs h
  obtain⟨y,hy,rfl⟩:=ag h
  exact Qy (O.t _ _ hz) (O.e _ _ hx) (O.e _ _ hy)
 ·obtain⟨x,hx,rfl⟩:=ag h;exact Nr (cB O hx)
 ·exact JH C O h
 ·obtain⟨x,hx,rfl⟩:=ag h;exact DF.de (O.f _ _ hx)
 ·obtain⟨x,hx,rfl⟩:=ag h;exact DF.de (O.f _ _ hx)
 ·exact Ez C g hjk O h
 ·obtain⟨x,hx,rfl⟩:=ag h;exact DF.de (O.f _ _ hx)
 ·exact EH C O h
 ·exact FQ C g hjk O h
 ·cases h
theorem GU(O:cR X T){op:BoolOp}:∀ {es:List Expr}{f:Dl.Env->Option Bool},QJ T op es=some f->DW X (.BoolOp op es pos) f
 | [],f,h=>by cases h
 | [a],f,h=>by
  cases op with
  | And=>exact KG (O.t _ _ h)
  | Or=>exact M7 (O.t _ _ h)
 | a::b::r,f,h=>by
  unfold QJ at h
  obtain⟨x,hx,h⟩:=bs h
  obtain⟨y,hy,rfl⟩:=ag h
  have ih:=GU O hy
  cases op with
  | And=>exact M0 (O.t _ _ hx) ih
  | Or=>exact P9 (O.t _ _ hx) ih
theorem Io(C:Bk X N sc k)(O:cR X T){e:Expr}{f:Dl.Env->Option Bool}(h:stepT T e=some f):DT X e f:=by
 unfold stepT at h
 split at h
 ·obtain⟨x,hx,rfl⟩:=ag h;exact (A3 C O hx).2
 ·obtain⟨x,hx,rfl⟩:=ag h;exact OM (O.t _ _ hx)
 ·exact DW.dt (GU O h)
 ·split at h
  ·rename_i hp
   obtain⟨x,hx,rfl⟩:=ag h
   refine Oc (O.e _ _ hx) ?_
   revert hp
   cases e<;>first|(intro hp;cases hp;done)|(intro hp _;rfl)
  ·cases h
theorem Oi{e:Expr}{env:PySem.Env}(h:N5 e=true):∀x,foldedSetIterable e env x=pure x:=by
 cases e<;>first|(intro _;rfl)|cases h
theorem GR(C:Bk X N sc k)(B:Bn X)(O:cR X T){tg iter:Expr}{fi:Dl.Env->Option (List D)}(h:QG sc T tg iter=some fi):DI X tg iter fi/\∀x,foldedSetIterable iter X.env x=pure x:=by
 unfold QG at h
 split at h
 ·refine⟨?_,fun _=>rfl⟩
  split at h
  ·rename_i hx
   subst hx
   split at h
   ·split at h
    ·rename_i hg
     rw[zF,yP] at hg
     obtain⟨x,hx,rfl⟩:=ag h
     exact IX (C.blt B hg.1 (by decide +kernel) Bx) (cB O hx) (bz hg.2)
    ·cases h
   ·cases h
  ·split at h
   ·rename_i hx
    subst hx
    split at h
    ·split at h
     ·rename_i hg
      simp only[zF,yP] at hg
      obtain⟨x,hx,rfl⟩:=ag h
      cases tg<;>first|exact JV (C.blt B hg.1.1 (by decide +kernel) xw) (cB O hx) (bz hg.1.2)|exact absurd hg.2 (by simp[yj])
     ·cases h
    ·cases h
   ·split at h
    ·rename_i hx
     subst hx
     split at h
     ·split at h
      ·rename_i e e' hg
       simp only[zF,yP] at hg
       obtain⟨x,hx,rfl⟩:=ag h
       cases tg<;>first|exact Lr (C.blt B hg.1.1.1 (by decide +kernel) ME) (bz hg.1.1.2) (cq (by simp[hg.1.2])) (cB O hx)|exact absurd hg.2 (by simp[yj])
      ·cases h
     ·cases h
    ·obtain⟨x,hx,rfl⟩:=ag h
     exact Jp (O.e _ _ hx)
 ·cases h
 ·rename_i h1 h2
  obtain⟨x,hx,rfl⟩:=ag h
  refine⟨Jp (O.e _ _ hx),Oi ?_⟩
  cases iter<;>first|rfl|exact absurd rfl (h2 _ _ _)
theorem NU{tg:Expr}{xs:List Str}(h:Q4 tg=some xs):(∃x px,tg=.Name x px/\xs=[x])\/∃x px y py m pt,tg=.Tuple [.Name x px,.Name y py] m pt/\xs=[x,y]:=by
 unfold Q4 at h
 split at h
 ·cases h;exact .inl ⟨_,_,rfl,rfl⟩
 ·cases h;exact .inr ⟨_,_,_,_,_,_,rfl,rfl⟩
 ·cases h
theorem MO{tg:Expr}{xs:List Str}(h:RU tg=some xs):((∃x px,tg=.Name x px/\xs=[x])\/∃x px y py m pt,tg=.Tuple [.Name x px,.Name y py] m pt/\xs=[x,y])\/∃x px y py z pz m pt,tg=.Tuple [.Name x px,.Name y py,.Name z pz] m pt/\xs=[x,y,z]:=by
 unfold RU at h
 split at h
 ·cases h;exact .inr ⟨_,_,_,_,_,_,_,_,rfl,rfl⟩
 ·exact .inl (NU h)
theorem uR(C:Bk X N sc k)(B:Bn X)(O:cR X T){blk:Scope->List Str->Tr}(OB:∀scope N' fp s H,Bk (bc X scope N' fp s H) N' scope k->cR (bc X scope N' fp s H) (blk scope N')){tg iter elt:Expr}{ifs:List Expr}{as:Int}{scope:Scope}{f:Dl.Env->Option (List D)}
  (h:yo sc N T blk elt [⟨tg,iter,ifs,as⟩] scope=some f):as=0/\rP X tg iter ifs elt scope f:=by
 unfold yo at h
 dsimp only at h
 split at h
 ·rename_i has
  refine⟨has,?_⟩
  obtain⟨xs,hxs,h⟩:=bs h
  split at h
  ·rename_i hok
   rw[zF] at hok
   obtain⟨fi,hfi,h⟩:=bs h
   obtain⟨tt,htt,h⟩:=bs h
   obtain⟨te,hte,rfl⟩:=ag h
   obtain⟨S,CB⟩:=C.comp hok.1
   obtain⟨hd,hfold⟩:=GR C B O hfi
   refine⟨_,_,_,_,_,_,_,rfl,S,hd,hfold,fun fp s H=>?_⟩
   have C1:=CB fp s H
   have O1:=OB scope _ fp s H C1
   refine⟨?_,?_,O1.e _ _ hte⟩
   ·rcases MO hxs with (⟨x,px,rfl,rfl⟩|⟨x,px,y,py,m,pt,rfl,rfl⟩)|⟨x,px,y,py,z,pz,m,pt,htg,rfl⟩
    ·have z:=C1.loc (i:=0) (x:=x) (List.all_eq_true.mp hok.2 0 (by simp))
     exact K1 0 z.1 z.2.1 z.2.2.1 z.2.2.2
    ·have z:=C1.loc (i:=0) (x:=x) (List.all_eq_true.mp hok.2 0 (by simp))
     have w:=C1.loc (i:=1) (x:=y) (List.all_eq_true.mp hok.2 1 (by simp))
     exact N7 0 1 C1.calm z.1 z.2.1 z.2.2.1 w.2.1 w.2.2.1 z.2.2.2 w.2.2.2
    ·have z0:=C1.loc (i:=0) (x:=x) (List.all_eq_true.mp hok.2 0 (by simp))
     have w:=C1.loc (i:=1) (x:=y) (List.all_eq_true.mp hok.2 1 (by simp))
     have u:=C1.loc (i:=2) (x:=z) (List.all_eq_true.mp hok.2 2 (by simp))
     subst htg
     exact Hf 0 1 2 C1.calm z0.1 z0.2.1 z0.2.2.1 w.2.1 w.2.2.1 u.2.1 u.2.2.1 z0.2.2.2 w.2.2.2 u.2.2.2
   ·unfold Mv at htt
    split at htt
    ·cases htt;exact JX
    ·exact LH (O1.t _ _ htt)
    ·cases htt
  ·cases h
 ·cases h
theorem rP.df{tg iter elt:Expr}{ifs:List Expr}{scope:Scope}{f:Dl.Env->Option (List D)}(hc:X.calm=true)(h:rP X tg iter ifs elt scope f):DF X (.ListComp elt [⟨tg,iter,ifs,0⟩] scope pos) f:=by
 obtain⟨N',t,cs,fi,tgt,tt,te,rfl,S,hd,hfold,hY⟩:=h.ex
 exact KL hc S hd hY hfold
theorem zk{a:Arguments}{x:Str}(h:Dw a=some x):∃px,a=⟨[],[⟨x,none,px⟩],none,[],[],none,[]⟩/\(x="number"\/x="plan"):=by
 unfold Dw at h
 split at h
 ·split at h
  ·cases h;exact⟨_,rfl,.inl ‹_›⟩
  ·split at h
   ·cases h;exact⟨_,rfl,.inr ‹_›⟩
   ·cases h
 ·cases h
theorem bind1{x q:Str}{px:Pos}{body:Expr}{scope:Scope}{cl:List (Str×Addr)}{pm ctv u:Value}{c:Addr}(h:x="number"\/x="plan") :
  bindArgs (W.kla_fn "<lambda>" q ⟨[],[⟨x,none,px⟩],none,[],[],none,[]⟩ body scope cl pm (.ref c) ctv) ⟨[u],[]⟩=pure [(x,u)]:=by
 rcases h with rfl|rfl<;>rfl
theorem CQ{lam:Option Str}(C:Bk X N sc k)(B:Bn X)(hlam:∀q,lam=some q->sU X q/\j+3<=k)(O:cR X T){lmb:Scope->List Str->Tr}
  (OL:∀scope N' qual A f c s H,Bk (gU X A qual scope N' f c s H) N' scope (k - 3)->j<=k - 3->cR (gU X A qual scope N' f c s H) (lmb scope N')) {l body:Expr}{params:Arguments}{scope:Scope}{p0 lpos kpos:Pos}{f:Dl.Env->Option (List D)}
  (h:w4 lam sc N T lmb l params body scope=some f):DF X (.Call (.Name "sorted" p0) [l] [⟨some "key",.Lambda params body scope lpos,kpos⟩] pos) f:=by
 unfold w4 at h
 split at h
 ·rename_i hg
  simp only[zF,yP] at hg
  obtain⟨⟨hl,hg⟩,hs⟩:=hg
  obtain⟨q,rfl⟩:=Option.isSome_iff_exists.mp hl
  obtain⟨L,hk⟩:=hlam q rfl
  obtain⟨x,hx,h2⟩:=bs h
  clear h
  obtain⟨px,rfl,hpx⟩:=zk hx
  split at h2
  ·rename_i hok
   rw[zF] at hok
   obtain⟨fl,hfl,h⟩:=bs h2
   obtain⟨te,hte,rfl⟩:=ag h
   obtain⟨k',rfl⟩:∃k',k=k'+3:=⟨k - 3,by omega⟩
   exact Bk.sortK (p:=x) C (C.blt B hg (by decide +kernel) oS) L hok.1 hok.2 (fun _ _ _ _ _=>bind1 hpx) rfl (O.e _ _ hfl) (fun A f c s H C'=>(OL scope _ q A f c s H C' (by omega)).e _ _ hte) (bz hs) (by rw[bz hs];rfl) (cq (by simp[hs]))
  ·cases h2
 ·cases h
theorem Cd{lam:Option Str}(C:Bk X N sc k)(B:Bn X)(hlam:∀q,lam=some q->sU X q/\j+3<=k)(O:cR X T){lmb:Scope->List Str->Tr}
  (OL:∀scope N' qual A f c s H,Bk (gU X A qual scope N' f c s H) N' scope (k - 3)->j<=k - 3->cR (gU X A qual scope N' f c s H) (lmb scope N')) {l body:Expr}{params:Arguments}{scope:Scope}{p0 lpos kpos:Pos}{f:Dl.Env->Option (List D)}
  (h:yr lam sc N T lmb l params body scope=some f):DF X (.Call (.Name "sorted" p0) [l] [⟨some "key",.Lambda params body scope lpos,kpos⟩] pos) f:=by
 unfold yr at h
 split at h
 ·split at h
  ·rename_i hg
   simp only[zF,yP] at hg
   obtain⟨⟨⟨⟨hl,hg⟩,hr⟩,hgr⟩,hs⟩:=hg
   have er:=eq_of_beq hr
   subst er
   obtain⟨q,rfl⟩:=Option.isSome_iff_exists.mp hl
   obtain⟨L,hk⟩:=hlam q rfl
   obtain⟨x,hx,h2⟩:=bs h
   clear h
   obtain⟨px,rfl,hpx⟩:=zk hx
   split at h2
   ·rename_i hok
    rw[zF] at hok
    obtain⟨fl,hfl,h⟩:=bs h2
    obtain⟨te,hte,rfl⟩:=ag h
    obtain⟨k',rfl⟩:∃k',k=k'+3:=⟨k - 3,by omega⟩
    exact Bk.sortR (p:=x) C (C.blt B hg (by decide +kernel) oS) (C.blt B hgr (by decide +kernel) Bx) L hok.1 hok.2 (fun _ _ _ _ _=>bind1 hpx) rfl (cB O hfl) (fun A f c s H C'=>(OL scope _ q A f c s H C' (by omega)).e _ _ hte) (bz hs) (bz rfl) (by rw[bz rfl];rfl) (cq (by rfl))
   ·cases h2
  ·cases h
 ·cases h
theorem ID{lam:Option Str}(C:Bk X N sc k)(B:Bn X)(hlam:∀q,lam=some q->sU X q/\j+3<=k)(O:cR X T){blk lmb:Scope->List Str->Tr}
  (OB:∀scope N' fp s H,Bk (bc X scope N' fp s H) N' scope k->cR (bc X scope N' fp s H) (blk scope N'))
  (OL:∀scope N' qual A f c s H,Bk (gU X A qual scope N' f c s H) N' scope (k - 3)->j<=k - 3->cR (gU X A qual scope N' f c s H) (lmb scope N')) {e:Expr}{f:Dl.Env->Option (List D)}(h:Ei lam sc N T blk lmb e=some f):DF X e f:=by
 unfold Ei at h
 split at h
 ·obtain⟨x,hx,rfl⟩:=ag h;exact OH (cB O hx)
 ·rename_i elt gens scope ps
  match gens,h with
  | [⟨tg,iter,ifs,as⟩],h =>
   obtain⟨rfl,q⟩:=uR C B O OB h
   exact q.df C.calm
 ·split at h
  ·obtain⟨x,hx,h⟩:=bs h
   obtain⟨y,hy,rfl⟩:=ag h
   exact Oj (O.f _ _ hx) (O.e _ _ hy)
  ·cases h
 ·obtain⟨x,hx,h⟩:=bs h
  obtain⟨y,hy,rfl⟩:=ag h
  exact Nn (O.e _ _ hx) (O.e _ _ hy)
 ·split at h
  ·rename_i hk
   rw[zF] at hk
   have e1:=eq_of_beq hk.1
   have e2:=eq_of_beq hk.2
   subst e1 e2
   split at h
   ·cases h;exact CQ C B hlam O OL ‹_›
   ·exact Cd C B hlam O OL h
  ·cases h
 ·split at h
  ·rename_i hg
   rw[zF,yP] at hg
   split at h
   ·rename_i hx
    subst hx
    obtain⟨x,hx,rfl⟩:=ag h
    exact Ly (C.blt B hg.1 (by decide +kernel) LL) (cB O hx) (bz hg.2)
   ·split at h
    ·rename_i hx
     subst hx
     obtain⟨x,hx,rfl⟩:=ag h
     exact ET (C.blt B hg.1 (by decide +kernel) oS) (cB O hx) (bz hg.2)
    ·cases h
  ·cases h
 ·cases h
theorem Lk{lam:Option Str}(C:Bk X N sc k)(B:Bn X)(O:cR X T){blk lmb:Scope->List Str->Tr}(OB:∀scope N' fp s H,Bk (bc X scope N' fp s H) N' scope k->cR (bc X scope N' fp s H) (blk scope N'))
  {elt:Expr}{gens:List Comprehension}{scope:Scope}{p:Pos}{f:Dl.Env->Option (List D)}(h:Ei lam sc N T blk lmb (.ListComp elt gens scope p)=some f):∃tg iter ifs,gens=[⟨tg,iter,ifs,0⟩]/\rP X tg iter ifs elt scope f:=by
 have h:yo sc N T blk elt gens scope=some f:=h
 match gens,h with
 | [⟨tg,iter,ifs,as⟩],h =>
  obtain⟨rfl,q⟩:=uR C B O OB h
  exact⟨tg,iter,ifs,rfl,q⟩
theorem Dj(n:Nat):∀ {lam:Option Str}{X:Cx}{N:List Str}{sc:Scope}{k:Nat},Bk X N sc k->O2 G X j->j<=k->(∀q,lam=some q->sU X q/\j+3<=k)->cR X (tr G n lam sc N):=by
 induction n with
 | zero=>intro lam X N sc k C g hjk hlam;exact⟨fun _ _ _ _ _ h=>(by cases h),fun _ _ h=>(by cases h),fun _ _ h=>(by cases h),fun _ _ h=>(by cases h)⟩
 | succ n ih =>
  intro lam X N sc k C g hjk hlam
  have O:=ih C g hjk hlam
  exact⟨fun elt gens scope p f h=>Lk (lam:=lam) (lmb:=tr G n none) (p:=p) C g.bn O (fun scope N' fp s H C'=>ih C' ⟨g.fn,g.int,g.bn⟩ hjk fun q z=>by cases z) h,fun e f h=>Gp C g hjk O h,
   fun e f h=>ID C g.bn hlam O (fun scope N' fp s H C'=>ih C' ⟨g.fn,g.int,g.bn⟩ hjk fun q z=>by cases z) (fun scope N' qual A f c s H C' hk=>ih C' ⟨g.fn,g.int,g.bn⟩ hk fun q z=>by cases z) h,
   fun e f h=>Io C O h⟩
end
def sH:Nat->Expr->List Str
 | 0,_=>[]
 | n+1,e=>match e with
  | .Name x _=>[x]
  | .UnaryOp _ a _=>sH n a
  | .BinOp a _ b _=>sH n a++sH n b
  | .BoolOp _ es _=>es.flatMap (sH n)
  | .Compare a _ cs _=>sH n a++cs.flatMap (sH n)
  | .IfExp c a b _=>sH n c++(sH n a++sH n b)
  | .Tuple es _ _=>es.flatMap (sH n)
  | .List es _=>es.flatMap (sH n)
  | .Subscript a b _=>sH n a++sH n b
  | .Slice lo hi st _=>(lo.toList++(hi.toList++st.toList)).flatMap (sH n)
  | .Call f args kws _=>sH n f++(args.flatMap (sH n)++kws.flatMap fun k=>sH n k.value)
  | .Attribute o _ _=>sH n o
  | .ListComp elt gens _ _=>sH n elt++gens.flatMap fun g=>sH n g.iter++g.ifs.flatMap (sH n)
  | .Lambda _ b _ _=>sH n b
  | _=>[]
def rT(N:List Str)(e:Expr):List Nat:=let ns:=sH 60 e;(List.range N.length).filter fun j=>match N[j]? with|some x=>ns.contains x|none=>false
abbrev GS:=ar->Option Out
def turns:Nat:=1000000
def Cp:Expr->Bool
 | .ListComp ..=>true
 | .SetComp ..=>true
 | .DictComp ..=>true
 | _=>false
def GF(sc:Scope)(N:List Str)(T:Tr)(x:Str)(px:Pos)(e:Expr):Option GS :=
 (N.idxOf? x).bind fun i=>if rl N sc i x=true then
  (if Ds e=true then (match e with
   | .ListComp _ _ scope lp =>
    if (decide (sc.names.lookup x=some .local)&&(px.line == lp.line&&!(scope.names.any fun (n,k)=>n == x&&(k == .local || k == .cell))))=true then (T.f e).map fun f=>bu i (rT N e) f
    else if decide (sc.names.lookup x=some .cell)=true then (T.f e).map fun f=>bu i (rT N e) f
    else if (px.line == lp.line)=false then (T.f e).map fun f=>bu i (rT N e) f
    else none
   | _=>(T.f e).map fun f=>bu i (rT N e) f)
  else if Cp e=false then (T.e e).map fun f=>aY i (rT N e) f else none) else none
def GZ(N:List Str)(sc:Scope)(T:Tr)(e:Expr):Option GS:=match e with
 | .Constant (.str _) _ _=>some du
 | .Call (.Attribute (.Name x _) m apos) args [] cpos =>
  (N.idxOf? x).bind fun i=>if (F3 N sc i x&&apos.endLine == cpos.line&&args.all fun e=>!isStar e)=true then
   (if m="append" then (match args with
    | [a]=>(T.e a).map fun f=>um i (rT N a) f
    | _=>none)
   else if m="extend" then (match args with
    | [a]=>(T.f a).map fun f=>Ew i (rT N a) f
    | _=>none)
   else if m="insert" then (match args with
    | [a,b]=>(T.e a).bind fun fk=>(T.e b).map fun f=>HY i (rT N b) fk f
    | _=>none)
   else none) else none
 | .Call (.Name _ _) _ _ _=>(T.e e).map cQ
 | _=>none
def RD(sc:Scope)(N:List Str)(tg:Expr):Option (ar->D->Option ar):=match tg with
 | .Name x _=>(N.idxOf? x).bind fun i=>if rl N sc i x=true then some (qt i) else none
 | .Tuple [.Name x _,.Name y _] _ _=>(N.idxOf? x).bind fun i=>(N.idxOf? y).bind fun j=>if (rl N sc i x&&rl N sc j y)=true then some (gJ i j) else none
 | _=>none
def Jj(sc:Scope)(N:List Str)(T:Tr)(x:Str)(kx e:Expr):Option GS :=
 (N.idxOf? x).bind fun i=>if (F3 N sc i x&&!zl kx)=true then (T.e kx).bind fun fk=>(T.e e).map fun f=>wq i (rT N e) fk f else none
def yh(sc:Scope)(N:List Str)(T:Tr)(x y z:Str)(e:Expr):Option GS :=
 (N.idxOf? x).bind fun i=>(N.idxOf? y).bind fun j=>(N.idxOf? z).bind fun l=>if (((rl N sc i x&&rl N sc j y)&&rl N sc l z)&&HI e)=true then (T.e e).map fun f=>oN i j l (rT N e) f else none
def pW(f:Stmt->Option GS):List Stmt->Option GS
 | []=>some du
 | [s]=>f s
 | s::r=>(f s).bind fun g=>(pW f r).map fun h=>ay g h
def uv(sc:Scope)(N:List Str)(T:Tr):Nat->Stmt->Option GS
 | 0,_=>none
 | n+1,st=>match st with
  | .Return (some e) _=>(T.e e).map aM
  | .If c a b _=>(T.t c).bind fun t=>(pW (uv sc N T n) a).bind fun g=>(pW (uv sc N T n) b).map fun h=>dW t g h
  | .Assign [.Name x px] e _=>GF sc N T x px e
  | .Assign [.Subscript (.Name x _) kx _] e _=>Jj sc N T x kx e
  | .Assign [.Tuple [.Name x _,.Name y _,.Name z _] _ _] e _=>yh sc N T x y z e
  | .For tg iter body [] _=>(QG sc T tg iter).bind fun fi=>(RD sc N tg).bind fun t=>(pW (uv sc N T n) body).map fun g=>ee (rT N iter) fi t g
  | .While c body [] _=>(T.t c).bind fun t=>(pW (uv sc N T n) body).map fun g=>O0 t g turns
  | .Expr e _=>GZ N sc T e
  | .Raise ..=>some PX
  | .Pass _=>some du
  | _=>none
section
variable {X:Cx}{N:List Str}{sc:Scope}{k:Nat}{T:Tr}{HF₀ H₀:Hp}{pos:Pos}
theorem gP{f:Stmt->Option GS}(H:∀s g,f s=some g->DS X HF₀ H₀ s g):∀ {l:List Stmt}{g:GS},pW f l=some g->D4 X HF₀ H₀ l g
 | [],g,h=>by cases h;exact Lq
 | [s],g,h=>Dr (H _ _ h)
 | s::t::r,g,h=>by
  unfold pW at h
  obtain⟨x,hx,h⟩:=bs h
  obtain⟨y,hy,rfl⟩:=ag h
  exact JG (H _ _ hx) (gP H hy)
theorem o5{e:Expr}{x:Str}{px:Pos}{line:Nat}{env:PySem.Env}(h:Cp e=false):swapsWith e (some (.Name x px)) line env=pure false:=by
 cases e<;>first|rfl|cases h
theorem HU(C:Bk X N sc k)(O:cR X T){x:Str}{px:Pos}{e:Expr}{g:GS}(h:GF sc N T x px e=some g):DS X HF₀ H₀ (.Assign [.Name x px] e pos) g:=by
 unfold GF at h
 obtain⟨i,hi,h⟩:=bs h
 split at h
 ·rename_i hloc
  obtain⟨z1,z2,z3,z4⟩:=C.loc hloc
  split at h
  ·split at h
   ·rename_i elt gens scope lp hl
    split at h
    ·rename_i hc
     rw[zF] at hc
     obtain⟨f,hf,rfl⟩:=ag h
     obtain⟨tg,iter,ifs,rfl,q⟩:=O.c _ _ _ _ _ hf
     obtain⟨N',t,cs,fi,tgt,tt,te,rfl,S,hd,hfold,hY⟩:=q.ex
     exact J8 i _ C.calm S hd hY z1 z2 (C.locl hc.1) (C.swap hc.1 hc.2) hfold
    ·split at h
     ·rename_i hc
      obtain⟨f,hf,rfl⟩:=ag h
      exact y0 i _ z1 z2 z3 (O.f _ _ hf) (C.noswap hc) z4
     ·split at h
      ·rename_i hc
       obtain⟨f,hf,rfl⟩:=ag h
       refine y0 i _ z1 z2 z3 (O.f _ _ hf) ?_ z4
       rw[sx,hc]
       simp
      ·cases h
   ·rename_i hl hn
    obtain⟨f,hf,rfl⟩:=ag h
    refine y0 i _ z1 z2 z3 (O.f _ _ hf) (o5 ?_) z4
    cases e<;>first|rfl|exact absurd rfl (hn _ _ _ _)|(rename_i hl _;cases hl;done)
  ·split at h
   ·rename_i hc
    obtain⟨f,hf,rfl⟩:=ag h
    exact N4 i _ z1 z2 z3 (O.e _ _ hf) (o5 hc) z4
   ·cases h
 ·cases h
theorem Ct{env:PySem.Env}{es:List Expr}{cpos:Pos}(h:(es.all fun e=>!isStar e)=true)(hl:es.length < 20):((backTo cpos (starEach es env)).all (fun x=>!x.1)&&(backToKw cpos (keywordEach [] env)).all (fun x=>x.1.isSome)&&decide (es.length+([]:List Keyword).length+(if ([]:List Keyword).isEmpty then 0 else 1) < 30))=true:=by
 have h1:(backTo cpos (starEach es env)).all (fun x=>!x.1)=true:=by
  have:=cq (pos:=cpos) (env:=env) h
  rw[List.all_eq_not_any_not]
  simpa using this
 rw[h1]
 simp[backToKw,keywordEach]
 omega
theorem GO(C:Bk X N sc k)(O:cR X T){e:Expr}{g:GS}(h:GZ N sc T e=some g):DS X HF₀ H₀ (.Expr e pos) g:=by
 unfold GZ at h
 split at h
 ·cases h;exact MD
 ·rename_i x px m apos args cpos
  replace h:=bs h
  obtain⟨i,hi,h⟩:=h
  split at h
  ·rename_i hv
   simp only[zF] at hv
   obtain⟨⟨hv,hline⟩,hs⟩:=hv
   obtain⟨z1,z2,z3,z4⟩:=C.vis hv
   split at h
   ·rename_i hm
    subst hm
    split at h
    ·obtain⟨f,hf,rfl⟩:=ag h
     exact EO i _ z1 z2 (O.e _ _ hf) z3 z4 (Ct hs (by simp)) hline (bz (by simpa using hs))
    ·cases h
   ·split at h
    ·rename_i hm
     subst hm
     split at h
     ·obtain⟨f,hf,rfl⟩:=ag h
      exact E9 i _ z1 z2 (O.f _ _ hf) z3 z4 (Ct hs (by simp)) hline (bz (by simpa using hs))
     ·cases h
    ·split at h
     ·rename_i hm
      subst hm
      split at h
      ·obtain⟨fk,hfk,h⟩:=bs h
       obtain⟨f,hf,rfl⟩:=ag h
       have hs':=hs
       simp only[xS,List.all_nil,Bool.and_true,zF,yP] at hs'
       exact FL i _ z1 z2 (O.e _ _ hfk) (O.e _ _ hf) z3 z4 (Ct hs (by simp)) hline (bz hs'.1) (bz hs'.2)
      ·cases h
     ·cases h
  ·cases h
 ·obtain⟨f,hf,rfl⟩:=ag h
  exact KH rfl (O.e _ _ hf)
 ·cases h
theorem NX(C:Bk X N sc k){tg:Expr}{t:ar->D->Option ar}(h:RD sc N tg=some t):QF X HF₀ H₀ tg t:=by
 unfold RD at h
 split at h
 ·obtain⟨i,hi,h⟩:=bs h
  split at h
  ·rename_i hl
   cases h
   have z:=C.loc hl
   exact IR i z.1 z.2.1 z.2.2.1 z.2.2.2
  ·cases h
 ·obtain⟨i,hi,h⟩:=bs h
  obtain⟨j,hj,h⟩:=bs h
  split at h
  ·rename_i hl
   rw[zF] at hl
   cases h
   have z:=C.loc hl.1
   have w:=C.loc hl.2
   exact Lw i j C.calm z.1 z.2.1 z.2.2.1 w.2.1 w.2.2.1 z.2.2.2 w.2.2.2
  ·cases h
 ·cases h
theorem BX(C:Bk X N sc k)(O:cR X T){x y z:Str}{px py pz pt:Pos}{m:Nat}{e:Expr}{g:GS}(h:yh sc N T x y z e=some g):DS X HF₀ H₀ (.Assign [.Tuple [.Name x px,.Name y py,.Name z pz] m pt] e pos) g:=by
 unfold yh at h
 obtain⟨i,hi,h⟩:=bs h
 obtain⟨j,hj,h⟩:=bs h
 obtain⟨l,hl',h⟩:=bs h
 split at h
 ·rename_i hl
  rw[zF,zF,zF] at hl
  obtain⟨f,hf,rfl⟩:=ag h
  have z:=C.loc hl.1.1.1
  have w:=C.loc hl.1.1.2
  have u:=C.loc hl.1.2
  exact Gd i j l _ C.calm z.1 z.2.1 z.2.2.1 w.2.1 w.2.2.1 u.2.1 u.2.2.1 hl.2 (O.e _ _ hf) z.2.2.2 w.2.2.2 u.2.2.2
 ·cases h
theorem Hy(C:Bk X N sc k)(O:cR X T){x:Str}{px spos:Pos}{kx e:Expr}{g:GS}(h:Jj sc N T x kx e=some g):DS X HF₀ H₀ (.Assign [.Subscript (.Name x px) kx spos] e pos) g:=by
 unfold Jj at h
 obtain⟨i,hi,h⟩:=bs h
 split at h
 ·rename_i hv
  simp only[zF,yP] at hv
  obtain⟨hv,hc⟩:=hv
  obtain⟨z1,z2,z3,z4⟩:=C.vis hv
  obtain⟨fk,hfk,h⟩:=bs h
  obtain⟨f,hf,rfl⟩:=ag h
  refine Jz i _ z1 z2 (O.e _ _ hfk) (O.e _ _ hf) z3 z4 (fun v=>?_) ?_ ?_ rfl
  ·cases kx<;>first|rfl|cases hc
  ·cases e<;>rfl
  ·rfl
 ·cases h
theorem sD(C:Bk X N sc k)(B:Bn X)(O:cR X T):∀ (n:Nat) {st:Stmt}{g:GS},uv sc N T n st=some g->DS X HF₀ H₀ st g
 | 0,st,g,h=>by cases h
 | n+1,st,g,h=>by
  have ih:=fun s g h=>sD C B O n (st:=s) (g:=g) h
  unfold uv at h
  split at h
  ·obtain⟨f,hf,rfl⟩:=ag h;exact Nc (O.e _ _ hf)
  ·obtain⟨t,ht,h⟩:=bs h
   obtain⟨a,ha,h⟩:=bs h
   obtain⟨b,hb,rfl⟩:=ag h
   exact Pw (O.t _ _ ht) (gP ih ha) (gP ih hb)
  ·exact HU C O h
  ·exact Hy C O h
  ·exact BX C O h
  ·obtain⟨fi,hfi,h⟩:=bs h
   obtain⟨t,ht,h⟩:=bs h
   obtain⟨b,hb,rfl⟩:=ag h
   obtain⟨hd,hfold⟩:=GR C B O hfi
   exact MW _ C.pass C.calm hd (NX C ht) (gP ih hb) hfold
  ·obtain⟨t,ht,h⟩:=bs h
   obtain⟨b,hb,rfl⟩:=ag h
   exact Gv _ C.pass (O.t _ _ ht) (gP ih hb)
  ·exact GO C O h
  ·cases h;exact Pv
  ·cases h;exact Kb
  ·cases h
end
section
variable {P:Program}{w:World}{K:W.Frag}{mg:Str->Option Value}{base:Heap}{j:Nat}
def iS(P:Program)(w:World)(K:W.Frag)(mg:Str->Option Value)(base:Heap)(j:Nat)(l:List (Str×Nat×(List D->Option D))):Prop:=∀x n m,l.lookup x=some (n,m)->eJ P w K mg base j x n m
def gq(mg:Str->Option Value)(l:List (Str×Int)):Prop:=∀x i,l.lookup x=some i->∃t,mg x=some (.int i t)
theorem bJ:iS P w K mg base j []:=fun _ _ _ h=>by cases h
theorem PB{x:Str}{n:Nat}{m:List D->Option D}{l:List (Str×Nat×(List D->Option D))}(F:eJ P w K mg base j x n m)(h:iS P w K mg base j l):iS P w K mg base j ((x,n,m)::l):=fun y n' m' e=>by
 rw[yA] at e
 cases q:y == x with
 | true=>rw[q] at e;cases e;rw[eq_of_beq q];exact F
 | false=>rw[q] at e;exact h y n' m' e
theorem bI:gq mg []:=fun _ _ h=>by cases h
theorem Gq{x:Str}{i:Int}{l:List (Str×Int)}(F:∃t,mg x=some (.int i t))(h:gq mg l):gq mg ((x,i)::l):=fun y i' e=>by
 rw[yA] at e
 cases q:y == x with
 | true=>rw[q] at e;cases e;rw[eq_of_beq q];exact F
 | false=>rw[q] at e;exact h y i' e
theorem Mb{X:Cx}{N:List Str}{st:Stmt}{g:ar->Option Out}{fs:List (Str×Nat×(List D->Option D))}{is:List (Str×Int)}{HF₀ H₀:Hp}(C:Bk X N (aj st) j)(B:Bn X)(hf:iS X.prog X.w X.K X.mg X.base j fs)(hi:gq X.mg is)
  (t:pW (uv (aj st) N (tr ⟨fs,is⟩ 40 none (aj st) N) 40) (bC st)=some g):D4 X HF₀ H₀ (bC st) g :=
 gP (fun s g h=>sD C B (Dj (G:=⟨fs,is⟩) 40 C ⟨hf,hi,B⟩ (yM j) fun q z=>by cases z) 40 h) t
theorem SC{x:Str}{st:Stmt}{ps N:List Str}{g:ar->Option Out}{fs:List (Str×Nat×(List D->Option D))}{is:List (Str×Int)}(D:bN K mg x st ps)(S:cT N ps (aj st))(B:∀x∈cg,mg x=none)(hf:iS P w K mg base j fs)(hi:gq mg is)
  (t:pW (uv (aj st) N (tr ⟨fs,is⟩ 40 none (aj st) N) 40) (bC st)=some g):eJ P w K mg base (j+1) x ps.length (bD g N.length):=by
 obtain⟨f,fd,hm,F,hb⟩:=D.ex
 exact R4 F S hb hm fun X hP hw hK hm' hb' C _ _ HF H=>by subst hP;subst hw;subst hK;subst hm';subst hb';exact Mb C B hf hi t
theorem SO{x q:Str}{st:Stmt}{ps N:List Str}{g:ar->Option Out}{fs:List (Str×Nat×(List D->Option D))}{is:List (Str×Int)}(D:KM K mg x st ps)(S:cT N ps (aj st))(B:∀x∈cg,mg x=none)(hf:iS P w K mg base j fs)(hi:gq mg is)
  (hq:x∈ku/\x++".<locals>."++"<lambda>"=q) (t:pW (uv (aj st) N (tr ⟨fs,is⟩ 40 (some q) (aj st) N) 40) (bC st)=some g):eJ P w K mg base (j+4) x ps.length (bD g N.length):=by
 obtain⟨f,fd,c,P',hm,F,hb,hc,hh⟩:=D.ex
 refine R4 (k:=j+3) F S hb hm fun X hP hw hK hm' hb' C h1 h2 HF H=>?_
 subst hP;subst hw;subst hK;subst hm';subst hb'
 have L:sU X q:=by
  refine⟨c,P',by rw[h1,hc],by rw[h2];exact hq.2,hh,fun HF tb=>?_⟩
  obtain⟨oc,od,kV,doc,pm,an,cdv,ct,osl,rfl,lk,_⟩:=F.ex
  have:=tb f oc od _ osl c P' lk hq.1 hc hh
  rw[<- hq.2]
  exact this
 exact gP (fun s g h=>sD C B (Dj (G:=⟨fs,is⟩) (j:=j) 40 C ⟨hf,hi,B⟩ (jV _ _) fun q' z=>by cases z;exact⟨L,yM _⟩) 40 h) t
end
abbrev tW(s:Stmt)(N:List Str)(S:Sg)(l:Option Str):Option GS:=pW (uv (aj s) N (tr S 40 l (aj s) N) 40) (bC s)
theorem O4{N P:List Str}{sc:Scope}(a:sc.kind=.function:=by rfl)(b:sc.isCoroutine=false:=by rfl)(c:sc.isGenerator=false:=by rfl)(d:N.Nodup:=by decide +kernel)(e:N.take P.length=P:=by rfl)(f:∀x∈P,sc.names.lookup x=some .local \/ sc.names.lookup x=some .cell:=by decide +kernel)(g:∀y∈sc.names,y.2≠.free:=by decide +kernel):cT N P sc:=⟨a,b,c,d,e,f,g⟩
section
variable {P:Program}{w:World}{K:W.Frag}{mg:Str->Option Value}{base:Heap}{i j:Nat}
theorem fm{x:Str}{n:Nat}{m:List D->Option D}{l:List (Str×Nat×(List D->Option D))}(F:eJ P w K mg base i x n m)(h:iS P w K mg base j l)(e:i<=j:=by decide):iS P w K mg base j ((x,n,m)::l):=PB (F.mono e) h
theorem jg{x:Str}{st:Stmt}{ps N:List Str}{g:ar->Option Out}{S:Sg}(D:bN K mg x st ps)(B:∀x∈cg,mg x=none)(hf:iS P w K mg base j S.fn)(hi:gq mg S.int)(t:tW st N S none=some g)(F:cT N ps (aj st):=by exact Rf.O4):eJ P w K mg base (j+1) x ps.length (bD g N.length):=SC D F B hf hi t
theorem SJ{x q:Str}{st:Stmt}{ps N:List Str}{g:ar->Option Out}{S:Sg}(D:KM K mg x st ps)(B:∀x∈cg,mg x=none)(hf:iS P w K mg base j S.fn)(hi:gq mg S.int)(t:tW st N S (some q)=some g)(F:cT N ps (aj st):=by exact Rf.O4)(hq:x∈ku/\x++".<locals>."++"<lambda>"=q:=by decide +kernel):eJ P w K mg base (j+4) x ps.length (bD g N.length):=SO D F B hf hi hq t
end
end Rf
namespace Ex
open PySem L2 PySem.Spec PyProof.Rows
theorem uu{P:Program}{w:World}{H:Hp}{h:Heap}{a:Addr}{o:HO}(x:eL P w H h a o):∃ob,h.get? a=some ob:=by
 cases o with
 | lst xs=>obtain⟨_,_,_,_,e⟩:=x;exact⟨_,e⟩
 | tup xs=>obtain⟨_,_,_,⟨_,e,_⟩,_⟩:=x;exact⟨_,e⟩
 | dK kvs=>obtain⟨_,_,_,_,o,_,_,e,_⟩:=x;exact⟨_,e⟩
 | dT kvs=>obtain⟨_,_,_,_,o,_,_,e,_⟩:=x;exact⟨_,e⟩
 | set S n=>obtain⟨o,_,_,_,e,_⟩:=x;exact⟨_,e⟩
 | ins C dx fs=>obtain⟨_,_,_,e,_⟩:=x;exact⟨_,e⟩
 | own y=>obtain⟨_,e⟩:=x;exact⟨_,e⟩
 | xd fs=>obtain⟨_,⟨_,_,_,e,_⟩,_⟩:=x;exact⟨_,e⟩
 | rng lo hi=>obtain⟨_,_,_,e⟩:=x;exact⟨_,e⟩
 | frz ob u=>obtain⟨e,_⟩:=x;exact⟨_,e⟩
 | tab q=>obtain⟨_,e,_⟩:=x;exact⟨_,e⟩
 | cod q=>obtain⟨_,_,_,_,e0,e,_⟩:=x;cases e0;exact⟨_,e⟩
 | met f y=>exact⟨_,(show h.get? a=some _ from x)⟩
 | ext φ=>obtain⟨_,⟨_,e⟩,_⟩:=x;exact⟨_,e⟩
structure FX(P:Program)(w:World)(l:List Env)(H:Hp)(s:Shared)(cls:Value)(ea:Addr)(H':Hp)(s':Shared):Prop where
 os:s'.os=s.os
 bare:AllBare s'.gens
 un:Un (ix l) [] H H' s.heap s'.heap
 hok:oC P w H' s'.heap
 fly:∃B a0,Heap.FlyingW B l ea cls a0 s'.heap/\∀b,b∉ix l->(H' b≠none\/∃o,s.heap.get? b=some o)->∃o,B.get? b=some o
def zg(P:Program)(w:World):FB:=fun l H s E e s'=>∃ea cls H',e=.ref ea/\FX P w l H s cls ea H' s'/\E cls none H'
section
variable {X:Cx}{pins:List (Addr×Obj)}{σ:L2.St}{H H':Hp}{s s':Shared}{cls:Value}{ea:Addr}
theorem Di{h':Heap}{B:Heap}{a0:Value}(I:Inv X pins σ H s)(hs:X.stack=X.env::X.outer)(hf:X.env.frame=some X.env.locals)(hex:X.ex=[])(hos:s'.os=s.os)(hbr:AllBare s'.gens)(hun:Un (ix X.stack) [] H H' s.heap s'.heap)(hok:oC X.prog X.w H' s'.heap)
  (hst:B.StaysIn s'.heap) (hff:s'.heap.FunFrames B X.stack) (hB:∀b,b∉ix X.stack->(H' b≠none\/∃o,s.heap.get? b=some o)->∃o,B.get? b=some o) (x1:Heap.FlyingW B X.outer ea cls a0 h') (x2:s'.heap.UpToSlots h') :
  FX X.prog X.w X.outer X.H₀ X.s₀ cls ea H' { s' with heap:=h' }:=by
 have nx:∀b:Addr,b∉X.ex:=fun b=>by rw[hex];simp
 have fs:ix X.stack=X.env.locals::ix X.outer:=by rw[hs];unfold ix;rw[jG,hf]
 have neL:∀b o,X.s₀.heap.get? b=some o->b≠X.env.locals:=fun b o e=>yR (zP (zX e) I.ok.above)
 have out:∀b o,X.s₀.heap.get? b=some o->b∉ix X.outer->b∉ix X.stack:=fun b o e hb z=>by
  rw[fs] at z
  rcases List.mem_cons.mp z with z|z
  ·exact neL b o e z
  ·exact hb z
 have stk:∀b∈ix X.stack,H' b=none:=fun b hb=>by
  obtain⟨_,o,ho,_⟩:=I.stack.mem hb
  exact hun.free b o ho (I.stkFree b hb) (by simp)
 have JR:∀b u,H' b≠none->s'.heap.get? b=some u->h'.get? b=some u:=fun b u hn e=>by
  obtain⟨o,eo⟩:=hB b (fun z=>hn (stk b z)) (.inl hn)
  have:=hst b o eo
  rw[e] at this
  cases this
  exact x1.1 b u eo
 have old:∀b o o2,b∉ix X.stack->s.heap.get? b=some o->s'.heap.get? b=some o2->h'.get? b=some o2:=fun b o o2 hb e e2=>by
  obtain⟨o3,eo⟩:=hB b hb (.inr ⟨o,e⟩)
  have:=hst b o3 eo
  rw[e2] at this
  cases this
  exact x1.1 b o2 eo
 have inO:∀b,b∈ix X.outer->b∈ix X.stack:=fun b hb=>by rw[fs];exact zC _ hb
 have slotS:∀b∈ix X.outer,∀o,s'.heap.get? b=some o->∃sl,h'.get? b=some { o with slots:=sl }:=fun b hb o e=>by
  obtain⟨_,o2,e2,d2⟩:=hff.mem (inO b hb)
  rw[e] at e2
  cases e2
  exact x2 b o e d2
 refine⟨hos.trans I.os,hbr,⟨fun b o e n hb _=>?_,fun b o e n hb _=>?_,fun b o e n _=>?_,fun b o e _=>?_,fun b xs e=>hun.tups b xs (I.base.tups b xs e),fun b o u e=>hun.frzs b o u (I.base.frzs b o u e),?_⟩,fun a o e=>?_,B,a0,x1,fun b hb hh=>?_⟩
 ·have e1:=I.base.keep b o e n hb (nx b)
  have n1:=I.base.free b o e n (nx b)
  have hb':=out b o e hb
  exact old b o o hb' e1 (hun.keep b o e1 n1 hb' (by simp))
 ·obtain⟨sl,e1⟩:=I.base.slot b o e n hb (nx b)
  have n1:=I.base.free b o e n (nx b)
  obtain⟨sl2,e2⟩:=hun.slot b _ e1 n1 (inO b hb) (by simp)
  obtain⟨sl3,e3⟩:=slotS b hb _ e2
  exact⟨sl3,e3⟩
 ·obtain⟨o1,e1⟩:=I.base.there b o e (nx b)
  exact hun.free b o1 e1 (I.base.free b o e n (nx b)) (by simp)
 ·obtain⟨o1,e1⟩:=I.base.there b o e (nx b)
  obtain⟨o2,e2⟩:=hun.there b o1 e1 (by simp)
  by_cases hb:b∈ix X.outer
  ·obtain⟨sl,e3⟩:=slotS b hb o2 e2
   exact⟨_,e3⟩
  ·exact⟨o2,old b o1 o2 (out b o e hb) e1 e2⟩
 ·exact I.base.tbls.trans (hun.tbls.trans (.kept (fun b u ⟨q,z⟩ e=>JR b u (by rw[z];simp) e) fun _ _ e _=>e))
 ·refine (hok a o e).stay (fun b u hb q=>JR b u ?_ q) (fun _ q=>q) fun _ _ q _=>q
  rcases hb with rfl|z
  ·rw[e];simp
  ·rw[z];simp
 ·refine hB b (fun z=>?_) (hh.imp id fun ⟨o,e⟩=>I.base.there b o e (nx b))
  rw[fs] at z
  rcases List.mem_cons.mp z with z|z
  ·subst z
   rcases hh with hn|⟨o,e⟩
   ·exact hn (stk _ (by rw[fs];exact zE))
   ·exact neL _ o e rfl
  ·exact hb z
theorem Qs{E E':XK}(hs:X.stack=X.env::X.outer)(hf:X.env.frame=some X.env.locals)(hex:X.ex=[])
  (hxe:∀e s',wpAny (model X.prog X.w) X.A (leaving X.env e) (fun _ s''=>zg X.prog X.w X.outer X.H₀ X.s₀ E' e s'') (fun _ _=>False) s'->X.xe e s') (hE:∀cls H',E cls none H'->E' cls none H'):eh (zg X.prog X.w) X E:=by
 intro pins σ H s e s' I h
 obtain⟨ea,cls,H',rfl,F,hc⟩:=h
 obtain⟨B,a0,hfl,hB⟩:=F.fly
 refine hxe _ _ ?_
 refine wpAny_leaves_onW (base:=B) (a0:=a0) (cls:=cls) (by rw[I.ok.frames,hs]) hf (by rw[<- hs];exact hfl) fun h' x1 x2=>⟨ea,cls,H',rfl,Di I hs hf hex F.os F.bare F.un F.hok hfl.1 hfl.2.2.1 hB x1 x2,hE _ _ hc⟩
theorem B4{E':XK}{args:List Value}(I:Inv X pins σ H s)(hs:X.stack=X.env::X.outer)(hf:X.env.frame=some X.env.locals)(hex:X.ex=[])
  (hxe:∀e s',wpAny (model X.prog X.w) X.A (leaving X.env e) (fun _ s''=>zg X.prog X.w X.outer X.H₀ X.s₀ E' e s'') (fun _ _=>False) s'->X.xe e s') (hm:Heap.MadeExcOf s.heap s'.heap ea cls args) (ho:s'.os=s.os) (hg:AllBare s'.gens) (hE:E' cls none H):X.xe (.ref ea) s':=by
 have fs:ix X.stack=X.env.locals::ix X.outer:=by rw[hs];unfold ix;rw[jG,hf]
 have hfun:=I.stack
 refine hxe _ _ ?_
 have hin:∀env∈X.stack,∀b,env.frame=some b->b∈ix X.stack:=fun env he b hb=>List.mem_filterMap.mpr ⟨env,he,hb⟩
 refine wpAny_leaves_madeW (base:=W.hideAll s.heap (ix X.stack)) (h:=s.heap) (cls:=cls) (args:=args) (by rw[I.ok.frames,hs]) hf (fun b o q=>W.of_hideAll _ q) (by rw[<- hs];exact W.funFrames_hide hfun hin) hm fun h' t x1 x2 x3 x4=>⟨ea,cls,H,rfl,?_,hE⟩
 refine Di I hs hf hex ho hg (Un.kept hm.keeps) (I.hok.kept hm.keeps) (fun b o q=>hm.keeps b o (W.of_hideAll _ q)) ((W.funFrames_hide hfun hin).of_keeps fun b o q _=>⟨o,hm.keeps b o q,rfl⟩) (fun b hb hh=>?_) x1 x4
 have ⟨o,e⟩:∃o,s.heap.get? b=some o:=by
  rcases hh with hn|h
  ·obtain⟨u,hu⟩:=Option.ne_none_iff_exists'.mp hn
   exact uu (I.hok b u hu)
  ·exact h
 exact⟨o,W.hideAll_get _ e hb⟩
end
abbrev Ot:List Value:=[.type "ValueError",.type "Exception",.type "BaseException",.type "object"]
theorem Le{K:W.Frag}{h:Heap}{C:Addr}(X:K.In h)(q:W.excIn K C Ot "ValueError.__new__"=true) :
  ∃bm N nm qn bs hd sn sub ab col dd k0 k1 k2 k3 k5 mN,h.get? C=some (excClassObj nm qn C N bs bm hd sn sub ab col dd k0 k1 k2 k3 k5 "ValueError.__new__")/\h.Ns N mN/\mN "__init__"=none/\OwnTail h Ot bm:=by
 unfold W.excIn at q
 split at q
 ·rename_i dd cd sl ho
  split at q
  ·rename_i C' bm k0 k1 k2 k3 n k5 hm hsl
   simp only[zF,vM,yP] at q
   obtain⟨⟨⟨⟨⟨rfl,rfl⟩,hdel⟩,ht⟩,hok⟩,hni⟩:=q
   cases cd with
   | mk nm bs mro ns qn hd sn sub ab col del =>
    simp only at hm hdel hok hni
    subst hm hdel
    cases sl with
    | mk l =>
     simp only at hsl
     subst hsl
     exact⟨bm,ns,nm,qn,bs,hd,sn,sub,ab,col,dd,k0,k1,k2,k3,k5,_,X _ _ ho,.of_isNs (W.isNs_of_in X hok),W.nsMap_none_of_in X hok hni,W.tail_of_in X ht⟩
  ·cases q
 ·cases q
section
variable {X:Cx}{pins:List (Addr×Obj)}{σ:L2.St}{H:Hp}{s:Shared}
theorem GI{E':XK}{Q:Flow->Shared->Prop}{x:Str}{C:Addr}{np cpos pos p:Pos}{t:Str}{i:Nat}(I:Inv X pins σ H s)(hc:X.calm=true)(hg:Gl X x)(hm:X.mg x=some (.ref C))(q:W.excIn X.K C Ot "ValueError.__new__"=true)
  (hs:X.stack=X.env::X.outer) (hf:X.env.frame=some X.env.locals) (hex:X.ex=[])
  (hxe:∀e s',wpAny (model X.prog X.w) X.A (leaving X.env e) (fun _ s''=>zg X.prog X.w X.outer X.H₀ X.s₀ E' e s'') (fun _ _=>False) s'->X.xe e s') (hE:E' (.ref C) none H) (hdb:(x == ("__debug__":Str))=false) :
  wpAny (model X.prog X.w) X.A (exec (.Raise (some (.Call (.Name x np) [.Constant (.str t) i p] [] cpos)) none pos) X.env) Q X.xe s:=by
 obtain⟨bm,N,nm,qn,bs,hd,sn,sub,ab,col,dd,k0,k1,k2,k3,k5,mN,hC,hN,hni,T⟩:=Le I.kIn q
 refine wpAny_Raise_call_subT (C:=C) (nm:=nm) (q:=qn) (N:=N) (bs:=bs) (bm:=bm) (hdct:=hd) (sn:=sn) (sub:=sub) (ab:=ab) (col:=col) (dd:=dd) (k0:=k0) (k1:=k1) (k2:=k2) (k3:=k3) (k5:=k5)
  F.excBase_ValueError (mN:=mN) (T.hasType F.excBase_ValueError.hasBase) (I.ok.hd hc) rfl hni (ma I hg hm ⟨rfl,?_⟩ hdb)
 refine Calls.evalArgs_plain (jJ (wR (k:=i) (pos:=p) (kJ ⟨rfl,?_,hC,hN,T,fun h' e hme=>?_⟩)))
 ·exact yC (show 1<=4000 by omega) (by decide)
 ·exact B4 (s:={ s with toks:=s.toks+1 }) (I.tok _) hs hf hex hxe hme rfl I.bare hE
end
open PySem L2 Dl PySem.Spec PyProof.Rows
def Q8(K:W.Frag)(mg:Str->Option Value)(n:Nat)(xm:List D->Option Str):Sp:=fun vs H _ E=>∃HF ds c C,aW HF H/\eX K HF/\aw K HF ds vs/\ds.length=n/\xm ds=some c/\mg c=some (.ref C)/\∀H' HF',bF HF H HF' H'->E (.ref C) none H'
structure tj(P:Program)(w:World)(K:W.Frag)(mg:Str->Option Value)(base:Heap)(k:Nat)(x:Str)(n:Nat)(xm:List D->Option Str):Prop where
 ex:∃ (f:Addr) (fd:FuncData) (ps:List Str),ni P w K mg base (zg P w) k f fd ps (Q8 K mg n xm)/\mg x=some (.ref f)/\W.keepIn K (.ref f)=true/\Binds K fd ps []
theorem tj.mono{P:Program}{w:World}{K:W.Frag}{mg:Str->Option Value}{base:Heap}{k j:Nat}{x:Str}{n:Nat}{xm:List D->Option Str}(F:tj P w K mg base k x n xm)(h:k<=j):tj P w K mg base j x n xm:=by
 obtain⟨f,fd,ps,a,b,c,d⟩:=F.ex
 exact⟨f,fd,ps,a.mono h,b,c,d⟩
structure Xk(X:Cx)(E:XK):Prop where
 hs:X.stack=X.env::X.outer
 hf:X.env.frame=some X.env.locals
 hex:X.ex=[]
 hxe:∀e s',wpAny (model X.prog X.w) X.A (leaving X.env e) (fun _ s''=>zg X.prog X.w X.outer X.H₀ X.s₀ E e s'') (fun _ _=>False) s'->X.xe e s'
theorem Xk.pass{X:Cx}{E:XK}(hx:Xk X E):eh (zg X.prog X.w) X E:=Qs hx.hs hx.hf hx.hex hx.hxe fun _ _ h=>h
section
variable {X:Cx}{E:XK}{HF₀ H₀:Hp}
def Sl(K:W.Frag)(mg:Str->Option Value)(E:XK)(xf:Dl.Env->Option Str):TE:=fun σ H _=>∃HF ρ c C,aW HF H/\cS K HF ρ σ/\xf ρ=some c/\mg c=some (.ref C)/\∀H' HF',bF HF H HF' H'->E (.ref C) none H'
def F8(X:Cx)(E:XK)(e:Expr)(xf:Dl.Env->Option Str):Prop:=PE X e (Sl X.K X.mg E xf)
def tX(K:W.Frag)(mg:Str->Option Value)(HF₀ H₀:Hp)(E:XK)(xg:ar->Option Str):TS:=fun _ σ H=>∃HF ρ c C,j4 K HF₀ H₀ HF H ρ σ/\xg ρ=some c/\mg c=some (.ref C)/\∀H' HF',bF HF₀ H₀ HF' H'->E (.ref C) none H'
def DX(X:Cx)(E:XK)(HF₀ H₀:Hp)(st:Stmt)(xg:ar->Option Str):Prop:=PS X st (tX X.K X.mg HF₀ H₀ E xg)
def Fo(X:Cx)(E:XK)(HF₀ H₀:Hp)(st:List Stmt)(xg:ar->Option Str):Prop:=yp X st (tX X.K X.mg HF₀ H₀ E xg)
theorem Ib{es:List Expr}{t:TA}(h:PA X.nox es t):PA X es t:=fun pos pins s σ H Q I hw =>
 xA (h pos pins s σ H Q (I.wish _) hw) (fun _ _ ⟨v,H',I',r,q⟩=>⟨v,H',I'.unwish,r,q⟩) fun _ _ z=>False.elim z
theorem Nk{st:Stmt}{t:TS}(h:PS X.nox st t):PS X st t:=fun pins s σ H D I hw =>
 xA (h pins s σ H D (I.wish _) hw) (fun _ _ q=>q.unwish) fun _ _ z=>False.elim z
def mh(n:Nat)(xm:List D->Option Str)(fs:Dl.Env->Option (List D)):Dl.Env->Option Str:=fun ρ=>(fs ρ).bind fun ds=>if ds.length=n then xm ds else none
theorem KW{k n:Nat}{xm:List D->Option Str}{x:Str}{e:Expr}{es:List Expr}{fs:Dl.Env->Option (List D)}{p pos:Pos}(F:tj X.prog X.w X.K X.mg X.base k x n xm)(hr:dS k X.A)(hx:eh (zg X.prog X.w) X E)(hg:Gl X x)(ha:DA X.nox (e::es) fs)(hdb:(x == ("__debug__":Str))=false:=by decide)
  (he:starEach (e::es) X.env=(false,eval e X.env)::starEach es X.env:=by rfl) (hpl:(backTo pos (starEach es X.env)).any (·.1)=false:=by rfl):F8 X E (.Call (.Name x p) (e::es) [] pos) (mh n xm fs):=by
 obtain⟨f,fd,ps,ok,hm,hk,hb⟩:=F.ex
 refine bf (DP (E:=E) ok hr hg hm hk hb .nil hx (Ib ha) hdb he hpl) fun σ H Q ⟨HF,ρ,c,C,sm,eo,hf,hc,q⟩=>?_
 obtain⟨ds,hds,hf⟩:=bs hf
 split at hf
 ·rename_i hl
  exact⟨HF,ρ,ds,sm,eo,hds,fun vs H1 HF1 g1 r1=>⟨HF1,ds,c,C,g1.fh,eo.tb.mono g1.ff,by rw[qF];exact r1,hl,hf,hc,fun H' HF' g=>q H' HF' (g1.trans g)⟩⟩
 ·cases hf
def BL(t:Dl.Env->Option Bool)(xa xb:Dl.Env->Option Str):Dl.Env->Option Str:=fun ρ=>(t ρ).bind fun b=>if b=true then xa ρ else xb ρ
theorem Qi{c a b:Expr}{pos:Pos}{t:Dl.Env->Option Bool}{xa xb:Dl.Env->Option Str}(hc:DT X.nox c t)(ha:F8 X E a xa)(hb:F8 X E b xb):F8 X E (.IfExp c a b pos) (BL t xa xb) :=
 bf (Ak (PT.nox hc) ha hb) fun σ H Q ⟨HF,ρ,c,C,sm,eo,hf,hc,q⟩=>by
  obtain⟨b,h,hf⟩:=bs hf
  refine⟨HF,ρ,b,sm,eo,h,fun H' HF' G=>?_⟩
  cases b with
  | true=>exact tG ⟨HF',ρ,c,C,G.fh,eo.mono G.ff,hf,hc,fun H2 HF2 G2=>q H2 HF2 (G.trans G2)⟩
  | false=>exact p9 ⟨HF',ρ,c,C,G.fh,eo.mono G.ff,hf,hc,fun H2 HF2 G2=>q H2 HF2 (G.trans G2)⟩
theorem Ht{xf:Dl.Env->Option Str}{K:W.Frag}{mg:Str->Option Value}{D:Ends}{σ:L2.St}{H:Hp}{Q:VK}(h:tX K mg HF₀ H₀ E (fun ρ=>xf (aJ ρ)) D σ H):Sl K mg E xf σ H Q:=by
 obtain⟨HF,ρ,c,C,S,hx,hc,q⟩:=h
 exact⟨H,aJ ρ,c,C,.refl _,S.all,hx,hc,fun H' HF' G=>q H' HF (S.step G.hh).gr⟩
theorem Om{e:Expr}{pos:Pos}{xf:Dl.Env->Option Str}(h:F8 X E e xf)(hs:swapsWith e none pos.line X.env=pure false:=by rfl):DX X E HF₀ H₀ (.Expr e pos) (fun ρ=>xf (aJ ρ)):=cD (nu h hs) fun D σ H q=>Ht q
theorem Nj{e:Expr}{pos:Pos}{xf:Dl.Env->Option Str}(h:F8 X E e xf):DX X E HF₀ H₀ (.Return (some e) pos) (fun ρ=>xf (aJ ρ)):=cD (CJ h) fun D σ H q=>Ht q
theorem sP{st:Stmt}{rest:List Stmt}{xg:ar->Option Str}(h:DX X E HF₀ H₀ st xg):Fo X E HF₀ H₀ (st::rest) xg:=fun pins s σ H D I q=>by
 refine vG (cx (h pins s σ H ⟨fun _ _=>False,fun _ _=>False,fun _ _=>False,fun _ _=>False⟩ I q) fun f s1 z=>?_)
 cases f with
 | next=>obtain⟨_,_,_,z⟩:=z;exact z.elim
 | brk=>obtain⟨_,_,_,z⟩:=z;exact z.elim
 | cont=>obtain⟨_,_,_,z⟩:=z;exact z.elim
 | ret u=>obtain⟨_,_,_,_,_,z⟩:=z;exact z.elim
def II(g:ar->Option Out)(xg:ar->Option Str):ar->Option Str:=fun ρ=>(g ρ).bind fun o=>match o with|.nx ρ'=>xg ρ'|.rt _=>none
theorem Ah{st:Stmt}{rest:List Stmt}{g:ar->Option Out}{xg:ar->Option Str}(h:DS X.nox HF₀ H₀ st g)(hr:Fo X E HF₀ H₀ rest xg):Fo X E HF₀ H₀ (st::rest) (II g xg) :=
 qf (iU (Nk h) hr) fun D σ H ⟨HF,ρ,c,C,S,hx,hc,q⟩=>by
  obtain⟨o,ho,hx⟩:=bs hx
  cases o with
  | rt d=>cases hx
  | nx ρ'=>exact⟨HF,ρ,.nx ρ',S,ho,fun σ' H' HF' S' _=>⟨HF',ρ',c,C,S',hx,hc,q⟩⟩
def F9(t:Dl.Env->Option Bool)(xa xb:ar->Option Str):ar->Option Str:=fun ρ=>(t (aJ ρ)).bind fun b=>if b=true then xa ρ else xb ρ
theorem Pp{c:Expr}{a b:List Stmt}{pos:Pos}{t:Dl.Env->Option Bool}{xa xb:ar->Option Str}(hc:DT X.nox c t)(ha:Fo X E HF₀ H₀ a xa)(hb:Fo X E HF₀ H₀ b xb):DX X E HF₀ H₀ (.If c a b pos) (F9 t xa xb) :=
 cD (Ha (PT.nox hc) ha hb) fun D σ H ⟨HF,ρ,c,C,S,hx,hc,q⟩=>by
  obtain⟨b,h,hx⟩:=bs hx
  refine⟨H,aJ ρ,b,.refl _,S.all,h,fun H' HF' G=>?_⟩
  cases b with
  | true=>exact tG ⟨HF,ρ,c,C,S.step G.hh,hx,hc,q⟩
  | false=>exact p9 ⟨HF,ρ,c,C,S.step G.hh,hx,hc,q⟩
theorem Iy{x:Str}{C:Addr}{np cpos pos p:Pos}{t:Str}{i:Nat}(hk:Xk X E)(hc:X.calm=true)(hg:Gl X x)(hm:X.mg x=some (.ref C))(q:W.excIn X.K C Ot "ValueError.__new__"=true)(hdb:(x == ("__debug__":Str))=false:=by decide) :
  DX X E HF₀ H₀ (.Raise (some (.Call (.Name x np) [.Constant (.str t) i p] [] cpos)) none pos) (fun _=>some x):=fun pins s σ H D I ⟨HF,ρ,c,C',S,hx,hc',z⟩=>by
 cases hx
 rw[hm] at hc'
 cases hc'
 exact GI I hc hg hm q hk.hs hk.hf hk.hex hk.hxe (z H HF S.gr) hdb
end
def nF(xg:ar->Option Str)(n:Nat)(args:List D):Option Str:=xg (args.map Slot.val++List.replicate (n - args.length) .non)
theorem Bt{K:W.Frag}{HF H:Hp}{ds:List D}{vs:List V}{N:List Str}(sm:aW HF H)(tb:eX K HF)(rr:aw K HF ds vs):j4 K HF H HF H (ds.map Slot.val++List.replicate (N.length - ds.length) .non) (L2.start N vs):=by
 refine⟨.refl sm,fun i e h=>?_,fun i es h=>?_,fun i j es fs a h=>?_,?_,tb⟩
 ·have hi:i < ds.length:=by
   by_cases hi:i < ds.length
   ·exact hi
   ·rw[yT (by simpa using hi),yX] at h
    split at h<;>cases h
  rw[yS (by simpa using hi),zO] at h
  obtain⟨d',hd',h⟩:=ag h
  cases h
  obtain⟨v,hv,rv⟩:=rr.getD hd'
  refine⟨v,?_,rv⟩
  unfold L2.start
  rw[yS (by simpa [rr.length] using hi),zO,hv]
  rfl
 ·exfalso
  by_cases hi:i < ds.length
  ·rw[yS (by simpa using hi),zO] at h
   obtain⟨d',hd',h⟩:=ag h
   cases h
  ·rw[yT (by simpa using hi),yX] at h
   split at h<;>cases h
 ·exfalso
  by_cases hi:i < ds.length
  ·rw[yS (by simpa using hi),zO] at h
   obtain⟨d',hd',h⟩:=ag h
   cases h
  ·rw[yT (by simpa using hi),yX] at h
   split at h<;>cases h
 ·unfold L2.start
  rw[zN,zN,zD,zD,xM,xM,rr.length]
  exact yM _
theorem fnX{P:Program}{w:World}{K:W.Frag}{mg:Str->Option Value}{base:Heap}{k:Nat}{N:List Str}{x qual:Str}{st:Stmt}{f:Addr}{fd:FuncData}{ps:List Str}{xg:ar->Option Str}(F:GK K x qual st f fd)(S:cT N ps (aj st))(hb:Binds K fd ps [])(hm:mg x=some (.ref f))
  (body:∀ (X:Cx) (E:XK),X.prog=P->X.w=w->X.K=K->X.mg=mg->X.base=base->Bk X.nox N (aj st) k->X.calm=true->Xk X E->∀HF₀ H₀,Fo X E HF₀ H₀ (bC st) xg):tj P w K mg base (k+1) x ps.length (nF xg N.length):=by
 refine⟨f,fd,ps,?_,hm,F.kp,hb⟩
 obtain⟨oc,od,kV,doc,pm,an,cdv,ct,osl,rfl,lk,hcd⟩:=F.ex
 refine Jk lk hcd S (fun vs H Q E ⟨HF,ds,c,C,h1,_,h2,h3,_⟩=>by rw[h2.length,h3]) fun A outer s H vs Q E hr ⟨HF,ds,c,C,sm,tb,rr,hl,hd,hc,q⟩=>?_
 refine⟨_,body (sF (zg P w) P w K mg base N qual (aj st) f cdv A outer s H E) E rfl rfl rfl rfl rfl ⟨rfl,S.nd,fun y kd hy=>.inl hy,rfl,fun _ _=>rfl,hr,rfl,S.kind⟩ rfl ⟨rfl,rfl,rfl,fun e s' z=>xA z (fun _ _ h=>h) fun _ _ h=>h.elim⟩ HF H,?_⟩
 exact⟨HF,_,c,C,Bt sm tb rr,hd,hc,q⟩
section
variable {X:Cx}{pins:List (Addr×Obj)}{σ:L2.St}{H H':Hp}{s s':Shared}{cls:Value}{ea:Addr}
theorem HV{h':Heap}{B:Heap}(I:Inv X pins σ H s)(hun:Un (ix X.stack) [] H H' s.heap s'.heap)(hok:oC X.prog X.w H' s'.heap)
  (hst:B.StaysIn s'.heap) (hff:s'.heap.FunFrames B X.stack) (hB:∀b,b∉ix X.stack->(H' b≠none\/∃o,s.heap.get? b=some o)->∃o,B.get? b=some o) (x1:B.StaysIn h') (x2:s'.heap.UpToSlots h') :
  Un (ix X.stack) [] H H' s.heap h'/\oC X.prog X.w H' h':=by
 have stk:∀b∈ix X.stack,H' b=none:=fun b hb=>by
  obtain⟨_,o,ho,_⟩:=I.stack.mem hb
  exact hun.free b o ho (I.stkFree b hb) (by simp)
 have JR:∀b u,H' b≠none->s'.heap.get? b=some u->h'.get? b=some u:=fun b u hn e=>by
  obtain⟨o,eo⟩:=hB b (fun z=>hn (stk b z)) (.inl hn)
  have:=hst b o eo
  rw[e] at this
  cases this
  exact x1 b u eo
 have old:∀b o o2,b∉ix X.stack->s.heap.get? b=some o->s'.heap.get? b=some o2->h'.get? b=some o2:=fun b o o2 hb e e2=>by
  obtain⟨o3,eo⟩:=hB b hb (.inr ⟨o,e⟩)
  have:=hst b o3 eo
  rw[e2] at this
  cases this
  exact x1 b o2 eo
 have slotS:∀b∈ix X.stack,∀o,s'.heap.get? b=some o->∃sl,h'.get? b=some { o with slots:=sl }:=fun b hb o e=>by
  obtain⟨_,o2,e2,d2⟩:=hff.mem hb
  rw[e] at e2
  cases e2
  exact x2 b o e d2
 refine⟨⟨fun b o e n hb _=>?_,fun b o e n hb _=>?_,fun b o e n _=>hun.free b o e n (by simp),fun b o e _=>?_,hun.tups,hun.frzs,?_⟩,fun a o e=>?_⟩
 ·exact old b o o hb e (hun.keep b o e n hb (by simp))
 ·obtain⟨sl2,e2⟩:=hun.slot b o e n hb (by simp)
  obtain⟨sl3,e3⟩:=slotS b hb _ e2
  exact⟨sl3,e3⟩
 ·obtain⟨o2,e2⟩:=hun.there b o e (by simp)
  by_cases hb:b∈ix X.stack
  ·obtain⟨sl,e3⟩:=slotS b hb o2 e2
   exact⟨_,e3⟩
  ·exact⟨o2,old b o o2 hb e e2⟩
 ·exact hun.tbls.trans (.kept (fun b u ⟨q,z⟩ e=>JR b u (by rw[z];simp) e) fun _ _ e _=>e)
 ·refine (hok a o e).stay (fun b u hb q=>JR b u ?_ q) (fun _ q=>q) fun _ _ q _=>q
  rcases hb with rfl|z
  ·rw[e];simp
  ·rw[z];simp
theorem FX.inv(I:Inv X pins σ H s)(F:FX X.prog X.w X.stack H s cls ea H' s'):Inv X pins σ H' s':=I.call' F.os F.un F.hok F.bare (fun b hb=>absurd hb (by simp))
theorem FX.stay{h' B:Heap}{a0:Value}(I:Inv X pins σ H s)(F:FX X.prog X.w X.stack H s cls ea H' s')(hfl:Heap.FlyingW B X.stack ea cls a0 s'.heap)(hB:∀b,b∉ix X.stack->(H' b≠none\/∃o,s.heap.get? b=some o)->∃o,B.get? b=some o)
  (x1:Heap.FlyingW B X.stack ea cls a0 h') (x2:s'.heap.UpToSlots h'):FX X.prog X.w X.stack H s cls ea H' { s' with heap:=h' }:=by
 obtain⟨u,k⟩:=HV I F.un F.hok hfl.1 hfl.2.2.1 hB x1.1 x2
 exact⟨F.os,F.bare,u,k,B,a0,x1,hB⟩
theorem land{M:Model}{E:Value->Shared->Prop}{Q:Unit->Shared->Prop}(I:Inv X pins σ H s)(hs:X.stack=X.env::X.outer)(hf:X.env.frame=some X.env.locals)(F:FX X.prog X.w X.stack H s cls ea H' s')
  (k:∀h',FX X.prog X.w X.stack H s cls ea H' { s' with heap:=h' }->Q () { s' with heap:=h' }) :
  wpAny M X.A (noteFrame (.ref ea) X.env) (fun _ s2=>wpAny M X.A (setFlight (.ref ea) none) Q E s2) E s':=by
 obtain⟨B,a0,hfl,hB⟩:=F.fly
 refine wpAny_looks_onW (base:=B) (a0:=a0) (cls:=cls) (by rw[I.ok.frames,hs]) hf (by rw[<- hs];exact hfl) fun h4 hh x2=>?_
 refine wpAny_landsW (s:={ s' with heap:=h4 }) hh fun h5 y1 y2=>k h5 ?_
 exact F.stay I hfl hB (by rw[hs];exact y1) (x2.trans y2)
theorem again{M:Model}{A:Around}{E:Value->Shared->Prop}{Q:Unit->Shared->Prop}(I:Inv X pins σ H s)(F:FX X.prog X.w X.stack H s cls ea H' s')
  (k:∀h',FX X.prog X.w X.stack H s cls ea H' { s' with heap:=h' }->Q () { s' with heap:=h' }):wpAny M A (setFlight (.ref ea) none) Q E s':=by
 obtain⟨B,a0,hfl,hB⟩:=F.fly
 exact lands_againW hfl fun h5 y1 y2=>k h5 (F.stay I hfl hB y1 y2)
end
section
variable {X:Cx}{pins:List (Addr×Obj)}{σ:L2.St}{H H':Hp}{s s':Shared}{cls:Value}{ea:Addr}
abbrev jd(X:Cx)(A':Around):Cx:={ X with A:=A',calm:=false }
theorem rW{A':Around}(I:Inv X pins σ H s)(hfr:A'.frames=X.A.frames):Inv (jd X A') pins σ H s :=
 let ok:=I.ok
 ⟨⟨ok.mod,ok.kind,ok.glob,ok.blt,ok.above,ok.inj,ok.has,ok.cab,fun z=>(by cases z),hfr.trans ok.frames,ok.stk,ok.exf,ok.bs,ok.bsz,ok.noex,ok.exfs,ok.funs,ok.frf⟩,I.os,I.bare,I.base,I.loc,I.cell,I.free,I.freeC,I.pin,I.hok,I.len⟩
theorem CT{A':Around}(ok:X.Ok)(I:Inv (jd X A') pins σ H s):Inv X pins σ H s:=⟨ok,I.os,I.bare,I.base,I.loc,I.cell,I.free,I.freeC,I.pin,I.hok,I.len⟩
theorem CP{h':Heap}{m':Str->Option Value}{t':Nat}(I:Inv X pins σ H s)(hn:h'.Ns X.env.locals m')(hs:Heap.SameBut X.env.locals s.heap h'):Inv X pins (List.replicate X.N.length none) H { s with heap:=h',toks:=t' }:=by
 have neL:∀b o,X.s₀.heap.get? b=some o->b≠X.env.locals:=fun b o e=>yR (zP (zX e) I.ok.above)
 have kp:∀b o,b≠X.env.locals->s.heap.get? b=some o->h'.get? b=some o:=fun b o ne e=>(hs.2 b ne).trans e
 have tr:∀b u,H b=some u->b≠X.env.locals:=fun b u e z=>by rw[z,I.free] at e;cases e
 refine⟨I.ok,I.os,I.bare,⟨fun b o e n hb hx=>kp b o (neL b o e) (I.base.keep b o e n hb hx),fun b o e n hb hx=>?_,I.base.free,fun b o e hx=>?_,I.base.tups,I.base.frzs,?_⟩,⟨m',hn,fun i x v _ h2 _=>?_⟩,fun x c e=>?_,I.free,I.freeC,fun p hp=>?_,fun a o e=>?_,?_⟩
 ·obtain⟨sl,e1⟩:=I.base.slot b o e n hb hx
  exact⟨sl,kp b _ (neL b o e) e1⟩
 ·obtain⟨o',e1⟩:=I.base.there b o e hx
  exact⟨o',kp b _ (neL b o e) e1⟩
 ·exact I.base.tbls.trans (.kept (fun b u ⟨q,z⟩ e=>kp b u (tr b _ z) e) fun _ _ e _=>e)
 ·rw[yX] at h2
  split at h2<;>cases h2
 ·obtain⟨v,o,ho,hd⟩:=I.cell x c e
  exact⟨v,o,kp c o (I.cne x c e) ho,hd⟩
 ·obtain⟨e,n,ne,r⟩:=I.pin p hp
  exact⟨kp _ _ ne e,n,ne,r⟩
 ·refine (I.hok a o e).stay (fun b u hb q=>kp b u ?_ q) (fun _ q=>q) fun _ _ q _=>q
  rcases hb with rfl|z
  ·exact tr b _ e
  ·exact tr b _ z
 ·simp
def ExcAt(l:List PySem.Env)(H:Hp)(h:Heap)(ea:Addr)(cls:Value):Prop:=(∃ob vs,h.get? ea=some ob/\ob.cls=cls/\ob.data=.fields vs)/\H ea=none/\ea∉ix l
theorem Os{i:Nat}{x n:Str}{C:Addr}{np pos:Pos}{b₀:Stmt}{suite:List Stmt}{rest:List ExceptHandler}{D:Ends}(I:Inv X pins σ H s)(F:FX X.prog X.w X.stack H s cls ea H' s')(hg:Gl X x)(hm:X.mg x=some (.ref C))(hdb:(x == ("__debug__":Str))=false)
  (hx:W.exmOne X.K cls (.ref C)=some true) (hN:X.N.Nodup) (hi:X.N[i]?=some n) (hl:X.env.kindOf n=some .local) (hsc:X.env.scope.names.lookup n=some .local) (hcl:X.env.cells.lookup n=none)
  (k:∀s2,Inv (jd X (X.A.mark (some (.ref ea)))) pins (σ.set i (some (.ref ea))) H' s2->ExcAt X.stack H' s2.heap ea cls ->
   wpAny (model X.prog X.w) (X.A.mark (some (.ref ea))) (execs (b₀::suite) X.env) (fun f s3=>∃u v σ' H3,f=.ret u/\Inv (jd X (X.A.mark (some (.ref ea)))) pins σ' H3 s3/\RelV v u/\D.rt v H3) (fun _ _=>False) s2) :
  wpAny (model X.prog X.w) X.A (handleBy (.ref ea) X.env (.ExceptHandler (some (.Name x np)) (some n) (b₀::suite) pos::rest)) (SP X pins D) X.xe s':=by
 have hfr:(X.A.mark (some (.ref ea))).frames=X.A.frames:=rfl
 have I1:=F.inv I
 obtain⟨B,a0,hfl,hB⟩:=F.fly
 obtain⟨ob,hob,hobc⟩:=hfl.there
 refine wpAny_handleBy_cons (codeAny_handlers_test ?_) (by intro q;cases q)
 refine ma (X:=jd X (X.A.mark (some (.ref ea)))) (rW I1 hfr) hg hm ?_ hdb
 have LT:W.Looks (model X.prog X.w) s'.heap (typeOf (.ref ea)) cls:=fun A Q E s2 k2 q=>wpAny_typeOf_ref (k2 _ _ hob) (by rw[hobc];exact q)
 refine (W.exm_one I1.kIn LT hx).here ?_
 refine codeAny_handlers_suite_as ?_
 refine again I F fun h2 F2=>?_
 obtain⟨B2,a2,hfl2,hB2⟩:=F2.fly
 obtain⟨oe,vs,T,oT,ts,he,⟨hec,_⟩,hed,_⟩:=hfl2.2.2.2
 refine o9 (X:=X) (i:=i) (v:=.ref ea) (F2.inv I) hN hi (.inl hsc) rfl (fun s2 I2 hsb=>?_) (.inr hsc)
 obtain⟨a,hsb,ha⟩:=hsb
 have hal:a=X.env.locals:=by
  rcases ha with h|h
  ·exact h
  ·rw[hcl] at h;cases h
 subst hal
 have hne:ea≠X.env.locals:=fun z=>by
  obtain⟨m,⟨o,es,ep,ho,hd,_⟩,_⟩:=(F2.inv I).loc
  rw[<- z] at ho
  have:oe=o:=by rw[he] at ho;exact xD ho
  rw[<- this,hed] at hd
  cases hd
 have hnf:ea∉ix X.stack:=fun z=>by
  obtain⟨_,o2,e2,d2⟩:=hfl2.2.2.1.mem z
  have:oe=o2:=by rw[he] at e2;exact xD e2
  exact d2 vs (this ▸ hed)
 have hno:H' ea=none:=by
  cases q:H' ea with
  | none=>rfl
  | some u =>
   obtain⟨o,eo⟩:=hB2 ea hnf (.inl (by rw[q];simp))
   rw[hfl2.2.1] at eo
   cases eo
 refine xA (k s2 (rW I2 hfr) ⟨⟨oe,vs,(hsb.2 ea hne).trans he,hec,hed⟩,hno,hnf⟩) (fun f s3 hz=>?_) fun _ _ z=>z.elim
 obtain⟨u,v,σ',H3,rfl,I3,r,d⟩:=hz
 have I4:=CT I1.ok I3
 obtain⟨m3,hn3,_⟩:=id I4.loc
 exact wpAny_nameGoes hl hn3 (by rw[I4.ok.kind];rfl) fun h' m' hns hsb'=>⟨v,_,H3,CP I4 hns hsb',r,d⟩
end
abbrev gu(X:Cx)(pn:List (Addr×Obj))(xe:Value->Shared->Prop):Cx:={ X with pn:=pn,xe:=xe }
section
variable {X:Cx}{pins:List (Addr×Obj)}{σ:L2.St}{H H':Hp}{s s':Shared}
theorem GN{pn:List (Addr×Obj)}{xe:Value->Shared->Prop}(ok:X.Ok):(gu X pn xe).Ok :=
 ⟨ok.mod,ok.kind,ok.glob,ok.blt,ok.above,ok.inj,ok.has,ok.cab,ok.hd,ok.frames,ok.stk,ok.exf,ok.bs,ok.bsz,ok.noex,ok.exfs,ok.funs,ok.frf⟩
theorem DR{pn pins':List (Addr×Obj)}{xe:Value->Shared->Prop}(I:Inv X pins σ H s)(h:∀p∈pn++pins',p∈X.pn++pins):Inv (gu X pn xe) pins' σ H s :=
 ⟨GN I.ok,I.os,I.bare,I.base,I.loc,I.cell,I.free,I.freeC,fun p hp=>I.pin p (h p hp),I.hok,I.len⟩
theorem Eu{pn pins':List (Addr×Obj)}{xe:Value->Shared->Prop}(ok:X.Ok)(I:Inv (gu X pn xe) pins' σ H s)(h:∀p∈X.pn++pins,p∈pn++pins'):Inv X pins σ H s :=
 ⟨ok,I.os,I.bare,I.base,I.loc,I.cell,I.free,I.freeC,fun p hp=>I.pin p (h p hp),I.hok,I.len⟩
def Eg(X:Cx)(i:Nat)(ss:List Stmt)(c:Str)(d:D):Prop:=∀ (pn pins:List (Addr×Obj)) (xe:Value->Shared->Prop) (σ:L2.St) (H:Hp) (s:Shared) (ea C:Addr),X.mg c=some (.ref C)->Inv (jd (gu X pn xe) (X.A.mark (some (.ref ea)))) pins σ H s->σ[i]?=some (some (.ref ea)) ->
 ExcAt X.stack H s.heap ea (.ref C)->wpAny (model X.prog X.w) (X.A.mark (some (.ref ea))) (execs ss X.env) (fun f s3=>∃u v σ' H3,f=.ret u/\Inv (jd (gu X pn xe) (X.A.mark (some (.ref ea)))) pins σ' H3 s3/\RelV v u/\∀HF,aW HF H->∃HF3,bF HF H HF3 H3/\Rep X.K HF3 d v) (fun _ _=>False) s
def AY(gb:ar->Option Out)(xg:ar->Option Str)(fin:Str->Option D):ar->Option Out:=fun ρ=>match gb ρ with
 | some (.rt d)=>some (.rt d)
 | some (.nx _)=>none
 | none=>(xg ρ).bind fun c=>(fin c).map Out.rt
theorem Oa{HF₀ H₀:Hp}{i:Nat}{x n:Str}{CF:Addr}{np hpos pos:Pos}{body:List Stmt}{b₀:Stmt}{suite:List Stmt}{gb:ar->Option Out}{xg:ar->Option Str}{fin:Str->Option D}(hs:X.stack=X.env::X.outer)(hf:X.env.frame=some X.env.locals)
  (hg:Gl X x) (hm:X.mg x=some (.ref CF)) (hdb:(x == ("__debug__":Str))=false) (hN:X.N.Nodup) (hi:X.N[i]?=some n) (hl:X.env.kindOf n=some .local) (hsc:X.env.scope.names.lookup n=some .local) (hcl:X.env.cells.lookup n=none)
  (hok:D4 X.nox HF₀ H₀ body gb) (hx:∀pn xe E,eh (zg X.prog X.w) (gu X pn xe) E->Fo (gu X pn xe) E HF₀ H₀ body xg)
  (hfin:∀c d,fin c=some d->(∀C,X.mg c=some (.ref C)->W.exmOne X.K (.ref C) (.ref CF)=some true)/\(∃C,X.mg c=some (.ref C))/\Eg X i (b₀::suite) c d) :
  DS X HF₀ H₀ (.Try body [.ExceptHandler (some (.Name x np)) (some n) (b₀::suite) hpos] [] [] pos) (AY gb xg fin):=by
 intro pins s σ H D I ⟨HF,ρ,o,S,hgo,q⟩
 refine wpAny_Try_except ?_
 unfold AY at hgo
 split at hgo
 ·rename_i d hgb
  cases hgo
  refine xA (yp.nox hok pins s σ H { D with nx:=fun _ _=>False,bk:=fun _ _=>False,ct:=fun _ _=>False } I ⟨HF,ρ,.rt d,S,hgb,q⟩ |> fun _=>hok pins s σ H { D with nx:=fun _ _=>False,bk:=fun _ _=>False,ct:=fun _ _=>False } (I.wish _) ⟨HF,ρ,.rt d,S,hgb,q⟩) (fun f s1 z=>?_) fun _ _ z=>z.elim
  cases f with
  | next=>obtain⟨_,_,_,z⟩:=z;exact z.elim
  | brk=>obtain⟨_,_,_,z⟩:=z;exact z.elim
  | cont=>obtain⟨_,_,_,z⟩:=z;exact z.elim
  | ret u=>exact SP.unwish (D:=D) z
 ·cases hgo
 ·obtain⟨c,hc,hgo⟩:=bs hgo
  obtain⟨d,hd,rfl⟩:=ag hgo
  obtain⟨hex,⟨C,hC⟩,hsu⟩:=hfin c d hd
  have hxm:=hex C hC
  let E1:XK:=fun cls _ H'=>cls=.ref C/\∃HF',bF HF₀ H₀ HF' H'
  let xeT:Value->Shared->Prop:=fun e s1=>∃pins' σ' Hc s0 ea H',e=.ref ea/\Inv (gu X (X.pn++pins) X.xe) pins' σ' Hc s0/\FX X.prog X.w X.stack Hc s0 (.ref C) ea H' s1/\∃HF',bF HF₀ H₀ HF' H'
  have hp:eh (zg X.prog X.w) (gu X (X.pn++pins) xeT) E1:=fun pins' σ' Hc s0 e s1 Ic hcx=>by
   obtain⟨ea,cls,H',rfl,F,rfl,HF',G⟩:=hcx
   exact⟨pins',σ',Hc,s0,ea,H',rfl,⟨GN I.ok,Ic.os,Ic.bare,Ic.base,Ic.loc,Ic.cell,Ic.free,Ic.freeC,Ic.pin,Ic.hok,Ic.len⟩,F,HF',G⟩
  have hI:Inv (gu X (X.pn++pins) xeT) [] σ H s:=DR I fun p hp=>by rw[qF] at hp;exact hp
  refine xA (hx _ _ E1 hp [] s σ H ⟨fun _ _=>False,fun _ _=>False,fun _ _=>False,fun _ _=>False⟩ hI ⟨HF,ρ,c,C,S,hc,hC,fun H' HF' G=>⟨rfl,HF',G⟩⟩) (fun f s1 z=>?_) fun e s1 z=>?_
  ·exfalso
   cases f with
   | next=>obtain⟨_,_,_,z⟩:=z;exact z
   | brk=>obtain⟨_,_,_,z⟩:=z;exact z
   | cont=>obtain⟨_,_,_,z⟩:=z;exact z
   | ret u=>obtain⟨_,_,_,_,_,z⟩:=z;exact z
  ·obtain⟨pins',σ',Hc,s0,ea,H',rfl,Ic,F,HF',G⟩:=z
   refine land (X:=gu X (X.pn++pins) X.xe) Ic hs hf F fun h' F'=>?_
   refine cx (Os (X:=gu X (X.pn++pins) X.xe) (D:=⟨fun _ _=>False,fun v H3=>D.rt v H3,fun _ _=>False,fun _ _=>False⟩) Ic F' hg hm hdb hxm hN hi hl hsc hcl fun s2 I2 hob=>?_) fun f s3 z=>?_
   ·have hlen:i < σ'.length:=by rw[Ic.len];exact (List.getElem?_eq_some_iff.mp hi).1
    refine xA (hsu _ _ _ _ _ _ _ C hC I2 (by simp[hlen]) hob) (fun f s3 z=>?_) fun _ _ z=>z
    obtain⟨u,v,σ3,H3,rfl,I3,r,z⟩:=z
    obtain⟨HF3,g3,rp⟩:=z HF' G.fh
    exact⟨u,v,σ3,H3,rfl,I3,r,q v H3 HF3 (G.trans g3) rp⟩
   ·cases f with
    | next=>obtain⟨_,_,_,z⟩:=z;exact z.elim
    | brk=>obtain⟨_,_,_,z⟩:=z;exact z.elim
    | cont=>obtain⟨_,_,_,z⟩:=z;exact z.elim
    | ret u =>
     obtain⟨v,σ3,H3,I3,r,z⟩:=z
     exact⟨v,σ3,H3,Eu I.ok I3 fun p hp=>qJ _ hp,r,z⟩
end
structure Do(P:Program)(w:World)(K:W.Frag)(mg:Str->Option Value)(base:Heap)(k:Nat)(x c:Str)(d:D):Prop where
 ex:∃ (f:Addr) (fd:FuncData) (ps:List Str),mg x=some (.ref f)/\W.keepIn K (.ref f)=true/\Binds K fd ps []/\ps.length=1 /\
  ∀ (A:Around) (outer:List PySem.Env) (s:Shared) (H:Hp) (args:Args) (ea C:Addr),A.depth+3 * k+5 < recursionLimit->A.units+16 * k+200 < cLine->C2 P w K mg base A outer s H->BindsTo s fd args (ps.zip [.ref ea])->mg c=some (.ref C)->ExcAt outer H s.heap ea (.ref C) ->
   codeAny (model P w) A (.call (.ref f) args) (fun r s'=>∃u,r=.ok (.ret u)/\CE outer P w H s (fun v H'=>∀HF,aW HF H->∃HF',bF HF H HF' H'/\Rep K HF' d v) u s') s
section
variable {X:Cx}
theorem EW{k i:Nat}{x n c:Str}{d:D}{p pe cpos pos:Pos}(R:Do X.prog X.w X.K X.mg X.base k x c d)(hr:dS k X.A)(hg:Gl X x)(hdb:(x == ("__debug__":Str))=false)(hi:X.N[i]?=some n)(hl:X.env.kindOf n=some .local)(hsc:X.env.scope.names.lookup n=some .local)(hnd:(n == ("__debug__":Str))=false) :
  Eg X i [.Return (some (.Call (.Name x p) [.Name n pe] [] cpos)) pos] c d:=by
 obtain⟨f,fd,ps,hm,hk,hb,hpl,run⟩:=R.ex
 intro pn pins xe σ H s ea C hC I hσ hob
 have ev:∀ {Q:Value->Shared->Prop},Q (.ref ea) s->wpAny (model X.prog X.w) (X.A.mark (some (.ref ea))) (eval (.Name n pe) X.env) Q (fun _ _=>False) s:=fun {Q} q=>by
  obtain⟨m,hn,hlo⟩:=I.loc
  obtain⟨u,r,l⟩:=hlo i n (.ref ea) hi hσ (.inl hsc)
  have r:u=.ref ea:=r
  subst r
  rcases l with ⟨hk,hm⟩|⟨hk,_⟩
  ·exact wK (wD I.ok.kind hk hn hm q) hnd
  ·have hk:X.env.kindOf n=some .cell\/X.env.kindOf n=some .free:=hk
   rw[hl] at hk
   rcases hk with hk|hk<;>cases hk
 have key:wpAny (model X.prog X.w) (X.A.mark (some (.ref ea))) (eval (.Call (.Name x p) [.Name n pe] [] cpos) X.env) (EP (jd (gu X pn xe) (X.A.mark (some (.ref ea)))) pins σ (fun v H'=>∀HF,aW HF H->∃HF',bF HF H HF' H'/\Rep X.K HF' d v)) (fun _ _=>False) s:=by
  refine qY (ma I hg hm ?_ hdb)
  refine W.callWith_K (h₀:=X.base) I.ok.mod.kin hk (jJ (ev (kJ ⟨I.kIn,?_⟩))) rfl rfl
  refine vL (jS (run _ X.stack s H ⟨[.ref ea],[]⟩ ea C hr.dp hr.un I.env0 (by have:=hb s [.ref ea] I.kIn (by simp[hpl]);simpa using this) hC hob) fun r s' hq=>?_)
  obtain⟨u,rfl,hq⟩:=hq
  exact I.after hq
 refine vG (wpAny_Return_some (xA key (fun u s3 z=>?_) fun _ _ z=>z))
 obtain⟨v,H3,I3,r,z⟩:=z
 exact⟨u,v,σ,H3,rfl,I3,r,z⟩
end
open PySem PySem.W PySem.Spec PySem.Calls PyProof.Rows
section
variable {prog:Program}{w:World}{A:Around}{E:Value->Shared->Prop}{s:Shared}{K:Frag}{x D:Addr}{ox:Obj}
theorem Fp{M:Model}{h:Heap}{self a g:Value}{name:Str}(X:K.In h)(ha:findIn K (.ref D) name=some (some a))(hg:specialIn K a "__get__"=some (some g))(ht:takesIn K a=some true):Looks M h (Builtin.ObjectAttr.find self (.ref D) name) (.bind g a):=by
 refine (looks_findIn X ha).andThen ?_
 refine (show Looks M h (Builtin.ObjectAttr.getOf (some a)) (some g) from looks_specialIn X hg).andThen ?_
 refine (show Looks M h (Builtin.ObjectAttr.dataDescriptor? (some a) (some g)) (some (g,a)) from (looks_takesIn X ht).andThen .now).andThen ?_
 exact Looks.tag .now
theorem Gn{tp:Value}{R:Result->Shared->Prop}(X:K.In s.heap)(L0:Looks (model prog w) s.heap (typeOf (.ref x)) (.ref D))(hm:mroIn K D (.type "object")=some true)
  (h:R (.ok (.ret (.ref D))) s):codeAny (model prog w) A (.call (.builtin "getset_descriptor.__get__") ⟨[.builtin "object.__class__",.ref x,tp],[]⟩) R s:=by
 have LI:Looks (model prog w) s.heap (isInstance (.ref x) (.type "object")) true:=L0.andThen (looks_mroIn X hm)
 obtain⟨hh,g,dr,t,os⟩:=s
 refine wF KF.slot_gs.plain KF.entry_gs (KF.slot_gs.check _ _ _ _ _ _ _ _ KF.type_class (KF.args_gs _ _ _) ?_)
 unfold Builtin.«getset_descriptor.__get__» Builtin.Getset_descriptor.descrGet
 rw[dga_obj]
 refine zU (zV ?_)
 unfold Builtin.Getset_descriptor.descrGetter Builtin.Getset_descriptor.descrCheckInstance Builtin.Getset_descriptor.descrNameAndClass
 simp only[KF.owner_class]
 repeat lk
 refine⟨wQ _ (by decide +kernel),kF KF.entry_class ?_⟩
 unfold Builtin.«object.__class__» shownTypeOf
 repeat lk
 exact h
theorem EG{Q:Option Value->Shared->Prop}(X:K.In s.heap)(ho:s.heap.get? x=some ox)(hcl:ox.cls=.ref D)(hga:findIn K (.ref D) "__getattribute__"=some (some (.builtin "BaseException.__getattribute__")))(hno:findIn K (.ref D) "__getattr__"=some none)
  (ha:findIn K (.ref D) "__class__"=some (some (.builtin "object.__class__"))) (hn:specialIn K (.builtin "object.__class__") "__get__"=some (some (.builtin "getset_descriptor.__get__"))) (htk:takesIn K (.builtin "object.__class__")=some true) (hm:mroIn K D (.type "object")=some true) (hb:subIn K (.ref D) (.type "BaseException")=some true)
  (h:Q (some (.ref D)) { s with toks:=s.toks+1 }):wpAny (model prog w) A (getAttr? (.ref x) "__class__") Q E s:=by
 obtain⟨hh,g,d,t,os⟩:=s
 have L0:Looks (model prog w) hh (typeOf (.ref x)) (.ref D):=hcl ▸ (Looks.ld ho).andThen .now
 have L1:=looks_findIn (M:=model prog w) X hga
 have L2:=looks_findIn (M:=model prog w) X hno
 have LF:=Fp (M:=model prog w) (self:=.ref x) X ha hn htk
 have LI:Looks (model prog w) hh (isInstance (.ref x) (.type "BaseException")) true:=L0.andThen (looks_subIn X hb)
 unfold getAttr? getAttrBy? getAttrBy
 refine zU (wpAny_mkText (zU (kU (xX (zU (L0.at (zU (L1.at ?_))))))))
 have hx2:(Value.builtin "BaseException.__getattribute__" == Value.builtin "object.__getattribute__")=false:=by decide +kernel
 simp only[hx2,kZ,yO,qP]
 unfold getAttrByItsOwn hookBefore
 refine zU ?_
 show wpAny _ _ (typeLookup (.ref D) "__getattr__") _ _ _
 refine L2.at ?_
 refine zU (kU (xX ?_))
 show wpAny _ _ (boundAndCalled (.builtin "BaseException.__getattribute__") (.ref x) (.str "__class__" t)) _ _ _
 unfold boundAndCalled
 refine zU (wpAny_of_eq (F.attr_ValueError.ga.bind (.ref x)) ?_)
 refine vL (wF F.attr_ValueError.ga.plain F.entry_bexc_ga ?_)
 have hk:builtinKind "BaseException.__getattribute__"=some .slot:=by decide +kernel
 have hsplit:splitId "BaseException.__getattribute__"=some ("BaseException","__getattribute__"):=by decide +kernel
 simp only[checkBuiltinCall,hk,hsplit]
 refine zU (LI.at ?_)
 simp only[xY,yO,qP]
 have hargs:argsOk "BaseException.__getattribute__" ⟨[.ref x]++[.str (Str.ofString "__class__") t],[]⟩:=F.args_bexc_ga _ _
 have body:∀ {P:Fin->Shared->Prop}{E':Value->Shared->Prop},P (.done (.ret (.ref D))) ⟨hh,g,d,t+1,os⟩->wpAny (model prog w) A.in1 (Builtin.«object.__getattribute__» ⟨[.ref x]++[.str (Str.ofString "__class__") t],[]⟩) P E' ⟨hh,g,d,t+1,os⟩:=fun {P E'} q=>by
  unfold Builtin.«object.__getattribute__»
  refine zU (zV ?_)
  refine zU (zV ?_)
  refine zU (L0.at ?_)
  refine zU (LF.at ?_)
  show wpAny _ _ (holding [.builtin "object.__class__"] (call (.builtin "getset_descriptor.__get__") [.builtin "object.__class__",.ref x,.ref D]) >>= ret) _ _ _
  exact zU (xX (vL (Gn (s:=⟨hh,g,d,t+1,os⟩) X L0 hm (zV q))))
 cases hsig:Manifest.signature? "BaseException.__getattribute__" with
 | none=>exact zV (body (handed_on rfl (zV h)))
 | some sig =>
  have ha':Bind.checkArgs "BaseException.__getattribute__" sig ⟨[.ref x]++[.str (Str.ofString "__class__") t],[]⟩=pure ():=by simpa only[argsOk,hsig] using hargs
  simp only[ha']
  exact zV (body (handed_on rfl (zV h)))
structure Lp(K:Frag)(C:Addr):Prop where
 ga:findIn K (.ref C) "__getattribute__"=some (some (.builtin "BaseException.__getattribute__"))
 no:findIn K (.ref C) "__getattr__"=some none
 cl:findIn K (.ref C) "__class__"=some (some (.builtin "object.__class__"))
 hn:specialIn K (.builtin "object.__class__") "__get__"=some (some (.builtin "getset_descriptor.__get__"))
 tk:takesIn K (.builtin "object.__class__")=some true
 ob:mroIn K C (.type "object")=some true
 be:subIn K (.ref C) (.type "BaseException")=some true
 ci:(clsIn K C).isSome=true
theorem GQ(k:Lp K D):KitX K (.ref x) (.ref D) (fun h=>h.get? x=some ox/\ox.cls=.ref D) where
 ty:=fun _ _ _ p=>p.2 ▸ (Looks.ld p.1).andThen .now
 it:=fun _ _ X _=>by
  have hc:=k.ci
  unfold clsIn at hc
  split at hc
  ·rename_i ho
   intro A' Q' E' s' kp q
   unfold isType loadHead
   exact zU (wpAny_loadPart (kp _ _ (X _ _ ho)) (zV q))
  ·cases hc
 ne:=fun h tp dd its n sl X htp=>by
  have hc:=k.ci
  refine Bool.eq_false_iff.mpr fun q=>?_
  have e:D=tp:=Value.ref.inj (beq_iff_eq.mp q)
  subst e
  unfold clsIn at hc
  split at hc
  ·rename_i ho
   have z:=(X _ _ ho).symm.trans htp
   cases z
  ·cases hc
 ca:=fun X p q=>EG X p.1 p.2 k.ga k.no k.cl k.hn k.tk k.ob k.be q
theorem Ci{c:Value}{b:Bool}{Q:Value->Shared->Prop}(k:Lp K D)(X:K.In s.heap)(ho:s.heap.get? x=some ox)(hc:ox.cls=.ref D)(e:kitOne K (.ref D) c=some b)(h:∀tk,Q (.bool b) { s with toks:=tk }) :
  wpAny (model prog w) A (call (.builtin "isinstance") [.ref x,c]) Q E s:=kia_one (GQ k) X ⟨ho,hc⟩ e (fun z=>nomatch z) h
end
abbrev BF(A:Around):Around:={ A with handled:=none }
abbrev D0(P:Program)(w:World)(K:W.Frag)(mg:Str->Option Value)(base:Heap)(N:List Str)(qual:Str)(scope:Scope)(f:Addr)(cdv:Value)(A:Around)(outer:List PySem.Env)(s:Shared)(H:Hp)(pn:List (Addr×Obj)):Cx :=
 gu (jd (sF Hh P w K mg base N qual scope f cdv (BF A) outer s H E0) (A.deeper (envOfC qual scope s.heap.objs.size f cdv))) pn fun _ _=>False
section
variable {P:Program}{w:World}{K:W.Frag}{mg:Str->Option Value}{base:Heap}
theorem FN{A:Around}{outer:List PySem.Env}{s:Shared}{H:Hp}{args:Args}{ea C:Addr}{ob:Obj}{vs:Array Value}{N ps:List Str}{x qual:Str}{st:Stmt}{f:Addr}{fd:FuncData}{Q:VK}(F:GK K x qual st f fd)(S:cT N ps (aj st))(h1:ps.length=1)
  (hdp:A.depth < recursionLimit) (e0:C2 P w K mg base A outer s H) (hb:BindsTo s fd args (ps.zip [.ref ea])) (ho:s.heap.get? ea=some ob) (hd:ob.data=.fields vs) (hn:H ea=none) (hf:ea∉ix outer)
  (body:∀ (cdv:Value) (s1:Shared),Inv (D0 P w K mg base N qual (aj st) f cdv A outer s H [(ea,ob)]) [] (L2.start N [.ref ea]) H s1 ->
   wpAny (model P w) (A.deeper (envOfC qual (aj st) s.heap.objs.size f cdv)) (execs (bC st) (envOfC qual (aj st) s.heap.objs.size f cdv)) (fun fl s'=>∃u v σ' H',fl=.ret u/\Inv (D0 P w K mg base N qual (aj st) f cdv A outer s H [(ea,ob)]) [] σ' H' s'/\RelV v u/\Q v H') (fun _ _=>False) s1) :
  codeAny (model P w) A (.call (.ref f) args) (fun r s'=>∃u,r=.ok (.ret u)/\CE outer P w H s Q u s') s:=by
 obtain⟨oc,od,kV,doc,pm,an,cdv,ct,osl,rfl,lk,hcd⟩:=F.ex
 have KX:K.In s.heap:=e0.mod.kin.keeps fun b o e=>(e0.bs b o e).1
 have lim:s.heap.NoLimit:=e0.mod.nolimit.keeps fun b o e=>(e0.bs b o e).1
 have hkind:∀y∈ps.zip [Value.ref ea],(aj st).names.lookup y.1=some .local \/ ((aj st).names.lookup y.1=some .cell/\((cellsFrom (s.heap.objs.size+1) (aj st).names []).lookup y.1).isSome=true):=fun ⟨n,v⟩ hy=>by
  rcases S.par n (vU hy).1 with q|q
  ·exact .inl q
  ·exact .inr ⟨q,W.cellsFrom_some _ _ _ (.inl q)⟩
 refine codeAny_call_function hdp (KX _ _ lk) rfl S.co S.gen rfl (W.codeRec_of KX hcd) (hb _ _ _ _ ?_)
 refine wpAny_newFunctionEnv_cells S.kind hkind fun env he s1 x=>?_
 subst he
 refine⟨lim.keeps x.toInCall.keep,codeAny_func ?_⟩
 have e0':C2 P w K mg base (BF A) outer s H:=⟨e0.frames,e0.mod,e0.bs,e0.bsz,e0.funs,e0.frf,e0.hok,e0.bare⟩
 have I0:Inv (sF Hh P w K mg base N qual (aj st) f cdv (BF A) outer s H E0) [] (L2.start N [.ref ea]) H s1:=vo S rfl e0' (by simp[h1]) (.cons rfl .nil) x
 have hlt:ea < s.heap.objs.size:=zX ho
 have I1:=I0.pins_of (pins':=[(ea,ob)]) fun p hp=>by
  have hp:p=(ea,ob):=by simpa using hp
  subst hp
  exact⟨x.toInCall.keep _ _ ho,hn,yR hlt,hf,fun v z=>by rw[hd] at z;cases z⟩
 have I2:Inv (D0 P w K mg base N qual (aj st) f cdv A outer s H [(ea,ob)]) [] (L2.start N [.ref ea]) H s1:=DR (rW I1 rfl) fun p hp=>yD _ (by simpa using hp)
 refine xA (body cdv s1 I2) (fun fl s' z=>?_) fun _ _ z=>z.elim
 obtain⟨u,v,σ',H',rfl,J,r,q⟩:=z
 exact⟨u,rfl,v,H',J.os,J.bare,J.base,J.hok,r,q⟩
end
section
variable {X:Cx}
theorem M4{i:Nat}{n y:Str}{ea C:Addr}{ob:Obj}{c:Value}{b:Bool}{p p1 p2 pos:Pos}(k:Lp X.K C)(hpn:(ea,ob)∈X.pn)(hcls:ob.cls=.ref C)(hgi:Gl X "isinstance")(hmi:X.mg "isinstance"=none)(hi:X.N[i]?=some n)(hl:X.env.kindOf n=some .local)(hsc:X.env.scope.names.lookup n=some .local)(hnd:(n == ("__debug__":Str))=false)
  (hy:∀ {pins:List (Addr×Obj)}{σ:L2.St}{H:Hp}{s:Shared}{Q:Value->Shared->Prop},Inv X pins σ H s->Q c s->wpAny (model X.prog X.w) X.A (eval (.Name y p2) X.env) Q X.xe s) (e:W.kitOne X.K (.ref C) c=some b) :
  PE X (.Call (.Name "isinstance" p) [.Name n p1,.Name y p2] [] pos) (fun σ H Q=>σ[i]?=some (some (.ref ea))/\Q (.bl b) H):=by
 intro pins s σ H Q I ⟨hσ,q⟩
 have ev:∀ {Q:Value->Shared->Prop},Q (.ref ea) s->wpAny (model X.prog X.w) X.A (eval (.Name n p1) X.env) Q X.xe s:=fun {Q} q=>by
  obtain⟨m,hn,hlo⟩:=I.loc
  obtain⟨u,r,l⟩:=hlo i n (.ref ea) hi hσ (.inl hsc)
  have r:u=.ref ea:=r
  subst r
  rcases l with ⟨hk,hm⟩|⟨hk,_⟩
  ·exact wK (wD I.ok.kind hk hn hm q) hnd
  ·have hk:X.env.kindOf n=some .cell\/X.env.kindOf n=some .free:=hk
   rw[hl] at hk
   rcases hk with hk|hk<;>cases hk
 have ho:=(I.pin (ea,ob) (qJ _ hpn)).1
 refine qY (gw I hgi hmi (u:=.builtin "isinstance") (by decide +kernel) ?_)
 refine PyProof.Rows.callWith_builtin1 (jJ (ev (jJ (hy I (kJ ?_))))) rfl rfl
 exact Ci k I.kIn ho hcls e fun tk=>⟨.bl b,H,I.tok tk,rfl,q⟩
end
section
variable {X:Cx}
def Jy(d:D)(xs:List D):Nat:=xs.countP fun x=>PyData.eqv x d
theorem EE(hu:X.A.units+66 < cLine):MH X "list.count" (fun x vs H Q=>∃ (HF:Hp) (ds:List D) (d:D) (y:V),aW HF H/\Rep X.K HF (.list ds) x/\vs=[y]/\Rep X.K HF d y/\SeqAt.shaped d=true/\SeqAt.shaped (.list ds)=true/\Q (.int (Jy d ds)) H):=by
 intro pins s σ H x vs v us Q I rx rv h
 obtain⟨HF,ds,d,y,sm,r1,rfl,r2,hd,hl,q⟩:=h
 obtain⟨u,rfl,ru⟩:=rv.one
 obtain⟨as,ra⟩:=et I sm r1 rx
 obtain⟨bs,rb⟩:=et I sm r2 ru
 have c1:=kK hd
 have c2:=kK hl
 have d1:=SeqAt.depth_of_shaped hd
 simp only[PyData.canLay0] at c2
 have m:=Nat.min_le_right (PyData.depthAll ds) d.depth
 cases ra with
 | list h1 h2 h3 h4 =>
  rename_i l o its n as
  obtain⟨cls,dd,data,sl⟩:=o
  simp only at h2 h3
  subst h2 h3
  have hm:=SeqAt.readsAll_map _ _ _ c2 h4
  refine qX F.slot_list_count ⟨_,h1,rfl⟩ F.entry_list_count (F.args_list_count_2 _ _) (PySem.SeqAt.list_countAt l its n dd sl u (fun y=>PyData.eqv (SeqAt.readOf s.heap y) d)) ⟨h1,?_,?_⟩
  ·exact SeqAt.items_eqAt h4 rb c2 c1 (by omega)
  ·refine⟨.int (Jy d ds),H,I.tok _,⟨s.toks,?_⟩,q⟩
   rw[Jy,<- hm,List.countP_map]
   rfl
def l4(X:Cx)(ea:Addr)(es:List Expr)(bs:List Bool):Prop:=PA X es (fun σ H Q=>σ[0]?=some (some (.ref ea))/\Q (bs.map V.bl) H)
theorem OE{ea:Addr}:l4 X ea [] []:=fun pos pins s σ H Q I ⟨_,q⟩=>dP pos pins s σ H Q I q
theorem Lb{ea:Addr}{e:Expr}{es:List Expr}{b:Bool}{bs:List Bool}(h:PE X e (fun σ H Q=>σ[0]?=some (some (.ref ea))/\Q (.bl b) H))(hr:l4 X ea es bs)(hs:starEach (e::es) X.env=(false,eval e X.env)::starEach es X.env:=by rfl):l4 X ea (e::es) (b::bs) :=
 CI (bM h hr hs) fun σ H Q ⟨h0,q⟩=>⟨h0,h0,q⟩
theorem eO{K:W.Frag}{H:Hp}:∀bs:List Bool,aw K H (bs.map PyData.bool) (bs.map V.bl)
 | []=>rfl
 | b::bs=>⟨_,_,rfl,rfl,eO bs⟩
theorem nQ(bs:List Bool):SeqAt.shaped (.list (bs.map PyData.bool))=true:=by
 have h:∀bs:List Bool,PyData.canLayAll0 (bs.map PyData.bool)=true/\PyData.depthAll (bs.map PyData.bool)<=1:=fun bs=>by
  induction bs with
  | nil=>exact⟨by simp[PyData.canLayAll0],by simp[PyData.depthAll]⟩
  | cons b bs ih=>exact⟨by simp[PyData.canLayAll0,PyData.canLay0,ih.1],by simp[PyData.depthAll,PyData.depth];omega⟩
 have:=h bs
 unfold SeqAt.shaped
 rw[zF]
 exact⟨by simp[PyData.canLay0,this.1],by simp[PyData.depth];omega⟩
variable {ea:Addr}{es1 es2:List Expr}{bs1 bs2:List Bool}{j:Nat}{e6:Expr}{bad:List Stmt}
theorem Jc{a1 a2 a3 b1 b2 b3 b4 b5 b6 c1 c2 c3 c4 c5 c6 c7 c8 c9 d1 d2 d3 d4 d5 d6 d7:Pos}{i1 i2 i3 i4 k1:Nat}(hu:X.A.units+66 < cLine)(hN:X.N=[("_law_e":Str),("_law_flags":Str)])(hl:X.env.scope.names.lookup ("_law_flags":Str)=some .local)
  (h1:l4 X ea es1 bs1) (h2:l4 X ea es2 bs2) (h6:PE X e6 (fun σ H Q=>σ[0]?=some (some (.ref ea))/\Q (.bl true) H)) (w6:∀whole,isTrue e6 X.env whole=(do let v <- whole;standAt e6.pos;holding [v] (truthy v)))
  (hc:Jy (.bool true) ((bs1++bs2).map PyData.bool)=1) (hj:tT (.bool true) ((bs1++bs2).map PyData.bool)=some j) (hz:bs1.length+bs2.length<=sizeLine) (l1:(c2.endLine == c4.line)=true) (l2:(d2.endLine == d4.line)=true) :
  yp X [.Assign [.Name "_law_flags" a1] (.List es1 a2) a3,.Assign [.Name "_law_flags" b1] (.BinOp (.Name "_law_flags" b2) .Add (.List es2 b3) b4) b5,
   .If (.BoolOp .Or [.Compare (.Call (.Attribute (.Name "_law_flags" c1) "count" c2) [.Constant (.bool true) i1 c3] [] c4) [.NotEq] [.Constant (.int 1) i2 c5] c6,.UnaryOp .Not e6 c7] c8) bad [] c9,
   .Return (some (.Tuple [.Constant (.str "refused") i3 d1,.Call (.Attribute (.Name "_law_flags" d3) "index" d2) [.Constant (.bool true) i4 d5] [] d4] k1 d6)) d7]
   (fun D σ H=>σ.length=2/\σ[0]?=some (some (.ref ea))/\∀v H',(∀HF,aW HF H->∃HF',bF HF H HF' H'/\Rep X.K HF' (.tuple [.str "refused",.int j]) v)->D.rt v H'):=by
 have hnd:X.N.Nodup:=by rw[hN];decide
 have hi:X.N[1]?=some ("_law_flags":Str):=by rw[hN];rfl
 have hlc:Loc X.env.scope ("_law_flags":Str):=.inl hl
 have hv:Lx X.env.scope ("_law_flags":Str):=.inl hl
 have hbad:yp X bad (fun _ _ _=>False):=fun _ _ _ _ _ _ z=>z.elim
 have p1:=r9 (pos':=a1) (pos:=a3) hnd hi hlc (sQ (pos:=a2) h1) rfl (.inr hl)
 have p2:=r9 (pos':=b1) (pos:=b5) hnd hi hlc (C9 (pos:=b4) rR (lL (pos:=b2) hi hv) (sQ (pos:=b3) h2)) rfl (.inr hl)
 have p3:=Ha (pos:=c9) (PW.pt (Mh (pos:=c8) (Dg (pos:=c6) Qr (rA (apos:=c2) (cpos:=c4) qN PySem.F.slot_list_count PySem.F.type_list_count (EE hu) (lL (pos:=c1) hi hv) (bM (IY (b:=true) (j:=i1) (pos:=c3)) dP) rfl rfl l1) (Gg (i:=1) (j:=i2) (pos:=c5)) (IZ _ (by decide) (by decide))) (HZ (pos:=c8) (Jt (pos:=c7) (G6 h6 w6))))) hbad xl
 have p4:=CJ (pos:=d7) (Im (x1:=k1) (pos:=d6) (bM (Gc (x:="refused") (j:=i3) (pos:=d1)) (bM (rA (apos:=d2) (cpos:=d4) qN PySem.F.slot_list_index PySem.F.type_list_index (F5 hu) (lL (pos:=d3) hi hv) (bM (IY (b:=true) (j:=i4) (pos:=d5)) dP) rfl rfl l2) dP)))
 refine qf (iU p1 (iU p2 (iU p3 (iU p4 xl)))) fun D σ H ⟨hlen,h0,q⟩=>?_
 refine⟨h0,by rw[zD];omega,fun p hp=>?_⟩
 have s1:∀v:V,(σ.set 1 (some v))[1]?=some (some v):=fun v=>by simp[hlen]
 have s0:∀v:V,(σ.set 1 (some v))[0]?=some (some (.ref ea)):=fun v=>by simp[h0]
 refine⟨.ref p,s1 _,s0 _,by rw[zD];omega,fun p2 hp2=>⟨p,p2,bs1.map V.bl,bs2.map V.bl,rfl,rfl,.inl (.inl ?_),.inl (.inl aC),by rw[zD,zD];exact hz,fun p3 hp3=>?_⟩⟩
 ·rw[aF (fun z=>by rw[z] at hp2 ;rw[aC] at hp2;cases hp2)]
  exact aC
 have t1:∀v w:V,((σ.set 1 (some w)).set 1 (some v))[1]?=some (some v):=fun v w=>by simp[hlen]
 have t0:∀v w:V,((σ.set 1 (some w)).set 1 (some v))[0]?=some (some (.ref ea)):=fun v w=>by simp[h0]
 let H3:Hp:=upd (upd (upd H p (.lst (bs1.map V.bl))) p2 (.lst (bs2.map V.bl))) p3 (.lst (bs1.map V.bl++bs2.map V.bl))
 have hsm:aW H H3:=fun b o e=>by
  have n1:b≠p:=fun z=>by rw[z,hp] at e;cases e
  have e1:upd H p (.lst (bs1.map V.bl)) b=some o:=by rw[aF n1];exact e
  have n2:b≠p2:=fun z=>by rw[z,hp2] at e1;cases e1
  have e2:upd (upd H p (.lst (bs1.map V.bl))) p2 (.lst (bs2.map V.bl)) b=some o:=by rw[aF n2];exact e1
  have n3:b≠p3:=fun z=>by rw[z,hp3] at e2;cases e2
  show upd _ p3 _ b=some o
  rw[aF n3];exact e2
 have hls:ig X.K H3 p3 ((bs1++bs2).map V.bl):=by
  rw[jA]
  exact .inl (.inl aC)
 have hrp:Rep X.K H3 (.list ((bs1++bs2).map PyData.bool)) (.ref p3):=⟨p3,_,rfl,hls,eO _⟩
 have hst:SeqAt.shaped (.bool true)=true:=by decide
 refine⟨.ref p3,t1 _ _,.inl ⟨rfl,_,hls⟩,H3,_,.bool true,.bl true,.refl _,hrp,rfl,rfl,hst,nQ _,?_⟩
 rw[hc]
 refine⟨rfl,?_⟩
 refine⟨false,rfl,?_⟩
 refine p9 ?_
 refine⟨t0 _ _,true,rfl,?_⟩
 refine p9 ?_
 refine⟨.ref p3,t1 _ _,.inl ⟨rfl,_,hls⟩,H3,_,.bool true,.bl true,j,.refl _,hrp,rfl,rfl,hst,nQ _,by rw[zD,zN];exact hz,hj,(show 2<=sizeLine by decide),fun p4 hp4=>?_⟩
 have hp4:H3 p4=none:=hp4
 refine q (.ref p4) _ fun HF sm=>⟨upd HF p4 (.tup [.str "refused",.int j]),⟨fun b o e=>?_,fun b o e=>?_,fun b o e=>?_,fun b o e=>?_⟩,p4,_,rfl,.inl (.inl aC),?_⟩
 ·have e3:=hsm b o e
  rw[aF (fun z=>by rw[z,hp4] at e3;cases e3)]
  exact e3
 ·have e3:=hsm b o (sm b o e)
  rw[aF (fun z=>by rw[z,hp4] at e3;cases e3)]
  exact e
 ·by_cases z:b=p4
  ·subst z
   rw[aC] at e ⊢
   exact e
  ·rw[aF z] at e ⊢
   exact hsm b o (sm b o e)
 ·by_cases z:b=p4
  ·subst z
   refine .inr ?_
   cases w:H b with
   | none=>rfl
   | some u=>have:=hsm b u w;rw[hp4] at this;cases this
  ·rw[aF z] at e
   exact .inl e
 ·exact⟨_,_,rfl,rfl,_,_,rfl,rfl,rfl⟩
end
open PySem L2 Dl PySem.Spec PyProof.Rows Rf
abbrev XE:=Dl.Env->Option Str
abbrev XS:=ar->Option Str
abbrev XT:=List (Str×Nat×(List D->Option Str))
def J5:XE:=fun _=>none
def mf:XS:=fun _=>none
def eE(x:XE):XS:=fun ρ=>x (aJ ρ)
def Pf(c:Str):XS:=fun _=>some c
def dC(xh:XS)(g:GS)(xr:XS):XS:=fun ρ=>match xh ρ with
 | some c=>some c
 | none=>II g xr ρ
def tY(P:Program)(w:World)(K:W.Frag)(mg:Str->Option Value)(base:Heap)(j:Nat)(l:XT):Prop:=∀x n m,l.lookup x=some (n,m)->tj P w K mg base j x n m
def RV(fx:XT)(sc:Scope)(T:Tr)(x:Str)(a:Expr)(as:List Expr):Option XE:=match fx.lookup x with
 | some (m,xm)=>if (pU sc x&&((a::as).all fun e=>!isStar e)&&!(x == ("__debug__":Str)))=true then (tq T (a::as)).map fun fs=>mh m xm fs else none
 | none=>none
def sL(n:Nat)(xm xm':List D->Option Str)(fk:Dl.Env->Option D)(fs:Dl.Env->Option (List D)):XE:=fun ρ=>(fk ρ).bind fun kd=>(fs ρ).bind fun ds=>if ds.length=n then (match kd with
 | .int k=>if k=0 then xm ds else if k=1 then xm' ds else none
 | _=>none) else none
theorem LN{X:Cx}{E:XK}{k n:Nat}{xm xm':List D->Option Str}{x y:Str}{b e:Expr}{es:List Expr}{fk:Dl.Env->Option D}{fs:Dl.Env->Option (List D)}{p p1 p2 p3 pos:Pos}(F:tj X.prog X.w X.K X.mg X.base k x n xm)(F':tj X.prog X.w X.K X.mg X.base k y n xm')(hr:dS k X.A)(hx:eh (zg X.prog X.w) X E)(hg:Gl X x)(hg':Gl X y)(hk:DE X.nox b fk)(ha:DA X.nox (e::es) fs)
  (hdb:(x == ("__debug__":Str))=false) (hdb':(y == ("__debug__":Str))=false) (hs:nZ b)
  (he:starEach (e::es) X.env=(false,eval e X.env)::starEach es X.env) (hpl:(backTo pos (starEach es X.env)).any (·.1)=false)
  (ht:eval (.Call (.Subscript (.List [.Name x p,.Name y p1] p2) b p3) (e::es) [] pos) X.env=(do callWith pos (<- eval (.Subscript (.List [.Name x p,.Name y p1] p2) b p3) X.env) [] (backTo pos (starEach (e::es) X.env)) (backToKw pos (keywordEach [] X.env))):=by rfl) :
  F8 X E (.Call (.Subscript (.List [.Name x p,.Name y p1] p2) b p3) (e::es) [] pos) (sL n xm xm' fk fs):=by
 obtain⟨f,fd,ps,ok,hm,hkp,hb⟩:=F.ex
 obtain⟨f',fd',ps',ok',hm',hkp',hb'⟩:=F'.ex
 intro pins s σ H Q I ⟨HF,ρ,c,C,sm,eo,hf,hC,q⟩
 obtain⟨kd,h1,hf⟩:=bs hf
 obtain⟨ds,h2,hf⟩:=bs hf
 split at hf
 ·rename_i hl
  obtain⟨kk,rfl⟩:∃kk,kd=.int kk:=by cases kd<;>first|exact⟨_,rfl⟩|cases hf
  rw[ht]
  have hc:PE X (.Subscript (.List [.Name x p,.Name y p1] p2) b p3) _:=Hq xk (sQ (bM (nh (v:=.ref f) hg hm rfl hdb) (bM (nh (v:=.ref f') hg' hm' rfl hdb') dP))) (PE.nox hk) hs
  have run:∀ {s1:Shared}{H1 HF1:Hp}{g:Addr}{gd:FuncData}{gs:List Str}{M:List D->Option Str},ni X.prog X.w X.K X.mg X.base (zg X.prog X.w) k g gd gs (Q8 X.K X.mg n M)->W.keepIn X.K (.ref g)=true->Binds X.K gd gs []->M ds=some c->Inv X pins σ H1 s1->bF HF H HF1 H1 ->
    wpAny (model X.prog X.w) X.A (callWith pos (.ref g) [] (backTo pos (starEach (e::es) X.env)) (backToKw pos (keywordEach [] X.env))) (EP X pins σ Q) X.xe s1:=by
   intro s1 H1 HF1 g gd gs M Qh kpg bg hM I1 G1
   refine W.callWith_K (h₀:=X.base) I.ok.mod.kin kpg (cx (Ib ha pos pins s1 σ H1 (fun vs H2=>Q8 X.K X.mg n M (vs++[]) H2 Q E) I1 ⟨HF1,ρ,ds,G1.fh,eo.mono G1.ff,h2,fun vs H2 HF2 G2 r2=>⟨HF2,ds,c,C,G2.fh,(eo.mono G1.ff).tb.mono G2.ff,by rw[qF];exact r2,hl,hM,hC,fun H' HF' g'=>q H' HF' (G1.trans (G2.trans g'))⟩⟩) fun us s2 ⟨vs,H2,I2,r,q2⟩=>⟨I2.kIn,?_⟩) he hpl
   exact CZ Qh hr bg .nil hx I2 r q2
  refine zU (cx (hc pins s σ H (fun v H1=>∃HF1,bF HF H HF1 H1/\v=(if kk=0 then V.ref f else .ref f')) I ⟨by rw[qU];simp,fun z hz=>?_⟩) fun u s1 ⟨v,H1,I1,rv,HF1,G1,ev⟩=>?_)
  ·have G0:bF HF H HF (upd H z (.lst [.ref f,.ref f'])):=.own sm hz
   refine⟨HF,ρ,.int kk,G0.fh,eo,h1,fun v1 H1 HF1 g1 r1=>?_⟩
   simp only[Rep] at r1
   refine⟨z,[.ref f,.ref f'],kk,(if kk=0 then V.ref f else .ref f'),rfl,r1,.of (g1.hh z _ aC),?_,HF1,G0.trans g1,rfl⟩
   dsimp only at hf
   by_cases h0:kk=0
   ·subst h0;rfl
   ·rw[yN h0] at hf ⊢
    by_cases h1:kk=1
    ·subst h1;rfl
    ·rw[yN h1] at hf;cases hf
  ·dsimp only at hf
   by_cases h0:kk=0
   ·rw[yL h0] at hf ev
    subst ev
    cases rv
    exact run ok hkp hb hf I1 G1
   ·rw[yN h0] at hf ev
    subst ev
    cases rv
    by_cases h1:kk=1
    ·rw[yL h1] at hf
     exact run ok' hkp' hb' hf I1 G1
    ·rw[yN h1] at hf;cases hf
 ·cases hf
def Rm(fx:XT)(sc:Scope)(T:Tr)(x y:Str)(b a:Expr)(as:List Expr):Option XE :=
 if ((pU sc x&&pU sc y)&&(((a::as).all fun e=>!isStar e)&&(!zl b&&(!(x == ("__debug__":Str))&&!(y == ("__debug__":Str))))))=true then
  (fx.lookup x).bind fun p=>(fx.lookup y).bind fun q=>if p.1=q.1 then (T.e b).bind fun fk=>(tq T (a::as)).map fun fs=>sL p.1 p.2 q.2 fk fs else none
 else none
def Mo(fx:XT)(sc:Scope)(T:Tr):Nat->Expr->Option XE
 | 0,_=>none
 | n+1,e=>match e with
  | .Call (.Name x _) (a::as) [] _=>RV fx sc T x a as
  | .Call (.Subscript (.List [.Name x _,.Name y _] _) b _) (a::as) [] _=>Rm fx sc T x y b a as
  | .IfExp c a b _=>(T.t c).bind fun t=>match Mo fx sc T n a,Mo fx sc T n b with
   | none,none=>none
   | xa,xb=>some (BL t (xa.getD J5) (xb.getD J5))
  | _=>none
def tN(f:Stmt->Option XS)(tS:Stmt->Option GS):List Stmt->Option XS
 | []=>none
 | s::r=>match f s,tN f tS r with
  | none,none=>none
  | some xh,none=>some xh
  | none,some xr=>(tS s).map fun g=>II g xr
  | some xh,some xr=>match tS s with
   | some g=>some (dC xh g xr)
   | none=>some xh
def KN(cl:List Str)(fx:XT)(sc:Scope)(N:List Str)(T:Tr)(tS:Stmt->Option GS):Nat->Stmt->Option XS
 | 0,_=>none
 | n+1,st=>match st with
  | .Return (some e) _=>(Mo fx sc T 4 e).map eE
  | .Expr e _=>if vv e=true then (Mo fx sc T 4 e).map eE else none
  | .Assign [.Name x _] e _=>(N.idxOf? x).bind fun i=>if (rl N sc i x&&!Cp e)=true then (Mo fx sc T 4 e).map eE else none
  | .If c a b _=>(T.t c).bind fun t=>match tN (KN cl fx sc N T tS n) tS a,tN (KN cl fx sc N T tS n) tS b with
   | none,none=>none
   | xa,xb=>some (F9 t (xa.getD mf) (xb.getD mf))
  | .Raise (some (.Call (.Name x _) [.Constant (.str _) _ _] [] _)) none _=>if (cl.contains x&&pU sc x&&!(x == ("__debug__":Str)))=true then some (Pf x) else none
  | _=>none
section
variable {X:Cx}{E:XK}{N:List Str}{sc:Scope}{k j:Nat}{T:Tr}{fx:XT}{cl:List Str}{HF₀ H₀:Hp}{tS:Stmt->Option GS}
theorem Pd{e:Expr}:F8 X E e J5:=fun pins s σ H Q I ⟨HF,ρ,c,C,_,_,h,_⟩=>by cases h
theorem LU{st:List Stmt}:Fo X E HF₀ H₀ st mf:=fun pins s σ H Q I ⟨HF,ρ,c,C,_,h,_⟩=>by cases h
theorem Ob(C:Bk X.nox N sc k)(O:cR X.nox T)(hx:tY X.prog X.w X.K X.mg X.base k fx)(hp:eh (zg X.prog X.w) X E){x:Str}{a:Expr}{as:List Expr}{xf:XE}{p pos:Pos}(h:RV fx sc T x a as=some xf):F8 X E (.Call (.Name x p) (a::as) [] pos) xf:=by
 unfold RV at h
 split at h
 ·rename_i m xm hl
  split at h
  ·rename_i hc
   simp only[zF] at hc
   obtain⟨fs,hfs,rfl⟩:=ag h
   have hst:isStar a=false/\(as.all fun e=>!isStar e)=true:=by
    have:=hc.1.2
    rw[xS,zF] at this
    exact⟨by simpa using this.1,this.2⟩
   exact KW (hx x m xm hl) C.room hp (C.gl hc.1.1) (cB O hfs) (by simpa using hc.2) (bz (by simpa using hst.1)) (cq hst.2)
  ·cases h
 ·cases h
theorem MJ(C:Bk X.nox N sc k)(O:cR X.nox T)(hx:tY X.prog X.w X.K X.mg X.base k fx)(hp:eh (zg X.prog X.w) X E){x y:Str}{b a:Expr}{as:List Expr}{xf:XE}{p0 p1 p2 p3 pos:Pos}(h:Rm fx sc T x y b a as=some xf):F8 X E (.Call (.Subscript (.List [.Name x p0,.Name y p1] p2) b p3) (a::as) [] pos) xf:=by
 unfold Rm at h
 split at h
 ·rename_i hg
  simp only[zF,yP] at hg
  obtain⟨⟨hgx,hgy⟩,hs,hb,dx,dy⟩:=hg
  obtain⟨⟨n,m⟩,h1,h⟩:=bs h
  obtain⟨⟨n',m'⟩,h2,h⟩:=bs h
  split at h
  ·rename_i hn
   obtain rfl:n=n':=hn
   obtain⟨fk,h3,h⟩:=bs h
   obtain⟨fs,h4,rfl⟩:=ag h
   rw[xS,zF,yP] at hs
   exact LN (hx x n m h1) (hx y n m' h2) C.room hp (C.gl hgx) (C.gl hgy) (O.e _ _ h3) (cB O h4) dx dy (mM hb) (bz hs.1) (cq hs.2)
  ·cases h
 ·cases h
theorem yy(C:Bk X.nox N sc k)(O:cR X.nox T)(hx:tY X.prog X.w X.K X.mg X.base k fx)(hp:eh (zg X.prog X.w) X E):∀ (n:Nat) {e:Expr}{xf:XE},Mo fx sc T n e=some xf->F8 X E e xf
 | 0,e,xf,h=>by cases h
 | n+1,e,xf,h=>by
  have ih:∀ {e:Expr}{o:Option XE},Mo fx sc T n e=o->F8 X E e (o.getD J5):=fun {e o} h=>by
   cases o with
   | none=>exact Pd
   | some x=>exact yy C O hx hp n h
  unfold Mo at h
  split at h
  ·exact Ob C O hx hp h
  ·exact MJ C O hx hp h
  ·obtain⟨t,ht,h⟩:=bs h
   split at h
   ·cases h
   ·cases h
    exact Qi (O.t _ _ ht) (ih rfl) (ih rfl)
  ·cases h
theorem K5{st:Stmt}{rest:List Stmt}{xh xr:XS}{g:GS}(h1:DX X E HF₀ H₀ st xh)(h2:DS X.nox HF₀ H₀ st g)(h3:Fo X E HF₀ H₀ rest xr):Fo X E HF₀ H₀ (st::rest) (dC xh g xr):=fun pins s σ H D I ⟨HF,ρ,c,C,S,hx,hc,q⟩=>by
 unfold dC at hx
 split at hx
 ·rename_i c' hh
  cases hx
  exact sP h1 pins s σ H D I ⟨HF,ρ,c,C,S,hh,hc,q⟩
 ·exact Ah h2 h3 pins s σ H D I ⟨HF,ρ,c,C,S,hx,hc,q⟩
theorem yb{f:Stmt->Option XS}(hf:∀s x,f s=some x->DX X E HF₀ H₀ s x)(ht:∀s g,tS s=some g->DS X.nox HF₀ H₀ s g):∀ {l:List Stmt}{x:XS},tN f tS l=some x->Fo X E HF₀ H₀ l x
 | [],x,h=>by cases h
 | s::r,x,h=>by
  have ih:=fun x=>yb hf ht (l:=r) (x:=x)
  unfold tN at h
  split at h
  ·cases h
  ·rename_i h1 h2
   cases h
   exact sP (hf _ _ h1)
  ·rename_i h1 h2
   obtain⟨g,hg,rfl⟩:=ag h
   exact Ah (ht _ _ hg) (ih _ h2)
  ·rename_i h1 h2
   split at h
   ·rename_i g hg
    cases h
    exact K5 (hf _ _ h1) (ht _ _ hg) (ih _ h2)
   ·cases h
    exact sP (hf _ _ h1)
def Sh(X:Cx)(E:XK)(HF₀ H₀:Hp)(cl:List Str):Prop:=∀x∈cl,Gl X x->(x == ("__debug__":Str))=false->∀ (np cpos pos p:Pos) (t:Str) (i:Nat),DX X E HF₀ H₀ (.Raise (some (.Call (.Name x np) [.Constant (.str t) i p] [] cpos)) none pos) (Pf x)
theorem Iu(C:Bk X.nox N sc k)(O:cR X.nox T)(hx:tY X.prog X.w X.K X.mg X.base k fx)(hp:eh (zg X.prog X.w) X E)(hr:Sh X E HF₀ H₀ cl)(ht:∀s g,tS s=some g->DS X.nox HF₀ H₀ s g):∀ (n:Nat) {st:Stmt}{x:XS},KN cl fx sc N T tS n st=some x->DX X E HF₀ H₀ st x
 | 0,st,x,h=>by cases h
 | n+1,st,x,h=>by
  have ih:∀ {l:List Stmt}{o:Option XS},tN (KN cl fx sc N T tS n) tS l=o->Fo X E HF₀ H₀ l (o.getD mf):=fun {l o} h=>by
   cases o with
   | none=>exact LU
   | some x=>exact yb (fun s x h=>Iu C O hx hp hr ht n h) ht h
  unfold KN at h
  split at h
  ·obtain⟨xf,hf,rfl⟩:=ag h
   exact Nj (yy C O hx hp 4 hf)
  ·split at h
   ·rename_i hc
    obtain⟨xf,hf,rfl⟩:=ag h
    refine Om (yy C O hx hp 4 hf) ?_
    rename_i e pos
    cases e<;>first|rfl|cases hc
   ·cases h
  ·obtain⟨i,hi,h⟩:=bs h
   split at h
   ·rename_i hl
    simp only[zF,yP] at hl
    obtain⟨xf,hf,rfl⟩:=ag h
    obtain⟨z1,z2,z3,z4⟩:=C.loc hl.1
    exact cD (r9 z1 z2 z3 (yy C O hx hp 4 hf) (o5 hl.2) z4) fun D σ H q=>Ht q
   ·cases h
  ·obtain⟨t,ht',h⟩:=bs h
   split at h
   ·cases h
   ·cases h
    exact Pp (O.t _ _ ht') (ih rfl) (ih rfl)
  ·split at h
   ·rename_i hc
    simp only[zF,yP] at hc
    cases h
    exact hr _ (List.contains_iff_mem.mp hc.1.1) (C.gl hc.1.2) hc.2 _ _ _ _ _ _
   ·cases h
  ·cases h
end
abbrev E4(st:Stmt)(N:List Str)(S:Sg)(fx:XT)(cl:List Str):Option XS:=tN (KN cl fx (aj st) N (tr S 40 none (aj st) N) (uv (aj st) N (tr S 40 none (aj st) N) 40) 10) (uv (aj st) N (tr S 40 none (aj st) N) 40) (bC st)
def LY(K:W.Frag)(mg:Str->Option Value)(cl:List Str):Prop:=∀c∈cl,∃C:Addr,mg c=some (.ref C)/\W.excIn K C Ot "ValueError.__new__"=true
section
variable {P:Program}{w:World}{K:W.Frag}{mg:Str->Option Value}{base:Heap}{j:Nat}
theorem L8{X:Cx}{E:XK}{N:List Str}{sc:Scope}{fs:List (Str×Nat×(List D->Option D))}{is:List (Str×Int)}{fx:XT}{cl:List Str}{HF₀ H₀:Hp}{l:List Stmt}{xg:XS}(C:Bk X.nox N sc j)(B:Bn X)(hf:iS X.prog X.w X.K X.mg X.base j fs)(hi:gq X.mg is)(hx:tY X.prog X.w X.K X.mg X.base j fx)(hp:eh (zg X.prog X.w) X E)(hr:Sh X E HF₀ H₀ cl)
  (t:tN (KN cl fx sc N (tr ⟨fs,is⟩ 40 none sc N) (uv sc N (tr ⟨fs,is⟩ 40 none sc N) 40) 10) (uv sc N (tr ⟨fs,is⟩ 40 none sc N) 40) l=some xg):Fo X E HF₀ H₀ l xg:=by
 have O:cR X.nox (tr ⟨fs,is⟩ 40 none sc N):=Dj (G:=⟨fs,is⟩) 40 C ⟨hf,hi,B⟩ (yM j) fun q z=>by cases z
 have ht:∀s g,uv sc N (tr ⟨fs,is⟩ 40 none sc N) 40 s=some g->DS X.nox HF₀ H₀ s g:=fun s g h=>sD C B O 40 h
 exact yb (fun s x h=>Iu C O hx hp hr ht 10 h) ht t
theorem p6{x:Str}{st:Stmt}{ps N:List Str}{xg:XS}{S:Sg}{fx:XT}{cl:List Str}(D:bN K mg x st ps)(B:∀x∈cg,mg x=none)(hf:iS P w K mg base j S.fn)(hi:gq mg S.int)(hx:tY P w K mg base j fx)(hc:LY K mg cl)(t:E4 st N S fx cl=some xg)(F:cT N ps (aj st):=by exact Rf.O4):tj P w K mg base (j+1) x ps.length (nF xg N.length):=by
 obtain⟨f,fd,hm,Fu,hb⟩:=D.ex
 refine fnX Fu F hb hm fun X E hP hw hK hm' hb' C hcalm hk HF H=>?_
 subst hP;subst hw;subst hK;subst hm';subst hb'
 exact L8 C B hf hi hx hk.pass (fun c hcl hg hd np cpos pos p t i=>by
  obtain⟨Ca,h1,h2⟩:=hc c hcl
  exact Iy hk hcalm hg h1 h2 hd) t
theorem oE:tY P w K mg base j []:=fun _ _ _ h=>by cases h
theorem xm{i:Nat}{x:Str}{n:Nat}{m:List D->Option Str}{l:XT}(F:tj P w K mg base i x n m)(h:tY P w K mg base j l)(e:i<=j:=by decide):tY P w K mg base j ((x,n,m)::l):=fun y n' m' e'=>by
 rw[yA] at e'
 cases q:y == x with
 | true=>rw[q] at e';cases e';rw[eq_of_beq q];exact F.mono e
 | false=>rw[q] at e';exact h y n' m' e'
end
def Qc(K:W.Frag)(C:Addr):Bool:=W.findIn K (.ref C) "__getattribute__" == some (some (.builtin "BaseException.__getattribute__"))&&(W.findIn K (.ref C) "__getattr__" == some none)&&(W.findIn K (.ref C) "__class__" == some (some (.builtin "object.__class__")))&&(W.specialIn K (.builtin "object.__class__") "__get__" == some (some (.builtin "getset_descriptor.__get__")))&&(W.takesIn K (.builtin "object.__class__") == some true)&&(W.mroIn K C (.type "object") == some true)&&(W.subIn K (.ref C) (.type "BaseException") == some true)&&(W.clsIn K C).isSome
def NI(K:W.Frag)(F:Addr)(cs:List (Str×Addr)):Bool:=(W.nsIn K mainGlobals "FlowError" == some (some (.ref F)))&&(W.nsIn K mainGlobals "ValueError" == some none)&&cs.all fun c=>(W.nsIn K mainGlobals c.1 == some (some (.ref c.2)))&&W.excIn K c.2 Ot "ValueError.__new__"&&Qc K c.2&&(W.exmOne K (.ref c.2) (.ref F) == some true)&&(W.kitOne K (.ref c.2) (.type "ValueError") == some true)&&cs.all fun d=>W.kitOne K (.ref c.2) (.ref d.2) == some (c.1 == d.1)
structure z6(K:W.Frag)(mg:Str->Option Value)(F:Addr)(cs:List (Str×Addr)):Prop where
 fe:mg "FlowError"=some (.ref F)
 ve:mg "ValueError"=none
 at_:∀c∈cs,mg c.1=some (.ref c.2)
 ex:∀c∈cs,W.excIn K c.2 Ot "ValueError.__new__"=true
 ek:∀c∈cs,Lp K c.2
 xm:∀c∈cs,W.exmOne K (.ref c.2) (.ref F)=some true
 kv:∀c∈cs,W.kitOne K (.ref c.2) (.type "ValueError")=some true
 kt:∀c∈cs,∀d∈cs,W.kitOne K (.ref c.2) (.ref d.2)=some (c.1 == d.1)
theorem Kz{K:W.Frag}{h:Heap}{mg:Str->Option Value}{F:Addr}{cs:List (Str×Addr)}(X:K.In h)(G:h.Ns mainGlobals mg)(e:NI K F cs=true):z6 K mg F cs:=by
 unfold NI at e
 simp only[zF,xG,vM] at e
 obtain⟨⟨e1,e2⟩,e3⟩:=e
 refine⟨W.mg_of X G e1,W.mg_none_of X G e2,fun c hc=>W.mg_of X G (e3 c hc).1.1.1.1.1,fun c hc=>(e3 c hc).1.1.1.1.2,fun c hc=>?_,fun c hc=>(e3 c hc).1.1.2,fun c hc=>(e3 c hc).1.2,fun c hc d hd=>(e3 c hc).2 d hd⟩
 have q:=(e3 c hc).1.1.1.2
 unfold Qc at q
 simp only[zF,vM] at q
 exact⟨q.1.1.1.1.1.1.1,q.1.1.1.1.1.1.2,q.1.1.1.1.1.2,q.1.1.1.1.2,q.1.1.1.2,q.1.1.2,q.1.2,q.2⟩
theorem z6.ok{K:W.Frag}{mg:Str->Option Value}{F:Addr}{cs:List (Str×Addr)}{cl:List Str}(M:z6 K mg F cs)(h:(cl.all fun c=>(cs.map Prod.fst).contains c)=true):LY K mg cl:=fun c hc=>by
 have:=List.contains_iff_mem.mp (List.all_eq_true.mp h c hc)
 obtain⟨q,hq,rfl⟩:=List.mem_map.mp this
 exact⟨q.2,M.at_ q hq,M.ex q hq⟩
def QP(sc:Scope):Expr->Option Str
 | .Call (.Name f _) [.Name n _,.Name y _] [] _=>if (f == ("isinstance":Str)&&n == ("_law_e":Str)&&pU sc "isinstance"&&pU sc y)=true then some y else none
 | _=>none
def Hu(sc:Scope):List Expr->Option (List Str)
 | []=>some []
 | e::r=>(QP sc e).bind fun y=>(Hu sc r).map fun ys=>y::ys
def kr(ns:List Str)(c:Str):Option D:=if ns.contains c=true then (tT (.bool true) (ns.map fun n=>.bool (c == n))).map fun j=>.tuple [.str "refused",.int ((j:Nat):Int)] else none
section
variable {P:Program}{w:World}{K:W.Frag}{mg:Str->Option Value}{base:Heap}{F:Addr}{cs:List (Str×Addr)}
theorem Hz{X:Cx}{sc:Scope}{ea:Addr}{ob:Obj}{c:Str×Addr}{e:Expr}{y:Str}{v:Value}{b:Bool}(M:z6 X.K X.mg F cs)(hc:c∈cs)(hpn:(ea,ob)∈X.pn)(hcls:ob.cls=.ref c.2)(hsc:KA X sc)(hmi:X.mg "isinstance"=none)(hN:X.N[0]?=some ("_law_e":Str))(hl:X.env.kindOf ("_law_e":Str)=some .local)(hs:X.env.scope.names.lookup ("_law_e":Str)=some .local)
  (hr:QP sc e=some y) (hy:∀ {p2:Pos}{pins:List (Addr×Obj)}{σ:L2.St}{H:Hp}{s:Shared}{Q:Value->Shared->Prop},Gl X y->Inv X pins σ H s->Q v s->wpAny (model X.prog X.w) X.A (eval (.Name y p2) X.env) Q X.xe s) (hk:W.kitOne X.K (.ref c.2) v=some b) :
  PE X e (fun σ H Q=>σ[0]?=some (some (.ref ea))/\Q (.bl b) H)/\(∀env whole,isTrue e env whole=(do let v <- whole;standAt e.pos;holding [v] (truthy v)))/\∀es:List Expr,starEach (e::es) X.env=(false,eval e X.env)::starEach es X.env:=by
 unfold QP at hr
 split at hr
 ·rename_i f pf n pn y' py pos
  split at hr
  ·rename_i hh
   cases hr
   simp only[zF,vM] at hh
   obtain⟨⟨⟨rfl,rfl⟩,hg⟩,hgy⟩:=hh
   have gl:∀ {x:Str},pU sc x=true->Gl X x:=fun h=>by
    rcases hsc _ _ (yQ h) with q|⟨q,_⟩
    ·exact q
    ·cases q
   exact⟨M4 (M.ek c hc) hpn hcls (gl hg) hmi hN hl hs (by decide) (fun {pins σ H s Q} I q=>hy (gl hgy) I q) hk,fun env whole=>rfl,fun es=>rfl⟩
  ·cases hr
 ·cases hr
theorem xq{X:Cx}{sc:Scope}{ea:Addr}{ob:Obj}{c:Str×Addr}(M:z6 X.K X.mg F cs)(hc:c∈cs)(hpn:(ea,ob)∈X.pn)(hcls:ob.cls=.ref c.2)(hsc:KA X sc)(hmi:X.mg "isinstance"=none)(hN:X.N[0]?=some ("_law_e":Str))(hl:X.env.kindOf ("_law_e":Str)=some .local)(hs:X.env.scope.names.lookup ("_law_e":Str)=some .local)(hd:(cs.all fun d=>!(d.1 == ("__debug__":Str)))=true) :
  ∀ {es:List Expr}{ns:List Str},Hu sc es=some ns->(ns.all fun c=>(cs.map Prod.fst).contains c)=true->l4 X ea es (ns.map fun n=>c.1 == n)
 | [],ns,h,_=>by cases h;exact OE
 | e::es,ns,h,ha=>by
  unfold Hu at h
  obtain⟨y,hy,h⟩:=bs h
  obtain⟨ys,hys,rfl⟩:=ag h
  rw[xS,zF] at ha
  obtain⟨d,hdm,rfl⟩:=List.mem_map.mp (List.contains_iff_mem.mp ha.1)
  have hdb:(d.1 == ("__debug__":Str))=false:=by simpa using List.all_eq_true.mp hd d hdm
  obtain⟨h1,_,h3⟩:=Hz (v:=.ref d.2) M hc hpn hcls hsc hmi hN hl hs hy (fun {p2 pins σ H s Q} hg I q=>ma I hg (M.at_ d hdm) q hdb) (M.kt c hc d hdm)
  exact Lb h1 (xq M hc hpn hcls hsc hmi hN hl hs hd hys ha.2) (h3 es)
theorem F6{A:Around}{env:PySem.Env}(h:A.units+200 < cLine):(A.deeper env).units+66 < cLine:=by
 have:(A.deeper env).units<=A.units+16:=by simp[Around.deeper]
 omega
theorem Qw{k:Nat}{st:Stmt}{es1 es2:List Expr}{e6:Expr}{bad:List Stmt}{a1 a2 a3 b1 b2 b3 b4 b5 c1 c2 c3 c4 c5 c6 c7 c8 c9 d1 d2 d3 d4 d5 d6 d7:Pos}{i1 i2 i3 i4 k1:Nat}{ns1 ns2:List Str}(D:bN K mg "_law_refused" st ["_law_e"])(M:z6 K mg F cs)(B:∀x∈cg,mg x=none)
  (hb:bC st=[.Assign [.Name "_law_flags" a1] (.List es1 a2) a3,.Assign [.Name "_law_flags" b1] (.BinOp (.Name "_law_flags" b2) .Add (.List es2 b3) b4) b5,
   .If (.BoolOp .Or [.Compare (.Call (.Attribute (.Name "_law_flags" c1) "count" c2) [.Constant (.bool true) i1 c3] [] c4) [.NotEq] [.Constant (.int 1) i2 c5] c6,.UnaryOp .Not e6 c7] c8) bad [] c9,
   .Return (some (.Tuple [.Constant (.str "refused") i3 d1,.Call (.Attribute (.Name "_law_flags" d3) "index" d2) [.Constant (.bool true) i4 d5] [] d4] k1 d6)) d7])
  (S:cT [("_law_e":Str),("_law_flags":Str)] ["_law_e"] (aj st)) (r1:Hu (aj st) es1=some ns1) (r2:Hu (aj st) es2=some ns2) (r6:QP (aj st) e6=some "ValueError")
  (s1:(aj st).names.lookup ("_law_e":Str)=some .local) (s2:(aj st).names.lookup ("_law_flags":Str)=some .local) (QW:((ns1++ns2).all fun c=>(cs.map Prod.fst).contains c&&decide (Jy (.bool true) ((ns1++ns2).map fun n=>.bool (c == n))=1))=true) (hdb:(cs.all fun d=>!(d.1 == ("__debug__":Str)))=true) (hz:ns1.length+ns2.length<=sizeLine) (l1:(c2.endLine == c4.line)=true) (l2:(d2.endLine == d4.line)=true) :
  ∀c d,kr (ns1++ns2) c=some d->Do P w K mg base k "_law_refused" c d:=fun c d h=>by
 unfold kr at h
 split at h
 ·rename_i hc
  have hcm:=List.contains_iff_mem.mp hc
  obtain⟨j,hj,rfl⟩:=ag h
  have hcc:=List.all_eq_true.mp QW c hcm
  rw[zF] at hcc
  obtain⟨q,hq,rfl⟩:=List.mem_map.mp (List.contains_iff_mem.mp hcc.1)
  have hcnt:=yQ hcc.2
  obtain⟨f,fd,hm,Fu,hbd⟩:=D.ex
  refine⟨f,fd,["_law_e"],hm,Fu.kp,hbd,rfl,fun A outer s H args ea C hdp hun e0 hbt hC hex=>?_⟩
  obtain⟨⟨ob,vs,ho,hcl,hd⟩,hn,hf⟩:=hex
  have hCq:C=q.2:=by
   have:=M.at_ q hq
   rw[hC] at this
   cases this
   rfl
  subst hCq
  refine FN (C:=q.2) Fu S rfl (by omega) e0 hbt ho hd hn hf fun cdv t1 I=>?_
  rw[hb]
  have hall:∀ {l:List Str},(∀n∈l,n∈ns1++ns2)->(l.all fun c=>(cs.map Prod.fst).contains c)=true:=fun hl=>by
   rw[xG]
   intro n hn
   have:=List.all_eq_true.mp QW n (hl n hn)
   rw[zF] at this
   exact this.1
  let X:Cx:=D0 P w K mg base [("_law_e":Str),("_law_flags":Str)] "_law_refused" (aj st) f cdv A outer s H [(ea,ob)]
  have hpn:(ea,ob)∈X.pn:=List.mem_singleton.mpr rfl
  have hsc:KA X (aj st):=fun y kd hy=>.inl hy
  have hmi:X.mg "isinstance"=none:=B _ (by decide)
  have f1:=xq (X:=X) (sc:=aj st) M hq hpn hcl hsc hmi rfl s1 s1 hdb r1 (hall fun n hn=>qJ _ hn)
  have f2:=xq (X:=X) (sc:=aj st) M hq hpn hcl hsc hmi rfl s1 s1 hdb r2 (hall fun n hn=>yD _ hn)
  obtain⟨f6,w6,_⟩:=Hz (X:=X) (sc:=aj st) (v:=.type "ValueError") M hq hpn hcl hsc hmi rfl s1 s1 r6 (fun {p2 pins σ H s Q} hg I q=>gw I hg M.ve (by decide +kernel) q) (M.kv q hq)
  have main:=Jc (X:=X) (bad:=bad) (j:=j) (a1:=a1) (a2:=a2) (a3:=a3) (b1:=b1) (b2:=b2) (b3:=b3) (b4:=b4) (b5:=b5) (b6:=b5) (c1:=c1) (c2:=c2) (c3:=c3) (c4:=c4) (c5:=c5) (c6:=c6) (c7:=c7) (c8:=c8) (c9:=c9) (d1:=d1) (d2:=d2) (d3:=d3) (d4:=d4) (d5:=d5) (d6:=d6) (d7:=d7) (i1:=i1) (i2:=i2) (i3:=i3) (i4:=i4) (k1:=k1) (F6 (by omega)) rfl s2 f1 f2 f6 (fun whole=>w6 _ whole)
   (by rw[<- jA,zM];exact hcnt) (by rw[<- jA,zM];exact hj) (by rw[zD,zD];exact hz) l1 l2
   [] t1 (L2.start [("_law_e":Str),("_law_flags":Str)] [.ref ea]) H ⟨fun _ _=>False,fun v H'=>∀HF,aW HF H->∃HF',bF HF H HF' H'/\Rep K HF' (.tuple [.str "refused",.int ((j:Nat):Int)]) v,fun _ _=>False,fun _ _=>False⟩ I ⟨rfl,rfl,fun v H' z=>z⟩
  refine cx main fun fl s' z=>?_
  cases fl with
  | next=>obtain⟨_,_,_,z⟩:=z;exact z.elim
  | brk=>obtain⟨_,_,_,z⟩:=z;exact z.elim
  | cont=>obtain⟨_,_,_,z⟩:=z;exact z.elim
  | ret u =>
   obtain⟨v,σ',H',J,r,z⟩:=z
   exact⟨u,v,σ',H',rfl,J,r,z⟩
 ·cases h
theorem vn:∀ (names:List (Str×NameKind)) (n:Nat),(names.all fun y=>!(y.2 == NameKind.cell))=true->cellsFrom n names []=[]
 | [],_,_=>rfl
 | (x,k)::r,n,h=>by
  rw[xS,zF] at h
  unfold cellsFrom
  rw[yN (by simpa using h.1)]
  exact vn r n h.2
def Ql(st:Stmt)(N:List Str)(S:Sg)(fx:XT)(ns:List Str):List Stmt->Option GS
 | [.Try body [.ExceptHandler (some (.Name e _)) (some n) [.Return (some (.Call (.Name r _) [.Name m _] [] _)) _] _] [] [] _] =>
  if (e == ("FlowError":Str)&&r == ("_law_refused":Str)&&m == n&&!(n == ("__debug__":Str))&&pU (aj st) "FlowError"&&pU (aj st) "_law_refused"&&decide ((aj st).names.lookup n=some .local)&&(aj st).names.all (fun y=>!(y.2 == NameKind.cell))&&N.contains n)=true then
   (pW (uv (aj st) N (tr S 40 none (aj st) N) 40) body).map fun gb=>AY gb ((tN (KN [] fx (aj st) N (tr S 40 none (aj st) N) (uv (aj st) N (tr S 40 none (aj st) N) 40) 10) (uv (aj st) N (tr S 40 none (aj st) N) 40) body).getD mf) (kr ns)
  else none
 | _=>none
abbrev Q5(st:Stmt)(N:List Str)(S:Sg)(fx:XT)(ns:List Str):Option GS:=Ql st N S fx ns (bC st)
theorem Qe{j:Nat}{x:Str}{st:Stmt}{ps N ns:List Str}{g:GS}{S:Sg}{fx:XT}(D:bN K mg x st ps)(B:∀x∈cg,mg x=none)(M:z6 K mg F cs)(hf:iS P w K mg base j S.fn)(hi:gq mg S.int)(hx:tY P w K mg base j fx)(R:∀c d,kr ns c=some d->Do P w K mg base j "_law_refused" c d)(hns:(ns.all fun c=>(cs.map Prod.fst).contains c)=true)(t:Q5 st N S fx ns=some g)(FS:cT N ps (aj st):=by exact Rf.O4):eJ P w K mg base (j+1) x ps.length (bD g N.length):=by
 obtain⟨f,fd,hm,Fu,hb⟩:=D.ex
 refine⟨f,fd,ps,?_,hm,Fu.kp,hb⟩
 obtain⟨oc,od,kV,doc,pm,an,cdv,ct,osl,rfl,lk,hcd⟩:=Fu.ex
 refine Jk lk hcd FS (fun vs H Q E ⟨HF,ds,d,h1,_,h2,h3,_⟩=>by rw[h2.length,h3]) fun A outer s H vs Q E hr ⟨HF,ds,d,sm,tb,rr,hl,hd,q⟩=>?_
 have key:∀X:Cx,X=(sF Hh P w K mg base N x (aj st) f cdv A outer s H E).nox->Bk X N (aj st) j->∀HF1 H1,D4 X HF1 H1 (bC st) g:=fun X hX C HF1 H1=>by
  unfold Q5 at t
  generalize bC st=bd at t
  unfold Ql at t
  split at t
  ·rename_i body e pe n r pr m pm' pc prt ph pt
   split at t
   ·rename_i hh
    simp only[zF,vM,yP,zJ] at hh
    obtain⟨⟨⟨⟨⟨⟨⟨⟨rfl,rfl⟩,rfl⟩,hnd⟩,hgF⟩,hgR⟩,hloc⟩,hnc⟩,hNn⟩:=hh
    obtain⟨gb,hgb,rfl⟩:=ag t
    obtain⟨i,hi',hiN⟩:=qQ (List.contains_iff_mem.mp hNn)
    have hiN':N[i]?=some m:=by rw[zK hi',hiN]
    subst hX
    refine Dr (Oa (i:=i) rfl rfl (C.gl hgF) M.fe (by decide) C.nd hiN' hloc hloc ?_ ?_ ?_ ?_)
    ·show List.lookup m (cellsFrom _ _ [])=none
     rw[vn _ _ hnc]
     rfl
    ·exact Rf.gP (fun s g h=>sD C B (Dj (G:=S) 40 C ⟨hf,hi,B⟩ (yM j) fun q z=>by cases z) 40 h) hgb
    ·intro pn xe E' hp
     have C':Bk (gu (sF Hh P w K mg base N x (aj st) f cdv A outer s H E).nox pn xe).nox N (aj st) j:=⟨rfl,FS.nd,fun y kd hy=>.inl hy,rfl,fun _ _=>rfl,hr,rfl,FS.kind⟩
     cases hq:tN (KN [] fx (aj st) N (tr S 40 none (aj st) N) (uv (aj st) N (tr S 40 none (aj st) N) 40) 10) (uv (aj st) N (tr S 40 none (aj st) N) 40) body with
     | none=>exact LU
     | some xg=>exact L8 C' B hf hi hx hp (fun c hcl=>by cases hcl) hq
    ·intro c d hcd
     have hcd':=hcd
     unfold kr at hcd'
     split at hcd'
     ·rename_i hc
      obtain⟨z,hz,rfl⟩:=List.mem_map.mp (List.contains_iff_mem.mp (List.all_eq_true.mp hns c (List.contains_iff_mem.mp hc)))
      refine⟨fun C hC=>?_,⟨z.2,M.at_ z hz⟩,EW (R z.1 d hcd) C.room (C.gl hgR) (by decide) hiN' hloc hloc hnd⟩
      have:=M.at_ z hz
      rw[show mg z.1=some (.ref C) from hC] at this
      cases this
      exact M.xm z hz
     ·cases hcd'
   ·cases t
  ·cases t
 unfold bD at hd
 obtain⟨o,ho,hd⟩:=ag hd
 refine⟨_,(key _ rfl ⟨rfl,FS.nd,fun y kd hy=>.inl hy,rfl,fun _ _=>rfl,hr,rfl,FS.kind⟩ HF H).nox,HF,_,o,Bt sm tb rr,ho,?_⟩
 cases o with
 | rt d'=>cases hd;exact fun v H' HF' G r=>q v H' HF' G r
 | nx ρ'=>cases hd;exact fun σ' H' HF' S' _=>q .non H' HF' S'.gr (by simp[Rep])
end
end Ex
namespace Hd
open PySem L2 Dl PySem.Spec PyProof.Rows
section
variable {K:W.Frag}
theorem PY{x:Str}{st:Stmt}{ps:List Str}{f c:Addr}{pm:Value}(hb:ij st ps)(a:W.nsIn K mainGlobals x=some (some (.ref f)))(l:K.lookup f=some (fo x st pm c))(d:W.codeIn K (.ref c) x=true)(k:W.keepIn K (.ref f)=true):aU K x st ps:=Qo hb a l d k
theorem SE{x:Str}{st:Stmt}{ps:List Str}{f c:Addr}{pm:Value}(hb:ij st ps)(a:W.nsIn K mainGlobals x=some (some (.ref f)))(l:K.lookup f=some (fo x st pm c))(d:W.codeIn K (.ref c) x=true)(k:W.keepIn K (.ref f)=true)(hh:W.codeHdIn K c (LM K c)=true):uZ K x st ps:=Qg hb a l d k hh
end
section
variable {α:Type}{R:List α->Prop}
theorem Cu(h:∀a,R [a])(us:List α)(e:us.length=1):R us:=by
 obtain⟨a,rfl⟩:=List.length_eq_one_iff.mp e;exact h a
theorem Lo{n:Nat}(us:List α)(e:us.length=n+1):∃a r,us=a::r/\r.length=n:=by
 cases us with
 | nil=>cases e
 | cons a r=>exact⟨a,r,rfl,by simpa using e⟩
theorem Qu(h:∀a b,R [a,b])(us:List α)(e:us.length=2):R us:=by
 obtain⟨a,r,rfl,e'⟩:=Lo us e;exact Cu (R:=fun r=>R (a::r)) (h a) r e'
theorem MF(h:∀a b c,R [a,b,c])(us:List α)(e:us.length=3):R us:=by
 obtain⟨a,r,rfl,e'⟩:=Lo us e;exact Qu (R:=fun r=>R (a::r)) (h a) r e'
theorem P6(h:∀a b c d,R [a,b,c,d])(us:List α)(e:us.length=4):R us:=by
 obtain⟨a,r,rfl,e'⟩:=Lo us e;exact MF (R:=fun r=>R (a::r)) (h a) r e'
theorem Q6(h:∀a b c d f,R [a,b,c,d,f])(us:List α)(e:us.length=5):R us:=by
 obtain⟨a,r,rfl,e'⟩:=Lo us e;exact P6 (R:=fun r=>R (a::r)) (h a) r e'
end
section
variable {K:W.Frag}
theorem f1(f c:Addr)(pm:Value){x:Str}{st:Stmt}{ps:List Str}(hb:ij st ps:=by exact fun _ _ _ _ _ _ _ _ us hl=>Cu (R:=fun us=>bindArgs _ ⟨us,[]⟩=pure (List.zip _ us)) (fun _=>rfl) us hl)(a:W.nsIn K mainGlobals x=some (some (.ref f)):=by kernel_rfl)(l:K.lookup f=some (fo x st pm c):=by kernel_rfl)(d:W.codeIn K (.ref c) x=true:=by kernel_rfl)(k:W.keepIn K (.ref f)=true:=by kernel_rfl):aU K x st ps:=PY hb a l d k
theorem f2(f c:Addr)(pm:Value){x:Str}{st:Stmt}{ps:List Str}(hb:ij st ps:=by exact fun _ _ _ _ _ _ _ _ us hl=>Qu (R:=fun us=>bindArgs _ ⟨us,[]⟩=pure (List.zip _ us)) (fun _ _=>rfl) us hl)(a:W.nsIn K mainGlobals x=some (some (.ref f)):=by kernel_rfl)(l:K.lookup f=some (fo x st pm c):=by kernel_rfl)(d:W.codeIn K (.ref c) x=true:=by kernel_rfl)(k:W.keepIn K (.ref f)=true:=by kernel_rfl):aU K x st ps:=PY hb a l d k
theorem f3(f c:Addr)(pm:Value){x:Str}{st:Stmt}{ps:List Str}(hb:ij st ps:=by exact fun _ _ _ _ _ _ _ _ us hl=>MF (R:=fun us=>bindArgs _ ⟨us,[]⟩=pure (List.zip _ us)) (fun _ _ _=>rfl) us hl)(a:W.nsIn K mainGlobals x=some (some (.ref f)):=by kernel_rfl)(l:K.lookup f=some (fo x st pm c):=by kernel_rfl)(d:W.codeIn K (.ref c) x=true:=by kernel_rfl)(k:W.keepIn K (.ref f)=true:=by kernel_rfl):aU K x st ps:=PY hb a l d k
theorem l3(f c:Addr)(pm:Value){x:Str}{st:Stmt}{ps:List Str}(hb:ij st ps:=by exact fun _ _ _ _ _ _ _ _ us hl=>MF (R:=fun us=>bindArgs _ ⟨us,[]⟩=pure (List.zip _ us)) (fun _ _ _=>rfl) us hl)(a:W.nsIn K mainGlobals x=some (some (.ref f)):=by kernel_rfl)(l:K.lookup f=some (fo x st pm c):=by kernel_rfl)(d:W.codeIn K (.ref c) x=true:=by kernel_rfl)(k:W.keepIn K (.ref f)=true:=by kernel_rfl)(hh:W.codeHdIn K c (LM K c)=true:=by kernel_rfl):uZ K x st ps:=SE hb a l d k hh
theorem f4(f c:Addr)(pm:Value){x:Str}{st:Stmt}{ps:List Str}(hb:ij st ps:=by exact fun _ _ _ _ _ _ _ _ us hl=>P6 (R:=fun us=>bindArgs _ ⟨us,[]⟩=pure (List.zip _ us)) (fun _ _ _ _=>rfl) us hl)(a:W.nsIn K mainGlobals x=some (some (.ref f)):=by kernel_rfl)(l:K.lookup f=some (fo x st pm c):=by kernel_rfl)(d:W.codeIn K (.ref c) x=true:=by kernel_rfl)(k:W.keepIn K (.ref f)=true:=by kernel_rfl):aU K x st ps:=PY hb a l d k
theorem f5(f c:Addr)(pm:Value){x:Str}{st:Stmt}{ps:List Str}(hb:ij st ps:=by exact fun _ _ _ _ _ _ _ _ us hl=>Q6 (R:=fun us=>bindArgs _ ⟨us,[]⟩=pure (List.zip _ us)) (fun _ _ _ _ _=>rfl) us hl)(a:W.nsIn K mainGlobals x=some (some (.ref f)):=by kernel_rfl)(l:K.lookup f=some (fo x st pm c):=by kernel_rfl)(d:W.codeIn K (.ref c) x=true:=by kernel_rfl)(k:W.keepIn K (.ref f)=true:=by kernel_rfl):aU K x st ps:=PY hb a l d k
end
end Hd
namespace Pg
open PySem L2 Dl PySem.Spec PyProof.Rows
abbrev Cj:List Str:=["thing","least","most"]
def mX:ar->Option Out:=(ay (dW (sM (bE (fB (Mp "int" (ae 0)))) (fB (Mp "bool" (ae 0)))) (aM (fC (.bool false))) du) (aM (lx Dq Dq (ae 1) (ae 0) (ae 2))))
def aS:List D->Option D:=bD mX 3
abbrev Bz:List Str:=["thing","many"]
def kh:ar->Option Out:=(aM (ai 3 aS (aa (ae 0) (aa (fC (.int 0)) (aa (f2 Dl.cU (ae 1) (fC (.int 1))) af)))))
def cf:List D->Option D:=bD kh 2
abbrev Es:List Str:=["thing","least","most"]
def pk:ar->Option Out:=(aM (me (Mp "tuple" (ae 0)) (lx Dq Dq (ae 1) (aZ aP (aa (ae 0) af)) (ae 2))))
def bw:List D->Option D:=bD pk 3
abbrev AG:List Str:=["thing","many"]
def k4:ar->Option Out:=(ay (dW (bE (fB (Mp "tuple" (ae 0)))) (aM (fC (.bool false))) du) (ay (dW (bE (fB (aZ n6 (aa (bR (au 1 [1] (bL (ae 0)) (fG 0) (fun _=>some true) (ai 2 cf (aa (ae 0) (aa (ae 1) af))))) af)))) (aM (fC (.bool false))) du) (aM (f2 ba (f1 l6 (ae 0)) (aZ aP (aa (ae 0) af))))))
def fA:List D->Option D:=bD k4 2
abbrev Ie:List Str:=["thing","many"]
def sr:ar->Option Out:=(aM (me (ai 3 bw (aa (ae 0) (aa (fC (.int 2)) (aa (fC (.int 2)) af)))) (me (ai 3 aS (aa (f2 av (ae 0) (fC (.int 0))) (aa (fC (.int 0)) (aa (fC (.int 9)) af)))) (ai 2 fA (aa (f2 av (ae 0) (fC (.int 1))) (aa (ae 1) af))))))
def fI:List D->Option D:=bD sr 2
abbrev GW:List Str:=["thing","givers","takers"]
def rE:ar->Option Out:=(ay (dW (bE (fB (ai 3 bw (aa (ae 0) (aa (fC (.int 3)) (aa (fC (.int 3)) af)))))) (aM (fC (.bool false))) du) (aM (me (ai 2 cf (aa (f2 av (ae 0) (fC (.int 0))) (aa (ae 1) af))) (me (ai 2 cf (aa (f2 av (ae 0) (fC (.int 1))) (aa (ae 2) af))) (ai 3 aS (aa (f2 av (ae 0) (fC (.int 2))) (aa (fC (.int 1)) (aa (fC (.int 9)) af))))))))
def iP:List D->Option D:=bD rE 3
abbrev A1:List Str:=["givers","takers","ways"]
def lh:ar->Option Out:=(ay (dW (sM (bE (fB (ai 3 bw (aa (ae 0) (aa (fC (.int 1)) (aa (fC (.int 4)) af)))))) (bE (fB (ai 3 bw (aa (ae 1) (aa (fC (.int 1)) (aa (fC (.int 4)) af))))))) (aM (fC (.bool false))) du) (ay (dW (bE (fB (aZ n6 (aa (bR (au 1 [1] (bL (ae 0)) (fG 0) (fun _=>some true) (ai 2 fI (aa (ae 0) (aa (aZ aP (aa (ae 1) af)) af))))) af)))) (aM (fC (.bool false))) du) (ay (dW (bE (fB (aZ n6 (aa (bR (au 1 [0] (bL (ae 1)) (fG 0) (fun _=>some true) (ai 2 fI (aa (ae 0) (aa (aZ aP (aa (ae 1) af)) af))))) af)))) (aM (fC (.bool false))) du) (aM (me (Mp "tuple" (ae 2)) (aZ n6 (aa (bR (au 1 [0,1] (bL (ae 2)) (fG 0) (fun _=>some true) (ai 3 iP (aa (ae 0) (aa (aZ aP (aa (ae 1) af)) (aa (aZ aP (aa (ae 2) af)) af)))))) af)))))))
def fL:List D->Option D:=bD lh 3
abbrev uo:List Str:=["places","pairs","number","place"]
def ir:ar->Option Out:=(ay (bu 1 [] (b0 af)) (ay (ee [0] (bO (aa (ae 0) af)) (gJ 2 3) (Ew 1 [2,3] (au 1 [2] (bL (f2 av (ae 3) (fC (.int 1)))) (fG 0) (fun _=>some true) (aN (aa (ae 1) (aa (ae 0) af)))))) (aM (ae 1))))
def bK:List D->Option D:=bD ir 4
abbrev B8:List Str:=["thing","joined","by_givers","by_takers"]
def gh:ar->Option Out:=(ay (dW (sM (bE (fB (ai 3 bw (aa (ae 0) (aa (fC (.int 3)) (aa (fC (.int 3)) af)))))) (bE (fB (ai 3 fL (aa (f2 av (ae 0) (fC (.int 0))) (aa (f2 av (ae 0) (fC (.int 1))) (aa (f2 av (ae 0) (fC (.int 2))) af))))))) (aM (fC (.bool false))) du) (ay (bu 1 [0] (au 1 [] (bL (f2 av (ae 0) (fC (.int 2)))) (fG 0) (fun _=>some true) (aN (aa (f2 av (ae 0) (fC (.int 0))) (aa (f2 av (ae 0) (fC (.int 1))) af))))) (ay (bu 2 [0] (k6 gQ (aa (ai 1 bK (aa (f2 av (ae 0) (fC (.int 0))) af)) af))) (ay (bu 3 [0] (k6 gQ (aa (bR (au 2 [] (bL (ai 1 bK (aa (f2 av (ae 0) (fC (.int 1))) af))) (j6 0 1) (fun _=>some true) (aN (aa (ae 1) (aa (ae 0) af))))) af))) (aM (me (f2 ba (ae 1) (ae 2)) (f2 ba (ae 1) (ae 3))))))))
def bh:List D->Option D:=bD gh 4
abbrev mG:List Str:=["world"]
def dD:ar->Option Out:=(dW (bE (fB (ai 1 bh (aa (ae 0) af)))) PX du)
def bp:List D->Option D:=bD dD 1
abbrev mn:List Str:=["thing","least","most"]
def cm:ar->Option Out:=(dW (bE (fB (ai 3 aS (aa (ae 0) (aa (ae 1) (aa (ae 2) af)))))) PX du)
def cO:List D->Option D:=bD cm 3
abbrev lK:List Str:=["thing","many"]
def bX:ar->Option Out:=(cQ (ai 3 cO (aa (ae 0) (aa (fC (.int 0)) (aa (f2 Dl.cU (ae 1) (fC (.int 1))) af)))))
def aB:List D->Option D:=bD bX 2
abbrev ou:List Str:=["thing"]
def eG:ar->Option Out:=(cQ (ai 2 aB (aa (ae 0) (aa (fC (.int 2)) af))))
def dg:List D->Option D:=bD eG 1
abbrev EI:List Str:=["world","side","place","ways","likes","own"]
def lV:ar->Option Out:=(ay (aY 3 [0] (f2 av (ae 0) (fC (.int 2)))) (ay (aY 4 [0,1,2] (f2 av (f2 av (f2 av (ae 0) (ae 1)) (ae 2)) (fC (.int 1)))) (ay (bu 5 [1,2,3] (au 2 [1,2] (bO (aa (ae 3) af)) (j6 0 1) (fB (f2 ba (f2 av (ae 1) (ae 2)) (ae 3))) (ae 0))) (aM (bR (oH [1,3,4] (ae 5) (f2 jh (ae 3) (f2 av (f2 av (ae 2) (ae 0)) (f2 Dl.cU (fC (.int 1)) (ae 1))))))))))
def eT:List D->Option D:=bD lV 6
abbrev zt:List Str:=["world","side","place","offers","chosen","left","number"]
def gS:ar->Option Out:=(ay (bu 4 [0] (au 1 [] (bL (f2 av (ae 0) (fC (.int 2)))) (fG 0) (fun _=>some true) (fC (.int 0)))) (ay (aY 5 [0,1,2] (f2 av (f2 av (f2 av (ae 0) (ae 1)) (ae 2)) (fC (.int 0)))) (ay (ee [0,1,2] (bL (ai 3 eT (aa (ae 0) (aa (ae 1) (aa (ae 2) af))))) (qt 6) (ay (wq 4 [0,3,5,6] (ae 6) (aZ sW (aa (f2 av (ae 3) (ae 6)) (aa (f2 av (f2 av (f2 av (ae 0) (fC (.int 2))) (ae 6)) (fC (.int 2))) (aa (ae 5) af))))) (aY 5 [4,5,6] (f2 Dl.cU (ae 5) (f2 av (ae 4) (ae 6)))))) (aM (aZ bV (aa (ae 4) af))))))
def gZ:List D->Option D:=bD gS 7
abbrev Bv:List Str:=["_law_script","_law_k"]
def gL:ar->Option Out:=(ay (dW (fB (f2 ba (ae 0) (bR (b0 af)))) (aM (f2 dM (fC (.int 7)) (ae 1))) du) (aM (f2 aI (f2 av (ae 0) (f2 md (ae 1) (aZ aP (aa (ae 0) af)))) (f2 dM (fC (.int 6553)) (f2 ow (ae 1) (aZ aP (aa (ae 0) af)))))))
def dX:List D->Option D:=bD gL 2
abbrev xc:List Str:=["_law_script","_law_k","_law_many","_law_cell_here"]
def jm:ar->Option Out:=(ay (aY 3 [0,1] (f2 md (f2 aI (f2 dM (f2 md (ai 2 dX (aa (ae 0) (aa (ae 1) af))) (fC (.int 2147483563))) (fC (.int 69069))) (f2 dM (fC (.int 104723)) (f2 aI (ae 1) (fC (.int 1))))) (fC (.int 2147483563)))) (ay (aY 3 [3] (f2 md (f2 aI (f2 dM (ae 3) (ae 3)) (f2 ow (ae 3) (fC (.int 3)))) (fC (.int 2147483399)))) (aM (f2 md (f2 ow (f2 md (f2 aI (f2 dM (ae 3) (ae 3)) (f2 ow (ae 3) (fC (.int 7)))) (fC (.int 2147483647))) (fC (.int 11))) (ae 2)))))
def ak:List D->Option D:=bD jm 4
abbrev uk:List Str:=["_law_script","_law_at","_law_rows","_law_found","_law_k","_law_row","_law_order","_law_j","_law_one"]
def il:ar->Option Out:=(ay (bu 3 [] (b0 af)) (ay (ee [2] (bO (aa (ae 2) af)) (gJ 4 5) (ay (bu 6 [] (b0 af)) (ay (ee [5] (bO (aa (ae 5) af)) (gJ 7 8) (HY 6 [8] (ai 3 ak (aa (ae 0) (aa (f2 aI (f2 aI (ae 1) (f2 dM (fC (.int 4)) (ae 4))) (ae 7)) (aa (f2 aI (aZ aP (aa (ae 6) af)) (fC (.int 1))) af)))) (ae 8))) (um 3 [6] (aZ bV (aa (ae 6) af)))))) (aM (ae 3))))
def bS:List D->Option D:=bD il 9
abbrev ze:List Str:=["_law_script","_law_at","_law_most","_law_each","_law_takers","_law_many","_law_size","_law_ways","_law_k","_law_mine","_law_yours","_law_givers"]
def eA:ar->Option Out:=(ay (dW (dw (fB (f2 tm (ae 2) (fC (.int 3)))) (fB (f2 ba (ai 3 ak (aa (ae 0) (aa (f2 aI (ae 1) (fC (.int 64))) (aa (fC (.int 4)) af)))) (fC (.int 0))))) (ay (aY 3 [0,1] (f2 aI (fC (.int 1)) (ai 3 ak (aa (ae 0) (aa (f2 aI (ae 1) (fC (.int 65))) (aa (fC (.int 2)) af)))))) (ay (aY 4 [3] (aN (aa (aN (aa (ae 3) (aa (aN (aa (fC (.int 1)) (aa (fC (.int 0)) af))) af))) (aa (aN (aa (ae 3) (aa (aN (aa (fC (.int 0)) (aa (fC (.int 1)) af))) af))) af)))) (aM (aN (aa (aN (aa (aN (aa (ae 3) (aa (aN (aa (fC (.int 0)) (aa (fC (.int 1)) af))) af))) (aa (aN (aa (ae 3) (aa (aN (aa (fC (.int 1)) (aa (fC (.int 0)) af))) af))) af))) (aa (ae 4) (aa (aN (aa (aN (aa (fC (.int 0)) (aa (fC (.int 0)) (aa (fC (.int 2)) af)))) (aa (aN (aa (fC (.int 0)) (aa (fC (.int 1)) (aa (fC (.int 2)) af)))) (aa (aN (aa (fC (.int 1)) (aa (fC (.int 0)) (aa (fC (.int 2)) af)))) (aa (aN (aa (fC (.int 1)) (aa (fC (.int 1)) (aa (fC (.int 2)) af)))) af))))) af))))))) du) (ay (aY 5 [0,1] (f2 aI (fC (.int 1)) (ai 3 ak (aa (ae 0) (aa (ae 1) (aa (fC (.int 3)) af)))))) (ay (aY 6 [0,1] (f2 aI (fC (.int 1)) (ai 3 ak (aa (ae 0) (aa (f2 aI (ae 1) (fC (.int 1))) (aa (fC (.int 3)) af)))))) (ay (bu 7 [] (b0 af)) (ay (ee [5,6] (aK (aa (f2 dM (ae 5) (ae 6)) af)) (qt 8) (dW (dw (fB (f2 yc (aZ aP (aa (ae 7) af)) (ae 2))) (fB (f2 tm (ai 3 ak (aa (ae 0) (aa (f2 aI (f2 aI (ae 1) (fC (.int 2))) (ae 8)) (aa (fC (.int 4)) af)))) (fC (.int 0))))) (um 7 [0,1,6,8] (aN (aa (f2 ow (ae 8) (ae 6)) (aa (f2 md (ae 8) (ae 6)) (aa (f2 aI (fC (.int 1)) (ai 3 ak (aa (ae 0) (aa (f2 aI (f2 aI (ae 1) (fC (.int 12))) (ae 8)) (aa (fC (.int 2)) af))))) af))))) du)) (ay (aY 9 [0,1,5,7] (ai 3 bS (aa (ae 0) (aa (f2 aI (ae 1) (fC (.int 24))) (aa (bR (au 1 [7] (aK (aa (ae 5) af)) (fG 0) (fun _=>some true) (bR (au 1 [0] (bL (ae 1)) (fG 0) (fB (f2 ba (f2 av (ae 0) (fC (.int 0))) (ae 1))) (f2 av (ae 0) (fC (.int 1))))))) af))))) (ay (aY 10 [0,1,6,7] (ai 3 bS (aa (ae 0) (aa (f2 aI (ae 1) (fC (.int 40))) (aa (bR (au 1 [7] (aK (aa (ae 6) af)) (fG 0) (fun _=>some true) (bR (au 1 [0] (bL (ae 1)) (fG 0) (fB (f2 ba (f2 av (ae 0) (fC (.int 1))) (ae 1))) (f2 av (ae 0) (fC (.int 0))))))) af))))) (ay (aY 11 [0,1,8,9] (aZ bV (aa (bR (au 2 [0,1] (bO (aa (ae 9) af)) (j6 0 1) (fun _=>some true) (aN (aa (ai 3 ak (aa (ae 2) (aa (f2 aI (f2 aI (ae 3) (fC (.int 56))) (ae 0)) (aa (fC (.int 4)) af)))) (aa (ae 1) af))))) af))) (ay (aY 4 [0,1,8,10] (aZ bV (aa (bR (au 2 [0,1] (bO (aa (ae 10) af)) (j6 0 1) (fun _=>some true) (aN (aa (ai 3 ak (aa (ae 2) (aa (f2 aI (f2 aI (ae 3) (fC (.int 60))) (ae 0)) (aa (fC (.int 4)) af)))) (aa (ae 1) af))))) af))) (aM (aN (aa (ae 11) (aa (ae 4) (aa (aZ bV (aa (ae 7) af)) af))))))))))))))
def b8:List D->Option D:=bD eA 12
abbrev tR:List Str:=["_law_world_here","_law_side","_law_place","_law_offers","_law_found","_law_left","_law_other","_law_way"]
def fg:ar->Option Out:=(ay (bu 4 [3] (fR (b0 (aa (fC (.int 0)) af)) (aZ aP (aa (ae 3) af)))) (ay (aY 5 [0,1,2] (f2 av (f2 av (f2 av (ae 0) (ae 1)) (ae 2)) (fC (.int 0)))) (ay (ee [0,1,2] (bL (f2 av (f2 av (f2 av (ae 0) (ae 1)) (ae 2)) (fC (.int 1)))) (qt 6) (ee [3] (aK (aa (aZ aP (aa (ae 3) af)) af)) (qt 7) (dW (dw (fB (f2 ba (f2 av (f2 av (f2 av (ae 0) (fC (.int 2))) (ae 7)) (ae 1)) (ae 2))) (fB (f2 ba (f2 av (f2 av (f2 av (ae 0) (fC (.int 2))) (ae 7)) (f2 Dl.cU (fC (.int 1)) (ae 1))) (ae 6)))) (ay (wq 4 [0,3,5,7] (ae 7) (aZ sW (aa (ae 5) (aa (f2 av (ae 3) (ae 7)) (aa (f2 av (f2 av (f2 av (ae 0) (fC (.int 2))) (ae 7)) (fC (.int 2))) af))))) (aY 5 [4,5,7] (f2 Dl.cU (ae 5) (f2 av (ae 4) (ae 7))))) du))) (aM (aZ bV (aa (ae 4) af))))))
def dE:List D->Option D:=bD fg 8
abbrev Fx:List Str:=["world","plan","side","place"]
def oZ:ar->Option Out:=(aM (aZ tQ (aa (bR (au 2 [2,3] (gD (aa (f2 av (ae 0) (fC (.int 2))) (aa (ae 1) af))) (j6 0 1) (fB (f2 ba (f2 av (ae 0) (ae 2)) (ae 3))) (ae 1))) af)))
def bU:List D->Option D:=bD oZ 4
abbrev pS:List Str:=["world","plan","side"]
def fP:ar->Option Out:=(aM (aZ n6 (aa (bR (au 2 [0,1,2] (bO (aa (f2 av (ae 0) (ae 2)) af)) (j6 0 1) (fun _=>some true) (f2 Dq (ai 4 bU (aa (ae 2) (aa (ae 3) (aa (ae 4) (aa (ae 0) af))))) (f2 av (ae 1) (fC (.int 0)))))) af)))
def cK:List D->Option D:=bD fP 3
abbrev EK:List Str:=["world","thing","ways"]
def gg:ar->Option Out:=(ay (aY 2 [0] (f2 av (ae 0) (fC (.int 2)))) (ay (dW (bE (fB (ai 3 bw (aa (ae 1) (aa (aZ aP (aa (ae 2) af)) (aa (aZ aP (aa (ae 2) af)) af)))))) (aM (fC (.bool false))) du) (ay (dW (bE (fB (aZ n6 (aa (bR (au 2 [] (gD (aa (ae 2) (aa (ae 1) af))) (j6 0 1) (fun _=>some true) (ai 3 aS (aa (ae 1) (aa (fC (.int 0)) (aa (f2 av (ae 0) (fC (.int 2))) af)))))) af)))) (aM (fC (.bool false))) du) (aM (me (ai 3 cK (aa (ae 0) (aa (ae 1) (aa (fC (.int 0)) af)))) (ai 3 cK (aa (ae 0) (aa (ae 1) (aa (fC (.int 1)) af)))))))))
def cN:List D->Option D:=bD gg 3
abbrev nU:List Str:=["world","plan"]
def ej:ar->Option Out:=(ay (cQ (ai 1 bp (aa (ae 0) af))) (dW (bE (fB (ai 2 cN (aa (ae 0) (aa (ae 1) af))))) PX du))
def az:List D->Option D:=bD ej 2
abbrev GX:List Str:=["world","plan","giver"]
def y9:ar->Option Out:=(ay (cQ (ai 2 az (aa (ae 0) (aa (ae 1) af)))) (ay (cQ (ai 2 aB (aa (ae 2) (aa (aZ aP (aa (f2 av (ae 0) (fC (.int 0))) af)) af)))) (aM (ai 4 bU (aa (ae 0) (aa (ae 1) (aa (fC (.int 0)) (aa (ae 2) af))))))))
def hU:List D->Option D:=bD y9 3
abbrev Eh:List Str:=["world","plan","taker"]
def qk:ar->Option Out:=(ay (cQ (ai 2 az (aa (ae 0) (aa (ae 1) af)))) (ay (cQ (ai 2 aB (aa (ae 2) (aa (aZ aP (aa (f2 av (ae 0) (fC (.int 1))) af)) af)))) (aM (ai 4 bU (aa (ae 0) (aa (ae 1) (aa (fC (.int 1)) (aa (ae 2) af))))))))
def fv:List D->Option D:=bD qk 3
abbrev v9:List Str:=["world","plan","side","way","place","own","less_liked"]
def f7:ar->Option Out:=(ay (aY 4 [0,2,3] (f2 av (f2 av (f2 av (ae 0) (fC (.int 2))) (ae 3)) (ae 2))) (ay (dW (fB (f2 yc (ai 4 bU (aa (ae 0) (aa (ae 1) (aa (ae 2) (aa (ae 4) af))))) (f2 av (f2 av (f2 av (ae 0) (ae 2)) (ae 4)) (fC (.int 0))))) (aM (fC (.bool true))) du) (ay (aY 5 [0,2,4] (ai 3 eT (aa (ae 0) (aa (ae 2) (aa (ae 4) af))))) (ay (aY 6 [3,5] (se mC (ae 5) (JQ (f2 aI (f2 jh (ae 5) (ae 3)) (fC (.int 1)))) uj)) (aM (aZ Rf.Iq (aa (bR (au 1 [1] (bL (ae 6)) (fG 0) (fun _=>some true) (f2 tm (f2 av (ae 1) (ae 0)) (fC (.int 0))))) af)))))))
def cE:List D->Option D:=bD f7 7
abbrev Cn:List Str:=["world","plan","way"]
def iZ:ar->Option Out:=(ay (dW (fB (f2 ba (f2 av (ae 1) (ae 2)) (f2 av (f2 av (f2 av (ae 0) (fC (.int 2))) (ae 2)) (fC (.int 2))))) (aM (fC (.str "full"))) du) (ay (dW (bE (fB (ai 4 cE (aa (ae 0) (aa (ae 1) (aa (fC (.int 0)) (aa (ae 2) af))))))) (aM (fC (.str "giver"))) du) (ay (dW (bE (fB (ai 4 cE (aa (ae 0) (aa (ae 1) (aa (fC (.int 1)) (aa (ae 2) af))))))) (aM (fC (.str "taker"))) du) (aM (fC .none)))))
def bW:List D->Option D:=bD iZ 3
abbrev qa:List Str:=["world","plan","way"]
def dJ:ar->Option Out:=(ay (ee [1] (aK (aa (aZ aP (aa (ae 1) af)) af)) (qt 2) (dW (fB (f2 mY (ai 3 bW (aa (ae 0) (aa (ae 1) (aa (ae 2) af)))) (fC .none))) (aM (ae 2)) du)) (aM (fC .none)))
def dH:List D->Option D:=bD dJ 3
abbrev BV:List Str:=["world","plan"]
def jr:ar->Option Out:=(aM (f2 mY (ai 2 dH (aa (ae 0) (aa (ae 1) af))) (fC .none)))
def i8:List D->Option D:=bD jr 2
abbrev vb:List Str:=["world","plan"]
def lQ:ar->Option Out:=(ay (cQ (ai 2 az (aa (ae 0) (aa (ae 1) af)))) (aM (bR (au 1 [0,1] (aK (aa (aZ aP (aa (ae 1) af)) af)) (fG 0) (fB (f2 mY (ai 3 bW (aa (ae 1) (aa (ae 2) (aa (ae 0) af)))) (fC .none))) (ae 0)))))
def dU:List D->Option D:=bD lQ 2
abbrev DZ:List Str:=["world","plan"]
def qo:ar->Option Out:=(ay (cQ (ai 2 az (aa (ae 0) (aa (ae 1) af)))) (aM (ai 2 i8 (aa (ae 0) (aa (ae 1) af)))))
def gM:List D->Option D:=bD qo 2
abbrev Ae:List Str:=["_law_world_here","_law_plan_here","_law_side","_law_place"]
def ki:ar->Option Out:=(aM (aZ tQ (aa (bR (au 2 [2,3] (gD (aa (ae 1) (aa (f2 av (ae 0) (fC (.int 2))) af))) (j6 0 1) (fB (f2 ba (f2 av (ae 1) (ae 2)) (ae 3))) (ae 0))) af)))
def bx:List D->Option D:=bD ki 4
abbrev AB:List Str:=["_law_world_here","_law_plan_here","_law_side","_law_place","_law_row"]
def gN:ar->Option Out:=(ay (ee [] (aK (aa (fC (.int 2)) af)) (qt 2) (ee [0,2] (bO (aa (f2 av (ae 0) (ae 2)) af)) (gJ 3 4) (dW (fB (f2 tm (ai 4 bx (aa (ae 0) (aa (ae 1) (aa (ae 2) (aa (ae 3) af))))) (f2 av (ae 4) (fC (.int 0))))) (aM (fC (.bool false))) du))) (aM (fC (.bool true))))
def cY:List D->Option D:=bD gN 5
abbrev AM:List Str:=["_law_script","_law_at","_law_world_here","_law_found","_law_k","_law_way","_law_more","_law_fit"]
def gR:ar->Option Out:=(ay (aY 3 [] (aN af)) (ay (ee [2] (bO (aa (f2 av (ae 2) (fC (.int 2))) af)) (gJ 4 5) (ay (aY 6 [0,1,3,4,5] (f2 aI (ae 3) (aN (aa (ai 3 ak (aa (ae 0) (aa (f2 aI (ae 1) (ae 4)) (aa (f2 aI (f2 av (ae 5) (fC (.int 2))) (fC (.int 1))) af)))) af)))) (ay (aY 7 [2,6] (ai 2 cY (aa (ae 2) (aa (f2 aI (ae 6) (f2 dM (aN (aa (fC (.int 0)) af)) (f2 Dl.cU (aZ aP (aa (f2 av (ae 2) (fC (.int 2))) af)) (aZ aP (aa (ae 6) af))))) af)))) (aY 3 [3,6,7] (Dd (fB (ae 7)) (ae 6) (f2 aI (ae 3) (aN (aa (fC (.int 0)) af)))))))) (aM (ae 3))))
def fM:List D->Option D:=bD gR 8
abbrev my:List Str:=["world","side","place"]
def dB:ar->Option Out:=(ay (cQ (ai 1 dg (aa (ae 1) af))) (cQ (ai 2 aB (aa (ae 2) (aa (aZ aP (aa (f2 av (ae 0) (ae 1)) af)) af)))))
def cn:List D->Option D:=bD dB 3
abbrev AX:List Str:=["world","side","place","offers"]
def nJ:ar->Option Out:=(ay (cQ (ai 1 bp (aa (ae 0) af))) (ay (cQ (ai 3 cn (aa (ae 0) (aa (ae 1) (aa (ae 2) af))))) (aM (ai 4 gZ (aa (ae 0) (aa (ae 1) (aa (ae 2) (aa (ae 3) af))))))))
def fy:List D->Option D:=bD nJ 4
abbrev zz:List Str:=["world","plan","way"]
def nN:ar->Option Out:=(ay (cQ (ai 2 az (aa (ae 0) (aa (ae 1) af)))) (ay (cQ (ai 2 aB (aa (ae 2) (aa (aZ aP (aa (f2 av (ae 0) (fC (.int 2))) af)) af)))) (aM (ai 3 bW (aa (ae 0) (aa (ae 1) (aa (ae 2) af)))))))
def fE:List D->Option D:=bD nN 3
open PySem L2 Dl PySem.Spec PyProof.Rows Ex
def lC:XS:=(F9 (bE (fB (ai 1 bh (aa (ae 0) af)))) (Pf "NoWorld") mf)
def bT:List D->Option Str:=nF lC 1
def ml:XS:=(dC (eE (mh 1 bT (aa (ae 0) af))) (cQ (ai 1 bp (aa (ae 0) af))) (F9 (bE (fB (ai 2 cN (aa (ae 0) (aa (ae 1) af))))) (Pf "NoPlan") mf))
def aG:List D->Option Str:=nF ml 2
abbrev vy:List Str:=["_law_world_here","_law_plan_here","_law_side","_law_place","_law_other","_law_row","_law_many","_law_way"]
def fU:ar->Option Out:=(ay (dW (fB (f2 yc (ai 4 bx (aa (ae 0) (aa (ae 1) (aa (ae 2) (aa (ae 3) af))))) (f2 av (f2 av (f2 av (ae 0) (ae 2)) (ae 3)) (fC (.int 0))))) (aM (fC (.bool true))) du) (ay (aY 5 [0,2,3] (f2 av (f2 av (f2 av (ae 0) (ae 2)) (ae 3)) (fC (.int 1)))) (ay (ee [0,1] (gD (aa (ae 1) (aa (f2 av (ae 0) (fC (.int 2))) af))) (gJ 6 7) (dW (dw (fB (f2 ba (f2 av (ae 7) (ae 2)) (ae 3))) (dw (fB (f2 tm (ae 6) (fC (.int 0)))) (fB (f2 tm (f2 jh (ae 5) (f2 av (ae 7) (f2 Dl.cU (fC (.int 1)) (ae 2)))) (f2 jh (ae 5) (ae 4)))))) (aM (fC (.bool true))) du)) (aM (fC (.bool false))))))
def cH:List D->Option D:=bD fU 8
abbrev BU:List Str:=["_law_world_here","_law_plan_here","_law_way","_law_giver","_law_taker","_law_limit"]
def i6:ar->Option Out:=(ay (oN 3 4 5 [0,2] (f2 av (f2 av (ae 0) (fC (.int 2))) (ae 2))) (ay (dW (fB (f2 ba (f2 av (ae 1) (ae 2)) (ae 5))) (aM (fC (.str "full"))) du) (ay (dW (bE (fB (ai 5 cH (aa (ae 0) (aa (ae 1) (aa (fC (.int 0)) (aa (ae 3) (aa (ae 4) af)))))))) (aM (fC (.str "giver"))) du) (aM (Dd (fB (ai 5 cH (aa (ae 0) (aa (ae 1) (aa (fC (.int 1)) (aa (ae 4) (aa (ae 3) af))))))) (fC .none) (fC (.str "taker")))))))
def eM:List D->Option D:=bD i6 6
def kf:XS:=(F9 (bE (fB (ai 3 aS (aa (ae 0) (aa (ae 1) (aa (ae 2) af)))))) (Pf "NoPlace") mf)
def dG:List D->Option Str:=nF kf 3
def jx:XS:=(eE (mh 3 dG (aa (ae 0) (aa (fC (.int 0)) (aa (f2 Dl.cU (ae 1) (fC (.int 1))) af)))))
def aD:List D->Option Str:=nF jx 2
def mI:XS:=(eE (mh 2 aD (aa (ae 0) (aa (fC (.int 2)) af))))
def fV:List D->Option Str:=nF mI 1
def lH:XS:=(dC (eE (mh 1 fV (aa (ae 1) af))) (cQ (ai 1 dg (aa (ae 1) af))) (eE (mh 2 aD (aa (ae 2) (aa (aZ aP (aa (f2 av (ae 0) (ae 1)) af)) af)))))
def cM:List D->Option Str:=nF lH 3
def El:XS:=(dC (eE (mh 2 aG (aa (ae 0) (aa (ae 1) af)))) (cQ (ai 2 az (aa (ae 0) (aa (ae 1) af)))) (eE (mh 2 aD (aa (ae 2) (aa (aZ aP (aa (f2 av (ae 0) (fC (.int 0))) af)) af)))))
def oP:List D->Option Str:=nF El 3
def Ap:XS:=(dC (eE (mh 2 aG (aa (ae 0) (aa (ae 1) af)))) (cQ (ai 2 az (aa (ae 0) (aa (ae 1) af)))) (eE (mh 2 aD (aa (ae 2) (aa (aZ aP (aa (f2 av (ae 0) (fC (.int 1))) af)) af)))))
def lY:List D->Option Str:=nF Ap 3
def u0:XS:=(dC (eE (mh 1 bT (aa (ae 0) af))) (cQ (ai 1 bp (aa (ae 0) af))) (eE (mh 3 cM (aa (ae 0) (aa (ae 1) (aa (ae 2) af))))))
def iK:List D->Option Str:=nF u0 4
def rS:XS:=(eE (mh 2 aG (aa (ae 0) (aa (ae 1) af))))
def iL:List D->Option Str:=nF rS 2
def By:XS:=(eE (mh 2 aG (aa (ae 0) (aa (ae 1) af))))
def oi:List D->Option Str:=nF By 2
def vj:XS:=(dC (eE (mh 2 aG (aa (ae 0) (aa (ae 1) af)))) (cQ (ai 2 az (aa (ae 0) (aa (ae 1) af)))) (eE (mh 2 aD (aa (ae 2) (aa (aZ aP (aa (f2 av (ae 0) (fC (.int 2))) af)) af)))))
def iC:List D->Option Str:=nF vj 3
abbrev pQ:List Str:=["_law_way","_law_world_here","_law_plan_here","_law_place","_law_e"]
def j3:ar->Option Out:=(AY (ay (dW (fB (f2 yc (ae 0) (fC (.int 2)))) (aM (uE 3 hU fv (ae 0) (aa (ae 1) (aa (ae 2) (aa (ae 3) af))))) du) (ay (dW (fB (f2 ba (ae 0) (fC (.int 2)))) (aM (ai 2 dU (aa (ae 1) (aa (ae 2) af)))) du) (ay (dW (fB (f2 ba (ae 0) (fC (.int 3)))) (aM (ai 2 gM (aa (ae 1) (aa (ae 2) af)))) du) (aM (Dd (fB (f2 ba (ae 0) (fC (.int 4)))) (ai 3 fE (aa (ae 1) (aa (ae 2) (aa (ae 3) af)))) (ai 4 fy (aa (ae 1) (aa (f2 Dl.cU (ae 0) (fC (.int 5))) (aa (ae 3) (aa (ae 2) af)))))))))) (dC (F9 (fB (f2 yc (ae 0) (fC (.int 2)))) (eE (sL 3 oP lY (ae 0) (aa (ae 1) (aa (ae 2) (aa (ae 3) af))))) mf) (dW (fB (f2 yc (ae 0) (fC (.int 2)))) (aM (uE 3 hU fv (ae 0) (aa (ae 1) (aa (ae 2) (aa (ae 3) af))))) du) (dC (F9 (fB (f2 ba (ae 0) (fC (.int 2)))) (eE (mh 2 iL (aa (ae 1) (aa (ae 2) af)))) mf) (dW (fB (f2 ba (ae 0) (fC (.int 2)))) (aM (ai 2 dU (aa (ae 1) (aa (ae 2) af)))) du) (dC (F9 (fB (f2 ba (ae 0) (fC (.int 3)))) (eE (mh 2 oi (aa (ae 1) (aa (ae 2) af)))) mf) (dW (fB (f2 ba (ae 0) (fC (.int 3)))) (aM (ai 2 gM (aa (ae 1) (aa (ae 2) af)))) du) (eE (BL (fB (f2 ba (ae 0) (fC (.int 4)))) (mh 3 iC (aa (ae 1) (aa (ae 2) (aa (ae 3) af)))) (mh 4 iK (aa (ae 1) (aa (f2 Dl.cU (ae 0) (fC (.int 5))) (aa (ae 3) (aa (ae 2) af)))))))))) (kr ["NoWorld","NoPlan","NoPlace","TooMany","Nothing"]))
def ao:List D->Option D:=bD j3 5
abbrev u5:List Str:=["_law_script","_law_world_here","_law_plan_here","_law_why_here","_law_side","_law_place","_law_offers","_law_gone","_law_odd","_law_bad","_law_none"]
def uG:ar->Option Out:=(ay (aY 1 [0] (ai 3 b8 (aa (ae 0) (aa (fC (.int 0)) (aa (fC (.int 9)) af))))) (ay (aY 2 [0,1] (ai 3 fM (aa (ae 0) (aa (fC (.int 70)) (aa (ae 1) af))))) (ay (bu 3 [1,2] (au 1 [1,2] (aK (aa (aZ aP (aa (ae 2) af)) af)) (fG 0) (fun _=>some true) (ai 3 eM (aa (ae 1) (aa (ae 2) (aa (ae 0) af)))))) (ay (ee [] (aK (aa (fC (.int 2)) af)) (qt 4) (ee [1,4] (aK (aa (aZ aP (aa (f2 av (ae 1) (ae 4)) af)) af)) (qt 5) (ay (dW (fB (f2 dv (ai 4 ao (aa (ae 4) (aa (ae 1) (aa (ae 2) (aa (ae 5) af))))) (ai 4 bx (aa (ae 1) (aa (ae 2) (aa (ae 4) (aa (ae 5) af))))))) (aM (fC (.bool false))) du) (ay (aY 6 [0,2,4] (aZ bV (aa (bR (au 1 [0,4] (aK (aa (aZ aP (aa (ae 2) af)) af)) (fG 0) (fun _=>some true) (ai 3 ak (aa (ae 1) (aa (f2 aI (f2 aI (fC (.int 80)) (f2 dM (fC (.int 10)) (ae 2))) (ae 0)) (aa (fC (.int 5)) af)))))) af))) (dW (fB (f2 dv (ai 4 ao (aa (f2 aI (fC (.int 5)) (ae 4)) (aa (ae 1) (aa (ae 6) (aa (ae 5) af))))) (ai 4 dE (aa (ae 1) (aa (ae 4) (aa (ae 5) (aa (ae 6) af))))))) (aM (fC (.bool false))) du))))) (ay (bu 7 [2,3] (au 1 [3] (aK (aa (aZ aP (aa (ae 2) af)) af)) (fG 0) (fB (f2 mY (f2 av (ae 1) (ae 0)) (fC .none))) (ae 0))) (ay (dW (sM (fB (f2 dv (ai 4 ao (aa (fC (.int 2)) (aa (ae 1) (aa (ae 2) (aa (fC .none) af))))) (ae 7))) (fB (f2 dv (ai 4 ao (aa (fC (.int 3)) (aa (ae 1) (aa (ae 2) (aa (fC .none) af))))) (f2 ba (ae 7) (bR (b0 af)))))) (aM (fC (.bool false))) du) (ay (dW (fB (f2 dv (bR (au 1 [1,2] (aK (aa (aZ aP (aa (ae 2) af)) af)) (fG 0) (fun _=>some true) (ai 4 ao (aa (fC (.int 4)) (aa (ae 1) (aa (ae 2) (aa (ae 0) af))))))) (ae 3))) (aM (fC (.bool false))) du) (ay (dW (fB (f2 dv (bR (au 1 [1,2] (bL (aN (aa (fC (.int 0)) (aa (fC (.int 1)) af)))) (fG 0) (fun _=>some true) (ai 4 ao (aa (fC (.int 4)) (aa (ae 1) (aa (ae 2) (aa (f2 aI (aZ aP (aa (ae 2) af)) (ae 0)) af))))))) (bR (fR (b0 (aa (aN (aa (fC (.str "refused")) (aa (fC (.int 2)) af))) af)) (fC (.int 2)))))) (aM (fC (.bool false))) du) (ay (aY 8 [0] (f2 av (bR (b0 (aa (f1 JF (fC (.int 1))) (aa (fC (.int 9)) (aa (fC (.bool true)) (aa (fC .none) (aa (fC (.str "0")) af))))))) (ai 3 ak (aa (ae 0) (aa (fC (.int 110)) (aa (fC (.int 5)) af)))))) (ay (dW (fB (f2 dv (bR (au 1 [1,2,8] (bL (aN (aa (fC (.int 0)) (aa (fC (.int 1)) (aa (fC (.int 4)) (aa (fC (.int 5)) (aa (fC (.int 6)) af))))))) (fG 0) (fun _=>some true) (ai 4 ao (aa (ae 0) (aa (ae 1) (aa (ae 2) (aa (ae 3) af))))))) (bR (fR (b0 (aa (aN (aa (fC (.str "refused")) (aa (fC (.int 2)) af))) af)) (fC (.int 5)))))) (aM (fC (.bool false))) du) (ay (aY 9 [0,2] (f2 av (bR (b0 (aa (f2 aI (ae 2) (aN (aa (fC (.int 0)) af))) (aa (fC .none) (aa (bR (k6 cI (aa (ae 2) af))) (aa (f2 aI (aZ bV (aa (bR (au 1 [] (bL (ae 2)) (fG 0) (fun _=>some true) (f2 aI (ae 0) (fC (.int 9))))) af)) (aN (aa (fC (.int 1)) af))) af)))))) (ai 3 ak (aa (ae 0) (aa (fC (.int 111)) (aa (fC (.int 4)) af)))))) (ay (dW (fB (f2 dv (bR (au 1 [1,8,9] (aK (aa (fC (.int 5)) af)) (fG 0) (fun _=>some true) (ai 4 ao (aa (ae 0) (aa (ae 1) (aa (ae 3) (aa (ae 2) af))))))) (bR (fR (b0 (aa (aN (aa (fC (.str "refused")) (aa (fC (.int 1)) af))) af)) (fC (.int 5)))))) (aM (fC (.bool false))) du) (ay (aY 10 [0,1] (f2 av (bR (b0 (aa (fC .none) (aa (se mC (ae 1) uj (JQ (fC (.int 2)))) (aa (aN af) (aa (aN (aa (f2 av (ae 1) (fC (.int 2))) (aa (f2 av (ae 1) (fC (.int 1))) (aa (f2 av (ae 1) (fC (.int 0))) af)))) af)))))) (ai 3 ak (aa (ae 0) (aa (fC (.int 112)) (aa (fC (.int 3)) af)))))) (aM (f2 ba (bR (au 1 [8,9,10] (aK (aa (fC (.int 7)) af)) (fG 0) (fun _=>some true) (ai 4 ao (aa (ae 0) (aa (ae 3) (aa (ae 2) (aa (ae 1) af))))))) (bR (fR (b0 (aa (aN (aa (fC (.str "refused")) (aa (fC (.int 0)) af))) af)) (fC (.int 7)))))))))))))))))))
def iB:List D->Option D:=bD uG 11
end Pg
namespace K10
open PySem L2 Dl PySem.Spec PyProof.Rows
open Pg Ex
abbrev Re:List Str:=["NoWorld","NoPlan","NoPlace","TooMany","Nothing"]
abbrev mL:Stmt:=top 10
abbrev BQ:Rf.Sg:=⟨[],[]⟩
theorem BO:Rf.tW mL Cj BQ none=some mX:=by kernel_rfl
abbrev k7:Stmt:=top 11
abbrev zj:Rf.Sg:=⟨[("is_whole",3,aS)],[]⟩
theorem zq:Rf.tW k7 Bz zj none=some kh:=by kernel_rfl
abbrev oV:Stmt:=top 12
abbrev FA:Rf.Sg:=⟨[],[]⟩
theorem EU:Rf.tW oV Es FA none=some pk:=by kernel_rfl
abbrev k9:Stmt:=top 13
abbrev zr:Rf.Sg:=⟨[("is_number",2,cf)],[]⟩
theorem AC:Rf.tW k9 AG zr none=some k4:=by kernel_rfl
abbrev sC:Stmt:=top 14
abbrev HP:Rf.Sg:=⟨[("is_long",3,bw),("is_whole",3,aS),("are_likes",2,fA)],[("MOST",9)]⟩
theorem HA:Rf.tW sC Ie HP none=some sr:=by kernel_rfl
abbrev sj:Stmt:=top 15
abbrev GV:Rf.Sg:=⟨[("is_long",3,bw),("is_number",2,cf),("is_whole",3,aS)],[("MOST",9)]⟩
theorem Gz:Rf.tW sj GW GV none=some rE:=by kernel_rfl
abbrev kc:Stmt:=top 16
abbrev zi:Rf.Sg:=⟨[("is_long",3,bw),("is_end",2,fI),("is_way",3,iP)],[("MOST_PLACES",4)]⟩
theorem Ab:Rf.tW kc A1 zi none=some lh:=by kernel_rfl
abbrev iq:Stmt:=top 17
abbrev tP:Rf.Sg:=⟨[],[]⟩
theorem tJ:Rf.tW iq uo tP none=some ir:=by kernel_rfl
abbrev mK:Stmt:=top 18
abbrev C8:Rf.Sg:=⟨[("liked_pairs",1,bK),("is_long",3,bw),("are_parts",3,fL)],[]⟩
theorem BM:Rf.tW mK B8 C8 none=some gh:=by kernel_rfl
abbrev oI:Stmt:=top 19
abbrev F7:Rf.Sg:=⟨[],[]⟩
theorem FU:Rf.tW oI Fx F7 none=some oZ:=by kernel_rfl
abbrev fQ:Stmt:=top 20
abbrev p5:Rf.Sg:=⟨[("through",4,bU)],[]⟩
theorem qb:Rf.tW fQ pS p5 none=some fP:=by kernel_rfl
abbrev oO:Stmt:=top 21
abbrev EY:Rf.Sg:=⟨[("is_long",3,bw),("keeps_amounts",3,cK),("is_whole",3,aS)],[]⟩
theorem FC:Rf.tW oO EK EY none=some gg:=by kernel_rfl
abbrev fq:Stmt:=top 22
abbrev mi:Rf.Sg:=⟨[("is_world",1,bh)],[]⟩
theorem ud:Rf.tW fq mG mi none=some dD:=by kernel_rfl
theorem si:Ex.E4 fq mG mi [] ["NoWorld"]=some lC:=by kernel_rfl
abbrev fW:Stmt:=top 23
abbrev nv:Rf.Sg:=⟨[("check_world",1,bp),("is_plan",2,cN)],[]⟩
theorem wg:Rf.tW fW nU nv none=some ej:=by kernel_rfl
theorem tU:Ex.E4 fW nU nv [("check_world",1,bT)] ["NoPlan"]=some ml:=by kernel_rfl
abbrev ft:Stmt:=top 24
abbrev mj:Rf.Sg:=⟨[("is_whole",3,aS)],[]⟩
theorem uc:Rf.tW ft mn mj none=some cm:=by kernel_rfl
theorem rf:Ex.E4 ft mn mj [] ["NoPlace"]=some kf:=by kernel_rfl
abbrev eB:Stmt:=top 25
abbrev lG:Rf.Sg:=⟨[("check_whole",3,cO)],[]⟩
theorem sG:Rf.tW eB lK lG none=some bX:=by kernel_rfl
theorem pR:Ex.E4 eB lK lG [("check_whole",3,dG)] []=some jx:=by kernel_rfl
abbrev fY:Stmt:=top 26
abbrev n8:Rf.Sg:=⟨[("check_number",2,aB)],[]⟩
theorem yg:Rf.tW fY ou n8 none=some eG:=by kernel_rfl
theorem tO:Ex.E4 fY ou n8 [("check_number",2,aD)] []=some mI:=by kernel_rfl
abbrev fu:Stmt:=top 27
abbrev mz:Rf.Sg:=⟨[("check_side",1,dg),("check_number",2,aB)],[]⟩
theorem tw:Rf.tW fu my mz none=some dB:=by kernel_rfl
theorem sv:Ex.E4 fu my mz [("check_side",1,fV),("check_number",2,aD)] []=some lH:=by kernel_rfl
abbrev yn:Stmt:=top 29
abbrev Ig:Rf.Sg:=⟨[("check_plan",2,az),("check_number",2,aB),("through",4,bU)],[]⟩
theorem OI:Rf.tW yn GX Ig none=some y9:=by kernel_rfl
theorem KU:Ex.E4 yn GX Ig [("check_plan",2,aG),("check_number",2,aD)] []=some El:=by kernel_rfl
abbrev qg:Stmt:=top 30
abbrev DJ:Rf.Sg:=⟨[("check_plan",2,az),("check_number",2,aB),("through",4,bU)],[]⟩
theorem KQ:Rf.tW qg Eh DJ none=some qk:=by kernel_rfl
theorem Gu:Ex.E4 qg Eh DJ [("check_plan",2,aG),("check_number",2,aD)] []=some Ap:=by kernel_rfl
abbrev oD:Stmt:=top 31
abbrev ES:Rf.Sg:=⟨[],[]⟩
theorem EJ:Rf.tW oD EI ES (some "ways_of.<locals>.<lambda>")=some lV:=by kernel_rfl
abbrev ll:Stmt:=top 32
abbrev A0:Rf.Sg:=⟨[("ways_of",3,eT)],[]⟩
theorem AW:Rf.tW ll zt A0 none=some gS:=by kernel_rfl
abbrev nM:Stmt:=top 33
abbrev AS:Rf.Sg:=⟨[("check_world",1,bp),("check_place",3,cn),("chosen_by",4,gZ)],[]⟩
theorem IC:Rf.tW nM AX AS none=some nJ:=by kernel_rfl
theorem EA:Ex.E4 nM AX AS [("check_world",1,bT),("check_place",3,cM)] []=some u0:=by kernel_rfl
abbrev jl:Stmt:=top 34
abbrev zf:Rf.Sg:=⟨[("ways_of",3,eT),("through",4,bU)],[]⟩
theorem vq:Rf.tW jl v9 zf none=some f7:=by kernel_rfl
abbrev mV:Stmt:=top 35
abbrev CW:Rf.Sg:=⟨[("wants_more",4,cE)],[]⟩
theorem B7:Rf.tW mV Cn CW none=some iZ:=by kernel_rfl
abbrev fN:Stmt:=top 36
abbrev pX:Rf.Sg:=⟨[("why_kept",3,bW)],[]⟩
theorem p7:Rf.tW fN qa pX none=some dJ:=by kernel_rfl
abbrev m8:Stmt:=top 37
abbrev CD:Rf.Sg:=⟨[("first_leaving",2,dH)],[]⟩
theorem BH:Rf.tW m8 BV CD none=some jr:=by kernel_rfl
abbrev l5:Stmt:=top 38
abbrev vm:Rf.Sg:=⟨[("check_plan",2,az),("why_kept",3,bW)],[]⟩
theorem E3:Rf.tW l5 vb vm none=some lQ:=by kernel_rfl
theorem CC:Ex.E4 l5 vb vm [("check_plan",2,aG)] []=some rS:=by kernel_rfl
abbrev qj:Stmt:=top 39
abbrev Da:Rf.Sg:=⟨[("check_plan",2,az),("is_still",2,i8)],[]⟩
theorem LD:Rf.tW qj DZ Da none=some qo:=by kernel_rfl
theorem Gf:Ex.E4 qj DZ Da [("check_plan",2,aG)] []=some By:=by kernel_rfl
abbrev oo:Stmt:=top 40
abbrev Br:Rf.Sg:=⟨[("check_plan",2,az),("check_number",2,aB),("why_kept",3,bW)],[]⟩
theorem IP:Rf.tW oo zz Br none=some nN:=by kernel_rfl
theorem EN:Ex.E4 oo zz Br [("check_plan",2,aG),("check_number",2,aD)] []=some vj:=by kernel_rfl
abbrev lb:Stmt:=top 42
abbrev Bi:Rf.Sg:=⟨[],[]⟩
theorem Bw:Rf.tW lb Bv Bi none=some gL:=by kernel_rfl
abbrev jt:Stmt:=top 43
abbrev xt:Rf.Sg:=⟨[("_law_cell",2,dX)],[]⟩
theorem wy:Rf.tW jt xc xt none=some jm:=by kernel_rfl
abbrev hJ:Stmt:=top 44
abbrev ug:Rf.Sg:=⟨[("_law_drawn",3,ak)],[]⟩
theorem tL:Rf.tW hJ uk ug none=some il:=by kernel_rfl
abbrev ju:Stmt:=top 45
abbrev v8:Rf.Sg:=⟨[("_law_orders",3,bS),("_law_drawn",3,ak)],[]⟩
theorem yf:Rf.tW ju ze v8 none=some eA:=by kernel_rfl
abbrev lM:Stmt:=top 46
abbrev Av:Rf.Sg:=⟨[],[]⟩
theorem AA:Rf.tW lM Ae Av none=some ki:=by kernel_rfl
abbrev ke:Stmt:=top 47
abbrev Ag:Rf.Sg:=⟨[("_law_used",4,bx)],[]⟩
theorem Ao:Rf.tW ke AB Ag none=some gN:=by kernel_rfl
abbrev oa:Stmt:=top 48
abbrev lr:Stmt:=top 49
abbrev Bm:Rf.Sg:=⟨[("_law_fits",2,cY),("_law_drawn",3,ak)],[]⟩
theorem zu:Rf.tW lr AM Bm none=some gR:=by kernel_rfl
abbrev jf:Stmt:=top 50
abbrev yx:Rf.Sg:=⟨[("_law_used",4,bx)],[]⟩
theorem yu:Rf.tW jf vy yx none=some fU:=by kernel_rfl
abbrev mT:Stmt:=top 51
abbrev BS:Rf.Sg:=⟨[("_law_wants",5,cH)],[]⟩
theorem Cr:Rf.tW mT BU BS none=some i6:=by kernel_rfl
abbrev nR:Stmt:=top 52
abbrev hZ:Stmt:=top 53
abbrev tI:Rf.Sg:=⟨[],[]⟩
theorem tH:Rf.tW hZ tR tI none=some fg:=by kernel_rfl
abbrev pw:Stmt:=top 54
abbrev lA:Stmt:=top 55
abbrev lE:Stmt:=top 56
abbrev Bf:Rf.Sg:=⟨[("leaving",2,dU),("rests",2,gM),("reason",3,fE),("choice",4,fy),("sent",3,hU),("taken",3,fv)],[]⟩
theorem Az:Ex.Q5 lE pQ Bf [("leaving",2,iL),("rests",2,oi),("reason",3,iC),("choice",4,iK),("sent",3,oP),("taken",3,lY)] Re=some j3:=by kernel_rfl
abbrev Ga:Stmt:=top 57
abbrev Pr:Rf.Sg:=⟨[("_law_world",3,b8),("_law_plan",3,fM),("_law_why",3,eM),("_law_drawn",3,ak),("_law_told",4,ao),("_law_used",4,bx),("_law_choice",4,dE)],[]⟩
theorem Qv:Rf.tW Ga u5 Pr none=some uG:=by kernel_rfl
structure Pb(K:W.Frag):Prop where
 c0:aU K "is_whole" mL ["thing","least","most"]
 c1:aU K "is_number" k7 ["thing","many"]
 c2:aU K "is_long" oV ["thing","least","most"]
 c3:aU K "are_likes" k9 ["thing","many"]
 c4:aU K "is_end" sC ["thing","many"]
 c5:aU K "is_way" sj ["thing","givers","takers"]
 c6:aU K "are_parts" kc ["givers","takers","ways"]
 c7:aU K "liked_pairs" iq ["places"]
 c8:aU K "is_world" mK ["thing"]
 c9:aU K "through" oI ["world","plan","side","place"]
 c10:aU K "keeps_amounts" fQ ["world","plan","side"]
 c11:aU K "is_plan" oO ["world","thing"]
 c12:aU K "check_world" fq ["world"]
 c13:aU K "check_plan" fW ["world","plan"]
 c14:aU K "check_whole" ft ["thing","least","most"]
 c15:aU K "check_number" eB ["thing","many"]
 c16:aU K "check_side" fY ["thing"]
 c17:aU K "check_place" fu ["world","side","place"]
 c18:aU K "sent" yn ["world","plan","giver"]
 c19:aU K "taken" qg ["world","plan","taker"]
 c20:uZ K "ways_of" oD ["world","side","place"]
 c21:aU K "chosen_by" ll ["world","side","place","offers"]
 c22:aU K "choice" nM ["world","side","place","offers"]
 c23:aU K "wants_more" jl ["world","plan","side","way"]
 c24:aU K "why_kept" mV ["world","plan","way"]
 c25:aU K "first_leaving" fN ["world","plan"]
 c26:aU K "is_still" m8 ["world","plan"]
 c27:aU K "leaving" l5 ["world","plan"]
 c28:aU K "rests" qj ["world","plan"]
 c29:aU K "reason" oo ["world","plan","way"]
 c30:aU K "_law_cell" lb ["_law_script","_law_k"]
 c31:aU K "_law_drawn" jt ["_law_script","_law_k","_law_many"]
 c32:aU K "_law_orders" hJ ["_law_script","_law_at","_law_rows"]
 c33:aU K "_law_world" ju ["_law_script","_law_at","_law_most"]
 c34:aU K "_law_used" lM ["_law_world_here","_law_plan_here","_law_side","_law_place"]
 c35:aU K "_law_fits" ke ["_law_world_here","_law_plan_here"]
 c36:aU K "_law_plans" oa ["_law_world_here"]
 c37:aU K "_law_plan" lr ["_law_script","_law_at","_law_world_here"]
 c38:aU K "_law_wants" jf ["_law_world_here","_law_plan_here","_law_side","_law_place","_law_other"]
 c39:aU K "_law_why" mT ["_law_world_here","_law_plan_here","_law_way"]
 c40:aU K "_law_rests" nR ["_law_world_here","_law_plan_here"]
 c41:aU K "_law_choice" hZ ["_law_world_here","_law_side","_law_place","_law_offers"]
 c42:aU K "_law_ends" pw ["_law_world_here","_law_side","_law_offers"]
 c43:aU K "_law_refused" lA ["_law_e"]
 c44:aU K "_law_told" lE ["_law_way","_law_world_here","_law_plan_here","_law_place"]
 c45:aU K "law" Ga ["_law_script"]
 i_MOST_PLACES:∃t,W.nsIn K mainGlobals "MOST_PLACES"=some (some (.int 4 t))
 i_MOST:∃t,W.nsIn K mainGlobals "MOST"=some (some (.int 9 t))
 m:Ex.NI K Sa R1=true
 b:∀x∈cg,W.nsIn K mainGlobals x=some none
structure bG(K:W.Frag)(mg:Str->Option Value):Prop where
 c0:bN K mg "is_whole" mL ["thing","least","most"]
 c1:bN K mg "is_number" k7 ["thing","many"]
 c2:bN K mg "is_long" oV ["thing","least","most"]
 c3:bN K mg "are_likes" k9 ["thing","many"]
 c4:bN K mg "is_end" sC ["thing","many"]
 c5:bN K mg "is_way" sj ["thing","givers","takers"]
 c6:bN K mg "are_parts" kc ["givers","takers","ways"]
 c7:bN K mg "liked_pairs" iq ["places"]
 c8:bN K mg "is_world" mK ["thing"]
 c9:bN K mg "through" oI ["world","plan","side","place"]
 c10:bN K mg "keeps_amounts" fQ ["world","plan","side"]
 c11:bN K mg "is_plan" oO ["world","thing"]
 c12:bN K mg "check_world" fq ["world"]
 c13:bN K mg "check_plan" fW ["world","plan"]
 c14:bN K mg "check_whole" ft ["thing","least","most"]
 c15:bN K mg "check_number" eB ["thing","many"]
 c16:bN K mg "check_side" fY ["thing"]
 c17:bN K mg "check_place" fu ["world","side","place"]
 c18:bN K mg "sent" yn ["world","plan","giver"]
 c19:bN K mg "taken" qg ["world","plan","taker"]
 c20:KM K mg "ways_of" oD ["world","side","place"]
 c21:bN K mg "chosen_by" ll ["world","side","place","offers"]
 c22:bN K mg "choice" nM ["world","side","place","offers"]
 c23:bN K mg "wants_more" jl ["world","plan","side","way"]
 c24:bN K mg "why_kept" mV ["world","plan","way"]
 c25:bN K mg "first_leaving" fN ["world","plan"]
 c26:bN K mg "is_still" m8 ["world","plan"]
 c27:bN K mg "leaving" l5 ["world","plan"]
 c28:bN K mg "rests" qj ["world","plan"]
 c29:bN K mg "reason" oo ["world","plan","way"]
 c30:bN K mg "_law_cell" lb ["_law_script","_law_k"]
 c31:bN K mg "_law_drawn" jt ["_law_script","_law_k","_law_many"]
 c32:bN K mg "_law_orders" hJ ["_law_script","_law_at","_law_rows"]
 c33:bN K mg "_law_world" ju ["_law_script","_law_at","_law_most"]
 c34:bN K mg "_law_used" lM ["_law_world_here","_law_plan_here","_law_side","_law_place"]
 c35:bN K mg "_law_fits" ke ["_law_world_here","_law_plan_here"]
 c36:bN K mg "_law_plans" oa ["_law_world_here"]
 c37:bN K mg "_law_plan" lr ["_law_script","_law_at","_law_world_here"]
 c38:bN K mg "_law_wants" jf ["_law_world_here","_law_plan_here","_law_side","_law_place","_law_other"]
 c39:bN K mg "_law_why" mT ["_law_world_here","_law_plan_here","_law_way"]
 c40:bN K mg "_law_rests" nR ["_law_world_here","_law_plan_here"]
 c41:bN K mg "_law_choice" hZ ["_law_world_here","_law_side","_law_place","_law_offers"]
 c42:bN K mg "_law_ends" pw ["_law_world_here","_law_side","_law_offers"]
 c43:bN K mg "_law_refused" lA ["_law_e"]
 c44:bN K mg "_law_told" lE ["_law_way","_law_world_here","_law_plan_here","_law_place"]
 c45:bN K mg "law" Ga ["_law_script"]
 i_MOST_PLACES:∃t,mg "MOST_PLACES"=some (.int 4 t)
 i_MOST:∃t,mg "MOST"=some (.int 9 t)
 m:Ex.z6 K mg Sa R1
 b:∀x∈cg,mg x=none
theorem Pb.defs{K:W.Frag}{h:Heap}{mg:Str->Option Value}(I:Pb K)(X:K.In h)(G:h.Ns mainGlobals mg):bG K mg :=
 ⟨I.c0.mg X G,I.c1.mg X G,I.c2.mg X G,I.c3.mg X G,I.c4.mg X G,I.c5.mg X G,I.c6.mg X G,I.c7.mg X G,I.c8.mg X G,I.c9.mg X G,I.c10.mg X G,I.c11.mg X G,I.c12.mg X G,I.c13.mg X G,I.c14.mg X G,I.c15.mg X G,I.c16.mg X G,I.c17.mg X G,I.c18.mg X G,I.c19.mg X G,I.c20.mg X G,I.c21.mg X G,I.c22.mg X G,I.c23.mg X G,I.c24.mg X G,I.c25.mg X G,I.c26.mg X G,I.c27.mg X G,I.c28.mg X G,I.c29.mg X G,I.c30.mg X G,I.c31.mg X G,I.c32.mg X G,I.c33.mg X G,I.c34.mg X G,I.c35.mg X G,I.c36.mg X G,I.c37.mg X G,I.c38.mg X G,I.c39.mg X G,I.c40.mg X G,I.c41.mg X G,I.c42.mg X G,I.c43.mg X G,I.c44.mg X G,I.c45.mg X G,(let ⟨t,h⟩:=I.i_MOST_PLACES;⟨t,W.mg_of X G h⟩),(let ⟨t,h⟩:=I.i_MOST;⟨t,W.mg_of X G h⟩),Ex.Kz X G I.m,fun x hx=>W.mg_none_of X G (I.b x hx)⟩
section
variable {P:Program}{w:World}{K:W.Frag}{mg:Str->Option Value}{base:Heap}
theorem eV(D:bG K mg):eJ P w K mg base 1 "is_whole" 3 aS:=Rf.jg (j:=0) D.c0 D.b Rf.bJ Rf.bI BO
theorem pA(D:bG K mg):eJ P w K mg base 2 "is_number" 2 cf:=Rf.jg (j:=1) D.c1 D.b (Rf.fm (eV D) Rf.bJ) Rf.bI zq
theorem iO(D:bG K mg):eJ P w K mg base 1 "is_long" 3 bw:=Rf.jg (j:=0) D.c2 D.b Rf.bJ Rf.bI EU
theorem AO(D:bG K mg):eJ P w K mg base 3 "are_likes" 2 fA:=Rf.jg (j:=2) D.c3 D.b (Rf.fm (pA D) Rf.bJ) Rf.bI AC
theorem Jb(D:bG K mg):eJ P w K mg base 4 "is_end" 2 fI:=Rf.jg (j:=3) D.c4 D.b (Rf.fm (iO D) (Rf.fm (eV D) (Rf.fm (AO D) Rf.bJ))) (Rf.Gq D.i_MOST Rf.bI) HA
theorem Hl(D:bG K mg):eJ P w K mg base 3 "is_way" 3 iP:=Rf.jg (j:=2) D.c5 D.b (Rf.fm (iO D) (Rf.fm (pA D) (Rf.fm (eV D) Rf.bJ))) (Rf.Gq D.i_MOST Rf.bI) Gz
theorem Be(D:bG K mg):eJ P w K mg base 5 "are_parts" 3 fL:=Rf.jg (j:=4) D.c6 D.b (Rf.fm (iO D) (Rf.fm (Jb D) (Rf.fm (Hl D) Rf.bJ))) (Rf.Gq D.i_MOST_PLACES Rf.bI) Ab
theorem uf(D:bG K mg):eJ P w K mg base 1 "liked_pairs" 1 bK:=Rf.jg (j:=0) D.c7 D.b Rf.bJ Rf.bI tJ
theorem sf(D:bG K mg):eJ P w K mg base 6 "is_world" 1 bh:=Rf.jg (j:=5) D.c8 D.b (Rf.fm (uf D) (Rf.fm (iO D) (Rf.fm (Be D) Rf.bJ))) Rf.bI BM
theorem gc(D:bG K mg):eJ P w K mg base 1 "through" 4 bU:=Rf.jg (j:=0) D.c9 D.b Rf.bJ Rf.bI FU
theorem pZ(D:bG K mg):eJ P w K mg base 2 "keeps_amounts" 3 cK:=Rf.jg (j:=1) D.c10 D.b (Rf.fm (gc D) Rf.bJ) Rf.bI qb
theorem uz(D:bG K mg):eJ P w K mg base 3 "is_plan" 2 cN:=Rf.jg (j:=2) D.c11 D.b (Rf.fm (iO D) (Rf.fm (pZ D) (Rf.fm (eV D) Rf.bJ))) Rf.bI FC
theorem mr(D:bG K mg):Ex.tj P w K mg base 7 "check_world" 1 bT:=Ex.p6 (j:=6) D.c12 D.b (Rf.fm (sf D) Rf.bJ) Rf.bI Ex.oE (D.m.ok (by decide +kernel)) si
theorem fj(D:bG K mg):eJ P w K mg base 7 "check_world" 1 bp:=Rf.jg (j:=6) D.c12 D.b (Rf.fm (sf D) Rf.bJ) Rf.bI ud
theorem eH(D:bG K mg):Ex.tj P w K mg base 8 "check_plan" 2 aG:=Ex.p6 (j:=7) D.c13 D.b (Rf.fm (fj D) (Rf.fm (uz D) Rf.bJ)) Rf.bI (Ex.xm (mr D) Ex.oE) (D.m.ok (by decide +kernel)) tU
theorem bH(D:bG K mg):eJ P w K mg base 8 "check_plan" 2 az:=Rf.jg (j:=7) D.c13 D.b (Rf.fm (fj D) (Rf.fm (uz D) Rf.bJ)) Rf.bI wg
theorem ui(D:bG K mg):Ex.tj P w K mg base 2 "check_whole" 3 dG:=Ex.p6 (j:=1) D.c14 D.b (Rf.fm (eV D) Rf.bJ) Rf.bI Ex.oE (D.m.ok (by decide +kernel)) rf
theorem mD(D:bG K mg):eJ P w K mg base 2 "check_whole" 3 cO:=Rf.jg (j:=1) D.c14 D.b (Rf.fm (eV D) Rf.bJ) Rf.bI uc
theorem cW(D:bG K mg):Ex.tj P w K mg base 3 "check_number" 2 aD:=Ex.p6 (j:=2) D.c15 D.b (Rf.fm (mD D) Rf.bJ) Rf.bI (Ex.xm (ui D) Ex.oE) (D.m.ok (by decide +kernel)) pR
theorem bq(D:bG K mg):eJ P w K mg base 3 "check_number" 2 aB:=Rf.jg (j:=2) D.c15 D.b (Rf.fm (mD D) Rf.bJ) Rf.bI sG
theorem xy(D:bG K mg):Ex.tj P w K mg base 4 "check_side" 1 fV:=Ex.p6 (j:=3) D.c16 D.b (Rf.fm (bq D) Rf.bJ) Rf.bI (Ex.xm (cW D) Ex.oE) (D.m.ok (by decide +kernel)) tO
theorem n5(D:bG K mg):eJ P w K mg base 4 "check_side" 1 dg:=Rf.jg (j:=3) D.c16 D.b (Rf.fm (bq D) Rf.bJ) Rf.bI yg
theorem tV(D:bG K mg):Ex.tj P w K mg base 5 "check_place" 3 cM:=Ex.p6 (j:=4) D.c17 D.b (Rf.fm (n5 D) (Rf.fm (bq D) Rf.bJ)) Rf.bI (Ex.xm (xy D) (Ex.xm (cW D) Ex.oE)) (D.m.ok (by decide +kernel)) sv
theorem mv(D:bG K mg):eJ P w K mg base 5 "check_place" 3 cn:=Rf.jg (j:=4) D.c17 D.b (Rf.fm (n5 D) (Rf.fm (bq D) Rf.bJ)) Rf.bI tw
theorem OR(D:bG K mg):Ex.tj P w K mg base 9 "sent" 3 oP:=Ex.p6 (j:=8) D.c18 D.b (Rf.fm (bH D) (Rf.fm (bq D) (Rf.fm (gc D) Rf.bJ))) Rf.bI (Ex.xm (eH D) (Ex.xm (cW D) Ex.oE)) (D.m.ok (by decide +kernel)) KU
theorem Oo(D:bG K mg):eJ P w K mg base 9 "sent" 3 hU:=Rf.jg (j:=8) D.c18 D.b (Rf.fm (bH D) (Rf.fm (bq D) (Rf.fm (gc D) Rf.bJ))) Rf.bI OI
theorem JU(D:bG K mg):Ex.tj P w K mg base 9 "taken" 3 lY:=Ex.p6 (j:=8) D.c19 D.b (Rf.fm (bH D) (Rf.fm (bq D) (Rf.fm (gc D) Rf.bJ))) Rf.bI (Ex.xm (eH D) (Ex.xm (cW D) Ex.oE)) (D.m.ok (by decide +kernel)) Gu
theorem K8(D:bG K mg):eJ P w K mg base 9 "taken" 3 fv:=Rf.jg (j:=8) D.c19 D.b (Rf.fm (bH D) (Rf.fm (bq D) (Rf.fm (gc D) Rf.bJ))) Rf.bI KQ
theorem uI(D:bG K mg):eJ P w K mg base 4 "ways_of" 3 eT:=Rf.SJ (j:=0) D.c20 D.b Rf.bJ Rf.bI EJ
theorem pJ(D:bG K mg):eJ P w K mg base 5 "chosen_by" 4 gZ:=Rf.jg (j:=4) D.c21 D.b (Rf.fm (uI D) Rf.bJ) Rf.bI AW
theorem IK(D:bG K mg):Ex.tj P w K mg base 8 "choice" 4 iK:=Ex.p6 (j:=7) D.c22 D.b (Rf.fm (fj D) (Rf.fm (mv D) (Rf.fm (pJ D) Rf.bJ))) Rf.bI (Ex.xm (mr D) (Ex.xm (tV D) Ex.oE)) (D.m.ok (by decide +kernel)) EA
theorem IJ(D:bG K mg):eJ P w K mg base 8 "choice" 4 fy:=Rf.jg (j:=7) D.c22 D.b (Rf.fm (fj D) (Rf.fm (mv D) (Rf.fm (pJ D) Rf.bJ))) Rf.bI IC
theorem vz(D:bG K mg):eJ P w K mg base 5 "wants_more" 4 cE:=Rf.jg (j:=4) D.c23 D.b (Rf.fm (uI D) (Rf.fm (gc D) Rf.bJ)) Rf.bI vq
theorem gC(D:bG K mg):eJ P w K mg base 6 "why_kept" 3 bW:=Rf.jg (j:=5) D.c24 D.b (Rf.fm (vz D) Rf.bJ) Rf.bI B7
theorem pY(D:bG K mg):eJ P w K mg base 7 "first_leaving" 2 dH:=Rf.jg (j:=6) D.c25 D.b (Rf.fm (gC D) Rf.bJ) Rf.bI p7
theorem rg(D:bG K mg):eJ P w K mg base 8 "is_still" 2 i8:=Rf.jg (j:=7) D.c26 D.b (Rf.fm (pY D) Rf.bJ) Rf.bI BH
theorem Er(D:bG K mg):Ex.tj P w K mg base 9 "leaving" 2 iL:=Ex.p6 (j:=8) D.c27 D.b (Rf.fm (bH D) (Rf.fm (gC D) Rf.bJ)) Rf.bI (Ex.xm (eH D) Ex.oE) (D.m.ok (by decide +kernel)) CC
theorem EB(D:bG K mg):eJ P w K mg base 9 "leaving" 2 dU:=Rf.jg (j:=8) D.c27 D.b (Rf.fm (bH D) (Rf.fm (gC D) Rf.bJ)) Rf.bI E3
theorem Lz(D:bG K mg):Ex.tj P w K mg base 9 "rests" 2 oi:=Ex.p6 (j:=8) D.c28 D.b (Rf.fm (bH D) (Rf.fm (rg D) Rf.bJ)) Rf.bI (Ex.xm (eH D) Ex.oE) (D.m.ok (by decide +kernel)) Gf
theorem LR(D:bG K mg):eJ P w K mg base 9 "rests" 2 gM:=Rf.jg (j:=8) D.c28 D.b (Rf.fm (bH D) (Rf.fm (rg D) Rf.bJ)) Rf.bI LD
theorem G7(D:bG K mg):Ex.tj P w K mg base 9 "reason" 3 iC:=Ex.p6 (j:=8) D.c29 D.b (Rf.fm (bH D) (Rf.fm (bq D) (Rf.fm (gC D) Rf.bJ))) Rf.bI (Ex.xm (eH D) (Ex.xm (cW D) Ex.oE)) (D.m.ok (by decide +kernel)) EN
theorem IW(D:bG K mg):eJ P w K mg base 9 "reason" 3 fE:=Rf.jg (j:=8) D.c29 D.b (Rf.fm (bH D) (Rf.fm (bq D) (Rf.fm (gC D) Rf.bJ))) Rf.bI IP
theorem A5(D:bG K mg):eJ P w K mg base 1 "_law_cell" 2 dX:=Rf.jg (j:=0) D.c30 D.b Rf.bJ Rf.bI Bw
theorem fZ(D:bG K mg):eJ P w K mg base 2 "_law_drawn" 3 ak:=Rf.jg (j:=1) D.c31 D.b (Rf.fm (A5 D) Rf.bJ) Rf.bI wy
theorem ua(D:bG K mg):eJ P w K mg base 3 "_law_orders" 3 bS:=Rf.jg (j:=2) D.c32 D.b (Rf.fm (fZ D) Rf.bJ) Rf.bI tL
theorem wu(D:bG K mg):eJ P w K mg base 4 "_law_world" 3 b8:=Rf.jg (j:=3) D.c33 D.b (Rf.fm (ua D) (Rf.fm (fZ D) Rf.bJ)) Rf.bI yf
theorem kn(D:bG K mg):eJ P w K mg base 1 "_law_used" 4 bx:=Rf.jg (j:=0) D.c34 D.b Rf.bJ Rf.bI AA
theorem Ac(D:bG K mg):eJ P w K mg base 2 "_law_fits" 2 cY:=Rf.jg (j:=1) D.c35 D.b (Rf.fm (kn D) Rf.bJ) Rf.bI Ao
theorem zx(D:bG K mg):eJ P w K mg base 3 "_law_plan" 3 fM:=Rf.jg (j:=2) D.c37 D.b (Rf.fm (Ac D) (Rf.fm (fZ D) Rf.bJ)) Rf.bI zu
theorem xo(D:bG K mg):eJ P w K mg base 2 "_law_wants" 5 cH:=Rf.jg (j:=1) D.c38 D.b (Rf.fm (kn D) Rf.bJ) Rf.bI yu
theorem C7(D:bG K mg):eJ P w K mg base 3 "_law_why" 3 eM:=Rf.jg (j:=2) D.c39 D.b (Rf.fm (xo D) Rf.bJ) Rf.bI Cr
theorem tK(D:bG K mg):eJ P w K mg base 1 "_law_choice" 4 dE:=Rf.jg (j:=0) D.c41 D.b Rf.bJ Rf.bI tH
theorem FJ{k:Nat}(D:bG K mg):∀c d,Ex.kr Re c=some d->Ex.Do P w K mg base k "_law_refused" c d:=Ex.Qw D.c43 D.m D.b rfl Rf.O4 rfl rfl rfl rfl rfl (by decide +kernel) (by decide +kernel) (by decide) rfl rfl
theorem Bg(D:bG K mg):eJ P w K mg base 10 "_law_told" 4 ao:=Ex.Qe (j:=9) (ns:=Re) D.c44 D.b D.m (Rf.fm (EB D) (Rf.fm (LR D) (Rf.fm (IW D) (Rf.fm (IJ D) (Rf.fm (Oo D) (Rf.fm (K8 D) Rf.bJ)))))) Rf.bI (Ex.xm (Er D) (Ex.xm (Lz D) (Ex.xm (G7 D) (Ex.xm (IK D) (Ex.xm (OR D) (Ex.xm (JU D) Ex.oE)))))) (FJ D) (by decide +kernel) Az
end
theorem Ny{P:Program}{w:World}{K:W.Frag}{h:Heap}{mg:Str->Option Value}{fa:Addr}(X:K.In h)(G:h.Ns mainGlobals mg)(hfa:mg "law"=some (.ref fa))(I:Pb K):∃fd:FuncData,(∀ (s:Shared) (v:Value),BindsTo s fd ⟨[v],[]⟩ [("_law_script",v)])/\∀base:Heap,K.In base->base.Ns mainGlobals mg->ni P w K mg base Hh 11 fa fd ["_law_script"] (ON K 1 iB):=by
 have D:=I.defs X G
 obtain⟨f,fd,hm,F,hb⟩:=D.c45.ex
 rw[hfa] at hm;cases hm
 refine⟨fd,fun s v=>?_,fun base _ _=>Mz F (Rf.O4 (N:=u5)) fun X hP hw hK hm' hb' C _ _ HF H=>by subst hP;subst hw;subst hK;subst hm';subst hb';exact Rf.Mb (j:=10) C D.b (Rf.fm (wu D) (Rf.fm (zx D) (Rf.fm (C7 D) (Rf.fm (fZ D) (Rf.fm (Bg D) (Rf.fm (kn D) (Rf.fm (tK D) Rf.bJ))))))) Rf.bI Qv⟩
 obtain⟨oc,od,kV,doc,pm,an,cdv,ct,osl,rfl,lk,hcd⟩:=F.ex
 exact .of_eq rfl
theorem walk{l:W.OpenLaw}{q:Program}{loose:List Str}{XP:(Str->Option Value)->Heap->Prop}{YP:World->Heap->Prop}{d:DefRec}{K:Params->W.Frag}{ts:List Addr}(hn:l.most=some 63)(hdf:d.params.defaults=[])(hname:d.name="law")
  (hY:∀ (w:World) (h:Heap),YP w h->(K w.params).In h/\∀P∈ts,h.get? P=some (W.tabObj #[])) (ht:∀w:World,n9 (K w.params) ts=true) (hI:∀w:World,Pb (K w.params)) (main:∀ns:List Int,ns.length<=63->iB [.list (ns.map PyData.int)]=some (.bool true)) :
  W.WalkO q loose XP YP l.row.toRowW d [] (fun f vs=>PySem.call f vs) :=
 JL (n:=63) (k:=11) (x:="_law_script") (CX:=fun _=>Hh) (sp:=fun w=>ON (K w.params) 1 iB) hn (by decide) hdf ⟨rfl,by decide,by decide⟩ hY ht (fun w mg fa h KX G hmg=>Ny KX G (by rw[<- hname];exact hmg) (hI w)) (fun _ _ a ns hl hT hS=>C3 hS hT (main ns hl)) fun _ _ _ _ _ z=>z
end K10
namespace Dl
open PySem L2 PySem.Spec PyProof.Rows
def AL:D->Prop|.none=>True|.bool _=>True|.int _=>True|.str x=>PyData.canLay0 (.str x)=true|_=>False
def iu(b:Nat):Nat->D->Prop
 | 0,d=>AL d
 | k+1,d=>AL d\/(∃xs,(d=.list xs\/d=.tuple xs)/\xs.length<=b/\∀x∈xs,iu b k x)
theorem iu.leaf{b k:Nat}{d:D}(h:AL d):iu b k d:=by
 cases k with
 | zero=>exact h
 | succ k=>exact .inl h
theorem iu.tup{b k:Nat}{xs:List D}(hb:xs.length<=b)(h:∀x∈xs,iu b k x):iu b (k+1) (.tuple xs):=.inr ⟨xs,.inr rfl,hb,h⟩
theorem iu.lst{b k:Nat}{xs:List D}(hb:xs.length<=b)(h:∀x∈xs,iu b k x):iu b (k+1) (.list xs):=.inr ⟨xs,.inl rfl,hb,h⟩
theorem iu.of_tup{b k:Nat}{xs:List D}(h:iu b k (.tuple xs)):∃j,k=j+1/\xs.length<=b/\∀x∈xs,iu b j x:=by
 cases k with
 | zero=>cases h
 | succ k =>
  rcases h with h|⟨ys,h|h,h1,h2⟩
  ·cases h
  ·cases h
  ·cases h;exact⟨k,rfl,h1,h2⟩
theorem iu.mono{b b':Nat}(hb:b<=b'):∀ {k k':Nat}{d:D},k<=k'->iu b k d->iu b' k' d
 | 0,k',d,_,h=>.leaf h
 | k+1,0,d,hk,h=>by omega
 | k+1,k'+1,d,hk,h=>by
  rcases h with h|⟨xs,h,h1,h2⟩
  ·exact .inl h
  ·exact .inr ⟨xs,h,yC h1 hb,fun x hx=>(h2 x hx).mono hb (by omega)⟩
theorem Dp{b k:Nat}:∀ {xs:List D},(∀x∈xs,PyData.canLay0 x=true/\x.depth<=k)->PyData.canLayAll0 xs=true/\PyData.depthAll xs<=k
 | [],_=>⟨by simp[PyData.canLayAll0],by simp[PyData.depthAll]⟩
 | x::xs,h=>by
  obtain⟨a,c⟩:=Dp (b:=b) (xs:=xs) fun y hy=>h y (zC _ hy)
  obtain⟨a',c'⟩:=h x zE
  exact⟨by simp[PyData.canLayAll0,a,a'],by simp[PyData.depthAll];omega⟩
theorem iu.lay{b:Nat}:∀ {k:Nat}{d:D},iu b k d->PyData.canLay0 d=true/\d.depth<=k:=by
 have lf:∀ {k:Nat}{d:D},AL d->PyData.canLay0 d=true/\d.depth<=k:=fun {k d} h=>by
  cases d<;>simp only[AL] at h<;>first|exact⟨h,by simp[PyData.depth]⟩|exact⟨by simp[PyData.canLay0],by simp[PyData.depth]⟩
 intro k
 induction k with
 | zero=>exact fun h=>lf h
 | succ k ih =>
  intro d h
  rcases h with h|⟨xs,h,h1,h2⟩
  ·exact lf h
  ·obtain⟨a,c⟩:=Dp (b:=b) (xs:=xs) fun y hy=>ih (h2 y hy)
   rcases h with rfl|rfl
   ·exact⟨by simp[PyData.canLay0,a],by simp[PyData.depth];omega⟩
   ·exact⟨by simp[PyData.canLay0,a],by simp[PyData.depth];omega⟩
theorem iu.shaped{b k:Nat}{d:D}(h:iu b k d)(hk:k<=64):SeqAt.shaped d=true:=by
 obtain⟨a,c⟩:=h.lay
 simp[SeqAt.shaped,a];omega
theorem iu.noDict{b k:Nat}{d:D}(h:iu b k d):∀kv,d≠.dict kv:=by
 rintro kv rfl
 have:=h.lay.1
 simp[PyData.canLay0] at this
def gm:D->Bool|.dict _=>false|_=>true
theorem iu.nd{b k:Nat}{d:D}(h:iu b k d):gm d=true:=by
 cases d<;>first|rfl|exact absurd rfl (h.noDict _)
def Sd:D->Bool|.int _=>true|.bool _=>true|_=>false
def R5:D->Bool|.bool _=>true|_=>false
def Me:D->Bool|.tuple _=>true|_=>false
theorem kI{d:D}(h:gm d=true):xx (hV d) "int"=some (Sd d):=by cases d<;>first|cases h;done|exact LO _ (by simp[hV])
theorem kB{d:D}(h:gm d=true):xx (hV d) "bool"=some (R5 d):=by cases d<;>first|cases h;done|exact GE _ (by simp[hV])
theorem kT{d:D}(h:gm d=true):xx (hV d) "tuple"=some (Me d):=by cases d<;>first|cases h;done|exact kit_tuple _ (by simp[hV])
def whole(a b:Int):D->Bool|.int i=>decide (a<=i)&&decide (i<=b)|_=>false
theorem va{tgt:Env->D->Option Env}{te:Env->Option D}{ρ:Env}{h:D->D}:∀ {ds:List D},(∀d∈ds,∃ρ',tgt ρ d=some ρ'/\te ρ'=some (h d))->dz tgt (fun _=>some true) te ρ ds=some (ds.map h)
 | [],_=>rfl
 | d::ds,hh=>by
  obtain⟨ρ',h1,h2⟩:=hh d zE
  have ih:=va (ds:=ds) fun y hy=>hh y (zC _ hy)
  unfold dz
  rw[h1]
  simp[h2,ih]
theorem nq{tgt:Env->D->Option Env}{tt:Env->Option Bool}{te:Env->Option D}{ρ:Env}{p:D->Bool}{h:D->D}:∀ {ds:List D},(∀d∈ds,∃ρ',tgt ρ d=some ρ'/\tt ρ'=some (p d)/\(p d=true->te ρ'=some (h d)))->dz tgt tt te ρ ds=some ((ds.filter p).map h)
 | [],_=>rfl
 | d::ds,hh=>by
  obtain⟨ρ',h1,h2,h3⟩:=hh d zE
  have ih:=nq (ds:=ds) fun y hy=>hh y (zC _ hy)
  unfold dz
  rw[h1]
  simp only[zA,h2]
  cases hp:p d with
  | true=>rw[yL rfl,h3 hp];simp[ih,jX,hp]
  | false=>simp[ih,jX,hp]
theorem pC{p:D->Bool}:∀ds:List D,boolsOf (ds.map fun d=>.bool (p d))=some (ds.map p)
 | []=>rfl
 | d::ds=>by simp[boolsOf,pC ds]
theorem nr{p:D->Bool}(ds:List D):n6 [.list (ds.map fun d=>.bool (p d))]=some (.bool (ds.all p)):=by
 simp only[n6,oneOf,zA,pC,zB,List.all_map]
 rfl
theorem bQ{ds:List D}(h:ds.length<=4000):small ds=some ds:=yL (yC h (by decide))
theorem nO{ds:List D}{i:Nat}(h:i < ds.length):y3 ds (i:Nat)=some (ds.getD i .none):=by
 have:=yi (xs:=ds) (j:=i) (v:=ds[i]) (List.getElem?_eq_some_iff.mpr ⟨h,rfl⟩)
 rw[this]
 simp[List.getD,h]
theorem D8{ds:List D}(h:0 < ds.length):y3 ds 0=some (ds.getD 0 .none):=nO (i:=0) h
theorem A7{ds:List D}(h:1 < ds.length):y3 ds 1=some (ds.getD 1 .none):=nO (i:=1) h
theorem MA{ds:List D}(h:2 < ds.length):y3 ds 2=some (ds.getD 2 .none):=nO (i:=2) h
end Dl
namespace Wm
open PySem L2 Dl PySem.Spec PyProof.Rows Pg
theorem z7{fa fb fc:Dl.Env->Option D}{ρ:Dl.Env}{a i b:Int}(ha:fa ρ=some (.int a))(hb:fb ρ=some (.int i))(hc:fc ρ=some (.int b)):lx Dq Dq fa fb fc ρ=some (.bool (decide (a<=i)&&decide (i<=b))):=by
 simp only[lx,ha,hb,hc,zA,Dq,za,xH]
 by_cases h:a<=i<;>simp[h]
theorem rQ(i j:Int):Dl.cU (.int i) (.int j)=some (.int (i - j)):=rfl
theorem eF(i j:Int):Dl.aI (.int i) (.int j)=some (.int (i+j)):=rfl
theorem yw(d:D):Slot.all (.val d)=some d:=rfl
theorem ym(ds:List D):Slot.all (.own ds)=some (.list ds):=rfl
theorem Dm:Slot.all .non=none:=rfl
theorem DH(d:D):Slot.frz (.val d)=some d:=rfl
theorem D6(ds:List D):Slot.frz (.own ds)=none:=rfl
theorem Du:Slot.frz .non=none:=rfl
local macro_rules|`(tactic| simp! [$ts,*])=>`(tactic| simp only[bD,ay,dW,aM,du,sM,dw,bE,fB,gB,Mp,ae,fC,me,QZ,OS,Qt,f1,f2,rQ,eF,aa,af,ai,aZ,k6,aP,cI,oneOf,g0,aJ,yw,ym,Dm,DH,D6,Du,bL,bR,bV,aN,b0,av,  zI,yU,xF,xO,zL,xK,List.replicate,xQ,yY,qG,kO,zA,Option.bind_none,zB,Option.map_none,Nat.reduceAdd,Nat.reduceSub,jD,Nat.sub_self,xH,reduceIte,$ts,*])
theorem dQ{d:D}(h:gm d=true)(a b:Int):aS [d,.int a,.int b]=some (.bool (whole a b d)):=by
 simp! [aS,mX,kI h,kB h]
 cases d<;>simp[Sd,R5,whole]
 rw[z7 rfl rfl rfl]
theorem lj{d:D}(h:gm d=true)(n:Int):cf [d,.int n]=some (.bool (whole 0 (n - 1) d)):=by
 simp! [cf,kh,dQ h]
def long(a b:Int):D->Bool|.tuple ds=>decide (a<=(ds.length:Int))&&decide ((ds.length:Int)<=b)|_=>false
theorem dY{d:D}(h:gm d=true)(a b:Int):bw [d,.int a,.int b]=some (.bool (long a b d)):=by
 simp! [bw,pk,kT h]
 cases d<;>simp[Me,long]
 rw[z7 rfl (i:=_) rfl rfl]
def l0:D->Int|.int i=>i|_=>0
theorem f9{a b:Int}{d:D}(h:whole a b d=true):d=.int (l0 d)/\a<=l0 d/\l0 d<=b:=by
 cases d<;>simp[whole] at h
 exact⟨rfl,h⟩
theorem mU{a b:Int}:∀ {ls:List D},ls.all (whole a b)=true->ls=(ls.map l0).map PyData.int
 | [],_=>rfl
 | d::ls,h=>by
  rw[xS,zF] at h
  rw[zI,zI,<- (f9 h.1).1,<- mU h.2]
def jv(n:Int):D->Bool|.tuple ls=>ls.all (whole 0 (n - 1))&&decide ((ls.map l0).Nodup)|_=>false
theorem cA(i j:Int):ba (.int i) (.int j)=some (.bool (decide (i=j))):=by
 simp[ba,MB,SeqAt.shaped,PyData.canLay0,PyData.depth,PyData.eqv]
 rfl
theorem Fs{ls:List D}{a b:Int}(h:ls.all (whole a b)=true)(hl:ls.length<=100):f2 ba (f1 l6 (fun _=>some (.tuple ls))) (aZ aP (aa (fun _=>some (.tuple ls)) af)) []=some (.bool (decide ((ls.map l0).Nodup))):=by
 have e:=mU h
 have e1:l6 (.tuple ls)=some (.int (many (ls.map l0))):=by
  simp only[l6,lW]
  conv=>lhs;rw[e]
  rw[cG,zA,yL]
  rw[zD]
  exact qZ (Nat.add_le_add_right hl 1) (by decide)
 simp! [e1,cA]
 have:=B1 (ls.map l0)
 rw[zD] at this
 simp only[<- this,Int.ofNat_inj,yK,PyData.bool.injEq]
theorem P0(r:Dl.Env)(d:D):fG 0 (none::r) d=some (some d::r):=by simp[fG,isFree]
theorem cL{cs:List Nat}{fi:Dl.Env->Option (List D)}{ds:List D}{te:Dl.Env->Option D}{h:D->D}{ρ:Dl.Env}(hfi:fi ρ=some ds)(hl:ds.length<=4000)(hh:∀d∈ds,te (some d::cs.map fun j=>(ρ[j]?).getD none)=some (h d)):au 1 cs fi (fG 0) (fun _=>some true) te ρ=some (ds.map h):=by
 simp only[au,hfi,zA,fJ,List.replicate,xF,xO]
 rw[va (h:=h) fun d hd=>⟨_,P0 _ d,hh d hd⟩,zA,bQ (by rw[zD];exact hl)]
theorem nV{cs:List Nat}{fi:Dl.Env->Option (List D)}{ds:List D}{tt:Dl.Env->Option Bool}{te:Dl.Env->Option D}{p:D->Bool}{h:D->D}{ρ:Dl.Env}(hfi:fi ρ=some ds)(hl:ds.length<=4000)
  (hp:∀d∈ds,tt (some d::cs.map fun j=>(ρ[j]?).getD none)=some (p d)) (hh:∀d∈ds,p d=true->te (some d::cs.map fun j=>(ρ[j]?).getD none)=some (h d)):au 1 cs fi (fG 0) tt te ρ=some ((ds.filter p).map h):=by
 simp only[au,hfi,zA,fJ,List.replicate,xF,xO]
 rw[nq (p:=p) (h:=h) fun d hd=>⟨_,P0 _ d,hp d hd,hh d hd⟩,zA,bQ (by rw[zD];exact yC (xP _ _) hl)]
theorem Ad{b k:Nat}{d:D}(h:iu b k d)(hb:b<=100)(n:Int):fA [d,.int n]=some (.bool (jv n d)):=by
 simp! [fA,k4,kT h.nd]
 cases d<;>try (simp[Me,jv];done)
 rename_i ls
 obtain⟨j,rfl,hl,hf⟩:=h.of_tup
 have c:=cL (cs:=[1]) (fi:=bL (ae 0)) (te:=(ai 2 cf (aa (ae 0) (aa (ae 1) af)))) (h:=fun x=>.bool (whole 0 (n - 1) x)) (ρ:=[some (.tuple ls),some (.int n)]) rfl (by omega) fun x hx=>by simp! [lj (hf x hx).nd]
 simp! [Me,xY,yO,c,nr]
 cases e:ls.all (whole 0 (n - 1)) with
 | false=>simp[jv,e]
 | true =>
  have:=Fs e (yC hl hb)
  simp only[f2,f1,aZ,aa,af,zA,zB] at this
  simp! [jv,e,xY,yO,jL]
  simp only[aP,cI,oneOf,zA,g0,zB] at this
  simp! [this]
def placeOk(n:Int):D->Bool|.tuple ds=>decide (ds.length=2)&&(whole 0 9 (ds.getD 0 .none)&&jv n (ds.getD 1 .none))|_=>false
def jy(g t:Int):D->Bool|.tuple ds=>decide (ds.length=3)&&(whole 0 (g - 1) (ds.getD 0 .none)&&(whole 0 (t - 1) (ds.getD 1 .none)&&whole 1 9 (ds.getD 2 .none)))|_=>false
theorem rm(n:Nat)(ds:List D):long (n:Int) (n:Int) (.tuple ds)=decide (ds.length=n):=by
 simp only[long]
 by_cases h:ds.length=n
 ·simp[h]
 ·rw[zY h,Bool.and_eq_false_iff,xB,xB];omega
theorem getD_mem{ds:List D}{i:Nat}(h:i < ds.length):ds.getD i .none∈ds:=by simp[List.getD,h]
theorem Aw{b k:Nat}{d:D}(h:iu b k d)(hb:b<=100)(n:Int):fI [d,.int n]=some (.bool (placeOk n d)):=by
 simp! [fI,sr,dY h.nd]
 cases d<;>try (simp[long,placeOk];done)
 rename_i ds
 obtain⟨j,rfl,hl,hf⟩:=h.of_tup
 rw[show long 2 2 (.tuple ds)=decide (ds.length=2) from rm 2 ds]
 by_cases e:ds.length=2
 ·have f0:=hf _ (getD_mem (i:=0) (by omega))
  have f1:=hf _ (getD_mem (i:=1) (by omega))
  simp! [e,jQ,D8 (show 0 < ds.length by omega),A7 (show 1 < ds.length by omega),dQ f0.nd,Ad f1 hb,placeOk]
  cases whole 0 9 (ds.getD 0 .none)<;>simp
 ·simp[e,placeOk]
theorem JC{b k:Nat}{d:D}(h:iu b k d)(hb:b<=100)(g t:Int):iP [d,.int g,.int t]=some (.bool (jy g t d)):=by
 simp! [iP,rE,dY h.nd]
 cases d<;>try (simp[long,jy];done)
 rename_i ds
 obtain⟨j,rfl,hl,hf⟩:=h.of_tup
 rw[show long 3 3 (.tuple ds)=decide (ds.length=3) from rm 3 ds]
 by_cases e:ds.length=3
 ·have f0:=hf _ (getD_mem (i:=0) (by omega))
  have f1:=hf _ (getD_mem (i:=1) (by omega))
  have f2':=hf _ (getD_mem (i:=2) (by omega))
  simp! [e,jQ,xY,yO,D8 (show 0 < ds.length by omega),A7 (show 1 < ds.length by omega),MA (show 2 < ds.length by omega),dQ f2'.nd,lj f0.nd,lj f1.nd,jy]
  cases whole 0 (g - 1) (ds.getD 0 .none)<;>cases whole 0 (t - 1) (ds.getD 1 .none)<;>simp
 ·simp[e,jy]
def da:D->List D|.tuple ds=>ds|_=>[]
def oM(d:D):Bool:=long 1 4 d
def js(g t w:D):Bool:=oM g&&(oM t&&((da g).all (placeOk (da t).length)&&((da t).all (placeOk (da g).length)&&(Me w&&(da w).all (jy (da g).length (da t).length)))))
theorem k8{a b:Int}{d:D}(h:long a b d=true):d=.tuple (da d):=by cases d<;>first|rfl|cases h
theorem pH{b k:Nat}{g t w:D}(hg:iu b k g)(ht:iu b k t)(hw:iu b k w)(hb:b<=100):fL [g,t,w]=some (.bool (js g t w)):=by
 simp! [fL,lh,dY hg.nd,dY ht.nd,kT hw.nd]
 unfold js oM
 cases e1:long 1 4 g with
 | false=>simp
 | true =>
  cases e2:long 1 4 t with
  | false=>simp
  | true =>
   obtain⟨gs,rfl⟩:∃gs,g=.tuple gs:=⟨_,k8 e1⟩
   obtain⟨ts,rfl⟩:∃ts,t=.tuple ts:=⟨_,k8 e2⟩
   obtain⟨j,rfl,hgl,hgf⟩:=hg.of_tup
   obtain⟨j',hj,htl,htf⟩:=ht.of_tup
   have c1:=cL (cs:=[1]) (fi:=bL (ae 0)) (te:=(ai 2 fI (aa (ae 0) (aa (aZ aP (aa (ae 1) af)) af)))) (h:=fun x=>.bool (placeOk ts.length x)) (ρ:=[some (.tuple gs),some (.tuple ts),some w]) rfl (by omega) fun x hx=>by simp! [Aw (hgf x hx) hb]
   have c2:=cL (cs:=[0]) (fi:=bL (ae 1)) (te:=(ai 2 fI (aa (ae 0) (aa (aZ aP (aa (ae 1) af)) af)))) (h:=fun x=>.bool (placeOk gs.length x)) (ρ:=[some (.tuple gs),some (.tuple ts),some w]) rfl (by omega) fun x hx=>by simp! [Aw (htf x hx) hb]
   simp! [xY,yO,c1,nr,da,jL]
   cases e3:gs.all (placeOk ts.length) with
   | false=>simp
   | true =>
    simp! [xY,yO,c2,nr,jL]
    cases e4:ts.all (placeOk gs.length) with
    | false=>simp
    | true =>
     cases hT:Me w with
     | false=>simp! [xY,yO,kT hw.nd,hT,wC,kZ]
     | true =>
     obtain⟨ws,rfl⟩:∃ws,w=.tuple ws:=by cases w<;>first|exact⟨_,rfl⟩|cases hT
     obtain⟨j2,hj2,hwl,hwf⟩:=hw.of_tup
     have c3:=cL (cs:=[0,1]) (fi:=bL (ae 2)) (te:=(ai 3 iP (aa (ae 0) (aa (aZ aP (aa (ae 1) af)) (aa (aZ aP (aa (ae 2) af)) af))))) (h:=fun x=>.bool (jy gs.length ts.length x)) (ρ:=[some (.tuple gs),some (.tuple ts),some (.tuple ws)]) rfl (by omega) fun x hx=>by simp! [JC (hwf x hx) hb]
     simp! [xY,yO,c3,nr,jL,kT hw.nd,Me]
theorem sN:∀ (a b:List Int),PyData.eqvAll (a.map PyData.int) (b.map PyData.int)=decide (a=b)
 | [],[]=>by simp[PyData.eqvAll]
 | [],_::_=>by simp[PyData.eqvAll]
 | _::_,[]=>by simp[PyData.eqvAll]
 | i::a,j::b=>by
  rw[zI,zI,PyData.eqvAll,sN a b]
  by_cases h:i=j
  ·subst h;simp[PyData.eqv]
  ·simp[PyData.eqv,h]
theorem z9:∀ (a b:List (List Int)),PyData.eqvAll (a.map ah) (b.map ah)=decide (a=b)
 | [],[]=>by simp[PyData.eqvAll]
 | [],_::_=>by simp[PyData.eqvAll]
 | _::_,[]=>by simp[PyData.eqvAll]
 | x::a,y::b=>by
  rw[zI,zI,PyData.eqvAll,z9 a b,ah,ah,PyData.eqv,sN]
  by_cases h:x=y
  ·subst h;simp
  ·simp[h]
theorem ja{b k:Nat}(i:Int):iu b k (.int i):=.leaf trivial
theorem De{b k:Nat}{r:List Int}(h:r.length<=b):iu b (k+1) (ah r):=.tup (by rw[zD];exact h) fun x hx=>by
 obtain⟨i,_,rfl⟩:=List.mem_map.mp hx
 exact ja i
theorem IT{b k:Nat}{a:List (List Int)}(h:a.length<=b)(hr:∀r∈a,r.length<=b):iu b (k+2) (.list (a.map ah)):=.lst (by rw[zD];exact h) fun x hx=>by
 obtain⟨r,hr',rfl⟩:=List.mem_map.mp hx
 exact De (hr r hr')
theorem Fh(a:List (List Int)):∃b,a.length<=b/\∀r∈a,r.length<=b:=by
 induction a with
 | nil=>exact⟨0,yM _,fun r h=>by cases h⟩
 | cons x a ih =>
  obtain⟨b,h1,h2⟩:=ih
  refine⟨b+1+x.length,by rw[zL];omega,fun r hr=>?_⟩
  rcases List.mem_cons.mp hr with rfl|hr
  ·omega
  ·have:=h2 r hr;omega
theorem Bp(a:List (List Int)):SeqAt.shaped (.list (a.map ah))=true:=by
 obtain⟨b,h1,h2⟩:=Fh a
 exact (IT (b:=b) (k:=0) h1 h2).shaped (by decide)
theorem FT(a b:List (List Int)):ba (.list (a.map ah)) (.list (b.map ah))=some (.bool (decide (a=b))):=by
 simp only[ba,MB,Bp,jP,xH,PyData.eqv,z9,zB]
def iD(d:D):List Int:=(da ((da d).getD 1 .none)).map l0
theorem je{n:Int}{d:D}(h:placeOk n d=true):∃a ds,d=.tuple ds/\ds.length=2/\ds.getD 0 .none=.int a/\0<=a/\a<=9/\ds.getD 1 .none=.tuple ((iD d).map PyData.int)/\(iD d).Nodup/\∀j∈iD d,0<=j/\j<=n - 1:=by
 cases d<;>simp only[placeOk] at h<;>try cases h
 rename_i ds
 simp only[zF,zJ] at h
 obtain⟨h1,h2,h3⟩:=h
 have e:iD (.tuple ds)=(da (ds.getD 1 .none)).map l0:=rfl
 rw[e]
 generalize hl:ds.getD 1 .none=l at h3
 cases l<;>simp only[jv] at h3<;>try cases h3
 rename_i ls
 simp only[zF,zJ] at h3
 obtain⟨w1,w2,w3⟩:=f9 h2
 refine⟨_,ds,rfl,h1,w1,w2,w3,?_,h3.2,fun j hj=>?_⟩
 ·rw[show da (.tuple ls)=ls from rfl,<- mU h3.1];exact hl
 ·obtain⟨x,hx,rfl⟩:=List.mem_map.mp hj
  exact (f9 (List.all_eq_true.mp h3.1 x hx)).2
def m9(k:Nat):List D->List (List Int)|[]=>[]|p::ps=>(iD p).map (fun j=>[((k:Nat):Int),j])++m9 (k+1) ps
theorem sV:∀ (n:Nat) {l:List Int},l.Nodup->(∀j∈l,0<=j/\j<=(n:Int) - 1)->l.length<=n:=by
 intro n l hn h
 have hs:l.map Int.toNat ⊆ List.range n:=fun x hx=>by
  obtain⟨j,hj,rfl⟩:=List.mem_map.mp hx
  have:=h j hj
  exact List.mem_range.mpr (by omega)
 have hnd:(l.map Int.toNat).Nodup:=by
  refine List.pairwise_map.mpr (hn.imp_of_mem fun {x y} hx hy hne e=>hne ?_)
  have:=h x hx;have:=h y hy;omega
 have:=List.Nodup.length_le_of_subset hnd hs
 simpa using this
theorem w8{n:Nat}:∀ {ps:List D}{k:Nat},(∀p∈ps,placeOk n p=true)->(m9 k ps).length<=ps.length * n
 | [],k,_=>xV _
 | p::ps,k,h=>by
  obtain⟨_,_,_,_,_,_,_,_,hn,hr⟩:=je (h p zE)
  have h1:=sV n hn hr
  have h2:=w8 (ps:=ps) (k:=k+1) fun q hq=>h q (zC _ hq)
  rw[m9,zN,zD,zL,Nat.succ_mul]
  omega
def pB:ar->Option Out:=Ew 1 [2,3] (au 1 [2] (bL (f2 av (ae 3) (fC (.int 1)))) (fG 0) (fun _=>some true) (aN (aa (ae 1) (aa (ae 0) af))))
theorem BN{n:Nat}{p x:D}{acc:List D}{k:Nat}(hp:placeOk n p=true)(hn:n<=100)(ha:acc.length<=1000):pB [.val x,.own acc,.val (.int (k:Nat)),.val p]=some (.nx [.val x,.own (acc++((iD p).map fun j=>ah [((k:Nat):Int),j])),.val (.int (k:Nat)),.val p]):=by
 obtain⟨a,ds,rfl,hl,_,_,_,h1,hnd,hr⟩:=je hp
 have hb:=sV n hnd hr
 generalize iD (.tuple ds)=ls at *
 have c:=cL (cs:=[2]) (fi:=bL (f2 av (ae 3) (fC (.int 1)))) (te:=aN (aa (ae 1) (aa (ae 0) af))) (h:=fun y=>.tuple [.int (k:Nat),y]) (ρ:=[some x,none,some (.int (k:Nat)),some (.tuple ds)]) (ds:=ls.map PyData.int)
  (by simp! [A7 (show 1 < ds.length by omega),h1]) (by rw[zD];omega) fun y hy=>by
   simp! [bQ (show [PyData.int (k:Nat),y].length<=4000 by simp)]
 have hh:hand [2,3] 0 [Slot.val x,.own acc,.val (.int (k:Nat)),.val (.tuple ds)]=[Slot.val x,.own acc,.val (.int (k:Nat)),.val (.tuple ds)]:=rfl
 simp only[pB,Ew,hh,bZ,zI,yU,Slot.frz,c,zA,sS,yY,xQ]
 rw[yL]
 ·simp only[zB,yW,yV,zM]
  rfl
 ·simp only[zD]
  exact yC (show acc.length+ls.length<=1100 by omega) (by decide)
theorem uU{n:Nat}{x:D}(hn:n<=100):∀ {ps:List D}{k:Nat}{acc:List D}{s2 s3:Slot},(∀p∈ps,placeOk n p=true)->acc.length+ps.length * n<=1000 ->
  ∃t2 t3,fO (gJ 2 3) pB (bP k ps) [.val x,.own acc,s2,s3]=some (.nx [.val x,.own (acc++(m9 k ps).map ah),t2,t3])
 | [],k,acc,s2,s3,_,_=>⟨s2,s3,by simp[bP,fO,m9]⟩
 | p::ps,k,acc,s2,s3,h,hl=>by
  have hp:=h p zE
  obtain⟨_,_,_,_,_,_,_,_,hnd,hr⟩:=je hp
  have hb:=sV n hnd hr
  rw[zL,Nat.succ_mul] at hl
  obtain⟨t2,t3,e⟩:=uU hn (x:=x) (ps:=ps) (k:=k+1) (acc:=acc++((iD p).map fun j=>ah [((k:Nat):Int),j])) (s2:=.val (.int (k:Nat))) (s3:=.val p) (fun q hq=>h q (zC _ hq)) (by rw[zN,zD];omega)
  refine⟨t2,t3,?_⟩
  have hs:gJ 2 3 [.val x,.own acc,s2,s3] (.tuple [.int (k:Nat),p])=some [.val x,.own acc,.val (.int (k:Nat)),.val p]:=rfl
  simp only[bP,fO,hs,zA,BN hp hn (show acc.length<=1000 by omega)]
  rw[e]
  simp[m9,zM,Za]
theorem Dz{n:Nat}{ps:List D}(h:∀p∈ps,placeOk n p=true)(hn:n<=100)(hl:ps.length * n<=1000):bK [.tuple ps]=some (.list ((m9 0 ps).map ah)):=by
 obtain⟨t2,t3,e⟩:=uU hn (x:=.tuple ps) (k:=0) (acc:=[]) (s2:=.non) (s3:=.non) h (by simpa using hl)
 have hs:bu 1 [] (b0 af) [Slot.val (.tuple ps),.non,.non,.non]=some (.nx [.val (.tuple ps),.own [],.non,.non]):=rfl
 have hh:hand [0] 0 [Slot.val (.tuple ps),.own [],.non,.non]=[Slot.val (.tuple ps),.own [],.non,.non]:=rfl
 have hf:bO (aa (ae 0) af) (bZ [Slot.val (.tuple ps),.own [],.non,.non])=some (bP 0 ps):=rfl
 simp! [bK,ir,hs,ee,hh,hf]
 rw[show Ew 1 [2,3] (au 1 [2] (bL (f2 av (ae 3) (fC (.int 1)))) (fG 0) (fun _=>some true) (aN (aa (ae 1) (aa (ae 0) af))))=pB from rfl,e]
 simp! []
def fT(d:D):List Int:=[l0 ((da d).getD 0 .none),l0 ((da d).getD 1 .none)]
theorem CG{g t:Int}{d:D}(h:jy g t d=true):∃ds c,d=.tuple ds/\ds.length=3/\ds.getD 0 .none=.int (l0 (ds.getD 0 .none))/\ds.getD 1 .none=.int (l0 (ds.getD 1 .none))/\ds.getD 2 .none=.int c/\1<=c/\c<=9 /\
  0<=l0 (ds.getD 0 .none)/\l0 (ds.getD 0 .none)<=g - 1/\0<=l0 (ds.getD 1 .none)/\l0 (ds.getD 1 .none)<=t - 1:=by
 cases d<;>simp only[jy] at h<;>try cases h
 rename_i ds
 simp only[zF,zJ] at h
 obtain⟨h1,h2,h3,h4⟩:=h
 have a:=f9 h2
 have b:=f9 h3
 have c:=f9 h4
 exact⟨ds,_,rfl,h1,a.1,b.1,c.1,c.2.1,c.2.2,a.2.1,a.2.2,b.2.1,b.2.2⟩
def CY(g t w:D):Bool:=decide ((da w).map fT=sZ (m9 0 (da g)))&&decide ((da w).map fT=sZ ((m9 0 (da t)).map List.reverse))
def Pi(d:D):Bool:=long 3 3 d&&(js ((da d).getD 0 .none) ((da d).getD 1 .none) ((da d).getD 2 .none)&&CY ((da d).getD 0 .none) ((da d).getD 1 .none) ((da d).getD 2 .none))
theorem lR:∀ {ps:List D}{k:Nat},∀r∈m9 k ps,∃i j,r=[i,j]
 | [],k,r,h=>by cases h
 | p::ps,k,r,h=>by
  rcases List.mem_append.mp h with h|h
  ·obtain⟨j,_,rfl⟩:=List.mem_map.mp h;exact⟨_,_,rfl⟩
  ·exact lR r h
theorem nj{a:List (List Int)}(h:∀r∈a,∃i j,r=[i,j])(hl:a.length < 64):gQ [.list (a.map ah)]=some ((sZ a).map ah):=by
 have:∀ns∈a,ns≠[]:=fun ns hn=>by obtain⟨i,j,rfl⟩:=h ns hn;exact List.cons_ne_nil _ _
 simp only[gQ,oneOf,zA,sT this,yL hl]
theorem uK:∀ {a:List (List Int)},(∀r∈a,∃i j,r=[i,j])->dz (j6 0 1) (fun _=>some true) (aN (aa (ae 1) (aa (ae 0) af))) [none,none] (a.map ah)=some ((a.map List.reverse).map ah)
 | [],_=>rfl
 | r::a,h=>by
  obtain⟨i,j,rfl⟩:=h r zE
  have ih:=uK (a:=a) fun q hq=>h q (zC _ hq)
  have e:j6 0 1 [none,none] (ah [i,j])=some [some (.int i),some (.int j)]:=rfl
  rw[zI,dz,e,zA,zA,yL rfl,ih]
  simp! [bQ (show [PyData.int j,.int i].length<=4000 by simp)]
  rfl
theorem Fy{a:List (List Int)}{fi:Dl.Env->Option (List D)}{ρ:Dl.Env}(hfi:fi ρ=some (a.map ah))(hl:a.length<=4000)(h:∀r∈a,∃i j,r=[i,j]):au 2 [] fi (j6 0 1) (fun _=>some true) (aN (aa (ae 1) (aa (ae 0) af))) ρ=some ((a.map List.reverse).map ah):=by
 simp only[au,hfi,zA,fJ,List.replicate,xF,xO,yU]
 rw[uK h,zA,bQ (by rw[zD,zD];exact hl)]
theorem Af{g t w:D}(h:js g t w=true):∃gs ts ws,g=.tuple gs/\t=.tuple ts/\w=.tuple ws/\1<=gs.length/\gs.length<=4/\1<=ts.length/\ts.length<=4/\(∀p∈gs,placeOk ts.length p=true)/\(∀p∈ts,placeOk gs.length p=true)/\∀x∈ws,jy gs.length ts.length x=true:=by
 simp only[js,oM,zF] at h
 obtain⟨h1,h2,h3,h4,h5,h6⟩:=h
 cases w<;>try cases h5
 rename_i ws
 have e1:=k8 h1
 have e2:=k8 h2
 generalize da g=gs at *
 generalize da t=ts at *
 subst e1 e2
 simp only[long,zF,zJ] at h1 h2
 exact⟨gs,ts,ws,rfl,rfl,rfl,by omega,by omega,by omega,by omega,List.all_eq_true.mp h3,List.all_eq_true.mp h4,List.all_eq_true.mp h6⟩
theorem mO{b k:Nat}{d:D}(h:iu b k d)(hb:b<=100):bh [d]=some (.bool (Pi d)):=by
 unfold Pi
 cases e1:long 3 3 d with
 | false=>simp! [bh,gh,dY h.nd,e1,Bool.not_false,wC]
 | true =>
  obtain⟨ds,rfl⟩:∃ds,d=.tuple ds:=⟨_,k8 e1⟩
  obtain⟨j,rfl,hl,hf⟩:=h.of_tup
  rw[show long 3 3 (.tuple ds)=decide (ds.length=3) from rm 3 ds,zJ] at e1
  have f0:=hf _ (getD_mem (i:=0) (by omega))
  have f1:=hf _ (getD_mem (i:=1) (by omega))
  have f2':=hf _ (getD_mem (i:=2) (by omega))
  have i0:=D8 (show 0 < ds.length by omega)
  have i1:=A7 (show 1 < ds.length by omega)
  have i2:=MA (show 2 < ds.length by omega)
  have el:bw [.tuple ds,.int 3,.int 3]=some (.bool true):=by rw[dY rfl,show long 3 3 (.tuple ds)=decide (ds.length=3) from rm 3 ds,zZ e1]
  rw[show da (.tuple ds)=ds from rfl,jL]
  generalize hg:ds.getD 0 .none=g at *
  generalize ht:ds.getD 1 .none=t at *
  generalize hw:ds.getD 2 .none=w at *
  cases e2:js g t w with
  | false=>simp! [bh,gh,el,i0,i1,i2,pH f0 f1 f2' hb,e2,Bool.not_false,xY,wC]
  | true =>
   obtain⟨gs,ts,ws,rfl,rfl,rfl,g1,g4,t1,t4,hG,hT,hW⟩:=Af e2
   have hfw:=f2'.of_tup
   obtain⟨j2,_,hwl,_⟩:=hfw
   have q1:=w8 (k:=0) hG
   have q2:=w8 (k:=0) hT
   have m1:gs.length * ts.length<=16:=vZ g4 t4
   have m2:ts.length * gs.length<=16:=vZ t4 g4
   have l1:=Dz hG (by omega) (by omega)
   have l2:=Dz hT (by omega) (by omega)
   have s1:=nj (a:=m9 0 gs) lR (by omega)
   have s2:=nj (a:=(m9 0 ts).map List.reverse) (fun r hr=>by
    obtain⟨q,hq,rfl⟩:=List.mem_map.mp hr
    obtain⟨i,j,rfl⟩:=lR q hq
    exact⟨j,i,rfl⟩) (by rw[zD];omega)
   have c1:au 1 [] (bL (f2 av (ae 0) (fC (.int 2)))) (fG 0) (fun _=>some true) (aN (aa (f2 av (ae 0) (fC (.int 0))) (aa (f2 av (ae 0) (fC (.int 1))) af))) [some (.tuple ds),none,none,none]=some ((ws.map fT).map ah):=by
    rw[cL (ds:=ws) (h:=fun x=>ah (fT x)) (by simp! [i2]) (by omega) fun x hx=>?_,zM]
    ·rfl
    ·obtain⟨vs,c,rfl,v3,v0,v1,_⟩:=CG (hW x hx)
     simp! [D8 (show 0 < vs.length by omega),A7 (show 1 < vs.length by omega),bQ (show [vs.getD 0 PyData.none,vs.getD 1 .none].length<=4000 by simp),ah,fT,da]
     rw[<- v0,<- v1]
   have c2:∀x y z,au 2 [] (bL (ai 1 bK (aa (f2 av (ae 0) (fC (.int 1))) af))) (j6 0 1) (fun _=>some true) (aN (aa (ae 1) (aa (ae 0) af))) [some (.tuple ds),x,y,z]=some (((m9 0 ts).map List.reverse).map ah):=fun x y z =>
    Fy (by simp! [i1,l2]) (by omega) lR
   have st1:bu 1 [0] (au 1 [] (bL (f2 av (ae 0) (fC (.int 2)))) (fG 0) (fun _=>some true) (aN (aa (f2 av (ae 0) (fC (.int 0))) (aa (f2 av (ae 0) (fC (.int 1))) af)))) [Slot.val (.tuple ds),.non,.non,.non]=some (.nx [.val (.tuple ds),.own ((ws.map fT).map ah),.non,.non]):=by
    have hh:hand [0] 0 [Slot.val (.tuple ds),.non,.non,.non]=[Slot.val (.tuple ds),.non,.non,.non]:=rfl
    simp only[bu,hh,bZ,zI,yU,Slot.frz,c1,zB,yW,yV]
   have st2:bu 2 [0] (k6 gQ (aa (ai 1 bK (aa (f2 av (ae 0) (fC (.int 0))) af)) af)) [Slot.val (.tuple ds),.own ((ws.map fT).map ah),.non,.non]=some (.nx [.val (.tuple ds),.own ((ws.map fT).map ah),.own ((sZ (m9 0 gs)).map ah),.non]):=by
    have hh:hand [0] 0 [Slot.val (.tuple ds),.own ((ws.map fT).map ah),.non,.non]=[Slot.val (.tuple ds),.own ((ws.map fT).map ah),.non,.non]:=rfl
    simp only[bu,hh,bZ,zI,yU,Slot.frz]
    simp! [i0,l1,s1,yW,yV]
   have st3:bu 3 [0] (k6 gQ (aa (bR (au 2 [] (bL (ai 1 bK (aa (f2 av (ae 0) (fC (.int 1))) af))) (j6 0 1) (fun _=>some true) (aN (aa (ae 1) (aa (ae 0) af))))) af)) [Slot.val (.tuple ds),.own ((ws.map fT).map ah),.own ((sZ (m9 0 gs)).map ah),.non]
      =some (.nx [.val (.tuple ds),.own ((ws.map fT).map ah),.own ((sZ (m9 0 gs)).map ah),.own ((sZ ((m9 0 ts).map List.reverse)).map ah)]):=by
    have hh:hand [0] 0 [Slot.val (.tuple ds),.own ((ws.map fT).map ah),.own ((sZ (m9 0 gs)).map ah),.non]=[Slot.val (.tuple ds),.own ((ws.map fT).map ah),.own ((sZ (m9 0 gs)).map ah),.non]:=rfl
    simp only[bu,hh,bZ,zI,yU,Slot.frz]
    simp! [c2,s2,yW,yV]
   simp! [bh,gh,el,i0,i1,i2,pH f0 f1 f2' hb,e2,xY,yO,st1,st2,st3,FT,CY,da,jL]
   by_cases hq:List.map fT ws=sZ (m9 0 gs)<;>simp[hq]
theorem rz(xs:List D):PyData.eqvAll xs []=xs.isEmpty:=by cases xs<;>simp[PyData.eqvAll]
theorem Cm:SeqAt.shaped (.list [])=true:=by simp[SeqAt.shaped,PyData.canLay0,PyData.canLayAll0,PyData.depth,PyData.depthAll]
theorem Jw{b k:Nat}{xs:List D}(h:∀x∈xs,iu b k x)(hk:k<=60):ba (.list xs) (.list [])=some (.bool xs.isEmpty):=by
 have hs:SeqAt.shaped (.list xs)=true:=(iu.lst (b:=max b xs.length) (k:=k) (Nat.le_max_right _ _) fun x hx=>(h x hx).mono (Nat.le_max_left _ _) (yM _)).shaped (by omega)
 simp only[ba,MB,hs,Cm,jP,xH,PyData.eqv,rz,zB]
theorem iA:small []=some []:=rfl
theorem G9{α:Type}(xs:List α)(k:Nat):cut xs (some (k:Int)) none=xs.drop k:=by
 simp only[cut,HT.HS,HT.Kq]
 rw[kL (by rw[qH];omega)]
 by_cases h:k<=xs.length
 ·rw[Nat.min_eq_left h]
 ·rw[Nat.min_eq_right (by omega),List.drop_of_length_le (yM _),List.drop_of_length_le (by omega)]
theorem gW(b:Bool):gB (.bool b)=some b:=rfl
def SQ(P:List (List Int))(i j:Int)(lp lq:List Int):Bool:=decide ([i,j]∈P) == decide (j∈lp)&&decide ([i,j]∈P) == decide (i∈lq)
def R8(P:List (List Int))(i:Int)(lp:List Int):Nat->List D->Bool|_,[]=>true|k,q::qs=>SQ P i k lp (iD q)&&R8 P i lp (k+1) qs
def Qh(P:List (List Int))(ts:List D):Nat->List D->Bool|_,[]=>true|k,p::ps=>R8 P k (iD p) 0 ts&&Qh P ts (k+1) ps
theorem Cv(a b:D):small [a,b]=some [a,b]:=rfl
theorem nK:∀ (ρ:ar) (k:Nat),hand [] k ρ=ρ
 | [],k=>rfl
 | s::r,k=>by simp[hand,nK r]
theorem qc:∀ {ps:List D}{k:Nat}{i j:Int},[i,j]∈m9 k ps↔∃m p,ps[m]?=some p/\i=((k+m:Nat):Int)/\j∈iD p
 | [],k,i,j=>by simp[m9]
 | p::ps,k,i,j=>by
  rw[m9,List.mem_append,qc (ps:=ps)]
  constructor
  ·rintro (h|⟨m,q,h1,h2,h3⟩)
   ·obtain⟨y,hy,e⟩:=List.mem_map.mp h
    injection e with e1 e2
    injection e2 with e2 _
    exact⟨0,p,rfl,by simpa using e1.symm,e2 ▸ hy⟩
   ·exact⟨m+1,q,by simpa using h1,by rw[h2];congr 1;omega,h3⟩
  ·rintro⟨m,q,h1,h2,h3⟩
   cases m with
   | zero =>
    simp at h1
    subst h1
    exact .inl (List.mem_map.mpr ⟨j,h3,by rw[h2];rfl⟩)
   | succ m=>exact .inr ⟨m,q,by simpa using h1,by rw[h2];congr 1;omega,h3⟩
theorem uP:∀ {ps:List D}{k:Nat},(∀p∈ps,(iD p).Nodup)->(m9 k ps).Nodup
 | [],k,_=>List.nodup_nil
 | p::ps,k,h=>by
  rw[m9,List.nodup_append]
  refine⟨List.pairwise_map.mpr ((h p zE).imp fun hne e=>hne ?_),uP fun q hq=>h q (zC _ hq),?_⟩
  rotate_left
  ·injection e with _ e2
   injection e2
  ·rintro a ha b hb rfl
   obtain⟨y,hy,rfl⟩:=List.mem_map.mp ha
   obtain⟨m,q,h1,h2,h3⟩:=qc.mp hb
   omega
theorem PN{a b:List Int}(h:Dl.lexLt a b=true):lexLe a b=true:=by
 unfold lexLe
 cases e:Dl.lexLt b a with
 | false=>rfl
 | true=>have:=eN h e;rw[gy] at this;cases this
theorem eD{i j:Int}(h:tZ i j):Dl.dM (.int i) (.int j)=some (.int (i * j)):=by
 simp only[Dl.dM,za,yL h,Option.some_or]
theorem iI{i j:Int}(h:0 < j):Dl.md (.int i) (.int j)=some (.int (i % j)):=yL h
theorem lI{i j:Int}(h:0 < j/\j < 1073741824):Dl.ow (.int i) (.int j)=some (.int (i / j)):=yL h
theorem eZ(i j:Int):Dl.tm (.int i) (.int j)=some (.bool (decide (j < i))):=rfl
theorem lS(i j:Int):Dl.yc (.int i) (.int j)=some (.bool (decide (i < j))):=rfl
theorem lF{i j:Int}(h:-(2 ^ 64) < i/\i < 2 ^ 64):tZ i j:=.inl h
theorem MU{i j:Int}(h:-(2 ^ 64) < j/\j < 2 ^ 64):tZ i j:=.inr h
theorem As(i:Int):Dl.pV (.int i)=true:=rfl
theorem A9(i:List D):Dl.pV (.tuple i)=false:=rfl
def cw(ns:List Int):D:=.list (ns.map PyData.int)
theorem Od{ns:List Int}(k:Int)(hl:ns.length<=63):∃c,dX [cw ns,.int k]=some (.int c):=by
 have heq:ba (.list (ns.map PyData.int)) (.list [])=some (.bool ns.isEmpty):=by
  have:=Jw (b:=0) (k:=0) (xs:=ns.map PyData.int) (fun x hx=>by obtain⟨i,_,rfl⟩:=List.mem_map.mp hx;exact ja i) (by decide)
  rw[this];cases ns<;>rfl
 by_cases hn:ns=[]
 ·subst hn
  refine⟨7 * k,?_⟩
  rw[yU,List.isEmpty_nil] at heq
  simp! [dX,gL,cw,iA,heq,List.isEmpty_nil,eD (lF (i:=7) (j:=k) (by decide))]
 ·have hpos:(0:Int) < (ns.length:Int):=by have:=List.length_pos_iff.mpr hn;omega
  have he:ns.isEmpty=false:=by cases ns<;>first|rfl|exact absurd rfl hn
  obtain⟨j,hj⟩:=vK (vV k (show (ns.length:Int)≠0 by omega))
  have hlt:=vB k hpos
  have hx:y3 (ns.map PyData.int) (k % (ns.length:Int))=some (.int (ns.getD j 0)):=by
   rw[hj]
   have:j < (ns.map PyData.int).length:=by rw[zD];omega
   rw[nO this,zG,zO,zG]
   rw[zK (by omega)]
   rfl
  refine⟨ns.getD j 0+6553 * (k / (ns.length:Int)),?_⟩
  simp! [dX,gL,cw,iA,heq,he,yO,zD,iI hpos,hx,lI (i:=k) (j:=(ns.length:Int)) ⟨hpos,by omega⟩,eD (lF (i:=6553) (j:=k / (ns.length:Int)) (by decide))]
theorem LC{ns:List Int}(k many:Int)(hl:ns.length<=63)(hm:0 < many):∃r,ak [cw ns,.int k,.int many]=some (.int r)/\0<=r/\r < many:=by
 obtain⟨c,hc⟩:=Od k hl
 have m1:∀i:Int,Dl.md (.int i) (.int 2147483563)=some (.int (i % 2147483563)):=fun i=>iI (by decide)
 have m2:∀i:Int,Dl.md (.int i) (.int 2147483399)=some (.int (i % 2147483399)):=fun i=>iI (by decide)
 have m3:∀i:Int,Dl.md (.int i) (.int 2147483647)=some (.int (i % 2147483647)):=fun i=>iI (by decide)
 have d1:∀i:Int,Dl.ow (.int i) (.int 3)=some (.int (i / 3)):=fun i=>lI (by decide)
 have d2:∀i:Int,Dl.ow (.int i) (.int 7)=some (.int (i / 7)):=fun i=>lI (by decide)
 have d3:∀i:Int,Dl.ow (.int i) (.int 11)=some (.int (i / 11)):=fun i=>lI (by decide)
 have u1:∀i:Int,Dl.dM (.int i) (.int 69069)=some (.int (i * 69069)):=fun i=>eD (MU (by decide))
 have u2:∀i:Int,Dl.dM (.int 104723) (.int i)=some (.int (104723 * i)):=fun i=>eD (lF (by decide))
 have b1:∀x:Int,Dl.dM (.int (x % 2147483563)) (.int (x % 2147483563))=some (.int (x % 2147483563 * (x % 2147483563))):=fun x=>eD (lF (by
  have:=vV x (show (2147483563:Int)≠0 by decide)
  have:=vB x (show (0:Int) < 2147483563 by decide)
  omega))
 have b2:∀x:Int,Dl.dM (.int (x % 2147483399)) (.int (x % 2147483399))=some (.int (x % 2147483399 * (x % 2147483399))):=fun x=>eD (lF (by
  have:=vV x (show (2147483399:Int)≠0 by decide)
  have:=vB x (show (0:Int) < 2147483399 by decide)
  omega))
 suffices h:∃x,ak [cw ns,.int k,.int many]=some (.int (x % many)) by
  obtain⟨x,hx⟩:=h
  exact⟨_,hx,vV x (show many≠0 by omega),vB x hm⟩
 ·refine⟨(((((c % 2147483563 * 69069+104723 * (k+1)) % 2147483563) * ((c % 2147483563 * 69069+104723 * (k+1)) % 2147483563)+((c % 2147483563 * 69069+104723 * (k+1)) % 2147483563) / 3) % 2147483399) * ((((c % 2147483563 * 69069+104723 * (k+1)) % 2147483563) * ((c % 2147483563 * 69069+104723 * (k+1)) % 2147483563)+((c % 2147483563 * 69069+104723 * (k+1)) % 2147483563) / 3) % 2147483399)+((((c % 2147483563 * 69069+104723 * (k+1)) % 2147483563) * ((c % 2147483563 * 69069+104723 * (k+1)) % 2147483563)+((c % 2147483563 * 69069+104723 * (k+1)) % 2147483563) / 3) % 2147483399) / 7) % 2147483647 / 11,?_⟩
  simp! [ak,jm,hc,m1,u1,u2,Dl.aY,As,yW,yV,b1,d1,m2,b2,d2,m3,d3,iI (j:=many) hm]
def dr(ns:List Int)(k many:Int):Int:=l0 ((ak [cw ns,.int k,.int many]).getD .none)
theorem dR{ns:List Int}(k many:Int)(hl:ns.length<=63)(hm:0 < many):ak [cw ns,.int k,.int many]=some (.int (dr ns k many))/\0<=dr ns k many/\dr ns k many < many:=by
 obtain⟨r,h1,h2⟩:=LC k many hl hm
 have:dr ns k many=r:=by simp only[dr,h1,qG,l0]
 rw[this];exact⟨h1,h2⟩
theorem u4{ns:List Int}(k many:Int)(hl:ns.length<=63)(hm:0 < many):ak [cw ns,.int k,.int many]=some (.int (dr ns k many)):=(dR k many hl hm).1
theorem L4{ns:List Int}(k many:Int)(hl:ns.length<=63)(hm:0 < many):0<=dr ns k many:=(dR k many hl hm).2.1
theorem Ms{ns:List Int}(k many:Int)(hl:ns.length<=63)(hm:0 < many):dr ns k many < many:=(dR k many hl hm).2.2
def cC(r:List Int):D:=.list (r.map PyData.int)
def insI(ds:List Int)(k:Int)(d:Int):List Int:=let j:=if k < 0 then (k+(ds.length:Int)).toNat else min k.toNat ds.length;ds.take j++d::ds.drop j
theorem FH(ds:List Int)(k d:Int):Ed (ds.map PyData.int) k (.int d)=(insI ds k d).map PyData.int:=by
 simp only[Ed,insI,zD,jA,zI,List.map_take,List.map_drop]
theorem insI_perm(ds:List Int)(k d:Int):(insI ds k d).Perm (d::ds):=by
 simp only[insI]
 refine List.perm_middle.trans ?_
 rw[List.take_append_drop]
def oB:ar->Option Out:=(HY 6 [8] (ai 3 ak (aa (ae 0) (aa (f2 aI (f2 aI (ae 1) (f2 dM (fC (.int 4)) (ae 4))) (ae 7)) (aa (f2 aI (aZ aP (aa (ae 6) af)) (fC (.int 1))) af)))) (ae 8))
theorem NG{ns order:List Int}{a k j x:Int}{s2 s3 s5:Slot}(hl:ns.length<=63)(ho:order.length<=1000) :
  oB [.val (cw ns),.val (.int a),s2,s3,.val (.int k),s5,.own (order.map PyData.int),.val (.int j),.val (.int x)] =
   some (.nx [.val (cw ns),.val (.int a),s2,s3,.val (.int k),s5,.own ((insI order (dr ns (a+4 * k+j) ((order.length:Int)+1)) x).map PyData.int),.val (.int j),.val (.int x)]):=by
 have h4:Dl.dM (.int 4) (.int k)=some (.int (4 * k)):=eD (lF (by decide))
 have hd:=dR (ns:=ns) (a+4 * k+j) ((order.length:Int)+1) hl (by omega)
 have hr:Aa (dr ns (a+4 * k+j) ((order.length:Int)+1))=true:=by
  simp only[Aa,zF,zJ]
  omega
 have hz:(order.map PyData.int).length < sizeLine:=by rw[zD];exact qZ ho (by decide)
 simp! [oB,HY,pF,As,sS,zD,h4,hd.1]
 rw[zD] at hz
 simp only[hr,hz,jP,xH,zB,FH,yW,yV]
theorem Hr{ns:List Int}{a k:Int}{s2 s3 s5:Slot}(hl:ns.length<=63):∀ {row order:List Int}{j:Nat}{s7 s8:Slot},order.length+row.length<=1000 ->
  ∃ (o:List Int) (t7 t8:Slot),fO (gJ 7 8) oB (bP j (row.map PyData.int)) [.val (cw ns),.val (.int a),s2,s3,.val (.int k),s5,.own (order.map PyData.int),s7,s8] =
   some (.nx [.val (cw ns),.val (.int a),s2,s3,.val (.int k),s5,.own (o.map PyData.int),t7,t8])/\o.Perm (row++order)
 | [],order,j,s7,s8,_=>⟨order,s7,s8,by simp[bP,fO],by simp⟩
 | x::row,order,j,s7,s8,h=>by
  rw[zL] at h
  have hp:=insI_perm order (dr ns (a+4 * k+((j:Nat):Int)) ((order.length:Int)+1)) x
  have hlen:=hp.length_eq
  rw[zL] at hlen
  obtain⟨o,t7,t8,e,p⟩:=Hr (s2:=s2) (s3:=s3) (s5:=s5) (a:=a) (k:=k) hl (row:=row) (order:=insI order (dr ns (a+4 * k+((j:Nat):Int)) ((order.length:Int)+1)) x) (j:=j+1) (s7:=.val (.int (j:Nat))) (s8:=.val (.int x)) (by omega)
  refine⟨o,t7,t8,?_,p.trans ?_⟩
  ·have hs:gJ 7 8 [.val (cw ns),.val (.int a),s2,s3,.val (.int k),s5,.own (order.map PyData.int),s7,s8] (.tuple [.int (j:Nat),.int x])=some [.val (cw ns),.val (.int a),s2,s3,.val (.int k),s5,.own (order.map PyData.int),.val (.int (j:Nat)),.val (.int x)]:=rfl
   simp only[zI,bP,fO,hs,zA,NG hl (show order.length<=1000 by omega),e]
  ·refine (hp.append_left row).trans ?_
   rw[xF]
   exact List.perm_middle
def rG:List (List Int)->List (List Int)->Prop|[],[]=>True|a::l,b::m=>a.Perm b/\rG l m|_,_=>False
def rB:ar->Option Out:=(ay (bu 6 [] (b0 af)) (ay (ee [5] (bO (aa (ae 5) af)) (gJ 7 8) oB) (um 3 [6] (aZ bV (aa (ae 6) af)))))
theorem Np{ns row:List Int}{a k:Int}{rows:D}{found:List D}{s6 s7 s8:Slot}(hl:ns.length<=63)(hr:row.length<=1000)(hf:found.length<=1000) :
  ∃ (o:List Int) (t7 t8:Slot),rB [.val (cw ns),.val (.int a),.val rows,.own found,.val (.int k),.val (cC row),s6,s7,s8]=some (.nx [.val (cw ns),.val (.int a),.val rows,.own (found++[ah o]),.val (.int k),.val (cC row),.val (cC o),t7,t8])/\o.Perm row:=by
 obtain⟨o,t7,t8,e,p⟩:=Hr (s2:=.val rows) (s3:=.own found) (s5:=.val (cC row)) (a:=a) (k:=k) hl (row:=row) (order:=[]) (j:=0) (s7:=s7) (s8:=s8) (by simpa using hr)
 rw[qF] at p
 refine⟨o,t7,t8,?_,p⟩
 have h1:bu 6 [] (b0 af) [.val (cw ns),.val (.int a),.val rows,.own found,.val (.int k),.val (cC row),s6,s7,s8]=some (.nx [.val (cw ns),.val (.int a),.val rows,.own found,.val (.int k),.val (cC row),.own [],s7,s8]):=by
  simp only[bu,nK,b0,af,zA,iA,zB,yW,yV]
 have h2:ee [5] (bO (aa (ae 5) af)) (gJ 7 8) oB [.val (cw ns),.val (.int a),.val rows,.own found,.val (.int k),.val (cC row),.own [],s7,s8]=some (.nx [.val (cw ns),.val (.int a),.val rows,.own found,.val (.int k),.val (cC row),.own (o.map PyData.int),t7,t8]):=by
  have hh:hand [5] 0 [Slot.val (cw ns),.val (.int a),.val rows,.own found,.val (.int k),.val (cC row),.own [],s7,s8]=[Slot.val (cw ns),.val (.int a),.val rows,.own found,.val (.int k),.val (cC row),.own [],s7,s8]:=rfl
  have hq:bO (aa (ae 5) af) (bZ [Slot.val (cw ns),.val (.int a),.val rows,.own found,.val (.int k),.val (cC row),.own [],s7,s8])=some (bP 0 (row.map PyData.int)):=by
   simp only[bZ,zI,yU]
   simp! [bO,cC]
  simp only[ee,hh,hq,zA]
  exact e
 have h3:um 3 [6] (aZ bV (aa (ae 6) af)) [.val (cw ns),.val (.int a),.val rows,.own found,.val (.int k),.val (cC row),.own (o.map PyData.int),t7,t8]=some (.nx [.val (cw ns),.val (.int a),.val rows,.own (found++[ah o]),.val (.int k),.val (cC row),.val (cC o),t7,t8]):=by
  have hz:found.length < sizeLine:=qZ hf (by decide)
  have hh:hand [6] 0 [Slot.val (cw ns),.val (.int a),.val rows,.own found,.val (.int k),.val (cC row),.own (o.map PyData.int),t7,t8]=[Slot.val (cw ns),.val (.int a),.val rows,.own found,.val (.int k),.val (cC row),.val (cC o),t7,t8]:=rfl
  simp only[um,pF,hh,bZ,zI,yU]
  simp! [A9,yO,sS,hz,yW,yV,cC,ah]
 simp only[rB,ay,h1,h2,h3,zA]
theorem Hj{ns:List Int}{a:Int}{rws:D}(hl:ns.length<=63):∀ {rows:List (List Int)}{found:List D}{k:Nat}{s4 s5 s6 s7 s8:Slot},(∀r∈rows,r.length<=1000)->found.length+rows.length<=1000 ->
  ∃ (os:List (List Int)) (t4 t5 t6 t7 t8:Slot),fO (gJ 4 5) rB (bP k (rows.map cC)) [.val (cw ns),.val (.int a),.val rws,.own found,s4,s5,s6,s7,s8]=some (.nx [.val (cw ns),.val (.int a),.val rws,.own (found++os.map ah),t4,t5,t6,t7,t8])/\rG os rows
 | [],found,k,s4,s5,s6,s7,s8,_,_=>⟨[],s4,s5,s6,s7,s8,by simp[bP,fO],trivial⟩
 | r::rows,found,k,s4,s5,s6,s7,s8,h,hf=>by
  rw[zL] at hf
  obtain⟨o,u7,u8,e1,p1⟩:=Np (rows:=rws) (a:=a) (k:=((k:Nat):Int)) (s6:=s6) (s7:=s7) (s8:=s8) hl (h r zE) (show found.length<=1000 by omega)
  obtain⟨os,t4,t5,t6,t7,t8,e,p⟩:=Hj hl (rws:=rws) (a:=a) (rows:=rows) (found:=found++[ah o]) (k:=k+1) (s4:=.val (.int (k:Nat))) (s5:=.val (cC r)) (s6:=.val (cC o)) (s7:=u7) (s8:=u8) (fun r' hr'=>h r' (zC _ hr')) (by rw[zN,xC];omega)
  refine⟨o::os,t4,t5,t6,t7,t8,?_,p1,p⟩
  have hs:gJ 4 5 [.val (cw ns),.val (.int a),.val rws,.own found,s4,s5,s6,s7,s8] (.tuple [.int (k:Nat),cC r])=some [.val (cw ns),.val (.int a),.val rws,.own found,.val (.int (k:Nat)),.val (cC r),s6,s7,s8]:=rfl
  simp only[zI,bP,fO,hs,zA,e1]
  rw[e,List.append_assoc]
  rfl
theorem Aj{ns:List Int}{a:Int}{rows:List (List Int)}(hl:ns.length<=63)(hr:∀r∈rows,r.length<=1000)(hn:rows.length<=1000):∃os:List (List Int),bS [cw ns,.int a,.list (rows.map cC)]=some (.list (os.map ah))/\rG os rows:=by
 obtain⟨os,t4,t5,t6,t7,t8,e,p⟩:=Hj hl (rws:=.list (rows.map cC)) (a:=a) (rows:=rows) (found:=[]) (k:=0) (s4:=.non) (s5:=.non) (s6:=.non) (s7:=.non) (s8:=.non) hr (by simpa using hn)
 refine⟨os,?_,p⟩
 rw[xO] at e
 have h1:bu 3 [] (b0 af) [.val (cw ns),.val (.int a),.val (.list (rows.map cC)),.non,.non,.non,.non,.non,.non]=some (.nx [.val (cw ns),.val (.int a),.val (.list (rows.map cC)),.own [],.non,.non,.non,.non,.non]):=by
  simp only[bu,nK,b0,af,zA,iA,zB,yW,yV]
 have h2:ee [2] (bO (aa (ae 2) af)) (gJ 4 5) rB [.val (cw ns),.val (.int a),.val (.list (rows.map cC)),.own [],.non,.non,.non,.non,.non]=some (.nx [.val (cw ns),.val (.int a),.val (.list (rows.map cC)),.own (os.map ah),t4,t5,t6,t7,t8]):=by
  have hh:hand [2] 0 [Slot.val (cw ns),.val (.int a),.val (.list (rows.map cC)),.own [],.non,.non,.non,.non,.non]=[Slot.val (cw ns),.val (.int a),.val (.list (rows.map cC)),.own [],.non,.non,.non,.non,.non]:=rfl
  have hq:bO (aa (ae 2) af) (bZ [Slot.val (cw ns),.val (.int a),.val (.list (rows.map cC)),.own [],.non,.non,.non,.non,.non])=some (bP 0 (rows.map cC)):=by
   simp only[bZ,zI,yU]
   simp! [bO]
  simp only[ee,hh,hq,zA]
  exact e
 unfold rB oB at h2
 simp! [bS,il,h1,h2]
abbrev Pl:=Int×List Int
abbrev Wy:=Int×Int×Int
def br(p:Pl):D:=.tuple [.int p.1,ah p.2]
def aA(w:Wy):D:=.tuple [.int w.1,.int w.2.1,.int w.2.2]
def aE(G T:List Pl)(W:List Wy):D:=.tuple [.tuple (G.map br),.tuple (T.map br),.tuple (W.map aA)]
def DK(W:List Wy)(i:Int):List Int:=(W.filter fun w=>decide (w.1=i)).map fun w=>w.2.1
def ofT(W:List Wy)(j:Int):List Int:=(W.filter fun w=>decide (w.2.1=j)).map fun w=>w.1
abbrev IF(W:List Wy):Prop:=W.Pairwise fun a b=>a.1 < b.1\/(a.1=b.1/\a.2.1 < b.2.1)
structure Wd(G T:List Pl)(W:List Wy):Prop where
 g1:1<=G.length
 g4:G.length<=4
 t1:1<=T.length
 t4:T.length<=4
 ga:∀p∈G,0<=p.1/\p.1<=9
 ta:∀p∈T,0<=p.1/\p.1<=9
 gl:∀ (i:Nat) (p:Pl),G[i]?=some p->p.2.Perm (DK W i)
 tl:∀ (j:Nat) (p:Pl),T[j]?=some p->p.2.Perm (ofT W j)
 wr:∀w∈W,(0<=w.1/\w.1 < G.length)/\(0<=w.2.1/\w.2.1 < T.length)/\1<=w.2.2/\w.2.2<=9
 wp:IF W
 wl:W.length<=16
theorem wc{W:List Wy}{i j:Int}:j∈DK W i↔[i,j]∈W.map fun w=>[w.1,w.2.1]:=by
 simp only[DK,List.mem_map,List.mem_filter,zJ,kX,and_true]
 constructor
 ·rintro⟨w,⟨h1,h2⟩,h3⟩;exact⟨w,h1,h2,h3⟩
 ·rintro⟨w,h1,h2,h3⟩;exact⟨w,⟨h1,h2⟩,h3⟩
theorem xu{W:List Wy}{i j:Int}:i∈ofT W j↔[i,j]∈W.map fun w=>[w.1,w.2.1]:=by
 simp only[ofT,List.mem_map,List.mem_filter,zJ,kX,and_true]
 constructor
 ·rintro⟨w,⟨h1,h2⟩,h3⟩;exact⟨w,h1,h3,h2⟩
 ·rintro⟨w,h1,h2,h3⟩;exact⟨w,⟨h1,h3⟩,h2⟩
theorem oR{W:List Wy}(h:IF W)(i:Int):(DK W i).Nodup:=by
 unfold DK List.Nodup
 rw[jE,List.pairwise_filter]
 refine h.imp fun hab ha hb=>?_
 rw[zJ] at ha hb
 omega
theorem pb{W:List Wy}(h:IF W)(i:Int):(ofT W i).Nodup:=by
 unfold ofT List.Nodup
 rw[jE,List.pairwise_filter]
 refine h.imp fun hab ha hb=>?_
 rw[zJ] at ha hb
 omega
theorem gf(p:Pl):iD (br p)=p.2:=by
 show ((p.2.map PyData.int).map l0)=p.2
 rw[zM]
 exact List.map_id _
theorem pE{n:Int}{p:Pl}(ha:0<=p.1/\p.1<=9)(hn:p.2.Nodup)(hr:∀j∈p.2,0<=j/\j < n):placeOk n (br p)=true:=by
 have e:(p.2.map PyData.int).map l0=p.2:=gf p
 have e2:(p.2.map PyData.int).all (whole 0 (n - 1))=true:=by
  rw[xG]
  intro x hx
  obtain⟨j,hj,rfl⟩:=List.mem_map.mp hx
  have:=hr j hj
  simp only[whole,zF,zJ]
  omega
 simp only[placeOk,br,ah,zL,xK,wG,wH,jv,whole,e,e2,ha.1,ha.2,hn,jQ,Bool.and_self]
theorem F4{g t:Int}{w:Wy}(h:(0<=w.1/\w.1 < g)/\(0<=w.2.1/\w.2.1 < t)/\1<=w.2.2/\w.2.2<=9):jy g t (aA w)=true:=by
 obtain⟨⟨a,b⟩,⟨c,d⟩,e,f⟩:=h
 have b':w.1<=g - 1:=by omega
 have d':w.2.1<=t - 1:=by omega
 simp only[jy,aA,zL,xK,wG,wH,whole,a,b',c,d',e,f,jQ,Bool.and_self]
theorem RE{a b c d:Int}(h:a < c\/(a=c/\b < d)):Dl.lexLt [a,b] [c,d]=true:=by
 show HT.lexLt [a,b] [c,d]=true
 rw[HT.dN]
 by_cases e:a=c
 ·rw[yL e,HT.dN,yN (by omega)]
  simp only[zJ];omega
 ·rw[yN e];simp only[zJ];omega
theorem Wd.glike{G T:List Pl}{W:List Wy}(h:Wd G T W){p:Pl}(hp:p∈G):∃i:Nat,i < G.length/\p.2.Perm (DK W i):=by
 obtain⟨i,hi,e⟩:=qQ hp
 exact⟨i,hi,h.gl i p (by rw[zK hi,e])⟩
theorem Wd.tlike{G T:List Pl}{W:List Wy}(h:Wd G T W){p:Pl}(hp:p∈T):∃i:Nat,i < T.length/\p.2.Perm (ofT W i):=by
 obtain⟨i,hi,e⟩:=qQ hp
 exact⟨i,hi,h.tl i p (by rw[zK hi,e])⟩
theorem Wd.gok{G T:List Pl}{W:List Wy}(h:Wd G T W):(G.map br).all (placeOk T.length)=true:=by
 rw[xG]
 intro x hx
 obtain⟨p,hp,rfl⟩:=List.mem_map.mp hx
 obtain⟨i,hi,q⟩:=h.glike hp
 refine pE (h.ga p hp) (q.nodup_iff.mpr (oR h.wp _)) fun j hj=>?_
 obtain⟨w,hw,e⟩:=List.mem_map.mp (wc.mp (q.mem_iff.mp hj))
 injection e with e1 e2
 injection e2 with e2 _
 have:=(h.wr w hw).2.1
 rw[e2] at this;exact this
theorem Wd.tok{G T:List Pl}{W:List Wy}(h:Wd G T W):(T.map br).all (placeOk G.length)=true:=by
 rw[xG]
 intro x hx
 obtain⟨p,hp,rfl⟩:=List.mem_map.mp hx
 obtain⟨i,hi,q⟩:=h.tlike hp
 refine pE (h.ta p hp) (q.nodup_iff.mpr (pb h.wp _)) fun j hj=>?_
 obtain⟨w,hw,e⟩:=List.mem_map.mp (xu.mp (q.mem_iff.mp hj))
 injection e with e1 e2
 have:=(h.wr w hw).1
 rw[e1] at this;exact this
theorem sE{W:List Wy}{p:Wy->Bool}(h:W.length<=16):(W.filter p).length<=16:=yC (xP _ _) h
theorem DV{p:Pl}(h:p.2.length<=16):iu 16 2 (br p):=.tup (by simp only[zL,xK];omega) fun x hx=>by
 rcases List.mem_cons.mp hx with rfl|hx
 ·exact ja _
 ·rw[yJ] at hx
  subst hx
  exact De h
theorem Lh(w:Wy):iu 16 1 (aA w):=.tup (by simp only[zL,xK];omega) fun x hx=>by
 simp only[zQ,yE,xU] at hx
 rcases hx with rfl|rfl|rfl<;>exact ja _
theorem Wd.fit{G T:List Pl}{W:List Wy}(h:Wd G T W):iu 16 4 (aE G T W):=by
 refine .tup (by simp only[zL,xK];omega) fun x hx=>?_
 simp only[zQ,yE,xU] at hx
 have h4:=h.g4
 have h5:=h.t4
 have h6:=h.wl
 rcases hx with rfl|rfl|rfl
 ·refine .tup (by rw[zD];omega) fun x hx=>?_
  obtain⟨p,hp,rfl⟩:=List.mem_map.mp hx
  obtain⟨i,hi,q⟩:=h.glike hp
  exact DV (by rw[q.length_eq,DK,zD];exact sE h.wl)
 ·refine .tup (by rw[zD];omega) fun x hx=>?_
  obtain⟨p,hp,rfl⟩:=List.mem_map.mp hx
  obtain⟨i,hi,q⟩:=h.tlike hp
  exact DV (by rw[q.length_eq,ofT,zD];exact sE h.wl)
 ·refine .tup (by rw[zD];omega) fun x hx=>?_
  obtain⟨p,hp,rfl⟩:=List.mem_map.mp hx
  exact (Lh p).mono (yM _) (by decide)
theorem FV{c:Int}(h0:0<=c)(h9:c<=9):Wd [(c,[0,1]),(c,[1,0])] [(c,[1,0]),(c,[0,1])] [(0,0,2),(0,1,2),(1,0,2),(1,1,2)] where
 g1:=by simp only[zL,xK];omega
 g4:=by simp only[zL,xK];omega
 t1:=by simp only[zL,xK];omega
 t4:=by simp only[zL,xK];omega
 ga:=by intro p hp;simp only[zQ,yE,xU] at hp;rcases hp with rfl|rfl<;>exact⟨h0,h9⟩
 ta:=by intro p hp;simp only[zQ,yE,xU] at hp;rcases hp with rfl|rfl<;>exact⟨h0,h9⟩
 gl:=by
  intro i p hp
  match i,hp with
  | 0,hp=>injection hp with hp;subst hp;exact (show List.Perm ([0,1]:List Int) (DK [(0,0,2),(0,1,2),(1,0,2),(1,1,2)] ((0:Nat):Int)) by decide)
  | 1,hp=>injection hp with hp;subst hp;exact (show List.Perm ([1,0]:List Int) (DK [(0,0,2),(0,1,2),(1,0,2),(1,1,2)] ((1:Nat):Int)) by decide)
 tl:=by
  intro i p hp
  match i,hp with
  | 0,hp=>injection hp with hp;subst hp;exact (show List.Perm ([1,0]:List Int) (ofT [(0,0,2),(0,1,2),(1,0,2),(1,1,2)] ((0:Nat):Int)) by decide)
  | 1,hp=>injection hp with hp;subst hp;exact (show List.Perm ([0,1]:List Int) (ofT [(0,0,2),(0,1,2),(1,0,2),(1,1,2)] ((1:Nat):Int)) by decide)
 wr:=show ∀w∈([(0,0,2),(0,1,2),(1,0,2),(1,1,2)]:List Wy),(0<=w.1/\w.1 < ((2:Nat):Int))/\(0<=w.2.1/\w.2.1 < ((2:Nat):Int))/\1<=w.2.2/\w.2.2<=9 by decide
 wp:=by decide
 wl:=by decide
def j9(f:Nat->Int):Nat->List (List Int)->List Pl|_,[]=>[]|k,r::rs=>(f k,r)::j9 f (k+1) rs
theorem iJ(f:Nat->Int):∀ (rs:List (List Int)) (k:Nat),(j9 f k rs).length=rs.length
 | [],k=>rfl
 | r::rs,k=>by rw[j9,zL,zL,iJ f rs]
theorem iN(f:Nat->Int):∀ {rs:List (List Int)}{k i:Nat}{p:Pl},(j9 f k rs)[i]?=some p->∃r,rs[i]?=some r/\p=(f (k+i),r)
 | [],k,i,p,h=>by simp[j9] at h
 | r::rs,k,0,p,h=>by simp[j9] at h;exact⟨r,rfl,h.symm⟩
 | r::rs,k,i+1,p,h=>by
  simp only[j9,yY] at h
  obtain⟨y,h1,h2⟩:=iN f h
  exact⟨y,by simpa using h1,by rw[h2];congr 2;omega⟩
theorem eY:∀ {a b:List (List Int)},rG a b->a.length=b.length
 | [],[],_=>rfl
 | x::a,y::b,h=>by rw[zL,zL,eY h.2]
 | [],_::_,h=>h.elim
 | _::_,[],h=>h.elim
theorem oY:∀ {a b:List (List Int)}{i:Nat}{r:List Int},rG a b->a[i]?=some r->∃s,b[i]?=some s/\r.Perm s
 | [],[],i,r,_,h=>by simp at h
 | x::a,y::b,0,r,h,e=>by
  simp only[xQ,yK] at e
  subst e
  exact⟨y,rfl,h.1⟩
 | x::a,y::b,i+1,r,h,e=>by
  simp only[yY] at e
  obtain⟨s,h1,h2⟩:=oY h.2 e
  exact⟨s,by simpa using h1,h2⟩
 | [],_::_,i,r,h,_=>h.elim
 | _::_,[],i,r,h,_=>h.elim
def mq(W:List Wy)(m:Nat):List (List Int):=(List.range m).map fun i=>DK W ((i:Nat):Int)
def j7(W:List Wy)(m:Nat):List (List Int):=(List.range m).map fun i=>ofT W ((i:Nat):Int)
theorem J9{m s:Nat}{W:List Wy}{mine yours:List (List Int)}{f g:Nat->Int}(m1:1<=m)(m4:m<=4)(s1:1<=s)(s4:s<=4)(hf:∀k,0<=f k/\f k<=9)(hg:∀k,0<=g k/\g k<=9)
  (hm:rG mine (mq W m)) (hy:rG yours (j7 W s)) (wr:∀w∈W,(0<=w.1/\w.1 < m)/\(0<=w.2.1/\w.2.1 < s)/\1<=w.2.2/\w.2.2<=9) (wp:IF W) (wl:W.length<=16):Wd (j9 f 0 mine) (j9 g 0 yours) W:=by
 have lm:(j9 f 0 mine).length=m:=by rw[iJ,eY hm,mq,zD,zR]
 have ly:(j9 g 0 yours).length=s:=by rw[iJ,eY hy,j7,zD,zR]
 have am:∀ {h:Nat->Int}{rs:List (List Int)},(∀k,0<=h k/\h k<=9)->∀p∈j9 h 0 rs,0<=p.1/\p.1<=9:=fun {h rs} hh p hp=>by
  obtain⟨i,hi⟩:=List.mem_iff_getElem?.mp hp
  obtain⟨r,_,rfl⟩:=iN h hi
  exact hh _
 refine⟨by omega,by omega,by omega,by omega,am hf,am hg,fun i p hp=>?_,fun i p hp=>?_,by rw[lm,ly];exact wr,wp,wl⟩
 ·obtain⟨r,h1,rfl⟩:=iN f hp
  obtain⟨t,h2,h3⟩:=oY hm h1
  rw[mq,zO] at h2
  obtain⟨k,hk,rfl⟩:=Option.map_eq_some_iff.mp h2
  have:k=i:=by
   rw[zS] at hk
   obtain⟨h,e⟩:=hk
   rw[List.getElem_range] at e
   exact e.symm
  subst this
  exact h3
 ·obtain⟨r,h1,rfl⟩:=iN g hp
  obtain⟨t,h2,h3⟩:=oY hy h1
  rw[j7,zO] at h2
  obtain⟨k,hk,rfl⟩:=Option.map_eq_some_iff.mp h2
  have:k=i:=by
   rw[zS] at hk
   obtain⟨h,e⟩:=hk
   rw[List.getElem_range] at e
   exact e.symm
  subst this
  exact h3
theorem dZ{i:Nat}{fz:List Nat}{f:Dl.Env->Option D}{ρ ρ':ar}{d:D}(hf:f (aJ ρ)=some d)(hs:Dl.pV d=false)(hh:hand fz 0 ρ=ρ')(hv:bZ ρ'=aJ ρ)(hr:iW d=false\/ρ'=ρ:=by first|exact .inr rfl|exact .inl rfl):Dl.aY i fz f ρ=some (.nx (ρ'.set i (.val d))):=by
 rcases hr with hr|hr
 ·simp only[Dl.aY,hf,zA,hs,yO,qP,hh,hv,zB,hr]
 ·subst hr
  simp only[Dl.aY,hf,zA,hs,yO,qP,hh,hv,zB,ite_self]
theorem di{i:Nat}{fz:List Nat}{f:Dl.Env->Option D}{ρ:ar}{d:D}(hf:f (aJ ρ)=some d)(hs:Dl.pV d=true):Dl.aY i fz f ρ=some (.nx (ρ.set i (.val d))):=by
 simp only[Dl.aY,hf,zA,hs,xH]
theorem Mi(w:Wy):av (aA w) (.int 0)=some (.int w.1):=rfl
theorem LX(w:Wy):av (aA w) (.int 1)=some (.int w.2.1):=rfl
theorem Cb(a b c:D):small [a,b,c]=some [a,b,c]:=rfl
theorem Pe{a b s:Int}(hs:s=1\/s=2\/s=3)(h:a < b):a / s < b / s\/(a / s=b / s/\a % s < b % s):=by rcases hs with rfl|rfl|rfl<;>omega
theorem Nt{k m s:Int}(hs:s=1\/s=2\/s=3)(hm:m=1\/m=2\/m=3)(h0:0<=k)(h:k < m * s):(0<=k / s/\k / s < m)/\0<=k % s/\k % s < s:=by
 rcases hs with rfl|rfl|rfl<;>rcases hm with rfl|rfl|rfl<;>omega
def lB:ar->Option Out:=(dW (dw (fB (f2 yc (aZ aP (aa (ae 7) af)) (ae 2))) (fB (f2 tm (ai 3 ak (aa (ae 0) (aa (f2 aI (f2 aI (ae 1) (fC (.int 2))) (ae 8)) (aa (fC (.int 4)) af)))) (fC (.int 0))))) (um 7 [0,1,6,8] (aN (aa (f2 ow (ae 8) (ae 6)) (aa (f2 md (ae 8) (ae 6)) (aa (f2 aI (fC (.int 1)) (ai 3 ak (aa (ae 0) (aa (f2 aI (f2 aI (ae 1) (fC (.int 12))) (ae 8)) (aa (fC (.int 2)) af))))) af))))) du)
abbrev st(ns:List Int)(a mo m s:Int)(x4 x7 x8 x9 x10 x11:Slot):ar:=[.val (cw ns),.val (.int a),.val (.int mo),.non,x4,.val (.int m),.val (.int s),x7,x8,x9,x10,x11]
def Lv(ns:List Int)(a mo s k:Int)(W:List Wy):List Wy:=if (W.length:Int) < mo/\0 < dr ns (a+2+k) 4 then W++[(k / s,k % s,1+dr ns (a+12+k) 2)] else W
theorem OX{ns:List Int}{a mo m s k:Int}{W:List Wy}(hl:ns.length<=63)(hs:s=1\/s=2\/s=3)(hw:W.length<=9) :
  lB (st ns a mo m s .non (.own (W.map aA)) (.val (.int k)) .non .non .non)=some (.nx (st ns a mo m s .non (.own ((Lv ns a mo s k W).map aA)) (.val (.int k)) .non .non .non)):=by
 have hs0:0 < s:=by omega
 have hz:W.length < sizeLine:=qZ hw (by decide)
 have hd:Dl.ow (.int k) (.int s)=some (.int (k / s)):=lI ⟨hs0,by omega⟩
 have hm:Dl.md (.int k) (.int s)=some (.int (k % s)):=iI hs0
 have e4:=u4 (ns:=ns) (a+2+k) 4 hl (by decide)
 have e2:=u4 (ns:=ns) (a+12+k) 2 hl (by decide)
 have hh:hand [0,1,6,8] 0 (st ns a mo m s .non (.own (W.map aA)) (.val (.int k)) .non .non .non)=st ns a mo m s .non (.own (W.map aA)) (.val (.int k)) .non .non .non:=rfl
 have ha:um 7 [0,1,6,8] (aN (aa (f2 ow (ae 8) (ae 6)) (aa (f2 md (ae 8) (ae 6)) (aa (f2 aI (fC (.int 1)) (ai 3 ak (aa (ae 0) (aa (f2 aI (f2 aI (ae 1) (fC (.int 12))) (ae 8)) (aa (fC (.int 2)) af))))) af)))) (st ns a mo m s .non (.own (W.map aA)) (.val (.int k)) .non .non .non)=some (.nx (st ns a mo m s .non (.own ((W++[(k / s,k % s,1+dr ns (a+12+k) 2)]).map aA)) (.val (.int k)) .non .non .non)):=by
  simp only[um,pF,hh,bZ,zI,yU]
  simp! [A9,yO,sS,hd,hm,e2,Cb,zD,hz,yW,yV,jA]
  rfl
 by_cases c1:(W.length:Int) < mo
 ·by_cases c2:0 < dr ns (a+2+k) 4
  ·rw[show Lv ns a mo s k W=W++[(k / s,k % s,1+dr ns (a+12+k) 2)] from yL ⟨c1,c2⟩,<- ha]
   simp! [lB,lS,eZ,zD,c1,c2,jQ,gW,e4]
  ·rw[show Lv ns a mo s k W=W from yN fun h=>c2 h.2]
   simp! [lB,lS,eZ,zD,c1,c2,jQ,wV,gW,e4,yO]
 ·rw[show Lv ns a mo s k W=W from yN fun h=>c1 h.1]
  simp! [lB,lS,eZ,zD,c1,wV,gW,yO]
structure FZ(mo s k:Int)(W:List Wy):Prop where
 mem:∀w∈W,∃j:Int,0<=j/\j < k/\w.1=j / s/\w.2.1=j % s/\1<=w.2.2/\w.2.2<=2
 ris:IF W
 len:(W.length:Int)<=k
 lem:(W.length:Int)<=mo
theorem FZ.next{ns:List Int}{a mo s k:Int}{W:List Wy}(hl:ns.length<=63)(hs:s=1\/s=2\/s=3)(hk:0<=k)(h:FZ mo s k W):FZ mo s (k+1) (Lv ns a mo s k W):=by
 have old:∀w∈W,∃j:Int,0<=j/\j < k+1/\w.1=j / s/\w.2.1=j % s/\1<=w.2.2/\w.2.2<=2:=fun w hw=>by
  obtain⟨j,a,b,c⟩:=h.mem w hw
  exact⟨j,a,by omega,c⟩
 by_cases c:(W.length:Int) < mo/\0 < dr ns (a+2+k) 4
 ·rw[show Lv ns a mo s k W=W++[(k / s,k % s,1+dr ns (a+12+k) 2)] from yL c]
  have g1:=L4 (ns:=ns) (a+12+k) 2 hl (by decide)
  have g2:=Ms (ns:=ns) (a+12+k) 2 hl (by decide)
  refine⟨fun w hw=>?_,?_,?_,?_⟩
  ·rcases List.mem_append.mp hw with hw|hw
   ·exact old w hw
   ·rw[yJ] at hw
    subst hw
    exact⟨k,hk,by omega,rfl,rfl,by simp only;omega,by simp only;omega⟩
  ·refine List.pairwise_append.mpr ⟨h.ris,vJ _ _,fun a ha b hb=>?_⟩
   rw[yJ] at hb
   subst hb
   obtain⟨j,_,b,c1,c2,_⟩:=h.mem a ha
   rw[c1,c2]
   exact Pe hs b
  ·have:=h.len;rw[zN,xC];omega
  ·have:=c.1;rw[zN,xC];omega
 ·rw[show Lv ns a mo s k W=W from yN c]
  exact⟨old,h.ris,by have:=h.len;omega,h.lem⟩
theorem IA{ns:List Int}{a mo m s:Int}(hl:ns.length<=63)(hs:s=1\/s=2\/s=3):∀ (n k:Nat) {W:List Wy}{x8:Slot},k+n<=9->FZ mo s k W ->
  ∃W' t8,fO (qt 8) lB ((List.range' k n).map fun i=>PyData.int ((i:Nat):Int)) (st ns a mo m s .non (.own (W.map aA)) x8 .non .non .non)=some (.nx (st ns a mo m s .non (.own (W'.map aA)) t8 .non .non .non))/\(n=0/\t8=x8\/∃d,t8=.val d)/\FZ mo s ((k+n:Nat):Int) W'
 | 0,k,W,x8,hk,h=>⟨W,x8,rfl,.inl ⟨rfl,rfl⟩,h⟩
 | n+1,k,W,x8,hk,h=>by
  have h':FZ mo s ((k+1:Nat):Int) (Lv ns a mo s k W):=by
   have:=h.next (ns:=ns) (a:=a) hl hs (by omega)
   rwa [show ((k:Int)+1)=((k+1:Nat):Int) by omega] at this
  obtain⟨W',t8,e,q,b⟩:=IA hl hs n (k+1) (W:=Lv ns a mo s k W) (x8:=.val (.int (k:Nat))) (by omega) h'
  refine⟨W',t8,?_,.inr (q.elim (fun z=>⟨_,z.2⟩) id),by rw[show k+(n+1)=k+1+n by omega];exact b⟩
  have hsg:∀d,qt 8 (st ns a mo m s .non (.own (W.map aA)) x8 .non .non .non) d=some (st ns a mo m s .non (.own (W.map aA)) (.val d) .non .non .non):=fun d=>rfl
  rw[vH,zI,fO,hsg,zA,OX hl hs (by have:=h.len;omega)]
  exact e
theorem Sx(W:List Wy)(i:Int)(hw:W.length<=20):au 1 [0] (bL (ae 1)) (fG 0) (fB (f2 ba (f2 av (ae 0) (fC (.int 0))) (ae 1))) (f2 av (ae 0) (fC (.int 1))) [some (.int i),some (.list (W.map aA))]=some ((DK W i).map PyData.int):=by
 rw[nV (ds:=W.map aA) (p:=fun d=>decide (l0 ((da d).getD 0 .none)=i)) (h:=fun d=>(da d).getD 1 .none) rfl (by rw[zD];omega) (fun d hd=>?_) fun d hd _=>?_]
 ·rw[kG,zM,DK,zM];rfl
 ·obtain⟨w,_,rfl⟩:=List.mem_map.mp hd
  simp! [Mi,cA,gW]
  rfl
 ·obtain⟨w,_,rfl⟩:=List.mem_map.mp hd
  simp! [LX]
  rfl
theorem SS(W:List Wy)(i:Int)(hw:W.length<=20):au 1 [0] (bL (ae 1)) (fG 0) (fB (f2 ba (f2 av (ae 0) (fC (.int 1))) (ae 1))) (f2 av (ae 0) (fC (.int 0))) [some (.int i),some (.list (W.map aA))]=some ((ofT W i).map PyData.int):=by
 rw[nV (ds:=W.map aA) (p:=fun d=>decide (l0 ((da d).getD 1 .none)=i)) (h:=fun d=>(da d).getD 0 .none) rfl (by rw[zD];omega) (fun d hd=>?_) fun d hd _=>?_]
 ·rw[kG,zM,ofT,zM];rfl
 ·obtain⟨w,_,rfl⟩:=List.mem_map.mp hd
  simp! [LX,cA,gW]
  rfl
 ·obtain⟨w,_,rfl⟩:=List.mem_map.mp hd
  simp! [Mi]
  rfl
theorem nC{m:Nat}(hm:m<=1000):Aa ((m:Nat):Int)=true:=by
 unfold Aa
 rw[zF,zJ,zJ]
 have h1:(0:Int)<=(m:Int):=Int.natCast_nonneg m
 have h2:(m:Int)<=1000:=by omega
 exact⟨jU (by decide) h1,Int.lt_of_le_of_lt h2 (by decide)⟩
theorem Ax{j:Int}(h:Aa j=true):mZ [.int j]=some ((List.range j.toNat).map fun i=>PyData.int ((i:Nat):Int)):=by
 rw[mZ,yL h]
theorem yq{fi:Dl.Env->Option D}{ρ:Dl.Env}(m:Nat)(hm:m<=1000)(h:fi ρ=some (.int (m:Nat))):aK (aa fi af) ρ=some ((List.range m).map fun i=>PyData.int ((i:Nat):Int)):=by
 have e:aa fi af ρ=some [.int ((m:Nat):Int)]:=by simp only[aa,af,h,zA,zB]
 have e2:aK (aa fi af) ρ=(aa fi af ρ).bind mZ:=rfl
 rw[e2,e,zA,Ax (nC hm),yF]
theorem Lc{W:List Wy}{m:Nat}{i7 i5:Nat}{ρ:Dl.Env}(hw:W.length<=20)(hm:m<=1000)(h5:ae i5 ρ=some (.int (m:Nat)))(h7:(ρ[i7]?).getD none=some (.list (W.map aA))) :
  au 1 [i7] (aK (aa (ae i5) af)) (fG 0) (fun _=>some true) (bR (au 1 [0] (bL (ae 1)) (fG 0) (fB (f2 ba (f2 av (ae 0) (fC (.int 0))) (ae 1))) (f2 av (ae 0) (fC (.int 1))))) ρ=some ((mq W m).map cC):=by
 rw[cL (h:=fun d=>cC (DK W (l0 d))) (yq m hm h5) (by rw[zD,zR];omega) fun d hd=>?_]
 ·rw[mq,zM,zM];rfl
 ·obtain⟨i,_,rfl⟩:=List.mem_map.mp hd
  simp only[zI,yU,h7,bR,Sx W _ hw,zB,cC,l0]
theorem J2{W:List Wy}{m:Nat}{i7 i5:Nat}{ρ:Dl.Env}(hw:W.length<=20)(hm:m<=1000)(h5:ae i5 ρ=some (.int (m:Nat)))(h7:(ρ[i7]?).getD none=some (.list (W.map aA))) :
  au 1 [i7] (aK (aa (ae i5) af)) (fG 0) (fun _=>some true) (bR (au 1 [0] (bL (ae 1)) (fG 0) (fB (f2 ba (f2 av (ae 0) (fC (.int 1))) (ae 1))) (f2 av (ae 0) (fC (.int 0))))) ρ=some ((j7 W m).map cC):=by
 rw[cL (h:=fun d=>cC (ofT W (l0 d))) (yq m hm h5) (by rw[zD,zR];omega) fun d hd=>?_]
 ·rw[j7,zM,zM];rfl
 ·obtain⟨i,_,rfl⟩:=List.mem_map.mp hd
  simp only[zI,yU,h7,bR,SS W _ hw,zB,cC,l0]
def My(c:Int):Dl.Env->Option D:=(aN (aa (ai 3 ak (aa (ae 2) (aa (f2 aI (f2 aI (ae 3) (fC (.int c))) (ae 0)) (aa (fC (.int 4)) af)))) (aa (ae 1) af)))
theorem Qj{ns:List Int}{a:Int}(c:Int)(hl:ns.length<=63):∀ (mine:List (List Int)) (k:Nat),dz (j6 0 1) (fun _=>some true) (My c) [none,none,some (cw ns),some (.int a)] (bP k (mine.map ah))=some ((j9 (fun k=>dr ns (a+c+((k:Nat):Int)) 4) k mine).map br)
 | [],k=>rfl
 | r::mine,k=>by
  have hg:j6 0 1 [none,none,some (cw ns),some (.int a)] (.tuple [.int ((k:Nat):Int),ah r])=some [some (.int ((k:Nat):Int)),some (ah r),some (cw ns),some (.int a)]:=rfl
  have he:My c [some (.int ((k:Nat):Int)),some (ah r),some (cw ns),some (.int a)]=some (br (dr ns (a+c+((k:Nat):Int)) 4,r)):=by
   simp! [My,u4 (ns:=ns) (a+c+((k:Nat):Int)) 4 hl (by decide),Cv,br]
  have ih:=Qj (a:=a) c hl mine (k+1)
  rw[zI,bP,dz,hg]
  simp only[zA,xH,he,ih,zB,j9,zI]
theorem lP:∀ (ds:List D) (k:Nat),(bP k ds).length=ds.length
 | [],k=>rfl
 | d::ds,k=>by rw[bP,zL,zL,lP ds]
theorem A6{ns:List Int}{a c:Int}{i9:Nat}{ρ:Dl.Env}{mine:List (List Int)}(hl:ns.length<=63)(hm:mine.length<=1000)(h9:ae i9 ρ=some (.list (mine.map ah)))(h0:(ρ[0]?).getD none=some (cw ns))(h1:(ρ[1]?).getD none=some (.int a)) :
  aZ bV (aa (bR (au 2 [0,1] (bO (aa (ae i9) af)) (j6 0 1) (fun _=>some true) (My c))) af) ρ=some (.tuple ((j9 (fun k=>dr ns (a+c+((k:Nat):Int)) 4) 0 mine).map br)):=by
 have hi:bO (aa (ae i9) af) ρ=some (bP 0 (mine.map ah)):=by
  simp only[bO,aa,af,h9,zA,zB,cI,oneOf,g0]
 have hc:au 2 [0,1] (bO (aa (ae i9) af)) (j6 0 1) (fun _=>some true) (My c) ρ=some ((j9 (fun k=>dr ns (a+c+((k:Nat):Int)) 4) 0 mine).map br):=by
  simp only[au,hi,zA,fJ,zI,yU,h0,h1,List.replicate,xF,xO,Qj c hl]
  exact bQ (by rw[zD,iJ];omega)
 simp only[aZ,aa,af,bR,hc,zB,zA,bV,cI,oneOf,g0]
theorem aq{g1 g2:ar->Option Out}{ρ ρ':ar}(h:g1 ρ=some (.nx ρ')):ay g1 g2 ρ=g2 ρ':=by
 simp only[ay,h,zA]
theorem aO{g:ar->Option Out}{n:Nat}{args:List D}{d:D}(h:g (args.map Slot.val++List.replicate (n - args.length) .non)=some (.rt d)):bD g n args=some d:=by
 simp only[bD,h,zB]
theorem iV{g:D->D->Option D}{fa fb:Dl.Env->Option D}{ρ:Dl.Env}{a b:D}(ha:fa ρ=some a)(hb:fb ρ=some b):f2 g fa fb ρ=g a b:=by
 simp only[f2,ha,hb,zA]
theorem NO{ns:List Int}{a mo:Int}{m s:Nat}(m1:m<=3)(s1:s<=3):f2 dM (ae 5) (ae 6) (bZ (st ns a mo m s .non (.own []) .non .non .non .non))=some (.int ((m * s:Nat):Int)):=by
 have h:Dl.dM (.int (m:Int)) (.int (s:Int))=some (.int ((m:Int) * (s:Int))):=eD (lF (by omega))
 rw[iV (a:=.int (m:Int)) (b:=.int (s:Int)) rfl rfl,h,Int.natCast_mul]
theorem Ow{ns:List Int}{a mo:Int}{m s:Nat}(m1:m<=3)(s1:s<=3)(hms:m * s<=9){W:List Wy}{t8:Slot}(e: fO (qt 8) lB ((List.range' 0 (m * s)).map fun i=>PyData.int ((i:Nat):Int)) (st ns a mo m s .non (.own (([]:List Wy).map aA)) .non .non .non .non)=some (.nx (st ns a mo m s .non (.own (W.map aA)) t8 .non .non .non))):ee [5,6] (aK (aa (f2 dM (ae 5) (ae 6)) af)) (qt 8) lB (st ns a mo m s .non (.own []) .non .non .non .non)=some (.nx (st ns a mo m s .non (.own (W.map aA)) t8 .non .non .non)):=by
 have hh:hand [5,6] 0 (st ns a mo m s .non (.own []) .non .non .non .non)=st ns a mo m s .non (.own []) .non .non .non .non:=rfl
 have hr:=yq (fi:=f2 dM (ae 5) (ae 6)) (ρ:=bZ (st ns a mo m s .non (.own []) .non .non .non .non)) (m * s) (by omega) (NO m1 s1)
 rw[yG] at hr
 rw[yU] at e
 simp only[ee,hh,hr,zA]
 exact e
structure QY(mo:Int)(G T:List Pl)(W:List Wy):Prop where
 g3:G.length<=3
 t3:T.length<=3
 w2:∀w∈W,w.2.2<=2
 ga:∀p∈G,p.1<=3
 ta:∀p∈T,p.1<=3
 wm:(W.length:Int)<=mo
theorem v7{ns:List Int}{a mo:Int}(hl:ns.length<=63)(hmo:3 < mo)(c:dr ns (a+64) 4=0):∃G T W,b8 [cw ns,.int a,.int mo]=some (aE G T W)/\Wd G T W/\QY mo G T W:=by
 have e64:=u4 (ns:=ns) (a+64) 4 hl (by decide)
 have e65:=dR (ns:=ns) (a+65) 2 hl (by decide)
 refine⟨_,_,_,?_,FV (c:=1+dr ns (a+65) 2) (by omega) (by omega),⟨by simp,by simp,by decide,fun p hp=>?_,fun p hp=>?_,by simp;omega⟩⟩
 rotate_left
 ·simp only[zQ,yE,xU] at hp;rcases hp with rfl|rfl<;>(simp only;omega)
 ·simp only[zQ,yE,xU] at hp;rcases hp with rfl|rfl<;>(simp only;omega)
 have s1:Dl.aY 3 [0,1] (f2 aI (fC (.int 1)) (ai 3 ak (aa (ae 0) (aa (f2 aI (ae 1) (fC (.int 65))) (aa (fC (.int 2)) af))))) [.val (cw ns),.val (.int a),.val (.int mo),.non,.non,.non,.non,.non,.non,.non,.non,.non]=some (.nx [.val (cw ns),.val (.int a),.val (.int mo),.val (.int (1+dr ns (a+65) 2)),.non,.non,.non,.non,.non,.non,.non,.non]) :=
  di (d:=.int (1+dr ns (a+65) 2)) (by simp! [e65.1]) rfl
 generalize 1+dr ns (a+65) 2=x at *
 have s2:Dl.aY 4 [3] (aN (aa (aN (aa (ae 3) (aa (aN (aa (fC (.int 1)) (aa (fC (.int 0)) af))) af))) (aa (aN (aa (ae 3) (aa (aN (aa (fC (.int 0)) (aa (fC (.int 1)) af))) af))) af))) [.val (cw ns),.val (.int a),.val (.int mo),.val (.int x),.non,.non,.non,.non,.non,.non,.non,.non]=some (.nx [.val (cw ns),.val (.int a),.val (.int mo),.val (.int x),.val (.tuple [br (x,[1,0]),br (x,[0,1])]),.non,.non,.non,.non,.non,.non,.non]) :=
  dZ (d:=.tuple [br (x,[1,0]),br (x,[0,1])]) (by simp! [Cv];rfl) rfl rfl rfl
 simp! [b8,eA,eZ,e64,c,cA,jQ,gW,show decide ((3:Int) < mo)=true from zZ hmo,s1,s2,Cv,Cb,show ∀a b c d:D,small [a,b,c,d]=some [a,b,c,d] from fun _ _ _ _=>rfl]
 rfl
theorem xv{ns:List Int}{a mo:Int}(hl:ns.length<=63)(hm0:0<=mo)(c:¬ (3 < mo/\dr ns (a+64) 4=0)):∃G T W,b8 [cw ns,.int a,.int mo]=some (aE G T W)/\Wd G T W/\QY mo G T W:=by
 have e64:=u4 (ns:=ns) (a+64) 4 hl (by decide)
 have em:=dR (ns:=ns) a 3 hl (by decide)
 have es:=dR (ns:=ns) (a+1) 3 hl (by decide)
 obtain⟨m,hm⟩:=vK (show 0<=1+dr ns a 3 by omega)
 obtain⟨s,hs⟩:=vK (show 0<=1+dr ns (a+1) 3 by omega)
 have m1:1<=m/\m<=3:=by omega
 have s1:1<=s/\s<=3:=by omega
 have hs':(s:Int)=1\/(s:Int)=2\/(s:Int)=3:=by omega
 have hm':(m:Int)=1\/(m:Int)=2\/(m:Int)=3:=by omega
 have t5:Dl.aY 5 [0,1] (f2 aI (fC (.int 1)) (ai 3 ak (aa (ae 0) (aa (ae 1) (aa (fC (.int 3)) af))))) [.val (cw ns),.val (.int a),.val (.int mo),.non,.non,.non,.non,.non,.non,.non,.non,.non]=some (.nx [.val (cw ns),.val (.int a),.val (.int mo),.non,.non,.val (.int (m:Nat)),.non,.non,.non,.non,.non,.non]) :=
  di (d:=.int (m:Nat)) (by simp! [em.1,hm]) rfl
 have t6:Dl.aY 6 [0,1] (f2 aI (fC (.int 1)) (ai 3 ak (aa (ae 0) (aa (f2 aI (ae 1) (fC (.int 1))) (aa (fC (.int 3)) af))))) [.val (cw ns),.val (.int a),.val (.int mo),.non,.non,.val (.int (m:Nat)),.non,.non,.non,.non,.non,.non]=some (.nx (st ns a mo m s .non .non .non .non .non .non)) :=
  di (d:=.int (s:Nat)) (by simp! [es.1,hs]) rfl
 have t7:bu 7 [] (b0 af) (st ns a mo m s .non .non .non .non .non .non)=some (.nx (st ns a mo m s .non (.own []) .non .non .non .non)):=by
  simp only[bu,nK,b0,af,zA,iA,zB,yW,yV]
 have hms:m * s<=9:=vZ m1.2 s1.2
 have hms1:1<=m * s:=vZ m1.1 s1.1
 obtain⟨W,t8,e,h8,I⟩:=IA (ns:=ns) (a:=a) (m:=m) (s:=s) hl hs' (m * s) 0 (W:=[]) (x8:=.non) (by omega) (mo:=mo) ⟨fun w hw=>(by cases hw),List.Pairwise.nil,by decide,hm0⟩
 rw[jD] at I
 obtain⟨d8,rfl⟩:∃d,t8=.val d:=h8.elim (fun z=>by omega) id
 have hlen9:W.length<=9:=by have:=I.len;omega
 have tf:=Ow m1.2 s1.2 hms e
 unfold lB at tf
 have hwl:W.length<=20:=by omega
 have wr:∀w∈W,(0<=w.1/\w.1 < m)/\(0<=w.2.1/\w.2.1 < s)/\1<=w.2.2/\w.2.2<=9:=fun w hw=>by
  obtain⟨j,j0,jk,ea,b,c1,c2⟩:=I.mem w hw
  have:=Nt hs' hm' j0 (by rw[<- Int.natCast_mul];exact jk)
  rw[ea,b]
  exact⟨this.1,this.2,c1,by omega⟩
 have lenG:∀r∈mq W m,r.length<=1000:=fun r hr=>by
  obtain⟨i,_,rfl⟩:=List.mem_map.mp hr
  rw[DK,zD]
  exact yC (xP _ _) (by omega)
 have lenT:∀r∈j7 W s,r.length<=1000:=fun r hr=>by
  obtain⟨i,_,rfl⟩:=List.mem_map.mp hr
  rw[ofT,zD]
  exact yC (xP _ _) (by omega)
 obtain⟨mine,om,pm⟩:=Aj (ns:=ns) (a:=a+24) (rows:=mq W m) hl lenG (by rw[mq,zD,zR];omega)
 obtain⟨yours,oy,py⟩:=Aj (ns:=ns) (a:=a+40) (rows:=j7 W s) hl lenT (by rw[j7,zD,zR];omega)
 have lm:mine.length<=1000:=by rw[eY pm,mq,zD,zR];omega
 have ly:yours.length<=1000:=by rw[eY py,j7,zD,zR];omega
 have t9:Dl.aY 9 [0,1,5,7] (ai 3 bS (aa (ae 0) (aa (f2 aI (ae 1) (fC (.int 24))) (aa (bR (au 1 [7] (aK (aa (ae 5) af)) (fG 0) (fun _=>some true) (bR (au 1 [0] (bL (ae 1)) (fG 0) (fB (f2 ba (f2 av (ae 0) (fC (.int 0))) (ae 1))) (f2 av (ae 0) (fC (.int 1))))))) af)))) (st ns a mo m s .non (.own (W.map aA)) (.val d8) .non .non .non)=some (.nx (st ns a mo m s .non (.val (.list (W.map aA))) (.val d8) (.val (.list (mine.map ah))) .non .non)):=by
  refine (dZ (ρ':=st ns a mo m s .non (.val (.list (W.map aA))) (.val d8) .non .non .non) (d:=.list (mine.map ah)) ?_ rfl rfl ?_).trans rfl
  ·have q:=Lc (ρ:=aJ (st ns a mo m s .non (.own (W.map aA)) (.val d8) .non .non .non)) (i5:=5) (i7:=7) hwl (show m<=1000 by omega) rfl rfl
   simp only[ai,aa,af,bR,q,zB,zA]
   simp! [om]
  ·simp only[st,bZ,aJ,zI,yU];rfl
 have t10:Dl.aY 10 [0,1,6,7] (ai 3 bS (aa (ae 0) (aa (f2 aI (ae 1) (fC (.int 40))) (aa (bR (au 1 [7] (aK (aa (ae 6) af)) (fG 0) (fun _=>some true) (bR (au 1 [0] (bL (ae 1)) (fG 0) (fB (f2 ba (f2 av (ae 0) (fC (.int 1))) (ae 1))) (f2 av (ae 0) (fC (.int 0))))))) af)))) (st ns a mo m s .non (.val (.list (W.map aA))) (.val d8) (.val (.list (mine.map ah))) .non .non)=some (.nx (st ns a mo m s .non (.val (.list (W.map aA))) (.val d8) (.val (.list (mine.map ah))) (.val (.list (yours.map ah))) .non)):=by
  refine (dZ (ρ':=st ns a mo m s .non (.val (.list (W.map aA))) (.val d8) (.val (.list (mine.map ah))) .non .non) (d:=.list (yours.map ah)) ?_ rfl ?_ ?_).trans rfl
  ·have q:=J2 (ρ:=aJ (st ns a mo m s .non (.val (.list (W.map aA))) (.val d8) (.val (.list (mine.map ah))) .non .non)) (i5:=6) (i7:=7) hwl (show s<=1000 by omega) rfl rfl
   simp only[ai,aa,af,bR,q,zB,zA]
   simp! [oy]
  ·rfl
  ·simp only[st,bZ,aJ,zI,yU];rfl
 have t11:Dl.aY 11 [0,1,8,9] (aZ bV (aa (bR (au 2 [0,1] (bO (aa (ae 9) af)) (j6 0 1) (fun _=>some true) (My 56))) af)) (st ns a mo m s .non (.val (.list (W.map aA))) (.val d8) (.val (.list (mine.map ah))) (.val (.list (yours.map ah))) .non)=some (.nx (st ns a mo m s .non (.val (.list (W.map aA))) (.val d8) (.val (.list (mine.map ah))) (.val (.list (yours.map ah))) (.val (.tuple ((j9 (fun k=>dr ns (a+56+((k:Nat):Int)) 4) 0 mine).map br))))):=by
  refine (dZ (ρ':=st ns a mo m s .non (.val (.list (W.map aA))) (.val d8) (.val (.list (mine.map ah))) (.val (.list (yours.map ah))) .non) (A6 hl lm rfl rfl rfl) rfl rfl ?_).trans rfl
  simp only[st,bZ,aJ,zI,yU];rfl
 have t4:∀G:D,Dl.aY 4 [0,1,8,10] (aZ bV (aa (bR (au 2 [0,1] (bO (aa (ae 10) af)) (j6 0 1) (fun _=>some true) (My 60))) af)) (st ns a mo m s .non (.val (.list (W.map aA))) (.val d8) (.val (.list (mine.map ah))) (.val (.list (yours.map ah))) (.val G))=some (.nx (st ns a mo m s (.val (.tuple ((j9 (fun k=>dr ns (a+60+((k:Nat):Int)) 4) 0 yours).map br))) (.val (.list (W.map aA))) (.val d8) (.val (.list (mine.map ah))) (.val (.list (yours.map ah))) (.val G))):=fun G=>by
  refine (dZ (ρ':=st ns a mo m s .non (.val (.list (W.map aA))) (.val d8) (.val (.list (mine.map ah))) (.val (.list (yours.map ah))) (.val G)) (A6 hl ly rfl rfl rfl) rfl rfl ?_).trans rfl
  simp only[st,bZ,aJ,zI,yU];rfl
 refine⟨_,_,W,?_,J9 (f:=fun k=>dr ns (a+56+((k:Nat):Int)) 4) (g:=fun k=>dr ns (a+60+((k:Nat):Int)) 4) m1.1 (by omega) s1.1 (by omega) (fun k=>?_) (fun k=>?_) pm py wr I.ris (by omega),⟨by rw[iJ,eY pm,mq,zD,zR];omega,by rw[iJ,eY py,j7,zD,zR];omega,fun w hw=>(by obtain⟨j,_,_,_,_,_,z⟩:=I.mem w hw;exact z),fun p hp=>?_,fun p hp=>?_,I.lem⟩⟩
 ·unfold My at t11 t4
  have tA:∀g,dW (dw (fB (f2 tm (ae 2) (fC (.int 3)))) (fB (f2 ba (ai 3 ak (aa (ae 0) (aa (f2 aI (ae 1) (fC (.int 64))) (aa (fC (.int 4)) af)))) (fC (.int 0))))) g du [.val (cw ns),.val (.int a),.val (.int mo),.non,.non,.non,.non,.non,.non,.non,.non,.non]=some (.nx [.val (cw ns),.val (.int a),.val (.int mo),.non,.non,.non,.non,.non,.non,.non,.non,.non]):=fun g=>by
   by_cases c1:3 < mo
   ·have c2:¬ dr ns (a+64) 4=0:=fun z=>c ⟨c1,z⟩
    simp! [eZ,e64,c1,c2,cA,wV,jQ,gW,yO]
   ·simp! [eZ,c1,wV,gW,yO]
  refine aO ?_
  show eA [.val (cw ns),.val (.int a),.val (.int mo),.non,.non,.non,.non,.non,.non,.non,.non,.non]=_
  unfold eA
  rw[aq (tA _),aq t5,aq t6,aq t7,aq tf,aq t9,aq t10,aq t11,aq (t4 _)]
  simp! [Cb,aE]
 ·have q:=dR (ns:=ns) (a+56+((k:Nat):Int)) 4 hl (by decide)
  exact⟨q.2.1,by omega⟩
 ·have q:=dR (ns:=ns) (a+60+((k:Nat):Int)) 4 hl (by decide)
  exact⟨q.2.1,by omega⟩
 ·obtain⟨i,hi⟩:=List.getElem?_of_mem hp
  obtain⟨r,_,rfl⟩:=iN _ hi
  have q:=dR (ns:=ns) (a+56+((0+i:Nat):Int)) 4 hl (by decide)
  simp only;omega
 ·obtain⟨i,hi⟩:=List.getElem?_of_mem hp
  obtain⟨r,_,rfl⟩:=iN _ hi
  have q:=dR (ns:=ns) (a+60+((0+i:Nat):Int)) 4 hl (by decide)
  simp only;omega
theorem zv{ns:List Int}{a mo:Int}(hl:ns.length<=63)(hm0:0<=mo):∃G T W,b8 [cw ns,.int a,.int mo]=some (aE G T W)/\Wd G T W/\QY mo G T W:=by
 by_cases c:3 < mo/\dr ns (a+64) 4=0
 ·exact v7 hl c.1 c.2
 ·exact xv hl hm0 c
section
variable {G T:List Pl}{W:List Wy}
theorem L6(h:IF W):(W.map fun w=>[w.1,w.2.1]).Pairwise fun a b=>Dl.lexLt a b=true:=List.pairwise_map.mpr (h.imp fun hab=>RE hab)
theorem Js(h:IF W):(W.map fun w=>[w.1,w.2.1]).Nodup:=(L6 h).imp fun {a b} hab e=>by
 rw[e,gy] at hab
 cases hab
theorem Ji(h:IF W){m:List (List Int)}(hn:m.Nodup)(hm:∀r,r∈W.map (fun w=>[w.1,w.2.1])↔r∈m):W.map (fun w=>[w.1,w.2.1])=sZ m :=
 IU ((List.perm_ext_iff_of_nodup (Js h) hn).mpr hm) ((L6 h).imp fun hab=>PN hab)
theorem Wd.wok(h:Wd G T W):Pi (aE G T W)=true:=by
 have hP:(W.map aA).map fT=W.map fun w=>[w.1,w.2.1]:=by rw[zM];rfl
 have hpg:∀i j:Int,[i,j]∈W.map (fun w=>[w.1,w.2.1])↔[i,j]∈m9 0 (G.map br):=fun i j=>by
  rw[qc]
  constructor
  ·intro hm
   obtain⟨w,hw,e⟩:=List.mem_map.mp hm
   simp only[kX,and_true] at e
   have hr:=(h.wr w hw).1
   obtain⟨p,hp⟩:∃p,G[i.toNat]?=some p:=⟨G[i.toNat]'(by omega),zK (by omega)⟩
   refine⟨i.toNat,br p,by rw[zO,hp];rfl,by omega,?_⟩
   rw[gf,(h.gl _ p hp).mem_iff,wc,show ((i.toNat:Nat):Int)=i by omega]
   exact hm
  ·rintro⟨m,p,hp,rfl,hj⟩
   rw[zO] at hp
   obtain⟨p',hp',rfl⟩:=Option.map_eq_some_iff.mp hp
   rw[gf,(h.gl m p' hp').mem_iff,wc] at hj
   rwa [jD]
 have hpt:∀i j:Int,[i,j]∈W.map (fun w=>[w.1,w.2.1])↔[j,i]∈m9 0 (T.map br):=fun i j=>by
  rw[qc]
  constructor
  ·intro hm
   obtain⟨w,hw,e⟩:=List.mem_map.mp hm
   simp only[kX,and_true] at e
   have hr:=(h.wr w hw).2.1
   obtain⟨p,hp⟩:∃p,T[j.toNat]?=some p:=⟨T[j.toNat]'(by omega),zK (by omega)⟩
   refine⟨j.toNat,br p,by rw[zO,hp];rfl,by omega,?_⟩
   rw[gf,(h.tl _ p hp).mem_iff,xu,show ((j.toNat:Nat):Int)=j by omega]
   exact hm
  ·rintro⟨m,p,hp,rfl,hj⟩
   rw[zO] at hp
   obtain⟨p',hp',rfl⟩:=Option.map_eq_some_iff.mp hp
   rw[gf,(h.tl m p' hp').mem_iff,xu] at hj
   rwa [jD]
 have two:∀ {r:List Int},r∈W.map (fun w=>[w.1,w.2.1])->∃i j,r=[i,j]:=fun hr=>by
  obtain⟨w,_,rfl⟩:=List.mem_map.mp hr
  exact⟨_,_,rfl⟩
 have ng:∀ (L:List Pl),(∀p∈L,p.2.Nodup)->(m9 0 (L.map br)).Nodup:=fun L hL=>uP fun p hp=>by
  obtain⟨p',hp',rfl⟩:=List.mem_map.mp hp
  rw[gf]
  exact hL p' hp'
 have e1:W.map (fun w=>[w.1,w.2.1])=sZ (m9 0 (G.map br)):=Ji h.wp (ng G fun p hp=>by
   obtain⟨i,hi,e⟩:=qQ hp
   exact (h.gl i p (by rw[zK hi,e])).nodup_iff.mpr (oR h.wp i)) fun r=>⟨fun hr=>by
   obtain⟨i,j,rfl⟩:=two hr
   exact (hpg i j).mp hr,fun hr=>by
   obtain⟨i,j,rfl⟩:=lR r hr
   exact (hpg i j).mpr hr⟩
 have e2:W.map (fun w=>[w.1,w.2.1])=sZ ((m9 0 (T.map br)).map List.reverse):=Ji h.wp (by
   exact List.pairwise_map.mpr (List.Pairwise.imp (fun {a b} hne e=>hne (List.reverse_inj.mp e)) (ng T fun p hp=>by
    obtain⟨i,hi,e⟩:=qQ hp
    exact (h.tl i p (by rw[zK hi,e])).nodup_iff.mpr (pb h.wp i)))) fun r=>⟨fun hr=>by
   obtain⟨i,j,rfl⟩:=two hr
   exact List.mem_map.mpr ⟨[j,i],(hpt i j).mp hr,rfl⟩,fun hr=>by
   obtain⟨r',hr',rfl⟩:=List.mem_map.mp hr
   obtain⟨i,j,rfl⟩:=lR r' hr'
   exact (hpt j i).mpr hr'⟩
 have hw:(W.map aA).all (jy G.length T.length)=true:=by
  rw[xG]
  intro x hx
  obtain⟨w,hw,rfl⟩:=List.mem_map.mp hx
  exact F4 (h.wr w hw)
 have hs:∀ {L:List Pl},1<=L.length->L.length<=4->oM (.tuple (L.map br))=true:=fun {L} a b=>by
  simp only[oM,long,zD,zF,zJ];omega
 have h3:long 3 3 (aE G T W)=true:=rfl
 have hg:=h.gok
 have ht:=h.tok
 unfold Pi CY
 rw[h3,jL]
 simp only[aE,da,wG,wH,hP,<- e1,<- e2,jQ,Bool.and_true,js,hs h.g1 h.g4,hs h.t1 h.t4,zD,hg,ht,hw,Me]
end
def sI(b:Bool):Int:=if b then 1 else 0
def bj(b:Bool)(w:Wy):Int:=if b then w.2.1 else w.1
def cP(b:Bool)(w:Wy):Int:=bj (!b) w
def bA(b:Bool)(G T:List Pl):List Pl:=if b then T else G
theorem eI(b:Bool)(G T:List Pl)(W:List Wy):av (aE G T W) (.int (sI b))=some (.tuple ((bA b G T).map br)):=by cases b<;>rfl
theorem g8(G T:List Pl)(W:List Wy):av (aE G T W) (.int 2)=some (.tuple (W.map aA)):=rfl
theorem l8(b:Bool)(w:Wy):av (aA w) (.int (sI b))=some (.int (bj b w)):=by cases b<;>rfl
theorem Em(b:Bool)(w:Wy):av (aA w) (.int (1 - sI b))=some (.int (cP b w)):=by cases b<;>rfl
theorem xi(w:Wy):av (aA w) (.int 2)=some (.int w.2.2):=rfl
theorem Dc(p:Pl):av (br p) (.int 0)=some (.int p.1):=rfl
theorem D9(p:Pl):av (br p) (.int 1)=some (ah p.2):=rfl
theorem BE{ds:List D}{i:Nat}{d:D}(h:ds[i]?=some d):av (.tuple ds) (.int ((i:Nat):Int))=some d:=by
 show y3 ds (i:Nat)=_
 exact yi h
theorem NS{ds:List D}{i:Nat}{d:D}(h:ds[i]?=some d):av (.list ds) (.int ((i:Nat):Int))=some d:=by
 show y3 ds (i:Nat)=_
 exact yi h
theorem mJ{α:Type}{f:α->D}{l:List α}{i:Nat}{x:α}(h:l[i]?=some x):av (.tuple (l.map f)) (.int ((i:Nat):Int))=some (f x):=BE (by rw[zO,h];rfl)
theorem xj{α:Type}{f:α->D}{l:List α}{i:Nat}{x:α}(h:l[i]?=some x):av (.list (l.map f)) (.int ((i:Nat):Int))=some (f x):=NS (by rw[zO,h];rfl)
def QO(b:Bool)(W:List Wy)(p:Int):List Int:=(W.filter fun w=>decide (bj b w=p)).map (cP b)
theorem Wd.lik{G T:List Pl}{W:List Wy}(h:Wd G T W){b:Bool}{i:Nat}{p:Pl}(e:(bA b G T)[i]?=some p):p.2.Perm (QO b W i):=by
 cases b
 ·exact h.gl i p e
 ·exact h.tl i p e
theorem Wd.nod{G T:List Pl}{W:List Wy}(h:Wd G T W)(b:Bool)(i:Int):(QO b W i).Nodup:=by
 cases b
 ·exact oR h.wp i
 ·exact pb h.wp i
theorem sd{tt:Dl.Env->Option Bool}{te:Dl.Env->Option D}{r:List (Option D)}{p:Nat->D->Bool}{h:Nat->D->D}:∀ {ds:List D}{k:Nat},
  (∀i d,ds[i]?=some d->tt (some (.int ((k+i:Nat):Int))::some d::r)=some (p (k+i) d)/\(p (k+i) d=true->te (some (.int ((k+i:Nat):Int))::some d::r)=some (h (k+i) d))) ->
  dz (j6 0 1) tt te (none::none::r) (bP k ds)=some (((ds.zipIdx k).filter fun q=>p q.2 q.1).map fun q=>h q.2 q.1)
 | [],k,_=>rfl
 | d::ds,k,hh=>by
  obtain⟨h1,h2⟩:=hh 0 d rfl
  have ih:=sd (ds:=ds) (k:=k+1) fun i x hx=>by
   have:=hh (i+1) x (by simpa using hx)
   rw[show k+1+i=k+(i+1) by omega]
   exact this
  have hg:j6 0 1 (none::none::r) (.tuple [.int ((k:Nat):Int),d])=some (some (.int ((k:Nat):Int))::some d::r):=by
   simp only[j6,isFree,xQ,yY,qG,Option.isNone_none,jP,xH,yV,yW]
  rw[bP,dz,hg,List.zipIdx_cons]
  simp only[Nat.add_zero] at h1 h2
  simp only[zA,h1]
  cases hp:p k d with
  | true=>simp[h2 hp,ih,hp]
  | false=>simp[ih,hp]
theorem Fg{cs:List Nat}{fi:Dl.Env->Option (List D)}{tt:Dl.Env->Option Bool}{te:Dl.Env->Option D}{ρ:Dl.Env}{ds:List D}{p:Nat->D->Bool}{h:Nat->D->D}(hfi:fi ρ=some (bP 0 ds))(hl:ds.length<=1000)
  (hh:∀i d,ds[i]?=some d->tt (some (.int ((i:Nat):Int))::some d::cs.map fun j=>(ρ[j]?).getD none)=some (p i d)/\(p i d=true->te (some (.int ((i:Nat):Int))::some d::cs.map fun j=>(ρ[j]?).getD none)=some (h i d))) :
  au 2 cs fi (j6 0 1) tt te ρ=some ((ds.zipIdx.filter fun q=>p q.2 q.1).map fun q=>h q.2 q.1):=by
 have:=sd (tt:=tt) (te:=te) (r:=cs.map fun j=>(ρ[j]?).getD none) (p:=p) (h:=h) (ds:=ds) (k:=0) (by simpa using hh)
 simp only[au,hfi,zA,fJ,List.replicate,xF,xO,this]
 refine bQ ?_
 rw[zD]
 refine yC (xP _ _) ?_
 rw[List.length_zipIdx]
 omega
theorem mw{α:Type}(f:α->Int):∀ {l m:List α},l.Perm m->(l.Pairwise fun a b=>f a<=f b)->(m.Pairwise fun a b=>f a < f b)->l=m
 | l,[],hp,_,_=>hp.eq_nil
 | [],x::m,hp,_,_=>absurd hp.symm.eq_nil (by simp)
 | y::l,x::m,hp,h1,h2=>by
  rw[List.pairwise_cons] at h1 h2
  have e:y=x:=by
   have hx:x∈y::l:=hp.mem_iff.mpr zE
   rcases List.mem_cons.mp hx with z|hx
   ·exact z.symm
   ·have hy:y∈x::m:=hp.mem_iff.mp zE
    rcases List.mem_cons.mp hy with z|hy
    ·exact z
    ·have:=h1.1 x hx
     have:=h2.1 y hy
     omega
  subst e
  rw[mw f ((List.perm_cons y).mp hp) h1.2 h2.2]
theorem CL{α:Type}(z:Nat->Int)(l:List α)(d:α)(f:α->Int)(h:∀i,i < l.length->z i=f (l.getD i d)):(uy z l d).Pairwise fun a b=>f a<=f b:=by
 unfold uy
 split
 ·rename_i hl
  match l,hl with
  | [],_=>exact List.Pairwise.nil
  | [a],_=>exact vJ _ _
 ·rename_i hl
  obtain⟨hp,hs⟩:=SP.jb (z:=z) (n:=l.length) (by omega)
  rw[jE] at hs ⊢
  refine hs.imp_of_mem fun {i j} hi hj hij=>?_
  have hi':i < l.length:=by have:=hp.mem_iff.mp hi;simpa using this
  have hj':j < l.length:=by have:=hp.mem_iff.mp hj;simpa using this
  rw[<- h i hi',<- h j hj']
  exact hij
def aR(W:List Wy)(i:Nat):Wy:=W.getD i (0,0,0)
theorem m5{W:List Wy}{k:Nat}(hk:k < W.length):W[k]=aR W k:=by simp[aR,hk]
theorem qv{W:List Wy}{k:Nat}(hk:k < W.length):W[k]?=some (aR W k):=by rw[zK hk,m5 hk]
def own(b:Bool)(W:List Wy)(p:Int):List Nat:=(List.range W.length).filter fun i=>decide (bj b (aR W i)=p)
def qp(b:Bool)(W:List Wy)(p o:Int):Nat:=W.findIdx fun w=>decide (bj b w=p)&&decide (cP b w=o)
def j1(b:Bool)(W:List Wy)(p:Int)(L:List Int):List Nat:=L.map (qp b W p)
theorem gT{b:Bool}{W:List Wy}{p:Int}{i:Nat}:i∈own b W p↔i < W.length/\bj b (aR W i)=p:=by simp[own]
theorem map_range{α β:Type}(d:α)(f:α->β)(l:List α):(List.range l.length).map (fun i=>f (l.getD i d))=l.map f:=by
 apply jH
 ·simp
 ·intro i h1 h2
  have:i < l.length:=by simpa using h2
  simp[this]
theorem xn{α:Type}(d:α)(q:α->Bool):∀ (l:List α),((List.range l.length).filter fun i=>q (l.getD i d)).map (fun i=>l.getD i d)=l.filter q:=by
 intro l
 have e:l=(List.range l.length).map fun i=>l.getD i d:=by
  have:=map_range d (fun x=>x) l
  simp at this
  simpa using this.symm
 conv=>rhs;rw[e]
 rw[kG]
 rfl
theorem ye(b:Bool)(W:List Wy)(p:Int):(own b W p).map (fun i=>cP b (aR W i))=QO b W p:=by
 unfold own QO aR
 rw[<- xn (0,0,0) (fun w=>decide (bj b w=p)) W,zM]
 rfl
theorem Ef{W:List Wy}(h:IF W){i j:Nat}(hi:i < W.length)(hj:j < W.length)(h1:(aR W i).1=(aR W j).1)(h2:(aR W i).2.1=(aR W j).2.1):i=j:=by
 have e:∀k,k < W.length->W[k]?=some (aR W k):=fun k hk=>by simp[aR,hk]
 rcases Nat.lt_trichotomy i j with z|z|z
 ·have:=List.pairwise_iff_getElem.mp h i j hi hj z
  have a:=e i hi
  have b:=e j hj
  rw[zK hi] at a
  rw[zK hj] at b
  rw[xD a,xD b] at this
  rcases this with z|z<;>omega
 ·exact z
 ·have:=List.pairwise_iff_getElem.mp h j i hj hi z
  have a:=e i hi
  have b:=e j hj
  rw[zK hi] at a
  rw[zK hj] at b
  rw[xD a,xD b] at this
  rcases this with z|z<;>omega
theorem AD{W:List Wy}(h:IF W){b:Bool}{i j:Nat}(hi:i < W.length)(hj:j < W.length)(h1:bj b (aR W i)=bj b (aR W j))(h2:cP b (aR W i)=cP b (aR W j)):i=j:=by
 cases b
 ·exact Ef h hi hj h1 h2
 ·exact Ef h hi hj h2 h1
theorem CU{W:List Wy}(h:IF W){b:Bool}{p:Int}{i:Nat}(hi:i∈own b W p):qp b W p (cP b (aR W i))=i:=by
 obtain⟨hl,he⟩:=gT.mp hi
 have hw:W[i]=aR W i:=by simp[aR,hl]
 unfold qp
 have hlt:W.findIdx (fun w=>decide (bj b w=p)&&decide (cP b w=cP b (aR W i))) < W.length:=by
  apply kN
  exact⟨W[i],qA _,by rw[hw];simp[he]⟩
 have hq:=List.findIdx_getElem (w:=hlt)
 rw[zF,zJ,zJ] at hq
 rw[m5 hlt] at hq
 exact AD h hlt hl (by rw[hq.1,he]) hq.2
theorem gG{G T:List Pl}{W:List Wy}(h:Wd G T W){b:Bool}{i:Nat}{p:Pl}(e:(bA b G T)[i]?=some p):(j1 b W i p.2).Perm (own b W i):=by
 have h1:=(h.lik e).map (qp b W i)
 rw[<- ye b W i,zM] at h1
 have e2:(own b W i).map (qp b W i ∘ fun j=>cP b (aR W j))=own b W i:=by
  conv=>rhs;rw[<- List.map_id (own b W i)]
  exact yH fun j hj=>CU h.wp hj
 rw[e2] at h1
 exact h1
theorem gO{G T:List Pl}{W:List Wy}(h:Wd G T W){b:Bool}{i:Nat}{p:Pl}(e:(bA b G T)[i]?=some p){o:Int}(ho:o∈p.2):qp b W i o < W.length/\bj b (aR W (qp b W i o))=i/\cP b (aR W (qp b W i o))=o:=by
 have hm:=(h.lik e).mem_iff.mp ho
 rw[<- ye b W i] at hm
 obtain⟨j,hj,rfl⟩:=List.mem_map.mp hm
 rw[CU h.wp hj]
 obtain⟨h1,h2⟩:=gT.mp hj
 exact⟨h1,h2,rfl⟩
def kD(b:Bool)(W:List Wy)(L:List Int)(d:D):Int:=(L.findIdx fun o=>decide (o=cP b (aR W (l0 d).toNat)):Nat)
theorem lU:∀ {L:List Int}{x:Int},x∈L->AV x L=some (L.findIdx fun o=>decide (o=x))
 | [],x,h=>by cases h
 | o::L,x,h=>by
  unfold AV
  by_cases e:o=x
  ·simp[e,vD]
  ·rw[yN e]
   have hx:x∈L:=(List.mem_cons.mp h).resolve_left fun z=>e z.symm
   rw[lU hx]
   simp[vD,e]
theorem Ih{G T:List Pl}{W:List Wy}(h:Wd G T W){b:Bool}{i:Nat}{p:Pl}(e:(bA b G T)[i]?=some p)(z:Nat->Int)(hz:∀j,j < (own b W i).length->z j=kD b W p.2 (((own b W i).map fun n=>PyData.int ((n:Nat):Int)).getD j .none)) :
  uy z ((own b W i).map fun n=>PyData.int ((n:Nat):Int)) .none=(j1 b W i p.2).map fun n=>PyData.int ((n:Nat):Int):=by
 refine mw (kD b W p.2) ((lN _ _ _).trans ((gG h e).symm.map _)) (CL z _ _ _ fun j hj=>hz j (by simpa using hj)) ?_
 have hn:p.2.Nodup:=(h.lik e).nodup_iff.mpr (h.nod b i)
 unfold j1
 rw[zM,jE]
 have key:∀k (hk:k < p.2.length),kD b W p.2 (PyData.int ((qp b W i p.2[k]:Nat):Int))=(k:Nat):=fun k hk=>by
  obtain⟨_,_,e3⟩:=gO h e (qA hk)
  unfold kD
  simp only[l0,yF,e3]
  congr 1
  rw[List.findIdx_eq (by exact hk)]
  refine⟨by simp,fun j hj=>?_⟩
  have:=List.pairwise_iff_getElem.mp hn j k (by omega) hk hj
  simpa using this
 refine List.pairwise_iff_getElem.mpr fun j k hj hk hjk=>?_
 show kD b W p.2 (PyData.int ((qp b W i p.2[j]:Nat):Int)) < kD b W p.2 (PyData.int ((qp b W i p.2[k]:Nat):Int))
 rw[key j hj,key k hk]
 omega
abbrev nD(n:Nat):D:=.int ((n:Nat):Int)
theorem uC{te:Dl.Env->Option D}{ρ:Dl.Env}{h:D->D}:∀ {ds:List D},(∀d∈ds,te (ρ.set 0 (some d))=some (h d))->kj te ρ ds=some (ds.map h)
 | [],_=>rfl
 | d::ds,hh=>by
  unfold kj
  rw[hh d zE,zA,uC fun x hx=>hh x (zC _ hx)]
  rfl
theorem y8(b:Bool)(W:List Wy)(p:Int):(own b W p).length<=W.length:=by
 unfold own
 refine yC (xP _ _) ?_
 rw[zR]
 exact yM _
theorem CV(b:Bool)(W:List Wy)(p:Int):(((W.map aA).zipIdx.filter fun q=>decide (bj b (aR W q.2)=p)).map fun q=>nD q.2)=(own b W p).map nD:=by
 have e:(W.map aA).zipIdx=(List.range W.length).map fun i=>(aA (aR W i),i):=by
  apply jH
  ·simp
  ·intro i h1 h2
   have:i < W.length:=by simpa using h2
   simp[m5 this]
 rw[e,kG,zM]
 rfl
theorem uA{G T:List Pl}{W:List Wy}(h:Wd G T W){b:Bool}{i:Nat}{p:Pl}(e:(bA b G T)[i]?=some p):eT [aE G T W,.int (sI b),nD i]=some (.list ((j1 b W i p.2).map nD)):=by
 have hw:=h.wl
 have ep:av (.tuple ((bA b G T).map br)) (nD i)=some (br p):=mJ e
 have hl:=y8 b W i
 have t3:Dl.aY 3 [0] (f2 av (ae 0) (fC (.int 2))) [.val (aE G T W),.val (.int (sI b)),.val (nD i),.non,.non,.non]=some (.nx [.val (aE G T W),.val (.int (sI b)),.val (nD i),.val (.tuple (W.map aA)),.non,.non]) :=
  dZ (d:=.tuple (W.map aA)) rfl rfl rfl rfl
 have t4:Dl.aY 4 [0,1,2] (f2 av (f2 av (f2 av (ae 0) (ae 1)) (ae 2)) (fC (.int 1))) [.val (aE G T W),.val (.int (sI b)),.val (nD i),.val (.tuple (W.map aA)),.non,.non]=some (.nx [.val (aE G T W),.val (.int (sI b)),.val (nD i),.val (.tuple (W.map aA)),.val (ah p.2),.non]):=by
  refine dZ (d:=ah p.2) ?_ rfl rfl rfl
  rw[iV (a:=br p) (b:=.int 1) ?_ rfl,D9]
  rw[iV (a:=.tuple ((bA b G T).map br)) (b:=nD i) ?_ rfl,ep]
  rw[iV (a:=aE G T W) (b:=.int (sI b)) rfl rfl,eI]
 have c5:au 2 [1,2] (bO (aa (ae 3) af)) (j6 0 1) (fB (f2 ba (f2 av (ae 1) (ae 2)) (ae 3))) (ae 0) [some (aE G T W),some (.int (sI b)),some (nD i),some (.tuple (W.map aA)),some (ah p.2),none]=some ((own b W i).map nD):=by
  rw[Fg (ds:=W.map aA) (p:=fun j _=>decide (bj b (aR W j)=i)) (h:=fun j _=>nD j) rfl (by rw[zD];omega) fun j d hd=>?_,CV]
  rw[zO] at hd
  obtain⟨w,hw',rfl⟩:=Dl.ag hd
  have hj:j < W.length:=(List.getElem?_eq_some_iff.mp hw').1
  rw[qv hj] at hw'
  cases hw'
  refine⟨?_,fun _=>rfl⟩
  show fB (f2 ba (f2 av (ae 1) (ae 2)) (ae 3)) [some (nD j),some (aA (aR W j)),some (.int (sI b)),some (nD i)]=_
  simp only[fB]
  rw[iV (a:=.int (bj b (aR W j))) (b:=nD i) (by rw[iV (a:=aA (aR W j)) (b:=.int (sI b)) rfl rfl,l8]) rfl,cA]
  rfl
 have t5:bu 5 [1,2,3] (au 2 [1,2] (bO (aa (ae 3) af)) (j6 0 1) (fB (f2 ba (f2 av (ae 1) (ae 2)) (ae 3))) (ae 0)) [.val (aE G T W),.val (.int (sI b)),.val (nD i),.val (.tuple (W.map aA)),.val (ah p.2),.non]=some (.nx [.val (aE G T W),.val (.int (sI b)),.val (nD i),.val (.tuple (W.map aA)),.val (ah p.2),.own ((own b W i).map nD)]):=by
  have hh:hand [1,2,3] 0 [Slot.val (aE G T W),.val (.int (sI b)),.val (nD i),.val (.tuple (W.map aA)),.val (ah p.2),.non]=[Slot.val (aE G T W),.val (.int (sI b)),.val (nD i),.val (.tuple (W.map aA)),.val (ah p.2),.non]:=rfl
  simp only[bu,hh,bZ,zI,yU,Slot.frz,c5,zB,yW,yV]
 have hk:kj (f2 jh (ae 3) (f2 av (f2 av (ae 2) (ae 0)) (f2 Dl.cU (fC (.int 1)) (ae 1)))) [none,some (.int (sI b)),some (.tuple (W.map aA)),some (ah p.2)] ((own b W i).map nD)=some (((own b W i).map nD).map fun d=>.int (kD b W p.2 d)):=by
  refine uC fun d hd=>?_
  obtain⟨j,hj,rfl⟩:=List.mem_map.mp hd
  obtain⟨hjl,hje⟩:=gT.mp hj
  show f2 jh (ae 3) (f2 av (f2 av (ae 2) (ae 0)) (f2 Dl.cU (fC (.int 1)) (ae 1))) [some (nD j),some (.int (sI b)),some (.tuple (W.map aA)),some (ah p.2)]=_
  have ew:av (.tuple (W.map aA)) (nD j)=some (aA (aR W j)):=mJ (qv hjl)
  rw[iV (a:=ah p.2) (b:=.int (cP b (aR W j))) rfl ?_]
  ·have hm:cP b (aR W j)∈p.2:=(h.lik e).mem_iff.mpr (by rw[<- ye];exact List.mem_map.mpr ⟨j,hj,rfl⟩)
   simp only[jh,ah,cG,zA,lU hm,zB,kD,l0,yF]
   all_goals first|rfl|(congr 3;funext o;congr)
  ·rw[iV (a:=aA (aR W j)) (b:=.int (1 - sI b)) ?_ ?_,Em]
   ·rw[iV (a:=.tuple (W.map aA)) (b:=nD j) rfl rfl,ew]
   ·rw[iV (a:=.int 1) (b:=.int (sI b)) rfl rfl,rQ]
 have hi:intsOf (((own b W i).map nD).map fun d=>PyData.int (kD b W p.2 d))=some (((own b W i).map nD).map (kD b W p.2)):=by
  rw[show (((own b W i).map nD).map fun d=>PyData.int (kD b W p.2 d))=(((own b W i).map nD).map (kD b W p.2)).map PyData.int by simp only[zM];rfl,cG]
 have t6:aM (bR (oH [1,3,4] (ae 5) (f2 jh (ae 3) (f2 av (f2 av (ae 2) (ae 0)) (f2 Dl.cU (fC (.int 1)) (ae 1)))))) [.val (aE G T W),.val (.int (sI b)),.val (nD i),.val (.tuple (W.map aA)),.val (ah p.2),.own ((own b W i).map nD)]=some (.rt (.list ((j1 b W i p.2).map nD))):=by
  have es:oH [1,3,4] (ae 5) (f2 jh (ae 3) (f2 av (f2 av (ae 2) (ae 0)) (f2 Dl.cU (fC (.int 1)) (ae 1)))) [some (aE G T W),some (.int (sI b)),some (nD i),some (.tuple (W.map aA)),some (ah p.2),some (.list ((own b W i).map nD))]=some ((j1 b W i p.2).map nD):=by
   unfold oH
   show (kj _ [none,some (.int (sI b)),some (.tuple (W.map aA)),some (ah p.2)] ((own b W i).map nD)).bind _=_
   rw[hk,zA,hi,zA,yL (by rw[zD];omega),Ih h e _ fun j hj=>?_]
   simp[hj]
  simp only[aM,aJ,zI,yU,yw,ym,bR,es,zB]
 refine aO ?_
 show lV [.val (aE G T W),.val (.int (sI b)),.val (nD i),.non,.non,.non]=_
 unfold lV
 rw[aq t3,aq t4,aq t5,t6]
local macro_rules|`(tactic| dsimp! [$ts,*])=>`(tactic| simp only[ae,fC,f1,f2,aa,af,ai,aZ,k6,bL,g0,bR,fB,gB,bE,dw,sM,bO,aJ,bZ,yw,ym,Dm,DH,D6,Du,zI,yU,xQ,yY,zA,zB,qG,zL,xK,Nat.reduceAdd,jD,reduceIte,yW,yV,$ts,*])
theorem iQ{S α:Type}{tgt:ar->D->Option ar}{gb:ar->Option Out}(R:S->ar->Prop)(f:α->D)(st:S->α->S):∀ {l:List α}{s:S}{ρ:ar},
  (∀s ρ x,x∈l->R s ρ->∃ρ1 ρ2,tgt ρ (f x)=some ρ1/\gb ρ1=some (.nx ρ2)/\R (st s x) ρ2)->R s ρ->∃ρ',fO tgt gb (l.map f) ρ=some (.nx ρ')/\R (l.foldl st s) ρ'
 | [],s,ρ,_,h=>⟨ρ,rfl,h⟩
 | d::ds,s,ρ,hh,h=>by
  obtain⟨ρ1,ρ2,e1,e2,h2⟩:=hh s ρ d zE h
  obtain⟨ρ',e3,h3⟩:=iQ R f st (fun s ρ x hx=>hh s ρ x (zC _ hx)) h2
  refine⟨ρ',?_,h3⟩
  rw[zI,fO,e1,zA,e2]
  exact e3
theorem gn{α:Type}{tgt:ar->D->Option ar}{gb:ar->Option Out}(R:ar->Prop)(f:α->D)(q:α->Bool)(out:α->D):∀ {l:List α}{ρ:ar},
  (∀ρ x,x∈l->R ρ->∃ρ1,tgt ρ (f x)=some ρ1/\(q x=true->gb ρ1=some (.rt (out x)))/\(q x=false->∃ρ2,gb ρ1=some (.nx ρ2)/\R ρ2))->R ρ ->
  (∀x,l.find? q=some x->fO tgt gb (l.map f) ρ=some (.rt (out x)))/\(l.find? q=none->∃ρ',fO tgt gb (l.map f) ρ=some (.nx ρ')/\R ρ')
 | [],ρ,_,h=>⟨fun x hx=>(by cases hx),fun _=>⟨ρ,rfl,h⟩⟩
 | x::l,ρ,hh,h=>by
  obtain⟨ρ1,e1,e2,e3⟩:=hh ρ x zE h
  rw[zI,fO,e1,zA]
  cases hq:q x with
  | true =>
   rw[vR (by simpa using hq),e2 hq]
   exact⟨fun y hy=>(by cases hy;rfl),fun hn=>(by cases hn)⟩
  | false =>
   obtain⟨ρ2,e4,h2⟩:=e3 hq
   rw[kM (by simp[hq]),e4]
   exact gn R f q out (fun ρ x hx=>hh ρ x (zC _ hx)) h2
theorem cF{fz:List Nat}{fi:Dl.Env->Option (List D)}{tgt:ar->D->Option ar}{gb:ar->Option Out}{ρ ρ1:ar}{ds:List D}{o:Option Out}(h:fO tgt gb ds ρ1=o)(hi:fi (bZ ρ1)=some ds)(hh:hand fz 0 ρ=ρ1):ee fz fi tgt gb ρ=o:=by
 simp only[ee,hh,hi,zA,h]
theorem wz{i:Nat}{fz:List Nat}{f:Dl.Env->Option (List D)}{ρ ρ':ar}{ds:List D}(hh:hand fz 0 ρ=ρ')(hf:f (bZ ρ')=some ds):bu i fz f ρ=some (.nx (ρ'.set i (.own ds))):=by
 simp only[bu,hh,hf,zB]
theorem uF{i:Nat}{fz:List Nat}{f:Dl.Env->Option (List D)}{ρ:ar}{ds:List D}(hf:f (bZ ρ)=some ds)(hh:hand fz 0 ρ=ρ):bu i fz f ρ=some (.nx (ρ.set i (.own ds))):=wz hh hf
theorem CH{i:Nat}{fz:List Nat}{f:Dl.Env->Option D}{ρ ρ':ar}(hh:hand fz 0 ρ=ρ'){d:D}(hA:f (aJ ρ)=some d)(hF:f (bZ ρ')=some d)(hs:Dl.pV d=false)(hr:iW d=false\/ρ'=ρ:=by first|exact .inr rfl|exact .inl rfl):Dl.aY i fz f ρ=some (.nx (ρ'.set i (.val d))):=by
 rcases hr with hr|hr
 ·simp only[Dl.aY,hA,zA,hs,yO,qP,hh,hF,zB,hr]
 ·subst hr
  simp only[Dl.aY,hA,zA,hs,yO,qP,hh,hF,zB,ite_self]
theorem call_of{n:Nat}{m:List D->Option D}{fs:Dl.Env->Option (List D)}{ρ:Dl.Env}{ds:List D}{d:D}(h:m ds=some d)(hf:fs ρ=some ds)(hn:ds.length=n):ai n m fs ρ=some d:=by
 unfold ai
 rw[hf,zA,yL hn,h]
theorem cons_of{f:Dl.Env->Option D}{fs:Dl.Env->Option (List D)}{ρ:Dl.Env}{d:D}{ds:List D}(h:f ρ=some d)(hs:fs ρ=some ds):aa f fs ρ=some (d::ds):=by
 unfold aa
 rw[h,hs]
 rfl
theorem aV{f:Dl.Env->Option D}{ρ:ar}{d:D}(hf:f (aJ ρ)=some d):aM f ρ=some (.rt d):=by
 simp only[aM,hf,zB]
theorem dq{f:Dl.Env->Option D}{ρ:ar}{d:D}(hf:f (aJ ρ)=some d):cQ f ρ=some (.nx ρ):=by
 simp only[cQ,hf,zB]
theorem aH{t:Dl.Env->Option Bool}{g:ar->Option Out}{ρ:ar}(h:t (aJ ρ)=some false):dW t g du ρ=some (.nx ρ):=by
 simp[dW,h,du]
theorem bB{t:Dl.Env->Option Bool}{g g2:ar->Option Out}{ρ:ar}(h:t (aJ ρ)=some true):dW t g g2 ρ=g ρ:=by
 simp[dW,h]
theorem dk{g1 g2:ar->Option Out}{ρ:ar}{d:D}(h:g1 ρ=some (.rt d)):ay g1 g2 ρ=some (.rt d):=by
 simp only[ay,h,zA]
theorem uT{i:Nat}{fz:List Nat}{fk f:Dl.Env->Option D}{ρ:ar}{d:D}{k:Nat}{ds:List D}(hf:f (aJ ρ)=some d)(hs:Dl.pV d=true)(hk:fk (aJ ρ)=some (nD k))(ho:ρ[i]?=some (.own ds))(hl:k < ds.length):wq i fz fk f ρ=some (.nx (ρ.set i (.own (ds.set k d)))):=by
 have hx:JO ds.length ((k:Nat):Int)=some k:=by
  unfold JO
  rw[yL (Int.natCast_nonneg k),yL (by omega)]
  simp
 simp only[wq,pF,hf,zA,hs,xH,hk,sS,ho,hx,zB]
def lp{S:Type}(cont:S->Bool)(st:S->S):Nat->S->S
 | 0,s=>s
 | n+1,s=>if cont s=true then lp cont st n (st s) else s
theorem rF{off:List Int}{i:Nat}(h:i < off.length):av (ah off) (nD i)=some (.int (off.getD i 0)):=mJ (f:=PyData.int) (l:=off) (by simp[h])
theorem HL{off:List Int}{i:Nat}(h:i < off.length):av (.list (off.map PyData.int)) (nD i)=some (.int (off.getD i 0)):=xj (f:=PyData.int) (l:=off) (by simp[h])
theorem o6{W:List Wy}{i:Nat}(h:i < W.length):av (.tuple (W.map aA)) (nD i)=some (aA (aR W i)):=mJ (qv h)
theorem PF(a b c:Int):sW [.int a,.int b,.int c]=some (.int (min (min a b) c)):=rfl
theorem Dv(l:List Int)(k:Nat)(v:Int):(l.map PyData.int).set k (.int v)=(l.set k v).map PyData.int:=by rw[List.map_set]
theorem Ll(l:List Int):bV [.list (l.map PyData.int)]=some (ah l):=rfl
theorem Jx(l:List D):bV [.list l]=some (.tuple l):=rfl
theorem K0(l:List D):aP [.tuple l]=some (nD l.length):=rfl
theorem yz(l:List Int):aP [ah l]=some (nD l.length):=by
 show some (PyData.int ((l.map PyData.int).length:Nat))=_
 rw[zD]
theorem uW{n:Nat}(h:n<=1000):mZ [nD n]=some ((List.range n).map nD):=by
 rw[Ax (nC h),yF]
theorem gF{fs:Dl.Env->Option (List D)}{ρ:Dl.Env}{n:Nat}(h:fs ρ=some [nD n])(hn:n<=1000):aK fs ρ=some ((List.range n).map nD):=by
 unfold aK
 rw[h,zA,uW hn]
theorem sub_int(i j:Int):Dl.cU (.int i) (.int j)=some (.int (i - j)):=rQ i j
theorem zeros{fi:Dl.Env->Option (List D)}{ρ:Dl.Env}{ds:List D}(hfi:fi ρ=some ds)(hl:ds.length<=1000):au 1 [] fi (fG 0) (fun _=>some true) (fC (.int 0)) ρ=some ((List.replicate ds.length (0:Int)).map PyData.int):=by
 rw[cL (h:=fun _=>.int 0) hfi (by omega) fun d hd=>rfl]
 simp[List.map_const']
theorem zm{ds:List D}{k:Int}(h1:Aa k=true)(h2:ds.length * k.toNat<=sizeLine):Al ds (.int k)=some (List.replicate k.toNat ds).flatten:=by
 simp only[Al]
 rw[yL (And.intro h1 h2)]
theorem Hm:∀n,(List.replicate n [PyData.int 0]).flatten=(List.replicate n (0:Int)).map PyData.int
 | 0=>rfl
 | n+1=>by rw[xE,qM,Hm n,xE];rfl
theorem EX{n:Nat}(hl:n<=1000):Al [.int 0] (nD n)=some ((List.replicate n (0:Int)).map PyData.int):=by
 rw[zm (nC hl),yF,Hm]
 rw[yF,xC,Nat.one_mul]
 exact yC hl (by decide)
theorem RN(ρ:Dl.Env):b0 (aa (fC (.int 0)) af) ρ=some [.int 0]:=by
 simp only[b0,aa,fC,af,zA,zB]
 exact bQ (by simp)
theorem Oy{f:Dl.Env->Option D}{ρ:Dl.Env}{n:Nat}(hf:f ρ=some (nD n))(hl:n<=1000):fR (b0 (aa (fC (.int 0)) af)) f ρ=some ((List.replicate n (0:Int)).map PyData.int):=by
 have e:=EX hl
 unfold fR
 rw[RN,zA,hf,zA,e]
def cV(W:List Wy)(off:List Int)(left:Int)(i:Nat):Int:=min (min (off.getD i 0) (aR W i).2.2) left
def zh(W:List Wy)(off:List Int)(s:Int×List Int)(i:Nat):Int×List Int:=(s.1 - cV W off s.1 i,s.2.set i (cV W off s.1 i))
def OZ(W:List Wy)(off:List Int)(amt:Int)(is:List Nat):List Int:=(is.foldl (zh W off) (amt,List.replicate W.length 0)).2
theorem HJ{G T:List Pl}{W:List Wy}{b:Bool}{i:Nat}{p:Pl}(e:(bA b G T)[i]?=some p):av (.tuple ((bA b G T).map br)) (nD i)=some (br p):=mJ e
theorem NM{G T:List Pl}{W:List Wy}{off:List Int}{d1 d2:D}{s:Int×List Int}{i:Nat}(hi:i < W.length)(ho:off.length=W.length)(hs:s.2.length=W.length) :
  (ay (wq 4 [0,3,5,6] (ae 6) (aZ sW (aa (f2 av (ae 3) (ae 6)) (aa (f2 av (f2 av (f2 av (ae 0) (fC (.int 2))) (ae 6)) (fC (.int 2))) (aa (ae 5) af))))) (Dl.aY 5 [4,5,6] (f2 Dl.cU (ae 5) (f2 av (ae 4) (ae 6))))) [.val (aE G T W),.val d1,.val d2,.val (ah off),.own (s.2.map PyData.int),.val (.int s.1),.val (nD i)]=some (.nx [.val (aE G T W),.val d1,.val d2,.val (ah off),.own ((zh W off s i).2.map PyData.int),.val (.int (zh W off s i).1),.val (nD i)]):=by
 have hv:(aZ sW (aa (f2 av (ae 3) (ae 6)) (aa (f2 av (f2 av (f2 av (ae 0) (fC (.int 2))) (ae 6)) (fC (.int 2))) (aa (ae 5) af)))) (aJ [.val (aE G T W),.val d1,.val d2,.val (ah off),.own (s.2.map PyData.int),.val (.int s.1),.val (nD i)])=some (.int (cV W off s.1 i)):=by
  dsimp! [rF (show i < off.length by omega),g8,o6 hi,xi,PF,cV]
 have t1:=uT (i:=4) (fz:=[0,3,5,6]) (fk:=ae 6) (k:=i) (ds:=s.2.map PyData.int) hv rfl rfl rfl (by rw[zD];omega)
 rw[Dv] at t1
 rw[aq t1]
 have hl:i < (s.2.set i (cV W off s.1 i)).length:=by rw[yB];omega
 have hg:(s.2.set i (cV W off s.1 i)).getD i 0=cV W off s.1 i:=by
  have:i < s.2.length:=by omega
  simp[this]
 have hv2:(f2 Dl.cU (ae 5) (f2 av (ae 4) (ae 6))) (aJ ([.val (aE G T W),.val d1,.val d2,.val (ah off),.own (s.2.map PyData.int),.val (.int s.1),.val (nD i)].set 4 (.own ((s.2.set i (cV W off s.1 i)).map PyData.int))))=some (.int (zh W off s i).1):=by
  dsimp! [HL hl,sub_int,hg,zh]
 rw[di hv2 rfl]
 rfl
theorem AJ{G T:List Pl}{W:List Wy}{off:List Int}(h:Wd G T W)(ho:off.length=W.length){b:Bool}{i:Nat}{p:Pl}(e:(bA b G T)[i]?=some p) :
  gZ [aE G T W,.int (sI b),nD i,ah off]=some (ah (OZ W off p.1 (j1 b W i p.2))):=by
 have hw:W.length<=16:=h.wl
 have t4:bu 4 [0] (au 1 [] (bL (f2 av (ae 0) (fC (.int 2)))) (fG 0) (fun _=>some true) (fC (.int 0))) [.val (aE G T W),.val (.int (sI b)),.val (nD i),.val (ah off),.non,.non,.non]=some (.nx [.val (aE G T W),.val (.int (sI b)),.val (nD i),.val (ah off),.own ((List.replicate W.length (0:Int)).map PyData.int),.non,.non]):=by
  have z:=zeros (fi:=bL (f2 av (ae 0) (fC (.int 2)))) (ρ:=bZ [.val (aE G T W),.val (.int (sI b)),.val (nD i),.val (ah off),.non,.non,.non]) (ds:=W.map aA) rfl (by rw[zD];omega)
  rw[zD] at z
  exact wz rfl z
 have t5:Dl.aY 5 [0,1,2] (f2 av (f2 av (f2 av (ae 0) (ae 1)) (ae 2)) (fC (.int 0))) [.val (aE G T W),.val (.int (sI b)),.val (nD i),.val (ah off),.own ((List.replicate W.length (0:Int)).map PyData.int),.non,.non]=some (.nx [.val (aE G T W),.val (.int (sI b)),.val (nD i),.val (ah off),.own ((List.replicate W.length (0:Int)).map PyData.int),.val (.int p.1),.non]) :=
  di (d:=.int p.1) (by dsimp! [eI,HJ (W:=W) e,Dc]) rfl
 obtain⟨ρ',e3,hs',x,rfl⟩:=iQ (tgt:=qt 6) (gb:=(ay (wq 4 [0,3,5,6] (ae 6) (aZ sW (aa (f2 av (ae 3) (ae 6)) (aa (f2 av (f2 av (f2 av (ae 0) (fC (.int 2))) (ae 6)) (fC (.int 2))) (aa (ae 5) af))))) (Dl.aY 5 [4,5,6] (f2 Dl.cU (ae 5) (f2 av (ae 4) (ae 6)))))) (R:=fun s ρ=>s.2.length=W.length/\∃x,ρ=[.val (aE G T W),.val (.int (sI b)),.val (nD i),.val (ah off),.own (s.2.map PyData.int),.val (.int s.1),x]) nD (zh W off)
  (l:=j1 b W i p.2) (s:=(p.1,List.replicate W.length (0:Int))) (ρ:=[.val (aE G T W),.val (.int (sI b)),.val (nD i),.val (ah off),.own ((List.replicate W.length (0:Int)).map PyData.int),.val (.int p.1),.non])
  (fun s ρ j hj ⟨hs,x,hρ⟩=>by
   subst hρ
   obtain⟨hjl,_⟩:=gT.mp ((gG h e).mem_iff.mp hj)
   refine⟨_,_,rfl,NM hjl ho hs,?_,.val (nD j),rfl⟩
   simp[zh,hs]) ⟨by simp,_,rfl⟩
 refine aO ?_
 show gS [.val (aE G T W),.val (.int (sI b)),.val (nD i),.val (ah off),.non,.non,.non]=_
 unfold gS
 rw[aq t4,aq t5,aq (cF e3 (by dsimp! [uA h e]) rfl)]
 exact aV rfl
theorem u9{S:Type}(q:Nat->Bool)(f:S->Nat->S)(j:Nat)(hq:∀k,q k=true↔k=j):∀ (n:Nat) (s:S),(List.range n).foldl (fun s k=>if q k=true then f s k else s) s=if j < n then f s j else s
 | 0,s=>by simp
 | n+1,s=>by
  rw[List.range_succ,List.foldl_append,u9 q f j hq n s,yI,List.foldl_nil]
  by_cases e:n=j
  ·subst e
   rw[yL ((hq n).mpr rfl),yN (by omega),yL (by omega)]
  ·have:¬ q n=true:=fun z=>e ((hq n).mp z)
   rw[yN this]
   by_cases hj:j < n
   ·rw[yL hj,yL (by omega)]
   ·rw[yN hj,yN (by omega)]
def qW(b:Bool)(W:List Wy)(i:Nat)(o:Int)(k:Nat):Bool:=decide (bj b (aR W k)=i)&&decide (cP b (aR W k)=o)
def QI:ar->Option Out:=dW (dw (fB (f2 ba (f2 av (f2 av (f2 av (ae 0) (fC (.int 2))) (ae 7)) (ae 1)) (ae 2))) (fB (f2 ba (f2 av (f2 av (f2 av (ae 0) (fC (.int 2))) (ae 7)) (f2 Dl.cU (fC (.int 1)) (ae 1))) (ae 6)))) (ay (wq 4 [0,3,5,7] (ae 7) (aZ sW (aa (ae 5) (aa (f2 av (ae 3) (ae 7)) (aa (f2 av (f2 av (f2 av (ae 0) (fC (.int 2))) (ae 7)) (fC (.int 2))) af))))) (Dl.aY 5 [4,5,7] (f2 Dl.cU (ae 5) (f2 av (ae 4) (ae 7))))) du
theorem LQ{G T:List Pl}{W:List Wy}{off:List Int}{b:Bool}{i:Nat}{o:Int}{s:Int×List Int}{k:Nat}(hk:k < W.length)(ho:off.length=W.length)(hs:s.2.length=W.length) :
  QI [.val (aE G T W),.val (.int (sI b)),.val (nD i),.val (ah off),.own (s.2.map PyData.int),.val (.int s.1),.val (.int o),.val (nD k)]=some (.nx [.val (aE G T W),.val (.int (sI b)),.val (nD i),.val (ah off),.own ((if qW b W i o k=true then zh W off s k else s).2.map PyData.int),.val (.int (if qW b W i o k=true then zh W off s k else s).1),.val (.int o),.val (nD k)]):=by
 have hc:(dw (fB (f2 ba (f2 av (f2 av (f2 av (ae 0) (fC (.int 2))) (ae 7)) (ae 1)) (ae 2))) (fB (f2 ba (f2 av (f2 av (f2 av (ae 0) (fC (.int 2))) (ae 7)) (f2 Dl.cU (fC (.int 1)) (ae 1))) (ae 6)))) (aJ [.val (aE G T W),.val (.int (sI b)),.val (nD i),.val (ah off),.own (s.2.map PyData.int),.val (.int s.1),.val (.int o),.val (nD k)])=some (qW b W i o k):=by
  dsimp! [g8,o6 hk,l8,sub_int,Em,cA,qW]
  cases decide (bj b (aR W k)=i)<;>rfl
 unfold QI
 cases hq:qW b W i o k with
 | false =>
  rw[hq] at hc
  rw[aH hc]
  rfl
 | true =>
  rw[hq] at hc
  rw[bB hc]
  simp only[xH]
  have hv:(aZ sW (aa (ae 5) (aa (f2 av (ae 3) (ae 7)) (aa (f2 av (f2 av (f2 av (ae 0) (fC (.int 2))) (ae 7)) (fC (.int 2))) af)))) (aJ [.val (aE G T W),.val (.int (sI b)),.val (nD i),.val (ah off),.own (s.2.map PyData.int),.val (.int s.1),.val (.int o),.val (nD k)])=some (.int (cV W off s.1 k)):=by
   dsimp! [rF (show k < off.length by omega),g8,o6 hk,xi,PF,cV]
   congr 2
   omega
  have t1:=uT (i:=4) (fz:=[0,3,5,7]) (fk:=ae 7) (k:=k) (ds:=s.2.map PyData.int) hv rfl rfl rfl (by rw[zD];omega)
  rw[Dv] at t1
  rw[aq t1]
  have hl:k < (s.2.set k (cV W off s.1 k)).length:=by rw[yB];omega
  have hg:(s.2.set k (cV W off s.1 k)).getD k 0=cV W off s.1 k:=by
   have:k < s.2.length:=by omega
   simp[this]
  have hv2:(f2 Dl.cU (ae 5) (f2 av (ae 4) (ae 7))) (aJ ([.val (aE G T W),.val (.int (sI b)),.val (nD i),.val (ah off),.own (s.2.map PyData.int),.val (.int s.1),.val (.int o),.val (nD k)].set 4 (.own ((s.2.set k (cV W off s.1 k)).map PyData.int))))=some (.int (zh W off s k).1):=by
   dsimp! [HL hl,sub_int,hg,zh]
  rw[di hv2 rfl]
  rfl
theorem NP{G T:List Pl}{W:List Wy}(h:Wd G T W){b:Bool}{i:Nat}{p:Pl}(e:(bA b G T)[i]?=some p){o:Int}(ho:o∈p.2){k:Nat}(hk:k < W.length):qW b W i o k=true↔k=qp b W i o:=by
 obtain⟨h1,h2,h3⟩:=gO h e ho
 unfold qW
 rw[zF,zJ,zJ]
 constructor
 ·intro ⟨a,c⟩
  exact AD h.wp hk h1 (by rw[a,h2]) (by rw[c,h3])
 ·rintro rfl
  exact⟨h2,h3⟩
theorem pG{S α:Type}{f g:S->α->S}:∀ {l:List α}{s:S},(∀s x,x∈l->f s x=g s x)->l.foldl f s=l.foldl g s
 | [],s,_=>rfl
 | x::l,s,h=>by
  rw[yI,yI,h s x zE]
  exact pG fun s y hy=>h s y (zC _ hy)
theorem HG{G T:List Pl}{W:List Wy}(h:Wd G T W){off:List Int}{b:Bool}{i:Nat}{p:Pl}(e:(bA b G T)[i]?=some p){o:Int}(ho:o∈p.2)(s:Int×List Int) :
  (List.range W.length).foldl (fun s k=>if qW b W i o k=true then zh W off s k else s) s=zh W off s (qp b W i o):=by
 have h1:=(gO h e ho).1
 rw[pG (g:=fun s k=>if decide (k=qp b W i o)=true then zh W off s k else s) fun s k hk=>by
  have:=NP h e ho (List.mem_range.mp hk)
  by_cases hq:qW b W i o k=true
  ·rw[yL hq,yL (by simpa using this.mp hq)]
  ·rw[yN hq,yN (by simpa using fun z=>hq (this.mpr z))]]
 rw[u9 (fun k=>decide (k=qp b W i o)) (zh W off) (qp b W i o) (fun k=>by simp),yL h1]
theorem Qd{G T:List Pl}{W:List Wy}{off:List Int}{d1 d2:D}(ho:off.length=W.length)(hw:W.length<=16):bu 4 [3] (fR (b0 (aa (fC (.int 0)) af)) (aZ aP (aa (ae 3) af))) [.val (aE G T W),.val d1,.val d2,.val (ah off),.non,.non,.non,.non]=some (.nx [.val (aE G T W),.val d1,.val d2,.val (ah off),.own ((List.replicate W.length (0:Int)).map PyData.int),.non,.non,.non]):=by
 rw[uF (Oy (n:=W.length) ?_ (by omega)) rfl]
 ·rfl
 ·dsimp! [yz,ho]
theorem OP{n:Nat}{off:List Int}{r:Dl.Env}{a b c:Option D}(ho:off.length=n)(hw:n<=16):(aK (aa (aZ aP (aa (ae 3) af)) af)) (a::b::c::some (ah off)::r)=some ((List.range n).map nD):=by
 have e:(aa (aZ aP (aa (ae 3) af)) af) (a::b::c::some (ah off)::r)=some [nD n]:=by
  dsimp! [yz,ho]
 unfold aK
 rw[e,zA,uW (show n<=1000 by omega)]
theorem y4{G T:List Pl}{W:List Wy}{off:List Int}(h:Wd G T W)(ho:off.length=W.length){b:Bool}{i:Nat}{p:Pl}(e:(bA b G T)[i]?=some p) :
  dE [aE G T W,.int (sI b),nD i,ah off]=some (ah (OZ W off p.1 (j1 b W i p.2))):=by
 have hw:W.length<=16:=h.wl
 have t4:=Qd (G:=G) (T:=T) (d1:=.int (sI b)) (d2:=nD i) ho hw
 have t5:Dl.aY 5 [0,1,2] (f2 av (f2 av (f2 av (ae 0) (ae 1)) (ae 2)) (fC (.int 0))) [.val (aE G T W),.val (.int (sI b)),.val (nD i),.val (ah off),.own ((List.replicate W.length (0:Int)).map PyData.int),.non,.non,.non]=some (.nx [.val (aE G T W),.val (.int (sI b)),.val (nD i),.val (ah off),.own ((List.replicate W.length (0:Int)).map PyData.int),.val (.int p.1),.non,.non]) :=
  di (d:=.int p.1) (by dsimp! [eI,HJ (W:=W) e,Dc]) rfl
 obtain⟨ρ',e3,hs',x,y,rfl⟩:=iQ (tgt:=qt 6) (gb:=ee [3] (aK (aa (aZ aP (aa (ae 3) af)) af)) (qt 7) QI) (R:=fun s ρ=>s.2.length=W.length/\∃x y,ρ=[.val (aE G T W),.val (.int (sI b)),.val (nD i),.val (ah off),.own (s.2.map PyData.int),.val (.int s.1),x,y]) PyData.int (fun s o=>zh W off s (qp b W i o))
  (l:=p.2) (s:=(p.1,List.replicate W.length (0:Int))) (ρ:=[.val (aE G T W),.val (.int (sI b)),.val (nD i),.val (ah off),.own ((List.replicate W.length (0:Int)).map PyData.int),.val (.int p.1),.non,.non])
  (fun s ρ o hm ⟨hs,x,y,hρ⟩=>by
   subst hρ
   obtain⟨ρ2,e2,hs2,y2,rfl⟩:=iQ (tgt:=qt 7) (gb:=QI) (R:=fun s ρ=>s.2.length=W.length/\∃y,ρ=[.val (aE G T W),.val (.int (sI b)),.val (nD i),.val (ah off),.own (s.2.map PyData.int),.val (.int s.1),.val (.int o),y]) nD (fun s k=>if qW b W i o k=true then zh W off s k else s)
    (l:=List.range W.length) (s:=s) (ρ:=[.val (aE G T W),.val (.int (sI b)),.val (nD i),.val (ah off),.own (s.2.map PyData.int),.val (.int s.1),.val (.int o),y])
    (fun s ρ k hk ⟨hs,y,hρ⟩=>by
     subst hρ
     refine⟨_,_,rfl,LQ (List.mem_range.mp hk) ho hs,?_,.val (nD k),rfl⟩
     split
     ·simp[zh,hs]
     ·exact hs) ⟨hs,_,rfl⟩
   rw[HG h e hm] at e2 hs2
   exact⟨_,_,rfl,cF e2 (OP ho hw) rfl,hs2,_,_,rfl⟩) ⟨by simp,_,_,rfl⟩
 refine aO ?_
 show fg [.val (aE G T W),.val (.int (sI b)),.val (nD i),.val (ah off),.non,.non,.non,.non]=_
 unfold fg
 rw[aq t4,aq t5]
 refine (aq (cF e3 (by dsimp! [eI,HJ (W:=W) e,D9,ah]) rfl)).trans ?_
 rw[aV (d:=ah (OZ W off p.1 (j1 b W i p.2)))]
 dsimp! [Ll]
 rw[OZ,j1,List.foldl_map]
def gK(b:Bool)(G T:List Pl)(i:Nat):Pl:=(bA b G T).getD i (0,[])
def SF(b:Bool)(G T:List Pl)(W:List Wy)(off s:List Int)(i:Nat):List Int:=List.zipWith (·+·) s (OZ W off (gK b G T i).1 (j1 b W i (gK b G T i).2))
def NQ(b:Bool)(G T:List Pl)(W:List Wy)(off:List Int):List Int:=(List.range (bA b G T).length).foldl (SF b G T W off) (List.replicate W.length 0)
theorem GP{b:Bool}{G T:List Pl}{i:Nat}(h:i < (bA b G T).length):(bA b G T)[i]?=some (gK b G T i):=by simp[gK,h]
theorem Wd.pl{G T:List Pl}{W:List Wy}(h:Wd G T W)(b:Bool):(bA b G T).length<=4:=by
 cases b
 ·exact h.g4
 ·exact h.t4
theorem Kg{xs ys:List D}(h:(xs++ys).length<=4000):Dl.aI (.tuple xs) (.tuple ys)=some (.tuple (xs++ys)):=by
 simp only[Dl.aI,za,Ke,bQ h,zB,Option.none_or,Option.some_or]
theorem GT{f:Dl.Env->Option D}{ρ:Dl.Env}{d:D}(h:f ρ=some d):aN (aa f af) ρ=some (.tuple [d]):=by
 simp only[aN,aa,af,h,zA,zB]
 rw[bQ (by simp),zB]
theorem ax{g:D->D->Option D}{fa fb:Dl.Env->Option D}{ρ:Dl.Env}{a b c:D}(h:g a b=some c)(ha:fa ρ=some a)(hb:fb ρ=some b):f2 g fa fb ρ=some c:=by rw[iV ha hb,h]
def OJ(W:List Wy):List Int:=W.map fun w=>w.2.2
def Sb(G T:List Pl)(W:List Wy)(c:List Int):List Int:=NQ true G T W (NQ false G T W c)
def qR(G T:List Pl)(W:List Wy)(c:List Int)(k:Nat):Bool:=decide ((Sb G T W c).getD k 0 < (NQ false G T W c).getD k 0)
def R3(G T:List Pl)(W:List Wy)(c:List Int):Option (Nat×Int):=((List.range W.length).find? (qR G T W c)).map fun k=>(k,(Sb G T W c).getD k 0)
theorem enum_zip:∀ (ds:List D) (k:Nat),bP k ds=(ds.zipIdx k).map fun q=>.tuple [nD q.2,q.1]
 | [],k=>rfl
 | d::ds,k=>by rw[bP,enum_zip ds (k+1),List.zipIdx_cons];rfl
def Off(off:List Int):Prop:=∀i,0<=off.getD i 0
def Si(W:List Wy):Prop:=∀i,0<=(aR W i).2.2
theorem Wd.lim{G T:List Pl}{W:List Wy}(h:Wd G T W):Si W:=fun i=>by
 by_cases hi:i < W.length
 ·have:=h.wr (aR W i) (by rw[<- m5 hi];exact qA hi)
  omega
 ·simp only[aR,zG]
  rw[jM (by omega)]
  simp
theorem Wd.amt{G T:List Pl}{W:List Wy}(h:Wd G T W)(b:Bool)(i:Nat):0<=(gK b G T i).1:=by
 unfold gK
 rw[zG]
 cases e:(bA b G T)[i]? with
 | none=>simp
 | some p =>
  have hm:=qB e
  cases b
  ·exact (h.ga p hm).1
  ·exact (h.ta p hm).1
def R6(c:List Int):Nat:=(c.map Int.toNat).sum
theorem Cw(a:List Int):SeqAt.shaped (ah a)=true :=
 (iu.tup (b:=a.length) (k:=0) (by simp) fun x hx=>by obtain⟨i,_,rfl⟩:=List.mem_map.mp hx;exact ja _).shaped (by decide)
theorem Bo(a b:List Int):PyData.eqv (ah a) (ah b)=decide (a=b):=by
 rw[ah,ah,PyData.eqv,sN]
theorem bo{f:Dl.Env->Option D}{ρ:Dl.Env}{b:Bool}(h:f ρ=some (.bool b)):fB f ρ=some b:=by
 simp only[fB,h,zA,gB]
theorem cy{t:Dl.Env->Option Bool}{ρ:Dl.Env}{b:Bool}(h:t ρ=some b):bE t ρ=some (!b):=by
 simp only[bE,h,zB]
theorem M6{t u:Dl.Env->Option Bool}{ρ:Dl.Env}(h:t ρ=some false)(h2:u ρ=some false):sM t u ρ=some false:=by
 simp only[sM,h,zA,h2]
theorem IQ(a b:List Int):dv (ah a) (ah b)=some (.bool (!decide (a=b))):=by
 simp only[dv,Kh,Cw,jP,xH,Bo,zB]
theorem E6(a:List Int):dv (ah a) (ah a)=some (.bool false):=by rw[IQ];simp
theorem bY{i:Nat}{fz:List Nat}{f:Dl.Env->Option D}{ρ:ar}{d:D}(hA:f (aJ ρ)=some d)(hF:f (bZ ρ)=some d)(hh:hand fz 0 ρ=ρ):Dl.aY i fz f ρ=some (.nx (ρ.set i (.val d))):=by
 cases hs:Dl.pV d with
 | true=>exact di hA hs
 | false=>exact CH hh hA hF hs (.inr rfl)
theorem ik{G T:List Pl}{W:List Wy}(h:Wd G T W):bp [aE G T W]=some .none:=by
 have hw:bh [aE G T W]=some (.bool true):=by rw[mO h.fit (by decide),h.wok]
 have hc:(bE (fB (ai 1 bh (aa (ae 0) af)))) (aJ [.val (aE G T W)])=some false:=cy (bo (call_of hw rfl rfl))
 have:dD [.val (aE G T W)]=some (.nx [.val (aE G T W)]):=by
  unfold dD
  rw[aH hc]
 show (dD [.val (aE G T W)]).map _=_
 rw[this]
 rfl
theorem uh{a b:Int}{i:Int}(h1:a<=i)(h2:i<=b):cO [.int i,.int a,.int b]=some .none:=by
 have hw:aS [.int i,.int a,.int b]=some (.bool true):=by rw[dQ rfl];simp[whole,h1,h2]
 have hc:(bE (fB (ai 3 aS (aa (ae 0) (aa (ae 1) (aa (ae 2) af)))))) (aJ [.val (.int i),.val (.int a),.val (.int b)])=some false:=cy (bo (call_of hw rfl rfl))
 have:cm [.val (.int i),.val (.int a),.val (.int b)]=some (.nx [.val (.int i),.val (.int a),.val (.int b)]):=by
  unfold cm
  rw[aH hc]
 show (cm [.val (.int i),.val (.int a),.val (.int b)]).map _=_
 rw[this]
 rfl
theorem cX{n i:Int}(h1:0<=i)(h2:i<=n - 1):aB [.int i,.int n]=some .none:=by
 have:bX [.val (.int i),.val (.int n)]=some (.nx [.val (.int i),.val (.int n)]):=by
  unfold bX
  exact dq (call_of (uh h1 h2) (cons_of rfl (cons_of rfl (cons_of (ax (sub_int n 1) rfl rfl) rfl))) rfl)
 show (bX [.val (.int i),.val (.int n)]).map _=_
 rw[this]
 rfl
theorem nH(b:Bool):dg [.int (sI b)]=some .none:=by
 have:eG [.val (.int (sI b))]=some (.nx [.val (.int (sI b))]):=by
  unfold eG
  exact dq (call_of (cX (n:=2) (i:=sI b) (by cases b<;>decide) (by cases b<;>decide)) rfl rfl)
 show (eG [.val (.int (sI b))]).map _=_
 rw[this]
 rfl
abbrev Sp:=List (Nat×Int)×List Int
def SA(G T:List Pl)(W:List Wy)(s:Sp):Bool:=(R3 G T W s.2).isSome
def spS(G T:List Pl)(W:List Wy)(s:Sp):Sp:=match R3 G T W s.2 with|some p=>(s.1++[p],s.2.set p.1 p.2)|none=>s
def low(c:List Int)(p:Nat×Int):List Int:=c.set p.1 p.2
structure SV(W:List Wy)(s:Sp):Prop where
 len:s.2.length=W.length
 off:Off s.2
 eq:s.2=s.1.foldl low (OJ W)
 bd:s.1.length+R6 s.2<=R6 (OJ W)
 mem:∀p∈s.1,p.1 < W.length
def fin(G T:List Pl)(W:List Wy):Sp:=lp (SA G T W) (spS G T W) Rf.turns ([],OJ W)
structure Ord(W:List Wy)(π:List Nat):Prop where
 perm:π.Perm (List.range W.length)
 up:π.Pairwise fun i j=>(aR W i).2.1 < (aR W j).2.1\/((aR W i).2.1=(aR W j).2.1/\(aR W i).1 < (aR W j).1)
section
variable {W:List Wy}{π π':List Nat}{P:List Int}{G T:List Pl}
def nc(b:Bool)(W:List Wy)(P:List Int)(p:Int):Int:=((own b W p).map fun i=>P.getD i 0).sum
end
def sY(L:List Int)(x:Int):Nat:=L.findIdx fun o=>decide (o=x)
def BA(b:Bool)(G T:List Pl)(W:List Wy)(P:List Int)(k:Nat):Bool :=
 decide (nc b W P (bj b (aR W k)) < (gK b G T (bj b (aR W k)).toNat).1) ||
 ((gK b G T (bj b (aR W k)).toNat).2.drop (sY (gK b G T (bj b (aR W k)).toNat).2 (cP b (aR W k))+1)).any fun o=>decide (0 < P.getD (qp b W (bj b (aR W k)) o) 0)
def iH(G T:List Pl)(W:List Wy)(P:List Int)(k:Nat):Nat :=
 if P.getD k 0=(aR W k).2.2 then 0 else if BA false G T W P k=false then 1 else if BA true G T W P k=false then 2 else 3
def Co(G T:List Pl)(W:List Wy)(P:List Int):List Nat:=(List.range W.length).filter fun k=>decide (iH G T W P k=3)
section
variable {W:List Wy}{π π':List Nat}{P:List Int}{G T:List Pl}
theorem Wd.end_pl(h:Wd G T W)(b:Bool){k:Nat}(hk:k < W.length):0<=bj b (aR W k)/\(bj b (aR W k)).toNat < (bA b G T).length/\((bj b (aR W k)).toNat:Int)=bj b (aR W k):=by
 have:=h.wr (aR W k) (by rw[<- m5 hk];exact qA _)
 cases b
 ·simp only[bj,bA,yO,qP];omega
 ·simp only[bj,bA,xH];omega
structure Pn(G T:List Pl)(W:List Wy)(P:List Int):Prop where
 len:P.length=W.length
 bd:∀k,k < W.length->0<=P.getD k 0/\P.getD k 0<=(aR W k).2.2
 am:∀ (b:Bool) (i:Nat),i < (bA b G T).length->nc b W P i<=(gK b G T i).1
end
section
variable {W:List Wy}{G T:List Pl}{off:List Int}
theorem uJ{b:Bool}{P Q:List Int}{p:Int}(h:∀k,k < W.length->P.getD k 0=Q.getD k 0):nc b W P p=nc b W Q p:=by
 unfold nc
 congr 1
 exact yH fun k hk=>h k (gT.mp hk).1
end
def tM(G T:List Pl)(W:List Wy)(P:List Int):Bool :=
 ((List.range G.length).all fun i=>decide (nc false W P i<=(gK false G T i).1))&&((List.range T.length).all fun i=>decide (nc true W P i<=(gK true G T i).1))
def zs(n:Nat):List Int:=List.replicate n 0
def m7(d:Nat->Int)(G T:List Pl)(W:List Wy):Nat->List Int
 | 0=>[]
 | k+1=>if tM G T W ((m7 d G T W k++[d k])++zs (W.length - (m7 d G T W k++[d k]).length))=true then m7 d G T W k++[d k] else m7 d G T W k++[0]
section
variable {W:List Wy}{G T:List Pl}{d:Nat->Int}
theorem iF{P:List Int}:tM G T W P=true↔∀ (b:Bool) (i:Nat),i < (bA b G T).length->nc b W P i<=(gK b G T i).1:=by
 unfold tM
 rw[zF,xG,xG]
 constructor
 ·rintro⟨h1,h2⟩ b i hi
  cases b
  ·exact yQ (h1 i (by simpa [bA] using hi))
  ·exact yQ (h2 i (by simpa [bA] using hi))
 ·intro h
  exact⟨fun i hi=>zZ (h false i (by simpa [bA] using hi)),fun i hi=>zZ (h true i (by simpa [bA] using hi))⟩
theorem nW:∀k,(m7 d G T W k).length=k
 | 0=>rfl
 | k+1=>by
  unfold m7
  split<;>simp[nW k]
theorem IS{b:Bool}{P:List Int}{p:Int}(h:∀k,P.getD k 0=0):nc b W P p=0:=by
 unfold nc
 have:((own b W p).map fun i=>P.getD i 0)=(own b W p).map fun _=>(0:Int):=yH fun k _=>h k
 rw[this]
 generalize own b W p=l
 induction l with
 | nil=>rfl
 | cons a l ih=>simp[ih]
theorem L3(n k:Nat):(zs n).getD k 0=0:=by
 simp only[zs,zG,yX]
 split<;>rfl
theorem Gm(l:List Int)(n k:Nat):(l++zs n).getD k 0=l.getD k 0:=by
 by_cases h:k < l.length
 ·simp[zG,yS h]
 ·have h':l.length<=k:=by omega
  have:=L3 n (k - l.length)
  simp only[zG] at this ⊢
  rw[yT h',this]
  simp[h']
theorem Rw(l:List Int)(k:Nat):(l++[0]).getD k 0=l.getD k 0:=Gm l 1 k
theorem Dy(h:Wd G T W):∀k,tM G T W (m7 d G T W k)=true
 | 0=>iF.mpr fun b i hi=>by
  rw[IS fun k=>by simp[m7]]
  exact h.amt b i
 | k+1=>by
  unfold m7
  split
  ·rename_i e
   refine iF.mpr fun b i hi=>?_
   have:=iF.mp e b i hi
   rw[uJ (Q:=m7 d G T W k++[d k]) fun j _=>Gm _ _ _] at this
   exact this
  ·refine iF.mpr fun b i hi=>?_
   rw[uJ (Q:=m7 d G T W k) fun j _=>Rw _ _]
   exact iF.mp (Dy h k) b i hi
theorem BD(hd:∀k,k < W.length->0<=d k/\d k<=(aR W k).2.2)(hl:Si W):∀k,k<=W.length->∀j,j < k->0<=(m7 d G T W k).getD j 0/\(m7 d G T W k).getD j 0<=(aR W j).2.2
 | 0,_,j,hj=>by omega
 | k+1,hk,j,hj=>by
  have ih:=BD hd hl k (by omega) j
  have len:(m7 d G T W k).length=k:=nW k
  have key:∀x,(0<=x/\x<=(aR W k).2.2)->0<=(m7 d G T W k++[x]).getD j 0/\(m7 d G T W k++[x]).getD j 0<=(aR W j).2.2:=fun x hx=>by
   by_cases hjk:j < k
   ·rw[zG,yS (by omega),<- zG]
    exact ih hjk
   ·have:j=k:=by omega
    subst this
    rw[zG,yT (by omega),len]
    simpa using hx
  unfold m7
  split
  ·exact key _ (hd k (by omega))
  ·exact key _ ⟨by omega,hl k⟩
theorem Of(h:Wd G T W)(hd:∀k,k < W.length->0<=d k/\d k<=(aR W k).2.2):Pn G T W (m7 d G T W W.length) where
 len:=nW _
 bd:=BD hd h.lim W.length (yM _)
 am:=iF.mp (Dy h _)
end
theorem vf{tt:Dl.Env->Option Bool}{te:Dl.Env->Option D}{r:List (Option D)}{x y h:Nat->D}{p:Nat->Bool}:∀ (is:List Nat),
  (∀i∈is,tt (some (x i)::some (y i)::r)=some (p i)/\(p i=true->te (some (x i)::some (y i)::r)=some (h i))) ->
  dz (j6 0 1) tt te (none::none::r) (is.map fun i=>.tuple [x i,y i])=some ((is.filter p).map h)
 | [],_=>rfl
 | i::is,hh=>by
  obtain⟨h1,h2⟩:=hh i zE
  have ih:=vf is fun j hj=>hh j (zC _ hj)
  have hg:j6 0 1 (none::none::r) (.tuple [x i,y i])=some (some (x i)::some (y i)::r):=by
   simp only[j6,isFree,xQ,yY,qG,Option.isNone_none,jP,xH,yV,yW]
  rw[zI,dz,hg]
  simp only[zA,h1]
  cases hp:p i with
  | true=>simp[h2 hp,ih,hp]
  | false=>simp[ih,hp]
theorem og{cs:List Nat}{fi:Dl.Env->Option (List D)}{tt:Dl.Env->Option Bool}{te:Dl.Env->Option D}{ρ:Dl.Env}{n:Nat}{x y h:Nat->D}{p:Nat->Bool}(hfi:fi ρ=some ((List.range n).map fun i=>.tuple [x i,y i]))(hl:n<=1000)
  (hh:∀i,i < n->tt (some (x i)::some (y i)::cs.map fun j=>(ρ[j]?).getD none)=some (p i)/\(p i=true->te (some (x i)::some (y i)::cs.map fun j=>(ρ[j]?).getD none)=some (h i))) :
  au 2 cs fi (j6 0 1) tt te ρ=some (((List.range n).filter p).map h):=by
 have:=vf (tt:=tt) (te:=te) (r:=cs.map fun j=>(ρ[j]?).getD none) (p:=p) (h:=h) (List.range n) fun i hi=>hh i (by simpa using hi)
 simp only[au,hfi,zA,fJ,List.replicate,xF,xO,this]
 refine bQ ?_
 rw[zD]
 refine yC (xP _ _) ?_
 rw[zR]
 omega
theorem u6{W:List Wy}{P:List Int}(h:P.length=W.length):kl (W.map aA) (P.map PyData.int)=(List.range W.length).map fun i=>.tuple [aA (aR W i),.int (P.getD i 0)]:=by
 apply List.ext_getElem?
 intro i
 by_cases hi:i < W.length
 ·have hz:i < (kl (W.map aA) (P.map PyData.int)).length:=by rw[n0];simp[h];exact hi
  rw[zK hz]
  obtain⟨x,y,e1,e2,e3⟩:=sy (zK hz)
  rw[zO,qv hi] at e1
  rw[zO,zK (by omega)] at e2
  cases e1
  have e2:PyData.int P[i]=y:=by simpa using e2
  rw[e3,<- e2]
  have:i < P.length:=by omega
  simp[hi,this,zG]
 ·rw[jM (by rw[n0];simp;omega),jM (by simp;omega)]
def Sm(P:List Int):Prop:=∀k,-1000000<=P.getD k 0/\P.getD k 0<=1000000
theorem DL{W:List Wy}{P:List Int}(hs:Sm P)(hw:W.length<=16)(b:Bool)(p:Int):Lm ((own b W p).map fun i=>P.getD i 0)=true:=by
 unfold Lm
 rw[zF,zJ,xG]
 refine⟨?_,fun x hx=>?_⟩
 ·have:=y8 b W p
  rw[zD]
  omega
 ·obtain⟨i,_,rfl⟩:=List.mem_map.mp hx
  rw[zF,zJ,zJ]
  exact hs i
theorem lT{G T:List Pl}{W:List Wy}(h:Wd G T W){P:List Int}(hp:P.length=W.length)(hs:Sm P)(b:Bool)(p:Int):bU [aE G T W,ah P,.int (sI b),.int p]=some (.int (nc b W P p)):=by
 have hw:=h.wl
 refine aO ?_
 show oZ [.val (aE G T W),.val (ah P),.val (.int (sI b)),.val (.int p)]=_
 have hz:gD (aa (f2 av (ae 0) (fC (.int 2))) (aa (ae 1) af)) [some (aE G T W),some (ah P),some (.int (sI b)),some (.int p)]=some ((List.range W.length).map fun i=>.tuple [aA (aR W i),.int (P.getD i 0)]):=by
  rw[<- u6 hp]
  rfl
 have c:au 2 [2,3] (gD (aa (f2 av (ae 0) (fC (.int 2))) (aa (ae 1) af))) (j6 0 1) (fB (f2 ba (f2 av (ae 0) (ae 2)) (ae 3))) (ae 1) [some (aE G T W),some (ah P),some (.int (sI b)),some (.int p)]=some ((own b W p).map fun i=>.int (P.getD i 0)):=by
  rw[og (p:=fun i=>decide (bj b (aR W i)=p)) (h:=fun i=>.int (P.getD i 0)) hz (by omega) fun i hi=>⟨?_,fun _=>rfl⟩]
  ·rfl
  ·show fB (f2 ba (f2 av (ae 0) (ae 2)) (ae 3)) [some (aA (aR W i)),some (.int (P.getD i 0)),some (.int (sI b)),some (.int p)]=_
   exact bo (by rw[iV (a:=.int (bj b (aR W i))) (b:=.int p) (ax (l8 b _) rfl rfl) rfl,cA])
 refine aV ?_
 have e:((own b W p).map fun i=>PyData.int (P.getD i 0))=((own b W p).map fun i=>P.getD i 0).map PyData.int:=by rw[zM];rfl
 show aZ tQ (aa (bR (au 2 [2,3] (gD (aa (f2 av (ae 0) (fC (.int 2))) (aa (ae 1) af))) (j6 0 1) (fB (f2 ba (f2 av (ae 0) (ae 2)) (ae 3))) (ae 1))) af) [some (aE G T W),some (ah P),some (.int (sI b)),some (.int p)]=_
 rw[e] at c
 simp only[aZ,aa,af,bR,c,zB,zA]
 show tQ [.list (((own b W p).map fun i=>P.getD i 0).map PyData.int)]=_
 simp only[tQ,cI,oneOf,g0,zA,cG,DL hs hw b p,xH]
 rfl
theorem rD(L:List Pl):bP 0 (L.map br)=(List.range L.length).map fun i=>.tuple [nD i,br (L.getD i (0,[]))]:=by
 rw[enum_zip]
 apply jH
 ·simp
 ·intro i h1 h2
  have:i < L.length:=by simpa using h2
  simp[this,zG]
theorem uL{p:Nat->Bool}(is:List Nat):n6 [.list (is.map fun i=>.bool (p i))]=some (.bool (is.all p)):=by
 have:∀is:List Nat,boolsOf (is.map fun i=>PyData.bool (p i))=some (is.map p):=fun is=>by
  induction is with
  | nil=>rfl
  | cons i is ih=>simp[boolsOf,ih]
 simp only[n6,oneOf,zA,this,zB,List.all_map]
 rfl
theorem DY{G T:List Pl}{W:List Wy}(h:Wd G T W){P:List Int}(hp:P.length=W.length)(hs:Sm P)(b:Bool):cK [aE G T W,ah P,.int (sI b)]=some (.bool ((List.range (bA b G T).length).all fun i=>decide (nc b W P i<=(gK b G T i).1))):=by
 have hl:=h.pl b
 refine aO ?_
 show fP [.val (aE G T W),.val (ah P),.val (.int (sI b))]=_
 have he:bO (aa (f2 av (ae 0) (ae 2)) af) [some (aE G T W),some (ah P),some (.int (sI b))]=some ((List.range (bA b G T).length).map fun i=>.tuple [nD i,br (gK b G T i)]):=by
  have:=rD (bA b G T)
  unfold gK
  rw[<- this]
  cases b<;>rfl
 have c:=og (cs:=[0,1,2]) (tt:=fun _=>some true) (te:=f2 Dq (ai 4 bU (aa (ae 2) (aa (ae 3) (aa (ae 4) (aa (ae 0) af))))) (f2 av (ae 1) (fC (.int 0)))) (p:=fun _=>true) (h:=fun i=>.bool (decide (nc b W P i<=(gK b G T i).1))) he (by omega) fun i hi=>⟨rfl,fun _=>ax (a:=.int (nc b W P i)) (b:=.int (gK b G T i).1) rfl (call_of (lT h hp hs b i) rfl rfl) rfl⟩
 refine aV ?_
 show aZ n6 (aa (bR (au 2 [0,1,2] (bO (aa (f2 av (ae 0) (ae 2)) af)) (j6 0 1) (fun _=>some true) (f2 Dq (ai 4 bU (aa (ae 2) (aa (ae 3) (aa (ae 4) (aa (ae 0) af))))) (f2 av (ae 1) (fC (.int 0)))))) af) [some (aE G T W),some (ah P),some (.int (sI b))]=_
 simp only[aZ,aa,af,bR,c,zB,zA]
 rw[show (List.range (bA b G T).length).filter (fun _=>true)=List.range (bA b G T).length by simp,uL]
theorem Gi{fa fb:Dl.Env->Option D}{ρ:Dl.Env}{d:D}(ha:fa ρ=some (.bool true))(hb:fb ρ=some d):me fa fb ρ=some d:=by
 simp only[me,ha,zA,hb]
theorem KZ{fa fb:Dl.Env->Option D}{ρ:Dl.Env}(ha:fa ρ=some (.bool false)):me fa fb ρ=some (.bool false):=by
 simp only[me,ha,zA]
theorem JW{fa fb:Dl.Env->Option D}{ρ:Dl.Env}{a b:Bool}(ha:fa ρ=some (.bool a))(hb:fb ρ=some (.bool b)):me fa fb ρ=some (.bool (a&&b)):=by
 cases a
 ·exact KZ ha
 ·exact Gi ha hb
theorem wb{g:List D->Option D}{f:Dl.Env->Option D}{ρ:Dl.Env}{d:D}(h:f ρ=some d):aZ g (aa f af) ρ=g [d]:=by
 simp only[aZ,aa,af,h,zB,zA]
theorem eP{α:Type}{k:α->D}{f:Dl.Env->Option D}{ρ:Dl.Env}{l:List α}(h:f ρ=some (.tuple (l.map k))):aZ aP (aa f af) ρ=some (nD l.length):=by
 rw[wb h,K0,zD]
def QN(W:List Wy)(P:List Int):Bool:=(List.range W.length).all fun k=>decide (0<=P.getD k 0)&&decide (P.getD k 0<=(aR W k).2.2)
def DB(b:Bool)(G T:List Pl)(W:List Wy)(P:List Int):Bool:=(List.range (bA b G T).length).all fun i=>decide (nc b W P i<=(gK b G T i).1)
def Pj(G T:List Pl)(W:List Wy)(P:List Int):Bool:=QN W P&&(DB false G T W P&&DB true G T W P)
theorem Kv{G T:List Pl}{W:List Wy}{P:List Int}(hp:P.length=W.length):Pj G T W P=true↔Pn G T W P:=by
 simp only[Pj,QN,DB,zF,xG,List.mem_range,zJ]
 constructor
 ·rintro⟨h1,h2,h3⟩
  exact⟨hp,h1,fun b=>by cases b<;>assumption⟩
 ·intro p
  exact⟨p.bd,p.am false,p.am true⟩
theorem N2(P:List Int):gm (ah P)=true:=rfl
theorem FI{G T:List Pl}{W:List Wy}(h:Wd G T W){P:List Int}(hp:P.length=W.length)(hs:Sm P):cN [aE G T W,ah P]=some (.bool (Pj G T W P)):=by
 have hw:=h.wl
 have hlen:(P.map PyData.int).length=W.length:=by rw[zD,hp]
 refine aO ?_
 show gg [.val (aE G T W),.val (ah P),.non]=_
 unfold gg
 have t1:Dl.aY 2 [0] (f2 av (ae 0) (fC (.int 2))) [.val (aE G T W),.val (ah P),.non]=some (.nx [.val (aE G T W),.val (ah P),.val (.tuple (W.map aA))]):=dZ (d:=.tuple (W.map aA)) rfl rfl rfl rfl
 rw[aq t1]
 have el:bw [ah P,nD W.length,nD W.length]=some (.bool true):=by
  rw[show nD W.length=.int ((W.length:Nat):Int) from rfl,dY (N2 P)]
  simp[long,ah,hp]
 have hl:∀ρ:Dl.Env,ae 2 ρ=some (.tuple (W.map aA))->aZ aP (aa (ae 2) af) ρ=some (nD W.length):=fun ρ hr=>eP hr
 have c1:(bE (fB (ai 3 bw (aa (ae 1) (aa (aZ aP (aa (ae 2) af)) (aa (aZ aP (aa (ae 2) af)) af)))))) (aJ [.val (aE G T W),.val (ah P),.val (.tuple (W.map aA))])=some false :=
  cy (bo (call_of el (cons_of rfl (cons_of (hl _ rfl) (cons_of (hl _ rfl) rfl))) rfl))
 rw[aq (aH c1)]
 have hz:gD (aa (ae 2) (aa (ae 1) af)) [some (aE G T W),some (ah P),some (.tuple (W.map aA))]=some ((List.range W.length).map fun i=>.tuple [aA (aR W i),.int (P.getD i 0)]):=by
  rw[<- u6 hp]
  rfl
 have c2:=og (cs:=[]) (tt:=fun _=>some true) (te:=ai 3 aS (aa (ae 1) (aa (fC (.int 0)) (aa (f2 av (ae 0) (fC (.int 2))) af)))) (p:=fun _=>true) (h:=fun k=>.bool (decide (0<=P.getD k 0)&&decide (P.getD k 0<=(aR W k).2.2))) hz (by omega)
  fun i hi=>⟨rfl,fun _=>call_of (dQ (d:=.int (P.getD i 0)) rfl 0 (aR W i).2.2) rfl rfl⟩
 have hall:(fB (aZ n6 (aa (bR (au 2 [] (gD (aa (ae 2) (aa (ae 1) af))) (j6 0 1) (fun _=>some true) (ai 3 aS (aa (ae 1) (aa (fC (.int 0)) (aa (f2 av (ae 0) (fC (.int 2))) af)))))) af))) [some (aE G T W),some (ah P),some (.tuple (W.map aA))]=some (QN W P):=by
  refine bo ?_
  simp only[aZ,aa,af,bR,c2,zB,zA]
  rw[show (List.range W.length).filter (fun _=>true)=List.range W.length by simp,uL]
  rfl
 have k0:=DY h hp hs false
 have k1:=DY h hp hs true
 cases hb:QN W P with
 | false =>
  rw[hb] at hall
  refine dk ((bB (cy hall)).trans ?_)
  rw[Pj,hb]
  exact aV rfl
 | true =>
  rw[hb] at hall
  rw[aq (aH (cy hall)),Pj,hb,jL]
  exact aV (JW (call_of k0 rfl rfl) (call_of k1 rfl rfl))
theorem zd{W:List Wy}{k:Nat}(hk:k < W.length):aR W k∈W:=m5 hk ▸ qA hk
theorem Pn.smP{G T:List Pl}{W:List Wy}(h:Wd G T W){P:List Int}(p:Pn G T W P):Sm P:=fun k=>by
 by_cases hk:k < W.length
 ·have:=p.bd k hk
  have:=(h.wr _ (zd hk)).2.2.2
  omega
 ·rw[zG,jM (by rw[p.len];omega)]
  simp
section
variable {G T:List Pl}{W:List Wy}{P:List Int}
theorem mF(h:Wd G T W)(p:Pn G T W P):cN [aE G T W,ah P]=some (.bool true):=by
 rw[FI h p.len (p.smP h),(Kv p.len).mpr p]
theorem dh(h:Wd G T W)(p:Pn G T W P):az [aE G T W,ah P]=some .none:=by
 have:ej [.val (aE G T W),.val (ah P)]=some (.nx [.val (aE G T W),.val (ah P)]):=by
  unfold ej
  refine (aq (dq (call_of (ik h) rfl rfl))).trans ?_
  exact aH (cy (bo (call_of (mF h p) rfl rfl)))
 show (ej [.val (aE G T W),.val (ah P)]).map _=_
 rw[this]
 rfl
theorem MK(h:Wd G T W)(p:Pn G T W P){i:Nat}(hi:i < G.length):hU [aE G T W,ah P,nD i]=some (.int (nc false W P i)):=by
 refine aO ?_
 show y9 [.val (aE G T W),.val (ah P),.val (nD i)]=_
 unfold y9
 refine (aq (dq (call_of (dh h p) rfl rfl))).trans ?_
 have hl:(aZ aP (aa (f2 av (ae 0) (fC (.int 0))) af)) [some (aE G T W),some (ah P),some (nD i)]=some (nD G.length):=eP (l:=G) (k:=br) (ax (a:=aE G T W) (c:=.tuple (G.map br)) rfl rfl rfl)
 refine (aq (dq (call_of (cX (n:=(G.length:Nat)) (i:=(i:Nat)) (by omega) (by omega)) (cons_of rfl (cons_of hl rfl)) rfl))).trans ?_
 exact aV (call_of (lT h p.len (p.smP h) false i) rfl rfl)
theorem La(h:Wd G T W)(p:Pn G T W P){i:Nat}(hi:i < T.length):fv [aE G T W,ah P,nD i]=some (.int (nc true W P i)):=by
 refine aO ?_
 show qk [.val (aE G T W),.val (ah P),.val (nD i)]=_
 unfold qk
 refine (aq (dq (call_of (dh h p) rfl rfl))).trans ?_
 have hl:(aZ aP (aa (f2 av (ae 0) (fC (.int 1))) af)) [some (aE G T W),some (ah P),some (nD i)]=some (nD T.length):=eP (l:=T) (k:=br) (ax (a:=aE G T W) (c:=.tuple (T.map br)) rfl rfl rfl)
 refine (aq (dq (call_of (cX (n:=(T.length:Nat)) (i:=(i:Nat)) (by omega) (by omega)) (cons_of rfl (cons_of hl rfl)) rfl))).trans ?_
 exact aV (call_of (lT h p.len (p.smP h) true i) rfl rfl)
end
theorem tup_is{fs:Dl.Env->Option (List D)}{ρ:Dl.Env}{ds:List D}(h:fs ρ=some ds)(hl:ds.length<=1000):aN fs ρ=some (.tuple ds):=by
 simp only[aN,h,zA,bQ (show ds.length<=4000 by omega),zB]
section
variable {G T:List Pl}{W:List Wy}{P:List Int}
theorem iy{cs:List Nat}{fi:Dl.Env->Option (List D)}{te:Dl.Env->Option D}{ρ:Dl.Env}{is:List Nat}{f:Nat->D}(hfi:fi ρ=some (is.map nD))(hl:is.length<=1000)(hh:∀i∈is,te (some (nD i)::cs.map fun j=>(ρ[j]?).getD none)=some (f i)):au 1 cs fi (fG 0) (fun _=>some true) te ρ=some (is.map f):=by
 rw[cL (h:=fun d=>f (l0 d).toNat) hfi (by rw[zD];omega) fun d hd=>?_]
 ·rw[zM]
  refine jC some (yH fun i _=>?_)
  simp[l0]
 ·obtain⟨i,hi,rfl⟩:=List.mem_map.mp hd
  rw[hh i hi]
  simp[l0]
end
theorem LS{f g:Dl.Env->Option D}{ρ:Dl.Env}{ds:List D}{k:Nat}(h:f ρ=some (.list ds))(h2:g ρ=some (nD k)):se mC f (JQ g) uj ρ=some (.list (ds.drop k)):=by
 have:=G9 ds k
 simp only[se,h,JQ,h2,uj,gI,mC,zA,zB,this]
theorem Fi{p:Nat->Bool}(is:List Nat):Rf.Iq [.list (is.map fun i=>.bool (p i))]=some (.bool (is.any p)):=by
 have:∀is:List Nat,boolsOf (is.map fun i=>PyData.bool (p i))=some (is.map p):=fun is=>by
  induction is with
  | nil=>rfl
  | cons i is ih=>simp[boolsOf,ih]
 simp only[Rf.Iq,oneOf,zA,this,zB,List.any_map]
 rfl
theorem nz{α β:Type}(f:α->β)(p:β->Bool)(q:α->Bool):∀ (l:List α),(∀x∈l,p (f x)=q x)->(l.map f).findIdx p=l.findIdx q
 | [],_=>rfl
 | x::l,h=>by
  rw[zI,vD,vD,h x zE,nz f p q l fun y hy=>h y (zC _ hy)]
section
variable {G T:List Pl}{W:List Wy}{P:List Int}
theorem ND(h:Wd G T W){b:Bool}{i:Nat}{p:Pl}(e:(bA b G T)[i]?=some p){k:Nat}(hk:k < W.length)(he:bj b (aR W k)=i):jh (.list ((j1 b W i p.2).map nD)) (nD k)=some (nD (sY p.2 (cP b (aR W k)))):=by
 have ko:k∈own b W i:=gT.mpr ⟨hk,he⟩
 have km:k∈j1 b W i p.2:=(gG h e).mem_iff.mpr ko
 have e1:(j1 b W i p.2).map nD=((j1 b W i p.2).map fun j=>((j:Nat):Int)).map PyData.int:=by rw[zM];rfl
 have m1:((k:Nat):Int)∈(j1 b W i p.2).map fun j=>((j:Nat):Int):=List.mem_map.mpr ⟨k,km,rfl⟩
 rw[e1]
 show (intsOf _).bind _=_
 rw[cG,zA,lU m1,zB]
 have e2:((j1 b W i p.2).map fun j=>((j:Nat):Int)).findIdx (fun o=>decide (o=((k:Nat):Int)))=sY p.2 (cP b (aR W k)):=by
  unfold j1 sY
  rw[zM]
  refine nz _ _ _ _ fun x hx=>?_
  obtain⟨hl,h1,h2⟩:=gO h e hx
  show decide (((qp b W i x:Nat):Int)=(k:Int))=decide (x=cP b (aR W k))
  rw[decide_eq_decide]
  constructor
  ·intro z
   have z:qp b W i x=k:=by omega
   rw[<- z,h2]
  ·intro z
   rw[z,CU h.wp ko]
 rw[e2]
theorem nL(h:Wd G T W)(hp:P.length=W.length)(hs:Sm P)(b:Bool){k:Nat}(hk:k < W.length):cE [aE G T W,ah P,.int (sI b),nD k]=some (.bool (BA b G T W P k)):=by
 have hw:=h.wl
 obtain⟨z1,z2,z3⟩:=h.end_pl b hk
 have hx:(bA b G T)[(bj b (aR W k)).toNat]?=some (gK b G T (bj b (aR W k)).toNat):=by
  rw[zK z2]
  simp[gK,z2]
 have hL:∀x∈(gK b G T (bj b (aR W k)).toNat).2,_:=fun x hx'=>gO h hx hx'
 have hb:(gK b G T (bj b (aR W k)).toNat).2.length<=16:=by
  have:=(gG h hx).length_eq
  have h2:=y8 b W ((bj b (aR W k)).toNat:Int)
  unfold j1 at this
  rw[zD] at this
  omega
 have ei:=ND h hx hk z3.symm
 have ew:=uA h hx
 generalize hpl:gK b G T (bj b (aR W k)).toNat=pl at *
 generalize hj:(bj b (aR W k)).toNat=j at *
 have ez:PyData.int (bj b (aR W k))=nD j:=by rw[<- z3]
 refine aO ?_
 show f7 [.val (aE G T W),.val (ah P),.val (.int (sI b)),.val (nD k),.non,.non,.non]=_
 unfold f7
 have t4:Dl.aY 4 [0,2,3] (f2 av (f2 av (f2 av (ae 0) (fC (.int 2))) (ae 3)) (ae 2)) [.val (aE G T W),.val (ah P),.val (.int (sI b)),.val (nD k),.non,.non,.non]=some (.nx [.val (aE G T W),.val (ah P),.val (.int (sI b)),.val (nD k),.val (nD j),.non,.non]):=by
  rw[<- ez]
  exact di (d:=.int (bj b (aR W k))) (ax (l8 b _) (ax (o6 hk) rfl rfl) rfl) rfl
 rw[aq t4]
 have ep:av (.tuple ((bA b G T).map br)) (nD j)=some (br pl):=mJ hx
 have ct:(fB (f2 yc (ai 4 bU (aa (ae 0) (aa (ae 1) (aa (ae 2) (aa (ae 4) af))))) (f2 av (f2 av (f2 av (ae 0) (ae 2)) (ae 4)) (fC (.int 0))))) (aJ [.val (aE G T W),.val (ah P),.val (.int (sI b)),.val (nD k),.val (nD j),.non,.non])=some (decide (nc b W P j < pl.1)):=by
  refine bo (ax (lS _ _) (call_of (lT h hp hs b j) rfl rfl) ?_)
  refine ax (a:=br pl) (b:=.int 0) rfl (ax ep (ax (eI b G T W) rfl rfl) rfl) rfl
 have hm:BA b G T W P k=(decide (nc b W P j < pl.1)||(pl.2.drop (sY pl.2 (cP b (aR W k))+1)).any fun o=>decide (0 < P.getD (qp b W j o) 0)):=by
  unfold BA
  rw[hj,hpl,z3]
 rw[hm]
 cases hc:decide (nc b W P j < pl.1) with
 | true =>
  rw[hc] at ct
  exact dk ((bB ct).trans (aV rfl))
 | false =>
  rw[hc] at ct
  rw[aq (aH ct),Bool.false_or]
  have t5:Dl.aY 5 [0,2,4] (ai 3 eT (aa (ae 0) (aa (ae 2) (aa (ae 4) af)))) [.val (aE G T W),.val (ah P),.val (.int (sI b)),.val (nD k),.val (nD j),.non,.non]=some (.nx [.val (aE G T W),.val (ah P),.val (.int (sI b)),.val (nD k),.val (nD j),.val (.list ((j1 b W j pl.2).map nD)),.non]) :=
   bY (call_of ew rfl rfl) (call_of ew rfl rfl) rfl
  rw[aq t5]
  have cu:∀ρ:Dl.Env,ae 5 ρ=some (.list ((j1 b W j pl.2).map nD))->ae 3 ρ=some (nD k)->(se mC (ae 5) (JQ (f2 aI (f2 jh (ae 5) (ae 3)) (fC (.int 1)))) uj) ρ=some (.list (((j1 b W j pl.2).map nD).drop (sY pl.2 (cP b (aR W k))+1))):=fun ρ a c =>
   LS a (ax (eF _ _) (ax ei a c) rfl)
  have t6:Dl.aY 6 [3,5] (se mC (ae 5) (JQ (f2 aI (f2 jh (ae 5) (ae 3)) (fC (.int 1)))) uj) [.val (aE G T W),.val (ah P),.val (.int (sI b)),.val (nD k),.val (nD j),.val (.list ((j1 b W j pl.2).map nD)),.non]=some (.nx [.val (aE G T W),.val (ah P),.val (.int (sI b)),.val (nD k),.val (nD j),.val (.list ((j1 b W j pl.2).map nD)),.val (.list (((j1 b W j pl.2).drop (sY pl.2 (cP b (aR W k))+1)).map nD))]):=by
   rw[List.map_drop]
   exact bY (cu _ rfl rfl) (cu _ rfl rfl) rfl
  rw[aq t6]
  have c:au 1 [1] (bL (ae 6)) (fG 0) (fun _=>some true) (f2 tm (f2 av (ae 1) (ae 0)) (fC (.int 0))) [some (aE G T W),some (ah P),some (.int (sI b)),some (nD k),some (nD j),some (.list ((j1 b W j pl.2).map nD)),some (.list (((j1 b W j pl.2).drop (sY pl.2 (cP b (aR W k))+1)).map nD))]=some (((j1 b W j pl.2).drop (sY pl.2 (cP b (aR W k))+1)).map fun i=>.bool (decide (0 < P.getD i 0))):=by
   refine iy rfl ?_ fun i hi=>?_
   ·rw[qH,j1,zD]
    omega
   ·have hi':=List.mem_of_mem_drop hi
    unfold j1 at hi'
    obtain⟨x,hx',rfl⟩:=List.mem_map.mp hi'
    exact ax (eZ _ _) (ax (rF (by rw[hp];exact (hL x hx').1)) rfl rfl) rfl
  refine aV ?_
  show aZ Rf.Iq (aa (bR (au 1 [1] (bL (ae 6)) (fG 0) (fun _=>some true) (f2 tm (f2 av (ae 1) (ae 0)) (fC (.int 0))))) af) [some (aE G T W),some (ah P),some (.int (sI b)),some (nD k),some (nD j),some (.list ((j1 b W j pl.2).map nD)),some (.list (((j1 b W j pl.2).drop (sY pl.2 (cP b (aR W k))+1)).map nD))]=_
  simp only[aZ,aa,af,bR,c,zB,zA,Fi]
  unfold j1
  rw[<- List.map_drop,List.any_map]
  rfl
def dF:Nat->D|0=>.str "full" | 1=>.str "giver" | 2=>.str "taker" | _=>.none
theorem mP(h:Wd G T W)(hp:P.length=W.length)(hs:Sm P){k:Nat}(hk:k < W.length):bW [aE G T W,ah P,nD k]=some (dF (iH G T W P k)):=by
 refine aO ?_
 show iZ [.val (aE G T W),.val (ah P),.val (nD k)]=_
 unfold iZ iH
 have c1:(fB (f2 ba (f2 av (ae 1) (ae 2)) (f2 av (f2 av (f2 av (ae 0) (fC (.int 2))) (ae 2)) (fC (.int 2))))) (aJ [.val (aE G T W),.val (ah P),.val (nD k)])=some (decide (P.getD k 0=(aR W k).2.2)) :=
  bo (ax (cA _ _) (ax (rF (by rw[hp];exact hk)) rfl rfl) (ax (a:=aA (aR W k)) (b:=.int 2) rfl (ax (o6 hk) rfl rfl) rfl))
 have w0:=nL h hp hs false hk
 have w1:=nL h hp hs true hk
 have c2:(bE (fB (ai 4 cE (aa (ae 0) (aa (ae 1) (aa (fC (.int 0)) (aa (ae 2) af))))))) (aJ [.val (aE G T W),.val (ah P),.val (nD k)])=some (!(BA false G T W P k)):=cy (bo (call_of w0 rfl rfl))
 have c3:(bE (fB (ai 4 cE (aa (ae 0) (aa (ae 1) (aa (fC (.int 1)) (aa (ae 2) af))))))) (aJ [.val (aE G T W),.val (ah P),.val (nD k)])=some (!(BA true G T W P k)):=cy (bo (call_of w1 rfl rfl))
 by_cases e1:P.getD k 0=(aR W k).2.2
 ·rw[zZ e1] at c1
  rw[yL e1]
  exact dk ((bB c1).trans (aV rfl))
 ·rw[zY e1] at c1
  rw[yN e1,aq (aH c1)]
  cases e2:BA false G T W P k with
  | false =>
   rw[e2] at c2
   rw[yL rfl]
   exact dk ((bB c2).trans (aV rfl))
  | true =>
   rw[e2] at c2
   rw[yN (by simp),aq (aH c2)]
   cases e3:BA true G T W P k with
   | false =>
    rw[e3] at c3
    rw[yL rfl]
    exact dk ((bB c3).trans (aV rfl))
   | true =>
    rw[e3] at c3
    rw[yN (by simp),aq (aH c3)]
    exact aV rfl
theorem B0(G T:List Pl)(W:List Wy)(P:List Int)(k:Nat):iH G T W P k<=3:=by
 unfold iH
 split
 ·omega
 ·split
  ·omega
  ·split<;>omega
theorem wx(n:Nat)(h:n<=3):mY (dF n) .none=some (.bool (decide (n=3))):=by
 match n,h with
 | 0,_=>rfl
 | 1,_=>rfl
 | 2,_=>rfl
 | 3,_=>rfl
theorem iR{ρ:Dl.Env}{f:Dl.Env->Option D}(hp:P.length=W.length)(hf:f ρ=some (ah P)):(aa (aZ aP (aa f af)) af) ρ=some [nD W.length]:=by
 have:=yz P
 rw[hp] at this
 refine cons_of ?_ rfl
 rw[wb hf,this]
theorem p8(h:Wd G T W)(hp:P.length=W.length)(hs:Sm P):dH [aE G T W,ah P]=some (match (List.range W.length).find? fun k=>decide (iH G T W P k=3) with|some k=>nD k|none=>.none):=by
 have hw:=h.wl
 refine aO ?_
 show dJ [.val (aE G T W),.val (ah P),.non]=_
 unfold dJ
 obtain⟨f1,f2'⟩:=gn (tgt:=qt 2) (gb:=dW (fB (f2 mY (ai 3 bW (aa (ae 0) (aa (ae 1) (aa (ae 2) af)))) (fC .none))) (aM (ae 2)) du) (fun ρ=>∃x,ρ=[.val (aE G T W),.val (ah P),x]) nD (fun k=>decide (iH G T W P k=3)) nD
  (l:=List.range W.length) (ρ:=[.val (aE G T W),.val (ah P),.non])
  (fun ρ k hk hρ=>by
   obtain⟨x,rfl⟩:=hρ
   have hk':k < W.length:=by simpa using hk
   have c:(fB (f2 mY (ai 3 bW (aa (ae 0) (aa (ae 1) (aa (ae 2) af)))) (fC .none))) (aJ [.val (aE G T W),.val (ah P),.val (nD k)])=some (decide (iH G T W P k=3)) :=
    bo (ax (wx _ (B0 G T W P k)) (call_of (mP h hp hs hk') rfl rfl) rfl)
   refine⟨_,rfl,fun hq=>?_,fun hq=>?_⟩
   ·show dW _ _ _ [.val (aE G T W),.val (ah P),.val (nD k)]=_
    rw[hq] at c
    exact (bB c).trans (aV rfl)
   ·rw[hq] at c
    exact⟨_,aH c,_,rfl⟩) ⟨_,rfl⟩
 have hr:aK (aa (aZ aP (aa (ae 1) af)) af) [some (aE G T W),some (ah P),none]=some ((List.range W.length).map nD):=gF (iR hp rfl) (by omega)
 cases e:(List.range W.length).find? fun k=>decide (iH G T W P k=3) with
 | some k=>exact dk (cF (f1 k e) hr rfl)
 | none =>
  obtain⟨ρ',e',x,rfl⟩:=f2' e
  exact (aq (cF e' hr rfl)).trans (aV rfl)
theorem B9(h:Wd G T W)(hp:P.length=W.length)(hs:Sm P):i8 [aE G T W,ah P]=some (.bool (decide (Co G T W P=[]))):=by
 refine aO ?_
 show jr [.val (aE G T W),.val (ah P)]=_
 unfold jr
 refine aV (ax ?_ (call_of (p8 h hp hs) rfl rfl) rfl)
 cases e:(List.range W.length).find? fun k=>decide (iH G T W P k=3) with
 | some k =>
  have:Co G T W P≠[]:=fun z=>by
   have hm:=jY e
   have hq:=List.find?_some e
   have:k∈Co G T W P:=List.mem_filter.mpr ⟨hm,hq⟩
   rw[z] at this
   cases this
  rw[zY this]
  rfl
 | none =>
  have:Co G T W P=[]:=by
   rw[wM] at e
   exact List.filter_eq_nil_iff.mpr e
  rw[zZ this]
  rfl
theorem LA(h:Wd G T W)(p:Pn G T W P):gM [aE G T W,ah P]=some (.bool (decide (Co G T W P=[]))):=by
 refine aO ?_
 show qo [.val (aE G T W),.val (ah P)]=_
 unfold qo
 refine (aq (dq (call_of (dh h p) rfl rfl))).trans ?_
 exact aV (call_of (B9 h p.len (p.smP h)) rfl rfl)
theorem pK{tt:Dl.Env->Option Bool}{te:Dl.Env->Option D}{r:List (Option D)}{f:Nat->D}{q:Nat->Bool}:∀ (is:List Nat),(∀i∈is,tt (some (nD i)::r)=some (q i)/\(q i=true->te (some (nD i)::r)=some (f i)))->dz (fG 0) tt te (none::r) (is.map nD)=some ((is.filter q).map f)
 | [],_=>rfl
 | i::is,h=>by
  have ih:=pK (tt:=tt) (te:=te) (r:=r) (f:=f) (q:=q) is fun j hj=>h j (zC _ hj)
  obtain⟨h1,h2⟩:=h i zE
  have hg:fG 0 (none::r) (nD i)=some (some (nD i)::r):=rfl
  rw[zI,dz,hg,zA,h1,zA,jX]
  cases e:q i with
  | true =>
   rw[yL rfl,yL rfl,h2 e,zA,ih]
   rfl
  | false =>
   rw[yN (by simp),yN (by simp),ih]
theorem rN{cs:List Nat}{fi:Dl.Env->Option (List D)}{tt:Dl.Env->Option Bool}{te:Dl.Env->Option D}{ρ:Dl.Env}{is:List Nat}{f:Nat->D}{q:Nat->Bool}(hfi:fi ρ=some (is.map nD))(hl:is.length<=1000)(hh:∀i∈is,tt (some (nD i)::cs.map fun j=>(ρ[j]?).getD none)=some (q i)/\(q i=true->te (some (nD i)::cs.map fun j=>(ρ[j]?).getD none)=some (f i))):au 1 cs fi (fG 0) tt te ρ=some ((is.filter q).map f):=by
 have:=pK is hh
 simp only[au,hfi,zA,fJ,List.replicate,xF,xO,this]
 refine bQ ?_
 rw[zD]
 refine yC (xP _ _) ?_
 omega
theorem Fb(h:Wd G T W)(p:Pn G T W P):dU [aE G T W,ah P]=some (.list ((Co G T W P).map nD)):=by
 have hw:=h.wl
 have hp:=p.len
 refine aO ?_
 show lQ [.val (aE G T W),.val (ah P)]=_
 unfold lQ
 refine (aq (dq (call_of (dh h p) rfl rfl))).trans ?_
 have c:au 1 [0,1] (aK (aa (aZ aP (aa (ae 1) af)) af)) (fG 0) (fB (f2 mY (ai 3 bW (aa (ae 1) (aa (ae 2) (aa (ae 0) af)))) (fC .none))) (ae 0) [some (aE G T W),some (ah P)]=some ((Co G T W P).map nD) :=
  rN (gF (iR hp rfl) (by omega)) (by rw[zR];omega) fun k hk=>⟨bo (ax (wx _ (B0 G T W P k)) (call_of (mP h hp (p.smP h) (by simpa using hk)) rfl rfl) rfl),fun _=>rfl⟩
 refine aV ?_
 show bR _ [some (aE G T W),some (ah P)]=_
 simp only[bR,c,zB]
end
theorem Dx{tgt:ar->D->Option ar}{gb:ar->Option Out}(f:Nat->D)(R:Nat->ar->Prop):∀ (n k:Nat) (ρ:ar),
  (∀j ρ,k<=j->j < k+n->R j ρ->∃ρ1 ρ2,tgt ρ (f j)=some ρ1/\gb ρ1=some (.nx ρ2)/\R (j+1) ρ2)->R k ρ->∃ρ',fO tgt gb ((List.range' k n).map f) ρ=some (.nx ρ')/\R (k+n) ρ'
 | 0,k,ρ,_,h=>⟨ρ,rfl,h⟩
 | n+1,k,ρ,hh,h=>by
  obtain⟨ρ1,ρ2,e1,e2,h2⟩:=hh k ρ (yM _) (by omega) h
  obtain⟨ρ',e3,h3⟩:=Dx f R n (k+1) ρ2 (fun j ρ a b=>hh j ρ (by omega) (by omega)) h2
  refine⟨ρ',?_,by rw[show k+(n+1)=k+1+n by omega];exact h3⟩
  rw[vH,zI,fO,e1,zA,e2]
  exact e3
theorem QC{n:Nat}(hl:n<=1000):Dl.dM (.tuple [.int 0]) (nD n)=some (ah (zs n)):=by
 have e:Bc (.tuple [.int 0]) (nD n)=some (ah (zs n)):=by
  show (if Aa ((n:Nat):Int)=true/\[PyData.int 0].length * ((n:Nat):Int).toNat<=sizeLine then some (PyData.tuple (List.replicate ((n:Nat):Int).toNat [PyData.int 0]).flatten) else none)=_
  have hz:[PyData.int 0].length * n<=sizeLine:=by
   rw[xC,Nat.one_mul]
   exact yC hl (by decide)
  rw[yF,yL ⟨nC hl,hz⟩,Hm]
  rfl
 show ((za tZ fun i j=>PyData.int (i * j)) (.tuple [.int 0]) (nD n)).or (Bc (.tuple [.int 0]) (nD n))=_
 rw[e]
 rfl
section
variable {G T:List Pl}{W:List Wy}{P:List Int}
theorem rq(h:P.length=W.length):kl (P.map PyData.int) (W.map aA)=(List.range W.length).map fun i=>.tuple [.int (P.getD i 0),aA (aR W i)]:=by
 have:∀ (a:List Int) (l:List Wy),a.length=l.length->kl (a.map PyData.int) (l.map aA)=(List.range l.length).map fun i=>.tuple [.int (a.getD i 0),aA (aR l i)]:=by
  intro a
  induction a with
  | nil=>intro l e;cases l with|nil=>rfl|cons _ _=>simp at e
  | cons x a ih =>
   intro l e
   cases l with
   | nil=>simp at e
   | cons w l =>
    rw[zI,zI,kl,ih l (by simpa using e),zL,vP,zI,zM]
    rfl
 exact this P W h
theorem mW(h:Wd G T W)(hp:P.length=W.length)(hs:Sm P)(b:Bool)(p:Int):bx [aE G T W,ah P,.int (sI b),.int p]=some (.int (nc b W P p)):=by
 have hw:=h.wl
 refine aO ?_
 show ki [.val (aE G T W),.val (ah P),.val (.int (sI b)),.val (.int p)]=_
 have hz:gD (aa (ae 1) (aa (f2 av (ae 0) (fC (.int 2))) af)) [some (aE G T W),some (ah P),some (.int (sI b)),some (.int p)]=some ((List.range W.length).map fun i=>.tuple [.int (P.getD i 0),aA (aR W i)]):=by
  rw[<- rq hp]
  rfl
 have c:au 2 [2,3] (gD (aa (ae 1) (aa (f2 av (ae 0) (fC (.int 2))) af))) (j6 0 1) (fB (f2 ba (f2 av (ae 1) (ae 2)) (ae 3))) (ae 0) [some (aE G T W),some (ah P),some (.int (sI b)),some (.int p)]=some ((own b W p).map fun i=>.int (P.getD i 0)):=by
  rw[og (p:=fun i=>decide (bj b (aR W i)=p)) (h:=fun i=>.int (P.getD i 0)) hz (by omega) fun i hi=>⟨?_,fun _=>rfl⟩]
  ·rfl
  ·show fB (f2 ba (f2 av (ae 1) (ae 2)) (ae 3)) [some (.int (P.getD i 0)),some (aA (aR W i)),some (.int (sI b)),some (.int p)]=_
   exact bo (by rw[iV (a:=.int (bj b (aR W i))) (b:=.int p) (ax (l8 b _) rfl rfl) rfl,cA])
 refine aV ?_
 have e:((own b W p).map fun i=>PyData.int (P.getD i 0))=((own b W p).map fun i=>P.getD i 0).map PyData.int:=by rw[zM];rfl
 show aZ tQ (aa (bR (au 2 [2,3] (gD (aa (ae 1) (aa (f2 av (ae 0) (fC (.int 2))) af))) (j6 0 1) (fB (f2 ba (f2 av (ae 1) (ae 2)) (ae 3))) (ae 0))) af) [some (aE G T W),some (ah P),some (.int (sI b)),some (.int p)]=_
 rw[e] at c
 simp only[aZ,aa,af,bR,c,zB,zA]
 show tQ [.list (((own b W p).map fun i=>P.getD i 0).map PyData.int)]=_
 simp only[tQ,cI,oneOf,g0,zA,cG,DL hs hw b p,xH]
 rfl
def RK:ar->Option Out:=(ee [0,2] (bO (aa (f2 av (ae 0) (ae 2)) af)) (gJ 3 4) (dW (fB (f2 tm (ai 4 bx (aa (ae 0) (aa (ae 1) (aa (ae 2) (aa (ae 3) af))))) (f2 av (ae 4) (fC (.int 0))))) (aM (fC (.bool false))) du))
theorem Ko(h:Wd G T W)(hp:P.length=W.length)(hs:Sm P)(b:Bool)(x y:Slot):(DB b G T W P=false->RK [.val (aE G T W),.val (ah P),.val (.int (sI b)),x,y]=some (.rt (.bool false)))/\(DB b G T W P=true->∃x' y',RK [.val (aE G T W),.val (ah P),.val (.int (sI b)),x,y]=some (.nx [.val (aE G T W),.val (ah P),.val (.int (sI b)),x',y'])):=by
 have hl:=h.pl b
 obtain⟨f1,f2'⟩:=gn (tgt:=gJ 3 4) (gb:=dW (fB (f2 tm (ai 4 bx (aa (ae 0) (aa (ae 1) (aa (ae 2) (aa (ae 3) af))))) (f2 av (ae 4) (fC (.int 0))))) (aM (fC (.bool false))) du)
  (fun ρ=>∃x y,ρ=[.val (aE G T W),.val (ah P),.val (.int (sI b)),x,y]) (fun i:Nat=>.tuple [nD i,br (gK b G T i)]) (fun i=>decide ((gK b G T i).1 < nc b W P i)) (fun _=>.bool false)
  (l:=List.range (bA b G T).length) (ρ:=[.val (aE G T W),.val (ah P),.val (.int (sI b)),x,y])
  (fun ρ i hi hρ=>by
   obtain⟨x,y,rfl⟩:=hρ
   have c:(fB (f2 tm (ai 4 bx (aa (ae 0) (aa (ae 1) (aa (ae 2) (aa (ae 3) af))))) (f2 av (ae 4) (fC (.int 0))))) (aJ [.val (aE G T W),.val (ah P),.val (.int (sI b)),.val (nD i),.val (br (gK b G T i))])=some (decide ((gK b G T i).1 < nc b W P i)) :=
    bo (ax (eZ _ _) (call_of (mW h hp hs b i) rfl rfl) (ax (a:=br (gK b G T i)) (b:=.int 0) rfl rfl rfl))
   refine⟨_,rfl,fun hq=>?_,fun hq=>?_⟩
   ·rw[hq] at c
    exact (bB c).trans (aV rfl)
   ·rw[hq] at c
    exact⟨_,aH c,_,_,rfl⟩) ⟨_,_,rfl⟩
 have he:bO (aa (f2 av (ae 0) (ae 2)) af) (bZ [.val (aE G T W),.val (ah P),.val (.int (sI b)),x,y])=some ((List.range (bA b G T).length).map fun i=>.tuple [nD i,br (gK b G T i)]):=by
  have:=rD (bA b G T)
  unfold gK
  rw[<- this]
  cases b<;>rfl
 have hh:hand [0,2] 0 [Slot.val (aE G T W),.val (ah P),.val (.int (sI b)),x,y]=[Slot.val (aE G T W),.val (ah P),.val (.int (sI b)),x,y]:=rfl
 unfold DB
 constructor
 ·intro hk
  cases e:(List.range (bA b G T).length).find? fun i=>decide ((gK b G T i).1 < nc b W P i) with
  | some i=>exact cF (f1 i e) he hh
  | none =>
   rw[wM] at e
   rw[List.all_eq_false] at hk
   obtain⟨i,hi,hn⟩:=hk
   have:=e i hi
   simp only[zJ] at this hn
   omega
 ·intro hk
  have e:(List.range (bA b G T).length).find? (fun i=>decide ((gK b G T i).1 < nc b W P i))=none:=by
   rw[wM]
   intro i hi
   have:=List.all_eq_true.mp hk i hi
   simp only[zJ] at this ⊢
   omega
  obtain⟨ρ',e',x',y',rfl⟩:=f2' e
  exact⟨x',y',cF e' he hh⟩
theorem Og:tM G T W P=(DB false G T W P&&DB true G T W P):=rfl
theorem BZ(h:Wd G T W)(hp:P.length=W.length)(hs:Sm P):cY [aE G T W,ah P]=some (.bool (tM G T W P)):=by
 obtain⟨f1,f2'⟩:=gn (tgt:=qt 2) (gb:=RK)
  (fun ρ=>∃x y z,ρ=[.val (aE G T W),.val (ah P),x,y,z]) (fun b:Bool=>.int (sI b)) (fun b=>!(DB b G T W P)) (fun _=>.bool false)
  (l:=[false,true]) (ρ:=[.val (aE G T W),.val (ah P),.non,.non,.non])
  (fun ρ b _ hρ=>by
   obtain⟨x,y,z,rfl⟩:=hρ
   obtain⟨r1,r2⟩:=Ko h hp hs b y z
   refine⟨_,rfl,fun hq=>?_,fun hq=>?_⟩
   ·exact r1 (by simpa using hq)
   ·obtain⟨x',y',e⟩:=r2 (by simpa using hq)
    exact⟨_,e,_,_,_,rfl⟩) ⟨_,_,_,rfl⟩
 have hr:aK (aa (fC (.int 2)) af) (bZ [.val (aE G T W),.val (ah P),.non,.non,.non])=some ([false,true].map fun b=>.int (sI b)):=gF (n:=2) rfl (by omega)
 refine aO ?_
 show gN [.val (aE G T W),.val (ah P),.non,.non,.non]=_
 unfold gN
 rw[Og]
 cases e0:DB false G T W P with
 | false =>
  have e:[false,true].find? (fun b=>!(DB b G T W P))=some false:=by rw[vR (by simp[e0])]
  exact dk (cF (f1 _ e) hr rfl)
 | true =>
  cases e1:DB true G T W P with
  | false =>
   have e:[false,true].find? (fun b=>!(DB b G T W P))=some true:=by rw[kM (by simp[e0]),vR (by simp[e1])]
   exact dk (cF (f1 _ e) hr rfl)
  | true =>
   have e:[false,true].find? (fun b=>!(DB b G T W P))=none:=by rw[kM (by simp[e0]),kM (by simp[e1])];rfl
   obtain⟨ρ',e',x,y,z,rfl⟩:=f2' e
   exact (aq (cF e' hr rfl)).trans (aV rfl)
end
theorem Sm.app{a b:List Int}(ha:Sm a)(hb:Sm b):Sm (a++b):=fun k=>by
 by_cases hk:k < a.length
 ·have:=ha k
  rwa [show (a++b).getD k 0=a.getD k 0 by simp[yS hk]]
 ·have:=hb (k - a.length)
  rwa [show (a++b).getD k 0=b.getD (k - a.length) 0 by simp[yT (by omega:a.length<=k)]]
theorem M8{x:Int}(h1:-1000000<=x)(h2:x<=1000000):Sm [x]:=fun k=>by
 cases k with
 | zero=>exact⟨h1,h2⟩
 | succ k=>simp
theorem Pk(n:Nat):Sm (zs n):=fun k=>by rw[L3];omega
section
variable {ns:List Int}{G T:List Pl}{W:List Wy}{at':Int}
def td(ns:List Int)(at':Int)(W:List Wy)(k:Nat):Int:=dr ns (at'+(k:Nat)) ((aR W k).2.2+1)
theorem C0(hl:ns.length<=63)(h:Wd G T W){k:Nat}(hk:k < W.length):0<=td ns at' W k/\td ns at' W k<=(aR W k).2.2:=by
 have:=(h.wr _ (zd hk)).2.2
 have h1:=L4 (ns:=ns) (at'+(k:Nat)) ((aR W k).2.2+1) hl (by omega)
 have h2:=Ms (ns:=ns) (at'+(k:Nat)) ((aR W k).2.2+1) hl (by omega)
 unfold td
 omega
def Ro:ar->Option Out:=(ay (aY 6 [0,1,3,4,5] (f2 aI (ae 3) (aN (aa (ai 3 ak (aa (ae 0) (aa (f2 aI (ae 1) (ae 4)) (aa (f2 aI (f2 av (ae 5) (fC (.int 2))) (fC (.int 1))) af)))) af)))) (ay (aY 7 [2,6] (ai 2 cY (aa (ae 2) (aa (f2 aI (ae 6) (f2 dM (aN (aa (fC (.int 0)) af)) (f2 Dl.cU (aZ aP (aa (f2 av (ae 2) (fC (.int 2))) af)) (aZ aP (aa (ae 6) af))))) af)))) (aY 3 [3,6,7] (Dd (fB (ae 7)) (ae 6) (f2 aI (ae 3) (aN (aa (fC (.int 0)) af)))))))
theorem nA{a b:List Int}(h:a.length+b.length<=1000):Dl.aI (ah a) (ah b)=some (ah (a++b)):=by
 unfold ah
 rw[Kg (by simp;omega),jA]
theorem qh{tc:Dl.Env->Option Bool}{fa fb:Dl.Env->Option D}{ρ:Dl.Env}{d:D}(h:tc ρ=some true)(ha:fa ρ=some d):Dd tc fa fb ρ=some d:=by
 simp only[Dd,h,zA,ha]
theorem wo{tc:Dl.Env->Option Bool}{fa fb:Dl.Env->Option D}{ρ:Dl.Env}{d:D}(h:tc ρ=some false)(ha:fb ρ=some d):Dd tc fa fb ρ=some d:=by
 simp only[Dd,h,zA,ha]
theorem OW(hl:ns.length<=63)(h:Wd G T W){k:Nat}(hk:k<=W.length):Sm (m7 (td ns at' W) G T W k):=fun j=>by
 by_cases hj:j < k
 ·have:=BD (d:=td ns at' W) (G:=G) (T:=T) (W:=W) (fun k hk=>C0 hl h hk) h.lim k hk j hj
  have:=(h.wr _ (zd (show j < W.length by omega))).2.2
  omega
 ·rw[zG,jM (by rw[nW];omega)]
  simp
theorem Kw(hl:ns.length<=63)(h:Wd G T W){k:Nat}(hk:k < W.length)(x y:Slot):∃x' y',Ro [.val (cw ns),.val (.int at'),.val (aE G T W),.val (ah (m7 (td ns at' W) G T W k)),.val (nD k),.val (aA (aR W k)),x,y]=some (.nx [.val (cw ns),.val (.int at'),.val (aE G T W),.val (ah (m7 (td ns at' W) G T W (k+1))),.val (nD k),.val (aA (aR W k)),x',y']):=by
 have hw:=h.wl
 have hr:=(h.wr _ (zd hk)).2.2
 have hsm:=OW (at':=at') hl h (jT hk)
 have hfl:=nW (d:=td ns at' W) (G:=G) (T:=T) (W:=W) k
 have hdb:=C0 (at':=at') hl h hk
 have e2:m7 (td ns at' W) G T W (k+1)=if tM G T W ((m7 (td ns at' W) G T W k++[td ns at' W k])++zs (W.length - (m7 (td ns at' W) G T W k++[td ns at' W k]).length))=true then m7 (td ns at' W) G T W k++[td ns at' W k] else m7 (td ns at' W) G T W k++[0]:=rfl
 rw[e2]
 clear e2
 generalize hf:m7 (td ns at' W) G T W k=f at hsm hfl ⊢
 generalize hd:td ns at' W k=d at hdb ⊢
 have ed:∀ρ:Dl.Env,ae 0 ρ=some (cw ns)->ae 1 ρ=some (.int at')->ae 4 ρ=some (nD k)->ae 5 ρ=some (aA (aR W k))->(ai 3 ak (aa (ae 0) (aa (f2 aI (ae 1) (ae 4)) (aa (f2 aI (f2 av (ae 5) (fC (.int 2))) (fC (.int 1))) af)))) ρ=some (.int d):=fun ρ a b c e=>by
  rw[<- hd]
  exact call_of (u4 (at'+((k:Nat):Int)) ((aR W k).2.2+1) hl (by omega)) (cons_of a (cons_of (ax (eF at' k) b c) (cons_of (ax (eF (aR W k).2.2 1) (ax (xi _) e rfl) rfl) rfl))) rfl
 have em:∀ρ:Dl.Env,ae 0 ρ=some (cw ns)->ae 1 ρ=some (.int at')->ae 3 ρ=some (ah f)->ae 4 ρ=some (nD k)->ae 5 ρ=some (aA (aR W k))->(f2 aI (ae 3) (aN (aa (ai 3 ak (aa (ae 0) (aa (f2 aI (ae 1) (ae 4)) (aa (f2 aI (f2 av (ae 5) (fC (.int 2))) (fC (.int 1))) af)))) af))) ρ=some (ah (f++[d])):=fun ρ a b z c e =>
  ax (nA (a:=f) (b:=[d]) (by simp;omega)) z (GT (ed ρ a b c e))
 have t6:Dl.aY 6 [0,1,3,4,5] (f2 aI (ae 3) (aN (aa (ai 3 ak (aa (ae 0) (aa (f2 aI (ae 1) (ae 4)) (aa (f2 aI (f2 av (ae 5) (fC (.int 2))) (fC (.int 1))) af)))) af))) [.val (cw ns),.val (.int at'),.val (aE G T W),.val (ah f),.val (nD k),.val (aA (aR W k)),x,y]=some (.nx [.val (cw ns),.val (.int at'),.val (aE G T W),.val (ah f),.val (nD k),.val (aA (aR W k)),.val (ah (f++[d])),y]) :=
  bY (em _ rfl rfl rfl rfl rfl) (em _ rfl rfl rfl rfl rfl) rfl
 have hlen:(f++[d]).length=k+1:=by simp[hfl]
 have hsub:((W.length:Nat):Int) - (((f++[d]).length:Nat):Int)=((W.length - (f++[d]).length:Nat):Int):=by omega
 have hwl:((f++[d])++zs (W.length - (f++[d]).length)).length=W.length:=by simp[zs,hfl];omega
 have hsl:Sm ((f++[d])++zs (W.length - (f++[d]).length)):=(hsm.app (M8 (by omega) (by omega))).app (Pk _)
 have ef:∀ρ:Dl.Env,ae 2 ρ=some (aE G T W)->ae 6 ρ=some (ah (f++[d]))->(ai 2 cY (aa (ae 2) (aa (f2 aI (ae 6) (f2 dM (aN (aa (fC (.int 0)) af)) (f2 Dl.cU (aZ aP (aa (f2 av (ae 2) (fC (.int 2))) af)) (aZ aP (aa (ae 6) af))))) af))) ρ=some (.bool (tM G T W ((f++[d])++zs (W.length - (f++[d]).length)))):=fun ρ a b=>by
  refine call_of (BZ h hwl hsl) (cons_of a (cons_of (ax (nA ?_) b (ax (QC (n:=W.length - (f++[d]).length) (by omega)) (GT rfl) ?_)) rfl)) rfl
  ·rw[<- zN,hwl];omega
  ·rw[show nD (W.length - (f++[d]).length)=.int (((W.length:Nat):Int) - (((f++[d]).length:Nat):Int)) by rw[hsub]]
   exact ax (sub_int _ _) (eP (l:=W) (k:=aA) (ax (g8 G T W) a rfl)) (eP (l:=f++[d]) (k:=PyData.int) b)
 have t7:Dl.aY 7 [2,6] (ai 2 cY (aa (ae 2) (aa (f2 aI (ae 6) (f2 dM (aN (aa (fC (.int 0)) af)) (f2 Dl.cU (aZ aP (aa (f2 av (ae 2) (fC (.int 2))) af)) (aZ aP (aa (ae 6) af))))) af))) [.val (cw ns),.val (.int at'),.val (aE G T W),.val (ah f),.val (nD k),.val (aA (aR W k)),.val (ah (f++[d])),y]=some (.nx [.val (cw ns),.val (.int at'),.val (aE G T W),.val (ah f),.val (nD k),.val (aA (aR W k)),.val (ah (f++[d])),.val (.bool (tM G T W ((f++[d])++zs (W.length - (f++[d]).length))))]) :=
  bY (ef _ rfl rfl) (ef _ rfl rfl) rfl
 unfold Ro
 rw[aq t6,aq t7]
 have h0:∀ρ:Dl.Env,ae 3 ρ=some (ah f)->(f2 aI (ae 3) (aN (aa (fC (.int 0)) af))) ρ=some (ah (f++[0])):=fun ρ z=>ax (nA (a:=f) (b:=[0]) (by simp;omega)) z (GT rfl)
 generalize tM G T W ((f++[d])++zs (W.length - (f++[d]).length))=fb
 cases fb with
 | true =>
  rw[yL rfl]
  exact⟨_,_,bY (qh (bo rfl) rfl) (qh (bo rfl) rfl) rfl⟩
 | false =>
  rw[yN (by simp)]
  exact⟨_,_,bY (wo (bo rfl) (h0 _ rfl)) (wo (bo rfl) (h0 _ rfl)) rfl⟩
theorem Et(W:List Wy):bP 0 (W.map aA)=(List.range' 0 W.length).map fun i=>.tuple [nD i,aA (aR W i)]:=by
 rw[<- yG,enum_zip]
 apply jH
 ·simp
 ·intro i h1 h2
  have:i < W.length:=by simpa using h2
  simp[m5 this]
theorem C4(hl:ns.length<=63)(h:Wd G T W):fM [cw ns,.int at',aE G T W]=some (ah (m7 (td ns at' W) G T W W.length)):=by
 have hw:=h.wl
 obtain⟨ρ',e,x4,x5,x6,x7,rfl⟩:=Dx (tgt:=gJ 4 5) (gb:=Ro) (fun i=>.tuple [nD i,aA (aR W i)]) (fun k ρ=>∃x4 x5 x6 x7,ρ=[.val (cw ns),.val (.int at'),.val (aE G T W),.val (ah (m7 (td ns at' W) G T W k)),x4,x5,x6,x7]) W.length 0 [.val (cw ns),.val (.int at'),.val (aE G T W),.val (ah []),.non,.non,.non,.non]
  (fun j ρ _ hj hρ=>by
   obtain⟨x4,x5,x6,x7,rfl⟩:=hρ
   obtain⟨x',y',e⟩:=Kw (at':=at') hl h (show j < W.length by omega) x6 x7
   exact⟨_,_,rfl,e,_,_,_,_,rfl⟩) ⟨_,_,_,_,rfl⟩
 refine aO ?_
 show gR [.val (cw ns),.val (.int at'),.val (aE G T W),.non,.non,.non,.non,.non]=_
 unfold gR
 have t3:Dl.aY 3 [] (aN af) [.val (cw ns),.val (.int at'),.val (aE G T W),.non,.non,.non,.non,.non]=some (.nx [.val (cw ns),.val (.int at'),.val (aE G T W),.val (ah []),.non,.non,.non,.non]) :=
  bY (tup_is (ds:=[]) rfl (by simp)) (tup_is (ds:=[]) rfl (by simp)) rfl
 rw[aq t3]
 have he:bO (aa (f2 av (ae 2) (fC (.int 2))) af) (bZ [.val (cw ns),.val (.int at'),.val (aE G T W),.val (ah []),.non,.non,.non,.non])=some ((List.range' 0 W.length).map fun i=>.tuple [nD i,aA (aR W i)]):=by
  rw[<- Et]
  rfl
 rw[jD] at e
 exact (aq (cF e he rfl)).trans (aV rfl)
theorem KD(hl:ns.length<=63)(h:Wd G T W):Pn G T W (m7 (td ns at' W) G T W W.length):=Of h fun k hk=>C0 hl h hk
end
section
variable {G T:List Pl}{W:List Wy}
theorem fF:∀ {l:List D},(∀d∈l,PyData.eqv d d=true)->PyData.eqvAll l l=true
 | [],_=>by simp[PyData.eqvAll]
 | d::l,h=>by
  rw[PyData.eqvAll,h d zE,fF fun x hx=>h x (zC _ hx)]
  rfl
theorem Kc{l:List D}(h:∀d∈l,PyData.eqv d d=true):PyData.eqv (.tuple l) (.tuple l)=true:=by
 rw[PyData.eqv,fF h]
theorem Nz(a:List Int):PyData.eqv (ah a) (ah a)=true:=by rw[Bo];simp
theorem Cq(a:Int):PyData.eqv (.int a) (.int a)=true:=by
 have:=Nz [a]
 rw[ah,PyData.eqv,zI,yU,PyData.eqvAll] at this
 simp only[zF] at this
 exact this.1
theorem FF(a:Bool):dv (.bool a) (.bool a)=some (.bool false):=by cases a<;>simp[dv,Kh,SeqAt.shaped,PyData.canLay0,PyData.depth,PyData.eqv]
theorem KJ(a:Int):dv (.int a) (.int a)=some (.bool false):=by
 have hs:SeqAt.shaped (.int a)=true:=(ja (b:=1) (k:=0) a).shaped (by decide)
 simp only[dv,Kh,hs,jP,xH,Cq,zB,xY]
theorem rC(h:Wd G T W):bh [aE G T W]=some (.bool true):=by rw[mO h.fit (by decide),h.wok]
end
section
variable {W:List Wy}{G T:List Pl}{P off:List Int}
end
def sm(l:List Nat)(f:Nat->Int):Int:=(l.map f).sum
def ch(m:Nat->Int):Int->List Nat->Nat->Int
 | _,[],_=>0
 | a,q::r,k=>if k=q then min (m q) a else ch m (a - min (m q) a) r k
def up:List Nat->Nat->List Nat
 | [],_=>[]
 | q::r,k=>if k=q then [q] else q::up r k
def lst(b:Bool)(G T:List Pl)(W:List Wy)(i:Nat):List Nat:=j1 b W i (gK b G T i).2
def amt(b:Bool)(G T:List Pl)(i:Nat):Int:=(gK b G T i).1
def vl(P:List Int)(q:Nat):Int:=P.getD q 0
section
variable {G T:List Pl}{W:List Wy}{P X c off:List Int}{b:Bool}{i k q:Nat}
end
section
variable {G T:List Pl}{W:List Wy}{P X c off:List Int}{b:Bool}{i k q:Nat}
end
section
variable {G T:List Pl}{W:List Wy}{P X c off:List Int}{b:Bool}{i k q:Nat}{v:Int}
end
section
variable {G T:List Pl}{W:List Wy}{P X c off:List Int}{b:Bool}{i k q:Nat}{π:List Nat}
end
section
variable {G T:List Pl}{W:List Wy}{P X:List Int}{b:Bool}{i:Nat}
end
theorem ie{f:Dl.Env->Option (List D)}{ρ:Dl.Env}{ds:List D}(h:f ρ=some ds):bR f ρ=some (.list ds):=by
 simp only[bR,h,zB]
theorem yl{f:Dl.Env->Option D}{ρ:Dl.Env}{ds:List D}(h:f ρ=some (.tuple ds)):bL f ρ=some ds:=by
 simp only[bL,h,zA,g0]
theorem rO{fs:Dl.Env->Option (List D)}{ρ:Dl.Env}{ds:List D}(h:fs ρ=some ds)(hl:ds.length<=1000):b0 fs ρ=some ds:=by
 simp only[b0,h,zA,bQ (show ds.length<=4000 by omega)]
theorem nil_of(ρ:Dl.Env):bR (b0 af) ρ=some (.list []):=ie (rO (ds:=[]) rfl (by simp))
theorem Dt{t u:Dl.Env->Option Bool}{ρ:Dl.Env}(h:t ρ=some false):dw t u ρ=some false:=by
 simp only[dw,h,zA]
theorem AZ{t u:Dl.Env->Option Bool}{ρ:Dl.Env}{b:Bool}(h:t ρ=some true)(h2:u ρ=some b):dw t u ρ=some b:=by
 simp only[dw,h,zA,h2]
theorem HM(l:List Nat):PyData.eqvAll (l.map nD) (l.map nD)=true:=fF fun d hd=>by
 obtain⟨i,_,rfl⟩:=List.mem_map.mp hd
 exact Cq _
theorem lJ{l:List Nat}:SeqAt.shaped (.list (l.map nD))=true :=
 (iu.lst (b:=l.length) (k:=0) (by simp) fun x hx=>by obtain⟨i,_,rfl⟩:=List.mem_map.mp hx;exact ja _).shaped (by decide)
theorem Ff(l:List Nat):dv (.list (l.map nD)) (.list (l.map nD))=some (.bool false):=by
 simp only[dv,Kh,lJ,jP,xH,PyData.eqv,HM,zB,xY]
theorem FD(l:List Nat):ba (.list (l.map nD)) (.list [])=some (.bool (decide (l=[]))):=by
 have h0:SeqAt.shaped (.list [])=true:=lJ (l:=[])
 have e:(l.map nD).isEmpty=decide (l=[]):=by cases l<;>rfl
 simp only[ba,MB,lJ,h0,jP,xH,PyData.eqv,rz,e,zB]
theorem A4{ρ:Dl.Env}{f g:Dl.Env->Option D}{G T:List Pl}{W:List Wy}{b:Bool}(hf:f ρ=some (aE G T W))(hg:g ρ=some (.int (sI b))):(aa (aZ aP (aa (f2 av f g) af)) af) ρ=some [nD (bA b G T).length] :=
 cons_of (eP (l:=bA b G T) (k:=br) (ax (eI b G T W) hf hg)) rfl
section
variable {G T:List Pl}{W:List Wy}{P X:List Int}
end
section
variable {G T:List Pl}{W:List Wy}{P X c:List Int}{b:Bool}{k:Nat}
end
structure Wk(G T G' T':List Pl):Prop where
 len:∀b,(bA b G' T').length=(bA b G T).length
 lik:∀b i,(gK b G' T' i).2=(gK b G T i).2
 gv:∀i,amt false G' T' i<=amt false G T i
 tk:∀i,amt true G T i<=amt true G' T' i
section
variable {G T G' T':List Pl}{W:List Wy}{P X c:List Int}{b:Bool}{i k q:Nat}{v:Int}
end
section
variable {G T G' T':List Pl}{W:List Wy}{P X off:List Int}{b:Bool}{i j k:Nat}{a:Int}
theorem rJ(h:Wd G T W)(b:Bool)(hi:i < (bA b G T).length):cn [aE G T W,.int (sI b),nD i]=some .none:=by
 have:dB [.val (aE G T W),.val (.int (sI b)),.val (nD i)]=some (.nx [.val (aE G T W),.val (.int (sI b)),.val (nD i)]):=by
  unfold dB
  refine (aq (dq (call_of (nH b) rfl rfl))).trans ?_
  exact dq (call_of (cX (n:=((bA b G T).length:Nat)) (i:=(i:Nat)) (by omega) (by omega)) (cons_of rfl (cons_of (eP (l:=bA b G T) (k:=br) (ax (eI b G T W) rfl rfl)) rfl)) rfl)
 show (dB [.val (aE G T W),.val (.int (sI b)),.val (nD i)]).map _=_
 rw[this]
 rfl
theorem Fd(h:Wd G T W)(ho:off.length=W.length)(hi:i < (bA b G T).length):fy [aE G T W,.int (sI b),nD i,ah off]=some (ah (OZ W off (amt b G T i) (lst b G T W i))):=by
 have e:=AJ h ho (GP hi)
 refine aO ?_
 show nJ [.val (aE G T W),.val (.int (sI b)),.val (nD i),.val (ah off)]=_
 unfold nJ
 refine (aq (dq (call_of (ik h) rfl rfl))).trans ?_
 refine (aq (dq (call_of (rJ h b hi) rfl rfl))).trans ?_
 exact aV (call_of e rfl rfl)
end
section
variable {G T:List Pl}{W:List Wy}{P X:List Int}
def ext(l:Int)(r:List Int):List (List Int):=(List.range (l+1).toNat).map fun m=>r++[((m:Nat):Int)]
theorem rK{α:Type}{tt:Dl.Env->Option Bool}{te:Dl.Env->Option D}{r:List (Option D)}{g f:α->D}{q:α->Bool}:∀ (l:List α),(∀x∈l,tt (some (g x)::r)=some (q x)/\(q x=true->te (some (g x)::r)=some (f x)))->dz (fG 0) tt te (none::r) (l.map g)=some ((l.filter q).map f)
 | [],_=>rfl
 | x::l,h=>by
  have ih:=rK (tt:=tt) (te:=te) (r:=r) (g:=g) (f:=f) (q:=q) l fun y hy=>h y (zC _ hy)
  obtain⟨h1,h2⟩:=h x zE
  have hg:fG 0 (none::r) (g x)=some (some (g x)::r):=rfl
  rw[zI,dz,hg,zA,h1,zA,jX]
  cases e:q x with
  | true =>
   rw[yL rfl,yL rfl,h2 e,zA,ih]
   rfl
  | false =>
   rw[yN (by simp),yN (by simp),ih]
theorem Fv{α:Type}{cs:List Nat}{fi:Dl.Env->Option (List D)}{tt:Dl.Env->Option Bool}{te:Dl.Env->Option D}{ρ:Dl.Env}{l:List α}{g f:α->D}{q:α->Bool}(hfi:fi ρ=some (l.map g))(hl:l.length<=3000)(hh:∀x∈l,tt (some (g x)::cs.map fun j=>(ρ[j]?).getD none)=some (q x)/\(q x=true->te (some (g x)::cs.map fun j=>(ρ[j]?).getD none)=some (f x))):au 1 cs fi (fG 0) tt te ρ=some ((l.filter q).map f):=by
 have:=rK l hh
 simp only[au,hfi,zA,fJ,List.replicate,xF,xO,this]
 refine bQ ?_
 rw[zD]
 refine yC (xP _ _) ?_
 omega
theorem FK{α:Type}{cs:List Nat}{fi:Dl.Env->Option (List D)}{tt:Dl.Env->Option Bool}{te:Dl.Env->Option D}{ρ:Dl.Env}{l:List α}{g f:α->D}{q:α->Bool}(hfi:fi ρ=some (l.map g))(hl:l.length<=1000)(hh:∀x∈l,tt (some (g x)::cs.map fun j=>(ρ[j]?).getD none)=some (q x)/\(q x=true->te (some (g x)::cs.map fun j=>(ρ[j]?).getD none)=some (f x))):au 1 cs fi (fG 0) tt te ρ=some ((l.filter q).map f):=Fv hfi (by omega) hh
end
section
variable {G T:List Pl}{W:List Wy}{P X:List Int}{b:Bool}{i k q:Nat}
end
section
variable {G T:List Pl}{W:List Wy}{P X:List Int}{b:Bool}{i k:Nat}
end
section
variable {G T:List Pl}{W:List Wy}{P X:List Int}
theorem Ea{L:List Int}{x:Int}(h:x∈L):jh (ah L) (.int x)=some (nD (sY L x)):=by
 show (intsOf (L.map PyData.int)).bind _=_
 rw[cG,zA,lU h]
 rfl
theorem IE{L:List Int}{x:Int}(h:x∈L):sY L x < L.length:=kN ⟨x,h,by simp⟩
theorem HW{L:List Int}{x:Int}(h:x∈L):L[sY L x]?=some x:=by
 have hl:=IE h
 have:=List.findIdx_getElem (xs:=L) (p:=fun o=>decide (o=x)) (w:=hl)
 rw[zK hl]
 exact jC some (yQ this)
theorem D3{L:List Int}(hn:L.Nodup){n:Nat}{x:Int}:x∈L.drop n↔x∈L/\n<=sY L x:=by
 constructor
 ·intro h
  have hm:=List.mem_of_mem_drop h
  refine⟨hm,?_⟩
  obtain⟨m,hm1,hm2⟩:=qQ h
  rw[List.getElem_drop] at hm2
  have h1:L[n+m]?=some x:=by rw[zK (by rw[qH] at hm1;omega),hm2]
  have h2:=HW hm
  have:n+m=sY L x:=by
   have hl:=IE hm
   exact (List.getElem?_inj (by rw[qH] at hm1;omega) hn).mp (h1.trans h2.symm)
  omega
 ·rintro⟨hm,hle⟩
  have h2:=HW hm
  have:(L.drop n)[sY L x - n]?=some x:=by rw[List.getElem?_drop,show n+(sY L x - n)=sY L x by omega];exact h2
  exact qB this
def J4(b:Bool)(W:List Wy)(P L:List Int)(j:Int)(o:Int)(i:Nat):Bool:=decide (bj b (aR W i)=j)&&(decide (0 < P.getD i 0)&&decide (sY L o < sY L (cP b (aR W i))))
theorem NT(h:Wd G T W){b:Bool}{j:Nat}{pl:Pl}(e:(bA b G T)[j]?=some pl)(o:Int):(List.range W.length).any (J4 b W P pl.2 j o)=(pl.2.drop (sY pl.2 o+1)).any fun o=>decide (0 < P.getD (qp b W j o) 0):=by
 have hn:pl.2.Nodup:=by
  have:=(gG h e).nodup_iff.mpr (List.nodup_range.filter _)
  unfold j1 at this
  exact List.Pairwise.of_map _ (fun a b hab e=>hab (jC _ e)) this
 rw[kY,List.any_eq_true,List.any_eq_true]
 constructor
 ·rintro⟨i,hi,hq⟩
  unfold J4 at hq
  simp only[zF,zJ] at hq
  obtain⟨h1,h2,h3⟩:=hq
  have hi':i < W.length:=by simpa using hi
  have io:i∈own b W j:=gT.mpr ⟨hi',h1⟩
  have ip:=(gG h e).mem_iff.mpr io
  unfold j1 at ip
  obtain⟨y,hy,hyi⟩:=List.mem_map.mp ip
  have hyo:=(gO h e hy).2.2
  rw[hyi] at hyo
  refine⟨y,(D3 hn).mpr ⟨hy,by rw[<- hyo];omega⟩,?_⟩
  rw[hyi]
  simpa using h2
 ·rintro⟨y,hy,hq⟩
  obtain⟨hm,hle⟩:=(D3 hn).mp hy
  obtain⟨h1,h2,h3⟩:=gO h e hm
  refine⟨qp b W j y,by simpa using h1,?_⟩
  unfold J4
  rw[h3]
  simp only[zF,zJ] at hq ⊢
  exact⟨h2,hq,by omega⟩
def Su:ar->Option Out:=(dW (dw (fB (f2 ba (f2 av (ae 7) (ae 2)) (ae 3))) (dw (fB (f2 tm (ae 6) (fC (.int 0)))) (fB (f2 tm (f2 jh (ae 5) (f2 av (ae 7) (f2 Dl.cU (fC (.int 1)) (ae 2)))) (f2 jh (ae 5) (ae 4)))))) (aM (fC (.bool true))) du)
theorem pD(h:Wd G T W)(hp:P.length=W.length)(hs:Sm P)(b:Bool){k:Nat}(hk:k < W.length):cH [aE G T W,ah P,.int (sI b),.int (bj b (aR W k)),.int (cP b (aR W k))]=some (.bool (BA b G T W P k)):=by
 have hw:=h.wl
 obtain⟨z1,z2,z3⟩:=h.end_pl b hk
 have hx:(bA b G T)[(bj b (aR W k)).toNat]?=some (gK b G T (bj b (aR W k)).toNat):=by
  rw[zK z2]
  simp[gK,z2]
 have hmem:∀i,i < W.length->bj b (aR W i)=((bj b (aR W k)).toNat:Int)->cP b (aR W i)∈(gK b G T (bj b (aR W k)).toNat).2:=fun i hi he=>by
  have io:i∈own b W ((bj b (aR W k)).toNat:Int):=gT.mpr ⟨hi,he⟩
  have ip:=(gG h hx).mem_iff.mpr io
  unfold j1 at ip
  obtain⟨y,hy,hyi⟩:=List.mem_map.mp ip
  have hyo:=(gO h hx hy).2.2
  rw[hyi] at hyo
  rw[hyo]
  exact hy
 have hko:=hmem k hk z3.symm
 have hany:=NT (P:=P) h hx (cP b (aR W k))
 have hm:BA b G T W P k=(decide (nc b W P ((bj b (aR W k)).toNat:Int) < (gK b G T (bj b (aR W k)).toNat).1)||((gK b G T (bj b (aR W k)).toNat).2.drop (sY (gK b G T (bj b (aR W k)).toNat).2 (cP b (aR W k))+1)).any fun o=>decide (0 < P.getD (qp b W ((bj b (aR W k)).toNat:Int) o) 0)):=by
  unfold BA
  rw[z3]
 rw[hm,<- hany]
 have ez:PyData.int (bj b (aR W k))=nD (bj b (aR W k)).toNat:=by show _=PyData.int _;rw[z3]
 rw[ez]
 generalize hpl:gK b G T (bj b (aR W k)).toNat=pl at *
 generalize hj:(bj b (aR W k)).toNat=j at *
 generalize ho:cP b (aR W k)=o at *
 clear hm hany ez
 have ep:av (.tuple ((bA b G T).map br)) (nD j)=some (br pl):=mJ hx
 refine aO ?_
 show fU [.val (aE G T W),.val (ah P),.val (.int (sI b)),.val (nD j),.val (.int o),.non,.non,.non]=_
 unfold fU
 have ct:(fB (f2 yc (ai 4 bx (aa (ae 0) (aa (ae 1) (aa (ae 2) (aa (ae 3) af))))) (f2 av (f2 av (f2 av (ae 0) (ae 2)) (ae 3)) (fC (.int 0))))) (aJ [.val (aE G T W),.val (ah P),.val (.int (sI b)),.val (nD j),.val (.int o),.non,.non,.non])=some (decide (nc b W P j < pl.1)):=by
  refine bo (ax (lS _ _) (call_of (mW h hp hs b j) rfl rfl) ?_)
  exact ax (a:=br pl) (b:=.int 0) rfl (ax ep (ax (eI b G T W) rfl rfl) rfl) rfl
 cases hc:decide (nc b W P j < pl.1) with
 | true =>
  rw[hc] at ct
  exact dk ((bB ct).trans (aV rfl))
 | false =>
  rw[hc] at ct
  rw[aq (aH ct),Bool.false_or]
  have er:∀ρ:Dl.Env,ae 0 ρ=some (aE G T W)->ae 2 ρ=some (.int (sI b))->ae 3 ρ=some (nD j)->(f2 av (f2 av (f2 av (ae 0) (ae 2)) (ae 3)) (fC (.int 1))) ρ=some (ah pl.2):=fun ρ h0 h2 h3=>ax (a:=br pl) (b:=.int 1) rfl (ax ep (ax (eI b G T W) h0 h2) h3) rfl
  rw[aq (bY (er _ rfl rfl rfl) (er _ rfl rfl rfl) rfl)]
  obtain⟨f1,f2'⟩:=gn (tgt:=gJ 6 7) (gb:=Su) (fun ρ=>∃x y,ρ=[.val (aE G T W),.val (ah P),.val (.int (sI b)),.val (nD j),.val (.int o),.val (ah pl.2),x,y]) (fun i:Nat=>.tuple [.int (P.getD i 0),aA (aR W i)]) (J4 b W P pl.2 j o) (fun _=>.bool true)
   (l:=List.range W.length) (ρ:=[.val (aE G T W),.val (ah P),.val (.int (sI b)),.val (nD j),.val (.int o),.val (ah pl.2),.non,.non])
   (fun ρ i hi hρ=>by
    obtain⟨x,y,rfl⟩:=hρ
    have hi':i < W.length:=by simpa using hi
    have c:(dw (fB (f2 ba (f2 av (ae 7) (ae 2)) (ae 3))) (dw (fB (f2 tm (ae 6) (fC (.int 0)))) (fB (f2 tm (f2 jh (ae 5) (f2 av (ae 7) (f2 Dl.cU (fC (.int 1)) (ae 2)))) (f2 jh (ae 5) (ae 4)))))) (aJ [.val (aE G T W),.val (ah P),.val (.int (sI b)),.val (nD j),.val (.int o),.val (ah pl.2),.val (.int (P.getD i 0)),.val (aA (aR W i))])=some (J4 b W P pl.2 j o i):=by
     have c1:(fB (f2 ba (f2 av (ae 7) (ae 2)) (ae 3))) (aJ [.val (aE G T W),.val (ah P),.val (.int (sI b)),.val (nD j),.val (.int o),.val (ah pl.2),.val (.int (P.getD i 0)),.val (aA (aR W i))])=some (decide (bj b (aR W i)=((j:Nat):Int))):=bo (ax (cA _ _) (ax (l8 b _) rfl rfl) rfl)
     unfold J4
     cases e1:decide (bj b (aR W i)=((j:Nat):Int)) with
     | false=>rw[e1] at c1;exact Dt c1
     | true =>
      rw[e1] at c1
      refine AZ c1 ?_
      have c2:(fB (f2 tm (ae 6) (fC (.int 0)))) (aJ [.val (aE G T W),.val (ah P),.val (.int (sI b)),.val (nD j),.val (.int o),.val (ah pl.2),.val (.int (P.getD i 0)),.val (aA (aR W i))])=some (decide (0 < P.getD i 0)):=bo (ax (eZ _ _) rfl rfl)
      cases e2:decide (0 < P.getD i 0) with
      | false=>rw[e2] at c2;exact Dt c2
      | true =>
       rw[e2] at c2
       refine AZ c2 ?_
       have hio:=hmem i hi' (by simpa using e1)
       have hway:av (aA (aR W i)) (.int (1 - sI b))=some (.int (cP b (aR W i))):=by cases b<;>rfl
       refine (bo (ax (eZ _ _) (ax (Ea hio) rfl (ax hway rfl (ax (sub_int 1 (sI b)) rfl rfl))) (ax (Ea hko) rfl rfl))).trans ?_
       congr 1
       exact decide_eq_decide.mpr (by omega)
    refine⟨_,rfl,fun hq=>?_,fun hq=>?_⟩
    ·rw[hq] at c
     exact (bB c).trans (aV rfl)
    ·rw[hq] at c
     exact⟨_,aH c,_,_,rfl⟩) ⟨_,_,rfl⟩
  have hz:gD (aa (ae 1) (aa (f2 av (ae 0) (fC (.int 2))) af)) (bZ [.val (aE G T W),.val (ah P),.val (.int (sI b)),.val (nD j),.val (.int o),.val (ah pl.2),.non,.non])=some ((List.range W.length).map fun i=>.tuple [.int (P.getD i 0),aA (aR W i)]):=by
   rw[<- rq hp]
   rfl
  cases ef:(List.range W.length).find? (J4 b W P pl.2 j o) with
  | some i =>
   have:(List.range W.length).any (J4 b W P pl.2 j o)=true:=List.any_eq_true.mpr ⟨i,jY ef,List.find?_some ef⟩
   rw[this]
   exact dk (cF (f1 i ef) hz rfl)
  | none =>
   have:(List.range W.length).any (J4 b W P pl.2 j o)=false:=by
    rw[List.any_eq_false]
    exact List.find?_eq_none.mp ef
   rw[this]
   obtain⟨ρ',e',x',y',rfl⟩:=f2' ef
   exact (aq (cF e' hz rfl)).trans (aV rfl)
theorem JB{i j l:Nat}{fz:List Nat}{f:Dl.Env->Option D}{ρ:ar}{x y z:D}(hf:f (bZ ρ)=some (.tuple [x,y,z]))(hh:hand fz 0 ρ=ρ):oN i j l fz f ρ=some (.nx (((ρ.set i (.val x)).set j (.val y)).set l (.val z))):=by
 unfold oN
 rw[hh,hf,zA]
 show some (Out.nx ((((if _ then ρ else ρ).set i _).set j _).set l _))=_
 rw[ite_self]
theorem FM(h:Wd G T W)(hp:P.length=W.length)(hs:Sm P){k:Nat}(hk:k < W.length):eM [aE G T W,ah P,nD k]=some (dF (iH G T W P k)):=by
 refine aO ?_
 show i6 [.val (aE G T W),.val (ah P),.val (nD k),.non,.non,.non]=_
 unfold i6 iH
 have hw:(f2 av (f2 av (ae 0) (fC (.int 2))) (ae 2)) (bZ [.val (aE G T W),.val (ah P),.val (nD k),.non,.non,.non])=some (.tuple [.int (aR W k).1,.int (aR W k).2.1,.int (aR W k).2.2]):=ax (o6 hk) rfl rfl
 refine (aq (JB hw rfl)).trans ?_
 have c1:(fB (f2 ba (f2 av (ae 1) (ae 2)) (ae 5))) (aJ [.val (aE G T W),.val (ah P),.val (nD k),.val (.int (aR W k).1),.val (.int (aR W k).2.1),.val (.int (aR W k).2.2)])=some (decide (P.getD k 0=(aR W k).2.2)):=bo (ax (cA _ _) (ax (rF (by rw[hp];exact hk)) rfl rfl) rfl)
 have w0:=pD h hp hs false hk
 have w1:=pD h hp hs true hk
 have c2:(bE (fB (ai 5 cH (aa (ae 0) (aa (ae 1) (aa (fC (.int 0)) (aa (ae 3) (aa (ae 4) af)))))))) (aJ [.val (aE G T W),.val (ah P),.val (nD k),.val (.int (aR W k).1),.val (.int (aR W k).2.1),.val (.int (aR W k).2.2)])=some (!(BA false G T W P k)):=cy (bo (call_of w0 rfl rfl))
 have c3:(fB (ai 5 cH (aa (ae 0) (aa (ae 1) (aa (fC (.int 1)) (aa (ae 4) (aa (ae 3) af))))))) (aJ [.val (aE G T W),.val (ah P),.val (nD k),.val (.int (aR W k).1),.val (.int (aR W k).2.1),.val (.int (aR W k).2.2)])=some (BA true G T W P k):=bo (call_of w1 rfl rfl)
 by_cases e1:P.getD k 0=(aR W k).2.2
 ·rw[zZ e1] at c1
  rw[yL e1]
  exact dk ((bB c1).trans (aV rfl))
 ·rw[zY e1] at c1
  rw[yN e1]
  refine (aq (aH c1)).trans ?_
  cases e2:BA false G T W P k with
  | false =>
   rw[e2] at c2
   rw[yL rfl]
   exact dk ((bB c2).trans (aV rfl))
  | true =>
   rw[e2] at c2
   rw[yN (by simp)]
   refine (aq (aH c2)).trans ?_
   cases e3:BA true G T W P k with
   | false =>
    rw[e3] at c3
    rw[yL rfl]
    exact aV (wo c3 rfl)
   | true =>
    rw[e3] at c3
    rw[yN (by simp)]
    exact aV (qh c3 rfl)
end
def sh(k q:Nat):Nat:=if q < k then q else q+1
def nk(k:Nat):Nat->Bool:=fun q=>!decide (q=k)
section
variable {G T:List Pl}{W:List Wy}{P X:List Int}{b:Bool}{i k q:Nat}
theorem of_map(b:Bool)(i:Int):∀ {W V:List Wy},W.map (fun w=>(w.1,w.2.1))=V.map (fun w=>(w.1,w.2.1))->(W.filter fun w=>decide (bj b w=i)).map (cP b)=(V.filter fun w=>decide (bj b w=i)).map (cP b)
 | [],[],_=>rfl
 | [],_::_,e=>by cases e
 | _::_,[],e=>by cases e
 | w::W,v::V,e=>by
  simp only[zI,kX,Prod.mk.injEq] at e
  have e1:bj b w=bj b v:=by cases b<;>simp[bj,e.1]
  have e2:cP b w=cP b v:=by cases b<;>simp[cP,bj,e.1]
  have ih:=of_map b i (W:=W) (V:=V) e.2
  rw[jX,jX,e1]
  split
  ·rw[zI,zI,ih,e2]
  ·exact ih
end
section
variable {G T:List Pl}{W:List Wy}{P X Y:List Int}{b:Bool}{i k:Nat}
theorem iT{a c:List Int}(h:lexLt a c=false)(h2:lexLt c a=false):a=c:=rM (by unfold lexLe;rw[h2];rfl) (by unfold lexLe;rw[h];rfl)
end
section
open Ex
abbrev Pz:Str:="NoWorld"
abbrev QT:Str:="NoPlan"
abbrev L7:Str:="NoPlace"
structure j5(m:List D->Option D)(x:List D->Option Str)(ds:List D)(c:Str):Prop where
 n:m ds=none
 x:x ds=some c
structure JS(m:List D->Option D)(x:List D->Option Str)(ds:List D):Prop where
 n:m ds=some .none
 x:x ds=none
section
variable {m:List D->Option D}{x:List D->Option Str}{ds:List D}{c:Str}{n:Nat}{fs:Dl.Env->Option (List D)}{ρ:ar}
theorem AI(h:m ds=none){ρ:Dl.Env}(hf:fs ρ=some ds):ai n m fs ρ=none:=by
 unfold ai
 rw[hf,zA,h]
 simp
theorem Qz(h:x ds=some c){ρ:Dl.Env}(hf:fs ρ=some ds)(hn:ds.length=n):mh n x fs ρ=some c:=by
 unfold mh
 rw[hf,zA,yL hn,h]
theorem Sr(h:x ds=none){ρ:Dl.Env}(hf:fs ρ=some ds):mh n x fs ρ=none:=by
 unfold mh
 rw[hf,zA,h]
 simp
theorem Rc{f:Dl.Env->Option D}(h:f (aJ ρ)=none):cQ f ρ=none:=by
 unfold cQ
 rw[h]
 rfl
theorem j5.one(B:j5 m x ds c)(hf:fs (aJ ρ)=some ds)(hn:ds.length=n):cQ (ai n m fs) ρ=none/\eE (mh n x fs) ρ=some c:=⟨Rc (AI B.n hf),Qz B.x hf hn⟩
theorem JS.one(B:JS m x ds)(hf:fs (aJ ρ)=some ds)(hn:ds.length=n):cQ (ai n m fs) ρ=some (.nx ρ)/\eE (mh n x fs) ρ=none:=⟨dq (call_of B.n hf hn),Sr B.x hf⟩
theorem j5.head(B:j5 m x ds c)(hf:fs (aJ ρ)=some ds)(hn:ds.length=n){g:ar->Option Out}{xr:XS}:ay (cQ (ai n m fs)) g ρ=none/\dC (eE (mh n x fs)) (cQ (ai n m fs)) xr ρ=some c:=by
 obtain⟨a,b⟩:=B.one hf hn
 constructor
 ·unfold ay
  rw[a]
  rfl
 ·unfold dC
  rw[b]
theorem JS.tail(B:JS m x ds)(hf:fs (aJ ρ)=some ds)(hn:ds.length=n){g:ar->Option Out}{xr:XS}:ay (cQ (ai n m fs)) g ρ=g ρ/\dC (eE (mh n x fs)) (cQ (ai n m fs)) xr ρ=xr ρ:=by
 obtain⟨a,b⟩:=B.one hf hn
 constructor
 ·exact aq a
 ·unfold dC II
  rw[b,a]
  rfl
theorem runN{g:ar->Option Out}{n:Nat}(h:g (ds.map Slot.val++List.replicate (n - ds.length) .non)=none):bD g n ds=none:=by
 unfold bD
 rw[h]
 rfl
theorem OY{t:Dl.Env->Option Bool}{xa xb:XS}(h:t (aJ ρ)=some true):F9 t xa xb ρ=xa ρ:=by
 unfold F9
 rw[h,zA,yL rfl]
theorem pP{t:Dl.Env->Option Bool}{xa xb:XS}(h:t (aJ ρ)=some false):F9 t xa xb ρ=xb ρ:=by
 unfold F9
 rw[h,zA,yN (by simp)]
end
section
variable {G T:List Pl}{W:List Wy}{P X:List Int}{b:Bool}{i:Nat}
theorem Nq{d:D}(h:bh [d]=some (.bool false)):j5 bp bT [d] Pz:=by
 have c:(bE (fB (ai 1 bh (aa (ae 0) af)))) (aJ [.val d])=some true:=cy (b:=false) (bo (call_of h rfl rfl))
 exact⟨runN (bB c),OY c⟩
theorem QS(h:Wd G T W):JS bp bT [aE G T W]:=⟨ik h,pP (cy (b:=true) (bo (call_of (rC h) rfl rfl)))⟩
theorem NK{d p:D}(h:bh [d]=some (.bool false)):j5 az aG [d,p] Pz :=
 let z:=(Nq h).head (ρ:=[.val d,.val p]) (fs:=aa (ae 0) af) rfl rfl
 ⟨runN z.1,z.2⟩
theorem Q9{p:D}(h:Wd G T W)(hp:cN [aE G T W,p]=some (.bool false)):j5 az aG [aE G T W,p] QT:=by
 have c:(bE (fB (ai 2 cN (aa (ae 0) (aa (ae 1) af))))) (aJ [.val (aE G T W),.val p])=some true:=cy (b:=false) (bo (call_of hp rfl rfl))
 exact⟨runN (((QS h).tail (ρ:=[.val (aE G T W),.val p]) (fs:=aa (ae 0) af) rfl rfl (xr:=mf)).1.trans (bB c)),((QS h).tail (ρ:=[.val (aE G T W),.val p]) (fs:=aa (ae 0) af) rfl rfl (g:=du)).2.trans (OY c)⟩
theorem QX(h:Wd G T W)(p:Pn G T W P):JS az aG [aE G T W,ah P] :=
 ⟨dh h p,((QS h).tail (ρ:=[.val (aE G T W),.val (ah P)]) (fs:=aa (ae 0) af) rfl rfl (g:=du)).2.trans (pP (cy (b:=true) (bo (call_of (mF h p) rfl rfl))))⟩
theorem Ri{d:D}{a e:Int}(hd:gm d=true)(h:whole a e d=false):j5 cO dG [d,.int a,.int e] L7:=by
 have c:(bE (fB (ai 3 aS (aa (ae 0) (aa (ae 1) (aa (ae 2) af)))))) (aJ [.val d,.val (.int a),.val (.int e)])=some true:=cy (b:=false) (bo (call_of ((dQ hd a e).trans (by rw[h])) rfl rfl))
 exact⟨runN (bB c),OY c⟩
theorem SD{d:D}{a e:Int}(hd:gm d=true)(h:whole a e d=true):JS cO dG [d,.int a,.int e]:=by
 have c:(bE (fB (ai 3 aS (aa (ae 0) (aa (ae 1) (aa (ae 2) af)))))) (aJ [.val d,.val (.int a),.val (.int e)])=some false:=cy (b:=true) (bo (call_of ((dQ hd a e).trans (by rw[h])) rfl rfl))
 refine⟨?_,pP c⟩
 show (cm [.val d,.val (.int a),.val (.int e)]).map _=_
 rw[show cm [.val d,.val (.int a),.val (.int e)]=some (.nx [.val d,.val (.int a),.val (.int e)]) from aH c]
 rfl
theorem IV{d:D}{n:Int}(hd:gm d=true)(h:whole 0 (n - 1) d=false):j5 aB aD [d,.int n] L7 :=
 let z:=(Ri hd h).one (ρ:=[.val d,.val (.int n)]) (fs:=aa (ae 0) (aa (fC (.int 0)) (aa (f2 Dl.cU (ae 1) (fC (.int 1))) af))) (n:=3) rfl rfl
 ⟨runN z.1,z.2⟩
theorem okN{d:D}{n:Int}(hd:gm d=true)(h:whole 0 (n - 1) d=true):JS aB aD [d,.int n]:=by
 have z:=(SD hd h).one (ρ:=[.val d,.val (.int n)]) (fs:=aa (ae 0) (aa (fC (.int 0)) (aa (f2 Dl.cU (ae 1) (fC (.int 1))) af))) (n:=3) rfl rfl
 refine⟨?_,z.2⟩
 show (bX [.val d,.val (.int n)]).map _=_
 rw[show bX [.val d,.val (.int n)]=_ from z.1]
 rfl
theorem Lm(b:Bool):JS dg fV [.int (sI b)]:=by
 have hb:whole 0 (2 - 1) (.int (sI b))=true:=by cases b<;>rfl
 exact⟨nH b,((okN (n:=2) rfl hb).one (ρ:=[.val (.int (sI b))]) (fs:=aa (ae 0) (aa (fC (.int 2)) af)) (n:=2) rfl rfl).2⟩
theorem RF(h:Wd G T W)(b:Bool){d:D}(hd:gm d=true)(hw:whole 0 ((bA b G T).length - 1) d=false):j5 cn cM [aE G T W,.int (sI b),d] L7:=by
 have z:=(IV (n:=(bA b G T).length) hd hw).one (ρ:=[.val (aE G T W),.val (.int (sI b)),.val d]) (fs:=aa (ae 2) (aa (aZ aP (aa (f2 av (ae 0) (ae 1)) af)) af)) (n:=2) (cons_of rfl (A4 (b:=b) rfl rfl)) rfl
 have t:=(Lm b).tail (ρ:=[.val (aE G T W),.val (.int (sI b)),.val d]) (fs:=aa (ae 1) af) (n:=1) rfl rfl (g:=cQ (ai 2 aB (aa (ae 2) (aa (aZ aP (aa (f2 av (ae 0) (ae 1)) af)) af)))) (xr:=eE (mh 2 aD (aa (ae 2) (aa (aZ aP (aa (f2 av (ae 0) (ae 1)) af)) af))))
 exact⟨runN (t.1.trans z.1),t.2.trans z.2⟩
theorem qm(h:Wd G T W){d:D}(hd:gm d=true)(hl:long W.length W.length d=false):cN [aE G T W,d]=some (.bool false):=by
 refine aO ?_
 show gg [.val (aE G T W),.val d,.non]=_
 unfold gg
 have ew:∀ρ:Dl.Env,ae 0 ρ=some (aE G T W)->f2 av (ae 0) (fC (.int 2)) ρ=some (.tuple (W.map aA)):=fun ρ a=>ax (g8 G T W) a rfl
 refine (aq (bY (ew _ rfl) (ew _ rfl) rfl)).trans ?_
 have el:∀ρ:Dl.Env,ae 2 ρ=some (.tuple (W.map aA))->aZ aP (aa (ae 2) af) ρ=some (nD W.length):=fun ρ a=>eP a
 refine dk ((bB (cy (b:=false) (bo (call_of ((dY hd W.length W.length).trans (by rw[hl])) (cons_of rfl (cons_of (el _ rfl) (cons_of (el _ rfl) rfl))) rfl)))).trans (aV rfl))
theorem Au{n:Nat}{ds:List D}(h:ds.length≠n):long (n:Int) n (.tuple ds)=false:=by
 rw[rm]
 exact zY h
theorem An{gb:ar->Option Out}{xg:XS}{fin:Str->Option D}{ρ:ar}{d:D}(h:gb ρ=some (.rt d)):AY gb xg fin ρ=some (.rt d):=by
 unfold AY
 rw[h]
theorem so{gb:ar->Option Out}{xg:XS}{fin:Str->Option D}{ρ:ar}{c:Str}{d:D}(h:gb ρ=none)(h2:xg ρ=some c)(h3:fin c=some d):AY gb xg fin ρ=some (.rt d):=by
 unfold AY
 rw[h,h2]
 simp only[zA,h3,zB]
def eU(j:Int):D:=.tuple [.str "refused",.int j]
abbrev Ep:List Str:=["NoWorld","NoPlan","NoPlace","TooMany","Nothing"]
theorem Cz{c:Str}{j:Nat}(h:Ep.contains c=true)(hj:tT (.bool true) (Ep.map fun n=>.bool (c == n))=some j):kr Ep c=some (eU j):=by
 unfold kr
 rw[yL h,hj]
 rfl
theorem MN(b:Bool):PyData.eqv (.bool b) (.bool true)=b:=by cases b<;>simp[PyData.eqv]
theorem CS:kr Ep Pz=some (eU 0):=Cz (by decide +kernel) (by simp only[Ep,zI,tT,MN,show (Pz == ("NoWorld":Str))=true by decide +kernel,xH])
theorem Ik:kr Ep QT=some (eU 1):=Cz (by decide +kernel) (by simp only[Ep,zI,tT,MN,show (QT == ("NoWorld":Str))=false by decide +kernel,show (QT == ("NoPlan":Str))=true by decide +kernel,xH,yO,qP,zB])
theorem Fw:kr Ep L7=some (eU 2):=Cz (by decide +kernel) (by simp only[Ep,zI,tT,MN,show (L7 == ("NoWorld":Str))=false by decide +kernel,show (L7 == ("NoPlan":Str))=false by decide +kernel,show (L7 == ("NoPlace":Str))=true by decide +kernel,xH,yO,qP,zB])
theorem JY(j:Int):PyData.eqv (eU j) (eU j)=true:=Kc fun d hd=>by
 simp only[zQ,yE,xU] at hd
 rcases hd with rfl|rfl
 ·simp[PyData.eqv]
 ·exact Cq j
theorem pM(j:Int):∀n:Nat,SeqAt.shaped (.list (List.replicate n (eU j)))=true:=fun n=>by
 have h:∀n:Nat,PyData.canLayAll0 (List.replicate n (eU j))=true/\PyData.depthAll (List.replicate n (eU j))<=2:=fun n=>by
  have hs:PyData.canLay0 (eU j)=true:=by simp[eU,PyData.canLay0,PyData.canLayAll0];decide +kernel
  have hd:PyData.depth (eU j)<=2:=by simp[eU,PyData.depth,PyData.depthAll]
  induction n with
  | zero=>exact⟨by simp[PyData.canLayAll0],by simp[PyData.depthAll]⟩
  | succ n ih=>exact⟨by simp[xE,PyData.canLayAll0,hs,ih.1],by simp only[xE,PyData.depthAll];omega⟩
 have:=h n
 unfold SeqAt.shaped
 rw[zF]
 exact⟨by simp[PyData.canLay0,this.1],by simp[PyData.depth];omega⟩
theorem AR(j:Int)(n:Nat):PyData.eqv (.list (List.replicate n (eU j))) (.list (List.replicate n (eU j)))=true:=by
 rw[PyData.eqv]
 exact fF fun d hd=>by rw[List.eq_of_mem_replicate hd];exact JY j
theorem E7(j:Int)(n:Nat):ba (.list (List.replicate n (eU j))) (.list (List.replicate n (eU j)))=some (.bool true):=by simp only[ba,MB,pM,jP,xH,AR,zB]
theorem pj(j:Int)(n:Nat):dv (.list (List.replicate n (eU j))) (.list (List.replicate n (eU j)))=some (.bool false):=by simp only[dv,Kh,pM,jP,xH,AR,zB];rfl
theorem vi{α:Type}(a:α):∀n:Nat,(List.replicate n [a]).flatten=List.replicate n a
 | 0=>rfl
 | n+1=>by rw[xE,qM,vi a n,xE];rfl
theorem nE(j:Int){n:Nat}(hn:n<=10)(ρ:Dl.Env):bR (fR (b0 (aa (aN (aa (fC (.str "refused")) (aa (fC (.int j)) af))) af)) (fC (.int n))) ρ=some (.list (List.replicate n (eU j))):=by
 refine ie ?_
 have hr:b0 (aa (aN (aa (fC (.str "refused")) (aa (fC (.int j)) af))) af) ρ=some [eU j]:=rO (cons_of (tup_is rfl (by simp)) rfl) (by simp)
 have hg:Al [eU j] (.int ((n:Nat):Int))=some (List.replicate n [eU j]).flatten:=by
  have:=zm (ds:=[eU j]) (k:=((n:Nat):Int)) (nC (by omega)) (by rw[xC,Nat.one_mul,yF];exact yC hn (by decide))
  rw[yF] at this
  exact this
 have hc:(fC (.int ((n:Nat):Int)):Dl.Env->Option D) ρ=some (.int ((n:Nat):Int)):=rfl
 unfold fR
 rw[hr,zA,hc,zA,hg,vi]
theorem lO{cs:List Nat}{fi:Dl.Env->Option (List D)}{te:Dl.Env->Option D}{ρ:Dl.Env}{is:List Nat}{j:Int}(hfi:fi ρ=some (is.map nD))(hl:is.length<=1000)(hh:∀i∈is,te (some (nD i)::cs.map fun j=>(ρ[j]?).getD none)=some (eU j)):bR (au 1 cs fi (fG 0) (fun _=>some true) te) ρ=some (.list (List.replicate is.length (eU j))):=by
 rw[ie (iy (f:=fun _=>eU j) hfi hl hh),List.map_const']
end
end
namespace K12M
section
variable {G T:List Pl}{W:List Wy}{P:List Int}
theorem Gy(h:Wd G T W)(p:Pn G T W P){k:Nat}(hk:k < W.length):fE [aE G T W,ah P,nD k]=some (dF (iH G T W P k)):=by
 refine aO ?_
 show nN [.val (aE G T W),.val (ah P),.val (nD k)]=_
 unfold nN
 refine (aq (dq (call_of (dh h p) rfl rfl))).trans ?_
 refine (aq (dq (call_of (cX (n:=(W.length:Nat)) (i:=(k:Nat)) (by omega) (by omega)) (cons_of rfl (cons_of (eP (l:=W) (k:=aA) (ax (g8 G T W) rfl rfl)) rfl)) rfl))).trans ?_
 exact aV (call_of (mP h p.len (p.smP h) hk) rfl rfl)
end
end K12M
namespace K10M
open Ex
section
variable {G T:List Pl}{W:List Wy}{P X:List Int}{b:Bool}{i:Nat}{w s l p q d:D}{c:Str}
theorem two{m m':List D->Option D}{x x':List D->Option Str}{ds ds':List D}{n n':Nat}{fs fs':Dl.Env->Option (List D)}{ρ:ar}{g:ar->Option Out}(O:JS m x ds)(hf:fs (aJ ρ)=some ds)(hn:ds.length=n)(B:j5 m' x' ds' c)(hf':fs' (aJ ρ)=some ds')(hn':ds'.length=n') :
  ay (cQ (ai n m fs)) (ay (cQ (ai n' m' fs')) g) ρ=none/\dC (eE (mh n x fs)) (cQ (ai n m fs)) (eE (mh n' x' fs')) ρ=some c :=
 ⟨(O.tail hf hn (xr:=mf)).1.trans (B.head hf' hn' (xr:=mf)).1,(O.tail hf hn (g:=du)).2.trans (B.one hf' hn').2⟩
theorem Md(B:j5 az aG [w,p] c):j5 hU oP [w,p,l] c :=
 let z:=B.head (ρ:=[.val w,.val p,.val l]) (fs:=aa (ae 0) (aa (ae 1) af)) rfl rfl
 ⟨runN z.1,z.2⟩
theorem Ge(B:j5 az aG [w,p] c):j5 fv lY [w,p,l] c :=
 let z:=B.head (ρ:=[.val w,.val p,.val l]) (fs:=aa (ae 0) (aa (ae 1) af)) rfl rfl
 ⟨runN z.1,z.2⟩
theorem Mn(B:j5 az aG [w,p] c):j5 dU iL [w,p] c :=
 let z:=B.head (ρ:=[.val w,.val p]) (fs:=aa (ae 0) (aa (ae 1) af)) rfl rfl (xr:=mf)
 let z2:=B.one (ρ:=[.val w,.val p]) (fs:=aa (ae 0) (aa (ae 1) af)) (n:=2) rfl rfl
 ⟨runN z.1,z2.2⟩
theorem Mg(B:j5 az aG [w,p] c):j5 gM oi [w,p] c :=
 let z:=B.head (ρ:=[.val w,.val p]) (fs:=aa (ae 0) (aa (ae 1) af)) rfl rfl (xr:=mf)
 let z2:=B.one (ρ:=[.val w,.val p]) (fs:=aa (ae 0) (aa (ae 1) af)) (n:=2) rfl rfl
 ⟨runN z.1,z2.2⟩
theorem Ma(B:j5 az aG [w,p] c):j5 fE iC [w,p,l] c :=
 let z:=B.head (ρ:=[.val w,.val p,.val l]) (fs:=aa (ae 0) (aa (ae 1) af)) rfl rfl
 ⟨runN z.1,z.2⟩
theorem Qa(B:j5 bp bT [w] c):j5 fy iK [w,s,l,p] c :=
 let z:=B.head (ρ:=[.val w,.val s,.val l,.val p]) (fs:=aa (ae 0) af) rfl rfl
 ⟨runN z.1,z.2⟩
theorem Pm(h:Wd G T W)(p:Pn G T W P)(B:j5 aB aD [l,nD G.length] c):j5 hU oP [aE G T W,ah P,l] c :=
 let z:=two (ρ:=[.val (aE G T W),.val (ah P),.val l]) (fs:=aa (ae 0) (aa (ae 1) af)) (fs':=aa (ae 2) (aa (aZ aP (aa (f2 av (ae 0) (fC (.int 0))) af)) af)) (QX h p) rfl rfl B (cons_of rfl (cons_of (eP (l:=G) (k:=br) (ax (eI false G T W) rfl rfl)) rfl)) rfl
 ⟨runN z.1,z.2⟩
theorem Nb(h:Wd G T W)(p:Pn G T W P)(B:j5 aB aD [l,nD T.length] c):j5 fv lY [aE G T W,ah P,l] c :=
 let z:=two (ρ:=[.val (aE G T W),.val (ah P),.val l]) (fs:=aa (ae 0) (aa (ae 1) af)) (fs':=aa (ae 2) (aa (aZ aP (aa (f2 av (ae 0) (fC (.int 1))) af)) af)) (QX h p) rfl rfl B (cons_of rfl (cons_of (eP (l:=T) (k:=br) (ax (eI true G T W) rfl rfl)) rfl)) rfl
 ⟨runN z.1,z.2⟩
theorem Mx(h:Wd G T W)(p:Pn G T W P)(B:j5 aB aD [l,nD W.length] c):j5 fE iC [aE G T W,ah P,l] c :=
 let z:=two (ρ:=[.val (aE G T W),.val (ah P),.val l]) (fs:=aa (ae 0) (aa (ae 1) af)) (fs':=aa (ae 2) (aa (aZ aP (aa (f2 av (ae 0) (fC (.int 2))) af)) af)) (QX h p) rfl rfl B (cons_of rfl (cons_of (eP (l:=W) (k:=aA) (ax (g8 G T W) rfl rfl)) rfl)) rfl
 ⟨runN z.1,z.2⟩
theorem Py(h:Wd G T W)(b:Bool)(B:j5 cn cM [aE G T W,.int (sI b),l] c):j5 fy iK [aE G T W,.int (sI b),l,p] c :=
 let z:=two (ρ:=[.val (aE G T W),.val (.int (sI b)),.val l,.val p]) (fs:=aa (ae 0) af) (fs':=aa (ae 0) (aa (ae 1) (aa (ae 2) af))) (QS h) rfl rfl B rfl rfl
 ⟨runN z.1,z.2⟩
theorem JD{f:Dl.Env->Option D}{ρ:ar}(h:f (aJ ρ)=none):aM f ρ=none:=by
 unfold aM
 rw[h]
 rfl
theorem Iw{xh xr:XS}{g:ar->Option Out}{ρ:ar}(h:xh ρ=some c):dC xh g xr ρ=some c:=by
 unfold dC
 rw[h]
theorem oh{xh xr:XS}{g:ar->Option Out}{ρ:ar}(h:xh ρ=none)(hg:g ρ=some (.nx ρ)):dC xh g xr ρ=xr ρ:=by
 unfold dC II
 rw[h,hg]
 rfl
theorem NR{g1 g2:ar->Option Out}{ρ:ar}(h:g1 ρ=none):ay g1 g2 ρ=none:=by
 unfold ay
 rw[h]
 rfl
theorem Rh{t:Dl.Env->Option Bool}{xa xb:XE}{ρ:Dl.Env}(h:t ρ=some true):BL t xa xb ρ=xa ρ:=by
 unfold BL
 rw[h,zA,yL rfl]
theorem RJ{t:Dl.Env->Option Bool}{xa xb:XE}{ρ:Dl.Env}(h:t ρ=some false):BL t xa xb ρ=xb ρ:=by
 unfold BL
 rw[h,zA,yN (by simp)]
theorem Rq{t:Dl.Env->Option Bool}{fa fb:Dl.Env->Option D}{ρ:Dl.Env}(h:t ρ=some true)(ha:fa ρ=none):Dd t fa fb ρ=none:=by
 unfold Dd
 rw[h,zA]
 exact ha
theorem Qx{t:Dl.Env->Option Bool}{fa fb:Dl.Env->Option D}{ρ:Dl.Env}(h:t ρ=some false)(ha:fb ρ=none):Dd t fa fb ρ=none:=by
 unfold Dd
 rw[h,zA]
 exact ha
theorem Ek{n:Nat}{m m':List D->Option D}{fk:Dl.Env->Option D}{fs:Dl.Env->Option (List D)}{ρ:Dl.Env}{ds:List D}(b:Bool)(hk:fk ρ=some (.int (sI b)))(hf:fs ρ=some ds)(hn:ds.length=n):uE n m m' fk fs ρ=(if b then m' else m) ds:=by
 unfold uE
 rw[hk,hf,zA,zA,yL hn]
 cases b<;>rfl
theorem Jv{n:Nat}{m m':List D->Option Str}{fk:Dl.Env->Option D}{fs:Dl.Env->Option (List D)}{ρ:Dl.Env}{ds:List D}(b:Bool)(hk:fk ρ=some (.int (sI b)))(hf:fs ρ=some ds)(hn:ds.length=n):sL n m m' fk fs ρ=(if b then m' else m) ds:=by
 unfold sL
 rw[hk,hf,zA,zA,yL hn]
 cases b<;>rfl
abbrev env(k:Int)(w p l:D):ar:=[.val (.int k),.val w,.val p,.val l,.non]
theorem tlt(k:Int):(fB (f2 Dl.yc (ae 0) (fC (.int 2)))) (aJ (env k w p l))=some (decide (k < 2)):=bo (ax (lS k 2) rfl rfl)
theorem teq(k j:Int):(fB (f2 ba (ae 0) (fC (.int j)))) (aJ (env k w p l))=some (decide (k=j)):=bo (ax (cA k j) rfl rfl)
theorem NA(b:Bool)(h:(if b then fv else hU) [w,p,l]=some d):ao [.int (sI b),w,p,l]=some d:=by
 have t:(fB (f2 Dl.yc (ae 0) (fC (.int 2)))) (aJ (env (sI b) w p l))=some true:=(tlt (sI b)).trans (by cases b<;>rfl)
 exact aO (An (ρ:=env (sI b) w p l) (dk ((bB t).trans (aV ((Ek b rfl rfl rfl).trans h)))))
theorem Qp(h:dU [w,p]=some d):ao [.int 2,w,p,l]=some d :=
 aO (An (ρ:=env 2 w p l) ((aq (aH (tlt 2))).trans (dk ((bB (teq 2 2)).trans (aV (call_of h rfl rfl))))))
theorem PQ(h:gM [w,p]=some d):ao [.int 3,w,p,l]=some d :=
 aO (An (ρ:=env 3 w p l) ((aq (aH (tlt 3))).trans ((aq (aH (teq 3 2))).trans (dk ((bB (teq 3 3)).trans (aV (call_of h rfl rfl)))))))
theorem P3(h:fE [w,p,l]=some d):ao [.int 4,w,p,l]=some d :=
 aO (An (ρ:=env 4 w p l) ((aq (aH (tlt 4))).trans ((aq (aH (teq 4 2))).trans ((aq (aH (teq 4 3))).trans (aV (qh (teq 4 4) (call_of h rfl rfl)))))))
theorem Gw(b:Bool):(aa (ae 1) (aa (f2 Dl.cU (ae 0) (fC (.int 5))) (aa (ae 3) (aa (ae 2) af)))) (aJ (env (5+sI b) w p l))=some [w,.int (sI b),l,p]:=by
 refine cons_of rfl (cons_of (ax (a:=.int (5+sI b)) (b:=.int 5) ((sub_int _ _).trans ?_) rfl rfl) rfl)
 rw[show 5+sI b - 5=sI b by omega]
theorem QB(b:Bool)(h:fy [w,.int (sI b),l,p]=some d):ao [.int (5+sI b),w,p,l]=some d:=by
 have t0:(fB (f2 Dl.yc (ae 0) (fC (.int 2)))) (aJ (env (5+sI b) w p l))=some false:=(tlt _).trans (by cases b<;>rfl)
 have t1:∀j:Int,j<=4->(fB (f2 ba (ae 0) (fC (.int j)))) (aJ (env (5+sI b) w p l))=some false:=fun j hj=>(teq _ j).trans (by
  rw[zY]
  have:0<=sI b:=by cases b<;>decide
  omega)
 exact aO (An (ρ:=env (5+sI b) w p l) ((aq (aH t0)).trans ((aq (aH (t1 2 (by omega)))).trans ((aq (aH (t1 3 (by omega)))).trans (aV (wo (t1 4 (by omega)) (call_of h (Gw b) rfl)))))))
theorem u3(b:Bool)(B:j5 (if b then fv else hU) (if b then lY else oP) [w,p,l] c)(hf:kr Ep c=some d):ao [.int (sI b),w,p,l]=some d:=by
 have t:(fB (f2 Dl.yc (ae 0) (fC (.int 2)))) (aJ (env (sI b) w p l))=some true:=(tlt (sI b)).trans (by cases b<;>rfl)
 exact aO (so (ρ:=env (sI b) w p l) (NR ((bB t).trans (JD ((Ek b rfl rfl rfl).trans B.n)))) (Iw ((OY t).trans ((Jv b rfl rfl rfl).trans B.x))) hf)
theorem Qm(B:j5 dU iL [w,p] c)(hf:kr Ep c=some d):ao [.int 2,w,p,l]=some d :=
 aO (so (ρ:=env 2 w p l) ((aq (aH (tlt 2))).trans (NR ((bB (teq 2 2)).trans (JD (AI B.n rfl))))) ((oh (pP (tlt 2)) (aH (tlt 2))).trans (Iw ((OY (teq 2 2)).trans (Qz B.x rfl rfl)))) hf)
theorem Pq(B:j5 gM oi [w,p] c)(hf:kr Ep c=some d):ao [.int 3,w,p,l]=some d :=
 aO (so (ρ:=env 3 w p l) ((aq (aH (tlt 3))).trans ((aq (aH (teq 3 2))).trans (NR ((bB (teq 3 3)).trans (JD (AI B.n rfl)))))) ((oh (pP (tlt 3)) (aH (tlt 3))).trans ((oh (pP (teq 3 2)) (aH (teq 3 2))).trans (Iw ((OY (teq 3 3)).trans (Qz B.x rfl rfl))))) hf)
theorem KB(B:j5 fE iC [w,p,l] c)(hf:kr Ep c=some d):ao [.int 4,w,p,l]=some d :=
 aO (so (ρ:=env 4 w p l) ((aq (aH (tlt 4))).trans ((aq (aH (teq 4 2))).trans ((aq (aH (teq 4 3))).trans (JD (Rq (teq 4 4) (AI B.n rfl)))))) ((oh (pP (tlt 4)) (aH (tlt 4))).trans ((oh (pP (teq 4 2)) (aH (teq 4 2))).trans ((oh (pP (teq 4 3)) (aH (teq 4 3))).trans ((Rh (teq 4 4)).trans (Qz B.x rfl rfl))))) hf)
theorem Ku(b:Bool)(B:j5 fy iK [w,.int (sI b),l,p] c)(hf:kr Ep c=some d):ao [.int (5+sI b),w,p,l]=some d:=by
 have t0:(fB (f2 Dl.yc (ae 0) (fC (.int 2)))) (aJ (env (5+sI b) w p l))=some false:=(tlt _).trans (by cases b<;>rfl)
 have t1:∀j:Int,j<=4->(fB (f2 ba (ae 0) (fC (.int j)))) (aJ (env (5+sI b) w p l))=some false:=fun j hj=>(teq _ j).trans (by
  rw[zY]
  have:0<=sI b:=by cases b<;>decide
  omega)
 exact aO (so (ρ:=env (5+sI b) w p l) ((aq (aH t0)).trans ((aq (aH (t1 2 (by omega)))).trans ((aq (aH (t1 3 (by omega)))).trans (JD (Qx (t1 4 (by omega)) (AI B.n (Gw b))))))) ((oh (pP t0) (aH t0)).trans ((oh (pP (t1 2 (by omega))) (aH (t1 2 (by omega)))).trans ((oh (pP (t1 3 (by omega))) (aH (t1 3 (by omega)))).trans ((RJ (t1 4 (by omega))).trans (Qz B.x (Gw b) rfl))))) hf)
def GA:List D:=[.int (-1),.int 9,.bool true,.none,.str "0"]
theorem yv{n:Nat}(hn:n<=9):∀d∈GA,gm d=true/\whole 0 ((n:Int) - 1) d=false:=fun d hd=>by
 simp only[GA,zQ,yE,xU] at hd
 rcases hd with rfl|rfl|rfl|rfl|rfl
 ·exact⟨rfl,rfl⟩
 ·refine⟨rfl,?_⟩
  show (decide ((0:Int)<=9)&&decide ((9:Int)<=(n:Int) - 1))=false
  rw[zY (show ¬ (9:Int)<=(n:Int) - 1 by omega),kZ]
 ·exact⟨rfl,rfl⟩
 ·exact⟨rfl,rfl⟩
 ·exact⟨rfl,rfl⟩
def JJ(P:List Int):List D:=[ah (P++[0]),.none,.list (P.map PyData.int),ah (P.map (·+9)++[1])]
theorem Oz(h:Wd G T W)(hp:P.length=W.length):∀d∈JJ P,cN [aE G T W,d]=some (.bool false):=fun d hd=>by
 simp only[JJ,zQ,yE,xU] at hd
 rcases hd with rfl|rfl|rfl|rfl
 ·exact qm h rfl (Au (by rw[zD,zN,xC];omega))
 ·exact qm h rfl rfl
 ·exact qm h rfl rfl
 ·exact qm h rfl (Au (by rw[zD,zN,xC,zD];omega))
theorem HN{l:List D}{r:Int}(h0:0<=r)(h1:r < l.length):∃k:Nat,r=((k:Nat):Int)/\∃d,l[k]?=some d/\av (.list l) (.int r)=some d:=by
 obtain⟨k,rfl⟩:∃k:Nat,r=((k:Nat):Int):=⟨r.toNat,by omega⟩
 have hk:k < l.length:=by omega
 refine⟨k,rfl,l[k],zK hk,?_⟩
 have:=xj (f:=fun d:D=>d) (l:=l) (i:=k) (x:=l[k]) (by rw[zK hk])
 rw[List.map_id'] at this
 exact this
def EZ(G T:List Pl)(W:List Wy):List D:=[.none,.tuple [.tuple (G.map br),.tuple (T.map br)],.tuple [],.tuple [.tuple (W.map aA),.tuple (T.map br),.tuple (G.map br)]]
theorem Ov(h:Wd G T W):∀d∈(EZ G T W).take 3,bh [d]=some (.bool false):=fun d hd=>by
 have hf:∀x∈[PyData.tuple (G.map br),.tuple (T.map br),.tuple (W.map aA)],iu 16 3 x:=by
  rcases h.fit with z|⟨xs,z,_,z2⟩
  ·exact z.elim
  ·rcases z with z|z
   ·cases z
   ·cases z
    exact z2
 have key:∀ {d:D},iu 16 4 d->Pi d=false->bh [d]=some (.bool false):=fun hf hw=>by rw[mO hf (by decide),hw]
 simp only[EZ,List.take_succ_cons,List.take_zero,zQ,yE,xU] at hd
 rcases hd with rfl|rfl|rfl
 ·exact key (.leaf trivial) rfl
 ·exact key (.tup (by simp) fun x hx=>hf x (by simp only[zQ,yE,xU] at hx ⊢;rcases hx with rfl|rfl<;>simp)) rfl
 ·exact key (.tup (by simp) (by simp)) rfl
theorem dc{ρ:Dl.Env}{fk fw fp fl:Dl.Env->Option D}{k:D}(h0:fk ρ=some k)(h1:fw ρ=some w)(h2:fp ρ=some p)(h3:fl ρ=some l):(aa fk (aa fw (aa fp (aa fl af)))) ρ=some [k,w,p,l]:=cons_of h0 (cons_of h1 (cons_of h2 (cons_of h3 rfl)))
def Fj(G T:List Pl)(W:List Wy)(P:List Int):List D:=(List.range W.length).map fun k=>dF (iH G T W P k)
theorem MY{k:Nat}(hk:k < W.length):av (.list (Fj G T W P)) (nD k)=some (dF (iH G T W P k)):=xj (f:=fun k=>dF (iH G T W P k)) (l:=List.range W.length) (i:=k) (x:=k) (by simp[hk])
theorem J3:∀n:Nat,PyData.eqv (dF n) (dF n)=true
 | 0=>by simp[dF,PyData.eqv]
 | 1=>by simp[dF,PyData.eqv]
 | 2=>by simp[dF,PyData.eqv]
 | _+3=>by simp[dF,PyData.eqv]
theorem Ej:∀n:Nat,PyData.canLay0 (dF n)=true/\PyData.depth (dF n)<=1
 | 0=>⟨by simp[dF,PyData.canLay0];decide +kernel,by simp[dF,PyData.depth]⟩
 | 1=>⟨by simp[dF,PyData.canLay0];decide +kernel,by simp[dF,PyData.depth]⟩
 | 2=>⟨by simp[dF,PyData.canLay0];decide +kernel,by simp[dF,PyData.depth]⟩
 | _+3=>⟨by simp[dF,PyData.canLay0],by simp[dF,PyData.depth]⟩
theorem IM{f:Nat->Nat}(l:List Nat):dv (.list (l.map fun k=>dF (f k))) (.list (l.map fun k=>dF (f k)))=some (.bool false):=by
 have h:PyData.canLayAll0 (l.map fun k=>dF (f k))=true/\PyData.depthAll (l.map fun k=>dF (f k))<=1:=by
  induction l with
  | nil=>exact⟨by simp[PyData.canLayAll0],by simp[PyData.depthAll]⟩
  | cons k l ih=>exact⟨by simp[PyData.canLayAll0,(Ej (f k)).1,ih.1],by simp only[zI,PyData.depthAll];have:=(Ej (f k)).2;omega⟩
 have hs:SeqAt.shaped (.list (l.map fun k=>dF (f k)))=true:=by
  unfold SeqAt.shaped
  rw[zF]
  exact⟨by simp[PyData.canLay0,h.1],by simp[PyData.depth];omega⟩
 have he:PyData.eqv (.list (l.map fun k=>dF (f k))) (.list (l.map fun k=>dF (f k)))=true:=by
  rw[PyData.eqv]
  exact fF fun d hd=>by
   obtain⟨k,_,rfl⟩:=List.mem_map.mp hd
   exact J3 _
 simp only[dv,Kh,hs,jP,xH,he,zB]
 rfl
theorem RM{f:Dl.Env->Option D}{ρ:Dl.Env}(hp:P.length=W.length)(h:f ρ=some (ah P)):aZ aP (aa f af) ρ=some (.int ((W.length:Nat):Int)):=by
 rw[<- hp]
 exact eP (l:=P) (k:=PyData.int) h
def off(ns:List Int)(b:Bool)(W:List Wy):List Int:=(List.range W.length).map fun k=>dr ns (80+10 * sI b+((k:Nat):Int)) 5
theorem Dk(ns:List Int)(b:Bool)(W:List Wy):(off ns b W).length=W.length:=by simp[off]
abbrev st(ns:List Int)(G T:List Pl)(W:List Wy)(P:List Int)(s3 x4 x5 x6:Slot):ar:=[.val (cw ns),.val (aE G T W),.val (ah P),s3,x4,x5,x6,.non,.non,.non,.non]
theorem Mq{ns:List Int}(hl:ns.length<=63)(hp:P.length=W.length)(hw:W.length<=16){ρ:Dl.Env}(h0:(ρ[0]?).getD none=some (cw ns))(h2:ae 2 ρ=some (ah P))(h4:(ρ[4]?).getD none=some (.int (sI b))):aZ bV (aa (bR (au 1 [0,4] (aK (aa (aZ aP (aa (ae 2) af)) af)) (fG 0) (fun _=>some true) (ai 3 ak (aa (ae 1) (aa (f2 Dl.aI (f2 Dl.aI (fC (.int 80)) (f2 Dl.dM (fC (.int 10)) (ae 2))) (ae 0)) (aa (fC (.int 5)) af)))))) af) ρ=some (ah (off ns b W)):=by
 have c:=iy (cs:=[0,4]) (fi:=aK (aa (aZ aP (aa (ae 2) af)) af)) (te:=ai 3 ak (aa (ae 1) (aa (f2 Dl.aI (f2 Dl.aI (fC (.int 80)) (f2 Dl.dM (fC (.int 10)) (ae 2))) (ae 0)) (aa (fC (.int 5)) af)))) (ρ:=ρ) (is:=List.range W.length) (f:=fun k=>.int (dr ns (80+10 * sI b+((k:Nat):Int)) 5)) (gF (iR hp h2) (by omega)) (by rw[zR];omega) fun k hk=>by
  simp only[zI,yU,h0,h4]
  have hb:0<=sI b/\sI b<=1:=by cases b<;>decide
  exact call_of (dR (80+10 * sI b+((k:Nat):Int)) 5 hl (by omega)).1 (cons_of rfl (cons_of (ax (eF _ _) (ax (eF _ _) rfl (ax (eD (lF ⟨by omega,by omega⟩)) rfl rfl)) rfl) rfl)) rfl
 rw[wb (ie c),Jx]
 unfold off ah
 rw[zM]
 rfl
def pB:ar->Option Out:=(ay (dW (fB (f2 dv (ai 4 ao (aa (ae 4) (aa (ae 1) (aa (ae 2) (aa (ae 5) af))))) (ai 4 bx (aa (ae 1) (aa (ae 2) (aa (ae 4) (aa (ae 5) af))))))) (aM (fC (.bool false))) du) (ay (Dl.aY 6 [0,2,4] (aZ bV (aa (bR (au 1 [0,4] (aK (aa (aZ aP (aa (ae 2) af)) af)) (fG 0) (fun _=>some true) (ai 3 ak (aa (ae 1) (aa (f2 Dl.aI (f2 Dl.aI (fC (.int 80)) (f2 Dl.dM (fC (.int 10)) (ae 2))) (ae 0)) (aa (fC (.int 5)) af)))))) af))) (dW (fB (f2 dv (ai 4 ao (aa (f2 Dl.aI (fC (.int 5)) (ae 4)) (aa (ae 1) (aa (ae 6) (aa (ae 5) af))))) (ai 4 dE (aa (ae 1) (aa (ae 4) (aa (ae 5) (aa (ae 6) af))))))) (aM (fC (.bool false))) du)))
theorem BN{ns:List Int}(hl:ns.length<=63)(h:Wd G T W)(p:Pn G T W P)(hi:i < (bA b G T).length){s3 x6:Slot}:∃y6,pB (st ns G T W P s3 (.val (.int (sI b))) (.val (nD i)) x6)=some (.nx (st ns G T W P s3 (.val (.int (sI b))) (.val (nD i)) y6)):=by
 have hw:=h.wl
 have es:(if b then fv else hU) [aE G T W,ah P,nD i]=some (.int (nc b W P i)):=by
  cases b
  ·exact MK h p hi
  ·exact La h p hi
 refine⟨.val (ah (off ns b W)),?_⟩
 unfold pB
 refine (aq (aH (bo (ax (KJ (nc b W P i)) (call_of (NA b es) (dc rfl rfl rfl rfl) rfl) (call_of (mW h p.len (p.smP h) b i) rfl rfl))))).trans ?_
 refine (aq (bY (Mq (b:=b) hl p.len hw rfl rfl rfl) (Mq (b:=b) hl p.len hw rfl rfl rfl) rfl)).trans ?_
 exact aH (bo (ax (E6 _) (call_of (QB b (Fd h (Dk ns b W) hi)) (dc (ax (eF 5 (sI b)) rfl rfl) rfl rfl rfl) rfl) (call_of (y4 h (Dk ns b W) (GP hi)) rfl rfl)))
def sB:ar->Option Out:=(ee [1,4] (aK (aa (aZ aP (aa (f2 av (ae 1) (ae 4)) af)) af)) (qt 5) pB)
theorem MR{ns:List Int}(hl:ns.length<=63)(h:Wd G T W)(p:Pn G T W P)(b:Bool){s3 x5 x6:Slot}:∃y5 y6,sB (st ns G T W P s3 (.val (.int (sI b))) x5 x6)=some (.nx (st ns G T W P s3 (.val (.int (sI b))) y5 y6)):=by
 obtain⟨ρ',f,y5,y6,rfl⟩:=iQ (tgt:=qt 5) (gb:=pB) (R:=fun (_:Unit) ρ=>∃x5 x6,ρ=st ns G T W P s3 (.val (.int (sI b))) x5 x6) nD (fun s _=>s)
  (l:=List.range (bA b G T).length) (s:=()) (ρ:=st ns G T W P s3 (.val (.int (sI b))) x5 x6)
  (fun _ ρ j hj hρ=>by
   obtain⟨x5,x6,rfl⟩:=hρ
   obtain⟨y6,e'⟩:=BN hl h p (b:=b) (i:=j) (by simpa using hj) (s3:=s3) (x6:=x6)
   exact⟨_,_,rfl,e',_,_,rfl⟩) ⟨_,_,rfl⟩
 exact⟨y5,y6,cF f (gF (A4 (b:=b) rfl rfl) (by have:=h.pl b;omega)) rfl⟩
theorem main(ns:List Int)(hl:ns.length<=63):iB [.list (ns.map PyData.int)]=some (.bool true):=by
 obtain⟨G,T,W,ew,h,few⟩:=zv (ns:=ns) (a:=0) (mo:=9) hl (by omega)
 have hw:=h.wl
 have hw9:W.length<=9:=by have:=few.wm;omega
 have ep:=C4 (ns:=ns) (at':=70) hl h
 have p:=KD (ns:=ns) (at':=70) hl h
 generalize m7 (td ns 70 W) G T W W.length=P at ep p
 obtain⟨ρ',f,x4,x5,x6,rfl⟩:=iQ (tgt:=qt 4) (gb:=sB) (R:=fun (_:Unit) ρ=>∃x4 x5 x6,ρ=st ns G T W P (.own (Fj G T W P)) x4 x5 x6) (fun b:Bool=>.int (sI b)) (fun s _=>s)
  (l:=[false,true]) (s:=()) (ρ:=st ns G T W P (.own (Fj G T W P)) .non .non .non)
  (fun _ ρ b _ hρ=>by
   obtain⟨x4,x5,x6,rfl⟩:=hρ
   obtain⟨y5,y6,e'⟩:=MR hl h p b (s3:=.own (Fj G T W P)) (x5:=x5) (x6:=x6)
   exact⟨_,_,rfl,e',_,_,_,rfl⟩) ⟨_,_,_,rfl⟩
 have ewh:au 1 [1,2] (aK (aa (aZ aP (aa (ae 2) af)) af)) (fG 0) (fun _=>some true) (ai 3 eM (aa (ae 1) (aa (ae 2) (aa (ae 0) af)))) (bZ [.val (cw ns),.val (aE G T W),.val (ah P),.non,.non,.non,.non,.non,.non,.non,.non])=some (Fj G T W P) :=
  iy (is:=List.range W.length) (f:=fun k=>dF (iH G T W P k)) (gF (iR p.len rfl) (by omega)) (by rw[zR];omega) fun k hk=>call_of (FM h p.len (p.smP h) (by simpa using hk)) rfl rfl
 have hd110:=dR (ns:=ns) 110 5 hl (by omega)
 have hd111:=dR (ns:=ns) 111 4 hl (by omega)
 have hd112:=dR (ns:=ns) 112 3 hl (by omega)
 obtain⟨k0,_,o,ho,eo⟩:=HN (l:=GA) hd110.2.1 hd110.2.2
 obtain⟨k1,_,v,hv,ev⟩:=HN (l:=JJ P) hd111.2.1 hd111.2.2
 obtain⟨k2,hk2,u,hu,eu⟩:=HN (l:=EZ G T W) hd112.2.1 (by have:=hd112.2.2;simp[EZ];omega)
 have hvn:=Oz h p.len v (qB hv)
 have hun:=Ov h u (by
  have:k2 < 3:=by have:=hd112.2.2;omega
  refine qB (i:=k2) ?_
  rw[List.getElem?_take_of_lt this]
  exact hu)
 have ho':=qB ho
 have oG:=yv (n:=G.length) (by have:=h.g4;omega) o ho'
 have oT:=yv (n:=T.length) (by have:=h.t4;omega) o ho'
 have oW:=yv (n:=W.length) hw9 o ho'
 have obs:∀b:Bool,j5 cn cM [aE G T W,.int (sI b),o] L7:=fun b=>by
  have z:=yv (n:=(bA b G T).length) (by have:=h.pl b;omega) o ho'
  exact RF h b z.1 z.2
 refine aO ?_
 show (ay (Dl.aY 1 [0] (ai 3 b8 (aa (ae 0) (aa (fC (.int 0)) (aa (fC (.int 9)) af))))) (ay (Dl.aY 2 [0,1] (ai 3 fM (aa (ae 0) (aa (fC (.int 70)) (aa (ae 1) af))))) (ay (bu 3 [1,2] (au 1 [1,2] (aK (aa (aZ aP (aa (ae 2) af)) af)) (fG 0) (fun _=>some true) (ai 3 eM (aa (ae 1) (aa (ae 2) (aa (ae 0) af)))))) (ay (ee [] (aK (aa (fC (.int 2)) af)) (qt 4) sB) (ay (bu 7 [2,3] (au 1 [3] (aK (aa (aZ aP (aa (ae 2) af)) af)) (fG 0) (fB (f2 mY (f2 av (ae 1) (ae 0)) (fC .none))) (ae 0))) (ay (dW (sM (fB (f2 dv (ai 4 ao (aa (fC (.int 2)) (aa (ae 1) (aa (ae 2) (aa (fC .none) af))))) (ae 7))) (fB (f2 dv (ai 4 ao (aa (fC (.int 3)) (aa (ae 1) (aa (ae 2) (aa (fC .none) af))))) (f2 ba (ae 7) (bR (b0 af)))))) (aM (fC (.bool false))) du) (ay (dW (fB (f2 dv (bR (au 1 [1,2] (aK (aa (aZ aP (aa (ae 2) af)) af)) (fG 0) (fun _=>some true) (ai 4 ao (aa (fC (.int 4)) (aa (ae 1) (aa (ae 2) (aa (ae 0) af))))))) (ae 3))) (aM (fC (.bool false))) du) (ay (dW (fB (f2 dv (bR (au 1 [1,2] (bL (aN (aa (fC (.int 0)) (aa (fC (.int 1)) af)))) (fG 0) (fun _=>some true) (ai 4 ao (aa (fC (.int 4)) (aa (ae 1) (aa (ae 2) (aa (f2 Dl.aI (aZ aP (aa (ae 2) af)) (ae 0)) af))))))) (bR (fR (b0 (aa (aN (aa (fC (.str "refused")) (aa (fC (.int 2)) af))) af)) (fC (.int 2)))))) (aM (fC (.bool false))) du) (ay (Dl.aY 8 [0] (f2 av (bR (b0 (aa (f1 JF (fC (.int 1))) (aa (fC (.int 9)) (aa (fC (.bool true)) (aa (fC .none) (aa (fC (.str "0")) af))))))) (ai 3 ak (aa (ae 0) (aa (fC (.int 110)) (aa (fC (.int 5)) af)))))) (ay (dW (fB (f2 dv (bR (au 1 [1,2,8] (bL (aN (aa (fC (.int 0)) (aa (fC (.int 1)) (aa (fC (.int 4)) (aa (fC (.int 5)) (aa (fC (.int 6)) af))))))) (fG 0) (fun _=>some true) (ai 4 ao (aa (ae 0) (aa (ae 1) (aa (ae 2) (aa (ae 3) af))))))) (bR (fR (b0 (aa (aN (aa (fC (.str "refused")) (aa (fC (.int 2)) af))) af)) (fC (.int 5)))))) (aM (fC (.bool false))) du) (ay (Dl.aY 9 [0,2] (f2 av (bR (b0 (aa (f2 Dl.aI (ae 2) (aN (aa (fC (.int 0)) af))) (aa (fC .none) (aa (bR (k6 cI (aa (ae 2) af))) (aa (f2 Dl.aI (aZ bV (aa (bR (au 1 [] (bL (ae 2)) (fG 0) (fun _=>some true) (f2 Dl.aI (ae 0) (fC (.int 9))))) af)) (aN (aa (fC (.int 1)) af))) af)))))) (ai 3 ak (aa (ae 0) (aa (fC (.int 111)) (aa (fC (.int 4)) af)))))) (ay (dW (fB (f2 dv (bR (au 1 [1,8,9] (aK (aa (fC (.int 5)) af)) (fG 0) (fun _=>some true) (ai 4 ao (aa (ae 0) (aa (ae 1) (aa (ae 3) (aa (ae 2) af))))))) (bR (fR (b0 (aa (aN (aa (fC (.str "refused")) (aa (fC (.int 1)) af))) af)) (fC (.int 5)))))) (aM (fC (.bool false))) du) (ay (Dl.aY 10 [0,1] (f2 av (bR (b0 (aa (fC .none) (aa (se mC (ae 1) uj (JQ (fC (.int 2)))) (aa (aN af) (aa (aN (aa (f2 av (ae 1) (fC (.int 2))) (aa (f2 av (ae 1) (fC (.int 1))) (aa (f2 av (ae 1) (fC (.int 0))) af)))) af)))))) (ai 3 ak (aa (ae 0) (aa (fC (.int 112)) (aa (fC (.int 3)) af)))))) (aM (f2 ba (bR (au 1 [8,9,10] (aK (aa (fC (.int 7)) af)) (fG 0) (fun _=>some true) (ai 4 ao (aa (ae 0) (aa (ae 3) (aa (ae 2) (aa (ae 1) af))))))) (bR (fR (b0 (aa (aN (aa (fC (.str "refused")) (aa (fC (.int 0)) af))) af)) (fC (.int 7))))))))))))))))))) [.val (cw ns),.non,.non,.non,.non,.non,.non,.non,.non,.non,.non]=_
 refine (aq (bY (call_of ew rfl rfl) (call_of ew rfl rfl) rfl)).trans ?_
 refine (aq (bY (call_of ep rfl rfl) (call_of ep rfl rfl) rfl)).trans ?_
 refine (aq (uF ewh rfl)).trans ?_
 refine (aq (cF f (gF (n:=2) rfl (by omega)) rfl)).trans ?_
 have egn:au 1 [3] (aK (aa (aZ aP (aa (ae 2) af)) af)) (fG 0) (fB (f2 mY (f2 av (ae 1) (ae 0)) (fC .none))) (ae 0) (bZ [.val (cw ns),.val (aE G T W),.val (ah P),.val (.list (Fj G T W P)),x4,x5,x6,.non,.non,.non,.non])=some ((Co G T W P).map nD) :=
  rN (is:=List.range W.length) (q:=fun k=>decide (iH G T W P k=3)) (gF (iR p.len rfl) (by omega)) (by rw[zR];omega) fun k hk=>⟨bo (ax (wx _ (B0 G T W P k)) (ax (MY (by simpa using hk)) rfl rfl) rfl),fun _=>rfl⟩
 refine (aq (wz (ρ':=[.val (cw ns),.val (aE G T W),.val (ah P),.val (.list (Fj G T W P)),x4,x5,x6,.non,.non,.non,.non]) rfl egn)).trans ?_
 refine (aq (aH (M6 (bo (ax (Ff (Co G T W P)) (call_of (Qp (Fb h p)) (dc rfl rfl rfl rfl) rfl) rfl)) (bo (ax (FF _) (call_of (PQ (LA h p)) (dc rfl rfl rfl rfl) rfl) (ax (FD (Co G T W P)) rfl (nil_of _))))))).trans ?_
 have c0:bR (au 1 [1,2] (aK (aa (aZ aP (aa (ae 2) af)) af)) (fG 0) (fun _=>some true) (ai 4 ao (aa (fC (.int 4)) (aa (ae 1) (aa (ae 2) (aa (ae 0) af)))))) (aJ [.val (cw ns),.val (aE G T W),.val (ah P),.val (.list (Fj G T W P)),x4,x5,x6,.own ((Co G T W P).map nD),.non,.non,.non])=some (.list (Fj G T W P)) :=
  ie (iy (is:=List.range W.length) (f:=fun k=>dF (iH G T W P k)) (gF (iR p.len rfl) (by omega)) (by rw[zR];omega) fun k hk=>call_of (P3 (K12M.Gy h p (by simpa using hk))) (dc rfl rfl rfl rfl) rfl)
 refine (aq (aH (bo (ax (IM (f:=iH G T W P) (List.range W.length)) c0 rfl)))).trans ?_
 have c1:=lO (cs:=[1,2]) (fi:=bL (aN (aa (fC (.int 0)) (aa (fC (.int 1)) af)))) (te:=ai 4 ao (aa (fC (.int 4)) (aa (ae 1) (aa (ae 2) (aa (f2 Dl.aI (aZ aP (aa (ae 2) af)) (ae 0)) af))))) (ρ:=aJ [.val (cw ns),.val (aE G T W),.val (ah P),.val (.list (Fj G T W P)),x4,x5,x6,.own ((Co G T W P).map nD),.non,.non,.non]) (is:=[0,1]) (j:=2) (yl (tup_is (ds:=[nD 0,nD 1]) rfl (by simp))) (by simp) fun k hk=>by
  have hn:whole 0 ((W.length:Int) - 1) (.int (((W.length:Nat):Int)+((k:Nat):Int)))=false:=by
   show (decide ((0:Int)<=((W.length:Nat):Int)+((k:Nat):Int))&&decide (((W.length:Nat):Int)+((k:Nat):Int)<=(W.length:Int) - 1))=false
   rw[zY (show ¬ ((W.length:Nat):Int)+((k:Nat):Int)<=(W.length:Int) - 1 by omega),kZ]
  exact call_of (KB (Mx h p (IV rfl hn)) Fw) (dc rfl rfl rfl (ax (eF _ _) (RM p.len rfl) rfl)) rfl
 refine (aq (aH (bo (ax (pj 2 2) c1 (nE 2 (n:=2) (by omega) _))))).trans ?_
 have e8:∀ρ:Dl.Env,ae 0 ρ=some (cw ns)->(f2 av (bR (b0 (aa (f1 JF (fC (.int 1))) (aa (fC (.int 9)) (aa (fC (.bool true)) (aa (fC .none) (aa (fC (.str "0")) af))))))) (ai 3 ak (aa (ae 0) (aa (fC (.int 110)) (aa (fC (.int 5)) af))))) ρ=some o:=fun ρ h0=>ax eo (ie (rO (ds:=GA) rfl (by simp[GA]))) (call_of hd110.1 (cons_of h0 rfl) rfl)
 refine (aq (bY (e8 _ rfl) (e8 _ rfl) rfl)).trans ?_
 have c2:=lO (cs:=[1,2,8]) (fi:=bL (aN (aa (fC (.int 0)) (aa (fC (.int 1)) (aa (fC (.int 4)) (aa (fC (.int 5)) (aa (fC (.int 6)) af))))))) (te:=ai 4 ao (aa (ae 0) (aa (ae 1) (aa (ae 2) (aa (ae 3) af))))) (ρ:=aJ [.val (cw ns),.val (aE G T W),.val (ah P),.val (.list (Fj G T W P)),x4,x5,x6,.own ((Co G T W P).map nD),.val o,.non,.non]) (is:=[0,1,4,5,6]) (j:=2) (yl (tup_is (ds:=[nD 0,nD 1,nD 4,nD 5,nD 6]) rfl (by simp))) (by simp) fun k hk=>by
  simp only[zQ,yE,xU] at hk
  rcases hk with rfl|rfl|rfl|rfl|rfl
  ·exact call_of (u3 false (Pm h p (IV oG.1 oG.2)) Fw) (dc rfl rfl rfl rfl) rfl
  ·exact call_of (u3 true (Nb h p (IV oT.1 oT.2)) Fw) (dc rfl rfl rfl rfl) rfl
  ·exact call_of (KB (Mx h p (IV oW.1 oW.2)) Fw) (dc rfl rfl rfl rfl) rfl
  ·exact call_of (Ku false (Py h false (obs false)) Fw) (dc rfl rfl rfl rfl) rfl
  ·exact call_of (Ku true (Py h true (obs true)) Fw) (dc rfl rfl rfl rfl) rfl
 refine (aq (aH (bo (ax (pj 2 5) c2 (nE 2 (n:=5) (by omega) _))))).trans ?_
 have e9:∀ρ:Dl.Env,ae 0 ρ=some (cw ns)->ae 2 ρ=some (ah P)->(f2 av (bR (b0 (aa (f2 Dl.aI (ae 2) (aN (aa (fC (.int 0)) af))) (aa (fC .none) (aa (bR (k6 cI (aa (ae 2) af))) (aa (f2 Dl.aI (aZ bV (aa (bR (au 1 [] (bL (ae 2)) (fG 0) (fun _=>some true) (f2 Dl.aI (ae 0) (fC (.int 9))))) af)) (aN (aa (fC (.int 1)) af))) af)))))) (ai 3 ak (aa (ae 0) (aa (fC (.int 111)) (aa (fC (.int 4)) af))))) ρ=some v:=fun ρ h0 h2=>by
  have h4:aZ bV (aa (bR (au 1 [] (bL (ae 2)) (fG 0) (fun _=>some true) (f2 Dl.aI (ae 0) (fC (.int 9))))) af) ρ=some (ah (P.map (·+9))):=by
   have c:=FK (cs:=[]) (fi:=bL (ae 2)) (tt:=fun _=>some true) (te:=f2 Dl.aI (ae 0) (fC (.int 9))) (ρ:=ρ) (l:=P) (g:=PyData.int) (f:=fun x=>.int (x+9)) (q:=fun _=>true) (yl h2) (by rw[p.len];omega) fun x hx=>⟨rfl,fun _=>ax (eF x 9) rfl rfl⟩
   rw[wb (ie c),Jx,show P.filter (fun _=>true)=P by simp]
   unfold ah
   rw[zM]
   rfl
  refine ax ev (ie (rO (ds:=JJ P) (cons_of (ax (nA (a:=P) (b:=[0]) (by rw[p.len];simp;omega)) h2 (GT rfl)) (cons_of rfl (cons_of (ie ?_) (cons_of (ax (nA (a:=P.map (·+9)) (b:=[1]) (by rw[zD,p.len];simp;omega)) h4 (GT rfl)) rfl)))) (by simp[JJ]))) (call_of hd111.1 (cons_of h0 rfl) rfl)
  unfold k6
  rw[cons_of h2 rfl]
  rfl
 refine (aq (bY (e9 _ rfl rfl) (e9 _ rfl rfl) rfl)).trans ?_
 have c3:=lO (cs:=[1,8,9]) (fi:=aK (aa (fC (.int 5)) af)) (te:=ai 4 ao (aa (ae 0) (aa (ae 1) (aa (ae 3) (aa (ae 2) af))))) (ρ:=aJ [.val (cw ns),.val (aE G T W),.val (ah P),.val (.list (Fj G T W P)),x4,x5,x6,.own ((Co G T W P).map nD),.val o,.val v,.non]) (is:=List.range 5) (j:=1) (gF (n:=5) rfl (by omega)) (by simp) fun k hk=>by
  have hk:k < 5:=by simpa using hk
  have b1:=Q9 h hvn
  rcases (by omega:k=0\/k=1\/k=2\/k=3\/k=4) with rfl|rfl|rfl|rfl|rfl
  ·exact call_of (u3 false (Md b1) Ik) (dc rfl rfl rfl rfl) rfl
  ·exact call_of (u3 true (Ge b1) Ik) (dc rfl rfl rfl rfl) rfl
  ·exact call_of (Qm (Mn b1) Ik) (dc rfl rfl rfl rfl) rfl
  ·exact call_of (Pq (Mg b1) Ik) (dc rfl rfl rfl rfl) rfl
  ·exact call_of (KB (Ma b1) Ik) (dc rfl rfl rfl rfl) rfl
 rw[zR] at c3
 refine (aq (aH (bo (ax (pj 1 5) c3 (nE 1 (n:=5) (by omega) _))))).trans ?_
 have e10:∀ρ:Dl.Env,ae 0 ρ=some (cw ns)->ae 1 ρ=some (aE G T W)->(f2 av (bR (b0 (aa (fC .none) (aa (se mC (ae 1) uj (JQ (fC (.int 2)))) (aa (aN af) (aa (aN (aa (f2 av (ae 1) (fC (.int 2))) (aa (f2 av (ae 1) (fC (.int 1))) (aa (f2 av (ae 1) (fC (.int 0))) af)))) af)))))) (ai 3 ak (aa (ae 0) (aa (fC (.int 112)) (aa (fC (.int 3)) af))))) ρ=some u:=fun ρ h0 h1=>by
  refine ax eu (ie (rO (ds:=EZ G T W) (cons_of rfl (cons_of ?_ (cons_of (tup_is (ds:=[]) rfl (by simp)) (cons_of (tup_is (cons_of (ax (g8 G T W) h1 rfl) (cons_of (ax (a:=aE G T W) (b:=.int 1) rfl h1 rfl) (cons_of (ax (a:=aE G T W) (b:=.int 0) rfl h1 rfl) rfl))) (by simp)) rfl)))) (by simp[EZ]))) (call_of hd112.1 (cons_of h0 rfl) rfl)
  unfold se
  rw[h1]
  rfl
 refine (aq (bY (e10 _ rfl rfl) (e10 _ rfl rfl) rfl)).trans ?_
 have c4:=lO (cs:=[8,9,10]) (fi:=aK (aa (fC (.int 7)) af)) (te:=ai 4 ao (aa (ae 0) (aa (ae 3) (aa (ae 2) (aa (ae 1) af))))) (ρ:=aJ [.val (cw ns),.val (aE G T W),.val (ah P),.val (.list (Fj G T W P)),x4,x5,x6,.own ((Co G T W P).map nD),.val o,.val v,.val u]) (is:=List.range 7) (j:=0) (gF (n:=7) rfl (by omega)) (by simp) fun k hk=>by
  have hk:k < 7:=by simpa using hk
  have b1:j5 az aG [u,v] Pz:=NK hun
  rcases (by omega:k=0\/k=1\/k=2\/k=3\/k=4\/k=5\/k=6) with rfl|rfl|rfl|rfl|rfl|rfl|rfl
  ·exact call_of (u3 false (Md b1) CS) (dc rfl rfl rfl rfl) rfl
  ·exact call_of (u3 true (Ge b1) CS) (dc rfl rfl rfl rfl) rfl
  ·exact call_of (Qm (Mn b1) CS) (dc rfl rfl rfl rfl) rfl
  ·exact call_of (Pq (Mg b1) CS) (dc rfl rfl rfl rfl) rfl
  ·exact call_of (KB (Ma b1) CS) (dc rfl rfl rfl rfl) rfl
  ·exact call_of (Ku false (Qa (Nq hun)) CS) (dc rfl rfl rfl rfl) rfl
  ·exact call_of (Ku true (Qa (Nq hun)) CS) (dc rfl rfl rfl rfl) rfl
 rw[zR] at c4
 exact aV (ax (E7 0 7) c4 (nE 0 (n:=7) (by omega) _))
end
end K10M
end Wm
namespace K10
open PySem L2 Dl PySem.Spec PyProof.Rows Pg Hd
theorem main(ns:List Int)(h:ns.length<=63):iB [.list (ns.map PyData.int)]=some (.bool true):=Wm.K10M.main ns h
theorem ins(P:Params):Pb (Kf P):=⟨f3 94 93 ka,f2 101 100 ka,f3 108 107 ka,f2 113 112 ka,f2 120 119 ka,f3 127 126 ka,f3 132 131 ka,f1 137 136 ka,f1 142 141 ka,f4 147 146 ka,f3 152 151 ka,f2 157 156 ka,f1 164 163 ka,f2 171 170 ka,f3 178 177 ka,f2 185 184 ka,f1 192 191 ka,f3 199 198 ka,f3 206 205 qq,f3 213 212 qq,l3 218 217 qq,f4 223 222 qq,f4 230 229 qq,f4 235 234 qq,f3 242 241 qq,f2 249 248 qq,f2 256 255 qq,f2 261 260 qq,f2 268 267 qq,f3 275 274 qq,f2 282 281 mH,f3 289 288 mH,f3 296 295 mH,f3 301 300 mH,f4 306 305 mH,f2 313 312 mH,f1 318 317 mH,f3 325 324 mH,f5 332 331 mH,f3 339 338 mH,f2 344 343 mH,f4 351 350 mH,f3 356 355 mH,f1 363 362 mH,f4 370 369 mH,f1 375 374 mH,Dl.Mj (t:=289) (by kernel_rfl),Dl.Mj (t:=291) (by kernel_rfl),by kernel_rfl,Dl.Nu (by kernel_rfl)⟩
theorem QW(w:World):n9 (Kf w.params) [215]=true:=by kernel_rfl
end K10
open PySem PySem.W PyProof.Rows
theorem PySem.Challenge.cw_stillflow_k10_flows_holds : PySem.Challenge.rw_stillflow_k10_flows.Holds := by
 refine holds_law K10.RT fun k1=>?_
 refine holds_open (XP:=XL K10.vw []) (YP:=K10.hk.says) K10.left K10.hk.of K10.hk.keeps (fun s e=>xl_of s (Bool.and_eq_true_iff.mp e).1) XL.keeps (by rfl) (by rfl) (by rfl) (fun s e=>recFacts_of (Bool.and_eq_true_iff.mp e).2) (by rfl) k1 (by decide +kernel) ⟨rfl,rfl,rfl,rfl,rfl,by decide +kernel⟩ ?hw ?hc
 case hw=>w_witness2
 case hc=>exact K10.walk (l:=PySem.Challenge.rw_stillflow_k10_flows) (K:=K10.Kf) (ts:=[215]) rfl rfl rfl (fun w h Y=>⟨Y.1,Y.2⟩) K10.QW (fun w=>K10.ins w.params) K10.main
