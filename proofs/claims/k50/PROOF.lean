import PyProof.Rows.All
import Wide.All
import OpenK.AllK
import Wide.FinOn
import PyProof.EqAt
import PyProof.EqKinds
import PyProof.TupleCall
import Lean
import PyProof.Draws
import PyProof.ListRange
import KE.KIsAll
import PySem.Challenge.RW_stillflow_k50_changes
set_option Elab.async false
set_option linter.all false
set_option maxRecDepth 100000
set_option maxHeartbeats 4000000
abbrev _root_.zA:=@Option.bind_some
abbrev _root_.zB:=@Option.map_some
abbrev _root_.zC:=@List.mem_cons_of_mem
abbrev _root_.zD:=@List.length_map
abbrev _root_.zE:=@List.mem_cons_self
abbrev _root_.zF:=@Bool.and_eq_true
abbrev _root_.zG:=@List.getD_eq_getElem?_getD
abbrev _root_.zH:=@List.size_toArray
abbrev _root_.zI:=@List.map_cons
abbrev _root_.zJ:=@decide_eq_true_eq
abbrev _root_.zK:=@List.getElem?_eq_getElem
abbrev _root_.zL:=@List.length_cons
abbrev _root_.zM:=@List.map_map
abbrev _root_.zN:=@List.length_append
abbrev _root_.zO:=@List.getElem?_map
abbrev _root_.zP:=@Nat.lt_of_lt_of_le
abbrev _root_.zQ:=@List.mem_cons
abbrev _root_.zR:=@List.length_range
abbrev _root_.zS:=@List.getElem?_eq_some_iff
abbrev _root_.zT:=@PySem.Heap.get?_push_of_some
abbrev _root_.zU:=@PySem.wpAny_bind
abbrev _root_.zV:=@PySem.wpAny_pure
abbrev _root_.zW:=@PySem.Heap.get?_push_size
abbrev _root_.zX:=@PySem.Heap.lt_size
abbrev _root_.zY:=@decide_eq_false
abbrev _root_.zZ:=@decide_eq_true
abbrev _root_.yA:=@List.lookup_cons
abbrev _root_.yB:=@List.length_set
abbrev _root_.yC:=@Nat.le_trans
abbrev _root_.yD:=@List.mem_append_right
abbrev _root_.yE:=@List.not_mem_nil
abbrev _root_.yF:=@Int.toNat_natCast
abbrev _root_.yG:=@List.range_eq_range'
abbrev _root_.yH:=@List.map_congr_left
abbrev _root_.yI:=@List.foldl_cons
abbrev _root_.yJ:=@List.mem_singleton
abbrev _root_.yK:=@Option.some.injEq
abbrev _root_.yL:=@if_pos
abbrev _root_.yM:=@Nat.le_refl
abbrev _root_.yN:=@if_neg
abbrev _root_.yO:=@Bool.false_eq_true
abbrev _root_.yP:=@Bool.not_eq_true'
abbrev _root_.yQ:=@of_decide_eq_true
abbrev _root_.yR:=@Nat.ne_of_lt
abbrev _root_.yS:=@List.getElem?_append_left
abbrev _root_.yT:=@List.getElem?_append_right
abbrev _root_.yU:=@List.map_nil
abbrev _root_.yV:=@List.set_cons_zero
abbrev _root_.yW:=@List.set_cons_succ
abbrev _root_.yX:=@List.getElem?_replicate
abbrev _root_.yY:=@List.getElem?_cons_succ
abbrev _root_.yZ:=@Bool.false_ne_true
abbrev _root_.xA:=@PySem.wpAny_mono
abbrev _root_.xB:=@decide_eq_false_iff_not
abbrev _root_.xC:=@List.length_singleton
abbrev _root_.xD:=@Option.some.inj
abbrev _root_.xE:=@List.replicate_succ
abbrev _root_.xF:=@List.cons_append
abbrev _root_.xG:=@List.all_eq_true
abbrev _root_.xH:=@if_true
abbrev _root_.xI:=@List.getElem?_set
abbrev _root_.xJ:=@PySem.Heap.size_push
abbrev _root_.xK:=@List.length_nil
abbrev _root_.xM:=@List.length_replicate
abbrev _root_.xN:=@PySem.Heap.get?_update_other
abbrev _root_.xO:=@List.nil_append
abbrev _root_.xP:=@List.length_filter_le
abbrev _root_.xQ:=@List.getElem?_cons_zero
abbrev _root_.xR:=@PySem.wpAny_pyIter_tuple
abbrev _root_.xS:=@List.all_cons
abbrev _root_.xU:=@or_false
abbrev _root_.xV:=@Nat.zero_le
abbrev _root_.xW:=@PySem.wpAny_truthy_bool
abbrev _root_.xX:=@PySem.wpAny_holding
abbrev _root_.xY:=@Bool.not_true
abbrev _root_.xZ:=@Int.le_refl
abbrev _root_.qA:=@List.getElem_mem
abbrev _root_.qB:=@List.mem_of_getElem?
abbrev _root_.qC:=@PySem.wpAny_callSpecial?_slot
abbrev _root_.qD:=@Array.getD_eq_getD_getElem?
abbrev _root_.qE:=@Nat.lt_irrefl
abbrev _root_.qF:=@List.append_nil
abbrev _root_.qG:=@Option.getD_some
abbrev _root_.qH:=@List.length_drop
abbrev _root_.qJ:=@List.mem_append_left
abbrev _root_.qK:=@PySem.wpAny_pyIter_list
abbrev _root_.qL:=@PySem.wpAny_newObj_type
abbrev _root_.qM:=@List.flatten_cons
abbrev _root_.qN:=@PySem.F.plainAttrs_list
abbrev _root_.qP:=@if_false
abbrev _root_.qQ:=@List.getElem_of_mem
abbrev _root_.qS:=@PyProof.Rows.callWith_type1
abbrev _root_.qT:=@PySem.wpAny_field
abbrev _root_.qU:=@PySem.sizeLine_eq
abbrev _root_.qV:=@PySem.wpAny_call_entry
abbrev _root_.qX:=@PySem.call_meets
abbrev _root_.qY:=@PySem.wpAny_Call_Name_kw
abbrev _root_.qZ:=@Nat.lt_of_le_of_lt
abbrev _root_.jA:=@List.map_append
abbrev _root_.jB:=@Bool.or_eq_true
abbrev _root_.jC:=@congrArg
abbrev _root_.jD:=@Nat.zero_add
abbrev _root_.jE:=@List.pairwise_map
abbrev _root_.jF:=@PyProof.Rows.slot_tuple_getitem
abbrev _root_.jG:=@List.filterMap_cons
abbrev _root_.jH:=@List.ext_getElem
abbrev _root_.jI:=@Nat.ne_of_gt
abbrev _root_.jJ:=@PySem.Calls.spliced_cons
abbrev _root_.jK:=@PySem.wpAny_passesOwn
abbrev _root_.jL:=@Bool.true_and
abbrev _root_.jM:=@Ne.symm
abbrev _root_.jN:=@Nat.lt_succ_of_lt
abbrev _root_.jO:=@and_self
abbrev _root_.jP:=@decide_true
abbrev _root_.jQ:=@PySem.F.slot_tuple_iterator_next
abbrev _root_.jR:=@PySem.codeAny_mono
abbrev _root_.jS:=@Nat.le_of_lt
abbrev _root_.jT:=@Int.le_trans
abbrev _root_.jU:=@Nat.le_add_right
abbrev _root_.jV:=@List.length_take
abbrev _root_.jW:=@List.filter_cons
abbrev _root_.jX:=@List.mem_of_find?_eq_some
abbrev _root_.jY:=@Array.getElem?_eq_getElem
abbrev _root_.jZ:=@PySem.mem_of_lookup
abbrev _root_.kA:=@PyProof.Rows.listUpdate_at
abbrev _root_.kC:=@PyProof.Rows.get?_update_seq
abbrev _root_.kE:=@PySem.codeAny_builtin
abbrev _root_.kF:=@List.filter_map
abbrev _root_.kG:=@PySem.wpAny_seqItems
abbrev _root_.kH:=@PySem.Calls.spliced_nil
abbrev _root_.kJ:=@PySem.SeqAt.canLay_of_shaped
abbrev _root_.kK:=@List.take_of_length_le
abbrev _root_.kL:=@List.findIdx_lt_length_of_exists
abbrev _root_.kM:=@Option.getD_none
abbrev _root_.kN:=@Nat.lt_succ_self
abbrev _root_.kO:=@PySem.wpAny_newList
abbrev _root_.kP:=@PySem.wpAny_attempt
abbrev _root_.kR:=@List.getElem?_set_ne
abbrev _root_.kU:=@List.nodup_cons
abbrev _root_.kW:=@List.cons.injEq
abbrev _root_.kX:=@Bool.eq_iff_iff
abbrev _root_.kY:=@Bool.and_false
abbrev _root_.kZ:=@PySem.wpAny_setField_rec
abbrev _root_.vA:=@Int.emod_lt_of_pos
abbrev _root_.vB:=@List.drop_eq_getElem_cons
abbrev _root_.vC:=@List.reverse_cons
abbrev _root_.vD:=@List.foldl_append
abbrev _root_.vE:=@List.findIdx_cons
abbrev _root_.vF:=@PySem.wpAny_standAt
abbrev _root_.vG:=@PySem.F.args_tuple_add_2
abbrev _root_.vH:=@PySem.wpAny_execs_cons
abbrev _root_.vI:=@List.range'_succ
abbrev _root_.vJ:=@PySem.F.entry_tuple_add
abbrev _root_.vK:=@Int.eq_ofNat_of_zero_le
abbrev _root_.vL:=@PySem.wpAny_call
abbrev _root_.vM:=@beq_iff_eq
abbrev _root_.vN:=@PyProof.Rows.listItems_at
abbrev _root_.vO:=@PySem.F.slot_tuple_add
abbrev _root_.vP:=@List.getElem?_set_self
abbrev _root_.vQ:=@PySem.wpAny_execs_nil
abbrev _root_.vR:=@Nat.not_lt_zero
abbrev _root_.vS:=@List.range_succ
abbrev _root_.vT:=@List.of_mem_zip
abbrev _root_.vU:=@Int.emod_nonneg
abbrev _root_.vV:=@PySem.F.slot_zip_next
abbrev _root_.vW:=@PySem.F.slot_int_rmul
abbrev _root_.vX:=@Nat.mul_le_mul
abbrev _root_.vY:=@PyProof.Rows.IntsAre.length
abbrev _root_.vZ:=@Bool.false_and
abbrev _root_.wA:=@PySem.wpAny_loadName_local
abbrev _root_.wC:=@PySem.codeAny_call_builtin
abbrev _root_.wD:=@List.getD_cons_zero
abbrev _root_.wF:=@List.getD_cons_succ
abbrev _root_.wG:=@Array.length_toList
abbrev _root_.wH:=@PySem.wpAny_rule
abbrev _root_.wJ:=@PySem.wpAny_Name
abbrev _root_.wK:=@PySem.typeIs_int
abbrev _root_.wL:=@PySem.F.args_tuple_mul_2
abbrev _root_.wM:=@PySem.Code.quiet_builtin
abbrev _root_.wN:=@PySem.Calls.Constant_str
abbrev _root_.wQ:=@PySem.wpAny_typeOf
abbrev _root_.wR:=@decide_false
abbrev _root_.wU:=@PySem.concat_meets
abbrev _root_.wV:=@Nat.lt_trans
abbrev _root_.wW:=@PySem.wpAny_pyIter_enum
abbrev _root_.wX:=@List.take_add_one
abbrev _root_.wY:=@PySem.F.entry_tuple_mul
local macro_rules|`(def $i:declId $s:optDeclSig $v:declVal)=>`(noncomputable def $i:declId $s:optDeclSig $v:declVal)
local macro_rules|`(abbrev $i:declId $s:optDeclSig $v:declVal)=>`(noncomputable abbrev $i:declId $s:optDeclSig $v:declVal)
namespace L2
open PySem
def i8(s:Stmt):Arguments:=match s with
 | .FunctionDef _ a _ _ _ _ _ _ _ _=>a
 | _=>{ posonlyargs:=[],args:=[],vararg:=none,kwonlyargs:=[],kw_defaults:=[],kwarg:=none,defaults:=[] }
def bG(s:Stmt):List Stmt:=match s with
 | .FunctionDef _ _ b _ _ _ _ _ _ _=>b
 | _=>[]
def aj(s:Stmt):Scope:=match s with
 | .FunctionDef _ _ _ _ _ _ sc _ _ _=>sc
 | _=>{ kind:=.function,names:=[],isGenerator:=false,isCoroutine:=false }
end L2
namespace Hd
open PySem L2 PySem.Spec PyProof.Rows
def en(P:Params)(x:String)(t:Nat)(v:Value):DictEntry:=⟨PyData.keyHash P (Str.ofString x),.str (Str.ofString x) t,v⟩
def fo(x:Str)(st:Stmt)(pm:Value)(c:Addr):Obj:=⟨.type "function",none,.func (W.fnOf x x (i8 st) (bG st) (aj st) .none .none .none pm none (.ref c) .none),#[]⟩
def co(vs:List Value):Obj:=⟨.type "code",none,.fields vs.toArray,#[]⟩
def M3(n:Nat):Value:=if n=0 then .none else .ref n
def lK(x:Str)(t l n a b c d e f u:Nat):Obj:=co [.str x t,.str x (t+1),.str "/claim/cut.py" (t+2),.int l 0,.int n 0,.int 0 0,.int 0 0,.int 3 0,M3 a,.bool true,.int 181 0,M3 b,M3 c,M3 d,M3 e,M3 f,.int u 0,.int l 0,.str "/claim/cut.py" (u+1)]
def M4(x:Str)(C ns m t u:Nat)(bs up subs:List Value):Obj:=⟨.type "type",none,.cls { name:=x,bases:=bs,mro:=.ref C::(up++[.type "ValueError",.type "Exception",.type "BaseException",.type "object"]),ns:=ns,qualname:=x,subclasses:=subs },#[some (.ref m),none,some (.str x t),some (.str x u),some (.builtin "ValueError.__new__"),some (.bool true)]⟩
theorem Mi{S A B C D E F J O:Type}{x:Option S}{f:S->A×B×C×D×E×F×J}{o:S->O}{g:A×B×C×D×E×F×J}{v:O}(h0:x.map (fun s=>(f s).1)=some g.1)(h1:x.map (fun s=>(f s).2.1)=some g.2.1)(h2:x.map (fun s=>(f s).2.2.1)=some g.2.2.1)(h3:x.map (fun s=>((f s).2.2.2.1,(f s).2.2.2.2.1))=some (g.2.2.2.1,g.2.2.2.2.1))(h4:x.map (fun s=>(f s).2.2.2.2.2.1)=some g.2.2.2.2.2.1)(h5:x.map (fun s=>(f s).2.2.2.2.2.2)=some g.2.2.2.2.2.2)(h6:x.map o=some v):x.map (fun s=>(f s,o s))=some (g,v):=by
 obtain⟨a,b,c,d,e,i,j⟩:=g
 cases x with
 | none=>cases h0
 | some s =>
  simp only[zB,yK,Prod.mk.injEq] at h0 h1 h2 h3 h4 h5 h6 ⊢
  refine⟨?_,h6⟩
  generalize f s=t at *
  obtain⟨a',b',c',d',e',i',j'⟩:=t
  dsimp only at *
  obtain⟨h3,h3'⟩:=h3
  subst h0 h1 h2 h3 h3' h4 h5
  rfl
end Hd
namespace K50
open PySem L2 PySem.Spec PyProof.Rows Hd PySem.W
abbrev top(i:Nat):Stmt:=PySem.Challenge.pw_stillflow_k50_changes.main.body.getD i (.Pass ⟨0,0,0,0⟩)
def vw:Program:=W.view PySem.Challenge.pw_stillflow_k50_changes [1,2,3,4,5,6,8,9,10,11,12,13,14,15,16,17,18,19,20,21,22,23,24,26,27,28,29,30,31,32,33,35,36,37,38,39,40,41,42,43,44]
abbrev QR:Addr:=24
abbrev QB:List (Str×Addr):=[("NoWorld",37),("NoPlan",49),("NoPlace",61),("TooMany",73),("Nothing",85)]
def mH:Value:=(.str "stillflow.worlds" 287)
def Aw:Value:=(.str "stillflow.changes" 409)
def ui:Value:=(.str "law_stillflow_k50_changes" 490)
def Kf(P:Params):W.Frag:=[(3,⟨.type "dict",none,.dict #[en P "__name__" 165 (.str "law_stillflow_k50_changes" 490),en P "__doc__" 166 .none,en P "__package__" 167 .none,en P "__loader__" 168 (.builtin "__main__.__loader__#opaque"),en P "__spec__" 169 .none,en P "__annotations__" 170 (.ref 6),en P "__builtins__" 171 (.ref 4),en P "__file__" 173 (.str "/claim/cut.py" 172),en P "__cached__" 174 .none,en P "FlowError" 206 (.ref 24),en P "NoWorld" 222 (.ref 37),en P "NoPlan" 238 (.ref 49),en P "NoPlace" 254 (.ref 61),en P "TooMany" 270 (.ref 73),en P "Nothing" 286 (.ref 85),en P "MOST_PLACES" 290 (.int 4 289),en P "MOST" 292 (.int 9 291),en P "is_whole" 301 (.ref 94),en P "is_number" 309 (.ref 101),en P "is_long" 318 (.ref 108),en P "are_likes" 324 (.ref 113),en P "is_end" 332 (.ref 120),en P "is_way" 341 (.ref 127),en P "are_parts" 347 (.ref 132),en P "liked_pairs" 353 (.ref 137),en P "is_world" 359 (.ref 142),en P "check_world" 366 (.ref 149),en P "check_whole" 375 (.ref 156),en P "check_number" 383 (.ref 163),en P "check_side" 390 (.ref 170),en P "check_place" 399 (.ref 177),en P "replaced" 408 (.ref 184),en P "with_end" 421 (.ref 191),en P "with_likes" 431 (.ref 198),en P "with_ways" 439 (.ref 205),en P "with_amount" 449 (.ref 212),en P "with_limit" 459 (.ref 219),en P "without_way" 465 (.ref 224),en P "inserted" 474 (.ref 231),en P "with_way" 489 (.ref 238),en P "_law_cell" 499 (.ref 245),en P "_law_drawn" 509 (.ref 252),en P "_law_orders" 524 (.ref 259),en P "_law_world" 530 (.ref 264),en P "_law_refused" 538 (.ref 271),en P "_law_told" 548 (.ref 278),en P "_law_placed" 557 (.ref 285),en P "_law_gone" 563 (.ref 290),en P "_law_put" 572 (.ref 297),en P "law" 578 (.ref 302)] 50,#[]⟩),
 (23,⟨.type "dict",none,.dict #[en P "__module__" 196 (.str "stillflow.errors" 187),en P "__firstlineno__" 200 (.int 2 199),en P "__static_attributes__" 201 (.ref 22),en P "__weakref__" 203 (.ref 25),en P "__doc__" 204 .none] 3,#[]⟩),
 (24,M4 "FlowError" 24 23 15 189 197 [(.type "ValueError")] [] [(.ref 37),(.ref 49),(.ref 61),(.ref 73),(.ref 85)]),
 (36,⟨.type "dict",none,.dict #[en P "__module__" 214 (.str "stillflow.errors" 187),en P "__firstlineno__" 218 (.int 4 217),en P "__static_attributes__" 219 (.ref 35),en P "__doc__" 220 .none] 2,#[]⟩),
 (37,M4 "NoWorld" 37 36 28 207 215 [(.ref 24)] [(.ref 24)] []),
 (48,⟨.type "dict",none,.dict #[en P "__module__" 230 (.str "stillflow.errors" 187),en P "__firstlineno__" 234 (.int 6 233),en P "__static_attributes__" 235 (.ref 47),en P "__doc__" 236 .none] 2,#[]⟩),
 (49,M4 "NoPlan" 49 48 40 223 231 [(.ref 24)] [(.ref 24)] []),
 (60,⟨.type "dict",none,.dict #[en P "__module__" 246 (.str "stillflow.errors" 187),en P "__firstlineno__" 250 (.int 8 249),en P "__static_attributes__" 251 (.ref 59),en P "__doc__" 252 .none] 2,#[]⟩),
 (61,M4 "NoPlace" 61 60 52 239 247 [(.ref 24)] [(.ref 24)] []),
 (72,⟨.type "dict",none,.dict #[en P "__module__" 262 (.str "stillflow.errors" 187),en P "__firstlineno__" 266 (.int 10 265),en P "__static_attributes__" 267 (.ref 71),en P "__doc__" 268 .none] 2,#[]⟩),
 (73,M4 "TooMany" 73 72 64 255 263 [(.ref 24)] [(.ref 24)] []),
 (84,⟨.type "dict",none,.dict #[en P "__module__" 278 (.str "stillflow.errors" 187),en P "__firstlineno__" 282 (.int 12 281),en P "__static_attributes__" 283 (.ref 83),en P "__doc__" 284 .none] 2,#[]⟩),
 (85,M4 "Nothing" 85 84 76 271 279 [(.ref 24)] [(.ref 24)] []),
 (93,lK "is_whole" 293 17 3 88 89 0 90 91 92 299),
 (94,fo "is_whole" (top 10) mH 93),
 (100,lK "is_number" 302 21 2 95 96 0 97 98 99 307),
 (101,fo "is_number" (top 11) mH 100),
 (107,lK "is_long" 310 23 3 102 103 0 104 105 106 316),
 (108,fo "is_long" (top 12) mH 107),
 (112,lK "are_likes" 319 25 2 109 110 0 0 0 111 322),
 (113,fo "are_likes" (top 13) mH 112),
 (119,lK "is_end" 325 31 2 114 115 0 116 117 118 330),
 (120,fo "is_end" (top 14) mH 119),
 (126,lK "is_way" 333 33 3 121 122 0 123 124 125 339),
 (127,fo "is_way" (top 15) mH 126),
 (131,lK "are_parts" 342 37 3 128 129 0 0 0 130 345),
 (132,fo "are_parts" (top 16) mH 131),
 (136,lK "liked_pairs" 348 45 1 133 134 0 0 0 135 351),
 (137,fo "liked_pairs" (top 17) mH 136),
 (141,lK "is_world" 354 50 1 138 139 0 0 0 140 357),
 (142,fo "is_world" (top 18) mH 141),
 (148,lK "check_world" 360 57 1 143 144 0 145 146 147 364),
 (149,fo "check_world" (top 19) mH 148),
 (155,lK "check_whole" 367 60 3 150 151 0 152 153 154 373),
 (156,fo "check_whole" (top 20) mH 155),
 (162,lK "check_number" 376 63 2 157 158 0 159 160 161 381),
 (163,fo "check_number" (top 21) mH 162),
 (169,lK "check_side" 384 65 1 164 165 0 166 167 168 388),
 (170,fo "check_side" (top 22) mH 169),
 (176,lK "check_place" 391 67 3 171 172 0 173 174 175 397),
 (177,fo "check_place" (top 23) mH 176),
 (183,lK "replaced" 400 70 3 178 179 0 180 181 182 406),
 (184,fo "replaced" (top 24) mH 183),
 (190,lK "with_end" 411 73 5 185 186 0 187 188 189 419),
 (191,fo "with_end" (top 26) Aw 190),
 (197,lK "with_likes" 422 75 4 192 193 0 194 195 196 429),
 (198,fo "with_likes" (top 27) Aw 197),
 (204,lK "with_ways" 432 77 2 199 200 0 201 202 203 437),
 (205,fo "with_ways" (top 28) Aw 204),
 (211,lK "with_amount" 440 79 4 206 207 0 208 209 210 447),
 (212,fo "with_amount" (top 29) Aw 211),
 (218,lK "with_limit" 450 84 3 213 214 0 215 216 217 457),
 (219,fo "with_limit" (top 30) Aw 218),
 (223,lK "without_way" 460 90 2 220 221 0 0 0 222 463),
 (224,fo "without_way" (top 31) Aw 223),
 (230,lK "inserted" 466 99 3 225 226 0 227 228 229 472),
 (231,fo "inserted" (top 32) Aw 230),
 (237,lK "with_way" 475 101 6 232 233 0 234 235 236 487),
 (238,fo "with_way" (top 33) Aw 237),
 (244,lK "_law_cell" 492 116 2 239 240 0 241 242 243 497),
 (245,fo "_law_cell" (top 35) ui 244),
 (251,lK "_law_drawn" 500 120 3 246 247 0 248 249 250 507),
 (252,fo "_law_drawn" (top 36) ui 251),
 (258,lK "_law_orders" 510 124 3 253 254 0 255 256 257 522),
 (259,fo "_law_orders" (top 37) ui 258),
 (263,lK "_law_world" 525 132 3 260 261 0 0 0 262 528),
 (264,fo "_law_world" (top 38) ui 263),
 (270,lK "_law_refused" 531 148 1 265 266 0 267 268 269 536),
 (271,fo "_law_refused" (top 39) ui 270),
 (277,lK "_law_told" 539 154 3 272 273 0 274 275 276 546),
 (278,fo "_law_told" (top 40) ui 277),
 (284,lK "_law_placed" 549 165 3 279 280 0 281 282 283 555),
 (285,fo "_law_placed" (top 41) ui 284),
 (289,lK "_law_gone" 558 167 2 286 287 0 0 0 288 561),
 (290,fo "_law_gone" (top 42) ui 289),
 (296,lK "_law_put" 564 169 3 291 292 0 293 294 295 570),
 (297,fo "_law_put" (top 43) ui 296),
 (301,lK "law" 573 171 1 298 299 0 0 0 300 576),
 (302,fo "law" (top 44) ui 301)]
def hk:W.Hook:=W.kmHook Kf [3,23,24,36,37,48,49,60,61,72,73,84,85,93,94,100,101,107,108,112,113,119,120,126,127,131,132,136,137,141,142,148,149,155,156,162,163,169,170,176,177,183,184,190,191,197,198,204,205,211,212,218,219,223,224,230,231,237,238,244,245,251,252,258,259,263,264,270,271,277,278,284,285,289,290,296,297,301,302] (fun _=>rfl) []
abbrev rn(w:World):=openEnds treeTable PySem.Challenge.pw_stillflow_k50_changes w 6000
abbrev sn(s:Shared):=openSeen vw [] (importedModules PySem.Challenge.pw_stillflow_k50_changes.main.body) (fun s=>xlAt vw [] s&&recOk [] s) true s
abbrev gd:=openGood vw []
theorem Qv(w:World):(rn w).map (fun s=>(sn s).1)=some (gd.1):=by kernel_rfl
theorem Qy(w:World):(rn w).map (fun s=>(sn s).2.1)=some (gd.2.1):=by kernel_rfl
theorem QL(w:World):(rn w).map (fun s=>(sn s).2.2.1)=some (gd.2.2.1):=by kernel_rfl
theorem Qu(w:World):(rn w).map (fun s=>((sn s).2.2.2.1,(sn s).2.2.2.2.1))=some ((gd.2.2.2.1,gd.2.2.2.2.1)):=by kernel_rfl
theorem QA(w:World):(rn w).map (fun s=>(sn s).2.2.2.2.2.1)=some (gd.2.2.2.2.2.1):=by kernel_rfl
theorem Qx(w:World):(rn w).map (fun s=>(sn s).2.2.2.2.2.2)=some (gd.2.2.2.2.2.2):=by kernel_rfl
theorem QJ(w:World):(rn w).map (fun s=>hk.obs s)=some (hk.val w):=by kernel_rfl
theorem left:LeftO PySem.Challenge.pw_stillflow_k50_changes vw [] (fun s=>xlAt vw [] s&&recOk [] s) hk.obs hk.val 6000:=fun w=>Mi (Qv w) (Qy w) (QL w) (Qu w) (QA w) (Qx w) (QJ w)
theorem P4:PySem.Challenge.rw_stillflow_k50_changes.wellSaid=true:=by kernel_rfl
end K50
namespace L2
open PySem PySem.Spec PyProof.Rows
abbrev Az:=Sum Int Str
def Kr:Az->Value->Bool
 | .inl k,v=>Value.isInt k v
 | .inr x,v=>Value.isStrOf x v
def Qe(w:World):Az->Int
 | .inl k=>hashInt k
 | .inr x=>hashStr w x
theorem bW:∀ {k:Az}{v:Value},Kr k v=true->(∃i t,k=Sum.inl i/\v=Value.int i t)\/(∃x t,k=Sum.inr x/\v=Value.str x t)
 | .inl i,v,h=>by
  obtain⟨t,e⟩:=Value.isInt_shape (k:=i) (v:=v) h
  exact .inl ⟨i,t,rfl,e⟩
 | .inr x,v,h=>by
  obtain⟨t,e⟩:=Value.isStrOf_shape (x:=x) (v:=v) h
  exact .inr ⟨x,t,rfl,e⟩
theorem MP(a b:Int):decide ((Sum.inl a:Az)=Sum.inl b)=(a == b):=by
 by_cases e:a=b
 ·subst e;simp
 ·have h:¬ (Sum.inl a:Az)=Sum.inl b:=fun q=>e (Sum.inl.inj q)
  rw[zY h]
  exact (beq_eq_false_iff_ne.mpr e).symm
theorem ML(a b:Str):decide ((Sum.inr a:Az)=Sum.inr b)=decide (a=b):=by
 by_cases e:a=b
 ·subst e;simp
 ·have h:¬ (Sum.inr a:Az)=Sum.inr b:=fun q=>e (Sum.inr.inj q)
  rw[zY h,zY e]
theorem My(a:Int)(b:Str):decide ((Sum.inl a:Az)=Sum.inr b)=false:=zY (fun q=>nomatch q)
theorem LV(a:Str)(b:Int):decide ((Sum.inr a:Az)=Sum.inl b)=false:=zY (fun q=>nomatch q)
def BZ(prog:Program)(w:World):PySem.KeyKind prog w Az where
 is:=Kr
 hash:=Qe w
 inj:=fun v a b ha hb=>by
  rcases bW ha with ⟨i,t,rfl,rfl⟩|⟨x,t,rfl,rfl⟩
  ·rcases bW hb with ⟨j,u,rfl,e⟩|⟨y,u,rfl,e⟩
   ·injection e with e1 _;rw[e1]
   ·exact nomatch e
  ·rcases bW hb with ⟨j,u,rfl,e⟩|⟨y,u,rfl,e⟩
   ·exact nomatch e
   ·injection e with e1 _;rw[e1]
 byValue:=fun k v h=>by
  rcases bW h with ⟨i,t,rfl,rfl⟩|⟨x,t,rfl,rfl⟩<;>rfl
 pyHash:=fun hv h=>by
  rcases bW hv with ⟨i,t,rfl,rfl⟩|⟨x,t,rfl,rfl⟩
  ·exact wpAny_pyHash_int h
  ·exact wpAny_pyHash_str h
 eqBool:=fun hu hv h=>by
  rcases bW hu with ⟨i,t,rfl,rfl⟩|⟨x,t,rfl,rfl⟩
  ·rcases bW hv with ⟨j,u,rfl,rfl⟩|⟨y,u,rfl,rfl⟩
   ·rw[MP] at h;exact wpAny_eqBool_int h
   ·rw[My] at h;exact SeqAt.EqAt.int_str i t y u _ _ _ _ h
  ·rcases bW hv with ⟨j,u,rfl,rfl⟩|⟨y,u,rfl,rfl⟩
   ·rw[LV] at h;exact SeqAt.EqAt.str_int x t j u _ _ _ _ h
   ·rw[ML] at h;exact wpAny_eqBool_str h
 «strs»:=fun k x t v h=>by
  rcases bW h with ⟨i,u,rfl,e⟩|⟨y,u,rfl,e⟩
  ·exact nomatch e
  ·injection e with e1 _
   subst e1
   cases v<;>rfl
inductive V where
 | non|bl (b:Bool)|int (i:Int)|str (x:Str)|byt (b:Array UInt8)|flt (b:UInt64)|ref (a:Addr)|ty (n:String)
 deriving DecidableEq
def RelV:V->Value->Prop
 | .non,u=>u=Value.none
 | .bl b,u=>u=Value.bool b
 | .int i,u=>∃t,u=Value.int i t
 | .str x,u=>∃t,u=Value.str x t
 | .byt b,u=>∃t,u=Value.bytes b t
 | .flt b,u=>∃t,u=Value.float b t
 | .ref a,u=>u=Value.ref a
 | .ty n,u=>u=Value.type n
abbrev aM:List V->List Value->Prop:=Paired RelV
theorem aM.length{xs:List V}{us:List Value}(r:aM xs us):xs.length=us.length:=Paired.length r
theorem aM.get:∀ {xs:List V}{us:List Value}{i:Nat}{x:V},aM xs us->xs[i]?=some x->∃u,us[i]?=some u/\RelV x u
 | _,_,_,_,.nil,e=>by simp at e
 | _,_,0,_,.cons r _,e=>by simp at e;subst e;exact⟨_,rfl,r⟩
 | _,_,i+1,x,.cons _ t,e=>by
  obtain⟨u,h1,h2⟩:=aM.get (i:=i) (x:=x) t (by simpa using e)
  exact⟨u,by simpa using h1,h2⟩
theorem aM.set{x:V}{u:Value}(r:RelV x u):∀ {xs:List V}{us:List Value}(i:Nat),aM xs us->aM (xs.set i x) (us.set i u)
 | _,_,_,.nil=>.nil
 | _,_,0,.cons _ t=>.cons r t
 | _,_,i+1,.cons q t=>.cons q (aM.set r i t)
theorem aM.append:∀ {xs ys:List V}{us ws:List Value},aM xs us->aM ys ws->aM (xs++ys) (us++ws)
 | _,_,_,_,.nil,s=>s
 | _,_,_,_,.cons r t,s=>.cons r (aM.append t s)
theorem aM.take:∀ {xs:List V}{us:List Value}(n:Nat),aM xs us->aM (xs.take n) (us.take n)
 | _,_,0,_=>.nil
 | _,_,_+1,.nil=>.nil
 | _,_,n+1,.cons r t=>.cons r (aM.take n t)
theorem aM.drop:∀ {xs:List V}{us:List Value}(n:Nat),aM xs us->aM (xs.drop n) (us.drop n)
 | _,_,0,r=>r
 | _,_,_+1,.nil=>.nil
 | _,_,n+1,.cons _ t=>aM.drop n t
def Ot:Option V->Option Value->Prop
 | some v,some u=>RelV v u
 | none,none=>True
 | _,_=>False
def KV{κ:Type}:List (κ×V)->List (κ×Value)->Prop:=Paired fun (p:κ×V) (q:κ×Value)=>p.1=q.1/\RelV p.2 q.2
def kV:Az->V
 | .inl i=>.int i
 | .inr x=>.str x
inductive HO where
  | lst (xs:List V)
  | tup (xs:List V)
  | dK (kvs:List (Az×V))|dT (kvs:List (List Az×V))
  | set (S:Int->Bool) (n:Nat)
  | ins (C dx:Addr) (fs:List (Str×V))
  | own (x:Addr)
  | xd (fs:List (Str×V))
  | met (f x:Addr)
  | rng (lo hi:Int)
  | frz (o:Obj) (u:HO)
  | tab (q:Str)
 | cod (q:Str)
  | ext (φ:Heap->Prop)
abbrev Hp:=Addr->Option HO
def upd(H:Hp)(a:Addr)(o:HO):Hp:=fun b=>if b=a then some o else H b
theorem aI{H:Hp}{a:Addr}{o:HO}:upd H a o a=some o:=by unfold upd;rw[yL rfl]
theorem aG{H:Hp}{a b:Addr}{o:HO}(h:b≠a):upd H a o b=H b:=by unfold upd;rw[yN h]
theorem aV{H:Hp}{a b:Addr}{o:HO}(h:H a=some o)(h':H b=none):a≠b:=by
 intro e;subst e;rw[h] at h';cases h'
def pC(h:Heap)(a:Addr)(its:Array Value):Prop:=IsTup h a its/\∃o,h.get? a=some o/\o.dict=none
theorem pC.new(h:Heap)(its:Array Value):pC (h.push { cls:=.type "tuple",data:=.seq its }) h.objs.size its:=⟨IsTup.new _ _,_,zW _ rfl,rfl⟩
section
variable (P:Program) (w:World)
def eK(H:Hp)(h:Heap)(a:Addr):HO->Prop
 | .lst xs=>xs.length<=sizeLine/\∃ (its:List Value) (n:Nat),aM xs its/\h.get? a=some { cls:=.type "list",data:=.seq its.toArray n }
 | .tup xs=>xs.length<=sizeLine/\∃its:List Value,aM xs its/\pC h a its.toArray
 | .dK kvs=>kvs.length<=sizeLine/\(a == sysModules)=false/\∃vs,KV kvs vs/\h.DictOf (BZ P w) a vs
 | .dT kvs=>kvs.length<=sizeLine/\(a == sysModules)=false/\∃xs:List (List Az×Addr×Value),
   Paired (fun (p:List Az×V) (q:List Az×Addr×Value)=>p.1=q.1/\H q.2.1=some (.tup (p.1.map kV))/\RelV p.2 q.2.2) kvs xs /\
   ∃o es ep,h.get? a=some o/\o.ExactDict/\o.data=.dict es ep/\es.toList=xs.map (entryOfKey (tupleKind (BZ P w)))/\(xs.map (·.1)).Nodup
 | .set S n=>h.SetOf (intKind P w) a S n
 | .ins C dx fs=>H dx=some (.own a)/\fs.length<=1000/\dx≠a/\h.get? a=some (W.instObj C dx) /\
   ∃mA,h.Ns1 dx mA/\(∀f,Ot (fs.lookup f) (mA f))/\PySem.Within mA (fs.map (·.1))
 | .own _=>∃o,h.get? a=some o
 | .xd fs=>∃mA,h.Ns1 a mA/\∀f,Ot (fs.lookup f) (mA f)
 | .rng lo hi=>∃t u v,h.get? a=some { cls:=.type "range",data:=.fields #[.int lo t,.int hi u,.int 1 v] }
 | .frz o u=>h.get? a=some o/\eK H h a u
 | .tab q=>∃ps:Array Value,h.get? a=some { cls:=.none,data:=.fields ps }/\TriplesOk ps.toList/\∀pos v,codeAmong pos ps.toList=some v->∃c,v=.ref c/\H c=some (.cod q)
 | .cod q=>h.CodeRec (.ref a) q
 | .met f x=>h.get? a=some (W.methodObj (.ref f) (.ref x))
 | .ext φ=>φ h/\(∃o,h.get? a=some o)/\∀h1 h2:Heap,φ h1->(∀o,h1.get? a=some o->h2.get? a=some o)->φ h2
def nI(H:Hp)(h:Heap):Prop:=∀a o,H a=some o->eK P w H h a o
end
section
variable {P:Program}{w:World}{H H':Hp}{h h':Heap}{a:Addr}{o:HO}
theorem eK.lt(x:eK P w H h a o):a < h.objs.size:=by
 cases o with
 | lst xs=>obtain⟨_,_,_,_,e⟩:=x;exact zX e
 | tup xs=>obtain⟨_,_,_,p⟩:=x;exact p.1.lt
 | dK kvs=>obtain⟨_,_,_,_,o,_,_,e,_⟩:=x;exact zX e
 | dT kvs=>obtain⟨_,_,_,_,o,_,_,e,_⟩:=x;exact zX e
 | set S n=>obtain⟨o,_,_,_,e,_⟩:=x;exact zX e
 | ins C dx fs=>obtain⟨_,_,_,e,_⟩:=x;exact zX e
 | own y=>obtain⟨_,e⟩:=x;exact zX e
 | xd fs=>obtain⟨_,⟨_,_,_,e,_⟩,_⟩:=x;exact zX e
 | rng lo hi=>obtain⟨_,_,_,e⟩:=x;exact zX e
 | frz ob u=>obtain⟨e,_⟩:=x;exact zX e
 | tab q=>obtain⟨_,e,_⟩:=x;exact zX e
 | cod q=>obtain⟨_,_,_,_,e0,e,_⟩:=x;cases e0;exact zX e
 | met f y=>exact zX (show h.get? a=some _ from x)
 | ext φ=>obtain⟨_,⟨_,e⟩,_⟩:=x;exact zX e
theorem Paired.mapP{α β:Type}{F G:α->β->Prop}:∀ {l₁:List α}{l₂:List β},Paired F l₁ l₂->(∀a b,F a b->G a b)->Paired G l₁ l₂
 | _,_,.nil,_=>.nil
 | _,_,.cons r t,f=>.cons (f _ _ r) (Paired.mapP t f)
def Qq:HO->Prop
 | .tup _=>True
 | .cod _=>True
 | _=>False
theorem eK.stay(x:eK P w H h a o)(k:∀b u,(b=a\/H b=some (.own a))->h.get? b=some u->h'.get? b=some u)
  (ho:∀b,H b=some (.own a)->H' b=some (.own a)) (ht:∀b u,H b=some u->Qq u->H' b=some u):eK P w H' h' a o:=by
 induction o with
 | lst xs=>obtain⟨z,its,n,r,e⟩:=x;exact⟨z,its,n,r,k _ _ (.inl rfl) e⟩
 | tup xs=>obtain⟨z,its,r,⟨ob,e,c⟩,o2,e2,d2⟩:=x;exact⟨z,its,r,⟨ob,k _ _ (.inl rfl) e,c⟩,o2,k _ _ (.inl rfl) e2,d2⟩
 | dK kvs=>obtain⟨z,y,vs,r,ob,es,ep,e,c⟩:=x;exact⟨z,y,vs,r,ob,es,ep,k _ _ (.inl rfl) e,c⟩
 | dT kvs =>
  obtain⟨z,y,xs,r,ob,es,ep,e,c⟩:=x
  exact⟨z,y,xs,Paired.mapP r fun p q z=>⟨z.1,ht _ _ z.2.1 trivial,z.2.2⟩,ob,es,ep,k _ _ (.inl rfl) e,c⟩
 | set S n=>obtain⟨ob,es,ep,t,e,c⟩:=x;exact⟨ob,es,ep,t,k _ _ (.inl rfl) e,c⟩
 | ins C dx fs =>
  obtain⟨d,z,ne,e,mA,⟨od,es,ep,e2,c⟩,r⟩:=x
  exact⟨ho _ d,z,ne,k _ _ (.inl rfl) e,mA,⟨od,es,ep,k _ _ (.inr d) e2,c⟩,r⟩
 | own y=>obtain⟨ob,e⟩:=x;exact⟨ob,k _ _ (.inl rfl) e⟩
 | xd fs=>obtain⟨mA,⟨od,es,ep,e,c⟩,r⟩:=x;exact⟨mA,⟨od,es,ep,k _ _ (.inl rfl) e,c⟩,r⟩
 | rng lo hi=>obtain⟨t,u,v,e⟩:=x;exact⟨t,u,v,k _ _ (.inl rfl) e⟩
 | frz ob u ih=>obtain⟨e,q⟩:=x;exact⟨k _ _ (.inl rfl) e,ih q⟩
 | tab q=>obtain⟨ps,e,t,c⟩:=x;exact⟨ps,k a _ (.inl rfl) e,t,fun pos v z=>let ⟨c0,z1,z2⟩:=c pos v z;⟨c0,z1,ht _ _ z2 trivial⟩⟩
 | cod q=>obtain⟨c,oc,vs,t,e0,e,r⟩:=x;cases e0;exact⟨_,oc,vs,t,rfl,k _ _ (.inl rfl) e,r⟩
 | met f y =>
  have e:h.get? a=some (W.methodObj (.ref f) (.ref y)):=x
  show h'.get? a=some (W.methodObj (.ref f) (.ref y))
  exact k a _ (.inl rfl) e
 | ext φ=>obtain⟨p,⟨o,e⟩,st⟩:=x;exact⟨st _ _ p fun o q=>k _ _ (.inl rfl) q,⟨o,k _ _ (.inl rfl) e⟩,st⟩
theorem nI.lt(x:nI P w H h)(e:H a=some o):a < h.objs.size:=(x a o e).lt
theorem nI.fresh(x:nI P w H h)(e:h.objs.size<=a):H a=none:=by
 cases q:H a with
 | none=>rfl
 | some u=>exact absurd (zP (x.lt q) e) (qE _)
theorem nI.kept(x:nI P w H h)(k:∀b u,h.get? b=some u->h'.get? b=some u):nI P w H h':=fun a o e =>
 (x a o e).stay (fun b u _ q=>k b u q) (fun _ q=>q) fun _ _ q _=>q
theorem nI.laid(x:nI P w H h)(k:∀b u,h.get? b=some u->h'.get? b=some u)(hp:h.objs.size<=a)(new:eK P w (upd H a o) h' a o):nI P w (upd H a o) h':=fun b u e=>by
 have hn:=x.fresh hp
 by_cases hb:b=a
 ·subst hb;rw[aI] at e;cases e;exact new
 ·rw[aG hb] at e
  exact (x b u e).stay (fun c v _ q=>k c v q) (fun c q=>by rw[aG (aV q hn)];exact q) fun c xs q _=>by rw[aG (aV q hn)];exact q
end
def Rd(H:Hp)(a:Addr)(u:HO):Prop:=H a=some u\/∃o,H a=some (.frz o u)
theorem Rd.ok{P:Program}{w:World}{H:Hp}{h:Heap}{a:Addr}{u:HO}(r:Rd H a u)(x:nI P w H h):eK P w H h a u:=by
 rcases r with r|⟨o,r⟩
 ·exact x a u r
 ·obtain⟨_,q⟩:=x a _ r
  exact q
def Nv:Option HO->Prop
 | some (.lst _)=>True
 | some (.dK _)=>True
 | some (.dT _)=>True
 | some (.set _ _)=>True
 | some (.ins _ _ _)=>True
 | some (.ext _)=>True
 | _=>False
section
variable {P:Program}{w:World}{H:Hp}{h h':Heap}{x e:Addr}{o':HO}
theorem nI.write(ok:nI P w H h)(mu:Nv (H x))(he:e=x\/H e=some (.own x))(k:∀b u,b≠e->h.get? b=some u->h'.get? b=some u)(heo:∃u,h'.get? e=some u)
  (new:eK P w (upd H x o') h' x o'):nI P w (upd H x o') h':=fun b u q=>by
 have nown:∀c y,H c=some (.own y)->c≠x:=fun c y r z=>by subst z;rw[r] at mu;exact mu
 have ntup:∀c u,H c=some u->Qq u->c≠x:=fun c u r hr z=>by subst z;rw[r] at mu;cases u<;>first|exact mu|exact hr
 by_cases hb:b=x
 ·subst hb;rw[aI] at q;cases q;exact new
 ·rw[aG hb] at q
  by_cases hbe:b=e
  ·have q':H b=some (.own x):=by
    rcases he with z|z
    ·exact absurd (hbe.trans z) hb
    ·rw[hbe];exact z
   rw[q] at q';cases q'
   obtain⟨v,hv⟩:=heo
   exact⟨v,by rw[hbe];exact hv⟩
  ·refine (ok b u q).stay (fun c v hc r=>k c v ?_ r) (fun c r=>by rw[aG (nown c b r)];exact r) fun c xs r hr=>by rw[aG (ntup c xs r hr)];exact r
   rcases hc with rfl|hc
   ·exact hbe
   ·rintro rfl
    rcases he with z|z
    ·exact nown c b hc z
    ·rw[hc] at z;cases z;exact hb rfl
end
def OI:HO->Prop
 | .tab _=>True
 | .cod _=>True
 | _=>False
theorem OI.not_mut{u:HO}(h:OI u):¬ Nv (some u):=by cases u<;>first|exact fun z=>z|exact h.elim
structure J4(H H':Hp)(h h':Heap):Prop where
 st:∀b u,H b=some u->OI u->H' b=some u
 gr:∀b q ps,H b=some (.tab q)->h.get? b=some { cls:=.none,data:=.fields ps }->∃more:Array Value,h'.get? b=some { cls:=.none,data:=.fields (ps++more) }
theorem J4.kept{H H':Hp}{h h':Heap}(k:∀b u,(∃q,H b=some (.tab q))->h.get? b=some u->h'.get? b=some u)(st:∀b u,H b=some u->OI u->H' b=some u):J4 H H' h h' :=
 ⟨st,fun b q ps e z=>⟨#[],by rw[Array.append_empty];exact k b _ ⟨q,e⟩ z⟩⟩
theorem J4.trans{H H1 H2:Hp}{h h1 h2:Heap}(a:J4 H H1 h h1)(b:J4 H1 H2 h1 h2):J4 H H2 h h2 :=
 ⟨fun c u q t=>b.st c u (a.st c u q t) t,fun c q ps e z=>by
  obtain⟨m1,z1⟩:=a.gr c q ps e z
  obtain⟨m2,z2⟩:=b.gr c q _ (a.st c _ e trivial) z1
  exact⟨m1++m2,by rw[z2,Array.append_assoc]⟩⟩
structure Un(fs ex:List Addr)(H H':Hp)(h h':Heap):Prop where
 keep:∀b o,h.get? b=some o->H b=none->b∉fs->b∉ex->h'.get? b=some o
 slot:∀b o,h.get? b=some o->H b=none->b∈fs->b∉ex->∃sl,h'.get? b=some { o with slots:=sl }
 free:∀b o,h.get? b=some o->H b=none->b∉ex->H' b=none
 there:∀b o,h.get? b=some o->b∉ex->∃o',h'.get? b=some o'
 tups:∀b xs,H b=some (.tup xs)->H' b=some (.tup xs)
 frzs:∀b o u,H b=some (.frz o u)->H' b=some (.frz o u)
 tbls:J4 H H' h h'
section
variable {fs fs' ex ex':List Addr}{H H1 H2:Hp}{h h1 h2 h':Heap}{a x e:Addr}{o:HO}
theorem Un.any(u:Un fs ex H H1 h h1){b:Addr}{ob:Obj}(q:h.get? b=some ob)(n:H b=none)(hx:b∉ex):∃sl,h1.get? b=some { ob with slots:=sl }:=by
 by_cases hb:b∈fs
 ·exact u.slot b ob q n hb hx
 ·exact⟨ob.slots,u.keep b ob q n hb hx⟩
theorem Un.kept(k:∀b u,h.get? b=some u->h'.get? b=some u):Un fs ex H H h h' :=
 ⟨fun b ob q _ _ _=>k b ob q,fun b ob q _ _ _=>⟨ob.slots,k b ob q⟩,fun _ _ _ n _=>n,fun b ob q _=>⟨ob,k b ob q⟩,fun _ _ q=>q,fun _ _ _ q=>q,.kept (fun b u _ e=>k b u e) fun _ _ e _=>e⟩
theorem Un.refl:Un fs ex H H h h:=Un.kept fun _ _ q=>q
theorem Un.laid(k:∀b u,h.get? b=some u->h'.get? b=some u)(hp:h.objs.size<=a)(hn:H a=none):Un fs ex H (upd H a o) h h' where
 keep:=fun b u q _ _ _=>k b u q
 slot:=fun b u q _ _ _=>⟨u.slots,k b u q⟩
 free:=fun b u q n _=>by rw[aG (yR (zP (zX q) hp))];exact n
 there:=fun b u q _=>⟨u,k b u q⟩
 tups:=fun b xs q=>by rw[aG (aV q hn)];exact q
 frzs:=fun b u xs q=>by rw[aG (aV q hn)];exact q
 tbls:=.kept (fun b u _ e=>k b u e) fun b u q _=>by rw[aG (aV q hn)];exact q
theorem Un.write(mu:Nv (H x))(he:e=x\/H e=some (.own x))(k:∀b u,b≠e->h.get? b=some u->h'.get? b=some u)(heo:∃u,h'.get? e=some u):Un fs ex H (upd H x o) h h':=by
 have hx:∀b,H b=none->b≠x:=fun b n z=>by subst z;rw[n] at mu;exact mu
 have hb:∀b,H b=none->b≠e:=fun b n z=>by
  subst z
  rcases he with r|r
  ·exact hx b n r
  ·rw[n] at r;cases r
 have hm:∀b u,H b=some u->¬ Nv (some u)->b≠x:=fun b u q nm z=>by subst z;rw[q] at mu;exact nm mu
 refine⟨fun b u q n _ _=>k b u (hb b n) q,fun b u q n _ _=>⟨u.slots,k b u (hb b n) q⟩,fun b u q n _=>by rw[aG (hx b n)];exact n,fun b u q _=>?_,
  fun b xs q=>by rw[aG (hm b _ q fun z=>z)];exact q,fun b u xs q=>by rw[aG (hm b _ q fun z=>z)];exact q,.kept (fun b u z e=>k b u (fun r=>by subst r;rcases he with r|r<;>first|(subst r;rcases z with ⟨q,z⟩;rw[z] at mu;exact mu)|(rcases z with ⟨q,z⟩;rw[z] at r;cases r)) e) fun b u q nm=>by rw[aG (hm b _ q (nm.not_mut))];exact q⟩
 by_cases hbe:b=e
 ·subst hbe;exact heo
 ·exact⟨u,k b u hbe q⟩
end
def HK(h:Heap)(H:Hp):List Addr:=(List.range h.objs.size).filter fun a=>(H a).isSome
def uC(h:Heap)(H:Hp):Heap:=W.hideAll h (HK h H)
theorem D8(h:Heap)(H:Hp):(uC h H).objs.size=h.objs.size:=W.hideAll_size _ _
theorem GC{h:Heap}{H:Hp}{b:Addr}{o:Obj}(e:h.get? b=some o)(n:H b=none):(uC h H).get? b=some o :=
 W.hideAll_get _ e fun hm=>by
  have q:(H b).isSome=true:=(List.mem_filter.mp hm).2
  rw[n] at q;simp at q
theorem JS{h:Heap}{H:Hp}{b:Addr}{o:Obj}(e:(uC h H).get? b=some o):h.get? b=some o/\H b=none:=by
 have e':h.get? b=some o:=W.of_hideAll (HK h H) e
 refine⟨e',?_⟩
 cases q:H b with
 | none=>rfl
 | some x =>
  have hm:b∈HK h H:=List.mem_filter.mpr ⟨List.mem_range.mpr (zX e'),by simp[q]⟩
  have z:(uC h H).get? b=none:=W.hideAll_none (HK h H) hm
  rw[z] at e;cases e
def OP(mg:Str->Option Value)(base:Heap):Prop:=∃bm o,mg "__builtins__"=some (.ref bm)/\bm≠builtinsNs/\bm≠mainGlobals/\base.get? bm=some o/\o.cls=.type "module"/\o.dict=some builtinsNs/\o.data=.plain
structure Mod(K:W.Frag)(mg:Str->Option Value)(base:Heap):Prop where
 kin:K.In base
 glob:base.Ns mainGlobals mg
 blt:∃mb,base.Ns builtinsNs mb/\∀x:Str,x≠"__name__"->mb x=bootBuiltins x
 nolimit:base.NoLimit
 bmd:OP mg base
structure Cx where
 prog:Program
 w:World
 K:W.Frag
 mg:Str->Option Value
 base:Heap
 A:Around
 N:List Str
 s₀:Shared
 H₀:Hp
 env:Env
 outer:List Env
 stack:List Env
 ex:List Addr
 fn:Str->Bool
 calm:Bool
 pn:List (Addr×Obj)
 xe:Value->Shared->Prop
def ib(l:List Env):List Addr:=l.filterMap (·.frame)
abbrev Cx.fs(X:Cx):List Addr:=ib X.outer
def HX(sc:Scope)(x:Str):Prop:=sc.names.lookup x=some .local \/ sc.names.lookup x=some .cell\/sc.names.lookup x=some .free
def Loc(sc:Scope)(x:Str):Prop:=sc.names.lookup x=some .local \/ sc.names.lookup x=some .cell
def Look(env:Env)(h:Heap)(m:Str->Option Value)(x:Str)(u:Value):Prop :=
 (env.kindOf x=some .local /\ m x=some u)\/((env.kindOf x=some .cell\/env.kindOf x=some .free)/\∃c,env.cells.lookup x=some c/\h.IsCell c (some u))
structure Cx.Ok(X:Cx):Prop where
 mod:Mod X.K X.mg X.base
 kind:X.env.scope.kind=.function
 glob:X.env.globals=mainGlobals
 blt:X.env.builtins=builtinsNs
 above:X.s₀.heap.objs.size<=X.env.locals
 inj:∀x y c,X.env.cells.lookup x=some c->X.env.cells.lookup y=some c->x=y
 has:∀x,(X.env.kindOf x=some .cell\/X.env.kindOf x=some .free)->∃c,X.env.cells.lookup x=some c
 cab:∀x c,X.fn x=true->X.env.cells.lookup x=some c->X.s₀.heap.objs.size<=c
 hd:X.calm=true->X.A.handled=none
 frames:X.A.frames=some X.stack
 stk:X.stack=X.outer\/(X.stack=X.env::X.outer/\X.env.frame=some X.env.locals)
 exf:∀b∈X.ex,b≠X.env.locals/\∀x c,X.env.cells.lookup x=some c->c≠b
 bs:∀b o,X.base.get? b=some o->X.s₀.heap.get? b=some o/\X.H₀ b=none
 bsz:X.base.objs.size<=X.s₀.heap.objs.size
 noex:∀b o,X.base.get? b=some o->b∉X.ex
 exfs:∀b∈X.ex,b∉X.fs
 funs:X.s₀.heap.FunFrames X.base X.outer
 frf:∀b∈X.fs,X.H₀ b=none
structure Inv(X:Cx)(pins:List (Addr×Obj))(σ:List (Option V))(H:Hp)(s:Shared):Prop where
 ok:X.Ok
 os:s.os=X.s₀.os
 bare:AllBare s.gens
 base:Un X.fs X.ex X.H₀ H X.s₀.heap s.heap
 loc:∃m,s.heap.Ns X.env.locals m/\∀ (i:Nat) (x:Str) (v:V),X.N[i]?=some x->σ[i]?=some (some v)->HX X.env.scope x->∃u,RelV v u/\Look X.env s.heap m x u
 cell:∀x c,X.env.cells.lookup x=some c->∃v,s.heap.IsCell c v
 free:H X.env.locals=none
 freeC:∀x c,X.env.cells.lookup x=some c->H c=none
 pin:∀p∈X.pn++pins,s.heap.get? p.1=some p.2/\H p.1=none/\p.1≠X.env.locals/\p.1∉X.fs/\∀v,p.2.data≠.cell v
 hok:nI X.prog X.w H s.heap
 len:σ.length=X.N.length
section
variable {X:Cx}{pins:List (Addr×Obj)}{σ:List (Option V)}{H H':Hp}{s:Shared}{h':Heap}
theorem Cx.Ok.nofr(ok:X.Ok){b:Addr}{o:Obj}(e:X.base.get? b=some o):b∉X.fs:=fun hb=>by
 have:=(ok.funs.mem hb).1
 rw[e] at this;cases this
theorem Inv.bs(I:Inv X pins σ H s):∀b o,X.base.get? b=some o->s.heap.get? b=some o/\H b=none:=fun b o e =>
 ⟨I.base.keep b o (I.ok.bs b o e).1 (I.ok.bs b o e).2 (I.ok.nofr e) (I.ok.noex b o e),I.base.free b o (I.ok.bs b o e).1 (I.ok.bs b o e).2 (I.ok.noex b o e)⟩
theorem Inv.bk(I:Inv X pins σ H s):∀b o,X.base.get? b=some o->s.heap.get? b=some o:=fun b o e=>(I.bs b o e).1
theorem Inv.mod(I:Inv X pins σ H s):Mod X.K X.mg X.base:=I.ok.mod
theorem Inv.kIn(I:Inv X pins σ H s):X.K.In s.heap:=I.ok.mod.kin.keeps I.bk
theorem Inv.nolimit(I:Inv X pins σ H s):s.heap.NoLimit:=I.ok.mod.nolimit.keeps I.bk
theorem Inv.lt(I:Inv X pins σ H s):X.env.locals < s.heap.objs.size:=let ⟨_,hn,_⟩:=I.loc;hn.lt
theorem Inv.sz(I:Inv X pins σ H s):X.s₀.heap.objs.size<=s.heap.objs.size:=yC I.ok.above (jS I.lt)
theorem Inv.nofs(I:Inv X pins σ H s){a:Addr}(h:s.heap.objs.size<=a):a∉X.fs:=fun hb=>by
 obtain⟨_,o,ho,_⟩:=I.ok.funs.mem hb
 exact absurd (zP (zX ho) (yC I.sz h)) (qE _)
theorem Inv.cne(I:Inv X pins σ H s):∀x c,X.env.cells.lookup x=some c->c≠X.env.locals:=fun x c e z=>by
 obtain⟨v,o,ho,hd⟩:=I.cell x c e
 obtain⟨m,⟨o',es,ep,ho',hd',_⟩,_⟩:=I.loc
 rw[z,ho'] at ho;cases ho;rw[hd'] at hd;cases hd
theorem Inv.funs(I:Inv X pins σ H s):s.heap.FunFrames X.base X.outer:=by
 have all:∀ (l:List Env),(∀b∈ib l,b∈X.fs)->X.s₀.heap.FunFrames X.base l->s.heap.FunFrames X.base l:=by
  intro l
  induction l with
  | nil=>intro _ _;trivial
  | cons env r ih =>
   intro hs hl
   obtain⟨hk,⟨L,o,hf,hn,ho,hd⟩,hr⟩:=hl
   have hL:L∈X.fs:=hs L (by unfold ib;rw[jG,hf];exact zE)
   obtain⟨sl,e⟩:=I.base.slot L o ho (I.ok.frf L hL) hL fun z=>I.ok.exfs L z hL
   exact⟨hk,⟨L,_,hf,hn,e,hd⟩,ih (fun b hb=>hs b (by unfold ib;rw[jG,hf];exact zC _ hb)) hr⟩
 exact all X.outer (fun _ hb=>hb) I.ok.funs
theorem Inv.stack(I:Inv X pins σ H s):s.heap.FunFrames X.base X.stack:=by
 rcases I.ok.stk with e|⟨e,hf⟩
 ·rw[e];exact I.funs
 ·rw[e]
  obtain⟨m,hn,_⟩:=I.loc
  refine .cons (by rw[I.ok.kind];decide) hf hn ?_ I.funs
  exact Heap.get?_none_of_le (yC I.ok.bsz I.ok.above)
theorem Inv.stkSub(I:Inv X pins σ H s):∀b∈ib X.stack,b∈X.env.locals::X.fs:=fun b hb=>by
 rcases I.ok.stk with e|⟨e,hf⟩
 ·rw[e] at hb;exact zC _ hb
 ·rw[e] at hb
  unfold ib at hb
  rw[jG,hf] at hb
  exact hb
theorem Inv.stkFree(I:Inv X pins σ H s):∀b∈ib X.stack,H b=none:=fun b hb=>by
 rcases List.mem_cons.mp (I.stkSub b hb) with e|hb
 ·rw[e];exact I.free
 ·obtain⟨_,o,ho,_⟩:=I.ok.funs.mem hb
  exact I.base.free b o ho (I.ok.frf b hb) fun z=>I.ok.exfs b z hb
theorem Inv.step{g':Array GenState}{t':Nat}{d':Drawn}{ch:List Addr}(I:Inv X pins σ H s)
  (hch:∀b∈ch,(b∈X.ex\/X.s₀.heap.objs.size<=b)/\b≠X.env.locals/\(∀x c,X.env.cells.lookup x=some c->c≠b)/\∀p∈X.pn++pins,p.1≠b)
  (keep:∀b o,b≠X.env.locals->b∉X.fs->b∉ch->s.heap.get? b=some o->H b=none->h'.get? b=some o)
  (slot:∀b o,b≠X.env.locals->b∈X.fs->b∉ch->s.heap.get? b=some o->H b=none->∃sl,h'.get? b=some { o with slots:=sl }) (free:∀b o,b∉ch->s.heap.get? b=some o->H b=none->H' b=none)
  (there:∀b o,b∉ch->s.heap.get? b=some o->∃o',h'.get? b=some o')
  (tups:∀b xs,H b=some (.tup xs)->H' b=some (.tup xs)) (frzs:∀b o u,H b=some (.frz o u)->H' b=some (.frz o u)) (tbls:J4 H H' s.heap h')
  (ns:∀m,s.heap.Ns X.env.locals m->h'.Ns X.env.locals m) (hok:nI X.prog X.w H' h') (hg:AllBare g') :
  Inv X pins σ H' { s with heap:=h',gens:=g',drawn:=d',toks:=t' }:=by
 have neL:∀b o,X.s₀.heap.get? b=some o->b≠X.env.locals:=fun b o e=>yR (zP (zX e) I.ok.above)
 have neC:∀b o,X.s₀.heap.get? b=some o->b∉X.ex->b∉ch:=fun b o e hx hb=>by
  rcases (hch b hb).1 with z|z
  ·exact hx z
  ·exact absurd (zP (zX e) z) (qE _)
 have cellK:∀x c,X.env.cells.lookup x=some c->∀v,s.heap.IsCell c v->h'.IsCell c v:=fun x c e v ⟨o,ho,hd⟩=>by
  have nch:c∉ch:=fun z=>(hch c z).2.2.1 x c e rfl
  by_cases hc:c∈X.fs
  ·obtain⟨sl,q⟩:=slot c o (I.cne x c e) hc nch ho (I.freeC x c e)
   exact⟨_,q,hd⟩
  ·exact⟨o,keep c o (I.cne x c e) hc nch ho (I.freeC x c e),hd⟩
 refine⟨I.ok,I.os,hg,⟨fun b o e n hb hx=>?_,fun b o e n hb hx=>?_,fun b o e n hx=>?_,fun b o e hx=>?_,fun b xs e=>tups b xs (I.base.tups b xs e),fun b o xs e=>frzs b o xs (I.base.frzs b o xs e),I.base.tbls.trans tbls⟩,?_,fun x c e=>?_,?_,fun x c e=>?_,fun p hp=>?_,hok,I.len⟩
 ·exact keep b o (neL b o e) hb (neC b o e hx) (I.base.keep b o e n hb hx) (I.base.free b o e n hx)
 ·obtain⟨sl,e1⟩:=I.base.slot b o e n hb hx
  obtain⟨sl',e2⟩:=slot b _ (neL b o e) hb (neC b o e hx) e1 (I.base.free b o e n hx)
  exact⟨sl',e2⟩
 ·obtain⟨o',e1⟩:=I.base.there b o e hx
  exact free b o' (neC b o e hx) e1 (I.base.free b o e n hx)
 ·obtain⟨o',e1⟩:=I.base.there b o e hx
  exact there b o' (neC b o e hx) e1
 ·obtain⟨m,hn,hl⟩:=I.loc
  refine⟨m,ns m hn,fun i x v e1 e2 e3=>?_⟩
  obtain⟨u,r,l⟩:=hl i x v e1 e2 e3
  refine⟨u,r,?_⟩
  rcases l with l|⟨k,c,e,z⟩
  ·exact .inl l
  ·exact .inr ⟨k,c,e,cellK x c e _ z⟩
 ·obtain⟨v,z⟩:=I.cell x c e
  exact⟨v,cellK x c e v z⟩
 ·obtain⟨m,⟨o,_,_,ho,_⟩,_⟩:=I.loc
  exact free _ o (fun z=>(hch _ z).2.1 rfl) ho I.free
 ·obtain⟨v,o,ho,hd⟩:=I.cell x c e
  exact free c o (fun z=>(hch c z).2.2.1 x c e rfl) ho (I.freeC x c e)
 ·obtain⟨e,n,ne,nf,d⟩:=I.pin p hp
  have nch:p.1∉ch:=fun z=>(hch p.1 z).2.2.2 p hp rfl
  exact⟨keep p.1 p.2 ne nf nch e n,free p.1 p.2 nch e n,ne,nf,d⟩
theorem Inv.un{t':Nat}(I:Inv X pins σ H s)(u:Un X.fs [] H H' s.heap h')(hok:nI X.prog X.w H' h'):Inv X pins σ H' { s with heap:=h',toks:=t' }:=by
 obtain⟨m,⟨o,es,ep,ho,r⟩,_⟩:=id I.loc
 obtain⟨sl,hL⟩:=u.any ho I.free (by simp)
 exact I.step (g':=s.gens) (d':=s.drawn) (ch:=[]) (fun _ z=>nomatch z) (fun b o _ hb _ e n=>u.keep b o e n hb (by simp)) (fun b o _ hb _ e n=>u.slot b o e n hb (by simp)) (fun b o _ e n=>u.free b o e n (by simp)) (fun b o _ e=>u.there b o e (by simp)) u.tups u.frzs u.tbls (fun m' hm=>by
  obtain⟨o',es',ep',ho',r'⟩:=hm
  rw[ho] at ho';cases ho'
  exact⟨_,es',ep',hL,r'⟩) hok I.bare
theorem Inv.call{g':Array GenState}{t':Nat}{d':Drawn}{ch:List Addr}(I:Inv X pins σ H s)(u:Un (ib X.stack) ch H H' s.heap h')(hok:nI X.prog X.w H' h')(hg:AllBare g')
  (hch:∀b∈ch,(b∈X.ex\/X.s₀.heap.objs.size<=b)/\b≠X.env.locals/\(∀x c,X.env.cells.lookup x=some c->c≠b)/\∀p∈X.pn++pins,p.1≠b) :
  Inv X pins σ H' { s with heap:=h',gens:=g',drawn:=d',toks:=t' }:=by
 obtain⟨m,⟨o,es,ep,ho,r⟩,_⟩:=id I.loc
 obtain⟨sl,hL⟩:=u.any ho I.free fun z=>(hch _ z).2.1 rfl
 exact I.step (ch:=ch) hch (fun b o hL hb hc e n=>u.keep b o e n (fun z=>(List.mem_cons.mp (I.stkSub b z)).elim hL hb) hc) (fun b o _ _ hc e n=>u.any e n hc) (fun b o hc e n=>u.free b o e n hc) (fun b o hc e=>u.there b o e hc) u.tups u.frzs u.tbls (fun m' hm=>by
  obtain⟨o',es',ep',ho',r'⟩:=hm
  rw[ho] at ho';cases ho'
  exact⟨_,es',ep',hL,r'⟩) hok hg
theorem Inv.turned{t':Nat}{it:Addr}(I:Inv X pins σ H s)(k:∀b o,b≠it->s.heap.get? b=some o->h'.get? b=some o)(hn:H it=none)(hL:it≠X.env.locals)
  (h1:it∈X.ex\/X.s₀.heap.objs.size<=it) (h2:∀x c,X.env.cells.lookup x=some c->c≠it) (h3:∀p∈X.pn++pins,p.1≠it):Inv X pins σ H { s with heap:=h',toks:=t' }:=by
 have nit:∀b u,H b=some u->b≠it:=fun b u e z=>by rw[z,hn] at e;cases e
 refine I.step (g':=s.gens) (d':=s.drawn) (ch:=[it]) (fun b hb=>?_) (fun b o _ _ hc e _=>k b o (fun z=>hc (by simp[z])) e) (fun b o _ _ hc e _=>⟨o.slots,k b o (fun z=>hc (by simp[z])) e⟩) (fun _ _ _ _ n=>n)
  (fun b o hc e=>⟨o,k b o (fun z=>hc (by simp[z])) e⟩) (fun _ _ e=>e) (fun _ _ _ e=>e) (.kept (fun b u z e=>k b u (fun r=>by subst r;rcases z with ⟨q,z⟩;rw[hn] at z;cases z) e) fun _ _ e _=>e) (fun m hm=>?_) (fun b u e=>?_) I.bare
 ·have e:b=it:=by simpa using hb
  subst e
  exact⟨h1,hL,h2,h3⟩
 ·obtain⟨o,es,ep,ho,r⟩:=hm
  exact⟨o,es,ep,k _ o (jM hL) ho,r⟩
 ·refine (I.hok b u e).stay (fun c v hc q=>k c v ?_ q) (fun _ q=>q) fun _ _ q _=>q
  rcases hc with z|z
  ·rw[z];exact nit b u e
  ·exact nit c _ z
theorem Inv.tok(I:Inv X pins σ H s)(t:Nat):Inv X pins σ H { s with toks:=t }:=I.un (h':=s.heap) (t':=t) Un.refl I.hok
theorem Inv.kept{t':Nat}(I:Inv X pins σ H s)(k:∀b u,s.heap.get? b=some u->h'.get? b=some u):Inv X pins σ H { s with heap:=h',toks:=t' }:=I.un (Un.kept k) (I.hok.kept k)
theorem Inv.laid{a:Addr}{o:HO}{t':Nat}(I:Inv X pins σ H s)(k:∀b u,s.heap.get? b=some u->h'.get? b=some u)(hp:s.heap.objs.size<=a)(new:eK X.prog X.w (upd H a o) h' a o) :
  Inv X pins σ (upd H a o) { s with heap:=h',toks:=t' }:=I.un (Un.laid k hp (I.hok.fresh hp)) (I.hok.laid k hp new)
theorem Inv.write{x e:Addr}{o:HO}{t':Nat}(I:Inv X pins σ H s)(mu:Nv (H x))(he:e=x\/H e=some (.own x))(k:∀b u,b≠e->s.heap.get? b=some u->h'.get? b=some u)(heo:∃u,h'.get? e=some u)
  (new:eK X.prog X.w (upd H x o) h' x o):Inv X pins σ (upd H x o) { s with heap:=h',toks:=t' }:=I.un (Un.write mu he k heo) (I.hok.write mu he k heo new)
theorem Inv.pins_of{pins':List (Addr×Obj)}(I:Inv X pins σ H s)(h:∀p∈pins',s.heap.get? p.1=some p.2/\H p.1=none/\p.1≠X.env.locals/\p.1∉X.fs/\∀v,p.2.data≠.cell v):Inv X pins' σ H s :=
 ⟨I.ok,I.os,I.bare,I.base,I.loc,I.cell,I.free,I.freeC,fun p hp=>(List.mem_append.mp hp).elim (fun z=>I.pin p (qJ _ z)) (h p),I.hok,I.len⟩
theorem Ah{N:List Str}(hN:N.Nodup){i j:Nat}{x:Str}(a:N[i]?=some x)(b:N[j]?=some x):i=j:=by
 obtain⟨h1,e1⟩:=List.getElem?_eq_some_iff.mp a
 obtain⟨h2,e2⟩:=List.getElem?_eq_some_iff.mp b
 exact (List.getElem_inj hN).mp (e1.trans e2.symm)
theorem nX{M:Model}{A:Around}{E:Value->Shared->Prop}{i:Nat}{x:Str}{v:V}{u:Value}{Q:Unit->Shared->Prop}(I:Inv X pins σ H s)(hN:X.N.Nodup)(hi:X.N[i]?=some x)(hx:Loc X.env.scope x)(r:RelV v u)
  (h:∀s',Inv X pins (σ.set i (some v)) H s'->(∃a,Heap.SameBut a s.heap s'.heap/\(a=X.env.locals\/X.env.cells.lookup x=some a))->Q () s') (hf:X.fn x=true\/X.env.scope.names.lookup x=some .local:=by first|exact .inl rfl|exact .inr rfl|assumption):wpAny M A (storeName X.env x u) Q E s:=by
 obtain⟨m,hn,hl⟩:=id I.loc
 have hcls:(X.env.scope.kind == .class||(X.env.scope.kind == .module&&X.env.locals != X.env.globals))=false:=by rw[I.ok.kind];rfl
 have hiσ:i < σ.length:=by rw[I.len];exact (List.getElem?_eq_some_iff.mp hi).1
 have cne:=I.cne
 have tracked:∀ {a:Addr}{h':Heap},(∃o,s.heap.get? a=some o/\H a=none)->Heap.SameBut a s.heap h'->nI X.prog X.w H h':=fun {a h'} ha hs b ob e=>by
  obtain⟨_,_,hfree⟩:=ha
  refine (I.hok b ob e).stay (fun c w' hc q=>(hs.2 c ?_).trans q) (fun _ q=>q) fun _ _ q _=>q
  rintro rfl
  rcases hc with rfl|hc
  ·rw[hfree] at e;cases e
  ·rw[hfree] at hc;cases hc
 rcases hx with hk|hk
 ·refine wpAny_storeName_local hk hn (fun h' hn' hs=>?_) hcls
  obtain⟨oL,_,_,hoL,_⟩:=id hn
  refine h _ ⟨I.ok,I.os,I.bare,⟨fun b o e n hb hx=>?_,fun b o e n hb hx=>?_,I.base.free,fun b o e hx=>?_,I.base.tups,I.base.frzs,I.base.tbls.trans (.kept (fun b u z e=>(hs.2 b (fun r=>by rcases z with ⟨q,z⟩;rw[r,I.free] at z;cases z)).trans e) fun _ _ e _=>e)⟩,⟨_,hn',fun j y v' e1 e2 e3=>?_⟩,fun y c e=>?_,I.free,I.freeC,fun p hp=>?_,tracked ⟨oL,hoL,I.free⟩ hs,by simpa using I.len⟩ ⟨_,hs,.inl rfl⟩
  ·exact (hs.2 b (yR (zP (zX e) I.ok.above))).trans (I.base.keep b o e n hb hx)
  ·obtain⟨sl,e1⟩:=I.base.slot b o e n hb hx
   exact⟨sl,(hs.2 b (yR (zP (zX e) I.ok.above))).trans e1⟩
  ·obtain⟨o',e1⟩:=I.base.there b o e hx
   exact⟨o',(hs.2 b (yR (zP (zX e) I.ok.above))).trans e1⟩
  ·by_cases hj:j=i
   ·subst hj
    rw[hi] at e1;cases e1
    rw[vP hiσ] at e2
    cases e2
    exact⟨u,r,.inl ⟨hk,by simp⟩⟩
   ·rw[kR (jM hj)] at e2
    obtain⟨u',r',q⟩:=hl j y v' e1 e2 e3
    refine⟨u',r',?_⟩
    rcases q with ⟨k,e⟩|⟨k,c,e,z⟩
    ·refine .inl ⟨k,?_⟩
     have:y≠x:=fun e=>hj (Ah hN e1 (e ▸ hi))
     simp[this,e]
    ·exact .inr ⟨k,c,e,z.sameBut hs (cne y c e)⟩
  ·obtain⟨w',z⟩:=I.cell y c e
   exact⟨w',z.sameBut hs (cne y c e)⟩
  ·obtain⟨e,n,ne,nf,d⟩:=I.pin p hp
   exact⟨(hs.2 p.1 ne).trans e,n,ne,nf,d⟩
 ·have hfn:X.fn x=true:=by
   rcases hf with z|z
   ·exact z
   ·rw[z] at hk;cases hk
  obtain⟨c,hc⟩:=I.ok.has x (.inl hk)
  obtain⟨w',z⟩:=I.cell x c hc
  refine wpAny_storeName_cell I.ok.kind hk hc z (fun h' hc' hs=>?_)
  obtain⟨oc,hoc,hocd⟩:=id z
  refine h { s with heap:=h' } ⟨I.ok,I.os,I.bare,⟨fun b o e n hb hx=>?_,fun b o e n hb hx=>?_,I.base.free,fun b o e hx=>?_,I.base.tups,I.base.frzs,I.base.tbls.trans (.kept (fun b u z e=>(hs.2 b (fun r=>by rcases z with ⟨q,z⟩;rw[r,I.freeC x c hc] at z;cases z)).trans e) fun _ _ e _=>e)⟩,⟨m,hn.sameBut hs (jM (cne x c hc)),fun j y v' e1 e2 e3=>?_⟩,fun y c' e=>?_,I.free,I.freeC,fun p hp=>?_,tracked ⟨oc,hoc,I.freeC x c hc⟩ hs,by simpa using I.len⟩ ⟨c,hs,.inr hc⟩
  ·exact (hs.2 b (yR (zP (zX e) (I.ok.cab x c hfn hc)))).trans (I.base.keep b o e n hb hx)
  ·obtain⟨sl,e1⟩:=I.base.slot b o e n hb hx
   exact⟨sl,(hs.2 b (yR (zP (zX e) (I.ok.cab x c hfn hc)))).trans e1⟩
  ·obtain⟨o',e1⟩:=I.base.there b o e hx
   exact⟨o',(hs.2 b (yR (zP (zX e) (I.ok.cab x c hfn hc)))).trans e1⟩
  ·by_cases hj:j=i
   ·subst hj
    rw[hi] at e1;cases e1
    rw[vP hiσ] at e2
    cases e2
    exact⟨u,r,.inr ⟨.inl hk,c,hc,hc'⟩⟩
   ·rw[kR (jM hj)] at e2
    obtain⟨u',r',q⟩:=hl j y v' e1 e2 e3
    refine⟨u',r',?_⟩
    rcases q with q|⟨k,c',e,z'⟩
    ·exact .inl q
    ·refine .inr ⟨k,c',e,z'.sameBut hs ?_⟩
     rintro rfl
     exact hj (Ah hN e1 (I.ok.inj _ _ _ e hc ▸ hi))
  ·by_cases hcc:c'=c
   ·subst hcc;exact⟨_,hc'⟩
   ·obtain⟨w2,z2⟩:=I.cell y c' e
    exact⟨w2,z2.sameBut hs hcc⟩
  ·obtain⟨e,n,ne,nf,d⟩:=I.pin p hp
   refine⟨(hs.2 p.1 ?_).trans e,n,ne,nf,d⟩
   intro q
   rw[q,hoc] at e
   have q':oc=p.2:=xD e
   exact d w' (by rw[<- q'];exact hocd)
theorem yn{M:Model}{A:Around}{E:Value->Shared->Prop}{i:Nat}{x:Str}{v:V}{u:Value}{Q:Unit->Shared->Prop}(I:Inv X pins σ H s)(hN:X.N.Nodup)(hi:X.N[i]?=some x)(hx:Loc X.env.scope x)(r:RelV v u)
  (h:∀s',Inv X pins (σ.set i (some v)) H s'->Q () s') (hf:X.fn x=true\/X.env.scope.names.lookup x=some .local:=by first|exact .inl rfl|exact .inr rfl|assumption):wpAny M A (storeName X.env x u) Q E s :=
 nX I hN hi hx r (fun s' I' _=>h s' I') hf
theorem Inv.call'{s':Shared}{ch:List Addr}(I:Inv X pins σ H s)(ho:s'.os=s.os)(u:Un (ib X.stack) ch H H' s.heap s'.heap)(hok:nI X.prog X.w H' s'.heap)(hg:AllBare s'.gens)
  (hch:∀b∈ch,(b∈X.ex\/X.s₀.heap.objs.size<=b)/\b≠X.env.locals/\(∀x c,X.env.cells.lookup x=some c->c≠b)/\∀p∈X.pn++pins,p.1≠b):Inv X pins σ H' s':=by
 obtain⟨h',g',d',t',o'⟩:=s'
 have e:o'=s.os:=ho
 subst e
 exact I.call (g':=g') (t':=t') (d':=d') u hok hg hch
end
abbrev XK:=Value->Option Addr->Hp->Prop
abbrev St:=List (Option V)
abbrev VK:=V->Hp->Prop
abbrev TE:=St->Hp->VK->Prop
abbrev TT:=St->Hp->(Bool->Hp->Prop)->Prop
abbrev TA:=St->Hp->(List V->Hp->Prop)->Prop
structure Ends where
 nx:St->Hp->Prop
 rt:VK
 bk:St->Hp->Prop:=fun _ _=>False
 ct:St->Hp->Prop:=fun _ _=>False
abbrev TS:=Ends->St->Hp->Prop
def EP(X:Cx)(pins:List (Addr×Obj))(σ:St)(Q:VK)(u:Value)(s':Shared):Prop:=∃v H',Inv X pins σ H' s'/\RelV v u/\Q v H'
def TP(X:Cx)(pins:List (Addr×Obj))(σ:St)(Q:Bool->Hp->Prop)(b:Bool)(s':Shared):Prop:=∃H',Inv X pins σ H' s'/\Q b H'
def AP(X:Cx)(pins:List (Addr×Obj))(σ:St)(Q:List V->Hp->Prop)(us:List Value)(s':Shared):Prop:=∃vs H',Inv X pins σ H' s'/\aM vs us/\Q vs H'
def SP(X:Cx)(pins:List (Addr×Obj))(D:Ends)(f:Flow)(s':Shared):Prop :=
 match f with
 | .next=>∃σ' H',Inv X pins σ' H' s'/\D.nx σ' H'
 | .brk=>∃σ' H',Inv X pins σ' H' s'/\D.bk σ' H'
 | .cont=>∃σ' H',Inv X pins σ' H' s'/\D.ct σ' H'
 | .ret u=>∃v σ' H',Inv X pins σ' H' s'/\RelV v u/\D.rt v H'
def PE(X:Cx)(e:Expr)(t:TE):Prop :=
 ∀ (pins:List (Addr×Obj)) (s:Shared) (σ:St) (H:Hp) (Q:VK),Inv X pins σ H s->t σ H Q->wpAny (model X.prog X.w) X.A (eval e X.env) (EP X pins σ Q) X.xe s
def PT(X:Cx)(e:Expr)(t:TT):Prop :=
 ∀ (pins:List (Addr×Obj)) (s:Shared) (σ:St) (H:Hp) (Q:Bool->Hp->Prop),Inv X pins σ H s->t σ H Q->wpAny (model X.prog X.w) X.A (isTrue e X.env (eval e X.env)) (TP X pins σ Q) X.xe s
def PW(X:Cx)(e:Expr)(t:TT):Prop :=
 ∀ (whole:Sem Value) (pins:List (Addr×Obj)) (s:Shared) (σ:St) (H:Hp) (Q:Bool->Hp->Prop),Inv X pins σ H s->t σ H Q->wpAny (model X.prog X.w) X.A (isTrue e X.env whole) (TP X pins σ Q) X.xe s
theorem PW.pt{X:Cx}{e:Expr}{t:TT}(h:PW X e t):PT X e t:=h _
def PA(X:Cx)(es:List Expr)(t:TA):Prop :=
 ∀ (pos:Pos) (pins:List (Addr×Obj)) (s:Shared) (σ:St) (H:Hp) (Q:List V->Hp->Prop),Inv X pins σ H s->t σ H Q->wpAny (model X.prog X.w) X.A (spliced (backTo pos (starEach es X.env))) (AP X pins σ Q) X.xe s
def PS(X:Cx)(st:Stmt)(t:TS):Prop :=
 ∀ (pins:List (Addr×Obj)) (s:Shared) (σ:St) (H:Hp) (D:Ends),Inv X pins σ H s->t D σ H->wpAny (model X.prog X.w) X.A (exec st X.env) (SP X pins D) X.xe s
def u3(X:Cx)(st:List Stmt)(t:TS):Prop :=
 ∀ (pins:List (Addr×Obj)) (s:Shared) (σ:St) (H:Hp) (D:Ends),Inv X pins σ H s->t D σ H->wpAny (model X.prog X.w) X.A (execs st X.env) (SP X pins D) X.xe s
theorem cw{α:Type}{t:Sem α}{Q Q':α->Shared->Prop}{M:Model}{A:Around}{E:Value->Shared->Prop}{s:Shared}(h:wpAny M A t Q E s)(hQ:∀a s,Q a s->Q' a s):wpAny M A t Q' E s:=xA h hQ fun _ _ x=>x
section
variable {X:Cx}
def PF(i:Nat):TE:=fun σ H Q=>∃v,σ[i]?=some (some v)/\Q v H
def tC(v:V):TE:=fun _ H Q=>Q v H
theorem k6{i:Nat}{x:Str}{pos:Pos}(hN:X.N[i]?=some x)(hv:HX X.env.scope x)(hd:(x == ("__debug__":Str))=false:=by decide)(hcd:(x == ("__classdict__":Str))=false:=by decide):PE X (.Name x pos) (PF i):=by
 intro pins s σ H Q I h
 obtain⟨v,e,h⟩:=h
 obtain⟨m,hn,hl⟩:=I.loc
 obtain⟨u,r,l⟩:=hl i x v hN e hv
 have fin:EP X pins σ Q u s:=⟨v,H,I,r,h⟩
 rcases l with ⟨hk,hm⟩|⟨hk,c,hc,hcell⟩
 ·exact wJ (wA I.ok.kind hk hn hm fin) hd
 ·rcases hk with hk|hk
  ·exact wJ (wpAny_loadName_cell I.ok.kind hk hc hcell fin) hd
  ·exact wJ (wpAny_loadName_free I.ok.kind hk hc hcell fin hcd) hd
theorem Gb{i j pos}:PE X (.Constant (.int i) j pos) (tC (.int i)):=fun _ _ _ H _ I h=>wpAny_Constant_int ⟨.int i,H,I.tok _,⟨_,rfl⟩,h⟩
theorem EL{b j pos}:PE X (.Constant (.bool b) j pos) (tC (.bl b)):=fun _ _ _ H _ I h=>Constant_bool ⟨.bl b,H,I,rfl,h⟩
theorem Lr{j pos}:PE X (.Constant .none j pos) (tC .non):=fun _ _ _ H _ I h=>Constant_none ⟨.non,H,I,rfl,h⟩
theorem GP{x j pos}:PE X (.Constant (.str x) j pos) (tC (.str x)):=fun _ _ _ H _ I h=>wN ⟨.str x,H,I.tok _,⟨_,rfl⟩,h⟩
def Gl(X:Cx)(x:Str):Prop:=X.env.kindOf x=some .globalImplicit
theorem lG{E:Value->Shared->Prop}{pins:List (Addr×Obj)}{s:Shared}{σ:St}{H:Hp}{x:Str}{u:Value}{pos:Pos}{Q:Value->Shared->Prop}(I:Inv X pins σ H s)(hg:Gl X x)(hm:X.mg x=some u)(h:Q u s)
  (hd:(x == ("__debug__":Str))=false:=by decide):wpAny (model X.prog X.w) X.A (eval (.Name x pos) X.env) Q E s :=
 Calls.Name_function_global I.ok.kind hg (Calls.loadGlobal_global (by rw[I.ok.glob];exact I.mod.glob.keeps I.bk) hm h) hd
theorem gn{E:Value->Shared->Prop}{pins:List (Addr×Obj)}{s:Shared}{σ:St}{H:Hp}{x:Str}{u:Value}{pos:Pos}{Q:Value->Shared->Prop}(I:Inv X pins σ H s)(hg:Gl X x)(hm:X.mg x=none)(hv:bootBuiltins x=some u)(h:Q u s)
  (hn:x≠"__name__":=by decide) (hd:(x == ("__debug__":Str))=false:=by decide):wpAny (model X.prog X.w) X.A (eval (.Name x pos) X.env) Q E s:=by
 obtain⟨mb,h1,h2⟩:=I.mod.blt
 exact Calls.Name_function_global I.ok.kind hg (Calls.loadGlobal_builtin (by rw[I.ok.glob];exact I.mod.glob.keeps I.bk) hm (by rw[I.ok.blt];exact h1.keeps I.bk) ((h2 x hn).trans hv) h) hd
theorem JP{x:Str}{v:V}{u:Value}{pos:Pos}(hg:Gl X x)(hm:X.mg x=some u)(r:RelV v u)(hd:(x == ("__debug__":Str))=false:=by decide):PE X (.Name x pos) (tC v) :=
 fun _ _ _ H _ I h=>lG I hg hm ⟨v,H,I,r,h⟩ hd
theorem Jd{x:Str}{v:V}{u:Value}{pos:Pos}(hg:Gl X x)(hm:X.mg x=none)(hv:bootBuiltins x=some u)(r:RelV v u)(hn:x≠"__name__":=by decide)(hd:(x == ("__debug__":Str))=false:=by decide):PE X (.Name x pos) (tC v) :=
 fun _ _ _ H _ I h=>gn I hg hm hv ⟨v,H,I,r,h⟩ hn hd
variable {a b:Expr}{ta tb:TE}{pos:Pos}
theorem Gc(b:Expr){op:CmpOp}(h:op≠.In)(h2:op≠.NotIn):behindInMarks op b=false:=by
 have e1:(op == CmpOp.In)=false:=by cases op<;>first|rfl|exact absurd rfl h
 have e2:(op == CmpOp.NotIn)=false:=by cases op<;>first|rfl|exact absurd rfl h2
 cases b<;>simp[behindInMarks,e1,e2]
def tB(t:TE):TT:=fun σ H Q=>t σ H fun x H1=>∃c,x=.bl c/\Q c H1
theorem Ft{e:Expr}{t:TE}(h:PE X e t)(he:∀whole,isTrue e X.env whole=(do let v <- whole;standAt e.pos;holding [v] (truthy v)):=by intro _;rfl):PT X e (tB t):=by
 intro pins s σ H Q I hw
 refine isTrue_plain (cw (h pins s σ H _ I hw) fun v s1 ⟨x,H1,I1,r1,q1⟩=>?_) (he _)
 obtain⟨d,rfl,q⟩:=q1
 cases r1
 exact xW ⟨H1,I1,q⟩
variable {tA tB':TT}{rest:List Expr}
def PU(t u:TT):TT:=fun σ H Q=>t σ H fun c H1=>if c=true then u σ H1 Q else Q false H1
def QM(t u:TT):TT:=fun σ H Q=>t σ H fun c H1=>if c=true then Q true H1 else u σ H1 Q
def Po(t:TT):TT:=fun σ H Q=>t σ H fun c H1=>Q (!c) H1
theorem Jb(ha:PT X a tA):PW X (.BoolOp .And [a] pos) tA:=by
 intro wh pins s σ H Q I h
 refine isTrue_and (cw (ha pins s σ H Q I h) fun c s1 e=>?_)
 cases c with
 | true=>exact isTrue_and_nil e
 | false=>exact e
theorem E7(ha:PT X a tA):PW X (.BoolOp .Or [a] pos) tA:=by
 intro wh pins s σ H Q I h
 refine isTrue_or (cw (ha pins s σ H Q I h) fun c s1 e=>?_)
 cases c with
 | false=>exact isTrue_or_nil e
 | true=>exact e
theorem LL(ha:PT X a tA)(hb:PW X (.BoolOp .And (b::rest) pos) tB'):PW X (.BoolOp .And (a::b::rest) pos) (PU tA tB'):=by
 intro wh pins s σ H Q I h
 refine isTrue_and (cw (ha pins s σ H _ I h) fun c s1 ⟨H1,I1,q1⟩=>?_)
 cases c with
 | true=>exact hb wh pins s1 σ H1 Q I1 q1
 | false=>exact⟨H1,I1,q1⟩
theorem Kb(ha:PT X a tA)(hb:PW X (.BoolOp .Or (b::rest) pos) tB'):PW X (.BoolOp .Or (a::b::rest) pos) (QM tA tB'):=by
 intro wh pins s σ H Q I h
 refine isTrue_or (cw (ha pins s σ H _ I h) fun c s1 ⟨H1,I1,q1⟩=>?_)
 cases c with
 | true=>exact⟨H1,I1,q1⟩
 | false=>exact hb wh pins s1 σ H1 Q I1 q1
theorem FN(ha:PT X a tA):PT X (.UnaryOp .Not a pos) (Po tA):=by
 intro pins s σ H Q I h
 exact isTrue_not (ha pins s σ H (fun c H1=>Q (!c) H1) I h)
def Ou(ta tb:TE):TE:=fun σ H Q=>ta σ H fun x H1=>∃c,x=.bl c/\if c=true then tb σ H1 Q else Q (.bl false) H1
def OY(ta tb:TE):TE:=fun σ H Q=>ta σ H fun x H1=>∃c,x=.bl c/\if c=true then Q (.bl true) H1 else tb σ H1 Q
def NO(ta:TE):TE:=fun σ H Q=>ta σ H fun x H1=>∃c,x=.bl c/\Q (.bl (!c)) H1
theorem Ld{op}{t:TE}(h:PE X a t):PE X (.BoolOp op [a] pos) t:=fun pins s σ H Q I hw=>BoolOp_one (h pins s σ H Q I hw)
theorem Ln(ha:PE X a ta)(hb:PE X (.BoolOp .And (b::rest) pos) tb):PE X (.BoolOp .And (a::b::rest) pos) (Ou ta tb):=by
 intro pins s σ H Q I h
 refine BoolOp_and (cw (ha pins s σ H _ I h) fun v s1 ⟨x,H1,I1,r1,q1⟩=>?_)
 obtain⟨c,rfl,q1⟩:=q1
 cases r1
 refine xW ?_
 cases c with
 | true=>exact hb pins s1 σ H1 Q I1 q1
 | false=>exact⟨.bl false,H1,I1,rfl,q1⟩
theorem Gm(ha:PE X a ta)(hb:PE X (.BoolOp .Or (b::rest) pos) tb):PE X (.BoolOp .Or (a::b::rest) pos) (OY ta tb):=by
 intro pins s σ H Q I h
 refine BoolOp_or (cw (ha pins s σ H _ I h) fun v s1 ⟨x,H1,I1,r1,q1⟩=>?_)
 obtain⟨c,rfl,q1⟩:=q1
 cases r1
 refine xW ?_
 cases c with
 | false=>exact hb pins s1 σ H1 Q I1 q1
 | true=>exact⟨.bl true,H1,I1,rfl,q1⟩
theorem Mw(ha:PE X a ta):PE X (.UnaryOp .Not a pos) (NO ta):=by
 intro pins s σ H Q I h
 refine UnaryOp_ (cw (ha pins s σ H _ I h) fun v s1 ⟨x,H1,I1,r1,q1⟩=>?_)
 obtain⟨c,rfl,q1⟩:=q1
 cases r1
 exact not_of (xW ⟨.bl (!c),H1,I1,rfl,q1⟩)
def QO(t:TT)(ta tb:TE):TE:=fun σ H Q=>t σ H fun c H1=>if c=true then ta σ H1 Q else tb σ H1 Q
theorem Aa{c:Expr}(hc:PT X c tA)(ha:PE X a ta)(hb:PE X b tb):PE X (.IfExp c a b pos) (QO tA ta tb):=by
 intro pins s σ H Q I h
 refine wpAny_IfExp (cw (hc pins s σ H _ I h) fun d s1 ⟨H1,I1,q1⟩=>?_)
 cases d with
 | true=>exact ha pins s1 σ H1 Q I1 q1
 | false=>exact hb pins s1 σ H1 Q I1 q1
end
def hZ(K:W.Frag)(H:Hp)(a:Addr)(xs:List V):Prop :=
 Rd H a (.lst xs) \/
  ∃ (o:Obj) (its:Array Value) (n:Nat),K.lookup a=some o/\o.cls=.type "list"/\o.dict=none/\o.data=.seq its n/\its.size<=sizeLine/\aM xs its.toList
def iI(K:W.Frag)(H:Hp)(a:Addr)(xs:List V):Prop :=
 Rd H a (.tup xs) \/
  ∃ (o:Obj) (its:Array Value) (n:Nat),K.lookup a=some o/\o.cls=.type "tuple"/\o.dict=none/\o.data=.seq its n/\its.size<=sizeLine/\aM xs its.toList
def Qc:Value->Option V
 | .none=>some .non
 | .bool b=>some (.bl b)
 | .int i _=>some (.int i)
 | .str x _=>some (.str x)
 | .bytes b _=>some (.byt b)
 | .float b _=>some (.flt b)
 | .ref a=>some (.ref a)
 | .type n=>some (.ty n)
 | _=>none
theorem RelV.abs{x:V}{u:Value}(r:RelV x u):Qc u=some x:=by
 cases x with
 | non=>cases r;rfl
 | bl _=>cases r;rfl
 | int _=>obtain⟨t,rfl⟩:=r;rfl
 | str _=>obtain⟨t,rfl⟩:=r;rfl
 | byt _=>obtain⟨t,rfl⟩:=r;rfl
 | flt _=>obtain⟨t,rfl⟩:=r;rfl
 | ref _=>cases r;rfl
 | ty _=>cases r;rfl
theorem RelV.inj{x y:V}{u:Value}(r:RelV x u)(q:RelV y u):x=y:=xD (r.abs.symm.trans q.abs)
theorem aM.inj:∀ {xs ys:List V}{us:List Value},aM xs us->aM ys us->xs=ys
 | _,_,_,.nil,.nil=>rfl
 | _,_,_,.cons r t,.cons r' t'=>by rw[r.inj r',aM.inj t t']
section
variable {X:Cx}{pins:List (Addr×Obj)}{σ:St}{H:Hp}{s:Shared}{a:Addr}{xs ys:List V}
theorem hZ.of{K:W.Frag}(h:H a=some (.lst xs)):hZ K H a xs:=.inl (.inl h)
theorem Inv.list(I:Inv X pins σ H s)(h:hZ X.K H a xs):∃its:List Value,aM xs its/\PlainL s.heap a its.toArray/\xs.length<=sizeLine:=by
 rcases h with h|⟨o,its,n,hk,hc,hd,hs,hz,r⟩
 ·obtain⟨z,its,n,r,e⟩:=h.ok I.hok
  exact⟨its,r,⟨_,n,e,rfl,rfl,rfl⟩,z⟩
 ·refine⟨its.toList,r,⟨o,n,I.kIn a o hk,hc,hd,by simpa using hs⟩,?_⟩
  have e:=r.length
  simp only[wG] at e
  omega
theorem Inv.tuple(I:Inv X pins σ H s)(h:iI X.K H a xs):∃its:List Value,aM xs its/\IsTup s.heap a its.toArray/\xs.length<=sizeLine:=by
 rcases h with h|⟨o,its,n,hk,hc,_,hs,hz,r⟩
 ·obtain⟨z,its,r,p⟩:=h.ok I.hok
  exact⟨its,r,p.1,z⟩
 ·refine⟨its.toList,r,⟨o,I.kIn a o hk,hc,n,by simpa using hs⟩,?_⟩
  have e:=r.length
  simp only[wG] at e
  omega
theorem Inv.list_inj(I:Inv X pins σ H s)(h:hZ X.K H a xs)(h':hZ X.K H a ys):xs=ys:=by
 obtain⟨its,r,⟨o,n,e,_,_,d⟩,_⟩:=I.list h
 obtain⟨its',r',⟨o',n',e',_,_,d'⟩,_⟩:=I.list h'
 rw[e] at e';cases e'
 rw[d] at d'
 injection d' with d1 _
 have:its=its':=by simpa using jC Array.toList d1
 subst this
 exact r.inj r'
theorem Inv.tuple_inj(I:Inv X pins σ H s)(h:iI X.K H a xs)(h':iI X.K H a ys):xs=ys:=by
 obtain⟨its,r,⟨o,e,_,n,d⟩,_⟩:=I.tuple h
 obtain⟨its',r',⟨o',e',_,n',d'⟩,_⟩:=I.tuple h'
 rw[e] at e';cases e'
 rw[d] at d'
 injection d' with d1 _
 have:its=its':=by simpa using jC Array.toList d1
 subst this
 exact r.inj r'
end
abbrev Cx.wish(X:Cx)(E:Value->Shared->Prop):Cx:={ X with xe:=E }
abbrev Cx.nox(X:Cx):Cx:=X.wish fun _ _=>False
theorem Cx.Ok.wish{X:Cx}(ok:X.Ok)(E:Value->Shared->Prop):(X.wish E).Ok :=
 ⟨ok.mod,ok.kind,ok.glob,ok.blt,ok.above,ok.inj,ok.has,ok.cab,ok.hd,ok.frames,ok.stk,ok.exf,ok.bs,ok.bsz,ok.noex,ok.exfs,ok.funs,ok.frf⟩
theorem Cx.Ok.unwish{X:Cx}{E:Value->Shared->Prop}(ok:(X.wish E).Ok):X.Ok :=
 ⟨ok.mod,ok.kind,ok.glob,ok.blt,ok.above,ok.inj,ok.has,ok.cab,ok.hd,ok.frames,ok.stk,ok.exf,ok.bs,ok.bsz,ok.noex,ok.exfs,ok.funs,ok.frf⟩
section
variable {X:Cx}{pins:List (Addr×Obj)}{σ:St}{H:Hp}{s:Shared}{E:Value->Shared->Prop}
theorem Inv.wish(I:Inv X pins σ H s)(E:Value->Shared->Prop):Inv (X.wish E) pins σ H s:=⟨I.ok.wish E,I.os,I.bare,I.base,I.loc,I.cell,I.free,I.freeC,I.pin,I.hok,I.len⟩
theorem Inv.unwish(I:Inv (X.wish E) pins σ H s):Inv X pins σ H s:=⟨I.ok.unwish,I.os,I.bare,I.base,I.loc,I.cell,I.free,I.freeC,I.pin,I.hok,I.len⟩
theorem SP.unwish{D:Ends}{f:Flow}{s':Shared}(h:SP (X.wish E) pins D f s'):SP X pins D f s':=by
 cases f with
 | next=>obtain⟨σ',H',I,q⟩:=h;exact⟨σ',H',I.unwish,q⟩
 | brk=>obtain⟨σ',H',I,q⟩:=h;exact⟨σ',H',I.unwish,q⟩
 | cont=>obtain⟨σ',H',I,q⟩:=h;exact⟨σ',H',I.unwish,q⟩
 | ret u=>obtain⟨v,σ',H',I,r,q⟩:=h;exact⟨v,σ',H',I.unwish,r,q⟩
theorem PT.nox{e:Expr}{t:TT}(h:PT X.nox e t):PT X e t:=fun pins s σ H Q I hw =>
 xA (h pins s σ H Q (I.wish _) hw) (fun _ _ ⟨H',I',q⟩=>⟨H',I'.unwish,q⟩) fun _ _ z=>False.elim z
theorem u3.nox{st:List Stmt}{t:TS}(h:u3 X.nox st t):u3 X st t:=fun pins s σ H D I hw =>
 xA (h pins s σ H D (I.wish _) hw) (fun _ _ q=>q.unwish) fun _ _ z=>False.elim z
end
section
variable {X:Cx}{st:Stmt}{rest:List Stmt}{t u:TS}{e:Expr}{te:TE}{pos:Pos}
def Gw:TS:=fun D σ H=>D.nx σ H
def Py(t u:TS):TS:=fun D σ H=>t { D with nx:=u D } σ H
theorem uS:u3 X [] Gw:=fun _ _ σ H _ I h=>vQ ⟨σ,H,I,h⟩
theorem ix(h1:PS X st t)(h2:u3 X rest u):u3 X (st::rest) (Py t u):=by
 intro pins s σ H D I h
 refine vH (cw (h1 pins s σ H { D with nx:=u D } I h) fun f s1 q=>?_)
 cases f with
 | next =>
  obtain⟨σ',H',I',q⟩:=q
  exact h2 pins s1 σ' H' D I' q
 | ret v=>exact q
 | brk=>exact q
 | cont=>exact q
theorem HU(h1:PS X st t):u3 X [st] t:=by
 intro pins s σ H D I h
 refine vH (cw (h1 pins s σ H D I h) fun f s1 q=>?_)
 cases f with
 | next=>exact vQ q
 | ret v=>exact q
 | brk=>exact q
 | cont=>exact q
theorem JI:PS X (.Pass pos) Gw:=fun _ _ σ H _ I h=>wpAny_Pass ⟨σ,H,I,h⟩
theorem Inv.quiet{pins:List (Addr×Obj)}{σ:St}{H:Hp}{s:Shared}(I:Inv X pins σ H s):interactive X.env=false:=by simp[interactive,I.ok.kind]
theorem MD{x j pos pos'}:PS X (.Expr (.Constant (.str x) j pos) pos') Gw:=fun _ s σ H _ I h=>wpAny_Expr (wN (show SP X _ _ .next { s with toks:=s.toks+1 } from ⟨σ,H,I.tok _,h⟩)) I.quiet
def Nl(te:TE):TS:=fun D σ H=>te σ H fun _ H1=>D.nx σ H1
theorem mZ(he:PE X e te)(hs:swapsWith e none pos.line X.env=pure false:=by rfl):PS X (.Expr e pos) (Nl te):=by
 intro pins s σ H D I h
 exact wpAny_Expr_any (cw (he pins s σ H _ I h) fun v s1 ⟨x,H1,I1,r1,q1⟩=>⟨σ,H1,I1,q1⟩) I.quiet hs
def PQ(te:TE):TS:=fun D σ H=>te σ H D.rt
theorem BE(he:PE X e te):PS X (.Return (some e) pos) (PQ te):=by
 intro pins s σ H D I h
 exact wpAny_Return_some (cw (he pins s σ H _ I h) fun v s1 ⟨x,H1,I1,r1,q1⟩=>⟨x,σ,H1,I1,r1,q1⟩)
def O6(c:TT)(t u:TS):TS:=fun D σ H=>c σ H fun b H1=>if b=true then t D σ H1 else u D σ H1
theorem Gu{c:Expr}{a b:List Stmt}{tc:TT}(hc:PT X c tc)(ha:u3 X a t)(hb:u3 X b u):PS X (.If c a b pos) (O6 tc t u):=by
 intro pins s σ H D I h
 refine wpAny_If (cw (hc pins s σ H _ I h) fun d s1 ⟨H1,I1,q1⟩=>?_)
 cases d with
 | true=>exact ha pins s1 σ H1 D I1 q1
 | false=>exact hb pins s1 σ H1 D I1 q1
end
abbrev TG:=V->St->Hp->(St->Hp->Prop)->Prop
abbrev MA:=List V->St->Hp->(St->Hp->Prop)->Prop
def PG(X:Cx)(target:Expr)(t:TG):Prop :=
 ∀ (pins:List (Addr×Obj)) (s:Shared) (σ:St) (H:Hp) (v:V) (u:Value) (Q:St->Hp->Prop),Inv X pins σ H s->RelV v u->t v σ H Q ->
  wpAny (model X.prog X.w) X.A (assign target X.env u) (fun _ s'=>∃σ' H',Inv X pins σ' H' s'/\Q σ' H') X.xe s
def OJ(X:Cx)(ts:List Expr)(t:MA):Prop :=
 ∀ (pins:List (Addr×Obj)) (s:Shared) (σ:St) (H:Hp) (vs:List V) (us:List Value) (Q:St->Hp->Prop),Inv X pins σ H s->aM vs us->t vs σ H Q ->
  wpAny (model X.prog X.w) X.A (assignInOrder ((assignEach ts X.env).map (·.2)) us) (fun _ s'=>∃σ' H',Inv X pins σ' H' s'/\Q σ' H') X.xe s
abbrev K9:=V->V->V->Hp->(Hp->Prop)->Prop
def Og(X:Cx)(t:K9):Prop :=
 ∀ (pins:List (Addr×Obj)) (s:Shared) (σ:St) (H:Hp) (o i v:V) (ov iv u:Value) (Q:Hp->Prop),Inv X pins σ H s->RelV o ov->RelV i iv->RelV v u->t o i v H Q ->
  wpAny (model X.prog X.w) X.A (setItem ov iv u) (fun _ s'=>∃H',Inv X pins σ H' s'/\Q H') X.xe s
section
variable {X:Cx}{pos:Pos}
def zr(i:Nat):TG:=fun v σ H Q=>Q (σ.set i (some v)) H
theorem dN{i:Nat}{x:Str}(hN:X.N.Nodup)(hi:X.N[i]?=some x)(hx:Loc X.env.scope x)(hf:X.fn x=true\/X.env.scope.names.lookup x=some .local:=by first|exact .inl rfl|exact .inr rfl|assumption):PG X (.Name x pos) (zr i):=by
 intro pins s σ H v u Q I r h
 exact wpAny_assign_Name (yn I hN hi hx r (fun s' I'=>⟨_,H,I',h⟩) hf)
def O7:MA:=fun vs σ H Q=>vs=[]/\Q σ H
def N5(t:TG)(u:MA):MA:=fun vs σ H Q=>∃v r,vs=v::r/\t v σ H fun σ' H'=>u r σ' H' Q
theorem o6:OJ X [] O7:=by
 intro pins s σ H vs us Q I r h
 obtain⟨e,h⟩:=h
 subst e
 cases r
 exact assignInOrder_nil ⟨σ,H,I,h⟩
theorem dJ{e:Expr}{es:List Expr}{t:TG}{u:MA}(h1:PG X e t)(h2:OJ X es u)
  (hs:(assignEach (e::es) X.env).map (·.2)=assign e X.env::(assignEach es X.env).map (·.2):=by rfl):OJ X (e::es) (N5 t u):=by
 intro pins s σ H vs us Q I r h
 obtain⟨v,vr,e1,h⟩:=h
 subst e1
 cases r with
 | cons r rr =>
  rw[hs]
  refine assignInOrder_cons (cw (h1 pins s σ H _ _ _ I r h) fun _ s1 ⟨σ1,H1,I1,q1⟩=>?_)
  exact h2 pins s1 σ1 H1 _ _ Q I1 rr q1
def Pr(K:W.Frag)(n:Nat)(t:MA):TG:=fun v σ H Q=>∃a xs,v=.ref a/\iI K H a xs/\xs.length=n/\t xs σ H Q
theorem uK{es:List Expr}{k:Nat}{t:MA}{n:Nat}(hc:X.calm=true)(h:OJ X es t)
  (hn:(assignEach es X.env).length=n:=by rfl) (hst:(assignEach es X.env).findIdx? (·.1)=none:=by rfl):PG X (.Tuple es k pos) (Pr X.K n t):=by
 intro pins s σ H v u Q I r hw
 obtain⟨a,xs,e1,hq,hl,hw⟩:=hw
 subst e1
 cases r
 obtain⟨its,rv,ht,hz⟩:=I.tuple hq
 refine assign_Tuple_tuple (I.ok.hd hc) ht (by simp[hn,<- hl,rv.length]) hst fun h' hx=>?_
 have I1:Inv X pins σ H { s with heap:=h' }:=I.kept (t':=s.toks) fun b o e=>hx b o (yR (zX e)) e
 exact h pins _ σ H xs _ Q I1 (by simpa using rv) hw
def lJ(to ti:TE)(t:K9):TG:=fun v σ H Q=>to σ H fun o H1=>ti σ H1 fun i H2=>t o i v H2 fun H3=>Q σ H3
theorem KJ{o i:Expr}{to ti:TE}{t:K9}(ho:PE X o to)(hi:PE X i ti)(hs:Og X t)
  (ha:∀v,assign (.Subscript o i pos) X.env v=(do
   let ov <- holding [v] (eval o X.env)
   let iv <- holding [v,ov] (eval i X.env)
   standAt pos
   holding [v,ov,iv] (setItem ov iv v)
   release [v,ov,iv] []):=by intro _;rfl):PG X (.Subscript o i pos) (lJ to ti t):=by
 intro pins s σ H v u Q I r h
 rw[ha]
 refine zU (xX (cw (ho pins s σ H _ I h) fun ov s1 ⟨x,H1,I1,r1,q1⟩=>?_))
 refine zU (xX (cw (hi pins s1 σ H1 _ I1 q1) fun iv s2 ⟨y,H2,I2,r2,q2⟩=>?_))
 refine zU (vF (zU (xX (cw (hs pins s2 σ H2 x y v ov iv u _ I2 r1 r2 r q2) fun _ s3 ⟨H3,I3,q3⟩=>?_))))
 exact wpAny_release ⟨σ,H3,I3,q3⟩
def Hs(te:TE)(g:TG):TS:=fun D σ H=>te σ H fun x H1=>g x σ H1 D.nx
theorem Hl{tg e:Expr}{te:TE}{g:TG}(he:PE X e te)(hg:PG X tg g)(hs:swapsWithSole [tg] e pos.line X.env=pure false:=by rfl)(hw:swappedStores [tg] e X.env=pure none:=by rfl)
  (h1:(assignEach [tg] X.env).map (·.2)=[assign tg X.env]:=by rfl):PS X (.Assign [tg] e pos) (Hs te g):=by
 intro pins s σ H D I h
 refine wpAny_Assign_stores (cw (he pins s σ H _ I h) fun v s1 ⟨x,H1,I1,r1,q1⟩=>?_) hs hw
 rw[h1]
 exact cw (hg pins s1 σ H1 x v _ I1 r1 q1) fun _ s2 q=>q
theorem rP{i:Nat}{x:Str}{e:Expr}{te:TE}{pos':Pos}(hN:X.N.Nodup)(hi:X.N[i]?=some x)(hx:Loc X.env.scope x)(he:PE X e te)(hs:swapsWith e (some (.Name x pos')) pos.line X.env=pure false:=by rfl)(hf:X.fn x=true\/X.env.scope.names.lookup x=some .local:=by first|exact .inl rfl|exact .inr rfl|assumption) :
  PS X (.Assign [.Name x pos'] e pos) (Hs te (zr i)):=by
 intro pins s σ H D I h
 refine wpAny_Assign_Name (cw (he pins s σ H _ I h) fun v s1 ⟨y,H1,I1,r1,q1⟩=>?_) hs
 exact yn I1 hN hi hx r1 (fun s2 I2=>⟨_,H1,I2,q1⟩) hf
end
section
variable {X:Cx}{pos:Pos}
def KP(c:TT)(tb:TS):TS:=fun D σ H=>∃W:Nat->St->Hp->Prop,(∃m,W m σ H)/\∀m σ H,W m σ H ->
 c σ H fun b H1=>if b=true then ∃N:St->Hp->Prop,(∀σ' H',N σ' H'->∃m',m' < m/\W m' σ' H')/\tb { D with nx:=N,ct:=N,bk:=D.nx } σ H1 else D.nx σ H1
theorem Hx{c:Expr}{body:List Stmt}{tc:TT}{tb:TS}(hp:PassesOwn (model X.prog X.w) X.A X.env X.xe)(hc:PT X c tc)(hb:u3 X body tb):PS X (.While c body [] pos) (KP tc tb):=by
 intro pins s σ H D I h
 obtain⟨W,⟨m0,w0⟩,turn⟩:=h
 refine wpAny_While (codeAny_whileLoop (fun n s'=>∃σ' H',Inv X pins σ' H' s'/\W n σ' H') ?_ m0 ⟨σ,H,I,w0⟩)
 rintro n s1 ⟨σ1,H1,I1,w1⟩
 refine jK hp (cw (hc pins s1 σ1 H1 _ I1 (turn n σ1 H1 w1)) fun b s2 ⟨H2,I2,q2⟩=>?_)
 cases b with
 | true =>
  obtain⟨N,hN,q2⟩:=q2
  rw[yL rfl]
  refine jK hp (cw (hb pins s2 σ1 H2 _ I2 q2) fun f s3 q3=>?_)
  cases f with
  | next =>
   obtain⟨σ3,H3,I3,n3⟩:=q3
   obtain⟨m',hm,w3⟩:=hN σ3 H3 n3
   exact⟨m',hm,σ3,H3,I3,w3⟩
  | cont =>
   obtain⟨σ3,H3,I3,n3⟩:=q3
   obtain⟨m',hm,w3⟩:=hN σ3 H3 n3
   exact⟨m',hm,σ3,H3,I3,w3⟩
  | brk=>exact q3
  | ret v=>exact q3
 | false =>
  rw[yN yZ]
  exact vQ ⟨σ1,H2,I2,q2⟩
end
structure It where
 go:Nat->Hp->Prop
 yld:Nat->Hp->V->Hp->Prop
 stop:Nat->Hp->Prop
def cq(X:Cx)(pins:List (Addr×Obj))(H:Hp)(b:Addr):Prop :=
 H b=none/\b≠X.env.locals/\b∉X.fs/\(b∈X.ex\/X.s₀.heap.objs.size<=b)/\(∀x c,X.env.cells.lookup x=some c->c≠b)/\∀p∈X.pn++pins,p.1≠b
theorem Inv.fpOk{X:Cx}{pins:List (Addr×Obj)}{σ:St}{H H':Hp}{s:Shared}{b:Addr}(I:Inv X pins σ H s)(hb:s.heap.objs.size<=b)(hn:H' b=none):cq X pins H' b:=by
 refine⟨hn,jI (zP I.lt hb),I.nofs hb,.inr (yC I.sz hb),fun x c e z=>?_,fun p hp z=>?_⟩
 ·obtain⟨v,q⟩:=I.cell x c e
  exact absurd (zP q.lt (by rw[z];exact hb)) (qE _)
 ·exact absurd (zP (zX (I.pin p hp).1) (by rw[z];exact hb)) (qE _)
structure Turn(P:Program)(w:World)(K:W.Frag)(tg:Expr)(J:It)(fp:List Addr)(it:Addr)(tn:Nat->Heap->Prop):Prop where
 mem:it∈fp
 obj:∀i h,tn i h->∀b∈fp,∃o,h.get? b=some o/\∀v,o.data≠.cell v
 keep:∀i h h',tn i h->(∀b∈fp,∀o,h.get? b=some o->h'.get? b=some o)->tn i h'
 item:∀ (X:Cx),X.prog=P->X.w=w->X.K=K->X.calm=true->∀ (i:Nat) (pins:List (Addr×Obj)) (s:Shared) (σ:St) (H:Hp) (E:Value->Shared->Prop),Inv X pins σ H s->(∀b∈fp,cq X pins H b)->tn i s.heap->J.go i H ->
  wpAny (model P w) X.A (pyNext (.ref it)) (fun r s1=>∃u,r=some u /\
   wpAny (model P w) X.A (letOwnedTupleGo tg (.ref it) u) (fun _ s2=>∃x H',Inv X pins σ H' s2/\RelV x u/\J.yld i H x H'/\tn (i+1) s2.heap/\∀b∈fp,H' b=none) E s1) E s
 done:∀ (X:Cx),X.prog=P->X.w=w->X.K=K->X.calm=true->∀ (i:Nat) (pins:List (Addr×Obj)) (s:Shared) (σ:St) (H:Hp) (E:Value->Shared->Prop),Inv X pins σ H s->(∀b∈fp,cq X pins H b)->tn i s.heap->J.stop i H ->
  wpAny (model P w) X.A (pyNext (.ref it)) (fun r s1=>r=none/\Inv X pins σ H s1) E s
 self:∀ (A:Around) (i:Nat) (s:Shared) (Q:Value->Shared->Prop) (E:Value->Shared->Prop),tn i s.heap->Q (.ref it) s->wpAny (model P w) A (pyIter (.ref it)) Q E s
abbrev TI:=St->Hp->(It->Hp->Prop)->Prop
def Qm(X:Cx)(pins:List (Addr×Obj))(σ:St)(tg:Expr)(R:It->Hp->Prop)(itv:Value)(s2:Shared):Prop :=
 ∃ (it:Addr) (fp:List Addr) (tn:Nat->Heap->Prop) (J:It) (H':Hp),itv=.ref it/\Inv X pins σ H' s2/\Turn X.prog X.w X.K tg J fp it tn/\tn 0 s2.heap/\(∀b∈fp,cq X pins H' b)/\R J H'
def PI(X:Cx)(tg iter:Expr)(wi:TI):Prop :=
 ∀ (pins:List (Addr×Obj)) (s:Shared) (σ:St) (H:Hp) (R:It->Hp->Prop),Inv X pins σ H s->wi σ H R ->
  wpAny (model X.prog X.w) X.A (eval iter X.env) (fun v s1=>wpAny (model X.prog X.w) X.A (pyIter v) (Qm X pins σ tg R) X.xe s1) X.xe s
theorem Fb{M:Model}{A:Around}{E:Value->Shared->Prop}{s:Shared}{tg:Expr}{it:Addr}{u:Value}{o:Obj}{n:String}{vs:Array Value}{Q:Unit->Shared->Prop}(ho:s.heap.get? it=some o)(hc:o.cls=.type n)(hd:o.data=.fields vs)
  (hn:["enumerate","zip","dict_itemiterator","dict_reverseitemiterator","odict_iterator","itertools.zip_longest","itertools.pairwise"].contains n=false) (hQ:Q () s):wpAny M A (letOwnedTupleGo tg (.ref it) u) Q E s:=by
 unfold letOwnedTupleGo
 cases tg<;>first
  | exact zV hQ
  | (cases u<;>first
    | exact zV hQ
    | (refine zU (wpAny_load ho ?_)
       rw[hc,hd]
       show wpAny M A (if (["enumerate","zip","dict_itemiterator","dict_reverseitemiterator","odict_iterator","itertools.zip_longest","itertools.pairwise"].contains n&&vs[0]? == some (rawInt _))=true then _ else _) Q E s
       rw[yN (by intro h;rw[hn,vZ] at h;cases h)]
       exact zV hQ))
def Qb(K:W.Frag)(a:Addr):It :=
 ⟨fun i H=>∃xs x,hZ K H a xs/\xs[i]?=some x,fun i H x H'=>H'=H/\∀xs,hZ K H a xs->xs[i]?=some x,fun i H=>∃xs,hZ K H a xs/\xs.length<=i⟩
def OW(K:W.Frag)(a:Addr):It :=
 ⟨fun i H=>∃xs x,iI K H a xs/\xs[i]?=some x,fun i H x H'=>H'=H/\∀xs,iI K H a xs->xs[i]?=some x,fun i H=>∃xs,iI K H a xs/\xs.length<=i⟩
def OD(lo:Int)(n:Nat):It:=⟨fun i _=>i < n,fun i H x H'=>H'=H/\x=.int (lo+i),fun i _=>n<=i⟩
theorem D9{P:Program}{w:World}{K:W.Frag}{tg:Expr}(a it:Addr):Turn P w K tg (Qb K a) [it] it (fun i h=>h.IsListIter it a i) where
 mem:=by simp
 obj:=fun i h st b hb=>by
  have e:b=it:=by simpa using hb
  subst e
  obtain⟨o,e,c,d⟩:=st
  exact⟨o,e,fun v z=>by rw[d] at z;cases z⟩
 keep:=fun i h h' st k=>st.at fun o e=>k it (by simp) o e
 item:=by
  intro X hP hw hK hc i pins s σ H E I hf st hg
  subst hP hw hK
  obtain⟨xs,x,hq,hx⟩:=hg
  obtain⟨its,rv,p,hz⟩:=I.list hq
  obtain⟨u,hu,ru⟩:=rv.get hx
  obtain⟨f0,f1,f2,f3,f4,f5⟩:=hf it (by simp)
  refine wpAny_pyNext_list_item st p.isList (x:=u) (by simpa using hu) fun h' st' sb=>?_
  have I1:Inv X pins σ H { s with heap:=h' }:=I.turned (t':=s.toks) (fun b o hb e=>(sb.2 b hb).trans e) f0 f1 f3 f4 f5
  obtain⟨o,e,c,d⟩:=id st'
  exact⟨u,rfl,Fb (s:={ s with heap:=h' }) e c d (by decide) ⟨x,H,I1,ru,⟨rfl,fun ys hy=>by rw[I.list_inj hy hq];exact hx⟩,st',fun b hb=>(hf b hb).1⟩⟩
 done:=by
  intro X hP hw hK hc i pins s σ H E I hf st hg
  subst hP hw hK
  obtain⟨xs,hq,hx⟩:=hg
  obtain⟨its,rv,p,hz⟩:=I.list hq
  obtain⟨f0,f1,f2,f3,f4,f5⟩:=hf it (by simp)
  have hl:=rv.length
  exact wpAny_pyNext_list_end (I.ok.hd hc) st p.isList (by simp;omega) fun h' eb=>⟨rfl,I.turned (t':=s.toks) (fun b o hb e=>eb b o hb e) f0 f1 f3 f4 f5⟩
 self:=fun _ _ _ _ _ st h=>wpAny_pyIter_listiter st h
theorem AQ{P:Program}{w:World}{K:W.Frag}{tg:Expr}(a it:Addr):Turn P w K tg (OW K a) [it] it (fun i h=>h.IsTupleIter it a i) where
 mem:=by simp
 obj:=fun i h st b hb=>by
  have e:b=it:=by simpa using hb
  subst e
  obtain⟨o,e,c,d⟩:=st
  exact⟨o,e,fun v z=>by rw[d] at z;cases z⟩
 keep:=fun i h h' st k=>st.at fun o e=>k it (by simp) o e
 item:=by
  intro X hP hw hK hc i pins s σ H E I hf st hg
  subst hP hw hK
  obtain⟨xs,x,hq,hx⟩:=hg
  obtain⟨its,rv,p,hz⟩:=I.tuple hq
  obtain⟨u,hu,ru⟩:=rv.get hx
  obtain⟨f0,f1,f2,f3,f4,f5⟩:=hf it (by simp)
  refine wpAny_pyNext_tuple_item st (show s.heap.IsTuple a its.toArray from p) (x:=u) (by simpa using hu) fun h' st' sb=>?_
  have I1:Inv X pins σ H { s with heap:=h' }:=I.turned (t':=s.toks) (fun b o hb e=>(sb.2 b hb).trans e) f0 f1 f3 f4 f5
  obtain⟨o,e,c,d⟩:=id st'
  exact⟨u,rfl,Fb (s:={ s with heap:=h' }) e c d (by decide) ⟨x,H,I1,ru,⟨rfl,fun ys hy=>by rw[I.tuple_inj hy hq];exact hx⟩,st',fun b hb=>(hf b hb).1⟩⟩
 done:=by
  intro X hP hw hK hc i pins s σ H E I hf st hg
  subst hP hw hK
  obtain⟨xs,hq,hx⟩:=hg
  obtain⟨its,rv,p,hz⟩:=I.tuple hq
  obtain⟨f0,f1,f2,f3,f4,f5⟩:=hf it (by simp)
  have hl:=rv.length
  exact wpAny_pyNext_tuple_end (I.ok.hd hc) st (show s.heap.IsTuple a its.toArray from p) (by simp;omega) fun h' eb=>⟨rfl,I.turned (t':=s.toks) (fun b o hb e=>eb b o hb e) f0 f1 f3 f4 f5⟩
 self:=fun _ _ _ _ _ st h=>wpAny_pyIter_tupleiter st h
theorem A2{P:Program}{w:World}{K:W.Frag}{tg:Expr}(it:Addr)(lo:Int)(n:Nat):Turn P w K tg (OD lo n) [it] it (fun i h=>IsRangeIter h it (lo+(i:Nat) * 1) ((n:Int) - (i:Nat)) 1) where
 mem:=by simp
 obj:=fun i h st b hb=>by
  have e:b=it:=by simpa using hb
  subst e
  exact⟨_,st,fun v z=>by
   have z':Data.fields _=Data.cell v:=z
   cases z'⟩
 keep:=fun i h h' st k=>k it (by simp) _ st
 item:=by
  intro X hP hw hK hc i pins s σ H E I hf st hg
  subst hP hw hK
  obtain⟨f0,f1,f2,f3,f4,f5⟩:=hf it (by simp)
  have W:=Walks.range (prog:=X.prog) (w:=X.w) (I.ok.hd hc) it lo 1 n
  refine W.item i s _ _ hg st fun v h' tk hv st' kk=>?_
  obtain⟨t,rfl⟩:=hv
  have I1:Inv X pins σ H { s with heap:=h',toks:=tk }:=I.turned (fun b o hb e=>kk b o (by simpa using hb) e) f0 f1 f3 f4 f5
  refine⟨_,rfl,Fb (s:={ s with heap:=h',toks:=tk }) (n:="range_iterator") st' rfl rfl (by decide) ⟨.int (lo+i),H,I1,⟨t,?_⟩,⟨rfl,rfl⟩,st',fun b hb=>(hf b hb).1⟩⟩
  rw[Int.mul_one]
 done:=by
  intro X hP hw hK hc i pins s σ H E I hf st hg
  subst hP hw hK
  obtain⟨f0,f1,f2,f3,f4,f5⟩:=hf it (by simp)
  exact wpAny_pyNext_range_end (I.ok.hd hc) st (by have:n<=i:=hg;omega) fun h' eb=>⟨rfl,I.turned (t':=s.toks) (fun b o hb e=>eb b o hb e) f0 f1 f3 f4 f5⟩
 self:=fun _ _ _ _ _ st h=>wpAny_pyIter_rangeiter st h
section
variable {X:Cx}{tg:Expr}
theorem GB{pins:List (Addr×Obj)}{σ:St}{H:Hp}{s:Shared}{R:It->Hp->Prop}{E:Value->Shared->Prop}{lo hi:Int}{t u v:Tok}{tk:Nat}(I:Inv X pins σ H s)(h1:-(2 ^ 62)<=lo)(h2:lo < 2 ^ 62)(h3:-(2 ^ 62)<=hi)(h4:hi < 2 ^ 62)
  (q:R (OD lo (hi - lo).toNat) H):wpAny (model X.prog X.w) X.A (pyIter (.ref s.heap.objs.size)) (Qm X pins σ tg R) E { s with heap:=s.heap.push { cls:=.type "range",data:=.fields #[.int lo t,.int hi u,.int 1 v] },toks:=tk }:=by
 refine wpAny_pyIter_range (IsRange.new ..) (small_one h1 h2 h3 h4) ?_
 have I1:Inv X pins σ H { s with heap:=s.heap.push { cls:=.type "range",data:=.fields #[.int lo t,.int hi u,.int 1 v] },toks:=tk }:=I.kept fun b o e=>zT _ e
 refine⟨(s.heap.push { cls:=.type "range",data:=.fields #[.int lo t,.int hi u,.int 1 v] }).objs.size,[(s.heap.push { cls:=.type "range",data:=.fields #[.int lo t,.int hi u,.int 1 v] }).objs.size],_,_,H,rfl,
  I1.kept (t':=tk) fun b o e=>zT _ e,A2 _ lo (hi - lo).toNat,?_,fun b hb=>?_,q⟩
 ·have e1:lo+((0:Nat):Int) * 1=lo:=by simp
  have e2:(((hi - lo).toNat:Nat):Int) - ((0:Nat):Int)=Builtin.Range.rangeSize lo hi 1:=by rw[rangeSize_one];split<;>omega
  show IsRangeIter _ _ (lo+((0:Nat):Int) * 1) ((((hi - lo).toNat:Nat):Int) - ((0:Nat):Int)) 1
  rw[e1,e2]
  exact zW _ rfl
 ·have e:b=(s.heap.push { cls:=.type "range",data:=.fields #[.int lo t,.int hi u,.int 1 v] }).objs.size:=by simpa using hb
  subst e
  exact I1.fpOk (yM _) (I1.hok.fresh (yM _))
def N3(ta:TA):TI:=fun σ H R=>ta σ H fun vs H1=>∃j:Int,vs=[.int j]/\-(2 ^ 62)<=j/\j < 2 ^ 62/\R (OD 0 j.toNat) H1
theorem D1{a:Expr}{ta:TA}{p pos:Pos}(hg:Gl X "range")(hm:X.mg "range"=none)(ha:PA X [a] ta)(hs:starEach [a] X.env=[(false,eval a X.env)]:=by rfl):PI X tg (.Call (.Name "range" p) [a] [] pos) (N3 ta):=by
 intro pins s σ H R I h
 refine Call_ (gn I hg hm boot_range (qS (cw (ha pos pins s σ H _ I h) fun us s1 ⟨vs,H1,I1,r1,q1⟩=>?_) hs rfl))
 obtain⟨j,e,q1,q2,q⟩:=q1
 subst e
 cases r1 with
 | cons r rr =>
  cases rr
  obtain⟨t,rfl⟩:=r
  exact call_range_1 (GB I1 (by omega) (by omega) q1 q2 (by simpa using q))
def P8(wi:TI)(g:TG)(tb:TS):TS:=fun D σ H=>wi σ H fun J H1=>∃W:Nat->Nat->St->Hp->Prop,(∃m,W 0 m σ H1)/\∀i m σ H,W i m σ H ->
 (J.stop i H/\D.nx σ H)\/(J.go i H/\∃N:St->Hp->Prop,(∀σ' H',N σ' H'->∃m',m' < m/\W (i+1) m' σ' H')/\∀x H',J.yld i H x H'->g x σ H' fun σ2 H2=>tb { D with nx:=N,ct:=N,bk:=D.nx } σ2 H2)
def nS(fp:List Addr)(h:Heap):List (Addr×Obj):=fp.filterMap fun b=>(h.get? b).map fun o=>(b,o)
theorem dS{fp:List Addr}{h:Heap}{b:Addr}{o:Obj}(hb:b∈fp)(e:h.get? b=some o):(b,o)∈nS fp h:=List.mem_filterMap.mpr ⟨b,hb,by rw[e];rfl⟩
theorem Do{fp:List Addr}{h:Heap}{p:Addr×Obj}(hp:p∈nS fp h):p.1∈fp/\h.get? p.1=some p.2:=by
 obtain⟨b,hb,e⟩:=List.mem_filterMap.mp hp
 cases q:h.get? b with
 | none=>rw[q] at e;cases e
 | some o =>
  rw[q] at e
  have e':(b,o)=p:=xD e
  subst e'
  exact⟨hb,q⟩
theorem Inv.pinned{pins:List (Addr×Obj)}{σ:St}{H:Hp}{s:Shared}{fp:List Addr}(I:Inv X pins σ H s)(hf:∀b∈fp,cq X pins H b)(ho:∀b∈fp,∃o,s.heap.get? b=some o/\∀v,o.data≠.cell v):Inv X (pins++nS fp s.heap) σ H s :=
 I.pins_of fun p hp=>(List.mem_append.mp hp).elim (fun z=>I.pin p (yD _ z)) fun z=>by
  obtain⟨hb,e⟩:=Do z
  obtain⟨f0,f1,f2,_⟩:=hf p.1 hb
  obtain⟨o,e',d⟩:=ho p.1 hb
  rw[e] at e';cases e'
  exact⟨e,f0,f1,f2,d⟩
theorem Inv.unpinned{pins pl:List (Addr×Obj)}{σ:St}{H:Hp}{s:Shared}(I:Inv X (pins++pl) σ H s):Inv X pins σ H s:=I.pins_of fun p hp=>I.pin p (yD _ (qJ _ hp))
theorem Le{iter:Expr}{body:List Stmt}{wi:TI}{g:TG}{tb:TS}{pos:Pos}(hp:PassesOwn (model X.prog X.w) X.A X.env X.xe)(hc:X.calm=true)(hi:PI X tg iter wi)(hg:PG X tg g)(hb:u3 X body tb)
  (hs:∀x,foldedSetIterable iter X.env x=pure x:=by intro _;rfl):PS X (.For tg iter body [] pos) (P8 wi g tb):=by
 intro pins s σ H D I h
 refine wpAny_For (cw (hi pins s σ H _ I h) fun v s1 h1=>cw h1 fun itv s2 h2=>?_) hs
 obtain⟨it,fp,tn,J,H2,e,I2,T,st2,f2,W,⟨m0,w0⟩,turn⟩:=h2
 subst e
 have stat:∀ {H':Hp},(∀b∈fp,H' b=none)->∀b∈fp,cq X pins H' b:=fun hn b hb=>⟨hn b hb,(f2 b hb).2⟩
 refine codeAny_forLoop_any (fun n s'=>∃i σ' H',Inv X pins σ' H' s'/\tn i s'.heap/\(∀b∈fp,H' b=none)/\W i n σ' H') ?_ m0 ⟨0,σ,H2,I2,st2,fun b hb=>(f2 b hb).1,w0⟩
 rintro n s3 ⟨i,σ3,H3,I3,st3,fr3,w3⟩
 rcases turn i n σ3 H3 w3 with ⟨stop,qn⟩|⟨go,N,hN,step⟩
 ·refine jK hp (cw (T.done X rfl rfl rfl hc i pins s3 σ3 H3 X.xe I3 (stat fr3) st3 stop) fun r s4 ⟨hr,I4⟩=>?_)
  subst hr
  exact vQ ⟨σ3,H3,I4,qn⟩
 ·refine jK hp (cw (T.item X rfl rfl rfl hc i pins s3 σ3 H3 X.xe I3 (stat fr3) st3 go) fun r s4 ⟨u,hr,h4⟩=>?_)
  subst hr
  refine jK hp (cw h4 fun _ s5 ⟨x,H5,I5,r5,y5,st5,fr5⟩=>?_)
  have I5':=I5.pinned (stat fr5) (T.obj _ _ st5)
  refine jK hp (cw (hg _ s5 σ3 H5 x u _ I5' r5 (step x H5 y5)) fun _ s6 ⟨σ6,H6,I6,q6⟩=>?_)
  refine jK hp (cw (hb _ s6 σ6 H6 _ I6 q6) fun f s7 q7=>?_)
  have again:∀ {σ7:St}{H7:Hp},Inv X (pins++nS fp s5.heap) σ7 H7 s7->N σ7 H7->∃m,m < n/\∃i σ' H',Inv X pins σ' H' s7/\tn i s7.heap/\(∀b∈fp,H' b=none)/\W i m σ' H':=fun {σ7 H7} I7 n7=>by
   obtain⟨m',hm,w7⟩:=hN σ7 H7 n7
   refine⟨m',hm,i+1,σ7,H7,I7.unpinned,T.keep _ _ _ st5 fun b hb o e=>(I7.pin (b,o) (yD _ (yD _ (dS hb e)))).1,fun b hb=>?_,w7⟩
   obtain⟨o,e,d⟩:=T.obj _ _ st5 b hb
   exact (I7.pin (b,o) (yD _ (yD _ (dS hb e)))).2.1
  cases f with
  | next=>obtain⟨σ7,H7,I7,n7⟩:=q7;exact again I7 n7
  | cont=>obtain⟨σ7,H7,I7,n7⟩:=q7;exact again I7 n7
  | brk=>obtain⟨σ7,H7,I7,q7⟩:=q7;exact⟨σ7,H7,I7.unpinned,q7⟩
  | ret v=>obtain⟨x7,σ7,H7,I7,r7,q7⟩:=q7;exact⟨x7,σ7,H7,I7.unpinned,r7,q7⟩
end
abbrev R2:=V->V->Hp->VK->Prop
def gY(X:Cx)(f:Value->Value->Sem Value)(r:R2):Prop :=
 ∀ (pins:List (Addr×Obj)) (s:Shared) (σ:St) (H:Hp) (x y:V) (v u:Value) (Q:VK),Inv X pins σ H s->RelV x v->RelV y u->r x y H Q ->
  wpAny (model X.prog X.w) X.A (f v u) (EP X pins σ Q) X.xe s
def Qd(X:Cx)(f:Value->Sem Value)(r:V->Hp->VK->Prop):Prop :=
 ∀ (pins:List (Addr×Obj)) (s:Shared) (σ:St) (H:Hp) (x:V) (v:Value) (Q:VK),Inv X pins σ H s->RelV x v->r x H Q ->
  wpAny (model X.prog X.w) X.A (f v) (EP X pins σ Q) X.xe s
def fJ(X:Cx)(f:Value)(r:List V->Hp->VK->Prop):Prop :=
 ∀ (pins:List (Addr×Obj)) (s:Shared) (σ:St) (H:Hp) (xs:List V) (us:List Value) (Q:VK),Inv X pins σ H s->aM xs us->r xs H Q ->
  wpAny (model X.prog X.w) X.A (call f us) (EP X pins σ Q) X.xe s
def M8(r:R2)(ta tb:TE):TE:=fun σ H Q=>ta σ H fun x H1=>tb σ H1 fun y H2=>r x y H2 Q
def QG(r:V->Hp->VK->Prop)(ta:TE):TE:=fun σ H Q=>ta σ H fun x H1=>r x H1 Q
def rI(C:Int->Int->Prop)(g:Int->Int->V):R2:=fun x y H Q=>∃i j,x=.int i/\y=.int j/\C i j/\Q (g i j) H
def HE(g:Int->Int->V):R2:=fun x y H Q=>∃i j,x=.int i/\y=.int j/\Q (g i j) H
def rU(g:Int->V):V->Hp->VK->Prop:=fun x H Q=>∃i,x=.int i/\Q (g i) H
section
variable {X:Cx}{a b c:Expr}{ta tb tc:TE}{pos:Pos}
theorem K1(ha:PE X a ta)(hb:PE X b tb){pins:List (Addr×Obj)}{s:Shared}{σ:St}{H:Hp}{R:V->V->Hp->Prop}(I:Inv X pins σ H s)
  (h:ta σ H fun x H1=>tb σ H1 fun y H2=>R x y H2) {Q:Value->Shared->Prop}{f:Value->Value->Sem Value}
  (hf:∀v u s2 x y H2,Inv X pins σ H2 s2->RelV x v->RelV y u->R x y H2->wpAny (model X.prog X.w) X.A (f v u) Q X.xe s2) :
  wpAny (model X.prog X.w) X.A (eval a X.env) (fun v s₁=>wpAny (model X.prog X.w) X.A (eval b X.env) (fun u s₂=>wpAny (model X.prog X.w) X.A (f v u) Q X.xe s₂) X.xe s₁) X.xe s:=by
 refine cw (ha pins s σ H _ I h) fun v s1 ⟨x,H1,I1,r1,q1⟩=>?_
 refine cw (hb pins s1 σ H1 _ I1 q1) fun u s2 ⟨y,H2,I2,r2,q2⟩=>?_
 exact hf v u s2 x y H2 I2 r1 r2 q2
theorem CL{op:Operator}{r:R2}(ho:gY X (binaryOp op) r)(ha:PE X a ta)(hb:PE X b tb):PE X (.BinOp a op b pos) (M8 r ta tb):=by
 intro pins s σ H Q I h
 exact wpAny_BinOp (K1 ha hb I h fun v u s2 x y H2 I2 rx ry q=>ho pins s2 σ H2 x y v u Q I2 rx ry q)
theorem Oo{op:UnaryOp}{r:V->Hp->VK->Prop}(ho:Qd X (unaryOp op) r)(ha:PE X a ta):PE X (.UnaryOp op a pos) (QG r ta):=by
 intro pins s σ H Q I h
 exact UnaryOp_ (cw (ha pins s σ H _ I h) fun v s1 ⟨x,H1,I1,r1,q1⟩=>ho pins s1 σ H1 x v Q I1 r1 q1)
theorem O8{f:Value->Value->Sem Value}{C:Int->Int->Prop}{g:Int->Int->Int}
  (rule:∀ (i j:Int) (t u:Tok) (s:Shared) (Q:Value->Shared->Prop) (E:Value->Shared->Prop),C i j->Q (.int (g i j) s.toks) { s with toks:=s.toks+1 }->wpAny (model X.prog X.w) X.A (f (.int i t) (.int j u)) Q E s) :
  gY X f (rI C fun i j=>.int (g i j)):=by
 intro pins s σ H x y v u Q I rx ry h
 obtain⟨i,j,rfl,rfl,hc,q⟩:=h
 obtain⟨t,rfl⟩:=rx
 obtain⟨t',rfl⟩:=ry
 exact rule i j t t' s _ _ hc ⟨.int (g i j),H,I.tok _,⟨_,rfl⟩,q⟩
theorem NB{f:Value->Value->Sem Value}{g:Int->Int->Int}
  (rule:∀ (i j:Int) (t u:Tok) (s:Shared) (Q:Value->Shared->Prop) (E:Value->Shared->Prop),Q (.int (g i j) s.toks) { s with toks:=s.toks+1 }->wpAny (model X.prog X.w) X.A (f (.int i t) (.int j u)) Q E s) :
  gY X f (HE fun i j=>.int (g i j)):=by
 intro pins s σ H x y v u Q I rx ry h
 obtain⟨i,j,rfl,rfl,q⟩:=h
 obtain⟨t,rfl⟩:=rx
 obtain⟨t',rfl⟩:=ry
 exact rule i j t t' s _ _ ⟨.int (g i j),H,I.tok _,⟨_,rfl⟩,q⟩
theorem Jf{f:Value->Value->Sem Value}{g:Int->Int->Bool}
  (rule:∀ (i j:Int) (t u:Tok) (s:Shared) (Q:Value->Shared->Prop) (E:Value->Shared->Prop),Q (.bool (g i j)) s->wpAny (model X.prog X.w) X.A (f (.int i t) (.int j u)) Q E s) :
  gY X f (HE fun i j=>.bl (g i j)):=by
 intro pins s σ H x y v u Q I rx ry h
 obtain⟨i,j,rfl,rfl,q⟩:=h
 obtain⟨t,rfl⟩:=rx
 obtain⟨t',rfl⟩:=ry
 exact rule i j t t' s _ _ ⟨.bl (g i j),H,I,rfl,q⟩
def ID(i j:Int):Prop:=0 < j/\j < 1073741824
def wo(i j:Int):Prop:=(-(2 ^ 64) < i/\i < 2 ^ 64)\/(-(2 ^ 64) < j/\j < 2 ^ 64)
theorem wo.ok{i j:Int}(h:wo i j):IntMulOk i j:=by
 rcases h with ⟨h1,h2⟩|⟨h1,h2⟩
 ·exact .of_left (intBits_le_64 h1 h2)
 ·exact .of_right (intBits_le_64 h1 h2)
theorem KL:gY X (binaryOp .Add) (HE fun i j=>.int (i+j)):=NB fun _ _ _ _ _ _ _ q=>add_int q
theorem LX:gY X (binaryOp .Sub) (HE fun i j=>.int (i - j)):=NB fun _ _ _ _ _ _ _ q=>sub_int q
theorem Lk:gY X (binaryOp .Mult) (rI wo fun i j=>.int (i * j)):=O8 fun _ _ _ _ _ _ _ hc q=>mul_int q hc.ok
theorem II:gY X (binaryOp .FloorDiv) (rI ID fun i j=>.int (i / j)):=O8 fun i j _ _ _ _ _ hc q=>by
 have h1:(0:Int) < j:=hc.1
 have h2:j < 1073741824:=hc.2
 exact floordiv_int (by omega) (by rw[Int.fdiv_eq_ediv_of_nonneg i (by omega)];exact q) (.inl (PyProof.noPylong_small (by omega)))
theorem MB:gY X (binaryOp .Mod) (rI (fun _ j=>0 < j) fun i j=>.int (i % j)):=O8 fun i j _ _ _ _ _ hc q=>by
 have h1:(0:Int) < j:=hc
 exact mod_int' (by omega) (by rw[Int.fmod_eq_emod_of_nonneg i (by omega)];exact q)
theorem QT{f:Value->Sem Value}{g:Int->Int}
  (rule:∀ (i:Int) (t:Tok) (s:Shared) (Q:Value->Shared->Prop) (E:Value->Shared->Prop),Q (.int (g i) s.toks) { s with toks:=s.toks+1 }->wpAny (model X.prog X.w) X.A (f (.int i t)) Q E s) :
  Qd X f (rU fun i=>.int (g i)):=by
 intro pins s σ H x v Q I rx h
 obtain⟨i,rfl,q⟩:=h
 obtain⟨t,rfl⟩:=rx
 exact rule i t s _ _ ⟨.int (g i),H,I.tok _,⟨_,rfl⟩,q⟩
theorem MG:Qd X (unaryOp .USub) (rU fun i=>.int (-i)):=QT fun _ _ _ _ _ q=>neg_int q
end
def oZ:V->V->Bool
 | .non,.non=>true|.non,.int _=>true|.int _,.non=>true|.non,.bl _=>true|.bl _,.non=>true|.non,.str _=>true|.str _,.non=>true
 | .int _,.int _=>true|.bl _,.bl _=>true|.str _,.str _=>true|.byt _,.byt _=>true
 | .int _,.str _=>true|.str _,.int _=>true|.bl _,.str _=>true|.str _,.bl _=>true
 | _,_=>false
def QP:R2:=fun x y H Q=>oZ x y=true/\Q (.bl (!decide (x=y))) H
theorem Io{i j:Int}:decide (V.int i=V.int j)=(i == j):=by
 rw[kX]
 simp
theorem Lv{i j:Bool}:decide (V.bl i=V.bl j)=(i == j):=by
 rw[kX]
 simp
theorem HW{i j:Str}:decide (V.str i=V.str j)=(i == j):=by
 rw[kX]
 simp
theorem Ii{i j:Array UInt8}:decide (V.byt i=V.byt j)=(i.toList == j.toList):=by
 rw[kX]
 cases i
 cases j
 simp
section
variable {X:Cx}{a b c:Expr}{ta tb tc:TE}{pos:Pos}
theorem da{pins:List (Addr×Obj)}{σ:St}{H:Hp}{s:Shared}{Q:VK}{k k':Bool}(I:Inv X pins σ H s)(q:Q (.bl k) H)(e:k=k'):EP X pins σ Q (.bool k') s:=by
 subst e
 exact⟨.bl k,H,I,rfl,q⟩
theorem Ox:gY X (compareOp .NotEq) QP:=by
 intro pins s σ H x y v u Q I rx ry h
 obtain⟨hs,q⟩:=h
 cases x with
 | non =>
  cases rx
  cases y with
  | non=>cases ry;exact PySem.EqNone.ne_none_none (da I q (by simp))
  | bl j=>cases ry;exact PySem.EqNone.ne_none_bool (da I q (by simp))
  | int j=>obtain⟨t',rfl⟩:=ry;exact PySem.EqNone.ne_none_int (da I q (by simp))
  | str j=>obtain⟨t',rfl⟩:=ry;exact PySem.EqNone.ne_none_str (da I q (by simp))
  | _=>exact absurd (show false=true from hs) yZ
 | bl i =>
  cases rx
  cases y with
  | non=>cases ry;exact PySem.EqNone.ne_bool_none (da I q (by simp))
  | bl j=>cases ry;exact ne_bool (da I q (jC not Lv))
  | str j=>obtain⟨t',rfl⟩:=ry;exact PySem.EqMixed.ne_bool_str (da I q (by simp))
  | _=>exact absurd (show false=true from hs) yZ
 | int i =>
  obtain⟨t,rfl⟩:=rx
  cases y with
  | non=>cases ry;exact PySem.EqNone.ne_int_none (da I q (by simp))
  | int j=>obtain⟨t',rfl⟩:=ry;exact ne_int (da I q (jC not Io))
  | str j=>obtain⟨t',rfl⟩:=ry;exact PySem.EqMixed.ne_int_str (da I q (by simp))
  | _=>exact absurd (show false=true from hs) yZ
 | str i =>
  obtain⟨t,rfl⟩:=rx
  cases y with
  | non=>cases ry;exact PySem.EqNone.ne_str_none (da I q (by simp))
  | bl j=>cases ry;exact PySem.EqMixed.ne_str_bool (da I q (by simp))
  | int j=>obtain⟨t',rfl⟩:=ry;exact PySem.EqMixed.ne_str_int (da I q (by simp))
  | str j=>obtain⟨t',rfl⟩:=ry;exact ne_str (da I q (jC not HW))
  | _=>exact absurd (show false=true from hs) yZ
 | byt i =>
  obtain⟨t,rfl⟩:=rx
  cases y with
  | byt j=>obtain⟨t',rfl⟩:=ry;exact W.ne_bytes (da I q (jC not Ii))
  | _=>exact absurd (show false=true from hs) yZ
 | _=>cases y<;>exact absurd (show false=true from hs) yZ
theorem Fc:gY X (compareOp .Lt) (HE fun i j=>.bl (decide (i < j))):=Jf fun _ _ _ _ _ _ _ q=>lt_int q
theorem EK:gY X (compareOp .LtE) (HE fun i j=>.bl (decide (i<=j))):=Jf fun _ _ _ _ _ _ _ q=>le_int q
theorem KA:gY X (compareOp .Gt) (HE fun i j=>.bl (decide (j < i))):=Jf fun _ _ _ _ _ _ _ q=>gt_int q
theorem Kz:gY X (compareOp .GtE) (HE fun i j=>.bl (decide (j<=i))):=Jf fun _ _ _ _ _ _ _ q=>ge_int q
theorem Gz:gY X (compareOp .Is) (fun x y H Q=>y=.non/\Q (.bl (decide (x=.non))) H):=by
 intro pins s σ H x y v u Q I rx ry h
 obtain⟨rfl,q⟩:=h
 cases ry
 refine is_none_gen (da I q ?_)
 cases x<;>first
  | (cases rx;rfl)
  | (obtain⟨t,rfl⟩:=rx;rfl)
theorem C7:gY X (compareOp .IsNot) (fun x y H Q=>y=.non/\Q (.bl (!decide (x=.non))) H):=by
 intro pins s σ H x y v u Q I rx ry h
 obtain⟨rfl,q⟩:=h
 cases ry
 refine isnot_none_gen (da I q ?_)
 cases x<;>first
  | (cases rx;rfl)
  | (obtain⟨t,rfl⟩:=rx;rfl)
def isObj:HO->Bool
 | .lst _=>true
 | .ins _ _ _=>true
 | _=>false
theorem sX{pins:List (Addr×Obj)}{s:Shared}{σ:St}{H:Hp}{a:Addr}{o:HO}(I:Inv X pins σ H s)(h:H a=some o)(p:isObj o=true):∃ob,s.heap.get? a=some ob/\ob.cls≠.type "tuple":=by
 cases o with
 | lst xs =>
  obtain⟨_,its,n,_,e⟩:xs.length<=sizeLine/\∃ (its:List Value) (n:Nat),aM xs its/\s.heap.get? a=some { cls:=.type "list",data:=.seq its.toArray n }:=I.hok a _ h
  exact⟨_,e,(by show Value.type "list"≠.type "tuple";decide +kernel)⟩
 | ins C dx fs =>
  have x:=I.hok a _ h
  obtain⟨_,_,_,e,_⟩:=x
  exact⟨_,e,(by show Value.ref C≠.type "tuple";exact fun z=>by cases z)⟩
 | _=>exact absurd (show false=true from p) yZ
theorem gY.or{f:Value->Value->Sem Value}{r r':R2}(h:gY X f r)(h':gY X f r'):gY X f (fun x y H Q=>r x y H Q\/r' x y H Q):=by
 intro pins s σ H x y v u Q I rx ry q
 rcases q with q|q
 ·exact h pins s σ H x y v u Q I rx ry q
 ·exact h' pins s σ H x y v u Q I rx ry q
theorem dE(b:Expr){op:CmpOp}(h:op≠.In:=by decide)(h2:op≠.NotIn:=by decide):behindInMarks op b=false:=by
 have e1:(op == CmpOp.In)=false:=by cases op<;>first|rfl|exact absurd rfl h
 have e2:(op == CmpOp.NotIn)=false:=by cases op<;>first|rfl|exact absurd rfl h2
 cases b<;>simp[behindInMarks,e1,e2]
theorem IR{op:CmpOp}{r:R2}(ho:gY X (compareOp op) r)(ha:PE X a ta)(hb:PE X b tb)(hm:behindInMarks op b=false):PE X (.Compare a [op] [b] pos) (M8 r ta tb):=by
 intro pins s σ H Q I h
 exact wpAny_Compare1 (K1 ha hb I h fun v u s2 x y H2 I2 rx ry q=>ho pins s2 σ H2 x y v u Q I2 rx ry q) hm
def J3(t:TE):TT:=fun σ H Q=>t σ H fun x H'=>∃k,x=.bl k/\Q k H'
theorem CQ{op:CmpOp}{r:R2}(ho:gY X (compareOp op) r)(ha:PE X a ta)(hb:PE X b tb)(hm:behindInMarks op b=false):PT X (.Compare a [op] [b] pos) (J3 (M8 r ta tb)):=by
 intro pins s σ H Q I h
 refine wpAny_isTrue_Compare1 (cw (ha pins s σ H _ I h) fun v s1 ⟨x,H1,I1,r1,q1⟩=>cw (hb pins s1 σ H1 _ I1 q1) fun u s2 ⟨y,H2,I2,r2,q2⟩ =>
  cw (ho pins s2 σ H2 x y v u _ I2 r1 r2 q2) fun c s3 ⟨z,H3,I3,r3,k,e,q3⟩=>?_) hm
 subst e
 cases r3
 exact xW ⟨H3,I3,q3⟩
def By(r r':R2)(ta tb tc:TE):TE:=fun σ H Q=>ta σ H fun x H1=>tb σ H1 fun y H2=>r x y H2 fun z H3=>∃k,z=.bl k /\
 (if k=true then tc σ H3 fun w' H4=>r' y w' H4 Q else Q (.bl false) H3)
theorem FW{op op':CmpOp}{r r':R2}(ho:gY X (compareOp op) r)(ho':gY X (compareOp op') r')(ha:PE X a ta)(hb:PE X b tb)(hc:PE X c tc)
  (hm:lastMarks [op,op'] [b,c]=false:=by with_unfolding_all rfl):PE X (.Compare a [op,op'] [b,c] pos) (By r r' ta tb tc):=by
 intro pins s σ H Q I h
 refine Compare_chain (cw (ha pins s σ H _ I h) fun v s1 ⟨x,H1,I1,r1,q1⟩=>chain_link (cw (hb pins s1 σ H1 _ I1 q1) fun u s2 ⟨y,H2,I2,r2,q2⟩ =>
  cw (ho pins s2 σ H2 x y v u _ I2 r1 r2 q2) fun d s3 ⟨z,H3,I3,r3,k,e,q3⟩=>?_)) hm
 subst e
 cases r3
 refine xW ?_
 cases k with
 | false=>exact ite_ff ⟨.bl false,H3,I3,rfl,q3⟩
 | true=>exact ite_tt (chain_last (cw (hc pins s3 σ H3 _ I3 q3) fun w' s4 ⟨z',H4,I4,r4,q4⟩=>ho' pins s4 σ H4 y z' u w' Q I4 r2 r4 q4))
theorem F9{op op':CmpOp}{r r':R2}(ho:gY X (compareOp op) r)(ho':gY X (compareOp op') r')(ha:PE X a ta)(hb:PE X b tb)(hc:PE X c tc)
  (hm:lastMarks [op,op'] [b,c]=false:=by with_unfolding_all rfl):PT X (.Compare a [op,op'] [b,c] pos) (J3 (By r r' ta tb tc)):=by
 intro pins s σ H Q I h
 refine isTrue_chain (cw (ha pins s σ H _ I h) fun v s1 ⟨x,H1,I1,r1,q1⟩=>test_link (cw (hb pins s1 σ H1 _ I1 q1) fun u s2 ⟨y,H2,I2,r2,q2⟩ =>
  cw (ho pins s2 σ H2 x y v u _ I2 r1 r2 q2) fun d s3 ⟨z,H3,I3,r3,k,e,q3⟩=>?_)) hm
 subst e
 cases r3
 refine xW ?_
 cases k with
 | false =>
  obtain⟨k',e',q'⟩:=q3
  cases e'
  exact ite_ff ⟨H3,I3,q'⟩
 | true =>
  refine ite_tt (test_last (cw (hc pins s3 σ H3 _ I3 q3) fun w' s4 ⟨z',H4,I4,r4,q4⟩=>cw (ho' pins s4 σ H4 y z' u w' _ I4 r2 r4 q4) fun d' s5 ⟨z2,H5,I5,r5,k2,e2,q5⟩=>?_))
  subst e2
  cases r5
  exact xW ⟨H5,I5,q5⟩
theorem pN:(sizeLine:Nat) < 2 ^ 63:=by rw[qU];decide
theorem vals1{x:V}{us:List Value}(r:aM [x] us):∃u,us=[u]/\RelV x u:=by
 cases r with
 | cons r1 r2=>cases r2;exact⟨_,rfl,r1⟩
theorem vals2{x y:V}{us:List Value}(r:aM [x,y] us):∃u w',us=[u,w']/\RelV x u/\RelV y w':=by
 cases r with
 | cons r1 r2 =>
  cases r2 with
  | cons r3 r4=>cases r4;exact⟨_,_,rfl,r1,r3⟩
end
section
variable {prog:Program}{w:World}{A:Around}{E:Value->Shared->Prop}{s:Shared}{K:W.Frag}{x dx C f:Addr}{mA:Str->Option Value}{name:Str}{v:Value}
end
section
variable {P:Program}{w:World}{H H':Hp}{h h':Heap}{a C dx:Addr}{fs fs':List (Str×V)}
end
section
variable {X:Cx}{pins:List (Addr×Obj)}{σ:St}{H:Hp}{s:Shared}{a C dx:Addr}{fs:List (Str×V)}{f:Str}{v:V}{A:Around}{E:Value->Shared->Prop}
end
section
variable {X:Cx}{o e value:Expr}{f:Str}{pos pos' tpos:Pos}{ta tv:TE}
end
section
variable {X:Cx}{pins:List (Addr×Obj)}{σ:St}{H:Hp}{s:Shared}{A:Around}{E:Value->Shared->Prop}{Q:Value->Shared->Prop}{c:Value}{b:Bool}
end
structure eu(k:Nat)(A:Around):Prop where
 hd:A.handled=none
 dp:A.depth+3 * k+5 < recursionLimit
 un:A.units+16 * k+200 < cLine
theorem eu.mono{j k:Nat}{A:Around}(r:eu k A)(h:j<=k):eu j A:=⟨r.hd,by have:=r.dp;omega,by have:=r.un;omega⟩
theorem eu.deeper{k:Nat}{A:Around}(r:eu (k+1) A)(env:Env):eu k (A.deeper env) :=
 ⟨r.hd,by have:=r.dp;show A.depth+1+3 * k+5 < _;omega,by have:=r.un;show A.units+3+16 * k+200 < _;omega⟩
theorem eu.in1{k:Nat}{A:Around}(r:eu (k+1) A):eu k A.in1 :=
 ⟨r.hd,by have:=r.dp;show A.depth+3 * k+5 < _;omega,by have:=r.un;show A.units+1+16 * k+200 < _;omega⟩
theorem eu.depth{k:Nat}{A:Around}(r:eu k A):A.depth < recursionLimit:=by have:=r.dp;omega
theorem eu.units{k:Nat}{A:Around}(r:eu k A):A.units+64 < cLine:=by have:=r.un;omega
theorem eu.units0{k:Nat}{A:Around}(r:eu k A):A.units < cLine:=by have:=r.un;omega
def PX:TA:=fun _ H Q=>Q [] H
def Nu(ta:TE)(tr:TA):TA:=fun σ H Q=>ta σ H fun x H1=>tr σ H1 fun xs H2=>Q (x::xs) H2
section
variable {X:Cx}{e:Expr}{es:List Expr}{te:TE}{t:TA}{pos:Pos}
theorem eZ:PA X [] PX:=fun _ _ _ _ H Q I h=>kH ⟨[],H,I,.nil,h⟩
theorem cn(ha:PE X e te)(hr:PA X es t)(hs:starEach (e::es) X.env=(false,eval e X.env)::starEach es X.env:=by rfl):PA X (e::es) (Nu te t):=by
 intro pos pins s σ H Q I h
 rw[hs]
 show wpAny _ _ (spliced ((false,eval e X.env)::backTo pos (starEach es X.env))) _ _ s
 refine jJ (cw (ha pins s σ H _ I h) fun u s1 ⟨x,H1,I1,r1,q1⟩=>?_)
 exact cw (hr pos pins s1 σ H1 _ I1 q1) fun us s2 ⟨xs,H2,I2,r2,q2⟩=>⟨x::xs,H2,I2,.cons r1 r2,q2⟩
def Pa(t:TA):TE:=fun σ H Q=>t σ H fun xs H1=>xs.length<=sizeLine/\∀p,H1 p=none->Q (.ref p) (upd H1 p (.tup xs))
def Pp(t:TA):TE:=fun σ H Q=>t σ H fun xs H1=>xs.length<=sizeLine/\∀p,H1 p=none->Q (.ref p) (upd H1 p (.lst xs))
theorem F7{x1}(h:PA X es t):PE X (.Tuple es x1 pos) (Pa t):=by
 intro pins s σ H Q I hq
 refine wpAny_Tuple_spliced (cw (h pos pins s σ H _ I hq) fun us s1 ⟨xs,H1,I1,r,z,q⟩=>⟨by rw[<- r.length];exact z,?_⟩)
 have hf:H1 s1.heap.objs.size=none:=I1.hok.fresh (yM _)
 refine⟨.ref s1.heap.objs.size,upd H1 s1.heap.objs.size (.tup xs),I1.laid (t':=s1.toks) (fun b u e=>zT _ e) (yM _) ?_,rfl,q _ hf⟩
 exact⟨z,us,r,⟨_,zW _ rfl,rfl,_,rfl⟩,_,zW _ rfl,rfl⟩
theorem AR(h:PA X es t):PE X (.List es pos) (Pp t):=by
 intro pins s σ H Q I hq
 refine wpAny_List_spliced (cw (h pos pins s σ H _ I hq) fun us s1 ⟨xs,H1,I1,r,z,q⟩=>⟨by rw[<- r.length];exact z,?_⟩)
 have hf:H1 s1.heap.objs.size=none:=I1.hok.fresh (yM _)
 refine⟨.ref s1.heap.objs.size,upd H1 s1.heap.objs.size (.lst xs),I1.laid (t':=s1.toks) (fun b u e=>zT _ e) (yM _) ?_,rfl,q _ hf⟩
 exact⟨z,us,0,r,zW _ rfl⟩
end
abbrev Sp:=List V->Hp->VK->XK->Prop
abbrev Df:=List Env->Hp->Shared->XK->Value->Shared->Prop
structure BA(P:Program)(w:World)(K:W.Frag)(mg:Str->Option Value)(base:Heap)(A:Around)(outer:List Env)(s:Shared)(H:Hp):Prop where
 frames:A.frames=some outer
 mod:Mod K mg base
 bs:∀b o,base.get? b=some o->s.heap.get? b=some o/\H b=none
 bsz:base.objs.size<=s.heap.objs.size
 funs:s.heap.FunFrames base outer
 frf:∀b∈ib outer,H b=none
 hok:nI P w H s.heap
 bare:AllBare s.gens
def CE(outer:List Env)(P:Program)(w:World)(H:Hp)(s:Shared)(Q:VK)(u:Value)(s':Shared):Prop :=
 ∃v H',s'.os=s.os/\AllBare s'.gens/\Un (ib outer) [] H H' s.heap s'.heap/\nI P w H' s'.heap/\RelV v u/\Q v H'
def CR(CX:Df)(outer:List Env)(P:Program)(w:World)(H:Hp)(s:Shared)(Q:VK)(E:XK)(r:Result)(s':Shared):Prop :=
 match r with
 | .ok (.ret u)=>CE outer P w H s Q u s'
 | .ok _=>False
 | .error e=>CX outer H s E e s'
structure oY(P:Program)(w:World)(K:W.Frag)(mg:Str->Option Value)(base:Heap)(CX:Df)(k:Nat)(f:Addr)(fd:FuncData)(ps:List Str)(sp:Sp):Prop where
 len:∀vs H Q E,sp vs H Q E->vs.length=ps.length
 run:∀ (A:Around) (outer:List Env) (s:Shared) (H:Hp) (args:Args) (us:List Value) (vs:List V) (Q:VK) (E:XK),eu k A->BA P w K mg base A outer s H->BindsTo s fd args (ps.zip us)->aM vs us->sp vs H Q E ->
  codeAny (model P w) A (.call (.ref f) args) (CR CX outer P w H s Q E) s
theorem oY.mono{P:Program}{w:World}{K:W.Frag}{mg:Str->Option Value}{base:Heap}{CX:Df}{j k:Nat}{f:Addr}{fd:FuncData}{ps:List Str}{sp:Sp}(F:oY P w K mg base CX j f fd ps sp)(h:j<=k) :
  oY P w K mg base CX k f fd ps sp:=⟨F.len,fun A outer s H args us vs Q E hr=>F.run A outer s H args us vs Q E (hr.mono h)⟩
section
variable {X:Cx}{pins:List (Addr×Obj)}{σ:St}{H:Hp}{s s':Shared}
theorem Inv.env0(I:Inv X pins σ H s):BA X.prog X.w X.K X.mg X.base X.A X.stack s H :=
 ⟨I.ok.frames,I.ok.mod,I.bs,yC I.ok.bsz I.sz,I.stack,I.stkFree,I.hok,I.bare⟩
theorem Inv.after{Q:VK}{u:Value}(I:Inv X pins σ H s)(h:CE X.stack X.prog X.w H s Q u s'):EP X pins σ Q u s':=by
 obtain⟨v,H',os,bare,un,hok,r,q⟩:=h
 obtain⟨hh,g,d,t,os'⟩:=s'
 obtain rfl:os'=s.os:=os
 exact⟨v,H',I.call (h':=hh) (g':=g) (d':=d) (t':=t) (ch:=[]) un hok bare (fun b z=>absurd z (by simp)),r,q⟩
end
def NQ(sp:Sp)(dvs:List V)(E:XK)(t:TA):TE:=fun σ H Q=>t σ H fun vs H1=>sp (vs++dvs) H1 Q E
def Binds(K:W.Frag)(fd:FuncData)(ps:List Str)(ds:List Value):Prop :=
 ∀ (s:Shared) (us:List Value),K.In s.heap->(us++ds).length=ps.length->BindsTo s fd ⟨us,[]⟩ (ps.zip (us++ds))
theorem Binds.all{K:W.Frag}{fd:FuncData}{ps:List Str}(h:∀us:List Value,us.length=ps.length->bindArgs fd ⟨us,[]⟩=pure (ps.zip us)):Binds K fd ps []:=fun s us _ hl=>by
 rw[qF] at hl ⊢
 exact .of_eq (h us hl)
def fN(CX:Df)(X:Cx)(E:XK):Prop:=∀ (pins:List (Addr×Obj)) (σ:St) (H:Hp) (s:Shared) (e:Value) (s':Shared),Inv X pins σ H s->CX X.stack H s E e s'->X.xe e s'
section
variable {X:Cx}{CX:Df}{k:Nat}{f C:Addr}{fd:FuncData}{ps:List Str}{sp:Sp}{dvs:List V}{ds:List Value}{E:XK}{x m:Str}{p pos apos:Pos}{e o:Expr}{es:List Expr}{ta:TE}{t:TA}
theorem LD{pins:List (Addr×Obj)}{σ:St}{H:Hp}{s:Shared}{Q:VK}{us:List Value}{vs:List V}(F:oY X.prog X.w X.K X.mg X.base CX k f fd ps sp)(hr:eu k X.A)(hb:Binds X.K fd ps ds)(hd:aM dvs ds)(hx:fN CX X E)
  (I:Inv X pins σ H s) (r:aM vs us) (h:sp (vs++dvs) H Q E):wpAny (model X.prog X.w) X.A (call (.ref f) us) (EP X pins σ Q) X.xe s:=by
 have r2:aM (vs++dvs) (us++ds):=r.append hd
 have hl:(us++ds).length=ps.length:=by rw[<- r2.length];exact F.len _ _ _ _ h
 refine vL (jR (F.run X.A X.stack s H ⟨us,[]⟩ (us++ds) (vs++dvs) Q E hr I.env0 (hb s us I.kIn hl) r2 h) fun r s' hq=>?_)
 cases r with
 | error e=>exact hx pins σ H s e s' I hq
 | ok fl =>
  cases fl with
  | ret u=>exact I.after hq
  | next=>exact False.elim hq
  | brk=>exact False.elim hq
  | cont=>exact False.elim hq
theorem C0(F:oY X.prog X.w X.K X.mg X.base CX k f fd ps sp)(hr:eu k X.A)(hg:Gl X x)(hm:X.mg x=some (.ref f))(hk:W.keepIn X.K (.ref f)=true)(hb:Binds X.K fd ps ds)(hd:aM dvs ds)(hx:fN CX X E)
  (ha:PA X (e::es) t) (hdb:(x == ("__debug__":Str))=false:=by decide) (he:starEach (e::es) X.env=(false,eval e X.env)::starEach es X.env:=by rfl) (hpl:(backTo pos (starEach es X.env)).any (·.1)=false:=by rfl) :
  PE X (.Call (.Name x p) (e::es) [] pos) (NQ sp dvs E t):=by
 intro pins s σ H Q I h
 refine qY (lG I hg hm ?_ hdb)
 refine W.callWith_K (h₀:=X.base) I.ok.mod.kin hk (cw (ha pos pins s σ H _ I h) fun us s1 ⟨vs,H1,I1,r,q⟩=>⟨I1.kIn,?_⟩) he hpl
 exact LD F hr hb hd hx I1 r q
end
section
variable {X:Cx}{CX:Df}{k:Nat}{f C:Addr}{fd:FuncData}{ps ks:List Str}{sp:Sp}{E:XK}{x m:Str}{p pos apos kpos:Pos}{e o:Expr}{es:List Expr}{kws:List Keyword}{te ta:TE}{t tk:TA}{nm:Option Str}
variable {g:List Value->List Value->List Value}{gV:List V->List V->List V}
end
structure dP(N P:List Str)(sc:Scope):Prop where
 kind:sc.kind=.function
 co:sc.isCoroutine=false
 gen:sc.isGenerator=false
 nd:N.Nodup
 pre:N.take P.length=P
 par:∀x∈P,sc.names.lookup x=some .local \/ sc.names.lookup x=some .cell
 nofree:∀y∈sc.names,y.2≠.free
theorem tT{kindOf:Str->Option NameKind}{x:Str}:∀ {binds:List (Str×Value)}{m:Str->Option Value},(∀v,(x,v)∉binds)->bindL kindOf binds m x=m x
 | [],_,_=>rfl
 | (n,v)::r,m,h=>by
  unfold bindL
  rw[tT fun w hw=>h w (zC _ hw)]
  split
  ·have:x≠n:=by rintro rfl;exact h v zE
   simp[this]
  ·rfl
theorem uc{kindOf:Str->Option NameKind}{x:Str}:∀ {binds:List (Str×Value)}{m:Str->Option Value},(∀v,(x,v)∉binds)->bindC kindOf binds m x=m x
 | [],_,_=>rfl
 | (n,v)::r,m,h=>by
  unfold bindC
  rw[uc fun w hw=>h w (zC _ hw)]
  split
  ·rfl
  ·have:x≠n:=by rintro rfl;exact h v zE
   simp[this]
theorem td{kindOf:Str->Option NameKind}{x:Str}{v:Value}:∀ {P:List Str}{vs:List Value}{i:Nat}{m:Str->Option Value},P.Nodup->P[i]?=some x->vs[i]?=some v->kindOf x=some .local ->
  bindL kindOf (P.zip vs) m x=some v
 | [],_,_,_,_,h,_,_=>by simp at h
 | _::_,[],_,_,_,_,h,_=>by simp at h
 | p::P,w::vs,0,m,nd,h1,h2,hk=>by
  simp at h1 h2;subst h1;subst h2
  show bindL kindOf ((p,w)::P.zip vs) m p=_
  unfold bindL
  rw[tT fun v hv=>(List.nodup_cons.mp nd).1 (vT hv).1,yL hk]
  simp
 | p::P,w::vs,i+1,m,nd,h1,h2,hk=>by
  show bindL kindOf ((p,w)::P.zip vs) m x=_
  unfold bindL
  exact td (i:=i) (List.nodup_cons.mp nd).2 (by simpa using h1) (by simpa using h2) hk
theorem ud{kindOf:Str->Option NameKind}{x:Str}{v:Value}:∀ {P:List Str}{vs:List Value}{i:Nat}{m:Str->Option Value},P.Nodup->P[i]?=some x->vs[i]?=some v->kindOf x≠some .local ->
  bindC kindOf (P.zip vs) m x=some v
 | [],_,_,_,_,h,_,_=>by simp at h
 | _::_,[],_,_,_,_,h,_=>by simp at h
 | p::P,w::vs,0,m,nd,h1,h2,hk=>by
  simp at h1 h2;subst h1;subst h2
  show bindC kindOf ((p,w)::P.zip vs) m p=_
  unfold bindC
  rw[uc fun v hv=>(List.nodup_cons.mp nd).1 (vT hv).1,yN hk]
  simp
 | p::P,w::vs,i+1,m,nd,h1,h2,hk=>by
  show bindC kindOf ((p,w)::P.zip vs) m x=_
  unfold bindC
  exact ud (i:=i) (List.nodup_cons.mp nd).2 (by simpa using h1) (by simpa using h2) hk
def start(N:List Str)(vs:List V):St:=vs.map some++List.replicate (N.length - vs.length) none
def rD(CX:Df)(P:Program)(w:World)(K:W.Frag)(mg:Str->Option Value)(base:Heap)(N:List Str)(qual:Str)(scope:Scope)(f:Addr)(cd:Value)(A:Around)(outer:List Env)(s:Shared)(H:Hp)(E:XK):Cx where
 prog:=P
 w:=w
 K:=K
 mg:=mg
 base:=base
 A:=A.deeper (envOfC qual scope s.heap.objs.size f cd)
 N:=N
 s₀:=s
 H₀:=H
 env:=envOfC qual scope s.heap.objs.size f cd
 outer:=outer
 stack:=envOfC qual scope s.heap.objs.size f cd::outer
 ex:=[]
 calm:=true
 fn:=fun _=>true
 pn:=[]
 xe:=fun e s'=>wpAny (model P w) (A.deeper (envOfC qual scope s.heap.objs.size f cd)) (leaving (envOfC qual scope s.heap.objs.size f cd) e) (fun _ s''=>CX outer H s E e s'') (fun e' s''=>CX outer H s E e' s'') s'
theorem pX{sc:Scope}{n:Nat}{x:Str}(h:sc.names.lookup x=some .cell):∃c,(cellsFrom n sc.names []).lookup x=some c:=by
 have q:=W.cellsFrom_some sc.names n [] (.inl h)
 exact Option.isSome_iff_exists.mp q
theorem ub{CX:Df}{P:Program}{w:World}{K:W.Frag}{mg:Str->Option Value}{base:Heap}{N ps:List Str}{qual:Str}{scope:Scope}{f:Addr}{cd:Value}{A:Around}{outer:List Env}{s s1:Shared}{H:Hp}{E:XK}{us:List Value}{vs:List V}
  (S:dP N ps scope) (hd:A.handled=none) (e0:BA P w K mg base A outer s H) (hl:vs.length=ps.length) (r:aM vs us)
  (x:InCallC s s.heap.objs.size (bindL (envOfC qual scope s.heap.objs.size f cd).kindOf (ps.zip us) fun _=>none) (cellsFrom (s.heap.objs.size+1) scope.names []) (bindC (envOfC qual scope s.heap.objs.size f cd).kindOf (ps.zip us) fun _=>none) s1) :
  Inv (rD CX P w K mg base N qual scope f cd A outer s H E) [] (start N vs) H s1:=by
 have hpl:ps.length<=N.length:=by have:=jC List.length S.pre;rw[jV] at this;omega
 obtain⟨h1,tk,rfl,hk⟩:=x.done
 have noA:∀b:Addr,b∉(rD CX P w K mg base N qual scope f cd A outer s H E).ex:=fun b z=>absurd (show b∈([]:List Addr) from z) (by simp)
 refine⟨⟨e0.mod,S.kind,rfl,rfl,yM _,fun y z c h1 h2=>?_,fun y hy=>?_,fun y c _ h=>?_,fun _=>hd,Around.frames_deeper e0.frames,.inr ⟨rfl,rfl⟩,fun b z=>absurd z (noA b),e0.bs,e0.bsz,fun b _ _=>noA b,fun b z=>absurd z (noA b),e0.funs,e0.frf⟩,
  rfl,e0.bare,Un.kept hk,⟨_,x.toInCall.ns,fun i y v h1 h2 h3=>?_⟩,fun y c h=>⟨_,x.cell y c h⟩,e0.hok.fresh (yM _),fun y c h=>?_,fun p hp=>absurd (show p∈([]:List (Addr×Obj)) from hp) (by simp),e0.hok.kept hk,?_⟩
 ·exact name_of_addr x.apart (jZ h1) (jZ h2)
 ·have hy:scope.names.lookup y=some .cell\/scope.names.lookup y=some .free:=hy
  rcases hy with hy|hy
  ·exact pX hy
  ·exact absurd rfl (S.nofree _ (jZ hy))
 ·exact jS (x.above y c (jZ h))
 ·have hi:i < vs.length:=by
   unfold start at h2
   by_cases hi:i < vs.length
   ·exact hi
   ·rw[yT (by simpa using hi)] at h2
    rw[yX] at h2
    split at h2<;>cases h2
  have ha:vs[i]?=some v:=by
   unfold start at h2
   rw[yS (by simpa using hi),zO] at h2
   cases e:vs[i]? with
   | none=>rw[e] at h2;cases h2
   | some a=>rw[e] at h2;cases h2;rfl
  obtain⟨u,hu,rv⟩:=r.get ha
  have hp:ps[i]?=some y:=by
   rw[<- S.pre,List.getElem?_take_of_lt (by omega)];exact h1
  have ndP:ps.Nodup:=by rw[<- S.pre];exact S.nd.sublist (List.take_sublist _ _)
  refine⟨u,rv,?_⟩
  rcases S.par y (qB hp) with k|k
  ·exact .inl ⟨k,td ndP hp hu k⟩
  ·obtain⟨c,e⟩:=pX (n:=s.heap.objs.size+1) k
   refine .inr ⟨.inl k,c,e,?_⟩
   have q:=x.cell y c e
   rw[ud ndP hp hu (by show scope.names.lookup y≠_;rw[k];decide)] at q
   exact q
 ·exact e0.hok.fresh (jS (x.above y c (jZ h)))
 ·unfold start
  show _=N.length
  rw[zN,zD,xM]
  omega
theorem FB{CX:Df}{P:Program}{w:World}{K:W.Frag}{mg:Str->Option Value}{base:Heap}{k:Nat}{f:Addr}{name qual:Str}{params:Arguments}{body:List Stmt}{scope:Scope}{dV kV doc pm cdv ct oc:Value}{an od:Option Addr}
  {osl:Array (Option Value)}{N ps:List Str}{sp:Sp}(lk:K.lookup f=some ⟨oc,od,.func (W.fnOf name qual params body scope dV kV doc pm an cdv ct),osl⟩) (hcd:W.codeIn K cdv qual=true) (S:dP N ps scope)
  (len:∀vs H Q E,sp vs H Q E->vs.length=ps.length)
  (hbody:∀ (A:Around) (outer:List Env) (s:Shared) (H:Hp) (vs:List V) (Q:VK) (E:XK),eu k (A.deeper (envOfC qual scope s.heap.objs.size f cdv))->sp vs H Q E ->
   ∃t,u3 (rD CX P w K mg base N qual scope f cdv A outer s H E) body t/\t { nx:=fun _ H'=>Q .non H',rt:=Q } (start N vs) H) :
  oY P w K mg base CX (k+1) f (W.fnOf name qual params body scope dV kV doc pm an cdv ct) ps sp:=by
 refine⟨len,fun A outer s H args us vs Q E hr e0 hb r hsp=>?_⟩
 have hl:=len _ _ _ _ hsp
 have KX:K.In s.heap:=e0.mod.kin.keeps fun b o e=>(e0.bs b o e).1
 have lim:s.heap.NoLimit:=e0.mod.nolimit.keeps fun b o e=>(e0.bs b o e).1
 have hkind:∀y∈ps.zip us,scope.names.lookup y.1=some .local \/ (scope.names.lookup y.1=some .cell/\((cellsFrom (s.heap.objs.size+1) scope.names []).lookup y.1).isSome=true):=fun ⟨n,v⟩ hy=>by
  rcases S.par n (vT hy).1 with q|q
  ·exact .inl q
  ·exact .inr ⟨q,W.cellsFrom_some _ _ _ (.inl q)⟩
 refine codeAny_call_function hr.depth (KX _ _ lk) rfl S.co S.gen rfl (W.codeRec_of KX hcd) (hb _ _ _ _ ?_)
 refine wpAny_newFunctionEnv_cells S.kind hkind fun env he s1 x=>?_
 subst he
 refine⟨lim.keeps x.toInCall.keep,codeAny_func ?_⟩
 obtain⟨t,ht,hq⟩:=hbody A outer s H vs Q E (hr.deeper _) hsp
 have I:Inv (rD CX P w K mg base N qual scope f cdv A outer s H E) [] (start N vs) H s1:=ub S hr.hd e0 hl r x
 refine xA (ht [] s1 (start N vs) H _ I hq) (fun fl s' hs=>?_) fun e s' hs=>hs
 have fin:∀ {σ':St}{H':Hp}{v:V}{u:Value},Inv (rD CX P w K mg base N qual scope f cdv A outer s H E) [] σ' H' s'->RelV v u->Q v H'->CE outer P w H s Q u s' :=
  fun {σ' H' v u} J rv q=>⟨v,H',J.os,J.bare,J.base,J.hok,rv,q⟩
 cases fl with
 | ret u =>
  obtain⟨v,σ',H',J,rv,q⟩:=hs
  exact fin J rv q
 | next =>
  obtain⟨σ',H',J,q⟩:=hs
  exact fin (v:=V.non) (u:=Value.none) J rfl q
 | brk =>
  obtain⟨_,_,_,q⟩:=hs
  exact False.elim q
 | cont =>
  obtain⟨_,_,_,q⟩:=hs
  exact False.elim q
section
variable {X:Cx}{x:Str}{p pos:Pos}{e:Expr}{es:List Expr}{t:TA}{id T:String}{r:List V->Hp->VK->Prop}
def OH(r:List V->Hp->VK->Prop)(t:TA):TE:=fun σ H Q=>t σ H fun vs H1=>r vs H1 Q
theorem m6(hc:fJ X (.builtin id) r)(hg:Gl X x)(hm:X.mg x=none)(hv:bootBuiltins x=some (.builtin id))(ha:PA X (e::es) t)(hn:x≠"__name__":=by decide)(hdb:(x == ("__debug__":Str))=false:=by decide)
  (he:starEach (e::es) X.env=(false,eval e X.env)::starEach es X.env:=by rfl) (hpl:(backTo pos (starEach es X.env)).any (·.1)=false:=by rfl):PE X (.Call (.Name x p) (e::es) [] pos) (OH r t):=by
 intro pins s σ H Q I h
 refine qY (gn I hg hm hv ?_ hn hdb)
 exact PyProof.Rows.callWith_builtin1 (cw (ha pos pins s σ H _ I h) fun us s1 ⟨vs,H1,I1,r1,q1⟩=>hc pins s1 σ H1 vs us Q I1 r1 q1) he hpl
theorem nQ(hc:fJ X (.type T) r)(hg:Gl X x)(hm:X.mg x=none)(hv:bootBuiltins x=some (.type T))(ha:PA X (e::es) t)(hn:x≠"__name__":=by decide)(hdb:(x == ("__debug__":Str))=false:=by decide)
  (he:starEach (e::es) X.env=(false,eval e X.env)::starEach es X.env:=by rfl) (hpl:(backTo pos (starEach es X.env)).any (·.1)=false:=by rfl):PE X (.Call (.Name x p) (e::es) [] pos) (OH r t):=by
 intro pins s σ H Q I h
 refine qY (gn I hg hm hv ?_ hn hdb)
 exact qS (cw (ha pos pins s σ H _ I h) fun us s1 ⟨vs,H1,I1,r1,q1⟩=>hc pins s1 σ H1 vs us Q I1 r1 q1) he hpl
end
end L2
namespace HT
open PySem PyProof.Rows
def lexLt:List Int->List Int->Bool
 | [],[]=>false
 | [],_::_=>true
 | _::_,[]=>false
 | x::xs,y::ys=>if x=y then lexLt xs ys else decide (x < y)
theorem cL(x y:Int)(xs ys:List Int):lexLt (x::xs) (y::ys)=if x=y then lexLt xs ys else decide (x < y):=rfl
theorem sD:lexLt [] []=false:=rfl
theorem qc(y:Int)(ys:List Int):lexLt [] (y::ys)=true:=rfl
theorem qk(x:Int)(xs:List Int):lexLt (x::xs) []=false:=rfl
theorem GN(A:Around)(s:Shared)(a:Int)(t:Tok)(c:Int)(u:Tok):∃e,SeqAt.EqAt A s (.int a t) (.int c u) e/\(e=true↔a=c) :=
 ⟨(a == c),SeqAt.EqAt.int_int a t c u,by simp⟩
section
open PySem.SeqAt
open PySem.AutoSeq1 (wpAny_loadPart')
open PySem.MeetsSeq PySem.MeetsSeq2 PySem.MeetsSeq3
end
section
variable {prog:Program}{w:World}{A:Around}{E:Value->Shared->Prop}{s:Shared}
theorem JK{t b:Addr}{vs ws:List Value}{Q:Value->Shared->Prop}(ht:IsTup s.heap t vs.toArray)(hb:IsTup s.heap b ws.toArray)(hv:vs≠[])
  (h1:ws=[]->Q (.ref t) s) (h2:ws≠[]->Q (.ref s.heap.objs.size) { s with heap:=s.heap.push { cls:=.type "tuple",data:=.seq (vs++ws).toArray } })
  (hsz:vs.length+ws.length<=sizeLine):wpAny (model prog w) A (binaryOp .Add (.ref t) (.ref b)) Q E s:=by
 obtain⟨⟨cls,dd,data,sl⟩,ho,hc,n,hd⟩:=id ht
 obtain⟨⟨cls2,dd2,data2,sl2⟩,ho2,hc2,n2,hd2⟩:=id hb
 simp only at hc hd hc2 hd2
 subst hc hd hc2 hd2
 have e:vs.toArray++ws.toArray=(vs++ws).toArray:=by simp
 by_cases hw:ws=[]
 ·exact wU ⟨_,ho,rfl⟩ ⟨_,ho2,rfl⟩ noFill_tuple_add seq_tuple_add vO vJ (vG _ _)
   (tuple_addW1 t b vs.toArray ws.toArray n n2 dd dd2 sl sl2 (by simpa using hv) (by simp[hw])) ⟨ho,ho2,h1 hw⟩
 ·refine wU ⟨_,ho,rfl⟩ ⟨_,ho2,rfl⟩ noFill_tuple_add seq_tuple_add vO vJ (vG _ _)
   (tuple_addW2 t b vs.toArray ws.toArray n n2 dd dd2 sl sl2 (by simpa using hv) (by simpa using hw) (by rw[zH,zH];exact hsz)) ⟨ho,ho2,?_⟩
  rw[e]
  exact h2 hw
def dX(n d:Nat):Option Int->Nat
 | none=>d
 | some v=>if v < 0 then (v+(n:Int)).toNat else min v.toNat n
theorem xy(n d:Nat):dX n d none=d:=rfl
theorem CW(n d k:Nat):dX n d (some (k:Int))=min k n:=by
 show (if (k:Int) < 0 then ((k:Int)+(n:Int)).toNat else min (k:Int).toNat n)=min k n
 rw[yN (by omega),yF]
theorem Lj(n d:Nat)(hd:d<=n)(o:Option Int):dX n d o<=n:=by
 cases o with
 | none=>exact hd
 | some v =>
  show (if v < 0 then (v+(n:Int)).toNat else min v.toNat n)<=n
  by_cases hv:v < 0
  ·rw[yL hv];omega
  ·rw[yN hv];exact Nat.min_le_right _ _
theorem B5(v:Int)(n d:Nat):(if v < 0 then max (v+(n:Int)) 0 else min v (n:Int))=((dX n d (some v):Nat):Int):=by
 show (if v < 0 then max (v+(n:Int)) 0 else min v (n:Int))=(((if v < 0 then (v+(n:Int)).toNat else min v.toNat n):Nat):Int)
 by_cases hv:v < 0
 ·simp only[yL hv];omega
 ·simp only[yN hv];omega
theorem BC(lo hi:Option Int)(n:Nat):Builtin.Slice.sliceAdjust lo hi 1 (n:Int)=(((dX n 0 lo:Nat):Int),((dX n n hi:Nat):Int)):=by
 have h1:¬ ((1:Int) < 0):=by omega
 unfold Builtin.Slice.sliceAdjust
 simp only[h1,qP]
 refine Prod.ext ?_ ?_
 ·cases lo with
  | none=>rfl
  | some v=>exact B5 v n 0
 ·cases hi with
  | none=>rfl
  | some v=>exact B5 v n n
theorem BN(i j:Nat):Builtin.Slice.slicePlaces (i:Int) (j:Int) 1=j - i:=by
 unfold Builtin.Slice.slicePlaces
 have h1:(1:Int) > 0:=by omega
 simp only[h1,xH,Int.ediv_one]
 split<;>omega
theorem qx{v:Value}{o:Option Int}{Q:Option Int->Shared->Prop}(p:IsPart v o)(h:Q o s):wpAny (model prog w) A (Builtin.Slice.slicePartIndex v) Q E s:=by
 cases p with
 | none=>exact slicePart_none h
 | int i t=>exact slicePart_int h
theorem iA{sl:Addr}{vl vu:Value}{lo hi:Option Int}{n:Nat}{Q:Int×Int×Nat->Shared->Prop}(hs:s.heap.IsSliceOf sl vl vu .none)(pl:IsPart vl lo)(pu:IsPart vu hi)
  (h:Q (((dX n 0 lo:Nat):Int),1,dX n n hi - dX n 0 lo) s):wpAny (model prog w) A (Builtin.Slice.sliceApplied (.ref sl) (pure (n:Int))) Q E s:=by
 obtain⟨os,hos,hcs,hds⟩:=id hs
 unfold Builtin.Slice.sliceApplied Builtin.Slice.sliceFields
 refine zU (zU (qT hos hds (x:=vl) rfl (zU (qT hos hds (x:=vu) rfl (zU (qT hos hds (x:=.none) rfl (zV ?_)))))))
 refine zU (slicePart_none ?_)
 show wpAny _ _ (if ((1:Int) == 0)=true then _ else _) _ _ s
 rw[yN (by decide)]
 refine zU (qx pl (zU (qx pu (zU (zV ?_)))))
 show wpAny _ _ (match Builtin.Slice.sliceAdjust lo hi 1 (n:Int) with|(lo,hi)=>pure (lo,(1:Int),Builtin.Slice.slicePlaces lo hi 1)) _ _ s
 rw[BC lo hi n]
 show wpAny _ _ (pure (((dX n 0 lo:Nat):Int),(1:Int),Builtin.Slice.slicePlaces ((dX n 0 lo:Nat):Int) ((dX n n hi:Nat):Int) 1)) _ _ s
 rw[BN]
 exact zV h
theorem EA(xs:Array Value)(i k:Nat):((List.range k).filterMap fun (m:Nat)=>xs[((i:Int)+(m:Int) * 1).toNat]?).toArray=((xs.toList.drop i).take k).toArray:=by
 have e:(fun (m:Nat)=>xs[((i:Int)+(m:Int) * 1).toNat]?)=fun m=>xs[i+m]?:=by
  funext m
  have:((i:Int)+(m:Int) * 1).toNat=i+m:=by omega
  rw[this]
 rw[e]
 have:=pick_run xs i k
 rw[List.filterMap_map] at this
 have e2:((fun x=>xs[x]?) ∘ fun x=>i+x)=fun m=>xs[i+m]?:=rfl
 rw[e2] at this
 rw[this]
theorem m7{t sl:Addr}{items:Array Value}{vl vu:Value}{lo hi:Option Int}{Q:Value->Shared->Prop}(ht:IsTup s.heap t items)(hs:s.heap.IsSliceOf sl vl vu .none)(pl:IsPart vl lo)(pu:IsPart vu hi)
  (hw:¬ (dX items.size 0 lo=0/\dX items.size items.size hi=items.size))
  (h:Q (.ref s.heap.objs.size) { s with heap:=s.heap.push { cls:=.type "tuple",data:=.seq ((items.toList.drop (dX items.size 0 lo)).take (dX items.size items.size hi - dX items.size 0 lo)).toArray } })
  (hsz:items.size<=sizeLine):wpAny (model prog w) A (getItem (.ref t) (.ref sl)) Q E s:=by
 have htake:sizeOk (.seq ((items.toList.drop (dX items.size 0 lo)).take (dX items.size items.size hi - dX items.size 0 lo)).toArray):=by
  show ((items.toList.drop (dX items.size 0 lo)).take (dX items.size items.size hi - dX items.size 0 lo)).toArray.size<=sizeLine
  rw[zH,jV,qH,wG]
  omega
 have hj:dX items.size items.size hi<=items.size:=Lj _ _ (yM _) hi
 obtain⟨os,hos,hcs,hds⟩:=id hs
 have hTs:s.TypeIs (.ref sl) "slice":=⟨os,hos,hcs⟩
 unfold getItem
 try with_reducible refine xX ?_
 first|refine zU (zV ?_)|skip
 refine zU (wpAny_sequenceKey ht.typeIs (by decide) ?_)
 refine zU (qC (name:=Str.ofString "__getitem__") ht.typeIs jF
  (qV jF ht.typeIs entry_tuple_getitem ?_ (args_tuple_getitem _ _)))
 show wpAny _ _ (Builtin.Tuple.tupleItemsOf (.ref t) >>= _) _ _ s
 refine zU (tupleItemsOf_ ht ?_)
 refine zU (wQ hTs ?_)
 rw[yL (by decide)]
 refine zU (iA hs pl pu ?_)
 have hno:¬ ((((dX items.size 0 lo:Nat):Int) == 0&&(1:Int) == 1&&(dX items.size items.size hi - dX items.size 0 lo) == items.size)=true):=by
  intro q
  rw[zF,zF] at q
  have q1:((dX items.size 0 lo:Nat):Int)=0:=eq_of_beq q.1.1
  have q2:dX items.size items.size hi - dX items.size 0 lo=items.size:=eq_of_beq q.2
  exact hw ⟨by omega,by omega⟩
 show wpAny _ _ (if (((dX items.size 0 lo:Nat):Int) == 0&&(1:Int) == 1&&(dX items.size items.size hi - dX items.size 0 lo) == items.size)=true then _ else _) _ _ s
 rw[yN hno,EA]
 first
  | exact zU (m:=Builtin.Tuple.tupleExact _) (qL (zV ⟨_,rfl,zV h⟩) htake)
  | exact zU (m:=Builtin.Tuple.tupleExact _) (qL (zU (zV (zV ⟨_,rfl,zV h⟩))) htake)
  | exact zU (zU (m:=Builtin.Tuple.tupleExact _) (qL (zV (zV ⟨_,rfl,zV h⟩)) htake))
  | exact zU (zU (m:=Builtin.Tuple.tupleExact _) (qL (zV ⟨_,rfl,zV h⟩) htake))
end
end HT
namespace L2
open PySem PySem.Spec PyProof.Rows
abbrev TO:=St->Hp->(Option Int->Hp->Prop)->Prop
def PO(X:Cx)(e:Option Expr)(t:TO):Prop :=
 ∀ (pins:List (Addr×Obj)) (s:Shared) (σ:St) (H:Hp) (Q:Option Int->Hp->Prop),Inv X pins σ H s->t σ H Q ->
  wpAny (model X.prog X.w) X.A (evalPart e X.env) (fun u s'=>∃o H',Inv X pins σ H' s'/\IsPart u o/\Q o H') X.xe s
def Ja:TO:=fun _ H Q=>Q none H
def N4(t:TE):TO:=fun σ H Q=>t σ H fun x H1=>∃i,x=.int i/\Q (some i) H1
theorem intsAre_of{ns:List Int}:∀ {us:List Value},aM (ns.map V.int) us->IntsAre us ns:=by
 induction ns with
 | nil=>intro us r;rw[yU] at r;cases r;exact .nil
 | cons n ns ih =>
  intro us r
  rw[zI] at r
  cases r with
  | cons r1 r2 =>
   obtain⟨t,e⟩:=r1
   subst e
   exact .cons n t (ih r2)
section
variable {X:Cx}{e:Expr}{te:TE}{lo hi:Option Expr}{tl th:TO}{pos p2:Pos}
theorem Ju:PO X none Ja:=by
 intro pins s σ H Q I h
 rw[evalPart_none]
 exact zV ⟨none,H,I,.none,h⟩
theorem JX(h:PE X e te):PO X (some e) (N4 te):=by
 intro pins s σ H Q I hw
 rw[evalPart_some]
 refine cw (h pins s σ H _ I hw) fun u s1 ⟨x,H1,I1,r1,q1⟩=>?_
 obtain⟨i,rfl,q⟩:=q1
 obtain⟨t,rfl⟩:=r1
 exact⟨some i,H1,I1,.int i t,q⟩
def Kp(X:Cx)(r:V->Option Int->Option Int->Hp->VK->Prop):Prop :=
 ∀ (pins:List (Addr×Obj)) (s:Shared) (σ:St) (H:Hp) (x:V) (v vl vu:Value) (lo hi:Option Int) (sl:Addr) (Q:VK),Inv X pins σ H s->RelV x v->s.heap.IsSliceOf sl vl vu .none->IsPart vl lo->IsPart vu hi->r x lo hi H Q ->
  ∃T id,typeLookup (.type T) "__getitem__"=pure (some (.builtin id))/\s.TypeIs v T/\wpAny (model X.prog X.w) X.A (getItem v (.ref sl)) (EP X pins σ Q) X.xe s
theorem Kp.or{r r':V->Option Int->Option Int->Hp->VK->Prop}(h:Kp X r)(h':Kp X r'):Kp X (fun x lo hi H Q=>r x lo hi H Q\/r' x lo hi H Q):=by
 intro pins s σ H x v vl vu lo hi sl Q I rx hs pl pu q
 rcases q with q|q
 ·exact h pins s σ H x v vl vu lo hi sl Q I rx hs pl pu q
 ·exact h' pins s σ H x v vl vu lo hi sl Q I rx hs pl pu q
def QD(r:V->Option Int->Option Int->Hp->VK->Prop)(te:TE)(tl th:TO):TE:=fun σ H Q=>te σ H fun x H1=>tl σ H1 fun l H2=>th σ H2 fun u H3=>r x l u H3 Q
theorem Fs{r:V->Option Int->Option Int->Hp->VK->Prop}(hr:Kp X r)(he:PE X e te)(hl:PO X lo tl)(hu:PO X hi th):PE X (.Subscript e (.Slice lo hi none p2) pos) (QD r te tl th):=by
 intro pins s σ H Q I h
 refine Subscript_ (cw (he pins s σ H _ I h) fun v s1 ⟨x,H1,I1,r1,q1⟩=>?_)
 refine wpAny_Slice (cw (hl pins s1 σ H1 _ I1 q1) fun vl s2 ⟨l,H2,I2,pl,q2⟩=>cw (hu pins s2 σ H2 _ I2 q2) fun vu s3 ⟨u,H3,I3,pu,q3⟩=>?_)
 rw[evalPart_none]
 refine zV ?_
 have I4:Inv X pins σ H3 { s3 with heap:=s3.heap.push { cls:=.type "slice",data:=.fields #[vl,vu,.none] } }:=I3.kept (t':=s3.toks) fun b ob q=>zT _ q
 obtain⟨T,id,hT,ht,hg⟩:=hr pins { s3 with heap:=s3.heap.push { cls:=.type "slice",data:=.fields #[vl,vu,.none] } } σ H3 x v vl vu l u s3.heap.objs.size Q I4 r1 (Heap.IsSliceOf.new ..) pl pu q3
 show wpAny (model X.prog X.w) X.A (subscriptTail e (.Slice lo hi none p2) v (.ref s3.heap.objs.size)) (EP X pins σ Q) X.xe { s3 with heap:=s3.heap.push { cls:=.type "slice",data:=.fields #[vl,vu,.none] } }
 exact tail_any (ops:=[.ref s3.heap.objs.size,v]) ht hT hg (by with_unfolding_all rfl)
def IC(xs:List V)(lo hi:Option Int):List V:=(xs.drop (HT.dX xs.length 0 lo)).take (HT.dX xs.length xs.length hi - HT.dX xs.length 0 lo)
theorem xu(xs:List V)(lo hi:Option Int):(IC xs lo hi).length<=xs.length:=by
 unfold IC
 rw[jV,qH]
 omega
def Ph(K:W.Frag):V->Option Int->Option Int->Hp->VK->Prop:=fun x lo hi H Q=>∃a xs,x=.ref a/\iI K H a xs /\
 ¬ (HT.dX xs.length 0 lo=0/\HT.dX xs.length xs.length hi=xs.length)/\∀p,H p=none->Q (.ref p) (upd H p (.tup (IC xs lo hi)))
theorem Mh:Kp X (Ph X.K):=by
 intro pins s σ H x v vl vu lo hi sl Q I rx hs pl pu h
 obtain⟨a,xs,rfl,hx,hw,q⟩:=h
 cases rx
 obtain⟨its,r,ht,hz⟩:=I.tuple hx
 have hlen:its.toArray.size=xs.length:=by rw[zH];exact r.length.symm
 refine⟨"tuple",_,PyProof.Rows.slot_tuple_getitem.lookup,ht.typeIs,?_⟩
 refine HT.m7 ht hs pl pu (by rw[hlen];exact hw) ?_ (by rw[hlen];exact hz)
 rw[hlen]
 refine⟨.ref s.heap.objs.size,_,I.laid (t':=s.toks) (o:=.tup (IC xs lo hi)) (fun b ob q=>zT _ q) (yM _) ?_,rfl,q _ (I.hok.fresh (yM _))⟩
 exact⟨yC (xu xs lo hi) hz,_,(r.drop (HT.dX xs.length 0 lo)).take (HT.dX xs.length xs.length hi - HT.dX xs.length 0 lo),pC.new _ _⟩
def Nk(K:W.Frag):R2:=fun x y H Q=>∃a b xs ys,x=.ref a/\y=.ref b/\iI K H a xs/\iI K H b ys/\xs≠[]/\xs.length+ys.length<=sizeLine /\
 (ys=[]->Q (.ref a) H)/\(ys≠[]->∀p,H p=none->Q (.ref p) (upd H p (.tup (xs++ys))))
theorem aM.nil_iff{xs:List V}{us:List Value}(r:aM xs us):us=[]↔xs=[]:=by
 cases r with
 | nil=>simp
 | cons _ _=>simp
theorem IX:gY X (binaryOp .Add) (Nk X.K):=by
 intro pins s σ H x y v u Q I rx ry h
 obtain⟨a,b,xs,ys,rfl,rfl,ha,hb,hx,hz,q1,q2⟩:=h
 cases rx
 cases ry
 obtain⟨its,r1,p1,_⟩:=I.tuple ha
 obtain⟨its2,r2,p2,_⟩:=I.tuple hb
 refine HT.JK p1 p2 (fun z=>hx (r1.nil_iff.mp z)) (fun z=>⟨.ref a,H,I,rfl,q1 (r2.nil_iff.mp z)⟩) (fun z=>?_) (by rw[<- r1.length,<- r2.length];exact hz)
 refine⟨.ref s.heap.objs.size,_,I.laid (t':=s.toks) (o:=.tup (xs++ys)) (fun b ob q=>zT _ q) (yM _) ?_,rfl,q2 (fun w=>z (r2.nil_iff.mpr w)) _ (I.hok.fresh (yM _))⟩
 exact⟨by rw[zN];exact hz,_,r1.append r2,pC.new _ _⟩
end
def HH(n:Nat)(i:Int):Option Nat:=if 0<=i then (if i < n then some i.toNat else none) else if -(n:Int)<=i then some (i+n).toNat else none
def uo{α:Type}(xs:List α)(i:Int):Option α:=(HH xs.length i).bind fun j=>xs[j]?
theorem B9{n:Nat}{i:Int}{j:Nat}(h:HH n i=some j):seqIndex? i n=some j/\j < n/\-(n:Int)<=i/\i < n:=by
 unfold HH at h
 by_cases h0:0<=i
 ·rw[yL h0] at h
  by_cases h1:i < n
  ·rw[yL h1] at h
   have e:i.toNat=j:=xD h
   exact⟨by rw[seqIndex_of h0 h1,e],by omega,by omega,h1⟩
  ·rw[yN h1] at h;cases h
 ·rw[yN h0] at h
  by_cases h1:-(n:Int)<=i
  ·rw[yL h1] at h
   have e:(i+n).toNat=j:=xD h
   exact⟨by rw[seqIndex_neg (by omega) h1,e],by omega,h1,by omega⟩
  ·rw[yN h1] at h;cases h
theorem uy{α:Type}{xs:List α}{i:Int}{v:α}(h:uo xs i=some v):∃j,seqIndex? i xs.length=some j/\xs[j]?=some v/\j < xs.length/\-(xs.length:Int)<=i/\i < xs.length:=by
 unfold uo at h
 cases e:HH xs.length i with
 | none=>rw[e] at h;cases h
 | some j =>
  rw[e] at h
  obtain⟨h1,h2,h3,h4⟩:=B9 e
  exact⟨j,h1,h,h2,h3,h4⟩
theorem uG{α:Type}{xs:List α}{j:Nat}{v:α}(h:xs[j]?=some v):uo xs (j:Int)=some v:=by
 have hj:j < xs.length:=(List.getElem?_eq_some_iff.mp h).1
 have e:HH xs.length (j:Int)=some j:=by
  unfold HH
  rw[yL (by omega),yL (by omega)];simp
 unfold uo;rw[e];exact h
def uN(b:Expr):Prop:=∀o i,subscripted b false o i=operate [o,i] (getItem o i)
def HP(X:Cx)(r:R2):Prop :=
 ∀ (value slice:Expr) (pins:List (Addr×Obj)) (s:Shared) (σ:St) (H:Hp) (x y:V) (v u:Value) (Q:VK),Inv X pins σ H s->RelV x v->RelV y u->r x y H Q ->
  subscripted slice false v u=operate [v,u] (getItem v u)->wpAny (model X.prog X.w) X.A (subscriptTail value slice v u) (EP X pins σ Q) X.xe s
def Ql(X:Cx)(id:String)(r:V->List V->Hp->VK->Prop):Prop :=
 ∀ (pins:List (Addr×Obj)) (s:Shared) (σ:St) (H:Hp) (x:V) (xs:List V) (v:Value) (us:List Value) (Q:VK),Inv X pins σ H s->RelV x v->aM xs us->r x xs H Q ->
  wpAny (model X.prog X.w) X.A (call (.builtin id) (v::us)) (EP X pins σ Q) X.xe s
section
variable {X:Cx}{a b:Expr}{ta tb:TE}{pos:Pos}
theorem HP.or{r r':R2}(h:HP X r)(h':HP X r'):HP X (fun x y H Q=>r x y H Q\/r' x y H Q):=by
 intro value slice pins s σ H x y v u Q I rx ry q hs
 rcases q with q|q
 ·exact h value slice pins s σ H x y v u Q I rx ry q hs
 ·exact h' value slice pins s σ H x y v u Q I rx ry q hs
theorem ND{r:R2}(hr:HP X r)(ha:PE X a ta)(hb:PE X b tb)(hs:uN b):PE X (.Subscript a b pos) (M8 r ta tb):=by
 intro pins s σ H Q I h
 exact Subscript_ (K1 ha hb I h fun v u s2 x y H2 I2 rx ry q=>hr a b pins s2 σ H2 x y v u Q I2 rx ry q (hs _ _))
def Nn(K:W.Frag):R2:=fun x y H Q=>∃p xs i v,x=.ref p/\y=.int i/\hZ K H p xs/\uo xs i=some v/\Q v H
def NC(K:W.Frag):R2:=fun x y H Q=>∃p xs i v,x=.ref p/\y=.int i/\iI K H p xs/\uo xs i=some v/\Q v H
def NG:R2:=fun x y H Q=>∃z i c,x=.str z/\y=.int i/\z.length<=sizeLine/\uo z.cps.toList i=some c/\Q (.str ⟨#[c]⟩) H
theorem JB:HP X (Nn X.K):=by
 intro value slice pins s σ H x y v u Q I rx ry h hs
 obtain⟨p,xs,i,z,rfl,rfl,hq,he,q⟩:=h
 cases rx
 obtain⟨t,rfl⟩:=ry
 obtain⟨its,r,pl,hz⟩:=I.list hq
 obtain⟨j,h1,h2,h3,h4,h5⟩:=uy he
 obtain⟨w,ew,rw'⟩:=r.get h2
 have hl:=r.length
 have hn:=pN
 have fin:EP X pins σ Q w s:=⟨z,H,I,rw',q⟩
 by_cases h0:0<=i
 ·have hj:i.toNat=j:=by
   rw[seqIndex_of h0 h5] at h1
   exact xD h1
  exact item_listR pl.isList h0 (by omega) (by rw[hj];simpa using ew) fin hs
 ·have hj:(i+(its.toArray.size:Int)).toNat=j:=by
   rw[seqIndex_neg (by omega) h4] at h1
   rw[zH,<- hl]
   exact xD h1
  exact subscriptTail_builtinR (x:=w) pl.isList.typeIs slot_list_getitem.lookup
   (wpAny_getItem_list_neg (Q:=fun r s'=>r=w/\EP X pins σ Q r s') pl.isList (by omega) (by rw[zH]<;>omega) (by omega) (by rw[hj];simpa using ew) ⟨rfl,fin⟩) hs
theorem Bw:HP X (NC X.K):=by
 intro value slice pins s σ H x y v u Q I rx ry h hs
 obtain⟨p,xs,i,z,rfl,rfl,hq,he,q⟩:=h
 cases rx
 obtain⟨t,rfl⟩:=ry
 obtain⟨its,r,pl,hz⟩:=I.tuple hq
 obtain⟨j,h1,h2,h3,h4,h5⟩:=uy he
 obtain⟨w,ew,rw'⟩:=r.get h2
 have hl:=r.length
 have hn:=pN
 have fin:EP X pins σ Q w s:=⟨z,H,I,rw',q⟩
 exact subscriptTail_builtinR (x:=w) pl.typeIs slot_tuple_getitem.lookup
  (getItem_tuple (j:=j) (Q:=fun r s'=>r=w/\EP X pins σ Q r s') pl (by omega) (by omega) (by rw[zH,<- hl];exact h1) (by simpa using ew) ⟨rfl,fin⟩) hs
theorem Lh:HP X NG:=by
 intro value slice pins s σ H x y v u Q I rx ry h hs
 obtain⟨z,i,c,rfl,rfl,hz,he,q⟩:=h
 obtain⟨t,rfl⟩:=rx
 obtain⟨t',rfl⟩:=ry
 obtain⟨j,h1,h2,h3,h4,h5⟩:=uy he
 have hl:z.cps.toList.length=z.length:=by simp[Str.length]
 rw[hl] at h1 h4 h5
 have hn:=pN
 exact tail_any (typeIs_str s z t) slot_str_getitem.lookup (getItem_str (c:=c) (by
  have e1:decide (i < -(2 ^ 63:Int))=false:=zY (by omega)
  have e2:decide (i >= 2 ^ 63)=false:=zY (by omega)
  rw[e1,e2,Bool.or_false]) (by rw[h1];simpa using h2) ⟨.str ⟨#[c]⟩,H,I.tok _,⟨_,rfl⟩,q⟩) hs
def Qs(K:W.Frag):R2:=fun x y H Q=>Nn K x y H Q\/NC K x y H Q\/NG x y H Q
theorem Mg:HP X (Qs X.K):=JB.or (Bw.or Lh)
theorem A3(its:List Value)(n j:Nat)(u:Value):Obj.mapSeq (·.setIfInBounds j u) { cls:=.type "list",data:=.seq its.toArray n }={ cls:=.type "list",data:=.seq (its.set j u).toArray n }:=by
 simp[Obj.mapSeq]
theorem Inv.lst{pins:List (Addr×Obj)}{σ:St}{H:Hp}{s:Shared}{p:Addr}{xs:List V}(I:Inv X pins σ H s)(h:H p=some (.lst xs)) :
  ∃ (its:List Value) (n:Nat),aM xs its/\s.heap.get? p=some { cls:=.type "list",data:=.seq its.toArray n }/\xs.length<=sizeLine:=by
 obtain⟨z,its,n,r,e⟩:=I.hok p _ h
 exact⟨its,n,r,e,z⟩
theorem Inv.lstUpd{pins:List (Addr×Obj)}{σ:St}{H:Hp}{s:Shared}{p:Addr}{xs ys:List V}{its its':List Value}{n n':Nat}{f:Obj->Obj}(I:Inv X pins σ H s)(h:H p=some (.lst xs))
  (ho:s.heap.get? p=some { cls:=.type "list",data:=.seq its.toArray n }) (hf:f { cls:=.type "list",data:=.seq its.toArray n }={ cls:=.type "list",data:=.seq its'.toArray n' }) (r:aM ys its') (hz:ys.length<=sizeLine) (t:Nat) :
  Inv X pins σ (upd H p (.lst ys)) { s with heap:=s.heap.update p f,toks:=t }:=by
 have e:(s.heap.update p f).get? p=some { cls:=.type "list",data:=.seq its'.toArray n' }:=by
  rw[Heap.get?_update_self f ho (by rw[hf]<;>rfl),hf]
 refine I.write (x:=p) (e:=p) (by rw[h];trivial) (.inl rfl) (fun b u hb q=>(xN _ _ (jM hb)).trans q) ⟨_,e⟩ ?_
 exact⟨hz,its',n',r,e⟩
def Nb:V->V->V->Hp->(Hp->Prop)->Prop:=fun o i v H Q=>∃p xs k j,o=.ref p/\i=.int k/\H p=some (.lst xs)/\HH xs.length k=some j/\Q (upd H p (.lst (xs.set j v)))
theorem set_list:Og X Nb:=by
 intro pins s σ H o i v ov iv u Q I ro ri rv h
 obtain⟨p,xs,k,j,rfl,rfl,hp,hj,q⟩:=h
 cases ro
 obtain⟨t,rfl⟩:=ri
 obtain⟨its,n,r,ho,hz⟩:=I.lst hp
 obtain⟨h1,h2,h3,h4⟩:=B9 hj
 have hl:=r.length
 have hn:=pN
 have I':Inv X pins σ (upd H p (.lst (xs.set j v))) { s with heap:=s.heap.update p (Obj.mapSeq (·.setIfInBounds j u)) } :=
  I.lstUpd hp ho (A3 its n j u) (r.set rv j) (by rw[yB];exact hz) s.toks
 by_cases h0:0<=k
 ·have hk:k.toNat=j:=by
   rw[seqIndex_of h0 h4] at h1
   exact xD h1
  exact W.ki_setAt ho h0 (by omega) (by rw[zH,<- hl];exact h4) (by rw[hk];exact⟨_,I',q⟩)
 ·have hk:(k+(its.toArray.size:Int)).toNat=j:=by
   rw[seqIndex_neg (by omega) h3] at h1
   rw[zH,<- hl]
   exact xD h1
  exact W.ki_setBack ho (by omega) (by rw[zH,<- hl];exact h3) (by omega) (by rw[hk];exact⟨_,I',q⟩)
theorem wu:fJ X (.builtin "len") (fun xs H Q=>∃p ys,xs=[.ref p]/\(hZ X.K H p ys\/iI X.K H p ys)/\Q (.int ys.length) H):=by
 intro pins s σ H xs us Q I r h
 obtain⟨p,ys,rfl,hq,q⟩:=h
 obtain⟨u,rfl,rx⟩:=vals1 r
 cases rx
 have hn:=pN
 rcases hq with hq|hq
 ·obtain⟨its,r',pl,hz⟩:=I.list hq
  have hlen:=r'.length
  exact Calls.call_len_list pl.isList (by simp only[zH]<;>omega) ⟨.int ys.length,H,I.tok _,⟨s.toks+1,by rw[zH,hlen]⟩,q⟩
 ·obtain⟨its,r',pl,hz⟩:=I.tuple hq
  have hlen:=r'.length
  exact len_tuple pl (by simp only[zH]<;>omega) ⟨.int ys.length,H,I.tok _,⟨s.toks+1,by rw[zH,hlen]⟩,q⟩
theorem uV:fJ X (.type "list") (fun xs H Q=>∃p ys,xs=[.ref p]/\(hZ X.K H p ys\/iI X.K H p ys)/\∀l,H l=none->Q (.ref l) (upd H l (.lst ys))):=by
 intro pins s σ H xs us Q I r h
 obtain⟨p,ys,rfl,hq,q⟩:=h
 obtain⟨u,rfl,rx⟩:=vals1 r
 cases rx
 have fin:∀ (its:List Value),aM ys its->ys.length<=sizeLine->∀ (h':Heap) (c':Nat),(∀b o',s.heap.get? b=some o'->h'.get? b=some o') ->
   h'.get? s.heap.objs.size=some { cls:=.type "list",dict:=none,data:=.seq its.toArray c',slots:=#[] }->EP X pins σ Q (.ref s.heap.objs.size) { s with heap:=h' }:=fun its r' hz h' c' kp e =>
  ⟨.ref s.heap.objs.size,_,I.laid (t':=s.toks) kp (yM _) (show eK X.prog X.w _ h' _ (.lst ys) from ⟨hz,its,c',r',e⟩),rfl,q _ (I.hok.fresh (yM _))⟩
 rcases hq with hq|hq
 ·obtain⟨its,r',pl,hz⟩:=I.list hq
  have hlen:=r'.length
  obtain⟨o,ho,hc,n,hd⟩:=pl.isList
  exact call_list_seq p (.inl rfl) ho hc hd (fun h' c' kp e=>fin its r' hz h' c' kp e) (by simp only[zH]<;>omega)
 ·obtain⟨its,r',pl,hz⟩:=I.tuple hq
  have hlen:=r'.length
  obtain⟨o,ho,hc,n,hd⟩:=pl
  exact call_list_seq p (.inr rfl) ho hc hd (fun h' c' kp e=>fin its r' hz h' c' kp e) (by simp only[zH]<;>omega)
theorem sH:fJ X (.type "tuple") (fun xs H Q=>∃p ys,xs=[.ref p]/\((hZ X.K H p ys/\∀l,H l=none->Q (.ref l) (upd H l (.tup ys)))\/(iI X.K H p ys/\Q (.ref p) H))):=by
 intro pins s σ H xs us Q I r h
 obtain⟨p,ys,rfl,h⟩:=h
 obtain⟨u,rfl,rx⟩:=vals1 r
 cases rx
 rcases h with ⟨hq,q⟩|⟨hq,q⟩
 ·obtain⟨its,r',pl,hz⟩:=I.list hq
  have hlen:=r'.length
  refine call_tuple_list pl.isList (fun h' kp=>?_) (by simp only[zH]<;>omega)
  have I1:Inv X pins σ H { s with heap:=h' }:=I.kept (t':=s.toks) kp
  have I2:Inv X pins σ (upd H h'.objs.size (.tup ys)) { s with heap:=h'.push { cls:=.type "tuple",data:=.seq its.toArray } } :=
   I1.laid (t':=s.toks) (fun b o e=>zT _ e) (yM _) (show eK X.prog X.w _ _ _ (.tup ys) from ⟨hz,its,r',pC.new _ _⟩)
  exact⟨.ref h'.objs.size,_,I2,rfl,q _ (I1.hok.fresh (yM _))⟩
 ·obtain⟨its,r',pl,hz⟩:=I.tuple hq
  exact call_tuple_same pl ⟨.ref p,H,I,rfl,q⟩
def Qo(K:W.Frag)(T:String)(x:V)(H:Hp):Prop:=match x with
 | .str _=>T="str"
 | .int _=>T="int"
 | .ref p=>(T="list"/\∃xs,hZ K H p xs)\/(T="tuple"/\∃xs,iI K H p xs) \/
   (T="dict"/\((∃kvs,H p=some (.dK kvs))\/∃kvs,H p=some (.dT kvs)))\/(T="set"/\∃S n,H p=some (.set S n))
 | _=>False
theorem Ma{pins:List (Addr×Obj)}{σ:St}{H:Hp}{s:Shared}{T:String}{x:V}{v:Value}(I:Inv X pins σ H s)(r:RelV x v)(ty:Qo X.K T x H) :
  s.TypeIs v T/\∀a,v=.ref a->∃ob,s.heap.get? a=some ob/\ob.dict=none:=by
 cases x with
 | str z =>
  obtain⟨t,rfl⟩:=r
  cases (show T="str" from ty)
  exact⟨typeIs_str s z t,fun _ e=>nomatch e⟩
 | int i =>
  obtain⟨t,rfl⟩:=r
  cases (show T="int" from ty)
  exact⟨wK s i t,fun _ e=>nomatch e⟩
 | ref p =>
  cases r
  rcases ty with ⟨rfl,xs,hq⟩|⟨rfl,xs,hq⟩|⟨rfl,hk⟩|⟨rfl,S,n,hk⟩
  ·obtain⟨its,_,pl,_⟩:=I.list hq
   refine⟨pl.isList.typeIs,fun a e=>?_⟩
   cases e
   obtain⟨o,n,e,c,hd,_⟩:=pl
   exact⟨o,e,hd⟩
  ·rcases hq with hq|⟨o,its,n,hk,hc,hd,_⟩
   ·obtain⟨_,_,_,⟨o,e1,e2,_⟩,o2,e3,e4⟩:=hq.ok I.hok
    exact⟨⟨o,e1,e2⟩,fun a e=>by cases e;exact⟨o2,e3,e4⟩⟩
   ·exact⟨⟨o,I.kIn p o hk,hc⟩,fun a e=>by cases e;exact⟨o,I.kIn _ o hk,hd⟩⟩
  ·have z:∃o,s.heap.get? p=some o/\o.ExactDict:=by
    rcases hk with ⟨kvs,hk⟩|⟨kvs,hk⟩
    ·obtain⟨_,_,_,_,o,_,_,e,ex,_⟩:=I.hok p _ hk
     exact⟨o,e,ex⟩
    ·obtain⟨_,_,_,_,o,_,_,e,ex,_⟩:=I.hok p _ hk
     exact⟨o,e,ex⟩
   obtain⟨o,e,ex⟩:=z
   refine⟨⟨o,e,ex.1⟩,fun a e2=>?_⟩
   cases e2
   exact⟨o,e,ex.2.1⟩
  ·obtain⟨o,_,_,_,e,ex,_⟩:=I.hok p _ hk
   refine⟨⟨o,e,ex.1⟩,fun a e2=>?_⟩
   cases e2
   exact⟨o,e,ex.2.1⟩
 | _=>exact False.elim ty
def Qw(K:W.Frag)(T:String)(r:V->List V->Hp->VK->Prop)(to:TE)(t:TA):TE:=fun σ H Q=>to σ H fun x H1=>Qo K T x H1/\t σ H1 fun xs H2=>r x xs H2 Q
variable {o e:Expr}{es:List Expr}{to:TE}{t:TA}{name:Str}{apos cpos:Pos}{T id:String}{r:V->List V->Hp->VK->Prop}
theorem rF(pa:PlainAttrs T)(slot:Slot T name id)(hty:typeOf (.builtin id)=pure (.type "method_descriptor"))(hm:Ql X id r)(ho:PE X o to)(ha:PA X (e::es) t)
  (hbase:attributeBase o name X.env (eval o X.env)=eval o X.env:=by rfl)
  (hfew:((backTo cpos (starEach (e::es) X.env)).all (fun x=>!x.1)&&(backToKw cpos (keywordEach [] X.env)).all (fun x=>x.1.isSome)
   &&decide ((e::es).length+([]:List Keyword).length+(if ([]:List Keyword).isEmpty then 0 else 1) < 30))=true:=by rfl)
  (hline:(apos.endLine == cpos.line)=true:=by rfl) (hs:starEach (e::es) X.env=(false,eval e X.env)::starEach es X.env:=by rfl) (hplain:(backTo cpos (starEach es X.env)).any (·.1)=false:=by rfl) :
  PE X (.Call (.Attribute o name apos) (e::es) [] cpos) (Qw X.K T r to t):=by
 intro pins s σ H Q I h
 refine wpAny_Call_method_late hbase hfew hline rfl (cw (ho pins s σ H _ I h) fun v s1 ⟨x,H1,I1,r1,ty,q1⟩=>?_)
 obtain⟨h1,h2⟩:=Ma I1 r1 ty
 refine⟨T,id,pa,slot,hty,h1,h2,?_⟩
 have hA:=ha cpos pins s1 σ H1 _ I1 q1
 rw[hs] at hA ⊢
 refine Calls.callWith_builtin (by show (false||(backTo cpos (starEach es X.env)).any (·.1))=false;rw[hplain]<;>rfl) (Calls.evalArgs_plain ?_)
 exact cw hA fun us s2 ⟨vs,H2,I2,r2,q2⟩=>hm pins s2 σ H2 x vs v us Q I2 r1 r2 q2
/- xs.append(e),list.index on a module's tuple .. are Ql facts of 06m -/
end
def LR(X:Cx)(id:String)(r:V->List V->Hp->VK->Prop):Prop :=
 ∀ (pins:List (Addr×Obj)) (s:Shared) (σ:St) (H:Hp) (x:V) (xs:List V) (v:Value) (us:List Value) (Q:VK),Inv X pins σ H s->RelV x v->aM xs us->r x xs H Q ->
  wpAny (model X.prog X.w) X.A (call (.builtin id) (v::us)) (EP X pins σ Q) X.xe s
theorem aM.one:∀ {x:V}{us:List Value},aM [x] us->∃u,us=[u]/\RelV x u
 | _,_,.cons r .nil=>⟨_,rfl,r⟩
theorem aM.two:∀ {x y:V}{us:List Value},aM [x,y] us->∃u v,us=[u,v]/\RelV x u/\RelV y v
 | _,_,_,.cons r (.cons q .nil)=>⟨_,_,rfl,r,q⟩
theorem aM.eraseIdx:∀ {xs:List V}{us:List Value}(i:Nat),aM xs us->aM (xs.eraseIdx i) (us.eraseIdx i)
 | _,_,_,.nil=>.nil
 | _,_,0,.cons _ t=>t
 | _,_,i+1,.cons r t=>.cons r (aM.eraseIdx i t)
theorem aM.reverse{xs:List V}{us:List Value}(h:aM xs us):aM xs.reverse us.reverse:=by
 induction h with
 | nil=>exact .nil
 | cons r t ih=>rw[vC,vC];exact aM.append ih (.cons r .nil)
theorem aM.rep{xs:List V}{us:List Value}(h:aM xs us):∀k:Nat,aM (List.replicate k xs).flatten (List.replicate k us).flatten
 | 0=>.nil
 | k+1=>by
  rw[xE,xE,qM,qM]
  exact aM.append h (aM.rep h k)
theorem foldl_rep(its:List Value):∀ (k:Nat) (acc:List Value),
  List.foldl (fun x1 x2=>x1++x2) acc.toArray (List.replicate k its.toArray)=(acc++(List.replicate k its).flatten).toArray
 | 0,acc=>by simp
 | k+1,acc=>by
  have e:acc.toArray++its.toArray=(acc++its).toArray:=by simp
  have e2:(acc++its)++(List.replicate k its).flatten=acc++(List.replicate (k+1) its).flatten:=by
   rw[xE,qM,List.append_assoc]
  rw[<- e2,<- foldl_rep its k (acc++its),<- e,xE,yI]
section
variable {X:Cx}{pins:List (Addr×Obj)}{σ:St}{H:Hp}{s:Shared}{l b:Addr}{xs ys zs:List V}
theorem Inv.lset{its its':List Value}{n:Nat}{f:Array Value->Array Value}{t':Nat}(I:Inv X pins σ H s)(hH:H l=some (.lst xs))
  (e:s.heap.get? l=some { cls:=.type "list",data:=.seq its.toArray n }) (hf:f its.toArray=its'.toArray) (hv:aM ys its') (hz:ys.length<=sizeLine) :
  Inv X pins σ (upd H l (.lst ys)) { s with heap:=s.heap.update l (Obj.mapSeq f),toks:=t' }:=by
 have q:=PySem.IsL.update e f
 rw[hf] at q
 refine I.write (x:=l) (e:=l) (by rw[hH];exact trivial) (.inl rfl) (fun b' u hb hu=>(xN s.heap (Obj.mapSeq f) (jM hb)).trans hu) ⟨_,q⟩ ?_
 exact⟨hz,its',_,hv,q⟩
theorem Inv.lnew{its:List Value}{t':Nat}(I:Inv X pins σ H s)(hv:aM ys its)(hz:ys.length<=sizeLine) :
  Inv X pins σ (upd H s.heap.objs.size (.lst ys)) { s with heap:=s.heap.push { cls:=.type "list",data:=.seq its.toArray },toks:=t' } :=
 I.laid (fun _ _ q=>zT _ q) (yM _) ⟨hz,its,0,hv,zW _ rfl⟩
theorem Inv.fresh(I:Inv X pins σ H s):H s.heap.objs.size=none:=I.hok.fresh (yM _)
theorem Inv.lstM(I:Inv X pins σ H s)(hH:H l=some (.lst xs)):xs.length<=sizeLine/\∃ (its:List Value) (n:Nat),aM xs its/\xs.length=its.length/\s.heap.get? l=some { cls:=.type "list",data:=.seq its.toArray n }:=by
 obtain⟨z,its,n,r,e⟩:=I.hok l _ hH
 exact⟨z,its,n,r,r.length,e⟩
theorem yv{n:Nat}(h:n<=sizeLine):Builtin.List.listTooLong n=false:=by
 unfold Builtin.List.listTooLong
 exact zY (by omega)
end
section
variable {X:Cx}
def Ie:V->List V->Hp->VK->Prop:=fun x vs H Q=>∃l xs y,x=.ref l/\vs=[y]/\H l=some (.lst xs)/\xs.length < sizeLine/\Q .non (upd H l (.lst (xs++[y])))
theorem tO:LR X "list.append" Ie:=by
 intro pins s σ H x vs v us Q I rx rv h
 obtain⟨l,xs,y,rfl,rfl,hH,hz,q⟩:=h
 cases rx
 obtain⟨u,rfl,ru⟩:=rv.one
 obtain⟨z,its,n,r,hl,e⟩:=I.lstM hH
 refine qX F.slot_list_append ⟨_,e,rfl⟩ F.entry_list_append (F.args_list_append_2 _ _) (PySem.list_append l its.toArray n u (by rw[zH];omega)) ⟨e,?_⟩
 refine⟨.non,_,I.lset (its':=its++[u]) hH e (by simp) (r.append (.cons ru .nil)) ?_,rfl,q⟩
 rw[zN,xC]
 omega
def JQ:V->List V->Hp->VK->Prop:=fun x vs H Q=>∃l b xs zs,x=.ref l/\vs=[.ref b]/\H l=some (.lst xs)/\H b=some (.lst zs)/\xs.length+zs.length<=sizeLine/\Q .non (upd H l (.lst (xs++zs)))
theorem D7:LR X "list.extend" JQ:=by
 intro pins s σ H x vs v us Q I rx rv h
 obtain⟨l,b,xs,zs,rfl,rfl,hH,hB,hz,q⟩:=h
 cases rx
 obtain⟨u,rfl,ru⟩:=rv.one
 cases ru
 obtain⟨z,its,n,r,hl,e⟩:=I.lstM hH
 obtain⟨z2,its2,n2,r2,hl2,e2⟩:=I.lstM hB
 have hsz:its.toArray.size+its2.toArray.size<=sizeLine:=by rw[zH,zH];omega
 have hlong:¬ (!its.toArray.isEmpty&&Builtin.List.listTooLong (its.toArray.size+its2.toArray.size))=true:=by
  rw[yv hsz,kY]
  exact yZ
 refine qX F.slot_list_extend ⟨_,e,rfl⟩ F.entry_list_extend (F.args_list_extend_2 _ _)
  (AutoSeq1.list_extend_list_list_0 l its.toArray n b its2.toArray n2 hlong (by rw[zH];omega) (by omega)) ⟨e,e2,?_⟩
 refine⟨.non,_,I.lset (its':=its++its2) hH e (by simp) (r.append r2) ?_,rfl,q⟩
 rw[zN]
 omega
def Pz:R2:=fun x y H Q=>∃l k xs,x=.ref l/\y=.int k/\H l=some (.lst xs)/\-(2 ^ 63)<=k/\k < 2 ^ 63/\xs.length * k.toNat<=sizeLine /\
 ∀p,H p=none->Q (.ref p) (upd H p (.lst (List.replicate k.toNat xs).flatten))
theorem len_rep{α:Type}(xs:List α)(k:Nat):(List.replicate k xs).flatten.length=k * xs.length:=by
 induction k with
 | zero=>simp
 | succ k ih=>rw[xE,qM,zN,ih,Nat.succ_mul,Nat.add_comm]
theorem Lg:gY X (binaryOp .Mult) Pz:=by
 intro pins s σ H x y v u Q I rx ry h
 obtain⟨l,k,xs,rfl,rfl,hH,h1,h2,hz,q⟩:=h
 cases rx
 obtain⟨t,rfl⟩:=ry
 obtain⟨z,its,n,r,hl,e⟩:=I.lstM hH
 have hlen:its.toArray.size * k.toNat<=sizeLine:=by rw[zH,<- hl];exact hz
 have hcap:¬ its.toArray.size * k.toNat > (2 ^ 63 - 1) / 8:=by
  have:(sizeLine:Nat)<=(2 ^ 63 - 1) / 8:=by decide
  omega
 have hfit:¬ (!Builtin.List.listFitsIndex k)=true:=by
  rw[fitsIndex_both h1 h2]
  exact yZ
 have hlong:¬ Builtin.List.listTooLong (its.toArray.size * k.toNat)=true:=by
  rw[yv hlen]
  exact yZ
 have hnew:List.foldl (fun x1 x2=>x1++x2) #[] (List.replicate (if its.toArray.isEmpty=true then 0 else k.toNat) its.toArray)=(List.replicate k.toNat its).flatten.toArray:=by
  have f0:∀m:Nat,List.foldl (fun x1 x2=>x1++x2) #[] (List.replicate m its.toArray)=(List.replicate m its).flatten.toArray:=fun m=>by
   have:=foldl_rep its m []
   rw[xO] at this
   exact this
  rw[f0]
  cases its with
  | nil=>simp
  | cons a r'=>rw[yN (by simp)]
 refine wpAny_binaryOp_repeat_ref (T:="list") (U:="int") (by decide) ⟨_,e,rfl⟩ (fun s'=>wK s' k t) noFill_list_mul F.fills_int_mul vW repeat_list F.slot_int_index.lookup
  (qX vW (wK s k t) F.entry_int_rmul (F.args_int_rmul_2 _ _) (int___rmul___int_list k t l its.toArray n)
   ⟨e,rfl,⟨_,e,rfl⟩,qX F.slot_list_mul ⟨_,e,rfl⟩ F.entry_list_mul (F.args_list_mul_2 _ _) (AutoListH.list___mul___list_int_3 l its.toArray n k t hfit hcap hlong) ⟨e,?_⟩⟩)
 rw[hnew]
 exact⟨.ref _,_,I.lnew (t':=s.toks) (r.rep k.toNat) (by rw[len_rep,Nat.mul_comm];exact hz),rfl,q _ I.fresh⟩
end
section
variable {prog:Program}{w:World}{A:Around}{E:Value->Shared->Prop}{s:Shared}
end
section
variable {X:Cx}
end
end L2
namespace Att
open PySem PySem.W PySem.Calls PyProof.Rows
theorem ints_of_wellAll{P:Params}{h:Heap}:∀ (ns:List Int) (vs:List Value),WellAll P h vs (ns.map WData.int)->IntsAre vs ns:=by
 intro ns
 induction ns with
 | nil =>
  intro vs w
  rw[yU] at w
  cases w
  exact .nil
 | cons n ns ih =>
  intro vs w
  rw[zI] at w
  cases w with
  | cons a b =>
   cases a
   exact .cons _ _ (ih _ b)
theorem script_of{l:OpenLaw}{n:Nat}(hn:l.most=some n){P:Params}{h:Heap}{args:List WData}{vals:List Value}
  (hpre:l.row.toRowW.claim.pre args=true) (hwl:WellAll P h vals args) :
  ∃a vs ns,vals=[Value.ref a]/\args=[WData.list (ns.map WData.int)]/\h.get? a=some { cls:=.type "list",data:=.seq vs.toArray }/\IntsAre vs ns/\ns.length<=n:=by
 have hsh:WShape.hasAll [] args [.list .int]=true:=(pre_splitW hpre).1
 have hc:l.pre.holds [] { args:=args }=true:=(pre_splitW hpre).2
 obtain⟨d,r,rfl,h1,h2⟩:=hasAllW_cons hsh
 obtain rfl:=hasAllW_nil h2
 obtain⟨xs,rfl,h3⟩:=hasW_list h1
 obtain⟨ns,rfl⟩:=items_int h3
 have hlen:ns.length<=n:=by
  unfold OpenLaw.pre at hc
  have h4:(WTm.not (.lt (.lit (.int (n:Int))) (.len (.arg 0)))).holds [] { args:=[.list (ns.map .int)] }=true:=by
   have h4:=(holds_andW hc).1
   rw[hn] at h4
   exact h4
  have h5:=condW_of h4 (w_not (w_lt w_lit (w_len_list (w_arg rfl))))
  rw[zD] at h5
  refine Nat.le_of_not_lt fun q=>?_
  have q':(n:Int) < ((ns.length:Nat):Int):=by omega
  first
   | (rw[zZ q'] at h5;exact absurd h5 (by decide))
   | (simp at h5;omega)
 cases hwl with
 | cons w1 w2 =>
  cases w2
  cases w1 with
  | list ho hall=>exact⟨_,_,ns,rfl,rfl,ho,ints_of_wellAll ns _ hall,hlen⟩
theorem post_true(l:OpenLaw)(args:List WData):l.row.toRowW.claim.post args (.bool true) args=true :=
 postW_of (r:=l.row.toRowW) (X:=(true == true))
  (show WShape.has [] (.bool true) .bool=true by first|rfl|decide|simp[WShape.has,WShape.arms,WShape.armsAll])
  (show (WTm.eq .res (.lit (.bool true))).value [] { args:=args,res:=some (.bool true),after:=args }=some (.bool (true == true)) from w_eq_bool (w_res rfl) w_lit) rfl
theorem attach_call{l:OpenLaw}{n:Nat}{q:Program}{loose:List Str}{XP:(Str->Option Value)->Heap->Prop}{YP:World->Heap->Prop}{d:DefRec}
  (hn:l.most=some n) (hdf:d.params.defaults=[])
  (call:∀ (w:World) (s₀ s₁:Shared) (mg mb:Str->Option Value) (fa:Addr) (o:Obj) (pm cd doc:Value) (a:Addr) (vs:List Value) (ns:List Int),
   Ground q loose [] XP w s₀ mg mb s₁.heap->YP w s₁.heap ->
   s₁.heap.get? fa=some o->o.data=.func (docDef d.name d.params d.body d.scope pm cd doc)->s₁.heap.CodeRec cd d.name->mg d.name=some (.ref fa) ->
   s₁.heap.get? a=some { cls:=.type "list",data:=.seq vs.toArray }->IntsAre vs ns->ns.length<=n->s₁.gens=#[] ->
   codeAny (model l.prog w) callerA (.call (.ref fa) ⟨[.ref a],[]⟩) (fun r s'=>r=.ok (.ret (.bool true))/\OldK s₁.heap s'.heap/\s'.os=s₁.os/\AllBare s'.gens) s₁) :
  WalkO q loose XP YP l.row.toRowW d [] (fun f vs=>PySem.call f vs):=by
 intro w s₀ s₁ mg mb G Y fa o pm cd doc dV kV ho hd hcd hD hmg hg args vals as hpre hlay hrd hwl hlo
 obtain rfl:dV=.none:=Dflts.none hD hdf
 obtain rfl:kV=.none:=Dflts.noKw hD
 obtain⟨a,vs,ns,rfl,rfl,hobj,hints,hlen⟩:=script_of hn hpre hwl
 refine enter_call (jR (call w s₀ s₁ mg mb fa o pm cd doc a vs ns G Y ho (fd_plain hd) hcd hmg hobj hints hlen hg) fun r s' hq=>?_)
 obtain⟨rfl,h2,h3,h4⟩:=hq
 exact⟨.inl ⟨.bool true,.bool true,[],rfl,fun _=>rfl,.bool true,post_true l _,fun _=>⟨List.Pairwise.nil,fun _ hm=>(nomatch hm)⟩⟩,h2,h3,h4⟩
section
variable {prog:Program}{w:World}{A:Around}{E:Value->Shared->Prop}{s:Shared}{K:Frag}
end
end Att
namespace L2
open PySem PySem.Spec PyProof.Rows
theorem tj:∀ {vs:List Value}{ns:List Int},IntsAre vs ns->aM (ns.map V.int) vs
 | _,_,.nil=>.nil
 | _,_,.cons n t h=>.cons ⟨t,rfl⟩ (tj h)
abbrev HJ:Df:=fun _ _ _ _ _ _=>False
abbrev E0:XK:=fun _ _ _=>False
theorem Ny{X:Cx}:fN HJ X E0:=fun _ _ _ _ _ _ _ h=>h.elim
structure FO(K:W.Frag)(x qual:Str)(st:Stmt)(f:Addr)(fd:FuncData):Prop where
 ex:∃ (oc:Value) (od:Option Addr) (kV doc pm:Value) (an:Option Addr) (cdv ct:Value) (osl:Array (Option Value)),
  fd=W.fnOf x qual (i8 st) (bG st) (aj st) .none kV doc pm an cdv ct/\K.lookup f=some ⟨oc,od,.func fd,osl⟩/\W.codeIn K cdv qual=true
 kp:W.keepIn K (.ref f)=true
section
variable {P:Program}{w:World}{K:W.Frag}{mg:Str->Option Value}{base:Heap}
theorem FO.binds{x qual:Str}{st:Stmt}{f:Addr}{fd:FuncData}{ps:List Str}(F:FO K x qual st f fd)
  (h:∀ (kV doc pm:Value) (an:Option Addr) (cdv ct:Value) (us:List Value),us.length=ps.length->bindArgs (W.fnOf x qual (i8 st) (bG st) (aj st) .none kV doc pm an cdv ct) ⟨us,[]⟩=pure (ps.zip us)):Binds K fd ps []:=by
 obtain⟨oc,od,kV,doc,pm,an,cdv,ct,osl,rfl,lk,hcd⟩:=F.ex
 exact .all (h kV doc pm an cdv ct)
theorem EM{x qual:Str}{st:Stmt}{f:Addr}{oc:Value}{od an:Option Addr}{osl:Array (Option Value)}{kV doc pm cdv ct:Value}(l:K.lookup f=some ⟨oc,od,.func (W.fnOf x qual (i8 st) (bG st) (aj st) .none kV doc pm an cdv ct),osl⟩)
  (c:W.codeIn K cdv qual=true) (k:W.keepIn K (.ref f)=true):FO K x qual st f (W.fnOf x qual (i8 st) (bG st) (aj st) .none kV doc pm an cdv ct):=⟨⟨oc,od,kV,doc,pm,an,cdv,ct,osl,rfl,l,c⟩,k⟩
end
section
variable {X:Cx}
end
theorem oV{A B:Prop}(h:B):if false=true then A else B:=by
 rw[yN yZ]
 exact h
theorem rZ{A B:Prop}(h:A):if true=true then A else B:=by
 rw[yL rfl]
 exact h
def aU(H H':Hp):Prop:=∀b o,H b=some o->H' b=some o
theorem aU.refl(H:Hp):aU H H:=fun _ _ h=>h
theorem aU.trans{H H1 H2:Hp}(a:aU H H1)(b:aU H1 H2):aU H H2:=fun c o h=>b c o (a c o h)
theorem aU.free{H H':Hp}(e:aU H H'){l:Addr}(h:H' l=Option.none):H l=Option.none:=by
 cases q:H l with
 | none=>rfl
 | some o =>
  rw[e l o q] at h
  cases h
theorem aU.seq{K:W.Frag}{H H':Hp}{a:Addr}{xs:List V}(e:aU H H')(h:hZ K H a xs):hZ K H' a xs:=by
 rcases h with (h|⟨o,h⟩)|h
 ·exact .inl (.inl (e _ _ h))
 ·exact .inl (.inr ⟨o,e _ _ h⟩)
 ·exact .inr h
theorem cm:∀ (names:List (Str×NameKind)) (n:Nat) (acc:List (Str×Addr)),cellsFrom n names acc=cellsFrom n names []++acc
 | [],_,_=>rfl
 | (name,kind)::r,n,acc=>by
  unfold cellsFrom
  split
  ·rw[cm r (n+1) ((name,n)::acc),cm r (n+1) [(name,n)]]
   simp
  ·exact cm r n acc
theorem ju{α:Type}{x:Str}{c:α}:∀ {l m:List (Str×α)},(l++m).lookup x=some c->l.lookup x=some c\/(l.lookup x=none/\m.lookup x=some c)
 | [],_,h=>.inr ⟨rfl,h⟩
 | (k,v)::r,m,h=>by
  have ih:=@ju α x c r m
  rw[xF,yA] at h
  rw[yA]
  cases e:x == k with
  | true=>rw[e] at h;exact .inl h
  | false=>rw[e] at h;exact ih h
theorem jv{α:Type}{x:Str}{c:α}:∀ {l m:List (Str×α)},l.lookup x=some c->(l++m).lookup x=some c
 | [],_,h=>by cases h
 | (k,v)::r,m,h=>by
  have ih:=@jv α x c r m
  rw[yA] at h
  rw[xF,yA]
  cases e:x == k with
  | true=>rw[e] at h;exact h
  | false=>rw[e] at h;exact ih h
theorem ij{α:Type}{x:Str}:∀ {l m:List (Str×α)},l.lookup x=none->(l++m).lookup x=m.lookup x
 | [],_,_=>rfl
 | (k,v)::r,m,h=>by
  have ih:=@ij α x r m
  rw[yA] at h
  rw[xF,yA]
  cases e:x == k with
  | true=>rw[e] at h;cases h
  | false=>rw[e] at h;exact ih h
theorem gg:∀ (names:List (Str×NameKind)) (n:Nat) (x:Str) (c:Addr),(x,c)∈cellsFrom n names []->(x,NameKind.cell)∈names
 | [],_,_,_,h=>by cases h
 | (name,kind)::r,n,x,c,h=>by
  unfold cellsFrom at h
  split at h
  ·rename_i hk
   rw[cm] at h
   rcases List.mem_append.mp h with h|h
   ·exact zC _ (gg r _ x c h)
   ·have:(x,c)=(name,n):=by simpa using h
    cases this
    have:kind=.cell:=by simpa using hk
    subst this
    exact zE
  ·exact zC _ (gg r n x c h)
def eU(env:Env):List (Str×NameKind)->List (Str×Addr)->List (Str×Addr)
 | [],acc=>acc
 | (n,k)::r,acc=>if k == .free then eU env r ((n,(env.cells.lookup n).getD 0)::acc) else eU env r acc
theorem mv(env:Env):∀ (names:List (Str×NameKind)) (acc:List (Str×Addr)),(∀x∈names,x.2=.free->∃c,env.cells.lookup x.1=some c) ->
  (forIn names acc (fun (p:Str×NameKind) (cs:List (Str×Addr))=>(if p.2 == .free then (do let a <- cellOf env p.1;pure (.yield ((p.1,a)::cs))) else pure (.yield cs):Sem (ForInStep (List (Str×Addr))))))=pure (eU env names acc)
 | [],acc,_=>rfl
 | (n,k)::r,acc,h=>by
  rw[List.forIn_cons]
  have hr:=fun x hx=>h x (zC _ hx)
  unfold eU
  by_cases hk:k=.free
  ·obtain⟨c,hc⟩:=h (n,k) zE hk
   subst hk
   have e1:cellOf env n=pure c:=by
    have hc':env.cells.lookup n=some c:=hc
    unfold cellOf;rw[hc']
   have hc':env.cells.lookup n=some c:=hc
   simp only[beq_self_eq_true,xH,e1,pure_bind,hc',qG]
   exact mv env r _ hr
  ·have hb:(k == NameKind.free)=false:=by simpa using hk
   simp only[hb,yO,qP,pure_bind]
   exact mv env r _ hr
theorem mz{env:Env}{scope:Scope}(h:∀x∈scope.names,x.2=.free->∃c,env.cells.lookup x.1=some c):closureFor scope env=pure (eU env scope.names []):=by
 have:=mv env scope.names [] h
 unfold closureFor
 exact (bind_pure _).trans this
theorem lg{env:Env}:∀ {names:List (Str×NameKind)}{acc:List (Str×Addr)},(∀x∈names,x.2=.free->∃c,env.cells.lookup x.1=some c)->(∀x c,(x,c)∈acc->env.cells.lookup x=some c) ->
  ∀x c,(x,c)∈eU env names acc->env.cells.lookup x=some c
 | [],acc,_,ha,x,c,hm=>ha x c hm
 | (n,k)::r,acc,h,ha,x,c,hm=>by
  unfold eU at hm
  have hr:=fun x hx=>h x (zC _ hx)
  split at hm
  ·rename_i hk
   have hk':k=.free:=by simpa using hk
   obtain⟨c',hc⟩:=h (n,k) zE hk'
   have hc:env.cells.lookup n=some c':=hc
   refine lg hr (fun y d hy=>?_) x c hm
   rcases List.mem_cons.mp hy with e|hy
   ·cases e;rw[hc];rfl
   ·exact ha y d hy
  ·exact lg hr ha x c hm
theorem gf{env:Env}:∀ {names:List (Str×NameKind)}{acc:List (Str×Addr)}{x:Str},(names.lookup x=some .free\/∃c,acc.lookup x=some c)->∃c,(eU env names acc).lookup x=some c
 | [],acc,x,h=>by
  rcases h with h|h
  ·cases h
  ·exact h
 | (n,k)::r,acc,x,h=>by
  unfold eU
  split
  ·rename_i hk
   refine gf ?_
   rcases h with h|⟨c,h⟩
   ·rw[yA] at h
    cases e:x == n with
    | true=>exact .inr ⟨_,by rw[yA,e]⟩
    | false=>rw[e] at h;exact .inl h
   ·refine .inr ?_
    rw[yA]
    cases e:x == n with
    | true=>exact⟨_,rfl⟩
    | false=>exact⟨c,h⟩
  ·rename_i hk
   refine gf ?_
   rcases h with h|h
   ·rw[yA] at h
    cases e:x == n with
    | true =>
     rw[e] at h
     cases h
     exact absurd rfl hk
    | false=>rw[e] at h;exact .inl h
   ·exact .inr h
theorem mL{env:Env}:∀ {names:List (Str×NameKind)}{x:Str}{k:NameKind},names.lookup x=some k ->
  (names.map fun (n,k)=>if (k == NameKind.free&&env.scope.kind == .function&&env.kindOf n == some .cell) then (n,NameKind.cell) else (n,k)).lookup x=some (if (k == NameKind.free&&env.scope.kind == .function&&env.kindOf x == some .cell) then NameKind.cell else k)
 | [],_,_,h=>by cases h
 | (n,k)::r,x,k',h=>by
  have ih:=@mL env r x k'
  rw[zI]
  dsimp only
  cases hx:x == n with
  | true =>
   have e:x=n:=by simpa using hx
   subst e
   rw[yA,hx] at h
   cases h
   split<;>simp[yA, *]
  | false =>
   rw[yA,hx] at h
   have ih:=ih h
   split
   ·rw[yA,hx];exact ih
   ·rw[yA,hx];exact ih
theorem oM{env:Env}:∀ {names:List (Str×NameKind)}{x:Str},names.lookup x=none ->
  (names.map fun (n,k)=>if (k == NameKind.free&&env.scope.kind == .function&&env.kindOf n == some .cell) then (n,NameKind.cell) else (n,k)).lookup x=none
 | [],_,h=>rfl
 | (n,k)::r,x,h=>by
  have ih:=@oM env r x
  rw[zI]
  dsimp only
  cases hx:x == n with
  | true=>rw[yA,hx] at h;cases h
  | false =>
   rw[yA,hx] at h
   split
   ·rw[yA,hx];exact ih h
   ·rw[yA,hx];exact ih h
def fI(X:Cx)(scope:Scope)(C:Addr):Env :=
 { scope:=relabel scope X.env,locals:=C,globals:=X.env.globals,cells:=cellsFrom (C+1) scope.names (eU X.env scope.names []),qual:=X.env.qual,func:=none,code:=X.env.code,frame:=X.env.frame,builtins:=X.env.builtins }
def bg(X:Cx)(scope:Scope)(N:List Str)(fp:List Addr)(s:Shared)(H:Hp):Cx :=
 { X with N:=N,s₀:=s,H₀:=H,env:=fI X scope s.heap.objs.size,outer:=X.stack,ex:=fp,fn:=fun x=>decide (scope.names.lookup x=some .cell),pn:=[],xe:=fun _ _=>False }
theorem AS{M:Model}{A:Around}{E:Value->Shared->Prop}{s:Shared}{scope:Scope}{globals:Addr}{cl:List (Str×Addr)}{qual:Str}{env:Env}{Q:Env->Shared->Prop}
  (hQ:∀h',h'.Ns s.heap.objs.size (fun _=>none)->(∀b o,s.heap.get? b=some o->h'.get? b=some o)->CellsOk h' (s.heap.objs.size+1) (cellsFrom (s.heap.objs.size+1) scope.names []) ->
   Q { scope:=scope,locals:=s.heap.objs.size,globals:=globals,cells:=cellsFrom (s.heap.objs.size+1) scope.names cl,qual:=qual,func:=none,code:=env.code,frame:=env.frame,builtins:=env.builtins } { s with heap:=h' }) :
  wpAny M A (newFunctionEnv scope globals cl [] qual none .none (some env)) Q E s:=by
 simp only[newFunctionEnv,Option.isSome_some,xH]
 refine zU (wpAny_alloc ?_)
 refine zU (wpAny_layCells _ (fun name kind cells=>by cases hkc:kind == NameKind.cell<;>simp[hkc]) _ _ _ _ ?_)
 have ok:=cellsFrom_ok scope.names (s.heap.push { cls:=.type "dict",data:=.dict #[] }) (s.heap.objs.size+1) [] ⟨fun _ _ hm=>(nomatch hm),List.Pairwise.nil⟩ (by rw[xJ];exact yM _)
 rw[xJ] at ok
 rw[show ({ s with heap:=s.heap.push { cls:=.type "dict",data:=.dict #[] } }:Shared).heap.objs.size=s.heap.objs.size+1 from xJ ..]
 rw[List.forIn_nil]
 refine zU (zV (zV ?_))
 exact hQ _ ((Heap.Ns.new s.heap (.type "dict")).keeps (pushCells_keeps _ _)) (fun b o e=>pushCells_keeps _ _ b o (zT _ e)) ok
section
variable {X:Cx}{pins:List (Addr×Obj)}{σ σ':St}{H:Hp}{s:Shared}{fp:List Addr}{scope:Scope}{N:List Str}{h4:Heap}
theorem kq(ok:X.Ok)(hfree:∀x∈scope.names,x.2=.free->X.env.kindOf x.1=some .cell\/X.env.kindOf x.1=some .free):∀x∈scope.names,x.2=.free->∃c,X.env.cells.lookup x.1=some c :=
 fun x hx hk=>ok.has x.1 (hfree x hx hk)
theorem n9{C:Addr}{x:Str}{k:NameKind}(h:scope.names.lookup x=some k):(fI X scope C).kindOf x=some k\/(k=.free/\(fI X scope C).kindOf x=some .cell):=by
 have q:=mL (env:=X.env) h
 have q':(fI X scope C).kindOf x=some (if (k == NameKind.free&&X.env.scope.kind == .function&&X.env.kindOf x == some .cell) then NameKind.cell else k):=q
 rw[q']
 split
 ·rename_i hc
  have:k=.free:=by
   simp only[zF,vM] at hc
   exact hc.1.1
  exact .inr ⟨this,rfl⟩
 ·exact .inl rfl
theorem ma{C:Addr}{x:Str}{k:NameKind}(h:(fI X scope C).kindOf x=some k):scope.names.lookup x=some k\/(k=.cell/\scope.names.lookup x=some .free):=by
 cases e:scope.names.lookup x with
 | none =>
  have q:(fI X scope C).kindOf x=none:=oM (env:=X.env) e
  rw[q] at h;cases h
 | some k' =>
  rcases n9 (X:=X) (C:=C) e with q|⟨q,q'⟩
  ·rw[q] at h;cases h;exact .inl rfl
  ·rw[q'] at h;cases h;subst q;exact .inr ⟨rfl,rfl⟩
theorem HA(I:Inv X pins σ H s)(hf:∀b∈fp,cq X pins H b)(hfl:∀b∈fp,b < s.heap.objs.size)(hk:scope.kind=.function)
  (hfree:∀x∈scope.names,x.2=.free->X.env.kindOf x.1=some .cell\/X.env.kindOf x.1=some .free)
  (hns:h4.Ns s.heap.objs.size (fun _=>none)) (hkeep:∀b o,s.heap.get? b=some o->h4.get? b=some o) (hco:CellsOk h4 (s.heap.objs.size+1) (cellsFrom (s.heap.objs.size+1) scope.names []))
  (hdup:∀ {x:Str},(x,NameKind.cell)∈scope.names->(x,NameKind.free)∈scope.names->False) (hcap:∀ (i:Nat) (x:Str) (v:V),N[i]?=some x->σ'[i]?=some (some v)->scope.names.lookup x=some .free/\∃j:Nat,X.N[j]?=some x/\σ[j]?=some (some v)) (hlen:σ'.length=N.length) (t':Nat) :
  Inv (bg X scope N fp s H) [] σ' H { s with heap:=h4,toks:=t' }:=by
 have hcl:=kq I.ok hfree
 have clx:∀x c,(eU X.env scope.names []).lookup x=some c->X.env.cells.lookup x=some c:=fun x c e=>lg hcl (fun _ _ z=>by cases z) x c (mem_of_lookup e)
 have look:∀x c,(fI X scope s.heap.objs.size).cells.lookup x=some c->(x,c)∈cellsFrom (s.heap.objs.size+1) scope.names []\/X.env.cells.lookup x=some c:=fun x c e=>by
  have e:(cellsFrom (s.heap.objs.size+1) scope.names (eU X.env scope.names [])).lookup x=some c:=e
  rw[cm] at e
  rcases ju e with q|⟨_,q⟩
  ·exact .inl (mem_of_lookup q)
  ·exact .inr (clx x c q)
 have old:∀x c,X.env.cells.lookup x=some c->c < s.heap.objs.size:=fun x c e=>let ⟨_,q⟩:=I.cell x c e;q.lt
 have new:∀x c,(x,c)∈cellsFrom (s.heap.objs.size+1) scope.names []->s.heap.objs.size < c:=fun x c e=>(hco.empty x c e).2
 refine⟨⟨I.ok.mod,?_,I.ok.glob,I.ok.blt,yM _,?_,?_,?_,I.ok.hd,I.ok.frames,.inl rfl,?_,I.bs,yC I.ok.bsz I.sz,?_,?_,I.stack,I.stkFree⟩,rfl,I.bare,Un.kept hkeep,⟨_,hns,?_⟩,?_,I.hok.fresh (yM _),?_,
  fun p hp=>absurd (show p∈([]:List (Addr×Obj)) from hp) (by simp),I.hok.kept hkeep,hlen⟩
 ·show (relabel scope X.env).kind=_
  exact hk
 ·intro x y c e1 e2
  rcases look x c e1 with a|a<;>rcases look y c e2 with b|b
  ·exact name_of_addr hco.apart a b
  ·exact absurd (wV (new x c a) (old y c b)) (qE _)
  ·exact absurd (wV (new y c b) (old x c a)) (qE _)
  ·exact I.ok.inj x y c a b
 ·intro x hx
  show ∃c,(cellsFrom (s.heap.objs.size+1) scope.names (eU X.env scope.names [])).lookup x=some c
  refine Option.isSome_iff_exists.mp (W.cellsFrom_some _ _ _ ?_)
  rcases hx with hx|hx
  ·rcases ma hx with q|⟨_,q⟩
   ·exact .inl q
   ·exact .inr (Option.isSome_iff_exists.mpr (gf (.inl q)))
  ·rcases ma hx with q|⟨q,_⟩
   ·exact .inr (Option.isSome_iff_exists.mpr (gf (.inl q)))
   ·cases q
 ·intro x c hfn e
  have hfn:scope.names.lookup x=some .cell:=yQ hfn
  have e:(cellsFrom (s.heap.objs.size+1) scope.names (eU X.env scope.names [])).lookup x=some c:=e
  obtain⟨c',hc'⟩:=pX (n:=s.heap.objs.size+1) hfn
  rw[cm,jv hc'] at e
  cases e
  exact jS (new x c (mem_of_lookup hc'))
 ·intro b hb
  refine⟨yR (hfl b hb),fun x c e z=>?_⟩
  rcases look x c e with a|a
  ·exact absurd (wV (new x c a) (by rw[z];exact hfl b hb)) (qE _)
  ·exact (hf b hb).2.2.2.2.1 x c a z
 ·intro b o e hb
  obtain⟨f0,f1,f2,f3,f4,f5⟩:=hf b hb
  rcases f3 with z|z
  ·exact I.ok.noex b o e z
  ·exact absurd (zP (zX (I.ok.bs b o e).1) z) (qE _)
 ·intro b hb hz
  obtain⟨f0,f1,f2,f3,f4,f5⟩:=hf b hb
  rcases List.mem_cons.mp (I.stkSub b hz) with z|z
  ·exact f1 z
  ·exact f2 z
 ·intro i x v e1 e2 e3
  obtain⟨hfr,j,hj,hv⟩:=hcap i x v e1 e2
  have hm:(x,NameKind.free)∈scope.names:=mem_of_lookup hfr
  obtain⟨m,hn,hl⟩:=I.loc
  have kx:=hfree _ hm rfl
  obtain⟨u,ru,lk⟩:=hl j x v hj hv (kx.elim (fun k=>.inr (.inl k)) fun k=>.inr (.inr k))
  refine⟨u,ru,.inr ⟨?_,?_⟩⟩
  ·rcases n9 (X:=X) (C:=s.heap.objs.size) hfr with q|⟨_,q⟩
   ·exact .inr q
   ·exact .inl q
  ·rcases lk with ⟨k,_⟩|⟨_,c,ec,ic⟩
   ·have k:X.env.kindOf x=some .local:=k
    rcases kx with k'|k'<;>· rw[k] at k';cases k'
   ·obtain⟨c',hc'⟩:=gf (env:=X.env) (acc:=[]) (.inl hfr)
    have e':=clx x c' hc'
    rw[ec] at e'
    cases e'
    refine⟨c,?_,ic.keeps hkeep⟩
    show (cellsFrom (s.heap.objs.size+1) scope.names (eU X.env scope.names [])).lookup x=some c
    rw[cm]
    cases eo:(cellsFrom (s.heap.objs.size+1) scope.names []).lookup x with
    | none=>rw[ij eo];exact hc'
    | some d =>
     have hcm:=gg _ _ _ _ (mem_of_lookup eo)
     exact (hdup hcm hm).elim
 ·intro x c e
  rcases look x c e with a|a
  ·exact⟨_,(hco.empty x c a).1⟩
  ·obtain⟨v,q⟩:=I.cell x c a
   exact⟨v,q.keeps hkeep⟩
 ·intro x c e
  rcases look x c e with a|a
  ·exact I.hok.fresh (jS (new x c a))
  ·exact I.freeC x c a
end
abbrev y8(ifs:List Expr)(env:Env):Sem Bool:=forIn ifs true fun c r=>if r=true then do let ok <- isTrue c env (eval c env);pure (ForInStep.yield ok) else pure (ForInStep.yield r)
def M5(X:Cx)(ifs:List Expr)(t:TT):Prop :=
 ∀ (pins:List (Addr×Obj)) (s:Shared) (σ:St) (H:Hp) (Q:Bool->Hp->Prop),Inv X pins σ H s->t σ H Q->wpAny (model X.prog X.w) X.A (y8 ifs X.env) (TP X pins σ Q) X.xe s
theorem Iq{X:Cx}:M5 X [] (fun _ H Q=>Q true H):=fun _ _ _ H _ I h=>wpAny_tests_nil ⟨H,I,h⟩
theorem Jk{X:Cx}{c:Expr}{t:TT}(h:PT X c t):M5 X [c] t:=fun pins s σ H Q I q=>wpAny_tests_one (h pins s σ H Q I q)
theorem vo{prog:Program}{w:World}{A:Around}{R:Result->Shared->Prop}{s:Shared}{elt target iter:Expr}{ifs:List Expr}{scope:Scope}{pos:Pos}{it acc:Value}{env:Env}(I:Nat->Shared->Prop)
  (turn:∀n s,I n s->wpAny (model prog w) A (pyNext it) (fun r s₁=>match r with
   | none=>R (.ok .next) s₁
   | some v=>wpAny (model prog w) A (letOwnedTupleGo target it v) (fun _ s₁'=>wpAny (model prog w) A (assign target env v) (fun _ s₂ =>
     wpAny (model prog w) A (y8 ifs env) (fun ok s₃ =>
      if ok=true then wpAny (model prog w) A (eval elt env) (fun x s₄ =>
       wpAny (model prog w) A (call (.builtin "list.append") [acc,x]) (fun _ s₅=>∃m,m < n/\I m s₅) (fun _ _=>False) s₄) (fun _ _=>False) s₃
      else ∃m,m < n/\I m s₃) (fun _ _=>False) s₂) (fun _ _=>False) s₁') (fun _ _=>False) s₁) (fun _ _=>False) s)
  (n:Nat) (h:I n s) :
  codeAny (model prog w) A (.compLoop (.ListComp elt [⟨target,iter,ifs,0⟩] scope pos) 0 it acc env) R s:=by
 refine codeAny_loop rfl I (fun n s hI=>?_) n h
 show wpAny _ A ((compTurn (.ListComp elt [⟨target,iter,ifs,0⟩] scope pos) 0 it acc env).onRaise (fun x=>do noteFrame x env;theTreesLotGoes x)) _ _ s
 refine wpAny_noted ?_
 rw[compTurn_list]
 refine zU (vF (zU (xA (turn n s hI) (fun r s₁ h₁=>?_) fun _ _ h'=>h'.elim)))
 cases r with
 | none=>exact zV h₁
 | some v =>
  refine zU (xA h₁ (fun _ s₁' h₁'=>?_) fun _ _ h'=>h'.elim)
  refine zU (xA h₁' (fun _ s₂ h₂=>zU (xA h₂ (fun ok s₃ h₃=>?_) fun _ _ h'=>h'.elim)) fun _ _ h'=>h'.elim)
  cases ok with
  | false=>exact zV ⟨rfl,h₃⟩
  | true =>
   exact zU (zU (xA h₃ (fun x s₄ h₄=>zU (xA h₄ (fun _ s₅ h₅=>zV (zV ⟨rfl,h₅⟩)) fun _ _ h'=>h'.elim)) fun _ _ h'=>h'.elim))
def B6(X:Cx)(pins:List (Addr×Obj))(σ:St)(Q:VK)(acc:Value)(C:Addr)(r:Result)(s5:Shared):Prop :=
 ∃ (D:Addr) (H5:Hp) (m:Str->Option Value),acc=.ref D/\r=.ok .next/\Inv X pins σ H5 s5/\s5.heap.Ns C m/\cq X pins H5 C/\Q (.ref D) H5
def Hb(J:It)(g:TG)(tt:TT)(te:TE)(D:Addr)(σ0:St)(H0:Hp)(Q:VK):Prop :=
 ∃W:Nat->Nat->St->Hp->Prop,(∃m,W 0 m σ0 H0)/\∀i m σ H,W i m σ H ->
  (J.stop i H/\Q (.ref D) H)\/(J.go i H/\∀x H',J.yld i H x H'->g x σ H' fun σ2 H2=>tt σ2 H2 fun b H3 =>
   if b=true then te σ2 H3 fun v H4=>∃ys,H4 D=some (.lst ys)/\ys.length < sizeLine/\∃m',m' < m/\W (i+1) m' σ2 (upd H4 D (.lst (ys++[v])))
   else ∃m',m' < m/\W (i+1) m' σ2 H3)
section
variable {X:Cx}{pins:List (Addr×Obj)}{σ σ':St}{H:Hp}{s:Shared}{scope:Scope}{N:List Str}
 {tg iter elt:Expr}{ifs:List Expr}{pos:Pos}{g:TG}{tt:TT}{te:TE}
theorem uh{J:It}{fp:List Addr}{it:Addr}{tn:Nat->Heap->Prop}{Q:VK}(hc:X.calm=true)(I:Inv X pins σ H s)(T:Turn X.prog X.w X.K tg J fp it tn)(st:tn 0 s.heap)(hf:∀b∈fp,cq X pins H b)(hk:scope.kind=.function)
  (hfree:∀x∈scope.names,x.2=.free->X.env.kindOf x.1=some .cell\/X.env.kindOf x.1=some .free) (hdup:∀ {x:Str},(x,NameKind.cell)∈scope.names->(x,NameKind.free)∈scope.names->False)
  (hcap:∀ (i:Nat) (x:Str) (v:V),N[i]?=some x->σ'[i]?=some (some v)->scope.names.lookup x=some .free/\∃j:Nat,X.N[j]?=some x/\σ[j]?=some (some v)) (hlen:σ'.length=N.length)
  (hY:∀fp s H,PG (bg X scope N fp s H) tg g/\M5 (bg X scope N fp s H) ifs tt/\PE (bg X scope N fp s H) elt te)
  (hrd:∀D,H D=none->Hb J g tt te D σ' (upd H D (.lst [])) Q) {E:Value->Shared->Prop} :
  wpAny (model X.prog X.w) X.A (newList []) (fun acc s₃=>wpAny (model X.prog X.w) X.A (newFunctionEnv scope X.env.globals (eU X.env scope.names []) [] X.env.qual none .none (some X.env)) (fun cenv s₄ =>
   codeAny (model X.prog X.w) X.A (.compStart (.ListComp elt [⟨tg,iter,ifs,0⟩] scope pos) 0 (.ref it) acc { cenv with scope:=relabel scope X.env }) (B6 X pins σ Q acc cenv.locals) s₄) E s₃) E s:=by
 refine qL ?_
 have hfl:∀b∈fp,b < s.heap.objs.size:=fun b hb=>let ⟨o,e,_⟩:=T.obj _ _ st b hb;zX e
 have I3:=I.lnew (ys:=[]) (its:=[]) (t':=s.toks) .nil (xV _)
 have hD:H s.heap.objs.size=none:=I.fresh
 obtain⟨W,⟨m0,w0⟩,turn⟩:=hrd _ hD
 generalize e3:({ s with heap:=s.heap.push { cls:=.type "list",data:=.seq ([]:List Value).toArray },toks:=s.toks }:Shared)=s3 at I3
 have e3h:s3.heap=s.heap.push { cls:=.type "list",data:=.seq ([]:List Value).toArray }:=by rw[<- e3]
 generalize hH3:upd H s.heap.objs.size (.lst [])=H3 at I3 w0 turn
 have hlt:s.heap.objs.size < s3.heap.objs.size:=by rw[e3h,xJ];exact kN _
 have hk3:∀b o,s.heap.get? b=some o->s3.heap.get? b=some o:=fun b o e=>by rw[e3h];exact zT _ e
 generalize s.heap.objs.size=D at *
 have f3:∀b∈fp,cq X pins H3 b:=fun b hb=>by
  obtain⟨f0,f⟩:=hf b hb
  refine⟨?_,f⟩
  rw[<- hH3,aG (yR (hfl b hb))]
  exact f0
 have st3:tn 0 s3.heap:=T.keep _ _ _ st fun b _ o e=>hk3 b o e
 refine AS fun h4 hns hkp hco=>?_
 dsimp only
 have I4:=HA (N:=N) (σ':=σ') (fp:=fp) I3 f3 (fun b hb=>wV (hfl b hb) hlt) hk hfree hns hkp hco hdup hcap hlen s3.toks
 have fC:∀H',H' s3.heap.objs.size=none->cq X pins H' s3.heap.objs.size:=fun H' hn=>I3.fpOk (yM _) hn
 obtain⟨hg,htt,hte⟩:=hY fp s3 H3
 have efp:∀b∈fp,∀H':Hp,H' b=none->cq (bg X scope N fp s3 H3) [] H' b:=fun b hb H' hn=>by
  refine⟨hn,(I4.ok.exf b hb).1,I4.ok.exfs b hb,.inl hb,(I4.ok.exf b hb).2,fun p hp=>?_⟩
  cases hp
 have loop:codeAny (model X.prog X.w) X.A (.compLoop (.ListComp elt [⟨tg,iter,ifs,0⟩] scope pos) 0 (.ref it) (.ref D) (fI X scope s3.heap.objs.size)) (B6 X pins σ Q (.ref D) s3.heap.objs.size) { s3 with heap:=h4 }:=by
  refine vo (fun n s'=>∃i σ' H',Inv (bg X scope N fp s3 H3) [] σ' H' s'/\tn i s'.heap/\(∀b∈fp,H' b=none)/\W i n σ' H') ?_ m0
   ⟨0,σ',H3,I4,T.keep _ _ _ st3 fun b _ o e=>hkp b o e,fun b hb=>(f3 b hb).1,w0⟩
  rintro n s5 ⟨i,σ5,H5,I5,st5,fr5,w5⟩
  rcases turn i n σ5 H5 w5 with ⟨stop,q⟩|⟨go,step⟩
  ·refine cw (T.done (bg X scope N fp s3 H3) rfl rfl rfl hc i [] s5 σ5 H5 _ I5 (fun b hb=>efp b hb H5 (fr5 b hb)) st5 stop) fun r s6 ⟨hr,I6⟩=>?_
   subst hr
   obtain⟨m,hn6,_⟩:=I6.loc
   refine⟨D,H5,m,rfl,rfl,I3.call' I6.os I6.base I6.hok I6.bare (fun b hb=>?_),hn6,fC H5 I6.free,q⟩
   obtain⟨f0,f1,f2,f4,f5,f6⟩:=f3 b hb
   exact⟨f4,f1,f5,f6⟩
  ·refine cw (T.item (bg X scope N fp s3 H3) rfl rfl rfl hc i [] s5 σ5 H5 _ I5 (fun b hb=>efp b hb H5 (fr5 b hb)) st5 go) fun r s6 ⟨u,hr,h6⟩=>?_
   subst hr
   refine cw h6 fun _ s7 ⟨x,H7,I7,r7,y7,st7,fr7⟩=>?_
   have I7':=I7.pinned (fun b hb=>efp b hb H7 (fr7 b hb)) (T.obj _ _ st7)
   have again:∀ {pl:List (Addr×Obj)}{σ9:St}{H9:Hp}{s9:Shared}{n':Nat},Inv (bg X scope N fp s3 H3) ([]++nS fp s7.heap) σ9 H9 s9->W (i+1) n' σ9 H9->∃i σ' H',Inv (bg X scope N fp s3 H3) [] σ' H' s9/\tn i s9.heap/\(∀b∈fp,H' b=none)/\W i n' σ' H':=fun {pl σ9 H9 s9 n'} I9 w9=>by
    refine⟨i+1,σ9,H9,I9.unpinned,T.keep _ _ _ st7 fun b hb o e=>(I9.pin (b,o) (yD _ (yD _ (dS hb e)))).1,fun b hb=>?_,w9⟩
    obtain⟨o,e,d⟩:=T.obj _ _ st7 b hb
    exact (I9.pin (b,o) (yD _ (yD _ (dS hb e)))).2.1
   refine cw (hg _ s7 σ5 H7 x u _ I7' r7 (step x H7 y7)) fun _ s8 ⟨σ8,H8,I8,q8⟩=>?_
   refine cw (htt _ s8 σ8 H8 _ I8 q8) fun ok s9 ⟨H9,I9,q9⟩=>?_
   cases ok with
   | false =>
    rw[yN (by decide)] at q9
    rw[yN (by decide)]
    obtain⟨m',hm,w9⟩:=q9
    exact⟨m',hm,again (pl:=[]) I9 w9⟩
   | true =>
    rw[yL rfl] at q9
    rw[yL rfl]
    refine cw (hte _ s9 σ8 H9 _ I9 q9) fun y s10 ⟨v,H10,I10,r10,ys,hD10,hz,m',hm,w10⟩=>?_
    refine cw (tO (X:=bg X scope N fp s3 H3) _ s10 σ8 H10 (.ref D) [v] (.ref D) [y] (fun _ H'=>W (i+1) m' σ8 H') I10 rfl (.cons r10 .nil) ⟨D,ys,v,rfl,rfl,hD10,hz,w10⟩) fun _ s11 ⟨_,H11,I11,_,w11⟩=>?_
    exact⟨m',hm,again (pl:=[]) I11 w11⟩
 exact codeAny_compStart_list loop (T.self _ 0 _ _ _ (T.keep _ _ _ st3 fun b _ o e=>hkp b o e) loop)
end
def HC(wi:TI)(g:TG)(tt:TT)(te:TE)(caps:St->St):TE:=fun σ H Q=>wi σ H fun J H1=>∀D,H1 D=none->Hb J g tt te D (caps σ) (upd H1 D (.lst [])) Q
structure je(X:Cx)(scope:Scope)(N:List Str)(caps:St->St):Prop where
 kind:scope.kind=.function
 free:∀x∈scope.names,x.2=.free->X.env.kindOf x.1=some .cell\/X.env.kindOf x.1=some .free
 dup:∀ {x:Str},(x,NameKind.cell)∈scope.names->(x,NameKind.free)∈scope.names->False
 loc:∀x∈scope.names,x.2=.local -> scope.names.lookup x.1=some .local
 cap:∀ (σ:St) (i:Nat) (x:Str) (v:V),N[i]?=some x->(caps σ)[i]?=some (some v)->scope.names.lookup x=some .free/\∃j:Nat,X.N[j]?=some x/\σ[j]?=some (some v)
 len:∀σ:St,(caps σ).length=N.length
section
variable {X:Cx}{scope:Scope}{N:List Str}{caps:St->St}{tg iter elt:Expr}{ifs:List Expr}{pos:Pos}{wi:TI}{g:TG}{tt:TT}{te:TE}
theorem HZ(hc:X.calm=true)(S:je X scope N caps)(hi:PI X tg iter wi)
  (hY:∀fp s H,PG (bg X scope N fp s H) tg g/\M5 (bg X scope N fp s H) ifs tt/\PE (bg X scope N fp s H) elt te)
  (hs:∀x,foldedSetIterable iter X.env x=pure x:=by intro _;rfl):PE X (.ListComp elt [⟨tg,iter,ifs,0⟩] scope pos) (HC wi g tt te caps):=by
 intro pins s σ H Q I h
 rw[eval_ListComp]
 refine wpAny_comprehension_free (use:=none) rfl hs (mz (kq I.ok S.free)) S.kind S.loc (cw (hi pins s σ H _ I h) fun v s1 h1=>cw h1 fun itv s2 h2=>?_)
 obtain⟨it,fp,tn,J,H2,e,I2,T,st2,f2,rd⟩:=h2
 subst e
 refine cw (uh (iter:=iter) (pos:=pos) (E:=X.xe) hc I2 T st2 f2 S.kind S.free S.dup (S.cap σ) (S.len σ) hY rd) fun acc s3 h3=>cw h3 fun cenv s4 h4=>?_
 refine jR h4 fun r s5 h5=>?_
 obtain⟨D,H5,m,rfl,rfl,I5,hn,fC,q⟩:=h5
 refine⟨m,hn,fun h' sb=>?_⟩
 obtain⟨f0,f1,f2',f3,f4,f5⟩:=fC
 exact⟨.ref D,H5,I5.turned (t':=s5.toks) (fun b o hb e=>(sb.2 b hb).trans e) f0 f1 f3 f4 f5,rfl,q⟩
theorem JH{i:Nat}{y:Str}{py spos:Pos}(hc:X.calm=true)(S:je X scope N caps)(hi:PI X tg iter wi)
  (hY:∀fp s H,PG (bg X scope N fp s H) tg g/\M5 (bg X scope N fp s H) ifs tt/\PE (bg X scope N fp s H) elt te)
  (hN:X.N.Nodup) (hiy:X.N[i]?=some y) (hy:X.env.scope.names.lookup y=some .local)
  (hsw:swapsWith (.ListComp elt [⟨tg,iter,ifs,0⟩] scope pos) (some (.Name y py)) spos.line X.env=pure true)
  (hs:∀x,foldedSetIterable iter X.env x=pure x:=by intro _;rfl):PS X (.Assign [.Name y py] (.ListComp elt [⟨tg,iter,ifs,0⟩] scope pos) spos) (Hs (HC wi g tt te caps) (zr i)):=by
 intro pins s σ H D I h
 rw[exec_Assign_Name_used _ _ _ _ hsw]
 refine zU (vF (zU ?_))
 show wpAny _ X.A (do let _ <- comprehension (.ListComp elt [⟨tg,iter,ifs,0⟩] scope pos) scope X.env _ (newList []) false (eval iter X.env) (some (assign (.Name y py) X.env))) _ _ s
 refine zU (xA (wpAny_comprehension_free (use:=some (assign (.Name y py) X.env)) (Q:=fun _ s'=>SP X pins D .next s') rfl hs (mz (kq I.ok S.free)) S.kind S.loc
  (cw (hi pins s σ H _ I h) fun v s1 h1=>cw h1 fun itv s2 h2=>?_)) (fun _ s' hq=>zV (zV hq)) fun _ _ e=>e)
 obtain⟨it,fp,tn,J,H2,e,I2,T,st2,f2,rd⟩:=h2
 subst e
 refine cw (uh (iter:=iter) (pos:=pos) (E:=X.xe) hc I2 T st2 f2 S.kind S.free S.dup (S.cap σ) (S.len σ) hY rd) fun acc s3 h3=>cw h3 fun cenv s4 h4=>?_
 refine jR h4 fun r s5 h5=>?_
 obtain⟨D',H5,m,rfl,rfl,I5,hn,fC,q⟩:=h5
 show wpAny _ X.A (assign (.Name y py) X.env (.ref D')) _ _ _
 refine wpAny_assign_Name (nX (v:=.ref D') I5 hN hiy (.inl hy) rfl (fun s6 I6 ⟨a,sa,ha⟩=>?_) (.inr hy))
 obtain⟨f0,f1,f2',f3,f4,f5⟩:=fC
 have hne:cenv.locals≠a:=by
  rcases ha with z|z
  ·rw[z];exact f1
  ·exact fun w=>f4 y a z w.symm
 refine⟨m,hn.sameBut sa hne,fun h' sb=>?_⟩
 exact⟨_,H5,I6.turned (t':=s6.toks) (fun b o hb e=>(sb.2 b hb).trans e) f0 f1 f3 f4 f5,q⟩
end
abbrev P0(X:Cx)(qual:Str)(scope:Scope)(f c L:Addr):Env:=W.envX qual scope L f (.ref c) (eU X.env scope.names [])
def gM(X:Cx)(A:Around)(qual:Str)(scope:Scope)(N:List Str)(f c:Addr)(s:Shared)(H:Hp):Cx where
 prog:=X.prog
 w:=X.w
 K:=X.K
 mg:=X.mg
 base:=X.base
 A:=A.deeper (P0 X qual scope f c s.heap.objs.size)
 N:=N
 s₀:=s
 H₀:=H
 env:=P0 X qual scope f c s.heap.objs.size
 outer:=X.stack
 stack:=P0 X qual scope f c s.heap.objs.size::X.stack
 ex:=[]
 fn:=fun _=>false
 calm:=true
 pn:=[]
 xe:=fun _ _=>False
section
variable {X:Cx}{pins:List (Addr×Obj)}{σ:St}{H:Hp}{s:Shared}{scope:Scope}{N:List Str}{h1:Heap}{A:Around}{caps:St->St}{p qual:Str}{f c:Addr}{u:Value}{v:V}
theorem Jz(I:Inv X pins σ H s)(hd:A.handled=none)(hA:A.frames=some X.stack)(S:je X scope N caps)(hnc:∀x∈scope.names,x.2≠.cell)(hN0:N[0]?=some p)(hp:scope.names.lookup p=some .local)(hNd:N.Nodup)(r:RelV v u)
  (hns:h1.Ns s.heap.objs.size (fun x=>[(p,u)].reverse.lookup x)) (hkeep:∀b o,s.heap.get? b=some o->h1.get? b=some o) (t':Nat) :
  Inv (gM X A qual scope N f c s H) [] ((caps σ).set 0 (some v)) H { s with heap:=h1,toks:=t' }:=by
 have hcl:=kq I.ok S.free
 have clx:∀x c,(eU X.env scope.names []).lookup x=some c->X.env.cells.lookup x=some c:=fun x c e=>lg hcl (fun _ _ z=>by cases z) x c (mem_of_lookup e)
 have noA:∀b:Addr,b∉(gM X A qual scope N f c s H).ex:=fun b z=>absurd (show b∈([]:List Addr) from z) (by simp)
 refine⟨⟨I.ok.mod,S.kind,rfl,rfl,yM _,fun x y d e1 e2=>I.ok.inj x y d (clx x d e1) (clx y d e2),fun x hx=>?_,fun x d z=>?_,fun _=>hd,Around.frames_deeper hA,.inr ⟨rfl,rfl⟩,fun b z=>absurd z (noA b),I.bs,yC I.ok.bsz I.sz,fun b _ _=>noA b,fun b z=>absurd z (noA b),I.stack,I.stkFree⟩,
  rfl,I.bare,Un.kept hkeep,⟨_,hns,fun i x w e1 e2 e3=>?_⟩,fun x d e=>?_,I.hok.fresh (yM _),fun x d e=>I.freeC x d (clx x d e),fun q hq=>absurd (show q∈([]:List (Addr×Obj)) from hq) (by simp),I.hok.kept hkeep,?_⟩
 ·rcases hx with hx|hx
  ·exact absurd rfl (hnc _ (mem_of_lookup (show scope.names.lookup x=some .cell from hx)))
  ·exact gf (.inl hx)
 ·cases z
 ·cases i with
  | zero =>
   have e1:N[0]?=some x:=e1
   rw[hN0] at e1
   cases e1
   have hl:0 < (caps σ).length:=by rw[S.len];exact (List.getElem?_eq_some_iff.mp hN0).1
   rw[vP hl] at e2
   cases e2
   exact⟨u,r,.inl ⟨hp,by simp⟩⟩
  | succ i =>
   have e2':(caps σ)[i+1]?=some (some w):=by
    rw[kR (by omega)] at e2;exact e2
   obtain⟨hfr,j,hj,hv⟩:=S.cap σ (i+1) x w e1 e2'
   have hm:(x,NameKind.free)∈scope.names:=mem_of_lookup hfr
   obtain⟨m,hn,hl⟩:=I.loc
   have kx:=S.free _ hm rfl
   obtain⟨u',ru,lk⟩:=hl j x w hj hv (kx.elim (fun k=>.inr (.inl k)) fun k=>.inr (.inr k))
   refine⟨u',ru,.inr ⟨.inr hfr,?_⟩⟩
   rcases lk with ⟨k,_⟩|⟨_,c',ec,ic⟩
   ·have k:X.env.kindOf x=some .local:=k
    rcases kx with k'|k'<;>· rw[k] at k';cases k'
   ·obtain⟨c'',hc'⟩:=gf (env:=X.env) (acc:=[]) (.inl hfr)
    have e':=clx x c'' hc'
    rw[ec] at e'
    cases e'
    exact⟨c',hc',ic.keeps hkeep⟩
 ·obtain⟨w,q⟩:=I.cell x d (clx x d e)
  exact⟨w,q.keeps hkeep⟩
 ·rw[yB];exact S.len σ
theorem yk{k:Nat}{params:Arguments}{body:Expr}{pm ctv:Value}{name:Str}{te:TE}{Q:VK}(I:Inv X pins σ H s)(hr:eu (k+1) A)(hA:A.frames=some X.stack)(S:je X scope N caps)(hnc:∀x∈scope.names,x.2≠.cell)
  (hN0:N[0]?=some p) (hp:scope.names.lookup p=some .local) (hNd:N.Nodup) (hco:scope.isCoroutine=false) (hgen:scope.isGenerator=false)
  (hf:s.heap.get? f=some (W.kla_obj name qual params body scope (eU X.env scope.names []) pm c ctv)) (hcod:H c=some (.cod qual)) (hb:bindArgs (W.kla_fn name qual params body scope (eU X.env scope.names []) pm (.ref c) ctv) ⟨[u],[]⟩=pure [(p,u)])
  (r:RelV v u) (hY:PE (gM X A qual scope N f c s H) body te) (q:te ((caps σ).set 0 (some v)) H Q) :
  wpAny (model X.prog X.w) A (call (.ref f) [u]) (EP X pins σ Q) (fun _ _=>False) s:=by
 have hcd:s.heap.CodeRec (.ref c) qual:=I.hok c _ hcod
 refine vL (W.kla_callFunE hr.depth hf rfl hco hgen rfl hcd ?_)
 rw[hb]
 refine zV (wpAny_newFunctionEnv hnc (fun y hy=>?_) (fun h1 hns hsb=>⟨?_,?_⟩) S.kind)
 ·rw[List.mem_singleton.mp hy];exact hp
 ·exact I.nolimit.fresh _ hsb
 ·have hk1:∀b o,s.heap.get? b=some o->h1.get? b=some o:=fun b o e=>hsb.extBut b o (yR (zX e)) (zT _ e)
  have I1:=Jz (qual:=qual) (f:=f) (c:=c) I hr.hd hA S hnc hN0 hp hNd r hns hk1 (s.toks+[(p,u)].length)
  refine W.kla_codeExpr (xA (hY [] _ _ H Q I1 q) (fun w s' ⟨v',H',I',r',q'⟩=>?_) fun e s' h=>False.elim h)
  exact⟨v',H',I.call' I'.os I'.base I'.hok I'.bare (fun b z=>absurd (show b∈([]:List Addr) from z) (by simp)),r',q'⟩
end
theorem AN{pos pos':Pos}{c v:Value}(l:List Value)(h:TriplesOk l)(e:codeAmong pos' (l++[rawInt pos.line,rawInt pos.col,c])=some v):codeAmong pos' l=some v\/v=c:=by
 fun_induction TriplesOk l with
 | case1 =>
  simp only[xO,codeAmong,rawInt] at e
  split at e
  ·cases e;exact .inr rfl
  ·cases e
 | case2 a t b u x rest ih =>
  simp only[xF,codeAmong] at e ⊢
  split at e
  ·rename_i hc;rw[yL hc];exact .inl e
  ·rename_i hc;rw[yN hc];exact ih h e
 | case3 l h1 h2=>exact h.elim
section
variable {X:Cx}{pins:List (Addr×Obj)}{σ:St}{H:Hp}{s:Shared}{scope:Scope}{N:List Str}{caps:St->St}{qual:Str}{c P:Addr}
theorem z8{params:Arguments}{body:Expr}{lpos:Pos}{Q:Value->Shared->Prop}(I:Inv X pins σ H s)(S:je X scope N caps)(hq:X.env.qual++"<lambda>"=qual)(hcode:X.env.code=.ref c)(C:W.CodeHd X.base c P)(hT:H P=some (.tab qual))(hB:OP X.mg X.base)
  (hdef:defaultsOf params X.env=([],[]))
  (h:∀ (f c':Addr) (pm ctv:Value) (s':Shared) (H':Hp),Inv X pins σ H' s'->s'.heap.get? f=some (W.kla_obj "<lambda>" qual params body scope (eU X.env scope.names []) pm c' ctv)->H' f=none->H' c'=some (.cod qual)->aU H H'->cq X pins H' f->(∀b,H' b≠none->H b≠none\/H' b=some (.cod qual))->Q (.ref f) s') :
  wpAny (model X.prog X.w) X.A (eval (.Lambda params body scope lpos) X.env) Q X.xe s:=by
 have hcl:=mz (kq I.ok S.free)
 have hCs:=C.keeps I.bk
 have hg:s.heap.Ns mainGlobals X.mg:=by
  obtain⟨o,es,ep,e,r⟩:=I.ok.mod.glob
  exact⟨o,es,ep,I.bk _ _ e,r⟩
 have hPn:X.base.get? P=none:=by
  cases e:X.base.get? P with
  | none=>rfl
  | some o=>rw[(I.bs P o e).2] at hT;cases hT
 obtain⟨ps,hP,ht,hco⟩:=I.hok P _ hT
 have hb:s.heap.BuiltinsAt X.mg P:=by
  obtain⟨bm,o,b1,b2,b3,b4,b5⟩:=hB
  exact⟨bm,o,b1,b2,b3,(fun z=>by rw[z,hPn] at b4;cases b4),I.bk _ _ b4,b5⟩
 refine W.kla_eval hdef ?_
 rw[hq]
 cases hf:codeAmong lpos ps.toList with
 | some cv =>
  obtain⟨c',rfl,hc'⟩:=hco lpos cv hf
  refine W.kla_makeFunctionHit hcl I.ok.glob hg hcode hCs hP ht hf hb fun ctv h' tk kp hz=>?_
  have kp2:∀b o,s.heap.get? b=some o->(h'.push (W.kla_obj "<lambda>" qual params body scope (eU X.env scope.names []) ((X.mg "__name__").getD .none) c' ctv)).get? b=some o:=fun b o e=>zT _ (kp b o e)
  have hn:H h'.objs.size=none:=I.hok.fresh hz
  exact h _ c' _ ctv _ H (I.kept (t':=tk) kp2) (zW _ rfl) hn hc' (.refl _) (I.fpOk hz hn) fun b z=>.inl z
 | none =>
  have hgP:mainGlobals≠P:=fun z=>by
   obtain⟨o,es,ep,e,r⟩:=I.ok.mod.glob
   rw[z,hPn] at e;cases e
  refine W.kla_makeFunction hcl I.ok.glob hg hcode hCs hP ht hf hgP hb fun c' ctv h' tk hx hc1 hc2 hcr hP'=>?_
  have hn:H c'=none:=I.hok.fresh hc1
  have hz:s.heap.objs.size<=h'.objs.size:=jS (qZ hc1 hc2)
  have nP:∀ {b:Addr}{u:HO},H b=some u->(∀q,u≠.tab q)->b≠P:=fun {b u} e hne z=>by subst z;rw[hT] at e;cases e;exact hne _ rfl
  have kp:∀b o,b≠P->s.heap.get? b=some o->(h'.push (W.kla_obj "<lambda>" qual params body scope (eU X.env scope.names []) ((X.mg "__name__").getD .none) c' ctv)).get? b=some o:=fun b o hb e=>zT _ (hx b o hb e)
  have hPc:P≠c':=fun z=>by rw[<- z,hT] at hn;cases hn
  have up:∀b u,H b=some u->upd H c' (.cod qual) b=some u:=fun b u e=>by rw[aG (aV e hn)];exact e
  have un:Un X.fs [] H (upd H c' (.cod qual)) s.heap (h'.push (W.kla_obj "<lambda>" qual params body scope (eU X.env scope.names []) ((X.mg "__name__").getD .none) c' ctv)):=by
   refine⟨fun b o e n _ _=>kp b o (fun z=>by rw[z,hT] at n;cases n) e,fun b o e n _ _=>⟨o.slots,kp b o (fun z=>by rw[z,hT] at n;cases n) e⟩,fun b o e n _=>?_,fun b o e _=>?_,fun b xs e=>up b _ e,fun b o u e=>up b _ e,⟨fun b u e _=>up b u e,fun b q ps' e z=>?_⟩⟩
   ·rw[aG (yR (zP (zX e) hc1))];exact n
   ·by_cases hb:b=P
    ·subst hb;exact⟨_,zT _ hP'⟩
    ·exact⟨o,kp b o hb e⟩
   ·by_cases hb:b=P
    ·subst hb
     rw[hP] at z
     cases z
     exact⟨_,zT _ hP'⟩
    ·exact⟨#[],by rw[Array.append_empty];exact kp b _ hb z⟩
  have hok:nI X.prog X.w (upd H c' (.cod qual)) (h'.push (W.kla_obj "<lambda>" qual params body scope (eU X.env scope.names []) ((X.mg "__name__").getD .none) c' ctv)):=by
   intro b u e
   by_cases hbc:b=c'
   ·subst hbc
    rw[aI] at e
    cases e
    obtain⟨c0,oc,vs,t,e0,e1,r⟩:=hcr
    exact⟨c0,oc,vs,t,e0,zT _ e1,r⟩
   ·rw[aG hbc] at e
    by_cases hb:b=P
    ·subst hb
     rw[hT] at e
     cases e
     refine⟨_,zT _ hP',?_,fun pos v hv=>?_⟩
     ·have:=TriplesOk_snoc lpos.line lpos.col (.ref c') ps.toList ht
      simpa using this
     ·have hv':codeAmong pos (ps.toList++[rawInt lpos.line,rawInt lpos.col,.ref c'])=some v:=by simpa using hv
      rcases AN ps.toList ht hv' with z|z
      ·obtain⟨c0,z1,z2⟩:=hco pos v z
       exact⟨c0,z1,up _ _ z2⟩
      ·exact⟨c',z,aI⟩
    ·exact (I.hok b u e).stay (fun d o hd eo=>kp d o (by
      rcases hd with rfl|hd
      ·exact hb
      ·exact nP hd fun q z=>by cases z) eo) (fun d hd=>up d _ hd) fun d o hd _=>up d _ hd
  have I':=I.un (t':=tk) un hok
  have hnf:upd H c' (.cod qual) h'.objs.size=none:=by
   rw[aG (jI hc2)];exact I.hok.fresh hz
  refine h _ c' _ ctv _ _ I' (zW _ rfl) hnf aI up (I.fpOk hz hnf) fun b z=>?_
  by_cases hbc:b=c'
  ·subst hbc;exact .inr aI
  ·rw[aG hbc] at z;exact .inl z
end
end L2
namespace Dl
open PySem L2 PySem.Spec PyProof.Rows
abbrev D:=PyData
mutual
def Rep(K:W.Frag)(H:Hp):D->V->Prop
 | .none,v=>v=.non
 | .bool b,v=>v=.bl b
 | .int i,v=>v=.int i
 | .str x,v=>v=.str x
 | .tuple ds,v=>∃a vs,v=.ref a/\iI K H a vs/\aw K H ds vs
 | .list ds,v=>∃a vs,v=.ref a/\hZ K H a vs/\aw K H ds vs
 | .dict _,_=>False
def aw(K:W.Frag)(H:Hp):List D->List V->Prop
 | [],vs=>vs=[]
 | d::ds,vs=>∃v r,vs=v::r/\Rep K H d v/\aw K H ds r
end
theorem aO{K:W.Frag}{H H':Hp}{a:Addr}{xs:List V}(e:aU H H')(h:iI K H a xs):iI K H' a xs:=by
 rcases h with (h|⟨o,h⟩)|h
 ·exact .inl (.inl (e _ _ h))
 ·exact .inl (.inr ⟨o,e _ _ h⟩)
 ·exact .inr h
mutual
theorem Rep.mono{K:W.Frag}{H H':Hp}(e:aU H H'):∀ {d:D}{v:V},Rep K H d v->Rep K H' d v
 | .none,_,h=>h
 | .bool _,_,h=>h
 | .int _,_,h=>h
 | .str _,_,h=>h
 | .tuple ds,_,h=>by
  simp only[Rep] at h ⊢
  obtain⟨a,vs,rfl,q,r⟩:=h
  exact⟨a,vs,rfl,aO e q,aw.mono e r⟩
 | .list ds,_,h=>by
  simp only[Rep] at h ⊢
  obtain⟨a,vs,rfl,q,r⟩:=h
  exact⟨a,vs,rfl,e.seq q,aw.mono e r⟩
 | .dict _,_,h=>h
theorem aw.mono{K:W.Frag}{H H':Hp}(e:aU H H'):∀ {ds:List D}{vs:List V},aw K H ds vs->aw K H' ds vs
 | [],_,h=>h
 | d::ds,_,h=>by
  simp only[aw] at h ⊢
  obtain⟨v,r,rfl,a,b⟩:=h
  exact⟨v,r,rfl,Rep.mono e a,aw.mono e b⟩
end
section
variable {K:W.Frag}{H:Hp}
theorem aw.nil:aw K H [] []:=by simp[aw]
theorem aw.cons{d:D}{v:V}{ds:List D}{vs:List V}(a:Rep K H d v)(b:aw K H ds vs):aw K H (d::ds) (v::vs):=by
 simp only[aw];exact⟨v,vs,rfl,a,b⟩
theorem aw.cons_inv{d:D}{ds:List D}{vs:List V}(h:aw K H (d::ds) vs):∃v r,vs=v::r/\Rep K H d v/\aw K H ds r:=by simpa only[aw] using h
theorem aw.nil_inv{vs:List V}(h:aw K H [] vs):vs=[]:=by simpa only[aw] using h
theorem aw.length:∀ {ds:List D}{vs:List V},aw K H ds vs->vs.length=ds.length
 | [],_,h=>by rw[h.nil_inv];rfl
 | d::ds,_,h=>by obtain⟨v,r,rfl,_,b⟩:=h.cons_inv;simp[aw.length b]
theorem aw.get:∀ {ds:List D}{vs:List V}{i:Nat}{v:V},aw K H ds vs->vs[i]?=some v->∃d,ds[i]?=some d/\Rep K H d v
 | [],_,i,v,h,e=>by rw[h.nil_inv] at e;simp at e
 | d::ds,_,i,v,h,e=>by
  obtain⟨v',r,rfl,a,b⟩:=h.cons_inv
  cases i with
  | zero=>simp at e;subst e;exact⟨d,rfl,a⟩
  | succ i=>simp at e;obtain⟨d',h1,h2⟩:=aw.get b e;exact⟨d',by simpa using h1,h2⟩
theorem aw.getD:∀ {ds:List D}{vs:List V}{i:Nat}{d:D},aw K H ds vs->ds[i]?=some d->∃v,vs[i]?=some v/\Rep K H d v
 | [],_,i,d,h,e=>by simp at e
 | d::ds,_,i,d',h,e=>by
  obtain⟨v',r,rfl,a,b⟩:=h.cons_inv
  cases i with
  | zero=>simp at e;subst e;exact⟨v',rfl,a⟩
  | succ i=>simp at e;obtain⟨v,h1,h2⟩:=aw.getD b e;exact⟨v,by simpa using h1,h2⟩
theorem aw.append:∀ {ds es:List D}{vs us:List V},aw K H ds vs->aw K H es us->aw K H (ds++es) (vs++us)
 | [],_,_,_,h,g=>by rw[h.nil_inv];exact g
 | d::ds,_,_,_,h,g=>by obtain⟨v,r,rfl,a,b⟩:=h.cons_inv;exact aw.cons a (aw.append b g)
theorem aw.take:∀ {ds:List D}{vs:List V}(n:Nat),aw K H ds vs->aw K H (ds.take n) (vs.take n)
 | [],_,n,h=>by rw[h.nil_inv];simp[aw]
 | d::ds,_,0,h=>by simp[aw]
 | d::ds,_,n+1,h=>by obtain⟨v,r,rfl,a,b⟩:=h.cons_inv;exact aw.cons a (aw.take n b)
theorem aw.drop:∀ {ds:List D}{vs:List V}(n:Nat),aw K H ds vs->aw K H (ds.drop n) (vs.drop n)
 | [],_,n,h=>by rw[h.nil_inv];simp[aw]
 | d::ds,_,0,h=>h
 | d::ds,_,n+1,h=>by obtain⟨v,r,rfl,a,b⟩:=h.cons_inv;exact aw.drop n b
theorem aw.reverse:∀ {ds:List D}{vs:List V},aw K H ds vs->aw K H ds.reverse vs.reverse
 | [],_,h=>by rw[h.nil_inv];simp[aw]
 | d::ds,_,h=>by
  obtain⟨v,r,rfl,a,b⟩:=h.cons_inv
  rw[vC,vC]
  exact aw.append (aw.reverse b) (aw.cons a aw.nil)
end
structure bJ(HF H HF' H':Hp):Prop where
 hh:aU H H'
 ff:aU HF HF'
 fh:aU HF' H'
 nw:∀a o,HF' a=some o->HF a=some o\/H a=none
theorem bJ.refl{HF H:Hp}(s:aU HF H):bJ HF H HF H:=⟨.refl _,.refl _,s,fun _ _ e=>.inl e⟩
theorem bJ.trans{HF H HF1 H1 HF2 H2:Hp}(a:bJ HF H HF1 H1)(b:bJ HF1 H1 HF2 H2):bJ HF H HF2 H2 :=
 ⟨a.hh.trans b.hh,a.ff.trans b.ff,b.fh,fun x o e=>(b.nw x o e).elim (fun z=>a.nw x o z) fun z=>.inr (a.hh.free z)⟩
theorem eJ{H:Hp}{p:Addr}{o:HO}(h:H p=none):aU H (upd H p o):=fun b u e=>by rw[aG (aV e h)];exact e
theorem bJ.new{HF H:Hp}{p:Addr}{o:HO}(s:aU HF H)(h:H p=none):bJ HF H (upd HF p o) (upd H p o):=by
 have hf:HF p=none:=s.free h
 refine⟨eJ h,eJ hf,fun b u e=>?_,fun b u e=>?_⟩
 ·by_cases hb:b=p
  ·subst hb;rw[aI] at e ⊢;exact e
  ·rw[aG hb] at e ⊢;exact s b u e
 ·by_cases hb:b=p
  ·subst hb;exact .inr h
  ·rw[aG hb] at e;exact .inl e
theorem bJ.own{HF H:Hp}{p:Addr}{o:HO}(s:aU HF H)(h:H p=none):bJ HF H HF (upd H p o) :=
 ⟨eJ h,.refl _,fun b u e=>by rw[aG (aV (s b u e) h)];exact s b u e,fun _ _ e=>.inl e⟩
theorem bJ.freeze{HF H HF1 H1:Hp}{p:Addr}{o:HO}(g:bJ HF H HF1 H1)(h:H p=none)(h1:H1 p=some o)(hf:HF1 p=none):bJ HF H (upd HF1 p o) H1 :=
 ⟨g.hh,g.ff.trans (eJ hf),fun b u e=>by
  by_cases hb:b=p
  ·subst hb;rw[aI] at e;rw[h1,<- e]
  ·rw[aG hb] at e;exact g.fh b u e,fun b u e=>by
  by_cases hb:b=p
  ·subst hb;exact .inr h
  ·rw[aG hb] at e;exact g.nw b u e⟩
def rN:List Str:=["ways_of","turned_order","fairest"]
def eN(K:W.Frag)(HF:Hp):Prop:=∀ (f:Addr) (oc:Value) (od:Option Addr) (fd:FuncData) (sl:Array (Option Value)) (c P:Addr),K.lookup f=some ⟨oc,od,.func fd,sl⟩->fd.qualname∈rN->fd.code=.ref c->W.codeHdIn K c P=true->HF P=some (.tab (fd.qualname++".<locals>."++"<lambda>"))
theorem eN.mono{K:W.Frag}{HF HF':Hp}(h:eN K HF)(e:aU HF HF'):eN K HF':=fun f oc od fd sl c P a b d q=>e _ _ (h f oc od fd sl c P a b d q)
abbrev Env:=List (Option D)
structure cS(K:W.Frag)(HF:Hp)(ρ:Env)(σ:L2.St):Prop where
 get:∀ (i:Nat) (d:D),ρ[i]?=some (some d)->∃v,σ[i]?=some (some v)/\Rep K HF d v
 len:ρ.length<=σ.length
 tb:eN K HF
theorem cS.mono{K:W.Frag}{HF HF':Hp}{ρ:Env}{σ:L2.St}(h:cS K HF ρ σ)(e:aU HF HF'):cS K HF' ρ σ:=⟨fun i d q=>let ⟨v,a,b⟩:=h.get i d q;⟨v,a,b.mono e⟩,h.len,h.tb.mono e⟩
def tD(K:W.Frag)(f:Env->Option D):TE:=fun σ H Q=>∃HF ρ d,aU HF H/\cS K HF ρ σ/\f ρ=some d/\∀v H' HF',bJ HF H HF' H'->Rep K HF' d v->Q v H'
def DE(X:Cx)(e:Expr)(f:Env->Option D):Prop:=PE X e (tD X.K f)
def tF(K:W.Frag)(f:Env->Option (List D)):TE:=fun σ H Q=>∃HF ρ ds,aU HF H/\cS K HF ρ σ/\f ρ=some ds /\
 ∀a vs H' HF',bJ HF H HF' H'->H a=none->HF' a=none->H' a=some (.lst vs)->aw K HF' ds vs->Q (.ref a) H'
def DF(X:Cx)(e:Expr)(f:Env->Option (List D)):Prop:=PE X e (tF X.K f)
def K5(K:W.Frag)(f:Env->Option Bool):TT:=fun σ H Q=>∃HF ρ b,aU HF H/\cS K HF ρ σ/\f ρ=some b/\∀H' HF',bJ HF H HF' H'->Q b H'
def DT(X:Cx)(e:Expr)(f:Env->Option Bool):Prop:=PT X e (K5 X.K f)
def PR(K:W.Frag)(f:Env->Option (List D)):TA:=fun σ H Q=>∃HF ρ ds,aU HF H/\cS K HF ρ σ/\f ρ=some ds/\∀vs H' HF',bJ HF H HF' H'->aw K HF' ds vs->Q vs H'
def DA(X:Cx)(es:List Expr)(f:Env->Option (List D)):Prop:=PA X es (PR X.K f)
section
variable {X:Cx}
theorem bh{e:Expr}{t t':TE}(h:PE X e t)(i:∀σ H Q,t' σ H Q->t σ H Q):PE X e t':=fun pins s σ H Q I q=>h pins s σ H Q I (i σ H Q q)
theorem uI{e:Expr}{t t':TT}(h:PT X e t)(i:∀σ H Q,t' σ H Q->t σ H Q):PT X e t':=fun pins s σ H Q I q=>h pins s σ H Q I (i σ H Q q)
theorem Bg{e:List Expr}{t t':TA}(h:PA X e t)(i:∀σ H Q,t' σ H Q->t σ H Q):PA X e t':=fun pos pins s σ H Q I q=>h pos pins s σ H Q I (i σ H Q q)
theorem bs{α β:Type}{x:Option α}{f:α->Option β}{b:β}(h:x.bind f=some b):∃a,x=some a/\f a=some b:=by
 cases x with
 | none=>cases h
 | some a=>exact⟨a,rfl,h⟩
theorem DF.de{e:Expr}{f:Env->Option (List D)}(h:DF X e f):DE X e (fun ρ=>(f ρ).map PyData.list):=bh h fun σ H Q ⟨HF,ρ,d,sm,eo,hf,q⟩=>by
 have hf:(f ρ).map PyData.list=some d:=hf
 cases e1:f ρ with
 | none=>rw[e1] at hf;cases hf
 | some ds =>
  rw[e1] at hf
  obtain rfl:PyData.list ds=d:=xD hf
  refine⟨HF,ρ,ds,sm,eo,e1,fun a vs H' HF' g ha hf' h' r=>q _ _ (upd HF' a (.lst vs)) (g.freeze ha h' hf') ?_⟩
  simp only[Rep]
  exact⟨a,vs,rfl,.inl (.inl aI),r.mono (eJ hf')⟩
def ae(i:Nat):Env->Option D:=fun ρ=>(ρ[i]?).getD none
theorem KU(i:Nat){x:Str}{pos:Pos}(hN:X.N[i]?=some x)(hv:HX X.env.scope x)(hd:(x == ("__debug__":Str))=false:=by decide)(hcd:(x == ("__classdict__":Str))=false:=by decide):DE X (.Name x pos) (ae i) :=
 bh (k6 hN hv hd hcd) fun σ H Q ⟨HF,ρ,d,sm,eo,hf,q⟩=>by
  have hf:(ρ[i]?).getD none=some d:=hf
  cases e:ρ[i]? with
  | none=>rw[e] at hf;cases hf
  | some o =>
   rw[e] at hf
   have hf:o=some d:=hf
   subst hf
   obtain⟨v,a,b⟩:=eo.get i d e
   exact⟨v,a,q v H HF (.refl sm) b⟩
def fC(d:D):Env->Option D:=fun _=>some d
theorem Mj{i j pos}:DE X (.Constant (.int i) j pos) (fC (.int i)):=bh Gb fun σ H Q ⟨HF,ρ,d,sm,eo,hf,q⟩=>by cases hf;exact q _ H HF (.refl sm) (by simp[Rep])
theorem Nd{b j pos}:DE X (.Constant (.bool b) j pos) (fC (.bool b)):=bh EL fun σ H Q ⟨HF,ρ,d,sm,eo,hf,q⟩=>by cases hf;exact q _ H HF (.refl sm) (by simp[Rep])
theorem LU{j pos}:DE X (.Constant .none j pos) (fC .none):=bh Lr fun σ H Q ⟨HF,ρ,d,sm,eo,hf,q⟩=>by cases hf;exact q _ H HF (.refl sm) (by simp[Rep])
theorem LZ{x j pos}:DE X (.Constant (.str x) j pos) (fC (.str x)):=bh GP fun σ H Q ⟨HF,ρ,d,sm,eo,hf,q⟩=>by cases hf;exact q _ H HF (.refl sm) (by simp[Rep])
theorem Iy{x:Str}{i:Int}{t:Tok}{pos:Pos}(hg:Gl X x)(hm:X.mg x=some (.int i t))(hd:(x == ("__debug__":Str))=false:=by decide):DE X (.Name x pos) (fC (.int i)) :=
 bh (JP (v:=.int i) hg hm ⟨t,rfl⟩ hd) fun σ H Q ⟨HF,ρ,d,sm,eo,hf,q⟩=>by cases hf;exact q _ H HF (.refl sm) (by simp[Rep])
def fS(K:W.Frag)(r:R2)(g:D->D->Option D):Prop:=∀HF H x y v1 v2 d Q,aU HF H->Rep K HF x v1->Rep K HF y v2->g x y=some d->(∀v H' HF',bJ HF H HF' H'->Rep K HF' d v->Q v H')->r v1 v2 H Q
def f2(g:D->D->Option D)(f1 f2:Env->Option D):Env->Option D:=fun ρ=>(f1 ρ).bind fun x=>(f2 ρ).bind fun y=>g x y
variable {a b c:Expr}{fa fb fc:Env->Option D}{pos:Pos}
theorem Iv{r:R2}{g:D->D->Option D}(hr:fS X.K r g):∀σ H Q,tD X.K (f2 g fa fb) σ H Q->M8 r (tD X.K fa) (tD X.K fb) σ H Q:=fun σ H Q ⟨HF,ρ,d,sm,eo,hf,q⟩=>by
 obtain⟨x,hx,hf⟩:=bs hf
 obtain⟨y,hy,hg⟩:=bs hf
 exact⟨HF,ρ,x,sm,eo,hx,fun v1 H1 HF1 g1 r1=>⟨HF1,ρ,y,g1.fh,eo.mono g1.ff,hy,fun v2 H2 HF2 g2 r2=>hr HF2 H2 x y v1 v2 d Q g2.fh (r1.mono g2.ff) r2 hg fun v H' HF' g3 r3=>q v H' HF' ((g1.trans g2).trans g3) r3⟩⟩
theorem zm{op:Operator}{r:R2}{g:D->D->Option D}(ho:gY X (binaryOp op) r)(hr:fS X.K r g)(ha:DE X a fa)(hb:DE X b fb):DE X (.BinOp a op b pos) (f2 g fa fb):=bh (CL ho ha hb) (Iv hr)
theorem jf{op:CmpOp}{r:R2}{g:D->D->Option D}(ho:gY X (compareOp op) r)(hr:fS X.K r g)(ha:DE X a fa)(hb:DE X b fb)(hm:behindInMarks op b=false):DE X (.Compare a [op] [b] pos) (f2 g fa fb):=bh (IR ho ha hb hm) (Iv hr)
def wz(C:Int->Int->Prop)[∀i j,Decidable (C i j)](g:Int->Int->D):D->D->Option D
 | .int i,.int j=>if C i j then some (g i j) else none
 | _,_=>none
theorem Fz{K:W.Frag}{C:Int->Int->Prop}[∀i j,Decidable (C i j)]{gi:Int->Int->Int}:fS K (rI C fun i j=>.int (gi i j)) (wz C fun i j=>.int (gi i j)):=by
 intro HF H x y v1 v2 d Q sm r1 r2 hg q
 cases x<;>cases y<;>simp only[wz] at hg<;>try cases hg
 rename_i i j
 simp only[Rep] at r1 r2
 by_cases hc:C i j
 ·rw[yL hc] at hg
  cases hg
  exact⟨i,j,r1,r2,hc,q _ H HF (.refl sm) (by simp[Rep])⟩
 ·rw[yN hc] at hg;cases hg
theorem FI{K:W.Frag}{gi:Int->Int->Int}:fS K (HE fun i j=>.int (gi i j)) (wz (fun _ _=>True) fun i j=>.int (gi i j)):=by
 intro HF H x y v1 v2 d Q sm r1 r2 hg q
 cases x<;>cases y<;>simp only[wz] at hg<;>try cases hg
 rename_i i j
 simp only[Rep] at r1 r2
 exact⟨i,j,r1,r2,q _ H HF (.refl sm) (by simp[Rep])⟩
theorem g8{K:W.Frag}{gi:Int->Int->Bool}:fS K (HE fun i j=>.bl (gi i j)) (wz (fun _ _=>True) fun i j=>.bool (gi i j)):=by
 intro HF H x y v1 v2 d Q sm r1 r2 hg q
 cases x<;>cases y<;>simp only[wz] at hg<;>try cases hg
 rename_i i j
 simp only[Rep] at r1 r2
 exact⟨i,j,r1,r2,q _ H HF (.refl sm) (by simp[Rep])⟩
noncomputable instance (i j:Int):Decidable (wo i j):=by unfold wo;infer_instance
noncomputable instance (i j:Int):Decidable (ID i j):=by unfold ID;infer_instance
end
section
variable {X:Cx}{a b c:Expr}{fa fb fc:Env->Option D}{pos:Pos}{rest:List Expr}
def rS(fa fb:Env->Option D):Env->Option D:=fun ρ=>(fa ρ).bind fun|.bool true=>fb ρ|.bool false=>some (.bool false)|_=>none
def PN(fa fb:Env->Option D):Env->Option D:=fun ρ=>(fa ρ).bind fun|.bool true=>some (.bool true)|.bool false=>fb ρ|_=>none
def N8:D->Option D|.bool b=>some (.bool (!b))|_=>none
def KW(fa:Env->Option D):Env->Option D:=fun ρ=>(fa ρ).bind N8
theorem LQ{op}(h:DE X a fa):DE X (.BoolOp op [a] pos) fa:=Ld h
theorem Lm(ha:DE X a fa)(hb:DE X (.BoolOp .And (b::rest) pos) fb):DE X (.BoolOp .And (a::b::rest) pos) (rS fa fb):=bh (Ln ha hb) fun σ H Q ⟨HF,ρ,d,sm,eo,hf,q⟩=>by
 obtain⟨x,hx,hf⟩:=bs hf
 refine⟨HF,ρ,x,sm,eo,hx,fun v1 H1 HF1 g1 r1=>?_⟩
 cases x<;>try cases hf
 rename_i k
 simp only[Rep] at r1
 refine⟨k,r1,?_⟩
 cases k with
 | true=>exact rZ ⟨HF1,ρ,d,g1.fh,eo.mono g1.ff,hf,fun v H' HF' g r=>q v H' HF' (g1.trans g) r⟩
 | false=>cases hf;exact oV (q _ H1 HF1 g1 (by simp[Rep]))
theorem NI(ha:DE X a fa)(hb:DE X (.BoolOp .Or (b::rest) pos) fb):DE X (.BoolOp .Or (a::b::rest) pos) (PN fa fb):=bh (Gm ha hb) fun σ H Q ⟨HF,ρ,d,sm,eo,hf,q⟩=>by
 obtain⟨x,hx,hf⟩:=bs hf
 refine⟨HF,ρ,x,sm,eo,hx,fun v1 H1 HF1 g1 r1=>?_⟩
 cases x<;>try cases hf
 rename_i k
 simp only[Rep] at r1
 refine⟨k,r1,?_⟩
 cases k with
 | false=>exact oV ⟨HF1,ρ,d,g1.fh,eo.mono g1.ff,hf,fun v H' HF' g r=>q v H' HF' (g1.trans g) r⟩
 | true=>cases hf;exact rZ (q _ H1 HF1 g1 (by simp[Rep]))
theorem MJ(ha:DE X a fa):DE X (.UnaryOp .Not a pos) (KW fa):=bh (Mw ha) fun σ H Q ⟨HF,ρ,d,sm,eo,hf,q⟩=>by
 obtain⟨x,hx,hf⟩:=bs hf
 refine⟨HF,ρ,x,sm,eo,hx,fun v1 H1 HF1 g1 r1=>?_⟩
 cases x<;>try cases hf
 rename_i k
 simp only[Rep] at r1
 exact⟨k,r1,q _ H1 HF1 g1 (by simp[Rep])⟩
def gB:D->Option Bool|.bool b=>some b|_=>none
def fB(f:Env->Option D):Env->Option Bool:=fun ρ=>(f ρ).bind gB
theorem AU{f:Env->Option D}:∀σ H (Q:Bool->Hp->Prop),K5 X.K (fB f) σ H Q->tD X.K f σ H fun x H1=>∃c,x=.bl c/\Q c H1:=fun σ H Q ⟨HF,ρ,k,sm,eo,hf,q⟩=>by
 obtain⟨x,hx,hf⟩:=bs hf
 refine⟨HF,ρ,x,sm,eo,hx,fun v1 H1 HF1 g1 r1=>?_⟩
 cases x<;>try cases hf
 simp only[Rep] at r1
 exact⟨_,r1,q H1 HF1 g1⟩
theorem L3{f:Env->Option D}(h:DE X a f)(he:∀whole,isTrue a X.env whole=(do let v <- whole;standAt a.pos;holding [v] (truthy v)):=by intro _;rfl):DT X a (fB f):=uI (Ft h he) AU
theorem iN{op:CmpOp}{r:R2}{g:D->D->Option D}(ho:gY X (compareOp op) r)(hr:fS X.K r g)(ha:DE X a fa)(hb:DE X b fb)(hm:behindInMarks op b=false):DT X (.Compare a [op] [b] pos) (fB (f2 g fa fb)) :=
 uI (CQ ho ha hb hm) fun σ H Q h=>Iv hr σ H _ (AU σ H Q h)
def oQ(fa fb:Env->Option Bool):Env->Option Bool:=fun ρ=>(fa ρ).bind fun|true=>fb ρ|false=>some false
def pM(fa fb:Env->Option Bool):Env->Option Bool:=fun ρ=>(fa ρ).bind fun|true=>some true|false=>fb ρ
def cu(fa:Env->Option Bool):Env->Option Bool:=fun ρ=>(fa ρ).map (!·)
variable {ta tb:Env->Option Bool}
def DW(X:Cx)(e:Expr)(f:Env->Option Bool):Prop:=PW X e (K5 X.K f)
theorem Gq{e:Expr}{t t':TT}(h:PW X e t)(i:∀σ H Q,t' σ H Q->t σ H Q):PW X e t':=fun wh pins s σ H Q I q=>h wh pins s σ H Q I (i σ H Q q)
theorem DW.dt(h:DW X a ta):DT X a ta:=PW.pt h
theorem JG(ha:DT X a ta):DW X (.BoolOp .And [a] pos) ta:=Jb ha
theorem Mp(ha:DT X a ta):DW X (.BoolOp .Or [a] pos) ta:=E7 ha
theorem MV(ha:DT X a ta)(hb:DW X (.BoolOp .And (b::rest) pos) tb):DW X (.BoolOp .And (a::b::rest) pos) (oQ ta tb):=Gq (LL ha hb) fun σ H Q ⟨HF,ρ,d,sm,eo,hf,q⟩=>by
 obtain⟨x,hx,hf⟩:=bs hf
 refine⟨HF,ρ,x,sm,eo,hx,fun H1 HF1 g1=>?_⟩
 cases x with
 | true=>exact rZ ⟨HF1,ρ,d,g1.fh,eo.mono g1.ff,hf,fun H' HF' g=>q H' HF' (g1.trans g)⟩
 | false=>cases hf;exact oV (q H1 HF1 g1)
theorem Oi(ha:DT X a ta)(hb:DW X (.BoolOp .Or (b::rest) pos) tb):DW X (.BoolOp .Or (a::b::rest) pos) (pM ta tb):=Gq (Kb ha hb) fun σ H Q ⟨HF,ρ,d,sm,eo,hf,q⟩=>by
 obtain⟨x,hx,hf⟩:=bs hf
 refine⟨HF,ρ,x,sm,eo,hx,fun H1 HF1 g1=>?_⟩
 cases x with
 | false=>exact oV ⟨HF1,ρ,d,g1.fh,eo.mono g1.ff,hf,fun H' HF' g=>q H' HF' (g1.trans g)⟩
 | true=>cases hf;exact rZ (q H1 HF1 g1)
theorem MY(ha:DT X a ta):DT X (.UnaryOp .Not a pos) (cu ta):=uI (FN ha) fun σ H Q ⟨HF,ρ,d,sm,eo,hf,q⟩=>by
 have hf:(ta ρ).map (!·)=some d:=hf
 cases e:ta ρ with
 | none=>rw[e] at hf;cases hf
 | some k=>rw[e] at hf;cases hf;exact⟨HF,ρ,k,sm,eo,e,fun H1 HF1 g1=>q H1 HF1 g1⟩
def Qh(tc:Env->Option Bool)(fa fb:Env->Option D):Env->Option D:=fun ρ=>(tc ρ).bind fun|true=>fa ρ|false=>fb ρ
theorem Oh{c:Expr}(hc:DT X c ta)(ha:DE X a fa)(hb:DE X b fb):DE X (.IfExp c a b pos) (Qh ta fa fb):=bh (Aa hc ha hb) fun σ H Q ⟨HF,ρ,d,sm,eo,hf,q⟩=>by
 obtain⟨x,hx,hf⟩:=bs hf
 refine⟨HF,ρ,x,sm,eo,hx,fun H1 HF1 g1=>?_⟩
 cases x with
 | true=>exact rZ ⟨HF1,ρ,d,g1.fh,eo.mono g1.ff,hf,fun v H' HF' g r=>q v H' HF' (g1.trans g) r⟩
 | false=>exact oV ⟨HF1,ρ,d,g1.fh,eo.mono g1.ff,hf,fun v H' HF' g r=>q v H' HF' (g1.trans g) r⟩
def j4(g g':D->D->Option D)(fa fb fc:Env->Option D):Env->Option D:=fun ρ=>(fa ρ).bind fun x=>(fb ρ).bind fun y=>(g x y).bind fun|.bool true=>(fc ρ).bind fun z=>g' y z|.bool false=>some (.bool false)|_=>none
theorem B7{r r':R2}{g g':D->D->Option D}(hr:fS X.K r g)(hr':fS X.K r' g'):∀σ H Q,tD X.K (j4 g g' fa fb fc) σ H Q->By r r' (tD X.K fa) (tD X.K fb) (tD X.K fc) σ H Q:=fun σ H Q ⟨HF,ρ,d,sm,eo,hf,q⟩=>by
 obtain⟨x,hx,hf⟩:=bs hf
 obtain⟨y,hy,hf⟩:=bs hf
 obtain⟨z,hz,hf⟩:=bs hf
 refine⟨HF,ρ,x,sm,eo,hx,fun v1 H1 HF1 g1 r1=>⟨HF1,ρ,y,g1.fh,eo.mono g1.ff,hy,fun v2 H2 HF2 g2 r2=>hr HF2 H2 x y v1 v2 z _ g2.fh (r1.mono g2.ff) r2 hz fun v3 H3 HF3 g3 r3=>?_⟩⟩
 cases z<;>try cases hf
 rename_i k
 simp only[Rep] at r3
 refine⟨k,r3,?_⟩
 have G:=(g1.trans g2).trans g3
 cases k with
 | false=>cases hf;exact oV (q _ H3 HF3 G (by simp[Rep]))
 | true =>
  obtain⟨w,hw,hg⟩:=bs hf
  exact rZ ⟨HF3,ρ,w,G.fh,eo.mono G.ff,hw,fun v4 H4 HF4 g4 r4=>hr' HF4 H4 y w v2 v4 d Q g4.fh (r2.mono (g3.ff.trans g4.ff)) r4 hg fun v H' HF' g5 r5=>q v H' HF' ((G.trans g4).trans g5) r5⟩
theorem EX{op op':CmpOp}{r r':R2}{g g':D->D->Option D}(ho:gY X (compareOp op) r)(hr:fS X.K r g)(ho':gY X (compareOp op') r')(hr':fS X.K r' g')(ha:DE X a fa)(hb:DE X b fb)(hc:DE X c fc)
  (hm:lastMarks [op,op'] [b,c]=false:=by with_unfolding_all rfl):DE X (.Compare a [op,op'] [b,c] pos) (j4 g g' fa fb fc):=bh (FW ho ho' ha hb hc hm) (B7 hr hr')
theorem GI{op op':CmpOp}{r r':R2}{g g':D->D->Option D}(ho:gY X (compareOp op) r)(hr:fS X.K r g)(ho':gY X (compareOp op') r')(hr':fS X.K r' g')(ha:DE X a fa)(hb:DE X b fb)(hc:DE X c fc)
  (hm:lastMarks [op,op'] [b,c]=false:=by with_unfolding_all rfl):DT X (.Compare a [op,op'] [b,c] pos) (fB (j4 g g' fa fb fc)) :=
 uI (F9 ho ho' ha hb hc hm) fun σ H Q h=>B7 hr hr' σ H _ (AU σ H Q h)
def af:Env->Option (List D):=fun _=>some []
def aa(f:Env->Option D)(g:Env->Option (List D)):Env->Option (List D):=fun ρ=>(f ρ).bind fun x=>(g ρ).map (x::·)
theorem FC:DA X [] af:=Bg eZ fun σ H Q ⟨HF,ρ,d,sm,eo,hf,q⟩=>by cases hf;exact q [] H HF (.refl sm) aw.nil
theorem CJ{e:Expr}{es:List Expr}{f:Env->Option D}{g:Env->Option (List D)}(he:DE X e f)(hs:DA X es g)(hst:starEach (e::es) X.env=(false,eval e X.env)::starEach es X.env:=by rfl):DA X (e::es) (aa f g) :=
 Bg (cn he hs hst) fun σ H Q ⟨HF,ρ,d,sm,eo,hf,q⟩=>by
  obtain⟨x,hx,hf⟩:=bs hf
  have hf:(g ρ).map (x::·)=some d:=hf
  cases e1:g ρ with
  | none=>rw[e1] at hf;cases hf
  | some xs =>
   rw[e1] at hf;cases hf
   exact⟨HF,ρ,x,sm,eo,hx,fun v1 H1 HF1 g1 r1=>⟨HF1,ρ,xs,g1.fh,eo.mono g1.ff,e1,fun vs H2 HF2 g2 r2=>q (v1::vs) H2 HF2 (g1.trans g2) (aw.cons (r1.mono g2.ff) r2)⟩⟩
variable {es:List Expr}{fs:Env->Option (List D)}
def small(ds:List D):Option (List D):=if ds.length<=sizeLine then some ds else none
theorem eS{ds es:List D}(h:small ds=some es):es=ds/\ds.length<=sizeLine:=by
 unfold small at h
 split at h
 ·cases h;exact⟨rfl,‹_›⟩
 ·cases h
def aA(g:Env->Option (List D)):Env->Option D:=fun ρ=>(g ρ).bind fun ds=>(small ds).map PyData.tuple
def cQ(g:Env->Option (List D)):Env->Option (List D):=fun ρ=>(g ρ).bind small
theorem L4{x1}(h:DA X es fs):DE X (.Tuple es x1 pos) (aA fs):=bh (F7 h) fun σ H Q ⟨HF,ρ,d,sm,eo,hf,q⟩=>by
 obtain⟨ds,hx,hf⟩:=bs hf
 have hf:(small ds).map PyData.tuple=some d:=hf
 cases e:small ds with
 | none=>rw[e] at hf;cases hf
 | some es' =>
  rw[e] at hf;cases hf
  obtain⟨rfl,hz⟩:=eS e
  refine⟨HF,ρ,_,sm,eo,hx,fun vs H1 HF1 g1 r1=>⟨by rw[r1.length];exact hz,fun p hp=>q _ _ (upd HF1 p (.tup vs)) (g1.trans (.new g1.fh hp)) ?_⟩⟩
  simp only[Rep]
  exact⟨p,vs,rfl,.inl (.inl aI),r1.mono (eJ (g1.fh.free hp))⟩
theorem K3(h:DA X es fs):DF X (.List es pos) (cQ fs):=bh (AR h) fun σ H Q ⟨HF,ρ,d,sm,eo,hf,q⟩=>by
 obtain⟨ds,hx,hf⟩:=bs hf
 obtain⟨rfl,hz⟩:=eS hf
 exact⟨HF,ρ,_,sm,eo,hx,fun vs H1 HF1 g1 r1=>⟨by rw[r1.length];exact hz,fun p hp=>q p vs _ HF1 (g1.trans (.own g1.fh hp)) (g1.hh.free hp) (g1.fh.free hp) aI r1⟩⟩
def aC:D->D->Option D
 | .tuple ds,.int i=>uo ds i
 | .list ds,.int i=>uo ds i
 | _,_=>none
theorem w4{K:W.Frag}{HF:Hp}{ds:List D}{vs:List V}{i:Int}{d:D}(r:aw K HF ds vs)(h:uo ds i=some d):∃v,uo vs i=some v/\Rep K HF d v:=by
 unfold uo at h ⊢
 rw[r.length]
 obtain⟨j,hj,h⟩:=bs h
 obtain⟨v,a,b⟩:=r.getD h
 exact⟨v,by rw[hj];exact a,b⟩
theorem L8{K:W.Frag}:fS K (Qs K) aC:=by
 intro HF H x y v1 v2 d Q sm r1 r2 hg q
 cases x<;>cases y<;>simp only[aC] at hg<;>try cases hg
 ·simp only[Rep] at r1 r2
  obtain⟨a,vs,rfl,hs,r⟩:=r1
  obtain⟨v,hv,rv⟩:=w4 r hg
  exact .inl ⟨a,vs,_,v,rfl,r2,sm.seq hs,hv,q v H HF (.refl sm) rv⟩
 ·simp only[Rep] at r1 r2
  obtain⟨a,vs,rfl,hs,r⟩:=r1
  obtain⟨v,hv,rv⟩:=w4 r hg
  exact .inr (.inl ⟨a,vs,_,v,rfl,r2,aO sm hs,hv,q v H HF (.refl sm) rv⟩)
theorem Ov(ha:DE X a fa)(hb:DE X b fb)(hs:uN b:=by intro _ _;rfl):DE X (.Subscript a b pos) (f2 aC fa fb):=bh (ND Mg ha hb hs) (Iv L8)
mutual
theorem cY{pins:List (Addr×Obj)}{σ:L2.St}{H HF:Hp}{s:Shared}(I:Inv X pins σ H s)(sm:aU HF H):∀ {d:D}{v:V}{u:Value},Rep X.K HF d v->RelV v u->∃as,Reads s.heap u d as
 | .none,_,_,h,r=>by simp only[Rep] at h;subst h;cases r;exact⟨_,.none⟩
 | .bool b,_,_,h,r=>by simp only[Rep] at h;subst h;cases r;exact⟨_,.bool b⟩
 | .int i,_,_,h,r=>by simp only[Rep] at h;subst h;obtain⟨t,rfl⟩:=r;exact⟨_,.int i t⟩
 | .str i,_,_,h,r=>by simp only[Rep] at h;subst h;obtain⟨t,rfl⟩:=r;exact⟨_,.str i t⟩
 | .tuple ds,_,_,h,r=>by
  simp only[Rep] at h
  obtain⟨a,vs,rfl,hs,rr⟩:=h
  cases r
  obtain⟨its,rv,⟨o,ho,hc,n,hd⟩,_⟩:=I.tuple (aO sm hs)
  obtain⟨as,q⟩:=nJ I sm rr rv
  exact⟨as,.tuple ho hc hd (by simpa using q)⟩
 | .list ds,_,_,h,r=>by
  simp only[Rep] at h
  obtain⟨a,vs,rfl,hs,rr⟩:=h
  cases r
  obtain⟨its,rv,pl,_⟩:=I.list (sm.seq hs)
  obtain⟨o,ho,hc,n,hd⟩:=pl.isList
  obtain⟨as,q⟩:=nJ I sm rr rv
  exact⟨_,.list ho hc hd (by simpa using q)⟩
 | .dict _,_,_,h,r=>by simp only[Rep] at h
theorem nJ{pins:List (Addr×Obj)}{σ:L2.St}{H HF:Hp}{s:Shared}(I:Inv X pins σ H s)(sm:aU HF H):∀ {ds:List D}{vs:List V}{us:List Value},aw X.K HF ds vs->aM vs us->∃as,ReadsAll s.heap us ds as
 | [],_,_,h,r=>by rw[h.nil_inv] at r;cases r;exact⟨_,.nil⟩
 | d::ds,_,_,h,r=>by
  obtain⟨v,vr,rfl,a,b⟩:=h.cons_inv
  cases r with
  | cons r rr =>
   obtain⟨as,q⟩:=cY I sm a r
   obtain⟨bs,p⟩:=nJ I sm b rr
   exact⟨_,.cons q p⟩
end
def Oa(K:W.Frag)(g:D->D->Option Bool):R2:=fun v1 v2 H Q=>∃HF x y k,aU HF H/\Rep K HF x v1/\Rep K HF y v2/\g x y=some k/\Q (.bl k) H
theorem j3{K:W.Frag}{g:D->D->Option Bool}:fS K (Oa K g) (fun x y=>(g x y).map PyData.bool):=by
 intro HF H x y v1 v2 d Q sm r1 r2 hg q
 have hg:(g x y).map PyData.bool=some d:=hg
 cases e:g x y with
 | none=>rw[e] at hg;cases hg
 | some k=>rw[e] at hg;cases hg;exact⟨HF,x,y,k,sm,r1,r2,e,q _ H HF (.refl sm) (by simp[Rep])⟩
def Ms(x y:D):Option Bool:=if SeqAt.shaped x=true/\SeqAt.shaped y=true then some (PyData.eqv x y) else none
def LW(x y:D):Option Bool:=if SeqAt.shaped x=true/\SeqAt.shaped y=true then some (!PyData.eqv x y) else none
theorem Fi(hu:X.A.units+64 < cLine):gY X (compareOp .Eq) (Oa X.K Ms):=by
 intro pins s σ H v1 v2 u1 u2 Q I rx ry h
 obtain⟨HF,x,y,k,sm,r1,r2,hg,q⟩:=h
 unfold Ms at hg
 split at hg<;>cases hg
 rename_i hh
 obtain⟨as,ra⟩:=cY I sm r1 rx
 obtain⟨bs,rb⟩:=cY I sm r2 ry
 exact eq_dataH ra rb hh.1 hh.2 hu ⟨.bl _,H,I,rfl,q⟩
theorem EN(hu:X.A.units+64 < cLine):gY X (compareOp .NotEq) (Oa X.K LW):=by
 intro pins s σ H v1 v2 u1 u2 Q I rx ry h
 obtain⟨HF,x,y,k,sm,r1,r2,hg,q⟩:=h
 unfold LW at hg
 split at hg<;>cases hg
 rename_i hh
 obtain⟨as,ra⟩:=cY I sm r1 rx
 obtain⟨bs,rb⟩:=cY I sm r2 ry
 exact ne_dataH ra rb hh.1 hh.2 hu ⟨.bl _,H,I,rfl,q⟩
def items:D->Option (List D)|.tuple ds=>some ds|.list ds=>some ds|_=>none
def OA(x y:D):Option Bool:=match y with
 | .tuple ds=>if SeqAt.shaped x=true/\SeqAt.shaped y=true then some (ds.any fun z=>PyData.eqv z x) else none
 | .list ds=>if SeqAt.shaped x=true/\SeqAt.shaped y=true then some (ds.any fun z=>PyData.eqv z x) else none
 | _=>none
theorem Gp(hu:X.A.units+66 < cLine):gY X (compareOp .In) (Oa X.K OA):=by
 intro pins s σ H v1 v2 u1 u2 Q I rx ry h
 obtain⟨HF,x,y,k,sm,r1,r2,hg,q⟩:=h
 obtain⟨as,ra⟩:=cY I sm r1 rx
 obtain⟨bs,rb⟩:=cY I sm r2 ry
 cases y<;>simp only[OA] at hg<;>try cases hg
 all_goals
  split at hg<;>cases hg
  rename_i ds hh
  have c1:=kJ hh.1
  have c2:=kJ hh.2
  have d1:=SeqAt.depth_of_shaped hh.1
  simp only[PyData.canLay0] at c2
  have m:=Nat.min_le_right (PyData.depthAll ds) x.depth
  first
   | exact SeqAt.in_list_reads rb ra c2 c1 (by omega) ⟨.bl _,H,I,rfl,q⟩
   | exact SeqAt.in_tuple_reads rb ra c2 c1 (by omega) ⟨.bl _,H,I,rfl,q⟩
end
def NS(K:W.Frag)(n:Nat)(m:List D->Option D):Sp:=fun vs H Q _=>∃HF ds d,aU HF H/\eN K HF/\aw K HF ds vs/\ds.length=n/\m ds=some d/\∀v H' HF',bJ HF H HF' H'->Rep K HF' d v->Q v H'
structure hV(P:Program)(w:World)(K:W.Frag)(mg:Str->Option Value)(base:Heap)(k:Nat)(x:Str)(n:Nat)(m:List D->Option D):Prop where
 ex:∃ (f:Addr) (fd:FuncData) (ps:List Str),oY P w K mg base HJ k f fd ps (NS K n m)/\mg x=some (.ref f)/\W.keepIn K (.ref f)=true/\Binds K fd ps []
theorem hV.mono{P:Program}{w:World}{K:W.Frag}{mg:Str->Option Value}{base:Heap}{k j:Nat}{x:Str}{n:Nat}{m:List D->Option D}(F:hV P w K mg base k x n m)(h:k<=j):hV P w K mg base j x n m:=by
 obtain⟨f,fd,ps,a,b,c,d⟩:=F.ex
 exact⟨f,fd,ps,a.mono h,b,c,d⟩
section
variable {X:Cx}{a b c e:Expr}{es:List Expr}{fa fb fc:Env->Option D}{fs:Env->Option (List D)}{pos p:Pos}{x:Str}
def ah(n:Nat)(m:List D->Option D)(fs:Env->Option (List D)):Env->Option D:=fun ρ=>(fs ρ).bind fun ds=>if ds.length=n then m ds else none
theorem HQ{k n:Nat}{m:List D->Option D}(F:hV X.prog X.w X.K X.mg X.base k x n m)(hr:eu k X.A)(hg:Gl X x)(ha:DA X (e::es) fs)(hdb:(x == ("__debug__":Str))=false:=by decide)
  (he:starEach (e::es) X.env=(false,eval e X.env)::starEach es X.env:=by rfl) (hpl:(backTo pos (starEach es X.env)).any (·.1)=false:=by rfl):DE X (.Call (.Name x p) (e::es) [] pos) (ah n m fs):=by
 obtain⟨f,fd,ps,ok,hm,hk,hb⟩:=F.ex
 refine bh (C0 (E:=E0) ok hr hg hm hk hb .nil Ny ha hdb he hpl) fun σ H Q ⟨HF,ρ,d,sm,eo,hf,q⟩=>?_
 obtain⟨ds,hx,hf⟩:=bs hf
 split at hf
 ·rename_i hl
  exact⟨HF,ρ,ds,sm,eo,hx,fun vs H1 HF1 g1 r1=>⟨HF1,ds,d,g1.fh,eo.tb.mono g1.ff,by rw[qF];exact r1,hl,hf,fun v H' HF' g r=>q v H' HF' (g1.trans g) r⟩⟩
 ·cases hf
def FP(K:W.Frag)(r:List V->Hp->VK->Prop)(g:List D->Option D):Prop:=∀HF H ds vs d Q,aU HF H->aw K HF ds vs->g ds=some d->(∀v H' HF',bJ HF H HF' H'->Rep K HF' d v->Q v H')->r vs H Q
def bR(g:List D->Option D)(fs:Env->Option (List D)):Env->Option D:=fun ρ=>(fs ρ).bind g
theorem NP{r:List V->Hp->VK->Prop}{g:List D->Option D}(hs:FP X.K r g):∀σ H Q,tD X.K (bR g fs) σ H Q->OH r (PR X.K fs) σ H Q:=fun σ H Q ⟨HF,ρ,d,sm,eo,hf,q⟩=>by
 obtain⟨ds,hx,hf⟩:=bs hf
 exact⟨HF,ρ,ds,sm,eo,hx,fun vs H1 HF1 g1 r1=>hs HF1 H1 ds vs d Q g1.fh r1 hf fun v H' HF' g2 r2=>q v H' HF' (g1.trans g2) r2⟩
def C4(K:W.Frag)(r:List V->Hp->VK->Prop)(g:List D->Option (List D)):Prop:=∀HF H ds vs es Q,aU HF H->aw K HF ds vs->g ds=some es ->
 (∀a us H' HF',bJ HF H HF' H'->H a=none->HF' a=none->H' a=some (.lst us)->aw K HF' es us->Q (.ref a) H')->r vs H Q
def kc(g:List D->Option (List D))(fs:Env->Option (List D)):Env->Option (List D):=fun ρ=>(fs ρ).bind g
theorem JY{r:List V->Hp->VK->Prop}{g:List D->Option (List D)}(hs:C4 X.K r g):∀σ H Q,tF X.K (kc g fs) σ H Q->OH r (PR X.K fs) σ H Q:=fun σ H Q ⟨HF,ρ,d,sm,eo,hf,q⟩=>by
 obtain⟨ds,hx,hf⟩:=bs hf
 exact⟨HF,ρ,ds,sm,eo,hx,fun vs H1 HF1 g1 r1=>hs HF1 H1 ds vs d Q g1.fh r1 hf fun a us H' HF' g2 ha hf' h' r2=>q a us H' HF' (g1.trans g2) (g1.hh.free ha) hf' h' r2⟩
structure oU(X:Cx)(x:Str)(v:Value):Prop where
 gl:Gl X x
 mg:X.mg x=none
 bt:bootBuiltins x=some v
theorem j9{id:String}{r:List V->Hp->VK->Prop}{g:List D->Option D}(hc:fJ X (.builtin id) r)(hs:FP X.K r g)(B:oU X x (.builtin id))(ha:DA X (e::es) fs)(hn:x≠"__name__":=by decide)(hdb:(x == ("__debug__":Str))=false:=by decide)
  (he:starEach (e::es) X.env=(false,eval e X.env)::starEach es X.env:=by rfl) (hpl:(backTo pos (starEach es X.env)).any (·.1)=false:=by rfl):DE X (.Call (.Name x p) (e::es) [] pos) (bR g fs) :=
 bh (m6 hc B.gl B.mg B.bt ha hn hdb he hpl) (NP hs)
theorem Fh{id:String}{r:List V->Hp->VK->Prop}{g:List D->Option (List D)}(hc:fJ X (.builtin id) r)(hs:C4 X.K r g)(B:oU X x (.builtin id))(ha:DA X (e::es) fs)(hn:x≠"__name__":=by decide)(hdb:(x == ("__debug__":Str))=false:=by decide)
  (he:starEach (e::es) X.env=(false,eval e X.env)::starEach es X.env:=by rfl) (hpl:(backTo pos (starEach es X.env)).any (·.1)=false:=by rfl):DF X (.Call (.Name x p) (e::es) [] pos) (kc g fs) :=
 bh (m6 hc B.gl B.mg B.bt ha hn hdb he hpl) (JY hs)
theorem Dc{T:String}{r:List V->Hp->VK->Prop}{g:List D->Option D}(hc:fJ X (.type T) r)(hs:FP X.K r g)(B:oU X x (.type T))(ha:DA X (e::es) fs)(hn:x≠"__name__":=by decide)(hdb:(x == ("__debug__":Str))=false:=by decide)
  (he:starEach (e::es) X.env=(false,eval e X.env)::starEach es X.env:=by rfl) (hpl:(backTo pos (starEach es X.env)).any (·.1)=false:=by rfl):DE X (.Call (.Name x p) (e::es) [] pos) (bR g fs) :=
 bh (nQ hc B.gl B.mg B.bt ha hn hdb he hpl) (NP hs)
theorem Du{T:String}{r:List V->Hp->VK->Prop}{g:List D->Option (List D)}(hc:fJ X (.type T) r)(hs:C4 X.K r g)(B:oU X x (.type T))(ha:DA X (e::es) fs)(hn:x≠"__name__":=by decide)(hdb:(x == ("__debug__":Str))=false:=by decide)
  (he:starEach (e::es) X.env=(false,eval e X.env)::starEach es X.env:=by rfl) (hpl:(backTo pos (starEach es X.env)).any (·.1)=false:=by rfl):DF X (.Call (.Name x p) (e::es) [] pos) (kc g fs) :=
 bh (nQ hc B.gl B.mg B.bt ha hn hdb he hpl) (JY hs)
def iG:D->Option (List D)|.tuple ds=>some ds|.list ds=>some ds|_=>none
def oneOf:List D->Option D|[d]=>some d|_=>none
theorem iY{ds:List D}{d:D}(h:oneOf ds=some d):ds=[d]:=by
 cases ds with
 | nil=>cases h
 | cons x r=>cases r with
  | nil=>cases h;rfl
  | cons _ _=>cases h
theorem mn{d:D}{ds:List D}(h:iG d=some ds):d=.tuple ds\/d=.list ds:=by
 cases d<;>cases h
 ·exact .inr rfl
 ·exact .inl rfl
def dB:List D->Option (List D):=fun ds=>(oneOf ds).bind iG
theorem gP{ds es:List D}(h:dB ds=some es):ds=[.tuple es]\/ds=[.list es]:=by
 obtain⟨d,h1,h2⟩:=bs h
 rw[iY h1]
 rcases mn h2 with rfl|rfl
 ·exact .inl rfl
 ·exact .inr rfl
def bz:List D->Option D:=fun ds=>(dB ds).map fun es=>.int es.length
theorem ag{α β:Type}{x:Option α}{f:α->β}{b:β}(h:x.map f=some b):∃a,x=some a/\f a=b:=by
 cases x with
 | none=>cases h
 | some a=>exact⟨a,rfl,xD h⟩
theorem Jj{K:W.Frag}:FP K (fun xs H Q=>∃p ys,xs=[.ref p]/\(hZ K H p ys\/iI K H p ys)/\Q (.int ys.length) H) bz:=by
 intro HF H ds vs d Q sm r hg q
 obtain⟨es,h1,rfl⟩:=ag hg
 rcases gP h1 with rfl|rfl
 all_goals
  obtain⟨v,r',rfl,a,b⟩:=r.cons_inv
  rw[b.nil_inv]
  simp only[Rep] at a
  obtain⟨p,us,rfl,h,rr⟩:=a
 ·exact⟨p,us,rfl,.inr (aO sm h),q _ H HF (.refl sm) (by simp[Rep,rr.length])⟩
 ·exact⟨p,us,rfl,.inl (sm.seq h),q _ H HF (.refl sm) (by simp[Rep,rr.length])⟩
theorem MH(B:oU X "len" (.builtin "len"))(ha:DA X [e] fs)(he:starEach [e] X.env=(false,eval e X.env)::starEach [] X.env:=by rfl):DE X (.Call (.Name "len" p) [e] [] pos) (bR bz fs) :=
 j9 wu Jj B ha (by decide) (by decide) he rfl
theorem Ff{K:W.Frag}:C4 K (fun xs H Q=>∃p ys,xs=[.ref p]/\(hZ K H p ys\/iI K H p ys)/\∀l,H l=none->Q (.ref l) (upd H l (.lst ys))) dB:=by
 intro HF H ds vs d Q sm r hg q
 rcases gP hg with rfl|rfl
 all_goals
  obtain⟨v,r',rfl,a,b⟩:=r.cons_inv
  rw[b.nil_inv]
  simp only[Rep] at a
  obtain⟨p,us,rfl,h,rr⟩:=a
 ·exact⟨p,us,rfl,.inr (aO sm h),fun l hl=>q l us _ HF (.own sm hl) hl (sm.free hl) aI rr⟩
 ·exact⟨p,us,rfl,.inl (sm.seq h),fun l hl=>q l us _ HF (.own sm hl) hl (sm.free hl) aI rr⟩
theorem IU(B:oU X "list" (.type "list"))(ha:DA X [e] fs)(he:starEach [e] X.env=(false,eval e X.env)::starEach [] X.env:=by rfl):DF X (.Call (.Name "list" p) [e] [] pos) (kc dB fs) :=
 Du uV Ff B ha (by decide) (by decide) he rfl
theorem eV{K:W.Frag}{HF:Hp}{l:Addr}{ds:List D}{vs:List V}(h:HF l=none)(r:aw K HF ds vs):Rep K (upd HF l (.tup vs)) (.tuple ds) (.ref l):=by
 simp only[Rep];exact⟨l,vs,rfl,.inl (.inl aI),r.mono (eJ h)⟩
theorem Ei{K:W.Frag}:FP K (fun xs H Q=>∃p ys,xs=[.ref p]/\((hZ K H p ys/\∀l,H l=none->Q (.ref l) (upd H l (.tup ys)))\/(iI K H p ys/\Q (.ref p) H))) (fun ds=>(dB ds).map PyData.tuple):=by
 intro HF H ds vs d Q sm r hg q
 obtain⟨es,h1,rfl⟩:=ag hg
 rcases gP h1 with rfl|rfl
 all_goals
  obtain⟨v,r',rfl,a,b⟩:=r.cons_inv
  rw[b.nil_inv]
  have a':=a
  simp only[Rep] at a
  obtain⟨p,us,rfl,h,rr⟩:=a
 ·exact⟨p,us,rfl,.inr ⟨aO sm h,q _ H HF (.refl sm) a'⟩⟩
 ·exact⟨p,us,rfl,.inl ⟨sm.seq h,fun l hl=>q _ _ _ (.new sm hl) (eV (sm.free hl) rr)⟩⟩
theorem F6(B:oU X "tuple" (.type "tuple"))(ha:DA X [e] fs)(he:starEach [e] X.env=(false,eval e X.env)::starEach [] X.env:=by rfl):DE X (.Call (.Name "tuple" p) [e] [] pos) (bR (fun ds=>(dB ds).map PyData.tuple) fs) :=
 Dc sH Ei B ha (by decide) (by decide) he rfl
def gZ:D->String|.none=>"NoneType" | .bool _=>"bool" | .int _=>"int" | .str _=>"str" | .tuple _=>"tuple" | .list _=>"list" | .dict _=>"dict"
def uH(a b:String):Option Bool:=if ((Value.type a) == (Value.type b))=true then some true else if W.kitMeta b=true then (fastBuiltinMro a).map (·.contains (Value.type b)) else none
theorem HV:∀a∈["NoneType","bool","int","str","tuple","list"],uH a "int"=some (a == "int"||a == "bool"):=by decide +kernel
theorem GV:∀a∈["NoneType","bool","int","str","tuple","list"],uH a "bool"=some (a == "bool"):=by decide +kernel
theorem kit_tuple:∀a∈["NoneType","bool","int","str","tuple","list"],uH a "tuple"=some (a == "tuple"):=by decide +kernel
theorem EZ{pins:List (Addr×Obj)}{σ:L2.St}{H HF:Hp}{s:Shared}{A:Around}{E:Value->Shared->Prop}{Q:Value->Shared->Prop}{d:D}{v:V}{u:Value}{T:String}{k:Bool}(I:Inv X pins σ H s)(sm:aU HF H)(r:Rep X.K HF d v)(rv:RelV v u)
  (e:uH (gZ d) T=some k) (h:∀tk,Q (.bool k) { s with toks:=tk }):wpAny (model X.prog X.w) A (call (.builtin "isinstance") [u,.type T]) Q E s:=by
 have e':W.kitOne X.K (.type (gZ d)) (.type T)=some k:=e
 cases d<;>simp only[Rep] at r
 ·subst r;cases rv;exact W.kia_one W.kitx_none I.kIn True.intro e' (fun z=>nomatch z) h
 ·subst r;cases rv;exact W.kia_one W.kitx_bool I.kIn True.intro e' (fun z=>nomatch z) h
 ·subst r;obtain⟨t,rfl⟩:=rv;exact W.kia_one W.kitx_int I.kIn True.intro e' (fun z=>nomatch z) h
 ·subst r;obtain⟨t,rfl⟩:=rv;exact W.kia_one W.kitx_str I.kIn True.intro e' (fun z=>nomatch z) h
 ·obtain⟨a,vs,rfl,hs,rr⟩:=r
  cases rv
  obtain⟨its,rv,pl,_⟩:=I.list (sm.seq hs)
  obtain⟨o,ho,hc,n,hd⟩:=pl.isList
  exact W.kia_one W.kitx_list I.kIn ⟨o,ho,hc⟩ e' (fun z=>nomatch z) h
 ·obtain⟨a,vs,rfl,hs,rr⟩:=r
  cases rv
  obtain⟨its,rv,⟨o,ho,hc,n,hd⟩,_⟩:=I.tuple (aO sm hs)
  exact W.kia_one W.kitx_tuple I.kIn ⟨o,ho,hc⟩ e' (fun z=>nomatch z) h
def J0(T:String)(f:Env->Option D):Env->Option D:=fun ρ=>(f ρ).bind fun d=>(uH (gZ d) T).map PyData.bool
theorem NW{T:String}{xT:Str}{pT:Pos}{f:Env->Option D}(B:oU X "isinstance" (.builtin "isinstance"))(C:oU X xT (.type T))(h:DE X e f)(hn:xT≠"__name__":=by decide)(hd:(xT == ("__debug__":Str))=false:=by decide)
  (he:starEach [e,.Name xT pT] X.env=(false,eval e X.env)::starEach [.Name xT pT] X.env:=by rfl):DE X (.Call (.Name "isinstance" p) [e,.Name xT pT] [] pos) (J0 T f):=by
 have hc:fJ X (.builtin "isinstance") (fun xs H Q=>∃HF d v k,xs=[v,.ty T]/\aU HF H/\Rep X.K HF d v/\uH (gZ d) T=some k/\Q (.bl k) H):=by
  intro pins s σ H xs us Q I r h
  obtain⟨HF,d,v,k,rfl,sm,rp,hk,q⟩:=h
  cases r with
  | cons ra rr =>
   cases rr with
   | cons rb rn =>
    cases rn
    cases rb
    exact EZ I sm rp ra hk fun tk=>⟨.bl k,H,I.tok _,rfl,q⟩
 refine bh (m6 hc B.gl B.mg B.bt (cn h (cn (Jd (v:=.ty T) C.gl C.mg C.bt rfl hn hd) eZ) he) (by decide) (by decide) he rfl) fun σ H Q ⟨HF,ρ,d,sm,eo,hf,q⟩=>?_
 obtain⟨x,hx,hf⟩:=bs hf
 obtain⟨k,hk,rfl⟩:=ag hf
 exact⟨HF,ρ,x,sm,eo,hx,fun v1 H1 HF1 g1 r1=>⟨HF1,x,v1,k,rfl,g1.fh,r1,hk,q _ H1 HF1 g1 (by simp[Rep])⟩⟩
def IS:D->D->Option D
 | .tuple xs,.tuple ys=>(small (xs++ys)).map PyData.tuple
 | _,_=>none
def Cv(K:W.Frag):R2:=fun x y H Q=>∃a b xs ys,x=.ref a/\y=.ref b/\iI K H a xs/\iI K H b ys/\xs.length+ys.length<=sizeLine /\
 (xs=[]->Q (.ref b) H)/\(ys=[]->Q (.ref a) H)/\(∀p,H p=none->Q (.ref p) (upd H p (.tup (xs++ys))))
theorem Dk:gY X (binaryOp .Add) (Cv X.K):=by
 intro pins s σ H x y v u Q I rx ry h
 obtain⟨a,b,xs,ys,rfl,rfl,ha,hb,hz,q0,q1,q2⟩:=h
 by_cases hx:xs=[]
 ·cases rx
  cases ry
  obtain⟨its,r1,p1,_⟩:=I.tuple ha
  obtain⟨its2,r2,p2,_⟩:=I.tuple hb
  obtain⟨⟨cls,dd,data,sl⟩,ho,hc,n,hd⟩:=id p1
  obtain⟨⟨cls2,dd2,data2,sl2⟩,ho2,hc2,n2,hd2⟩:=id p2
  simp only at hc hd hc2 hd2
  subst hc hd hc2 hd2
  have e:its=[]:=(L2.aM.nil_iff r1).mpr hx
  exact wU ⟨_,ho,rfl⟩ ⟨_,ho2,rfl⟩ noFill_tuple_add seq_tuple_add vO vJ (vG _ _)
   (tuple_addW0 a b its.toArray its2.toArray n n2 dd dd2 sl sl2 (by simp[e])) ⟨ho,ho2,⟨.ref b,H,I,rfl,q0 hx⟩⟩
 ·exact IX pins s σ H _ _ v u Q I rx ry ⟨a,b,xs,ys,rfl,rfl,ha,hb,hx,hz,q1,fun _ p hp=>q2 p hp⟩
theorem IK{K:W.Frag}:fS K (Cv K) IS:=by
 intro HF H x y v1 v2 d Q sm r1 r2 hg q
 cases x<;>cases y<;>simp only[IS] at hg<;>try cases hg
 rename_i xs ys
 obtain⟨es,h1,rfl⟩:=ag hg
 obtain⟨rfl,hz⟩:=eS h1
 have r1':=r1
 have r2':=r2
 simp only[Rep] at r1 r2
 obtain⟨a,vs,rfl,ha,ra⟩:=r1
 obtain⟨b,us,rfl,hb,rb⟩:=r2
 refine⟨a,b,vs,us,rfl,rfl,aO sm ha,aO sm hb,by rw[ra.length,rb.length,<- zN];exact hz,fun e=>?_,fun e=>?_,fun p hp=>q _ _ _ (.new sm hp) (eV (sm.free hp) (ra.append rb))⟩
 ·have:xs=[]:=by have:=ra.length;rw[e] at this;exact List.length_eq_zero_iff.mp this.symm
  subst this
  exact q _ H HF (.refl sm) r2'
 ·have:ys=[]:=by have:=rb.length;rw[e] at this;exact List.length_eq_zero_iff.mp this.symm
  subst this
  rw[qF] at q
  exact q _ H HF (.refl sm) r1'
end
structure sZ(K:W.Frag)(J:It)(HF:Hp)(ds:List D):Prop where
 go:∀i d H₁ HF₁,ds[i]?=some d->aU HF HF₁->aU HF₁ H₁->J.go i H₁/\∀x H₂,J.yld i H₁ x H₂->∃HF₂,bJ HF₁ H₁ HF₂ H₂/\Rep K HF₂ d x
 stop:∀H₁ HF₁,aU HF HF₁->aU HF₁ H₁->J.stop ds.length H₁
def Qg(K:W.Frag)(f:Env->Option (List D)):TI:=fun σ H R=>∃HF ρ ds,aU HF H/\cS K HF ρ σ/\f ρ=some ds/\∀J H' HF',bJ HF H HF' H'->sZ K J HF' ds->R J H'
def DI(X:Cx)(tg iter:Expr)(f:Env->Option (List D)):Prop:=PI X tg iter (Qg X.K f)
theorem DK{K:W.Frag}{HF:Hp}{a:Addr}{ds:List D}{vs:List V}(h:hZ K HF a vs)(r:aw K HF ds vs):sZ K (Qb K a) HF ds where
 go:=fun i d H₁ HF₁ e s1 s2=>by
  obtain⟨v,hv,rv⟩:=r.getD e
  have q:=s2.seq (s1.seq h)
  refine⟨⟨vs,v,q,hv⟩,fun x H₂ ⟨e2,hy⟩=>⟨HF₁,by rw[e2];exact .refl s2,?_⟩⟩
  have:=hy vs q
  rw[hv] at this
  cases this
  exact rv.mono s1
 stop:=fun H₁ HF₁ s1 s2=>⟨vs,s2.seq (s1.seq h),by rw[r.length];exact yM _⟩
theorem Hq{K:W.Frag}{HF:Hp}{a:Addr}{ds:List D}{vs:List V}(h:iI K HF a vs)(r:aw K HF ds vs):sZ K (OW K a) HF ds where
 go:=fun i d H₁ HF₁ e s1 s2=>by
  obtain⟨v,hv,rv⟩:=r.getD e
  have q:=aO s2 (aO s1 h)
  refine⟨⟨vs,v,q,hv⟩,fun x H₂ ⟨e2,hy⟩=>⟨HF₁,by rw[e2];exact .refl s2,?_⟩⟩
  have:=hy vs q
  rw[hv] at this
  cases this
  exact rv.mono s1
 stop:=fun H₁ HF₁ s1 s2=>⟨vs,aO s2 (aO s1 h),by rw[r.length];exact yM _⟩
theorem Bm{K:W.Frag}{HF:Hp}{lo:Int}{n:Nat}:sZ K (OD lo n) HF ((List.range n).map fun i=>PyData.int (lo+(i:Nat))) where
 go:=fun i d H₁ HF₁ e s1 s2=>by
  rw[zO] at e
  obtain⟨j,hj,rfl⟩:=ag e
  obtain⟨hi,hj'⟩:=List.getElem?_eq_some_iff.mp hj
  have hi':i < n:=by simpa using hi
  have:j=i:=by rw[<- hj'];simp
  subst this
  exact⟨hi',fun x H₂ ⟨e2,hx⟩=>⟨HF₁,by rw[e2];exact .refl s2,by simp[Rep,hx]⟩⟩
 stop:=fun H₁ HF₁ s1 s2=>by
  show n<=_
  simp
section
variable {X:Cx}{tg l e:Expr}{f:Env->Option D}{fs:Env->Option (List D)}{pos p:Pos}
theorem um{t t':TI}(h:PI X tg l t)(i:∀σ H R,t' σ H R->t σ H R):PI X tg l t':=fun pins s σ H R I q=>h pins s σ H R I (i σ H R q)
theorem LG{tl:TE}(hl:PE X l tl):PI X tg l (fun σ H R=>tl σ H fun x H1=>∃a,x=.ref a/\((∃xs,hZ X.K H1 a xs/\R (Qb X.K a) H1)\/∃xs,iI X.K H1 a xs/\R (OW X.K a) H1)):=by
 intro pins s σ H R I h
 refine cw (hl pins s σ H _ I h) fun v s1 ⟨x,H1,I1,r1,q1⟩=>?_
 obtain⟨a,e,q⟩:=q1
 subst e
 cases r1
 rcases q with ⟨xs,hq,q⟩|⟨xs,hq,q⟩
 ·obtain⟨its,rv,pl,hz⟩:=I1.list hq
  refine qK pl.isList ⟨s1.heap.objs.size,[s1.heap.objs.size],_,_,H1,rfl,I1.kept (t':=s1.toks) fun b o e=>zT _ e,D9 a _,⟨_,zW _ rfl,rfl,rfl⟩,fun b hb=>?_,q⟩
  cases List.mem_singleton.mp hb
  exact I1.fpOk (yM _) I1.fresh
 ·obtain⟨its,rv,pl,hz⟩:=I1.tuple hq
  refine xR (show s1.heap.IsTuple a its.toArray from pl) ⟨s1.heap.objs.size,[s1.heap.objs.size],_,_,H1,rfl,I1.kept (t':=s1.toks) fun b o e=>zT _ e,AQ a _,⟨_,zW _ rfl,rfl,rfl⟩,fun b hb=>?_,q⟩
  cases List.mem_singleton.mp hb
  exact I1.fpOk (yM _) I1.fresh
def bO(f:Env->Option D):Env->Option (List D):=fun ρ=>(f ρ).bind iG
theorem Hu(h:DE X l f):DI X tg l (bO f):=um (LG h) fun σ H R ⟨HF,ρ,ds,sm,eo,hf,q⟩=>by
 obtain⟨x,hx,hf⟩:=bs hf
 refine⟨HF,ρ,x,sm,eo,hx,fun v1 H1 HF1 g1 r1=>?_⟩
 rcases mn hf with rfl|rfl
 ·simp only[Rep] at r1
  obtain⟨a,vs,rfl,hs,rr⟩:=r1
  exact⟨a,rfl,.inr ⟨vs,aO g1.fh hs,q _ H1 HF1 g1 (Hq hs rr)⟩⟩
 ·simp only[Rep] at r1
  obtain⟨a,vs,rfl,hs,rr⟩:=r1
  exact⟨a,rfl,.inl ⟨vs,g1.fh.seq hs,q _ H1 HF1 g1 (DK hs rr)⟩⟩
def Ax(i:Int):Bool:=decide (-(2 ^ 62)<=i)&&decide (i < 2 ^ 62)
def mD:List D->Option (List D)
 | [.int j]=>if Ax j then some ((List.range j.toNat).map fun i=>PyData.int ((i:Nat):Int)) else none
 | _=>none
theorem ya{ds es:List D}(h:mD ds=some es):∃j,ds=[.int j]/\Ax j=true/\es=(List.range j.toNat).map fun i=>PyData.int ((i:Nat):Int):=by
 unfold mD at h
 split at h
 ·split at h
  ·cases h;exact⟨_,rfl,‹_›,rfl⟩
  ·cases h
 ·cases h
def cg(fs:Env->Option (List D)):Env->Option (List D):=fun ρ=>(fs ρ).bind mD
theorem GZ(B:oU X "range" (.type "range"))(h:DA X [e] fs)(hs:starEach [e] X.env=[(false,eval e X.env)]:=by rfl):DI X tg (.Call (.Name "range" p) [e] [] pos) (cg fs) :=
 um (D1 B.gl B.mg h hs) fun σ H R ⟨HF,ρ,ds,sm,eo,hf,q⟩=>by
  obtain⟨x,hx,hf⟩:=bs hf
  obtain⟨j,rfl,hj,rfl⟩:=ya hf
  refine⟨HF,ρ,_,sm,eo,hx,fun vs H1 HF1 g1 r1=>?_⟩
  obtain⟨v,r,rfl,a,b⟩:=r1.cons_inv
  rw[b.nil_inv]
  simp only[Rep] at a
  subst a
  unfold Ax at hj
  rw[zF] at hj
  refine⟨j,rfl,yQ hj.1,yQ hj.2,q _ H1 HF1 g1 ?_⟩
  have:=Bm (K:=X.K) (HF:=HF1) (lo:=0) (n:=j.toNat)
  simpa using this
def OO(K:W.Frag)(f:Env->D->Option Env):TG:=fun v σ H Q=>∃HF ρ d ρ',aU HF H/\cS K HF ρ σ/\Rep K HF d v/\f ρ d=some ρ'/\∀σ',cS K HF ρ' σ'->cS K HF ρ σ'->Q σ' H
def DG(X:Cx)(tg:Expr)(f:Env->D->Option Env):Prop:=PG X tg (OO X.K f)
theorem pq{t t':TG}(h:PG X tg t)(i:∀v σ H Q,t' v σ H Q->t v σ H Q):PG X tg t':=fun pins s σ H v u Q I r q=>h pins s σ H v u Q I r (i v σ H Q q)
def isFree(ρ:Env)(i:Nat):Bool:=((ρ[i]?).getD none).isNone
theorem iM{K:W.Frag}{HF:Hp}{ρ:Env}{σ:L2.St}{i:Nat}{d:D}{v:V}(eo:cS K HF ρ σ)(r:Rep K HF d v):cS K HF (ρ.set i (some d)) (σ.set i (some v)):=by
 refine⟨fun j e h=>?_,by rw[yB,yB];exact eo.len,eo.tb⟩
 rw[xI] at h ⊢
 by_cases hij:i=j
 ·rw[yL hij] at h ⊢
  by_cases hl:i < ρ.length
  ·rw[yL hl] at h
   cases h
   rw[yL (zP hl eo.len)]
   exact⟨v,rfl,r⟩
  ·rw[yN hl] at h;cases h
 ·rw[yN hij] at h ⊢
  exact eo.get j e h
theorem lr{K:W.Frag}{HF:Hp}{ρ:Env}{σ:L2.St}{i:Nat}{v:V}(eo:cS K HF ρ σ)(hf:isFree ρ i=true):cS K HF ρ (σ.set i (some v)):=by
 refine⟨fun j e h=>?_,by rw[yB];exact eo.len,eo.tb⟩
 have hij:i≠j:=by
  intro z;subst z
  unfold isFree at hf;rw[h] at hf;cases hf
 rw[xI,yN hij]
 exact eo.get j e h
def fG(i:Nat):Env->D->Option Env:=fun ρ d=>if isFree ρ i=true then some (ρ.set i (some d)) else none
theorem JM(i:Nat){x:Str}(hN:X.N.Nodup)(hi:X.N[i]?=some x)(hx:Loc X.env.scope x)(hf:X.fn x=true\/X.env.scope.names.lookup x=some .local:=by first|exact .inl rfl|exact .inr rfl|assumption):DG X (.Name x pos) (fG i) :=
 pq (dN hN hi hx hf) fun v σ H Q ⟨HF,ρ,d,ρ',sm,eo,r,hf,q⟩=>by
  unfold fG at hf
  split at hf
  ·cases hf;exact q _ (iM eo r) (lr eo ‹_›)
  ·cases hf
def zx(i j:Nat):Env->D->Option Env:=fun ρ d=>match d with
 | .tuple [x,y]=>if isFree ρ i=true/\isFree ρ j=true then some ((ρ.set i (some x)).set j (some y)) else none
 | _=>none
theorem L5(i j:Nat){x y:Str}{px py:Pos}{k:Nat}(hc:X.calm=true)(hN:X.N.Nodup)(hi:X.N[i]?=some x)(hx:Loc X.env.scope x)(hj:X.N[j]?=some y)(hy:Loc X.env.scope y)
  (hf:X.fn x=true\/X.env.scope.names.lookup x=some .local:=by first|exact .inl rfl|exact .inr rfl|assumption) (hf':X.fn y=true\/X.env.scope.names.lookup y=some .local:=by first|exact .inl rfl|exact .inr rfl|assumption) :
  DG X (.Tuple [.Name x px,.Name y py] k pos) (zx i j) :=
 pq (uK hc (dJ (dN hN hi hx hf) (dJ (dN hN hj hy hf') o6))) fun v σ H Q ⟨HF,ρ,d,ρ',sm,eo,r,hf,q⟩=>by
  unfold zx at hf
  split at hf
  ·rename_i x' y'
   split at hf
   ·rename_i hh
    cases hf
    simp only[Rep] at r
    obtain⟨a,vs,rfl,hs,rr⟩:=r
    obtain⟨v1,r1,rfl,a1,b1⟩:=rr.cons_inv
    obtain⟨v2,r2,rfl,a2,b2⟩:=b1.cons_inv
    rw[b2.nil_inv] at hs
    exact⟨a,_,rfl,aO sm hs,rfl,v1,_,rfl,v2,_,rfl,rfl,q _ (iM (iM eo a1) a2) (lr (lr eo hh.1) hh.2)⟩
   ·cases hf
  ·cases hf
def gx(tgt:Env->D->Option Env)(tt:Env->Option Bool)(te:Env->Option D)(ρ:Env):List D->Option (List D)
 | []=>some []
 | d::ds=>(tgt ρ d).bind fun ρ'=>(tt ρ').bind fun b=>if b=true then (te ρ').bind fun x=>(gx tgt tt te ρ ds).map (x::·) else gx tgt tt te ρ ds
def Nw(X:Cx)(ifs:List Expr)(f:Env->Option Bool):Prop:=M5 X ifs (K5 X.K f)
theorem JU:Nw X [] (fun _=>some true):=fun pins s σ H Q I ⟨HF,ρ,b,sm,eo,hf,q⟩=>Iq pins s σ H Q I (by cases hf;exact q H HF (.refl sm))
theorem IE{c:Expr}{t:Env->Option Bool}(h:DT X c t):Nw X [c] t:=Jk h
def kj(t:Nat)(cs:List Nat)(σ:L2.St):L2.St:=List.replicate t none++cs.map fun j=>(σ[j]?).getD none
def gJ(t:Nat)(cs:List Nat)(ρ:Env):Env:=List.replicate t none++cs.map fun j=>(ρ[j]?).getD none
theorem Cr{K:W.Frag}{HF:Hp}{ρ:Env}{σ:L2.St}{t:Nat}{cs:List Nat}(eo:cS K HF ρ σ):cS K HF (gJ t cs ρ) (kj t cs σ):=by
 refine⟨fun i d h=>?_,by simp[gJ,kj],eo.tb⟩
 unfold gJ at h
 unfold kj
 by_cases hi:i < t
 ·rw[yS (by simpa using hi),yX,yL hi] at h
  cases h
 ·rw[yT (by simpa using hi),zO,xM] at h
  rw[yT (by simpa using hi),zO,xM]
  obtain⟨j,hj,h⟩:=ag h
  rw[hj]
  cases e:ρ[j]? with
  | none=>rw[e] at h;cases h
  | some o =>
   rw[e] at h
   have h:o=some d:=h
   subst h
   obtain⟨v,a,b⟩:=eo.get j d e
   exact⟨v,by show some ((σ[j]?).getD none)=_;rw[a];rfl,b⟩
def aN(t:Nat)(cs:List Nat)(fi:Env->Option (List D))(tgt:Env->D->Option Env)(tt:Env->Option Bool)(te:Env->Option D):Env->Option (List D):=fun ρ=>(fi ρ).bind fun ds=>(gx tgt tt te (gJ t cs ρ) ds).bind small
variable {elt iter:Expr}{ifs:List Expr}{scope:Scope}{N:List Str}{t:Nat}{cs:List Nat}{fi:Env->Option (List D)}{tgt:Env->D->Option Env}{tt:Env->Option Bool}{te:Env->Option D}
theorem Hn:∀σ H Q,tF X.K (aN t cs fi tgt tt te) σ H Q->HC (Qg X.K fi) (OO X.K tgt) (K5 X.K tt) (tD X.K te) (kj t cs) σ H Q:=fun σ H Q ⟨HF,ρ,out,sm,eo,hf,q⟩=>by
 obtain⟨ds,hx,hf⟩:=bs hf
 obtain⟨out',ho,hf⟩:=bs hf
 obtain⟨rfl,hz⟩:=eS hf
 refine⟨HF,ρ,ds,sm,eo,hx,fun J H1 HF1 g1 it Dn hD=>?_⟩
 have eo1:=Cr (t:=t) (cs:=cs) (eo.mono g1.ff)
 have hFD:HF1 Dn=none:=g1.fh.free hD
 refine⟨fun i m σ' H'=>m+i=ds.length/\∃HF' xs ys rest,bJ HF1 H1 HF' H'/\HF' Dn=none/\H' Dn=some (.lst ys)/\aw X.K HF' xs ys/\cS X.K HF' (gJ t cs ρ) σ'/\gx tgt tt te (gJ t cs ρ) (ds.drop i)=some rest/\xs++rest=out,
  ⟨ds.length,rfl,HF1,[],[],out,.own g1.fh hD,hFD,aI,aw.nil,eo1,ho,rfl⟩,?_⟩
 rintro i m σ' H' ⟨hm,HF',xs,ys,rest,G,hFD',hHD,rr,eo',hc,hout⟩
 by_cases hi:i < ds.length
 ·refine .inr ?_
  have hd:ds.drop i=ds[i]::ds.drop (i+1):=vB hi
  have he:ds[i]?=some ds[i]:=List.getElem?_eq_some_iff.mpr ⟨hi,rfl⟩
  generalize ds[i]=d at hd he
  rw[hd] at hc
  unfold gx at hc
  obtain⟨ρ',h1,hc⟩:=bs hc
  obtain⟨b,h2,hc⟩:=bs hc
  obtain⟨go,yld⟩:=it.go i d H' HF' he G.ff G.fh
  refine⟨go,fun x H2 y=>?_⟩
  obtain⟨HF2,G2,rx⟩:=yld x H2 y
  refine⟨HF2,_,d,ρ',G2.fh,eo'.mono G2.ff,rx,h1,fun σ2 eo2 eo2'=>?_⟩
  refine⟨HF2,ρ',b,G2.fh,eo2,h2,fun H3 HF3 G3=>?_⟩
  have nof:∀HF4 H4,bJ HF' H' HF4 H4->HF4 Dn=none:=fun HF4 H4 G4=>by
   cases e4:HF4 Dn with
   | none=>rfl
   | some o =>
    rcases G4.nw Dn o e4 with z|z
    ·rw[hFD'] at z;cases z
    ·rw[hHD] at z;cases z
  cases b with
  | false =>
   refine oV ⟨m - 1,by omega,by omega,HF3,xs,ys,rest,(G.trans G2).trans G3,nof _ _ (G2.trans G3),(G2.trans G3).hh _ _ hHD,rr.mono (G2.trans G3).ff,eo2'.mono G3.ff,by simpa using hc,hout⟩
  | true =>
   rw[yL rfl] at hc
   obtain⟨z,h3,hc⟩:=bs hc
   obtain⟨rest',h4,rfl⟩:=ag hc
   refine rZ ⟨HF3,ρ',z,G3.fh,eo2.mono G3.ff,h3,fun v H4 HF4 G4 rv=>?_⟩
   have GG:=(G2.trans G3).trans G4
   have n4:=nof _ _ GG
   have h4D:=GG.hh _ _ hHD
   have hlen:ys.length < sizeLine:=by
    have e1:=rr.length
    have e2:out.length=xs.length+(rest'.length+1):=by rw[<- hout];simp
    omega
   refine⟨ys,h4D,hlen,m - 1,by omega,by omega,HF4,xs++[z],ys++[v],rest',?_,n4,aI,(rr.mono GG.ff).append (aw.cons rv aw.nil),eo2'.mono (G3.ff.trans G4.ff),h4,by simp[<- hout]⟩
   have G5:=G.trans GG
   refine⟨fun b o e=>?_,G5.ff,fun b o e=>?_,G5.nw⟩
   ·rw[aG (aV e hD)];exact G5.hh b o e
   ·rw[aG (aV e n4)];exact G5.fh b o e
 ·have hi':i=ds.length:=by omega
  subst hi'
  rw[List.drop_length] at hc
  cases hc
  rw[qF] at hout
  subst hout
  exact .inl ⟨it.stop H' HF' G.ff G.fh,q Dn ys H' HF' (g1.trans G) (g1.hh.free hD) hFD' hHD rr⟩
theorem IT(hc:X.calm=true)(S:je X scope N (kj t cs))(hi:DI X tg iter fi)
  (hY:∀fp s H,DG (bg X scope N fp s H) tg tgt/\Nw (bg X scope N fp s H) ifs tt/\DE (bg X scope N fp s H) elt te)
  (hs:∀x,foldedSetIterable iter X.env x=pure x:=by intro _;rfl):DF X (.ListComp elt [⟨tg,iter,ifs,0⟩] scope pos) (aN t cs fi tgt tt te):=bh (HZ (g:=OO X.K tgt) (tt:=K5 X.K tt) (te:=tD X.K te) hc S hi hY hs) Hn
end
inductive Slot where
 | non|val (d:D)|own (ds:List D)
abbrev aq:=List Slot
def Slot.all:Slot->Option D|.non=>none|.val d=>some d|.own ds=>some (.list ds)
def Slot.frz:Slot->Option D|.val d=>some d|_=>none
def Slot.thaw:Slot->Slot|.own ds=>.val (.list ds)|s=>s
def aW(ρ:aq):Env:=ρ.map Slot.all
def cJ(ρ:aq):Env:=ρ.map Slot.frz
def hand(fz:List Nat):Nat->aq->aq
 | _,[]=>[]
 | k,s::r=>(if fz.contains k=true then s.thaw else s)::hand fz (k+1) r
theorem ig(fz:List Nat):∀ (ρ:aq) (k i:Nat),(hand fz k ρ)[i]?=(ρ[i]?).map fun s=>if fz.contains (k+i)=true then s.thaw else s
 | [],k,i=>by simp[hand]
 | s::r,k,0=>by simp[hand]
 | s::r,k,i+1=>by
  simp only[hand,yY]
  rw[ig fz r (k+1) i,Nat.add_assoc,Nat.add_comm 1 i]
theorem yr(fz:List Nat):∀ (ρ:aq) (k:Nat),(hand fz k ρ).length=ρ.length
 | [],k=>rfl
 | s::r,k=>by simp[hand,yr fz r (k+1)]
structure jr(K:W.Frag)(HF₀ H₀ HF H:Hp)(ρ:aq)(σ:L2.St):Prop where
 gr:bJ HF₀ H₀ HF H
 val:∀ (i:Nat) (d:D),ρ[i]?=some (.val d)->∃v,σ[i]?=some (some v)/\Rep K HF d v
 own:∀ (i:Nat) (ds:List D),ρ[i]?=some (.own ds)->∃a vs,σ[i]?=some (some (.ref a))/\H a=some (.lst vs)/\HF a=none/\H₀ a=none/\aw K HF ds vs
 inj:∀ (i j:Nat) (ds es:List D) (a:Addr),ρ[i]?=some (.own ds)->ρ[j]?=some (.own es)->σ[i]?=some (some (.ref a))->σ[j]?=some (some (.ref a))->i=j
 len:ρ.length<=σ.length
 tb:eN K HF
section
variable {K:W.Frag}{HF₀ H₀ HF H HF' H':Hp}{ρ:aq}{σ:L2.St}
theorem jr.all(S:jr K HF₀ H₀ HF H ρ σ):cS K H (aW ρ) σ:=by
 refine⟨fun i d h=>?_,by simpa [aW] using S.len,S.tb.mono S.gr.fh⟩
 unfold aW at h
 rw[zO] at h
 obtain⟨s,hs,h⟩:=ag h
 cases s with
 | non=>cases h
 | val e=>cases h;obtain⟨v,a,b⟩:=S.val i _ hs;exact⟨v,a,b.mono S.gr.fh⟩
 | own ds =>
  cases h
  obtain⟨a,vs,e1,e2,e3,_,e4⟩:=S.own i ds hs
  exact⟨.ref a,e1,by simp only[Rep];exact⟨a,vs,rfl,hZ.of e2,e4.mono S.gr.fh⟩⟩
theorem jr.frz(S:jr K HF₀ H₀ HF H ρ σ):cS K HF (cJ ρ) σ:=by
 refine⟨fun i d h=>?_,by simpa [cJ] using S.len,S.tb⟩
 unfold cJ at h
 rw[zO] at h
 obtain⟨s,hs,h⟩:=ag h
 cases s with
 | non=>cases h
 | val e=>cases h;exact S.val i _ hs
 | own ds=>cases h
theorem jr.grow(S:jr K HF₀ H₀ HF H ρ σ)(g:bJ HF H HF' H'):jr K HF₀ H₀ HF' H' ρ σ where
 gr:=S.gr.trans g
 val:=fun i d h=>let ⟨v,a,b⟩:=S.val i d h;⟨v,a,b.mono g.ff⟩
 own:=fun i ds h=>by
  obtain⟨a,vs,e1,e2,e3,e5,e4⟩:=S.own i ds h
  refine⟨a,vs,e1,g.hh _ _ e2,?_,e5,e4.mono g.ff⟩
  cases e:HF' a with
  | none=>rfl
  | some o =>
   rcases g.nw a o e with z|z
   ·rw[e3] at z;cases z
   ·rw[e2] at z;cases z
 inj:=S.inj
 len:=S.len
 tb:=S.tb.mono g.ff
theorem jr.step(S:jr K HF₀ H₀ HF H ρ σ)(g:aU H H'):jr K HF₀ H₀ HF H' ρ σ:=S.grow ⟨g,.refl _,S.gr.fh.trans g,fun _ _ e=>.inl e⟩
theorem jr.hand(S:jr K HF₀ H₀ HF H ρ σ)(fz:List Nat):∃HF1,aU HF HF1/\jr K HF₀ H₀ HF1 H (hand fz 0 ρ) σ:=by
 let P:Addr->Prop:=fun a=>∃i ds,fz.contains i=true/\ρ[i]?=some (.own ds)/\σ[i]?=some (some (.ref a))
 have cl:=Classical.propDecidable
 let HF1:Hp:=fun a=>if P a then H a else HF a
 have hP:∀a,P a->HF a=none/\H₀ a=none:=fun a ⟨i,ds,_,h1,h2⟩=>by
  obtain⟨a',vs,e1,e2,e3,e5,e4⟩:=S.own i ds h1
  rw[h2] at e1
  cases e1
  exact⟨e3,e5⟩
 have s1:aU HF HF1:=fun b o e=>by
  show (if P b then H b else HF b)=some o
  by_cases h:P b
  ·rw[(hP b h).1] at e;cases e
  ·rw[yN h];exact e
 have s2:aU HF1 H:=fun b o e=>by
  have e:(if P b then H b else HF b)=some o:=e
  by_cases h:P b
  ·rw[yL h] at e;exact e
  ·rw[yN h] at e;exact S.gr.fh b o e
 refine⟨HF1,s1,⟨S.gr.hh,S.gr.ff.trans s1,s2,fun b o e=>?_⟩,fun i d h=>?_,fun i ds h=>?_,fun i j ds es a h1 h2=>?_,by rw[yr];exact S.len,S.tb.mono s1⟩
 ·have e:(if P b then H b else HF b)=some o:=e
  by_cases h:P b
  ·exact .inr (hP b h).2
  ·rw[yN h] at e;exact S.gr.nw b o e
 ·rw[ig] at h
  obtain⟨s,hs,h⟩:=ag h
  rw[jD] at h
  cases s with
  | non=>split at h<;>cases h
  | val e =>
   have:Slot.val e=Slot.val d:=by split at h<;>exact h
   cases this
   obtain⟨v,a,b⟩:=S.val i _ hs
   exact⟨v,a,b.mono s1⟩
  | own ds =>
   split at h
   ·rename_i hc
    cases h
    obtain⟨a,vs,e1,e2,e3,e5,e4⟩:=S.own i ds hs
    refine⟨.ref a,e1,?_⟩
    simp only[Rep]
    refine⟨a,vs,rfl,.inl (.inl ?_),e4.mono s1⟩
    show (if P a then H a else HF a)=_
    rw[yL ⟨i,ds,hc,hs,e1⟩]
    exact e2
   ·cases h
 ·rw[ig] at h
  obtain⟨s,hs,h⟩:=ag h
  rw[jD] at h
  cases s with
  | non=>split at h<;>cases h
  | val e=>split at h<;>cases h
  | own es =>
   split at h
   ·cases h
   ·rename_i hc
    cases h
    obtain⟨a,vs,e1,e2,e3,e5,e4⟩:=S.own i ds hs
    refine⟨a,vs,e1,e2,?_,e5,e4.mono s1⟩
    show (if P a then H a else HF a)=none
    rw[yN ?_]
    ·exact e3
    ·rintro⟨j,es,hj,h1,h2⟩
     have:=S.inj i j ds es a hs h1 e1 h2
     subst this
     exact hc hj
 ·rw[ig] at h1 h2
  obtain⟨s,hs,h1⟩:=ag h1
  obtain⟨s',hs',h2⟩:=ag h2
  rw[jD] at h1 h2
  cases s with
  | non=>split at h1<;>cases h1
  | val e=>split at h1<;>cases h1
  | own xs =>
   cases s' with
   | non=>split at h2<;>cases h2
   | val e=>split at h2<;>cases h2
   | own ys=>exact S.inj i j _ _ a hs hs'
theorem jr.setV(S:jr K HF₀ H₀ HF H ρ σ){i:Nat}{d:D}{v:V}(r:Rep K HF d v):jr K HF₀ H₀ HF H (ρ.set i (.val d)) (σ.set i (some v)):=by
 have ne:∀ {j:Nat}{s:Slot},(ρ.set i (.val d))[j]?=some s->(∀e,s≠.val e)->i≠j/\ρ[j]?=some s:=fun {j s} h hn=>by
  rw[xI] at h
  by_cases hij:i=j
  ·rw[yL hij] at h
   split at h
   ·cases h;exact absurd rfl (hn _)
   ·cases h
  ·rw[yN hij] at h;exact⟨hij,h⟩
 refine⟨S.gr,fun j e h=>?_,fun j ds h=>?_,fun j k ds es a h1 h2 h3 h4=>?_,by rw[yB,yB];exact S.len,S.tb⟩
 ·rw[xI] at h ⊢
  by_cases hij:i=j
  ·rw[yL hij] at h ⊢
   split at h
   ·rename_i hl
    cases h
    rw[yL (zP hl S.len)]
    exact⟨v,rfl,r⟩
   ·cases h
  ·rw[yN hij] at h ⊢
   exact S.val j e h
 ·obtain⟨hij,h⟩:=ne h fun e z=>by cases z
  rw[xI,yN hij]
  exact S.own j ds h
 ·obtain⟨n1,h1⟩:=ne h1 fun e z=>by cases z
  obtain⟨n2,h2⟩:=ne h2 fun e z=>by cases z
  rw[xI,yN n1] at h3
  rw[xI,yN n2] at h4
  exact S.inj j k ds es a h1 h2 h3 h4
theorem jr.setO(S:jr K HF₀ H₀ HF H ρ σ){i:Nat}{ds:List D}{a:Addr}{vs:List V}(hs:aU H H')(h1:H' a=some (.lst vs))(h2:HF a=none)(h3:H₀ a=none)(r:aw K HF ds vs)
  (fr:∀j es,i≠j->ρ[j]?=some (.own es)->σ[j]?≠some (some (.ref a))):jr K HF₀ H₀ HF H' (ρ.set i (.own ds)) (σ.set i (some (.ref a))):=by
 have S:=S.step hs
 refine⟨S.gr,fun j e h=>?_,fun j es h=>?_,fun j k xs ys b e1 e2 e3 e4=>?_,by rw[yB,yB];exact S.len,S.tb⟩
 ·rw[xI] at h ⊢
  by_cases hij:i=j
  ·rw[yL hij] at h
   split at h<;>cases h
  ·rw[yN hij] at h ⊢
   exact S.val j e h
 ·rw[xI] at h ⊢
  by_cases hij:i=j
  ·rw[yL hij] at h ⊢
   split at h
   ·rename_i hl
    cases h
    rw[yL (zP hl S.len)]
    exact⟨a,vs,rfl,h1,h2,h3,r⟩
   ·cases h
  ·rw[yN hij] at h ⊢
   exact S.own j es h
 ·rw[xI] at e1 e2 e3 e4
  by_cases hij:i=j
  ·by_cases hik:i=k
   ·exact hij.symm.trans hik
   ·rw[yL hij] at e1 e3
    rw[yN hik] at e2 e4
    split at e3
    ·cases e3;exact absurd e4 (fr k ys hik e2)
    ·cases e3
  ·by_cases hik:i=k
   ·rw[yN hij] at e1 e3
    rw[yL hik] at e2 e4
    split at e4
    ·cases e4;exact absurd e3 (fr j xs hij e1)
    ·cases e4
   ·rw[yN hij] at e1 e3
    rw[yN hik] at e2 e4
    exact S.inj j k xs ys b e1 e2 e3 e4
end
inductive Out where
 | nx (ρ:aq)|rt (d:D)
def CT(K:W.Frag)(HF₀ H₀ HF:Hp)(E:Ends):Out->Prop
 | .nx ρ'=>∀σ' H' HF',jr K HF₀ H₀ HF' H' ρ' σ'->aU HF HF'->E.nx σ' H'
 | .rt d=>∀v H' HF',bJ HF₀ H₀ HF' H'->Rep K HF' d v->E.rt v H'
def tS(K:W.Frag)(HF₀ H₀:Hp)(g:aq->Option Out):TS:=fun E σ H=>∃HF ρ o,jr K HF₀ H₀ HF H ρ σ/\g ρ=some o/\CT K HF₀ H₀ HF E o
def DS(X:Cx)(HF₀ H₀:Hp)(st:Stmt)(g:aq->Option Out):Prop:=PS X st (tS X.K HF₀ H₀ g)
def CS(X:Cx)(HF₀ H₀:Hp)(st:List Stmt)(g:aq->Option Out):Prop:=u3 X st (tS X.K HF₀ H₀ g)
section
variable {X:Cx}{HF₀ H₀:Hp}{st:Stmt}{rest:List Stmt}{g g1 g2:aq->Option Out}{e:Expr}{pos:Pos}
theorem cH{t t':TS}(h:PS X st t)(i:∀E σ H,t' E σ H->t E σ H):PS X st t':=fun pins s σ H E I q=>h pins s σ H E I (i E σ H q)
theorem o7{t t':TS}(h:u3 X rest t)(i:∀E σ H,t' E σ H->t E σ H):u3 X rest t':=fun pins s σ H E I q=>h pins s σ H E I (i E σ H q)
def cU:aq->Option Out:=fun ρ=>some (.nx ρ)
def ay(g1 g2:aq->Option Out):aq->Option Out:=fun ρ=>(g1 ρ).bind fun|.nx ρ'=>g2 ρ'|.rt d=>some (.rt d)
theorem CT.mono{K:W.Frag}{HF HF':Hp}{E:Ends}{o:Out}(s:aU HF HF')(h:CT K HF₀ H₀ HF E o):CT K HF₀ H₀ HF' E o:=by
 cases o with
 | nx ρ'=>exact fun σ' H' HF2 S s2=>h σ' H' HF2 S (s.trans s2)
 | rt d=>exact h
theorem Iw:CS X HF₀ H₀ [] cU:=o7 uS fun E σ H ⟨HF,ρ,o,S,hg,q⟩=>by cases hg;exact q σ H HF S (.refl _)
theorem GR(h1:DS X HF₀ H₀ st g1)(h2:CS X HF₀ H₀ rest g2):CS X HF₀ H₀ (st::rest) (ay g1 g2):=o7 (ix h1 h2) fun E σ H ⟨HF,ρ,o,S,hg,q⟩=>by
 obtain⟨o1,h,hg⟩:=bs hg
 refine⟨HF,ρ,o1,S,h,?_⟩
 cases o1 with
 | nx ρ'=>exact fun σ' H' HF' S' s=>⟨HF',ρ',o,S',hg,q.mono s⟩
 | rt d=>cases hg;exact q
theorem CN(h1:DS X HF₀ H₀ st g1):CS X HF₀ H₀ [st] g1:=HU h1
theorem Il:DS X HF₀ H₀ (.Pass pos) cU:=cH JI fun E σ H ⟨HF,ρ,o,S,hg,q⟩=>by cases hg;exact q σ H HF S (.refl _)
theorem MQ{x j pos pos'}:DS X HF₀ H₀ (.Expr (.Constant (.str x) j pos) pos') cU:=cH MD fun E σ H ⟨HF,ρ,o,S,hg,q⟩=>by cases hg;exact q σ H HF S (.refl _)
def iw(t:Env->Option Bool)(g1 g2:aq->Option Out):aq->Option Out:=fun ρ=>(t (aW ρ)).bind fun b=>if b=true then g1 ρ else g2 ρ
theorem Oy{c:Expr}{a b:List Stmt}{t:Env->Option Bool}(hc:DT X c t)(ha:CS X HF₀ H₀ a g1)(hb:CS X HF₀ H₀ b g2):DS X HF₀ H₀ (.If c a b pos) (iw t g1 g2):=cH (Gu hc ha hb) fun E σ H ⟨HF,ρ,o,S,hg,q⟩=>by
 obtain⟨b,h,hg⟩:=bs hg
 refine⟨H,aW ρ,b,.refl _,S.all,h,fun H' HF' G=>?_⟩
 cases b with
 | true=>exact rZ ⟨HF,ρ,o,S.step G.hh,hg,q⟩
 | false=>exact oV ⟨HF,ρ,o,S.step G.hh,hg,q⟩
theorem Ac:∀ (ρ:aq) (k n:Nat),k+ρ.length<=n->cJ (hand (List.range n) k ρ)=aW ρ
 | [],k,n,h=>rfl
 | s::r,k,n,h=>by
  have hk:(List.range n).contains k=true:=by simp at h ⊢;omega
  have ih:=Ac r (k+1) n (by simp at h;omega)
  unfold cJ aW at ih ⊢
  rw[hand,yL hk,zI,zI,ih]
  cases s<;>rfl
def bu(f:Env->Option D):aq->Option Out:=fun ρ=>(f (aW ρ)).map Out.rt
theorem L6{f:Env->Option D}(h:DE X e f):DS X HF₀ H₀ (.Return (some e) pos) (bu f):=cH (BE h) fun E σ H ⟨HF,ρ,o,S,hg,q⟩=>by
 obtain⟨d,h,rfl⟩:=ag hg
 obtain⟨HF1,s1,S1⟩:=S.hand (List.range ρ.length)
 refine⟨HF1,aW ρ,d,S1.gr.fh,?_,h,fun v H' HF' G r=>q v H' HF' (S1.gr.trans G) r⟩
 have:=S1.frz
 rw[Ac ρ 0 ρ.length (by omega)] at this
 exact this
def oZ:D->Bool|.none=>true|.bool _=>true|.int _=>true|.str _=>true|_=>false
theorem xn{K:W.Frag}{HF HF':Hp}{d:D}{v:V}(h:oZ d=true)(r:Rep K HF d v):Rep K HF' d v:=by
 cases d<;>cases h<;>(simp only[Rep] at r ⊢;exact r)
mutual
def ir:D->Bool
 | .tuple ds=>pE ds
 | .list _=>false
 | .dict _=>false
 | _=>true
def pE:List D->Bool
 | []=>true
 | d::ds=>ir d&&pE ds
end
mutual
theorem yw{K:W.Frag}{H1 H2:Hp}(ht:∀a xs,iI K H1 a xs->iI K H2 a xs):∀ {d:D}{v:V},ir d=true->Rep K H1 d v->Rep K H2 d v
 | .none,_,_,r=>by simp only[Rep] at r ⊢;exact r
 | .bool _,_,_,r=>by simp only[Rep] at r ⊢;exact r
 | .int _,_,_,r=>by simp only[Rep] at r ⊢;exact r
 | .str _,_,_,r=>by simp only[Rep] at r ⊢;exact r
 | .tuple ds,v,h,r=>by
  simp only[ir] at h
  simp only[Rep] at r ⊢
  obtain⟨a,vs,e,q,rr⟩:=r
  exact⟨a,vs,e,ht _ _ q,tN ht h rr⟩
 | .list _,_,h,_=>by simp[ir] at h
 | .dict _,_,h,_=>by simp[ir] at h
theorem tN{K:W.Frag}{H1 H2:Hp}(ht:∀a xs,iI K H1 a xs->iI K H2 a xs):∀ {ds:List D}{vs:List V},pE ds=true->aw K H1 ds vs->aw K H2 ds vs
 | [],_,_,r=>by simp only[aw] at r ⊢;exact r
 | d::ds,vs,h,r=>by
  simp only[pE,zF] at h
  simp only[aw] at r ⊢
  obtain⟨v,r',e,a,b⟩:=r
  exact⟨v,r',e,yw ht h.1 a,tN ht h.2 b⟩
end
theorem jr.back{K:W.Frag}{HF₀ H₀ HF H HF1 HF' H':Hp}{ρ ρ1:aq}{σ:L2.St}(S:jr K HF₀ H₀ HF H ρ σ)(S1:jr K HF₀ H₀ HF1 H ρ1 σ)(s1:aU HF HF1)(G:bJ HF1 H HF' H'):∃HF2,aU HF HF2/\jr K HF₀ H₀ HF2 H' ρ σ/\∀d v,ir d=true->Rep K HF' d v->Rep K HF2 d v:=by
 have cl:=Classical.propDecidable
 let O:Addr->Prop:=fun a=>∃ (i:Nat) (ds:List D),ρ[i]?=some (Slot.own ds)/\σ[i]?=some (some (V.ref a))
 let HF2:Hp:=fun a=>if O a then none else HF' a
 have hO:∀a,O a->HF a=none/\∃vs,H a=some (.lst vs):=fun a ⟨i,ds,h1,h2⟩=>by
  obtain⟨a',vs,e1,e2,e3,_,_⟩:=S.own i ds h1
  rw[h2] at e1
  cases e1
  exact⟨e3,vs,e2⟩
 have h2:∀a,¬ O a->HF2 a=HF' a:=fun a n=>yN n
 have h3:∀a,O a->HF2 a=none:=fun a n=>yL n
 have sa:aU HF HF2:=fun b o e=>by
  have nb:¬ O b:=fun z=>by rw[(hO b z).1] at e;cases e
  rw[h2 b nb]
  exact G.ff b o (s1 b o e)
 have sb:∀b o,HF2 b=some o->HF' b=some o:=fun b o e=>by
  by_cases z:O b
  ·rw[h3 b z] at e;cases e
  ·rwa [h2 b z] at e
 have g2:=S1.gr.trans G
 refine⟨HF2,sa,⟨⟨g2.hh,S.gr.ff.trans sa,fun b o e=>G.fh b o (sb b o e),fun b o e=>g2.nw b o (sb b o e)⟩,fun i d h=>?_,fun i ds h=>?_,S.inj,S.len,S.tb.mono sa⟩,fun d v hn r=>yw (fun a xs q=>?_) hn r⟩
 ·obtain⟨v,e1,r⟩:=S.val i d h
  exact⟨v,e1,r.mono sa⟩
 ·obtain⟨a,vs,e1,e2,e3,e5,e4⟩:=S.own i ds h
  exact⟨a,vs,e1,G.hh _ _ e2,h3 a ⟨i,ds,h,e1⟩,e5,e4.mono sa⟩
 ·have nt:∀o,HF' a=some o->(∀vs,o≠.lst vs)->HF2 a=some o:=fun o e hne=>by
   by_cases z:O a
   ·obtain⟨_,vs,e2⟩:=hO a z
    have:=G.hh _ _ e2
    rw[G.fh a o e] at this
    cases this
    exact absurd rfl (hne vs)
   ·rw[h2 a z];exact e
  rcases q with (q|⟨o,q⟩)|q
  ·exact .inl (.inl (nt _ q fun vs z=>by cases z))
  ·exact .inl (.inr ⟨o,nt _ q fun vs z=>by cases z⟩)
  ·exact .inr q
def ba(i:Nat)(fz:List Nat)(f:Env->Option D):aq->Option Out:=fun ρ=>(f (aW ρ)).bind fun d=>if oZ d=true then some (.nx (ρ.set i (.val d))) else (f (cJ (hand fz 0 ρ))).map fun d'=>.nx ((if ir d'=true then ρ else hand fz 0 ρ).set i (.val d'))
theorem NH{i:Nat}{fz:List Nat}{f:Env->Option D}:∀E σ H,tS X.K HF₀ H₀ (ba i fz f) E σ H->Hs (tD X.K f) (zr i) E σ H:=fun E σ H ⟨HF,ρ,o,S,hg,q⟩=>by
 obtain⟨d,h,hg⟩:=bs hg
 split at hg
 ·rename_i hs
  cases hg
  exact⟨H,aW ρ,d,.refl _,S.all,h,fun v H' HF' G r=>q _ H' HF ((S.step G.hh).setV (xn hs r)) (.refl _)⟩
 ·obtain⟨d',h',rfl⟩:=ag hg
  obtain⟨HF1,s1,S1⟩:=S.hand fz
  refine⟨HF1,_,d',S1.gr.fh,S1.frz,h',fun v H' HF' G r=>?_⟩
  by_cases hn:ir d'=true
  ·rw[yL hn] at q
   obtain⟨HF2,s2,S2,hb⟩:=S.back S1 s1 G
   exact q _ H' HF2 (S2.setV (hb d' v hn r)) s2
  ·rw[yN hn] at q
   exact q _ H' HF' ((S1.grow G).setV r) (s1.trans G.ff)
theorem MW(i:Nat)(fz:List Nat){x:Str}{f:Env->Option D}{pos':Pos}(hN:X.N.Nodup)(hi:X.N[i]?=some x)(hx:Loc X.env.scope x)(he:DE X e f)(hs:swapsWith e (some (.Name x pos')) pos.line X.env=pure false:=by rfl)
  (hf:X.fn x=true\/X.env.scope.names.lookup x=some .local:=by first|exact .inl rfl|exact .inr rfl|assumption):DS X HF₀ H₀ (.Assign [.Name x pos'] e pos) (ba i fz f):=cH (rP hN hi hx he hs hf) NH
def br(i:Nat)(fz:List Nat)(f:Env->Option (List D)):aq->Option Out:=fun ρ=>(f (cJ (hand fz 0 ρ))).map fun ds=>.nx ((hand fz 0 ρ).set i (.own ds))
theorem E6{i:Nat}{fz:List Nat}{f:Env->Option (List D)}:∀E σ H,tS X.K HF₀ H₀ (br i fz f) E σ H->Hs (tF X.K f) (zr i) E σ H:=fun E σ H ⟨HF,ρ,o,S,hg,q⟩=>by
 obtain⟨ds,h,rfl⟩:=ag hg
 obtain⟨HF1,s1,S1⟩:=S.hand fz
 refine⟨HF1,_,ds,S1.gr.fh,S1.frz,h,fun a vs H' HF' G ha hf h' r=>q _ H' HF' ?_ (s1.trans G.ff)⟩
 have S2:=S1.grow G
 refine S2.setO (.refl _) h' hf (S1.gr.hh.free ha) r fun j es _ hj z=>?_
 obtain⟨b,us,e1,e2,_⟩:=S1.own j es hj
 rw[e1] at z
 cases z
 rw[ha] at e2;cases e2
theorem vd(i:Nat)(fz:List Nat){x:Str}{f:Env->Option (List D)}{pos':Pos}(hN:X.N.Nodup)(hi:X.N[i]?=some x)(hx:Loc X.env.scope x)(he:DF X e f)(hs:swapsWith e (some (.Name x pos')) pos.line X.env=pure false:=by rfl)
  (hf:X.fn x=true\/X.env.scope.names.lookup x=some .local:=by first|exact .inl rfl|exact .inr rfl|assumption):DS X HF₀ H₀ (.Assign [.Name x pos'] e pos) (br i fz f):=cH (rP hN hi hx he hs hf) E6
theorem Jo(i:Nat)(fz:List Nat){y:Str}{py spos:Pos}{tg iter elt:Expr}{ifs:List Expr}{scope:Scope}{N:List Str}{t:Nat}{cs:List Nat}{fi:Env->Option (List D)}{tgt:Env->D->Option Env}{tt:Env->Option Bool}{te:Env->Option D}
  (hc:X.calm=true) (S:je X scope N (kj t cs)) (hi:DI X tg iter fi)
  (hY:∀fp s H,DG (bg X scope N fp s H) tg tgt/\Nw (bg X scope N fp s H) ifs tt/\DE (bg X scope N fp s H) elt te)
  (hN:X.N.Nodup) (hiy:X.N[i]?=some y) (hy:X.env.scope.names.lookup y=some .local)
  (hsw:swapsWith (.ListComp elt [⟨tg,iter,ifs,0⟩] scope pos) (some (.Name y py)) spos.line X.env=pure true)
  (hs:∀x,foldedSetIterable iter X.env x=pure x:=by intro _;rfl):DS X HF₀ H₀ (.Assign [.Name y py] (.ListComp elt [⟨tg,iter,ifs,0⟩] scope pos) spos) (br i fz (aN t cs fi tgt tt te)) :=
 cH (JH (g:=OO X.K tgt) (tt:=K5 X.K tt) (te:=tD X.K te) hc S hi hY hN hiy hy hsw hs) fun E σ H q=>by
  have:=E6 E σ H q
  exact Hn σ H _ this
def QC(K:W.Frag)(HF₀ H₀:Hp)(f:aq->D->Option aq):TG:=fun v σ H Q=>∃HF ρ d ρ',jr K HF₀ H₀ HF H ρ σ/\Rep K HF d v/\f ρ d=some ρ'/\∀σ',jr K HF₀ H₀ HF H ρ' σ'->Q σ' H
def OS(X:Cx)(HF₀ H₀:Hp)(tg:Expr)(f:aq->D->Option aq):Prop:=PG X tg (QC X.K HF₀ H₀ f)
def AX(i:Nat):aq->D->Option aq:=fun ρ d=>some (ρ.set i (.val d))
theorem FF(i:Nat){x:Str}(hN:X.N.Nodup)(hi:X.N[i]?=some x)(hx:Loc X.env.scope x)(hf:X.fn x=true\/X.env.scope.names.lookup x=some .local:=by first|exact .inl rfl|exact .inr rfl|assumption):OS X HF₀ H₀ (.Name x pos) (AX i) :=
 pq (dN hN hi hx hf) fun v σ H Q ⟨HF,ρ,d,ρ',S,r,hf,q⟩=>by cases hf;exact q _ (S.setV r)
def mE(i j:Nat):aq->D->Option aq:=fun ρ d=>match d with
 | .tuple [x,y]=>some ((ρ.set i (.val x)).set j (.val y))
 | _=>none
theorem Jg(i j:Nat){x y:Str}{px py:Pos}{k:Nat}(hc:X.calm=true)(hN:X.N.Nodup)(hi:X.N[i]?=some x)(hx:Loc X.env.scope x)(hj:X.N[j]?=some y)(hy:Loc X.env.scope y)
  (hf:X.fn x=true\/X.env.scope.names.lookup x=some .local:=by first|exact .inl rfl|exact .inr rfl|assumption) (hf':X.fn y=true\/X.env.scope.names.lookup y=some .local:=by first|exact .inl rfl|exact .inr rfl|assumption) :
  OS X HF₀ H₀ (.Tuple [.Name x px,.Name y py] k pos) (mE i j) :=
 pq (uK hc (dJ (dN hN hi hx hf) (dJ (dN hN hj hy hf') o6))) fun v σ H Q ⟨HF,ρ,d,ρ',S,r,hf,q⟩=>by
  unfold mE at hf
  split at hf
  ·cases hf
   simp only[Rep] at r
   obtain⟨a,vs,rfl,hs,rr⟩:=r
   obtain⟨v1,r1,rfl,a1,b1⟩:=rr.cons_inv
   obtain⟨v2,r2,rfl,a2,b2⟩:=b1.cons_inv
   rw[b2.nil_inv] at hs
   exact⟨a,_,rfl,aO S.gr.fh hs,rfl,v1,_,rfl,v2,_,rfl,rfl,q _ ((S.setV a1).setV a2)⟩
  ·cases hf
def fU(tgt:aq->D->Option aq)(gb:aq->Option Out):List D->aq->Option Out
 | [],ρ=>some (.nx ρ)
 | d::ds,ρ=>(tgt ρ d).bind fun ρ1=>(gb ρ1).bind fun|.nx ρ2=>fU tgt gb ds ρ2|.rt v=>some (.rt v)
def hU(fz:List Nat)(fi:Env->Option (List D))(tgt:aq->D->Option aq)(gb:aq->Option Out):aq->Option Out:=fun ρ=>(fi (cJ (hand fz 0 ρ))).bind fun ds=>fU tgt gb ds (hand fz 0 ρ)
theorem LH(fz:List Nat){tg iter:Expr}{body:List Stmt}{fi:Env->Option (List D)}{tgt:aq->D->Option aq}{gb:aq->Option Out}(hp:PassesOwn (model X.prog X.w) X.A X.env X.xe)(hc:X.calm=true)(hi:DI X tg iter fi)(hg:OS X HF₀ H₀ tg tgt)(hb:CS X HF₀ H₀ body gb)
  (hs:∀x,foldedSetIterable iter X.env x=pure x:=by intro _;rfl):DS X HF₀ H₀ (.For tg iter body [] pos) (hU fz fi tgt gb):=cH (Le hp hc hi hg hb hs) fun E σ H ⟨HF,ρ,o,S,hg,q⟩=>by
 obtain⟨ds,h,hg⟩:=bs hg
 obtain⟨HF1,s1,S1⟩:=S.hand fz
 refine⟨HF1,_,ds,S1.gr.fh,S1.frz,h,fun J H2 HF2 G it=>?_⟩
 refine⟨fun i m σ' H'=>m+i=ds.length/\∃HF' ρ',jr X.K HF₀ H₀ HF' H' ρ' σ'/\aU HF2 HF'/\fU tgt gb (ds.drop i) ρ'=some o,⟨ds.length,rfl,HF2,_,S1.grow G,.refl _,hg⟩,?_⟩
 rintro i m σ' H' ⟨hm,HF',ρ',S',s',hf⟩
 by_cases hi:i < ds.length
 ·refine .inr ?_
  have hd:ds.drop i=ds[i]::ds.drop (i+1):=vB hi
  have he:ds[i]?=some ds[i]:=List.getElem?_eq_some_iff.mpr ⟨hi,rfl⟩
  generalize ds[i]=d at hd he
  rw[hd] at hf
  unfold fU at hf
  obtain⟨ρ1,h1,hf⟩:=bs hf
  obtain⟨o1,h2,hf⟩:=bs hf
  obtain⟨go,yld⟩:=it.go i d H' HF' he s' S'.gr.fh
  refine⟨go,fun σ2 H3=>∃HF3 ρ3,jr X.K HF₀ H₀ HF3 H3 ρ3 σ2/\aU HF2 HF3/\fU tgt gb (ds.drop (i+1)) ρ3=some o,fun σ2 H3 ⟨HF3,ρ3,a1,a2,a3⟩=>⟨m - 1,by omega,by omega,HF3,ρ3,a1,a2,a3⟩,fun x H3 y=>?_⟩
  obtain⟨HF3,G3,rx⟩:=yld x H3 y
  refine⟨HF3,ρ',d,ρ1,S'.grow G3,rx,h1,fun σ2 S2=>⟨HF3,ρ1,o1,S2,h2,?_⟩⟩
  cases o1 with
  | nx ρ2=>exact fun σ4 H4 HF4 S4 s4=>⟨HF4,ρ2,S4,(s'.trans G3.ff).trans s4,hf⟩
  | rt d=>cases hf;exact q
 ·have hi':i=ds.length:=by omega
  subst hi'
  rw[List.drop_length] at hf
  cases hf
  exact .inl ⟨it.stop H' HF' s' S'.gr.fh,q σ' H' HF' S' ((s1.trans G.ff).trans s')⟩
end
def JV(X:Cx)(sc:Scope):Prop:=∀x k,sc.names.lookup x=some k->X.env.kindOf x=some k\/(k=.free/\X.env.kindOf x=some .cell)
structure Bk(X:Cx)(N:List Str)(sc:Scope)(k:Nat):Prop where
 n:X.N=N
 nd:N.Nodup
 tb:JV X sc
 calm:X.calm=true
 fn:∀x,sc.names.lookup x=some .cell->X.fn x=true
 room:eu k X.A
 xe:X.xe=fun _ _=>False
 kd:X.env.scope.kind=.function
def cX:List Str:=["len","isinstance","int","bool","tuple","list","range","all","any","set","sorted","enumerate","zip","sum","min","max","reversed","abs","dict","str","type","iter","next"]
def Bn(X:Cx):Prop:=∀x∈cX,X.mg x=none
def sr(sc:Scope)(x:Str):Bool:=decide (sc.names.lookup x=some .globalImplicit)
def Di(N:List Str)(sc:Scope)(i:Nat)(x:Str):Bool:=decide (N[i]?=some x)&&(decide (sc.names.lookup x=some .local)||decide (sc.names.lookup x=some .cell)||decide (sc.names.lookup x=some .free))&&!(x == ("__debug__":Str))&&!(x == ("__classdict__":Str))
def pJ(N:List Str)(sc:Scope)(i:Nat)(x:Str):Bool:=decide (N[i]?=some x)&&(decide (sc.names.lookup x=some .local)||decide (sc.names.lookup x=some .cell))
section
variable {X:Cx}{N:List Str}{sc:Scope}{k:Nat}
theorem Bk.gl(C:Bk X N sc k){x:Str}(h:sr sc x=true):Gl X x:=by
 rcases C.tb x _ (yQ h) with q|⟨q,_⟩
 ·exact q
 ·cases q
theorem Bk.vis(C:Bk X N sc k){i:Nat}{x:Str}(h:Di N sc i x=true):X.N[i]?=some x/\HX X.env.scope x/\(x == ("__debug__":Str))=false/\(x == ("__classdict__":Str))=false:=by
 unfold Di at h
 simp only[zF,jB,zJ,yP] at h
 obtain⟨⟨⟨h1,h2⟩,h3⟩,h4⟩:=h
 refine⟨by rw[C.n];exact h1,?_,h3,h4⟩
 rcases h2 with (h2|h2)|h2
 ·rcases C.tb x _ h2 with q|⟨q,_⟩
  ·exact .inl q
  ·cases q
 ·rcases C.tb x _ h2 with q|⟨q,_⟩
  ·exact .inr (.inl q)
  ·cases q
 ·rcases C.tb x _ h2 with q|⟨_,q⟩
  ·exact .inr (.inr q)
  ·exact .inr (.inl q)
theorem Bk.loc(C:Bk X N sc k){i:Nat}{x:Str}(h:pJ N sc i x=true):X.N.Nodup/\X.N[i]?=some x/\Loc X.env.scope x/\(X.fn x=true\/X.env.scope.names.lookup x=some .local):=by
 unfold pJ at h
 simp only[zF,jB,zJ] at h
 obtain⟨h1,h2⟩:=h
 refine⟨by rw[C.n];exact C.nd,by rw[C.n];exact h1,?_⟩
 rcases h2 with h2|h2
 ·rcases C.tb x _ h2 with q|⟨q,_⟩
  ·exact⟨.inl q,.inr q⟩
  ·cases q
 ·rcases C.tb x _ h2 with q|⟨q,_⟩
  ·exact⟨.inr q,.inl (C.fn x h2)⟩
  ·cases q
theorem Bk.blt(C:Bk X N sc k)(B:Bn X){x:Str}{v:Value}(h:sr sc x=true)(hm:x∈cX)(hv:bootBuiltins x=some v):oU X x v:=⟨C.gl h,B x hm,hv⟩
theorem Bk.v(C:Bk X N sc k)(i:Nat){x:Str}{pos:Pos}(h:Di N sc i x=true):DE X (.Name x pos) (ae i):=let ⟨a,b,c,d⟩:=C.vis h;KU i a b c d
theorem Bk.pass(C:Bk X N sc k):PassesOwn (model X.prog X.w) X.A X.env X.xe:=by rw[C.xe];exact PassesOwn.never
def iT(sc scope:Scope)(N N':List Str)(t:Nat)(cs:List Nat):Bool :=
 decide (scope.kind=.function)&&scope.names.all (fun p=>(!decide (p.2=NameKind.free)||decide (sc.names.lookup p.1=some .cell)||decide (sc.names.lookup p.1=some .free))&&(!decide (p.2=NameKind.local)||decide (scope.names.lookup p.1=some .local)))
  &&scope.names.all (fun p=>!decide (p.2=NameKind.cell)||!scope.names.any fun q=>decide (q.1=p.1)&&decide (q.2=NameKind.free))
  &&decide (N'.length=t+cs.length)&&decide (N'.drop t=cs.filterMap fun j=>N[j]?)&&cs.all (fun j=>decide (j < N.length))&&(N'.drop t).all (fun x=>decide (scope.names.lookup x=some .free))&&decide N'.Nodup
theorem filterMap_get{α:Type}(N:List α):∀ (cs:List Nat),(∀j∈cs,j < N.length)->∀ (i:Nat),(cs.filterMap fun j=>N[j]?)[i]?=(cs[i]?).bind fun j=>N[j]?
 | [],_,i=>by simp
 | c::cs,h,i=>by
  have hc:=h c zE
  rw[jG,zK hc]
  cases i with
  | zero=>simp[hc]
  | succ i =>
   simp only[yY]
   exact filterMap_get N cs (fun j hj=>h j (zC _ hj)) i
theorem Bk.comp(C:Bk X N sc k){scope:Scope}{N':List Str}{t:Nat}{cs:List Nat}(h:iT sc scope N N' t cs=true):je X scope N' (kj t cs)/\∀fp s H,Bk (bg X scope N' fp s H) N' scope k:=by
 unfold iT at h
 simp only[zF,zJ,xG,jB,yP,xB] at h
 obtain⟨⟨⟨⟨⟨⟨⟨h1,h2⟩,h3⟩,h4⟩,h5⟩,h6⟩,h7⟩,h8⟩:=h
 refine⟨⟨h1,fun x hx hk=>?_,fun {x} a b=>?_,fun x hx hk=>?_,fun σ i x v e1 e2=>?_,fun σ=>?_⟩,fun fp s H=>⟨rfl,h8,fun x k hx=>n9 hx,C.calm,fun x hx=>zZ hx,C.room,rfl,h1⟩⟩
 ·rcases (h2 x hx).1 with (q|q)|q
  ·exact absurd hk q
  ·rcases C.tb _ _ q with z|⟨z,_⟩
   ·exact .inl z
   ·cases z
  ·rcases C.tb _ _ q with z|⟨_,z⟩
   ·exact .inr z
   ·exact .inl z
 ·rcases h3 _ a with q|q
  ·exact q rfl
  ·have:(scope.names.any fun q=>decide (q.1=x)&&decide (q.2=NameKind.free))=true:=List.any_eq_true.mpr ⟨_,b,by simp⟩
   rw[this] at q
   cases q
 ·rcases (h2 x hx).2 with q|q
  ·exact absurd hk q
  ·exact q
 ·unfold kj at e2
  by_cases hi:i < t
  ·rw[yS (by simpa using hi),yX,yL hi] at e2
   cases e2
  ·rw[yT (by simpa using hi),zO,xM] at e2
   obtain⟨j,hj,e2⟩:=ag e2
   have e3:(N'.drop t)[i - t]?=some x:=by rw[List.getElem?_drop];rw[show t+(i - t)=i by omega];exact e1
   refine⟨h7 x (qB e3),j,?_,?_⟩
   ·rw[h5,filterMap_get N cs h6,hj] at e3
    rw[C.n];exact e3
   ·cases e:σ[j]? with
    | none=>rw[e] at e2;cases e2
    | some o=>rw[e] at e2;have e2:o=some v:=e2;rw[e2]
 ·unfold kj
  rw[zN,xM,zD,h4]
def b9(g:aq->Option Out)(n:Nat)(args:List D):Option D:=(g (args.map Slot.val++List.replicate (n - args.length) .non)).map fun|.rt d=>d|.nx _=>.none
theorem Ku{P:Program}{w:World}{K:W.Frag}{mg:Str->Option Value}{base:Heap}{x qual:Str}{st:Stmt}{f:Addr}{fd:FuncData}{ps:List Str}{g:aq->Option Out}(F:FO K x qual st f fd)(S:dP N ps (aj st))
  (body:∀X:Cx,X.prog=P->X.w=w->X.K=K->X.mg=mg->X.base=base->Bk X N (aj st) k->X.env.code=fd.code->X.env.qual=qual++".<locals>."->∀HF₀ H₀,CS X HF₀ H₀ (bG st) g):oY P w K mg base HJ (k+1) f fd ps (NS K ps.length (b9 g N.length)):=by
 obtain⟨oc,od,kV,doc,pm,an,cdv,ct,osl,rfl,lk,hcd⟩:=F.ex
 refine FB lk hcd S (fun vs H Q E ⟨HF,ds,d,h1,_,h2,h3,_⟩=>by rw[h2.length,h3]) fun A outer s H vs Q E hr ⟨HF,ds,d,sm,tb,rr,hl,hd,q⟩=>?_
 refine⟨_,(body (rD HJ P w K mg base N qual (aj st) f cdv A outer s H E).nox rfl rfl rfl rfl rfl ⟨rfl,S.nd,fun y kd hy=>.inl hy,rfl,fun _ _=>rfl,hr,rfl,S.kind⟩ rfl rfl HF H).nox,?_⟩
 unfold b9 at hd
 obtain⟨o,ho,hd⟩:=ag hd
 have hpl:ps.length<=N.length:=by have:=jC List.length S.pre;rw[jV] at this;omega
 refine⟨HF,_,o,⟨.refl sm,fun i e h=>?_,fun i es h=>?_,fun i j es fs a h=>?_,?_,tb⟩,ho,?_⟩
 ·have hi:i < ds.length:=by
   by_cases hi:i < ds.length
   ·exact hi
   ·rw[yT (by simpa using hi),yX] at h
    split at h<;>cases h
  rw[yS (by simpa using hi),zO] at h
  obtain⟨d',hd',h⟩:=ag h
  cases h
  obtain⟨v,hv,rv⟩:=rr.getD hd'
  refine⟨v,?_,rv⟩
  unfold L2.start
  rw[yS (by simpa [rr.length] using hi),zO,hv]
  rfl
 ·exfalso
  by_cases hi:i < ds.length
  ·rw[yS (by simpa using hi),zO] at h
   obtain⟨d',hd',h⟩:=ag h
   cases h
  ·rw[yT (by simpa using hi),yX] at h
   split at h<;>cases h
 ·exfalso
  by_cases hi:i < ds.length
  ·rw[yS (by simpa using hi),zO] at h
   obtain⟨d',hd',h⟩:=ag h
   cases h
  ·rw[yT (by simpa using hi),yX] at h
   split at h<;>cases h
 ·unfold L2.start
  rw[zN,zN,zD,zD,xM,xM,rr.length]
  exact yM _
 ·cases o with
  | rt d'=>cases hd;exact fun v H' HF' G r=>q v H' HF' G r
  | nx ρ'=>cases hd;exact fun σ' H' HF' S' _=>q .non H' HF' S'.gr (by simp[Rep])
theorem QE{P:Program}{w:World}{K:W.Frag}{mg:Str->Option Value}{base:Heap}{x qual:Str}{st:Stmt}{f:Addr}{fd:FuncData}{ps:List Str}{g:aq->Option Out}(F:FO K x qual st f fd)(S:dP N ps (aj st))(hb:Binds K fd ps [])(hm:mg x=some (.ref f))
  (body:∀X:Cx,X.prog=P->X.w=w->X.K=K->X.mg=mg->X.base=base->Bk X N (aj st) k->X.env.code=fd.code->X.env.qual=qual++".<locals>."->∀HF₀ H₀,CS X HF₀ H₀ (bG st) g):hV P w K mg base (k+1) x ps.length (b9 g N.length):=⟨f,fd,ps,Ku F S body,hm,F.kp,hb⟩
end
section
variable {X:Cx}{HF₀ H₀:Hp}{e e2:Expr}{pos apos cpos px:Pos}{x:Str}
def ki(fz:List Nat)(f:Env->Option D)(ρ:aq):Option (D×aq):=(f (aW ρ)).bind fun d=>if oZ d=true then some (d,ρ) else (f (cJ (hand fz 0 ρ))).map fun d'=>(d',hand fz 0 ρ)
theorem og{K:W.Frag}{HF H:Hp}{ρ ρ':aq}{σ:L2.St}{fz:List Nat}{f:Env->Option D}{d:D}(S:jr K HF₀ H₀ HF H ρ σ)(h:ki fz f ρ=some (d,ρ')){Q:VK}
  (q:∀v H' HF',aU HF HF'->jr K HF₀ H₀ HF' H' ρ' σ->aU H H'->Rep K HF' d v->Q v H'):tD K f σ H Q:=by
 obtain⟨d1,h1,h⟩:=bs h
 split at h
 ·rename_i hs
  cases h
  exact⟨H,aW ρ,d,.refl _,S.all,h1,fun v H' HF' G r=>q v H' HF (.refl _) (S.step G.hh) G.hh (xn hs r)⟩
 ·obtain⟨d2,h2,h⟩:=ag h
  cases h
  obtain⟨HF1,s1,S1⟩:=S.hand fz
  exact⟨HF1,_,d,S1.gr.fh,S1.frz,h2,fun v H' HF' G r=>q v H' HF' (s1.trans G.ff) (S1.grow G) G.hh r⟩
def oi(i:Nat)(m:List D->Option (List D))(ρ:aq):Option Out:=match ρ[i]? with
 | some (.own ds)=>(m ds).map fun es=>.nx (ρ.set i (.own es))
 | _=>none
theorem lx{i:Nat}{m:List D->Option (List D)}{ρ:aq}{o:Out}(h:oi i m ρ=some o):∃ds es,ρ[i]?=some (.own ds)/\m ds=some es/\o=.nx (ρ.set i (.own es)):=by
 unfold oi at h
 split at h
 ·rename_i ds hd
  obtain⟨es,h1,h2⟩:=ag h
  exact⟨ds,es,hd,h1,h2.symm⟩
 ·cases h
theorem jr.mut{K:W.Frag}{HF H:Hp}{ρ:aq}{σ:L2.St}(S:jr K HF₀ H₀ HF H ρ σ){i:Nat}{ds es:List D}{a:Addr}{vs us:List V}(h:ρ[i]?=some (.own ds))(ha:σ[i]?=some (some (.ref a)))(hH:H a=some (.lst vs))(r:aw K HF es us) :
  jr K HF₀ H₀ HF (upd H a (.lst us)) (ρ.set i (.own es)) σ:=by
 obtain⟨a',vs',e1,e2,e3,e5,e4⟩:=S.own i ds h
 rw[ha] at e1;cases e1
 have hl:i < ρ.length:=(List.getElem?_eq_some_iff.mp h).1
 have gr:bJ HF₀ H₀ HF (upd H a (.lst us)):=⟨fun b o e=>by rw[aG (aV e e5)];exact S.gr.hh b o e,S.gr.ff,fun b o e=>by rw[aG (aV e e3)];exact S.gr.fh b o e,S.gr.nw⟩
 refine⟨gr,fun j d hj=>?_,fun j xs hj=>?_,fun j k xs ys b f1 f2 f3 f4=>?_,by rw[yB];exact S.len,S.tb⟩
 ·rw[xI] at hj
  by_cases hij:i=j
  ·rw[yL hij] at hj
   split at hj<;>cases hj
  ·rw[yN hij] at hj;exact S.val j d hj
 ·rw[xI] at hj
  by_cases hij:i=j
  ·subst hij
   rw[yL rfl,yL hl] at hj
   cases hj
   exact⟨a,us,ha,aI,e3,e5,r⟩
  ·rw[yN hij] at hj
   obtain⟨b,ws,f1,f2,f3,f5,f4⟩:=S.own j xs hj
   refine⟨b,ws,f1,?_,f3,f5,f4⟩
   rw[aG]
   ·exact f2
   ·rintro rfl
    exact hij (S.inj i j ds xs b h hj ha f1)
 ·have old:∀ {j:Nat}{xs:List D},(ρ.set i (.own es))[j]?=some (.own xs)->∃ys,ρ[j]?=some (.own ys):=fun {j xs} hj=>by
   rw[xI] at hj
   by_cases hij:i=j
   ·subst hij;exact⟨ds,h⟩
   ·rw[yN hij] at hj;exact⟨xs,hj⟩
  obtain⟨xs',g1⟩:=old f1
  obtain⟨ys',g2⟩:=old f2
  exact S.inj j k xs' ys' b g1 g2 f3 f4
def lL(i:Nat)(fz:List Nat)(f:Env->Option D):aq->Option Out:=fun ρ=>(ki fz f ρ).bind fun p=>oi i (fun ds=>if ds.length < sizeLine then some (ds++[p.1]) else none) p.2
theorem Ea(i:Nat)(fz:List Nat){f:Env->Option D}(hN:X.N[i]?=some x)(hv:HX X.env.scope x)(h:DE X e f)(hd:(x == ("__debug__":Str))=false:=by decide)(hcd:(x == ("__classdict__":Str))=false:=by decide)
  (hfew:((backTo cpos (starEach [e] X.env)).all (fun x=>!x.1)&&(backToKw cpos (keywordEach [] X.env)).all (fun x=>x.1.isSome)&&decide ([e].length+([]:List Keyword).length+(if ([]:List Keyword).isEmpty then 0 else 1) < 30))=true:=by rfl)
  (hline:(apos.endLine == cpos.line)=true:=by rfl) (hs:starEach [e] X.env=(false,eval e X.env)::starEach [] X.env:=by rfl) :
  DS X HF₀ H₀ (.Expr (.Call (.Attribute (.Name x px) "append" apos) [e] [] cpos) pos) (lL i fz f) :=
 cH (mZ (rF qN PySem.F.slot_list_append PySem.F.type_list_append tO (k6 hN hv hd hcd) (cn h eZ hs) rfl hfew hline hs rfl)) fun E σ H ⟨HF,ρ,o,S,hg,q⟩=>by
  obtain⟨⟨d,ρ'⟩,h1,hg⟩:=bs hg
  obtain⟨ds,es,h2,h3,rfl⟩:=lx hg
  have hown:∃ds',ρ[i]?=some (.own ds'):=by
   obtain⟨d1,_,h1⟩:=bs h1
   split at h1
   ·cases h1;exact⟨ds,h2⟩
   ·obtain⟨d2,_,h1⟩:=ag h1
    cases h1
    rw[ig] at h2
    obtain⟨s,hs,h2⟩:=ag h2
    cases s with
    | non=>split at h2<;>cases h2
    | val _=>split at h2<;>cases h2
    | own xs=>exact⟨xs,hs⟩
  obtain⟨ds',hown⟩:=hown
  obtain⟨a,vs,e1,e2,e3,e5,e4⟩:=S.own i ds' hown
  refine⟨.ref a,e1,.inl ⟨rfl,vs,hZ.of e2⟩,og S h1 fun v H' HF' s1 S' sh r=>?_⟩
  obtain⟨a',vs',f1,f2,f3,f5,f4⟩:=S'.own i ds h2
  rw[e1] at f1;cases f1
  split at h3
  ·rename_i hz
   cases h3
   exact⟨a,vs',v,rfl,rfl,f2,by rw[f4.length];exact hz,q σ _ HF' (S'.mut h2 e1 f2 (f4.append (aw.cons r aw.nil))) s1⟩
  ·cases h3
end
def vg(K:W.Frag)(o:Obj):Option (Addr×Str):=match o.data with
 | .func fd=>if rN.contains fd.qualname=true then (match fd.code with
   | .ref c=>(match K.lookup c with
    | some ⟨_,_,.fields vs,_⟩=>(match (vs[11]?:Option Value) with
     | some (.ref P)=>if W.codeHdIn K c P=true then some (P,fd.qualname++".<locals>."++"<lambda>") else none
     | _=>none)
    | _=>none)
   | _=>none) else none
 | _=>none
def gX(K:W.Frag):List (Addr×Str):=K.filterMap fun p=>vg K p.2
def nG(K:W.Frag)(ts:List Addr):Bool:=(gX K).all fun p=>ts.contains p.1&&(K.lookup p.1).isNone&&decide ((gX K).lookup p.1=some p.2)
theorem ym{K:W.Frag}{o:Obj}{P:Addr}{q:Str}(h:vg K o=some (P,q)):∃c,W.codeHdIn K c P=true:=by
 unfold vg at h
 split at h
 ·split at h
  ·split at h
   ·split at h
    ·split at h
     ·split at h
      ·cases h;exact⟨_,‹_›⟩
      ·cases h
     ·cases h
    ·cases h
   ·cases h
  ·cases h
 ·cases h
theorem yl{K:W.Frag}{P:Addr}{q:Str}(h:(P,q)∈gX K):∃c,W.codeHdIn K c P=true:=by
 obtain⟨p,_,e⟩:=List.mem_filterMap.mp h
 exact ym e
theorem A4{K:W.Frag}{f c P:Addr}{oc:Value}{od:Option Addr}{fd:FuncData}{sl:Array (Option Value)}(a:K.lookup f=some ⟨oc,od,.func fd,sl⟩)(b:fd.qualname∈rN)(d:fd.code=.ref c)(e:W.codeHdIn K c P=true) :
  (P,fd.qualname++".<locals>."++"<lambda>")∈gX K:=by
 refine List.mem_filterMap.mpr ⟨(f,_),W.mem_of_lookupK a,?_⟩
 have e':=e
 unfold W.codeHdIn at e'
 unfold vg
 simp only[d,List.contains_iff_mem,b,xH]
 split at e'
 ·rename_i vs sl' hl
  simp only[hl]
  simp only[zF] at e'
  have e1:=e'.1.1.1.1.1
  split at e1
  ·rename_i P' hv
   have:P'=P:=by simpa using e1
   subst this
   simp only[hv,e,xH]
  ·cases e1
 ·cases e'
theorem Gx{α:Type}{b:Addr}{q:α}:∀ {l:List (Addr×α)},l.lookup b=some q->(b,q)∈l
 | [],e=>by cases e
 | (c,x)::r,e=>by
  rw[yA] at e
  cases h:b == c with
  | true=>rw[h] at e;cases e;rw[eq_of_beq h];exact zE
  | false=>rw[h] at e;exact zC _ (Gx e)
def fE(K:W.Frag)(h0:Hp):Hp:=fun b=>match (gX K).lookup b with|some q=>some (.tab q)|none=>h0 b
theorem Em{K:W.Frag}{ts:List Addr}{h0:Hp}(h:nG K ts=true):eN K (fE K h0):=fun f oc od fd sl c P a b d e=>by
 have hm:=A4 a b d e
 have:=List.all_eq_true.mp h _ hm
 simp only[zF,zJ] at this
 unfold fE
 rw[this.2]
theorem Ek{P:Program}{w:World}{K:W.Frag}{mg mb:Str->Option Value}{CX:Df}{k:Nat}{fa a:Addr}{fd:FuncData}{x:Str}{sp:Sp}{s₁:Shared}{vs:List Value}{ns:List Int}{ts:List Addr}
  (KX:K.In s₁.heap) (hns:s₁.heap.Ns mainGlobals mg) (hb:s₁.heap.Ns builtinsNs mb) (hbb:∀x:Str,x≠"__name__"->mb x=bootBuiltins x) (hlim:s₁.heap.NoLimit) (hbm:OP mg s₁.heap) (hg:s₁.gens=#[])
  (ht:nG K ts=true) (hts:∀P∈ts,s₁.heap.get? P=some (W.tabObj #[]))
  (ha:s₁.heap.get? a=some { cls:=.type "list",data:=.seq vs.toArray }) (hi:IntsAre vs ns) (hl:ns.length<=sizeLine) (hr:eu k callerA)
  (F:∀base:Heap,K.In base->base.Ns mainGlobals mg->oY P w K mg base CX k fa fd [x] sp) (hbind:∀ (s:Shared) (u:Value),BindsTo s fd ⟨[u],[]⟩ [(x,u)])
  (hsp:∀H:Hp,eN K H->hZ K H a (ns.map V.int)->sp [.ref a] H (fun v _=>v=.bl true) fun _ _ _=>False)
  (hCX:∀H e s',CX [] H s₁ (fun _ _ _=>False) e s'->False) :
  codeAny (model P w) callerA (.call (.ref fa) ⟨[.ref a],[]⟩) (fun r s'=>r=.ok (.ret (.bool true))/\OldK s₁.heap s'.heap/\s'.os=s₁.os/\AllBare s'.gens) s₁:=by
 have rv:=tj hi
 have lenV:=hi.length
 have tabAt:∀b q,(gX K).lookup b=some q->s₁.heap.get? b=some (W.tabObj #[])/\K.lookup b=none/\∃c,W.CodeHd s₁.heap c b:=fun b q e=>by
  have hm:=Gx e
  have:=List.all_eq_true.mp ht _ hm
  simp only[zF,zJ,List.contains_iff_mem,Option.isNone_iff_eq_none] at this
  obtain⟨c,hc⟩:=yl hm
  exact⟨hts b this.1.1,this.1.2,c,W.codeHd_of_K KX hc⟩
 have aT:(gX K).lookup a=none:=by
  cases e:(gX K).lookup a with
  | none=>rfl
  | some q=>have:=(tabAt a q e).1;rw[ha] at this;cases this
 have core:∀h0:Hp,hZ K (fE K h0) a (ns.map V.int)->nI P w (fE K h0) s₁.heap->(∀b,h0 b≠none->b=a)->(h0 a≠none->K.lookup a=none)->(∀b,h0 b=none\/∃o xs,h0 b=some (.frz o (.lst xs))) ->
   codeAny (model P w) callerA (.call (.ref fa) ⟨[.ref a],[]⟩) (fun r s'=>r=.ok (.ret (.bool true))/\OldK s₁.heap s'.heap/\s'.os=s₁.os/\AllBare s'.gens) s₁:=by
  intro h0 hS hok hA hK hO
  have look:∀b u,fE K h0 b=some u->(∃q,(gX K).lookup b=some q/\u=.tab q)\/(b=a/\h0 b=some u):=fun b u e=>by
   unfold fE at e
   split at e
   ·rename_i q hq;cases e;exact .inl ⟨q,hq,rfl⟩
   ·exact .inr ⟨hA b (by rw[e];simp),e⟩
  have mJ:∀ {b:Addr}{o:Obj},s₁.heap.get? b=some o->fE K h0 b=none->(uC s₁.heap (fE K h0)).get? b=some o:=fun e n=>GC e n
  have noA:∀ {b:Addr}{o:Obj},s₁.heap.get? b=some o->(∀vs n,o.data≠.seq vs n)->(∀vs,o.data≠.fields vs)->fE K h0 b=none:=fun {b o} e d d2=>by
   cases q:fE K h0 b with
   | none=>rfl
   | some u =>
    rcases look b u q with ⟨q',z,_⟩|⟨z,_⟩
    ·rw[(tabAt b q' z).1] at e;cases e;exact absurd rfl (d2 _)
    ·subst z;rw[ha] at e;cases e;exact absurd rfl (d _ _)
  have nsK:∀ {b:Addr}{m:Str->Option Value},s₁.heap.Ns b m->(uC s₁.heap (fE K h0)).Ns b m:=fun {b m} ⟨o,es,ep,e,d,r⟩=>⟨o,es,ep,mJ e (noA e (fun _ _ z=>by rw[d] at z;cases z) fun _ z=>by rw[d] at z;cases z),d,r⟩
  have hKb:K.In (uC s₁.heap (fE K h0)):=fun b o e=>mJ (KX b o e) (by
   cases q:fE K h0 b with
   | none=>rfl
   | some u =>
    rcases look b u q with ⟨q',z,_⟩|⟨z,z2⟩
    ·rw[(tabAt b q' z).2.1] at e;cases e
    ·subst z;rw[hK (by rw[z2];simp)] at e;cases e)
  have hM:Mod K mg (uC s₁.heap (fE K h0)):=⟨hKb,nsK hns,⟨mb,nsK hb,hbb⟩,let ⟨mc,h1,h2⟩:=hlim;⟨mc,nsK h1,h2⟩,
   let ⟨bm,o,b1,b2,b3,b4,b5,b6,b7⟩:=hbm;⟨bm,o,b1,b2,b3,mJ b4 (noA b4 (fun _ _ z=>by rw[b7] at z;cases z) fun _ z=>by rw[b7] at z;cases z),b5,b6,b7⟩⟩
  have e0:BA P w K mg (uC s₁.heap (fE K h0)) callerA [] s₁ (fE K h0):=⟨rfl,hM,fun b o e=>JS e,Nat.le_of_eq (D8 _ _),trivial,fun b hb=>absurd (show b∈([]:List Addr) from hb) (by simp),hok,.of_eq hg⟩
  refine jR ((F _ hKb (nsK hns)).run callerA [] s₁ (fE K h0) ⟨[.ref a],[]⟩ [.ref a] [.ref a] _ _ hr e0 (hbind s₁ (.ref a)) (.cons rfl .nil) (hsp _ (Em ht) hS)) fun r s' h=>?_
  cases r with
  | error e=>exact (hCX _ e s' h).elim
  | ok fl =>
   cases fl with
   | next=>exact False.elim h
   | brk=>exact False.elim h
   | cont=>exact False.elim h
   | ret u =>
    obtain⟨v,H',os,bare,un,hok',r',q⟩:=h
    have q':v=.bl true:=q
    subst q'
    obtain rfl:u=Value.bool true:=r'
    have key:∀b o,s₁.heap.get? b=some o->s'.heap.get? b=some o\/(isCodeTable s₁.heap b/\o=W.tabObj #[]/\∃ps,s'.heap.get? b=some (W.tabObj ps)):=fun b o e=>by
     cases q:fE K h0 b with
     | none=>exact .inl (un.keep b o e q (by intro z;exact absurd (show b∈([]:List Addr) from z) (by simp)) (by simp))
     | some u =>
      rcases look b u q with ⟨q',z,rfl⟩|⟨z,z2⟩
      ·obtain⟨t1,_,c,t3⟩:=tabAt b q' z
       obtain⟨more,m1⟩:=un.tbls.gr b q' #[] q t1
       rw[e] at t1
       cases t1
       exact .inr ⟨(t3.tab e).isCodeTable,rfl,_,m1⟩
      ·rcases hO b with z3|⟨ob,xs,z3⟩
       ·rw[z2] at z3;cases z3
       ·rw[z2] at z3
        cases z3
        have z4:=un.frzs b ob _ q
        obtain⟨e1,_⟩:=hok b _ q
        obtain⟨e2,_⟩:=hok' b _ z4
        rw[e] at e1;cases e1
        exact .inl e2
    refine⟨rfl,⟨fun b o e=>?_,fun b o e=>?_⟩,os,bare⟩
    ·rcases key b o e with z|⟨t,rfl,ps,z⟩
     ·exact .inl z
     ·exact .inr (.inl ⟨t,rfl,#[],ps,rfl,by rw[Array.empty_append];exact z⟩)
    ·rcases key b o e with z|⟨_,_,ps,z⟩
     ·exact⟨o,z⟩
     ·exact⟨_,z⟩
 have hoT:∀ (h0:Hp) b q,(gX K).lookup b=some q->eK P w (fE K h0) s₁.heap b (.tab q):=fun h0 b q e=>⟨#[],(tabAt b q e).1,trivial,fun pos v z=>by cases z⟩
 cases hk:K.lookup a with
 | some o =>
  have e:=KX a o hk
  rw[ha] at e
  cases e
  refine core (fun _=>none) (.inr ⟨_,vs.toArray,_,hk,rfl,rfl,rfl,by rw[zH,lenV];exact hl,by simpa using rv⟩) (fun b u z=>?_) (fun b z=>absurd rfl z) (fun z=>absurd rfl z) fun _=>.inl rfl
  unfold fE at z
  split at z
  ·rename_i q hq;cases z;exact hoT _ b q hq
  ·cases z
 | none =>
  refine core (fun b=>if b=a then some (.frz { cls:=.type "list",data:=.seq vs.toArray } (.lst (ns.map V.int))) else none) (.inl (.inr ⟨{ cls:=.type "list",data:=.seq vs.toArray },?_⟩)) (fun b u z=>?_) (fun b z=>?_) (fun _=>hk) fun b=>?_
  ·unfold fE;rw[aT];exact yL rfl
  ·unfold fE at z
   split at z
   ·rename_i q hq;cases z;exact hoT _ b q hq
   ·by_cases hb:b=a
    ·replace z:=(yL hb).symm.trans z
     cases z
     subst hb
     exact⟨ha,by rw[zD];exact hl,vs,_,rv,ha⟩
    ·replace z:=(yN hb).symm.trans z;cases z
  ·by_cases hb:b=a
   ·exact hb
   ·exact absurd (yN hb) z
  ·by_cases hb:b=a
   ·exact .inr ⟨_,_,yL hb⟩
   ·exact .inl (yN hb)
theorem E2{l:W.OpenLaw}{n k:Nat}{q:Program}{loose:List Str}{XP:(Str->Option Value)->Heap->Prop}{YP:World->Heap->Prop}{d:DefRec}{K:Params->W.Frag}{CX:World->Df}{sp:World->Sp}{x:Str}{ts:List Addr}
  (hn:l.most=some n) (hn2:n<=sizeLine) (hdf:d.params.defaults=[]) (hr:eu k callerA)
  (hY:∀ (w:World) (h:Heap),YP w h->(K w.params).In h/\∀P∈ts,h.get? P=some (W.tabObj #[])) (ht:∀w:World,nG (K w.params) ts=true)
  (F:∀ (w:World) (mg:Str->Option Value) (fa:Addr) (h:Heap),(K w.params).In h->h.Ns mainGlobals mg->mg d.name=some (.ref fa) ->
   ∃fd:FuncData,(∀ (s:Shared) (u:Value),BindsTo s fd ⟨[u],[]⟩ [(x,u)]) /\
    ∀base:Heap,(K w.params).In base->base.Ns mainGlobals mg->oY l.prog w (K w.params) mg base (CX w) k fa fd [x] (sp w))
  (hsp:∀ (w:World) (H:Hp) (a:Addr) (ns:List Int),ns.length<=n->eN (K w.params) H->hZ (K w.params) H a (ns.map V.int)->sp w [.ref a] H (fun v _=>v=.bl true) fun _ _ _=>False)
  (hCX:∀ (w:World) (H:Hp) (s:Shared) (e:Value) (s':Shared),CX w [] H s (fun _ _ _=>False) e s'->False) :
  W.WalkO q loose XP YP l.row.toRowW d [] (fun f vs=>PySem.call f vs):=by
 refine Att.attach_call hn hdf fun w s₀ s₁ mg mb fa o pm cd doc a vs ns G Y ho hd hcd hmg hobj hints hlen hg=>?_
 obtain⟨KX,hts⟩:=hY w _ Y
 obtain⟨fd,hb,hF⟩:=F w mg fa _ KX G.T.g hmg
 have hbm:OP mg s₁.heap:=by
  obtain⟨bm,ob,b1,b2,b3,b4,b5,b6⟩:=G.T.bmain
  refine⟨bm,ob,b1,b2,fun z=>?_,b3,b4,b5,b6⟩
  obtain⟨o',es,ep,e1,e2,_⟩:=G.T.g
  rw[<- z,b3] at e1
  cases e1
  rw[b6] at e2;cases e2
 exact Ek KX G.T.g G.T.b G.T.builtins G.T.nolimit hbm hg (ht w) hts hobj hints (yC hlen hn2) hr hF hb (fun H hT hS=>hsp w H a ns hlen hT hS) fun H e s'=>hCX w H s₁ e s'
end Dl
namespace SP
open PySem PySem.W PyProof.Rows
def run{α:Type}(lt:Nat->Nat->Bool):KasT α->α
 | .ret a=>a
 | .ask i j k=>run lt (k (lt i j))
theorem iz{α β:Type}(lt:Nat->Nat->Bool)(f:α->KasT β):∀t:KasT α,run lt (t.bind f)=run lt (f (run lt t))
 | .ret a=>rfl
 | .ask i j k=>by
  show run lt ((k (lt i j)).bind f)=run lt (f (run lt (k (lt i j))))
  exact iz lt f (k (lt i j))
def M0(n:Nat){α:Type}:KasT α->Prop
 | .ret _=>True
 | .ask i j k=>i < n/\j < n/\∀b,M0 n (k b)
theorem wp_run{α:Type}{n:Nat}{cmp:Nat->Nat->(Bool->Shared->Prop)->Shared->Prop}{lt:Nat->Nat->Bool}{s:Shared}(hc:∀i j C,i < n->j < n->C (lt i j) s->cmp i j C s):∀ (t:KasT α) {Q:α->Shared->Prop},M0 n t->Q (run lt t) s->t.kasWp cmp Q s
 | .ret a,Q,_,h=>h
 | .ask i j k,Q,b,h=>hc i j _ b.1 b.2.1 (wp_run hc (k (lt i j)) (b.2.2 _) h)
def qr(n:Nat){α:Type}(R:α->Prop):KasT α->Prop
 | .ret a=>R a
 | .ask i j k=>i < n/\j < n/\∀b,qr n R (k b)
theorem n8{α β:Type}{n:Nat}{R:α->Prop}{f:α->KasT β}:∀ {t:KasT α},qr n R t->(∀a,R a->M0 n (f a))->M0 n (t.bind f)
 | .ret a,b,h=>h a b
 | .ask i j k,b,h=>⟨b.1,b.2.1,fun c=>n8 (b.2.2 c) h⟩
theorem iX{α β:Type}{n:Nat}{R:α->Prop}{S:β->Prop}{f:α->KasT β}:∀ {t:KasT α},qr n R t->(∀a,R a->qr n S (f a))->qr n S (t.bind f)
 | .ret a,b,h=>h a b
 | .ask i j k,b,h=>⟨b.1,b.2.1,fun c=>iX (b.2.2 c) h⟩
def Bd(n:Nat)(p:Array Nat):Prop:=∀a,p.getD a 0 < n
theorem Bd.perm{n:Nat}{p q:Array Nat}(h:Bd n p)(e:q.Perm p):Bd n q:=by
 intro a
 rw[qD]
 cases ha:q[a]? with
 | none=>have:=h p.size;rw[qD] at this;simpa using this
 | some x =>
  have hx:x∈q:=Array.mem_of_getElem? ha
  have hx':x∈p:=e.mem_iff.mp hx
  obtain⟨i,hi,rfl⟩:=Array.mem_iff_getElem.mp hx'
  have:=h i
  rw[qD] at this
  simpa [hi] using this
theorem Fg{n:Nat}{p:Array Nat}(h:Bd n p):∀f m,qr n (fun _=>True) (kas_asc p f m)
 | 0,m=>trivial
 | f+1,m=>⟨h _,h _,fun c=>by
  dsimp only
  split
  ·trivial
  ·exact Fg h f (m+1)⟩
theorem z9{n:Nat}{p:Array Nat}(h:Bd n p)(i j:Nat):Bd n (kas_rev p i j):=h.perm (mirror_perm _ _ _ _)
theorem uD{n:Nat}:∀ (f:Nat) {p:Array Nat}(h:Bd n p) (m q:Nat),qr n (fun r=>Bd n r.1) (kas_desc f p m q)
 | 0,p,h,m,q=>h
 | f+1,p,h,m,q=>⟨h _,h _,fun c=>by
  dsimp only
  split
  ·split
   ·exact uD f (z9 h _ _) (m+1) 0
   ·exact uD f h (m+1) 0
  ·exact⟨h _,h _,fun d=>by
    dsimp only
    split
    ·exact h
    ·exact uD f h (m+1) (q+1)⟩⟩
theorem Cm{n:Nat}{p:Array Nat}(h:Bd n p)(m nrem:Nat):qr n (fun r=>Bd n r.2) (kas_tail3 m nrem p):=iX (Fg (z9 h 0 m) _ _) fun _ _=>z9 h 0 m
theorem qt{n:Nat}{p:Array Nat}(h:Bd n p)(m nrem:Nat):qr n (fun r=>Bd n r.2) (kas_descPart m nrem p):=iX (uD _ h _ _) fun r hr=>by
 split
 ·exact Cm (z9 hr _ _) _ _
 ·exact Cm hr _ _
theorem Ig{n:Nat}{p:Array Nat}(h:Bd n p)(nrem:Nat):qr n (fun r=>Bd n r.2) (kas_count nrem p):=iX (Fg h _ _) fun m _=>by
 split
 ·exact h
 ·split
  ·exact⟨h _,h _,fun c=>by
    dsimp only
    split
    ·exact h
    ·exact qt (z9 h _ _) _ _⟩
  ·exact qt h _ _
theorem uY{n:Nat}{p:Array Nat}(h:Bd n p)(k:Nat):∀f l r,qr n (fun _=>True) (kas_place p k f l r)
 | 0,l,r=>trivial
 | f+1,l,r=>by
  unfold kas_place
  split
  ·trivial
  ·exact⟨h _,h _,fun c=>by
    dsimp only
    split
    ·exact uY h k f _ _
    ·exact uY h k f _ _⟩
theorem Kk{n:Nat}:∀ (f:Nat) {p:Array Nat}(h:Bd n p) (k:Nat),M0 n (kas_bin f p k)
 | 0,p,h,k=>trivial
 | f+1,p,h,k=>n8 (uY h k _ _ _) fun l _=>Kk f (h.perm (bubble_perm _ _ _)) (k+1)
theorem Fp{n:Nat}(h1:1<=n):M0 n (kas_sort n):=by
 have h:Bd n (List.toArray (List.range n)):=fun a=>by
  rw[qD]
  by_cases ha:a < n
  ·simp[ha]
  ·simp[ha];omega
 refine n8 (Ig h n) fun r hr=>?_
 split
 ·exact Kk _ hr _
 ·trivial
section
variable (z:Nat->Int)
def Z(p:Array Nat)(a:Nat):Int:=z (p.getD a 0)
def eQ:Nat->Nat->Bool:=fun i j=>decide (z i < z j)
theorem nq{p q:Array Nat}{a b:Nat}(h:p[a]?=q[b]?):Z z p a=Z z q b:=by
 unfold Z
 rw[qD,qD,h]
theorem Ht{p:Array Nat}{i j:Nat}(hj:j<=p.size)(k:Nat):Z z (kas_rev p i j) k=if i<=k/\k < j then Z z p (i+j - 1 - k) else Z z p k:=by
 have e:=getElem?_mirror_all (xs:=p) (i:=i) hj k
 unfold kas_rev
 by_cases h1:i<=k/\k < j
 ·rw[yL h1] at e ⊢;exact nq z e
 ·rw[yN h1] at e ⊢;exact nq z e
theorem Ew{p:Array Nat}{src d:Nat}(hs:src < p.size)(hd:d<=src)(k:Nat):Z z (bubble p src d) k=if k=src - d then Z z p src else if src - d < k/\k<=src then Z z p (k - 1) else Z z p k:=by
 have e:=getElem?_bubble hs d hd k
 by_cases h1:k=src - d
 ·rw[yL h1] at e ⊢;exact nq z e
 ·rw[yN h1] at e ⊢
  by_cases h2:src - d < k/\k<=src
  ·rw[yL h2] at e ⊢;exact nq z e
  ·rw[yN h2] at e ⊢;exact nq z e
def Up(p:Array Nat)(n:Nat):Prop:=∀a b,a<=b->b < n->Z z p a<=Z z p b
def Dn(p:Array Nat)(n:Nat):Prop:=∀a b,a<=b->b < n->Z z p b<=Z z p a
variable {z}
theorem Jc{p:Array Nat}{n:Nat}(h:Up z p n)(hn:1<=n)(h1:Z z p (n - 1)<=Z z p n):Up z p (n+1):=by
 intro a b hab hb
 by_cases hbn:b < n
 ·exact h a b hab hbn
 ·have e:b=n:=by omega
  subst e
  by_cases ha:a=b
  ·subst ha;exact xZ _
  ·exact jT (h a (b - 1) (by omega) (by omega)) h1
theorem P1{p:Array Nat}:∀ (f n:Nat),1<=n->Up z p n->n<=run (eQ z) (kas_asc p f n)/\run (eQ z) (kas_asc p f n)<=n+f/\Up z p (run (eQ z) (kas_asc p f n))/\(run (eQ z) (kas_asc p f n) < n+f->Z z p (run (eQ z) (kas_asc p f n)) < Z z p (run (eQ z) (kas_asc p f n) - 1))
 | 0,n,hn,h=>⟨yM _,yM _,h,fun q=>absurd q (qE _)⟩
 | f+1,n,hn,h=>by
  unfold kas_asc
  show n<=run (eQ z) (if eQ z (p.getD n 0) (p.getD (n - 1) 0)=true then .ret n else kas_asc p f (n+1))/\run (eQ z) (if eQ z (p.getD n 0) (p.getD (n - 1) 0)=true then .ret n else kas_asc p f (n+1))<=n+(f+1)/\Up z p (run (eQ z) (if eQ z (p.getD n 0) (p.getD (n - 1) 0)=true then .ret n else kas_asc p f (n+1)))/\(run (eQ z) (if eQ z (p.getD n 0) (p.getD (n - 1) 0)=true then .ret n else kas_asc p f (n+1)) < n+(f+1)->Z z p (run (eQ z) (if eQ z (p.getD n 0) (p.getD (n - 1) 0)=true then .ret n else kas_asc p f (n+1))) < Z z p (run (eQ z) (if eQ z (p.getD n 0) (p.getD (n - 1) 0)=true then .ret n else kas_asc p f (n+1)) - 1))
  by_cases hc:eQ z (p.getD n 0) (p.getD (n - 1) 0)=true
  ·rw[yL hc]
   exact⟨yM _,jU _ _,h,fun _=>yQ hc⟩
  ·rw[yN hc]
   have h1:Z z p (n - 1)<=Z z p n:=by
    have:¬ (Z z p n < Z z p (n - 1)):=fun q=>hc (zZ q)
    omega
   obtain⟨a,b,c,d⟩:=P1 f (n+1) (by omega) (Jc h hn h1)
   exact⟨by omega,by omega,c,fun q=>d (by omega)⟩
theorem Bp{p:Array Nat}{i j:Nat}(hj:j<=p.size)(h:∀a b,i<=a->a < j->i<=b->b < j->Z z p a=Z z p b)(k:Nat):Z z (kas_rev p i j) k=Z z p k:=by
 rw[Ht z hj]
 split
 ·rename_i hk
  exact h _ _ (by omega) (by omega) hk.1 hk.2
 ·rfl
theorem F4{p q:Array Nat}{n:Nat}(e:∀k,Z z q k=Z z p k)(h:Dn z p n):Dn z q n:=fun a b hab hb=>by rw[e,e];exact h a b hab hb
theorem K6{p:Array Nat}{n:Nat}(hn:n<=p.size)(h:Dn z p n):Up z (kas_rev p 0 n) n:=by
 intro a b hab hb
 rw[Ht z hn,Ht z hn,yL ⟨xV _,by omega⟩,yL ⟨xV _,hb⟩]
 exact h _ _ (by omega) (by omega)
theorem ny(p:Array Nat)(i j:Nat):(kas_rev p i j).size=p.size:=mirror_size _ _ _ _
theorem nH(p:Array Nat)(i j:Nat):(kas_rev p i j).Perm p:=mirror_perm _ _ _ _
structure Mo(z:Nat->Int)(p₀ p:Array Nat)(n q nrem:Nat):Prop where
 perm:p.Perm p₀
 size:p.size=p₀.size
 le:n<=nrem
 qn:q+1<=n
 dn:Dn z p n
 eq:∀a b,n - (q+1)<=a->a < n->n - (q+1)<=b->b < n->Z z p a=Z z p b
theorem Je{p₀:Array Nat}{nrem:Nat}(hz:nrem<=p₀.size):∀ (f:Nat) (p:Array Nat) (n q:Nat),n+f<=nrem->Mo z p₀ p n q nrem ->
  let r:=run (eQ z) (kas_desc f p n q);Mo z p₀ r.1 r.2.1 r.2.2 nrem
 | 0,p,n,q,hn,h=>h
 | f+1,p,n,q,hn,h=>by
  intro r
  have hr:r=run (eQ z) (if eQ z (p.getD n 0) (p.getD (n - 1) 0)=true then (if q > 0 then kas_desc f (kas_rev p (n - (q+1)) n) (n+1) 0 else kas_desc f p (n+1) 0)
   else .ask (p.getD (n - 1) 0) (p.getD n 0) fun d=>if d=true then .ret (p,n,q) else kas_desc f p (n+1) (q+1)):=rfl
  have hq:=h.qn
  by_cases hc:eQ z (p.getD n 0) (p.getD (n - 1) 0)=true
  ·rw[yL hc] at hr
   have hlt:Z z p n < Z z p (n - 1):=yQ hc
   have step:∀p':Array Nat,p'.Perm p₀->p'.size=p₀.size->(∀k,Z z p' k=Z z p k)->Mo z p₀ p' (n+1) 0 nrem:=fun p' a1 a2 a3=>by
    refine⟨a1,a2,by omega,by omega,fun a b hab hb=>?_,fun a b h1 h2 h3 h4=>by rw[show a=b by omega]⟩
    rw[a3,a3]
    by_cases hbn:b < n
    ·exact h.dn a b hab hbn
    ·have e:b=n:=by omega
     subst e
     by_cases ha:a=b
     ·subst ha;exact xZ _
     ·exact jT (Int.le_of_lt hlt) (h.dn a (b - 1) (by omega) (by omega))
   by_cases hq0:q > 0
   ·rw[yL hq0] at hr
    rw[hr]
    exact Je hz f _ (n+1) 0 (by omega) (step _ ((nH _ _ _).trans h.perm) (by rw[ny,h.size]) (Bp (by rw[h.size];omega) h.eq))
   ·rw[yN hq0] at hr
    rw[hr]
    exact Je hz f p (n+1) 0 (by omega) (step p h.perm h.size fun _=>rfl)
  ·rw[yN hc] at hr
   have hge:Z z p (n - 1)<=Z z p n:=by
    have:¬ (Z z p n < Z z p (n - 1)):=fun q=>hc (zZ q)
    omega
   have hr':r=run (eQ z) (if eQ z (p.getD (n - 1) 0) (p.getD n 0)=true then .ret (p,n,q) else kas_desc f p (n+1) (q+1)):=hr
   by_cases hd:eQ z (p.getD (n - 1) 0) (p.getD n 0)=true
   ·rw[yL hd] at hr'
    rw[hr']
    exact h
   ·rw[yN hd] at hr'
    rw[hr']
    have heq:Z z p n=Z z p (n - 1):=by
     have:¬ (Z z p (n - 1) < Z z p n):=fun q=>hd (zZ q)
     omega
    refine Je hz f p (n+1) (q+1) (by omega) ⟨h.perm,h.size,by omega,by omega,fun a b hab hb=>?_,fun a b h1 h2 h3 h4=>?_⟩
    ·by_cases hbn:b < n
     ·exact h.dn a b hab hbn
     ·have e:b=n:=by omega
      subst e
      by_cases ha:a=b
      ·subst ha;exact xZ _
      ·rw[heq];exact h.dn a (b - 1) (by omega) (by omega)
    ·have key:∀c,n+1 - (q+1+1)<=c->c < n+1->Z z p c=Z z p (n - 1):=fun c c1 c2=>by
      by_cases hcn:c < n
      ·exact h.eq c (n - 1) (by omega) hcn (by omega) (by omega)
      ·have e:c=n:=by omega
       subst e;exact heq
     rw[key a h1 h2,key b h3 h4]
structure OK(z:Nat->Int)(p₀:Array Nat)(nrem:Nat)(r:Nat×Array Nat):Prop where
 perm:r.2.Perm p₀
 size:r.2.size=p₀.size
 ge:1<=r.1
 le:r.1<=nrem
 up:Up z r.2 r.1
theorem tail3{p₀ p:Array Nat}{n nrem:Nat}(hz:nrem<=p₀.size)(h1:1<=n)(hn:n<=nrem)(hp:p.Perm p₀)(hs:p.size=p₀.size)(hd:Dn z p n):OK z p₀ nrem (run (eQ z) (kas_tail3 n nrem p)):=by
 unfold kas_tail3
 rw[iz]
 obtain⟨a,b,c,_⟩:=P1 (nrem - n) n h1 (K6 (by omega) hd)
 exact⟨(nH _ _ _).trans hp,by show (kas_rev p 0 n).size=_;rw[ny,hs],by show 1<=run _ (kas_asc _ _ _);omega,by show run _ (kas_asc _ _ _)<=nrem;omega,c⟩
theorem descPart{p₀ p:Array Nat}{n nrem:Nat}(hz:nrem<=p₀.size)(h1:1<=n)(hn:n < nrem)(hp:p.Perm p₀)(hs:p.size=p₀.size)(hd:Dn z p n)(hlt:Z z p n<=Z z p (n - 1)):OK z p₀ nrem (run (eQ z) (kas_descPart n nrem p)):=by
 unfold kas_descPart
 rw[iz]
 have D:=Je (z:=z) hz (nrem - (n+1)) p (n+1) 0 (by omega) ⟨hp,hs,by omega,by omega,fun a b hab hb=>by
  by_cases hbn:b < n
  ·exact hd a b hab hbn
  ·have e:b=n:=by omega
   subst e
   by_cases ha:a=b
   ·subst ha;exact xZ _
   ·exact jT hlt (hd a (b - 1) (by omega) (by omega)),fun a b h1 h2 h3 h4=>by rw[show a=b by omega]⟩
 dsimp only at D
 generalize run (eQ z) (kas_desc (nrem - (n+1)) p (n+1) 0)=r at D
 have hq:=D.qn
 split
 ·exact tail3 hz (by omega) D.le ((nH _ _ _).trans D.perm) (by rw[ny,D.size]) (F4 (Bp (by have:=D.size;have:=D.le;omega) D.eq) D.dn)
 ·exact tail3 hz (by omega) D.le D.perm D.size D.dn
theorem count{p:Array Nat}{nrem:Nat}(hz:nrem<=p.size)(h1:1<=nrem):OK z p nrem (run (eQ z) (kas_count nrem p)):=by
 unfold kas_count
 rw[iz]
 obtain⟨a,b,c,d⟩:=P1 (z:=z) (p:=p) (nrem - 1) 1 (yM _) (fun x y hxy hy=>by rw[show x=y by omega];exact xZ _)
 generalize run (eQ z) (kas_asc p (nrem - 1) 1)=n at a b c d
 split
 ·exact⟨Array.Perm.refl _,rfl,a,by show n<=nrem;omega,c⟩
 ·rename_i hne
  have hlt:n < nrem:=by
   have:n≠nrem:=fun e=>hne (by simp[e])
   omega
  have hd:=d (by omega)
  split
  ·rename_i hn1
   show OK z p nrem (run (eQ z) (if eQ z (p.getD 0 0) (p.getD (n - 1) 0)=true then .ret (n,p) else kas_descPart n nrem (kas_rev p 0 n)))
   by_cases hc:eQ z (p.getD 0 0) (p.getD (n - 1) 0)=true
   ·rw[yL hc]
    exact⟨Array.Perm.refl _,rfl,a,by show n<=nrem;omega,c⟩
   ·rw[yN hc]
    have hge:Z z p (n - 1)<=Z z p 0:=by
     have:¬ (Z z p 0 < Z z p (n - 1)):=fun q=>hc (zZ q)
     omega
    have all:∀x,x < n->Z z p x=Z z p 0:=fun x hx=>by
     have e1:=c 0 x (xV _) hx
     have e2:=c x (n - 1) (by omega) (by omega)
     omega
    have same:=Bp (z:=z) (p:=p) (i:=0) (j:=n) (by omega) fun x y _ hx _ hy=>by rw[all x hx,all y hy]
    refine descPart hz (by omega) hlt (nH _ _ _) (by rw[ny]) (fun x y hxy hy=>?_) ?_
    ·rw[same,same,all x (by omega),all y hy];exact xZ _
    ·rw[same,same];omega
  ·exact descPart hz (by omega) hlt (Array.Perm.refl _) rfl (fun x y hxy hy=>by rw[show x=y by omega];exact xZ _) (by omega)
theorem place{p:Array Nat}{k:Nat}(hu:Up z p k):∀ (f l r:Nat),r - l<=f->l<=r->r<=k->(∀a,a < l->Z z p a<=Z z p k)->(∀a,r<=a->a < k->Z z p k<=Z z p a) ->
  let m:=run (eQ z) (kas_place p k f l r);m<=k/\(∀a,a < m->Z z p a<=Z z p k)/\(∀a,m<=a->a < k->Z z p k<=Z z p a)
 | 0,l,r,hf,hl,hr,h1,h2=>by
  intro m
  have e:l=r:=by omega
  subst e
  exact⟨hr,h1,h2⟩
 | f+1,l,r,hf,hl,hr,h1,h2=>by
  intro m
  have hm:m=run (eQ z) (if l >= r then .ret l else .ask (p.getD k 0) (p.getD ((l+r) / 2) 0) fun c=>if c=true then kas_place p k f l ((l+r) / 2) else kas_place p k f ((l+r) / 2+1) r):=rfl
  by_cases hlr:l >= r
  ·rw[yL hlr] at hm
   rw[hm]
   have e:l=r:=by omega
   subst e
   exact⟨hr,h1,h2⟩
  ·rw[yN hlr] at hm
   have hm':m=run (eQ z) (if eQ z (p.getD k 0) (p.getD ((l+r) / 2) 0)=true then kas_place p k f l ((l+r) / 2) else kas_place p k f ((l+r) / 2+1) r):=hm
   by_cases hc:eQ z (p.getD k 0) (p.getD ((l+r) / 2) 0)=true
   ·rw[yL hc] at hm'
    rw[hm']
    have hlt:Z z p k < Z z p ((l+r) / 2):=yQ hc
    exact place hu f l ((l+r) / 2) (by omega) (by omega) (by omega) h1 fun a ha hak=>jT (Int.le_of_lt hlt) (hu _ a ha hak)
   ·rw[yN hc] at hm'
    rw[hm']
    have hge:Z z p ((l+r) / 2)<=Z z p k:=by
     have:¬ (Z z p k < Z z p ((l+r) / 2)):=fun q=>hc (zZ q)
     omega
    exact place hu f ((l+r) / 2+1) r (by omega) (by omega) hr (fun a ha=>jT (hu a ((l+r) / 2) (by omega) (by omega)) hge) h2
theorem bin{p₀:Array Nat}:∀ (f:Nat) (p:Array Nat) (k:Nat),p.Perm p₀->p.size=p₀.size->k+f<=p₀.size->Up z p k ->
  (run (eQ z) (kas_bin f p k)).Perm p₀/\(run (eQ z) (kas_bin f p k)).size=p₀.size/\Up z (run (eQ z) (kas_bin f p k)) (k+f)
 | 0,p,k,hp,hs,hk,hu=>⟨hp,hs,hu⟩
 | f+1,p,k,hp,hs,hk,hu=>by
  unfold kas_bin
  rw[iz]
  have P:=place hu k 0 k (by omega) (by omega) (yM _) (fun a ha=>absurd ha (vR _)) fun a ha hak=>absurd ha (by omega)
  dsimp only at P
  generalize run (eQ z) (kas_place p k k 0 k)=l at P
  obtain⟨p1,p2,p3⟩:=P
  have zb:=Ew z (p:=p) (src:=k) (d:=k - l) (by omega) (by omega)
  have e:k - (k - l)=l:=by omega
  rw[e] at zb
  obtain⟨q1,q2,q3⟩:=bin f (bubble p k (k - l)) (k+1) ((bubble_perm _ _ _).trans hp) (by rw[bubble_size,hs]) (by omega) fun a b hab hb=>by
   rw[zb,zb]
   by_cases ha1:a=l
   ·rw[yL ha1]
    by_cases hb1:b=l
    ·rw[yL hb1];exact xZ _
    ·rw[yN hb1]
     rw[yL (by omega)]
     exact p3 _ (by omega) (by omega)
   ·rw[yN ha1]
    by_cases hb1:b=l
    ·rw[yL hb1,yN (by omega)]
     exact p2 a (by omega)
    ·rw[yN hb1]
     by_cases ha2:l < a/\a<=k
     ·rw[yL ha2,yL (by omega)]
      exact hu _ _ (by omega) (by omega)
     ·rw[yN ha2]
      by_cases hb2:l < b/\b<=k
      ·rw[yL hb2]
       exact hu _ _ (by omega) (by omega)
      ·rw[yN hb2]
       exact hu _ _ hab (by omega)
  exact⟨q1,q2,by rw[show k+(f+1)=k+1+f by omega];exact q3⟩
theorem lq{n:Nat}(h1:1<=n):(run (eQ z) (kas_sort n)).toList.Perm (List.range n)/\((run (eQ z) (kas_sort n)).toList.map z).Pairwise (·<=·):=by
 have hsz:(List.toArray (List.range n)).size=n:=by simp
 have C:=count (z:=z) (p:=List.toArray (List.range n)) (nrem:=n) (by omega) h1
 have fin:∀p:Array Nat,p.Perm (List.toArray (List.range n))->p.size=n->Up z p n->p.toList.Perm (List.range n)/\(p.toList.map z).Pairwise (·<=·):=fun p a b c=>by
  refine⟨by have:=a.toList;simpa using this,?_⟩
  rw[List.pairwise_iff_getElem]
  intro i j hi hj hij
  have hi':i < n:=by simpa [b] using hi
  have hj':j < n:=by simpa [b] using hj
  have:=c i j (jS hij) hj'
  unfold Z at this
  have e1:p.getD i 0=p[i]:=by simp[Array.getD,b,hi']
  have e2:p.getD j 0=p[j]:=by simp[Array.getD,b,hj']
  rw[e1,e2] at this
  simpa using this
 unfold kas_sort
 rw[iz]
 generalize run (eQ z) (kas_count n (List.toArray (List.range n)))=r at C
 obtain⟨k,p⟩:=r
 have hs:=C.size
 rw[hsz] at hs
 split
 ·rename_i hlt
  have hge:=C.ge
  have e:max k 1=k:=by have:1<=k:=hge;omega
  rw[e]
  obtain⟨q1,q2,q3⟩:=bin (z:=z) (n - k) p k C.perm C.size (by rw[hsz];have:k < n:=hlt;omega) C.up
  refine fin _ q1 (by rw[q2,hsz]) ?_
  rw[show k+(n - k)=n by have:k < n:=hlt;omega] at q3
  exact q3
 ·rename_i hnlt
  have hle:=C.le
  have e:k=n:=by have h3:k<=n:=hle;have h4:¬ k < n:=hnlt;omega
  subst e
  exact fin p C.perm hs C.up
end
end SP
namespace Srt
open PySem PySem.W PySem.Calls PyProof.Rows
def outV(z:Nat->Int)(vs:List Value):List Value:=if vs.length < 2 then vs else (SP.run (SP.eQ z) (kas_sort vs.length)).toList.map fun i=>vs.getD i Value.none
theorem outV_len(z:Nat->Int)(vs:List Value):(outV z vs).length=vs.length:=by
 unfold outV
 split
 ·rfl
 ·rename_i h
  have:=(SP.lq (z:=z) (n:=vs.length) (by omega)).1.length_eq
  simpa using this
section
variable {prog:Program}{w:World}{A:Around}{E:Value->Shared->Prop}{s:Shared}
theorem list_sortG{a:Addr}{vs:List Value}{n:Nat}{P:PySem.Fin->Shared->Prop}(ho:s.heap.get? a=some (seqObj "list" vs.toArray n))(h64:vs.length < 64)(z:Nat->Int)(κ:SortKind)
  (hk:2<=vs.length->∀h':Heap,(∀b o,b≠a->s.heap.get? b=some o->h'.get? b=some o)->∀Q':SortKind->Shared->Prop,Q' κ { s with heap:=h' }->wpAny (model prog w) A (keyKind' vs.toArray) Q' (fun _ _=>False) { s with heap:=h' })
  (hlt:2<=vs.length->∀h':Heap,(∀b o,b≠a->s.heap.get? b=some o->h'.get? b=some o)->∀i j C,i < vs.length->j < vs.length->C (SP.eQ z i j) { s with heap:=h' }->kas_ask prog w A κ vs i j C { s with heap:=h' })
  (h:∀ (h':Heap) (c:Nat),(∀b o,b≠a->s.heap.get? b=some o->h'.get? b=some o)->h'.get? a=some (seqObj "list" (outV z vs).toArray c)->P (.done (.ret .none)) { s with heap:=h' }) :
  wpAny (model prog w) A (Builtin.«list.sort» ⟨[.ref a],[]⟩) P E s:=by
 rw[list_sort_plain]
 have ha:a < s.heap.objs.size:=zX ho
 have hsl:vs.length<=sizeLine:=by rw[qU];omega
 refine zU (vN ho rfl (zU (kA ho rfl ?_ (by simpa using hsl) (xV _))))
 obtain⟨e1,ho1⟩:∃e,(s.heap.update a (Obj.mapSeq fun _=>(#[]:Array Value))).get? a=some (seqObj "list" #[] e):=⟨_,kC ho fun _=>#[]⟩
 have kp1:∀b o,b≠a->s.heap.get? b=some o->(s.heap.update a (Obj.mapSeq fun _=>(#[]:Array Value))).get? b=some o:=fun b o hb e=>(xN _ _ (jM hb)).trans e
 refine zU (seqEpoch_at ho1 rfl (zU (wpAny_newTuple ?_ (by simpa using hsl))))
 refine zU (kO (xX ?_) (xV _))
 have ho3:(((s.heap.update a (Obj.mapSeq fun _=>(#[]:Array Value))).push (seqObj "tuple" vs.toArray 0)).push (seqObj "list" #[] 0)).get? a=some (seqObj "list" #[] e1):=zT _ (zT _ ho1)
 have kp3:∀b o,b≠a->s.heap.get? b=some o->(((s.heap.update a (Obj.mapSeq fun _=>(#[]:Array Value))).push (seqObj "tuple" vs.toArray 0)).push (seqObj "list" #[] 0)).get? b=some o:=fun b o hb e=>zT _ (zT _ (kp1 b o hb e))
 show wpAny _ A _ P E { s with heap:=((s.heap.update a (Obj.mapSeq fun _=>(#[]:Array Value))).push (seqObj "tuple" vs.toArray 0)).push (seqObj "list" #[] 0) }
 generalize ((s.heap.update a (Obj.mapSeq fun _=>(#[]:Array Value))).push (seqObj "tuple" vs.toArray 0)).push (seqObj "list" #[] 0)=h3 at ho3 kp3
 clear ho1 kp1
 dsimp only
 have fin:∀st':SortSt,(arrOf st').map (·.2)=(outV z vs).toArray->failedOf st'=none ->
   wpAny (model prog w) A (do
    let sorted:=(arrOf st').map (·.2)
    let touched:=(<- seqEpoch a) != e1
    Builtin.List.listUpdate (.ref a) fun _=>sorted
    if let some e:=failedOf st' then rule "list.sort.comparison-raised";throw e
    if touched then rule "list.sort.modified";raiseError "ValueError" "list modified during sort"
    ret .none) P E { s with heap:=h3 }:=fun st' h1 h2=>by
  dsimp only
  rw[h1,h2]
  refine zU (seqEpoch_at ho3 rfl ?_)
  refine zU (kA ho3 rfl ?_ (xV _) (by show (outV z vs).toArray.size<=_;rw[zH,outV_len];omega))
  obtain⟨c,hc⟩:∃c,(h3.update a (Obj.mapSeq fun _=>(outV z vs).toArray)).get? a=some (seqObj "list" (outV z vs).toArray c):=⟨_,kC ho3 fun _=>(outV z vs).toArray⟩
  have q:=h _ c (fun b o hb e=>(xN _ _ (jM hb)).trans (kp3 b o hb e)) hc
  simp only[bne_self_eq_false,yO,qP]
  exact zV q
 by_cases h2:vs.toArray.size < 2
 ·rw[yL h2,yL h2]
  refine zU (zV ?_)
  rw[StateT.run_pure]
  refine zU (zV (fin _ ?_ rfl))
  have h2':vs.length < 2:=by simpa using h2
  unfold outV
  rw[yL h2']
  show ((vs.toArray.zip vs.toArray).map (·.2))=vs.toArray
  apply Array.toList_inj.mp
  simp only[Array.toList_map,Array.toList_zip]
  exact List.map_snd_zip (yM _)
 ·rw[yN h2,yN h2]
  have h2':2<=vs.length:=by
   have:¬ vs.length < 2:=by simpa using h2
   omega
  refine zU (xA (hk h2' h3 kp3 (fun κ' s'=>κ'=κ/\s'={ s with heap:=h3 }) ⟨rfl,rfl⟩) (fun κ' s' hs=>?_) fun _ _ x=>x.elim)
  obtain⟨rfl,rfl⟩:=hs
  refine zU (xA (kat_run (Q:=fun st' s'=>s'={ s with heap:=h3 }/\(arrOf st').map (·.2)=(outV z vs).toArray/\failedOf st'=none) (G:=fun p s'=>s'={ s with heap:=h3 }/\p=SP.run (SP.eQ z) (kas_sort vs.length))
   rfl h2' h64 (fun p st' s' a1 a2 a3 a4=>⟨a4.1,?_,a3⟩) (SP.wp_run (hlt h2' h3 kp3) (kas_sort vs.length) (SP.Fp (by omega)) ⟨rfl,rfl⟩)) ?_ fun _ _ e=>e)
  ·rw[kat_snds rfl a2,a4.2]
   unfold outV
   rw[yN (by omega)]
  ·rintro⟨⟨⟩,st'⟩ s' ⟨hs,h4,h5⟩
   subst hs
   exact fin st' h4 h5
def Coll(h:Heap)(l:Addr)(vs:List Value):Prop:=∃ (o:Obj) (T:String) (n:Nat),(T="list"\/T="tuple")/\h.get? l=some o/\o.cls=.type T/\o.data=.seq vs.toArray n
theorem collectC{l:Addr}{vs:List Value}{Q:List Value->Shared->Prop}(hl:Coll s.heap l vs)
  (h:Q vs { s with heap:=(s.heap.push (seqObj "list" #[] 0)).update s.heap.objs.size (Obj.mapSeq (·++vs.toArray)) }) (hsz:vs.length<=sizeLine):wpAny (model prog w) A (collect (.ref l)) Q E s:=by
 obtain⟨o,T,n,hT,ho,hc,hd⟩:=hl
 unfold collect
 refine zU (wpAny_runValue (kE entry_proto_collect' ?_))
 show wpAny _ _ (do again (.builtin "list.__iadd__" ⟨[<- newList [],.ref l],[]⟩)) _ _ s
 refine zU (kO (zV ⟨wM _ (by decide +kernel),kE entry_list_iadd' ?_⟩))
 show wpAny _ _ (Builtin.List.listExtendWith (.ref s.heap.objs.size) (.ref l) (.ref s.heap.objs.size)) _ _ { s with heap:=s.heap.push (seqObj "list" #[] 0) }
 unfold Builtin.List.listExtendWith
 have ho':(s.heap.push (seqObj "list" #[] 0)).get? l=some o:=zT _ ho
 refine zU (wQ (T:=T) ⟨o,ho',hc⟩ ?_)
 rw[yL (by rcases hT with rfl|rfl<;>simp)]
 refine zU (vN ho' hd (zU (vN (xs:=#[]) (n:=0) (zW _ rfl) rfl ?_)))
 rw[yN (by simp)]
 refine zU (kA (xs:=#[]) (n:=0) (zW _ rfl) rfl ?_ (xV _) (by show (#[]++vs.toArray).size<=sizeLine+1;simp only[Array.size_append,zH,xK];omega))
 refine zV ?_
 refine zU (wpAny_load (kC (zW _ rfl) _) ?_)
 show wpAny _ _ (pure ((#[]:Array Value)++vs.toArray).toList) Q E _
 rw[show ((#[]:Array Value)++vs.toArray).toList=vs by simp]
 exact zV h
theorem sortedG{l:Addr}{vs:List Value}{Q:Value->Shared->Prop}(hl:Coll s.heap l vs)(h64:vs.length < 64)(z:Nat->Int)(κ:SortKind)
  (hk:2<=vs.length->∀h':Heap,(∀b o,s.heap.get? b=some o->h'.get? b=some o)->∀Q':SortKind->Shared->Prop,Q' κ { s with heap:=h' }->wpAny (model prog w) A.in1.in1 (keyKind' vs.toArray) Q' (fun _ _=>False) { s with heap:=h' })
  (hlt:2<=vs.length->∀h':Heap,(∀b o,s.heap.get? b=some o->h'.get? b=some o)->∀i j C,i < vs.length->j < vs.length->C (SP.eQ z i j) { s with heap:=h' }->kas_ask prog w A.in1.in1 κ vs i j C { s with heap:=h' })
  (h:∀ (h':Heap) (D:Addr) (c:Nat),(∀b o,s.heap.get? b=some o->h'.get? b=some o)->s.heap.objs.size<=D->h'.get? D=some (seqObj "list" (outV z vs).toArray c)->Q (.ref D) { s with heap:=h' }) :
  wpAny (model prog w) A (call (.builtin "sorted") [.ref l]) Q E s:=by
 have hsl:vs.length<=sizeLine:=by rw[qU];omega
 refine Calls.call_function_entry kind_sorted plain_sorted entry_sorted (args_sorted1 _) ?_
 unfold Builtin.«sorted»
 refine zU (m:=checkCount "sorted" 1 1 _) (zV (zU (collectC hl ?_ hsl)))
 refine zU (kO ?_ (by simpa using hsl))
 have hsz:((s.heap.push (seqObj "list" #[] 0)).update s.heap.objs.size (Obj.mapSeq (·++vs.toArray))).objs.size=s.heap.objs.size+1:=by rw[Heap.size_update,size_push']
 have kp:∀b o,s.heap.get? b=some o->(((s.heap.push (seqObj "list" #[] 0)).update s.heap.objs.size (Obj.mapSeq (·++vs.toArray))).push (seqObj "list" vs.toArray 0)).get? b=some o:=fun b o e =>
  zT _ ((xN _ _ (jI (zX e))).trans (zT _ e))
 have hoD:(((s.heap.push (seqObj "list" #[] 0)).update s.heap.objs.size (Obj.mapSeq (·++vs.toArray))).push (seqObj "list" vs.toArray 0)).get? (s.heap.objs.size+1)=some (seqObj "list" vs.toArray 0):=by
  rw[<- hsz];exact zW _ rfl
 show wpAny _ _ _ _ _ { s with heap:=((s.heap.push (seqObj "list" #[] 0)).update s.heap.objs.size (Obj.mapSeq (·++vs.toArray))).push (seqObj "list" vs.toArray 0) }
 rw[hsz]
 generalize ((s.heap.push (seqObj "list" #[] 0)).update s.heap.objs.size (Obj.mapSeq (·++vs.toArray))).push (seqObj "list" vs.toArray 0)=h1 at kp hoD
 have kk:∀h':Heap,(∀b o,b≠s.heap.objs.size+1->h1.get? b=some o->h'.get? b=some o)->∀b o,s.heap.get? b=some o->h'.get? b=some o:=fun h' q b o e=>q b o (yR (jN (zX e))) (kp b o e)
 refine zU (xX (qV slot_list_sort ⟨_,hoD,rfl⟩ entry_list_sort (list_sortG hoD h64 z κ (fun a h' q=>hk a h' (kk h' q)) (fun a h' q=>hlt a h' (kk h' q)) fun h' c q e=>⟨_,rfl,?_⟩) (args_list_sort _)))
 exact zV ⟨_,rfl,h h' _ c (kk h' q) (by omega) e⟩
end
end Srt
namespace Dl
open PySem L2 PySem.Spec PyProof.Rows
section
variable {X:Cx}{HF₀ H₀:Hp}{e e2:Expr}{es:List Expr}{pos apos cpos px p:Pos}{x:Str}{fs:Env->Option (List D)}
def Al(i:Nat)(fz:List Nat)(f:Env->Option (List D)):aq->Option Out:=fun ρ=>(f (cJ (hand fz 0 ρ))).bind fun us=>oi i (fun ds=>if ds.length+us.length<=sizeLine then some (ds++us) else none) (hand fz 0 ρ)
theorem Eg(i:Nat)(fz:List Nat){f:Env->Option (List D)}(hN:X.N[i]?=some x)(hv:HX X.env.scope x)(h:DF X e f)(hd:(x == ("__debug__":Str))=false:=by decide)(hcd:(x == ("__classdict__":Str))=false:=by decide)
  (hfew:((backTo cpos (starEach [e] X.env)).all (fun x=>!x.1)&&(backToKw cpos (keywordEach [] X.env)).all (fun x=>x.1.isSome)&&decide ([e].length+([]:List Keyword).length+(if ([]:List Keyword).isEmpty then 0 else 1) < 30))=true:=by rfl)
  (hline:(apos.endLine == cpos.line)=true:=by rfl) (hs:starEach [e] X.env=(false,eval e X.env)::starEach [] X.env:=by rfl) :
  DS X HF₀ H₀ (.Expr (.Call (.Attribute (.Name x px) "extend" apos) [e] [] cpos) pos) (Al i fz f) :=
 cH (mZ (rF qN PySem.F.slot_list_extend PySem.F.type_list_extend D7 (k6 hN hv hd hcd) (cn h eZ hs) rfl hfew hline hs rfl)) fun E σ H ⟨HF,ρ,o,S,hg,q⟩=>by
  obtain⟨us,h1,hg⟩:=bs hg
  obtain⟨ds,es,h2,h3,rfl⟩:=lx hg
  obtain⟨HF1,s1,S1⟩:=S.hand fz
  obtain⟨a,vs,e1,e2,e3,e5,e4⟩:=S1.own i ds h2
  refine⟨.ref a,e1,.inl ⟨rfl,vs,hZ.of e2⟩,HF1,_,us,S1.gr.fh,S1.frz,h1,fun b ws H' HF' G hb hf h' r=>?_⟩
  have S2:=S1.grow G
  obtain⟨a',vs',f1,f2,f3,f5,f4⟩:=S2.own i ds h2
  rw[e1] at f1;cases f1
  split at h3
  ·rename_i hz
   cases h3
   exact⟨a,b,vs',ws,rfl,rfl,f2,h',by rw[f4.length,r.length];exact hz,q σ _ HF' (S2.mut h2 e1 f2 (f4.append r)) (s1.trans G.ff)⟩
  ·cases h3
def Ce(ds:List D)(k:Int)(d:D):List D:=let j:=if k < 0 then (k+(ds.length:Int)).toNat else min k.toNat ds.length;ds.take j++d::ds.drop j
def Jy:V->List V->Hp->VK->Prop:=fun x vs H Q=>∃l xs k y,x=.ref l/\vs=[.int k,y]/\H l=some (.lst xs)/\xs.length < sizeLine/\-(2 ^ 62)<=k/\k < 2 ^ 62 /\
 Q .non (upd H l (.lst (xs.take (if k < 0 then (k+(xs.length:Int)).toNat else min k.toNat xs.length)++y::xs.drop (if k < 0 then (k+(xs.length:Int)).toNat else min k.toNat xs.length))))
theorem Dq:LR X "list.insert" Jy:=by
 intro pins s σ H x vs v us Q I rx rv h
 obtain⟨l,xs,k,y,rfl,rfl,hH,hz,k1,k2,q⟩:=h
 cases rx
 obtain⟨u1,u2,rfl,⟨t,rfl⟩,ru⟩:=L2.aM.two rv
 obtain⟨z,its,n,r,hl,e⟩:=I.lstM hH
 have hfit:¬(!Builtin.List.listFitsIndex k)=true:=by
  have:Builtin.List.listFitsIndex k=true:=by
   unfold Builtin.List.listFitsIndex
   simp only[zF,zJ]
   omega
  rw[this];simp
 refine qX F.slot_list_insert ⟨_,e,rfl⟩ F.entry_list_insert (F.args_list_insert_3 _ _ _) (AutoListH.list_insert_list_int_val_1 l its.toArray n k t u2 hfit (by rw[zH];omega)) ⟨e,?_⟩
 have hlen:its.length=xs.length:=hl.symm
 refine⟨.non,_,I.lset (its':=its.take (if k < 0 then (k+(xs.length:Int)).toNat else min k.toNat xs.length)++u2::its.drop (if k < 0 then (k+(xs.length:Int)).toNat else min k.toNat xs.length)) hH e ?_ ((r.take _).append (.cons ru (r.drop _))) ?_,rfl,q⟩
 ·dsimp only
  rw[zH,hlen]
  apply Array.toList_inj.mp
  simp
  exact kK (by rw[qH,hlen];exact yM _)
 ·rw[zN,zL,jV,qH]
  omega
def G1(i:Nat)(fz:List Nat)(fk f:Env->Option D):aq->Option Out:=fun ρ=>(fk (aW ρ)).bind fun kd=>match kd with
 | .int k=>(ki fz f ρ).bind fun p=>oi i (fun ds=>if Ax k=true/\ds.length < sizeLine then some (Ce ds k p.1) else none) p.2
 | _=>none
theorem C9(i:Nat)(fz:List Nat){fk f:Env->Option D}(hN:X.N[i]?=some x)(hv:HX X.env.scope x)(hk:DE X e fk)(h:DE X e2 f)(hd:(x == ("__debug__":Str))=false:=by decide)(hcd:(x == ("__classdict__":Str))=false:=by decide)
  (hfew:((backTo cpos (starEach [e,e2] X.env)).all (fun x=>!x.1)&&(backToKw cpos (keywordEach [] X.env)).all (fun x=>x.1.isSome)&&decide ([e,e2].length+([]:List Keyword).length+(if ([]:List Keyword).isEmpty then 0 else 1) < 30))=true:=by rfl)
  (hline:(apos.endLine == cpos.line)=true:=by rfl) (hs:starEach [e,e2] X.env=(false,eval e X.env)::starEach [e2] X.env:=by rfl) (hs2:starEach [e2] X.env=(false,eval e2 X.env)::starEach [] X.env:=by rfl) :
  DS X HF₀ H₀ (.Expr (.Call (.Attribute (.Name x px) "insert" apos) [e,e2] [] cpos) pos) (G1 i fz fk f) :=
 cH (mZ (rF qN PySem.F.slot_list_insert PySem.F.type_list_insert Dq (k6 hN hv hd hcd) (cn hk (cn h eZ hs2) hs) rfl hfew hline hs (by rw[hs2];rfl))) fun E σ H ⟨HF,ρ,o,S,hg,q⟩=>by
  obtain⟨kd,hkd,hg⟩:=bs hg
  cases kd<;>try cases hg
  rename_i k
  obtain⟨⟨d,ρ'⟩,h1,hg⟩:=bs hg
  obtain⟨ds,es,h2,h3,rfl⟩:=lx hg
  have hown:∃ds',ρ[i]?=some (.own ds'):=by
   obtain⟨d1,_,h1⟩:=bs h1
   split at h1
   ·cases h1;exact⟨ds,h2⟩
   ·obtain⟨d2,_,h1⟩:=ag h1
    cases h1
    rw[ig] at h2
    obtain⟨s,hs,h2⟩:=ag h2
    cases s with
    | non=>split at h2<;>cases h2
    | val _=>split at h2<;>cases h2
    | own xs=>exact⟨xs,hs⟩
  obtain⟨ds',hown⟩:=hown
  obtain⟨a,vs,e1,e2,e3,e5,e4⟩:=S.own i ds' hown
  refine⟨.ref a,e1,.inl ⟨rfl,vs,hZ.of e2⟩,H,aW ρ,_,.refl _,S.all,hkd,fun vk Hk HFk Gk rk=>?_⟩
  simp only[Rep] at rk
  subst rk
  refine og (S.step Gk.hh) h1 fun v H' HF' s1 S' sh r=>?_
  obtain⟨a',vs',f1,f2,f3,f5,f4⟩:=S'.own i ds h2
  rw[e1] at f1;cases f1
  split at h3
  ·rename_i hz
   cases h3
   have ok:=hz.1
   unfold Ax at ok
   rw[zF] at ok
   refine⟨a,vs',k,v,rfl,rfl,f2,by rw[f4.length];exact hz.2,yQ ok.1,yQ ok.2,q σ _ HF' (S'.mut h2 e1 f2 ?_) s1⟩
   unfold Ce
   rw[f4.length]
   exact (f4.take _).append (aw.cons r (f4.drop _))
  ·cases h3
def iq:D->D->Option (List D)
 | .list xs,.list ys=>small (xs++ys)
 | _,_=>none
def GF(K:W.Frag):R2:=fun x y H Q=>∃a b xs ys,x=.ref a/\y=.ref b/\hZ K H a xs/\hZ K H b ys/\xs.length+ys.length<=sizeLine/\∀p,H p=none->Q (.ref p) (upd H p (.lst (xs++ys)))
theorem pK:gY X (binaryOp .Add) (GF X.K):=by
 intro pins s σ H x y v u Q I rx ry h
 obtain⟨a,b,xs,ys,rfl,rfl,ha,hb,hz,q⟩:=h
 cases rx
 cases ry
 obtain⟨its,r1,p1,_⟩:=I.list ha
 obtain⟨its2,r2,p2,_⟩:=I.list hb
 obtain⟨⟨cls,dd,data,sl⟩,ho,hc,n,hd⟩:=id p1.isList
 obtain⟨⟨cls2,dd2,data2,sl2⟩,ho2,hc2,n2,hd2⟩:=id p2.isList
 simp only at hc hd hc2 hd2
 subst hc hd hc2 hd2
 refine wU ⟨_,ho,rfl⟩ ⟨_,ho2,rfl⟩ noFill_list_add seq_list_add PySem.F.slot_list_add PySem.F.entry_list_add (PySem.F.args_list_add_2 _ _) (list_addW a b its.toArray its2.toArray n n2 dd dd2 sl sl2 (by rw[zH,zH,<- r1.length,<- r2.length];exact hz)) ⟨ho,ho2,?_⟩
 have e:its.toArray++its2.toArray=(its++its2).toArray:=by simp
 rw[e]
 exact⟨.ref s.heap.objs.size,_,I.lnew (t':=s.toks) (r1.append r2) (by rw[zN];exact hz),rfl,q _ I.fresh⟩
def HL(g:D->D->Option (List D))(f1 f2:Env->Option D):Env->Option (List D):=fun ρ=>(f1 ρ).bind fun x=>(f2 ρ).bind fun y=>g x y
theorem KO{a b:Expr}{fa fb:Env->Option D}(ha:DE X a fa)(hb:DE X b fb):DF X (.BinOp a .Add b pos) (HL iq fa fb):=bh (CL pK ha hb) fun σ H Q ⟨HF,ρ,d,sm,eo,hf,q⟩=>by
 obtain⟨x,hx,hf⟩:=bs hf
 obtain⟨y,hy,hg⟩:=bs hf
 refine⟨HF,ρ,x,sm,eo,hx,fun v1 H1 HF1 g1 r1=>⟨HF1,ρ,y,g1.fh,eo.mono g1.ff,hy,fun v2 H2 HF2 g2 r2=>?_⟩⟩
 have r1:=r1.mono g2.ff
 cases x<;>cases y<;>simp only[iq] at hg<;>try cases hg
 rename_i xs ys
 obtain⟨rfl,hz⟩:=eS hg
 simp only[Rep] at r1 r2
 obtain⟨a,vs,rfl,ha,ra⟩:=r1
 obtain⟨b,us,rfl,hb,rb⟩:=r2
 have G:=g1.trans g2
 exact⟨a,b,vs,us,rfl,rfl,g2.fh.seq ha,g2.fh.seq hb,by rw[ra.length,rb.length,<- zN];exact hz,fun p hp=>q p _ _ HF2 (G.trans (.own G.fh hp)) (G.hh.free hp) (G.fh.free hp) aI (ra.append rb)⟩
def boolsOf:List D->Option (List Bool)
 | []=>some []
 | .bool b::r=>(boolsOf r).map (b::·)
 | _::_=>none
theorem mW:∀ {ds:List D}{bs:List Bool},boolsOf ds=some bs->ds=bs.map PyData.bool
 | [],bs,h=>by cases h;rfl
 | d::r,bs,h=>by
  cases d<;>simp only[boolsOf] at h<;>try cases h
  obtain⟨bs',h1,rfl⟩:=ag h
  rw[mW h1]
  rfl
theorem f9{K:W.Frag}{H:Hp}:∀ {bs:List Bool}{vs:List V},aw K H (bs.map PyData.bool) vs->vs=bs.map V.bl
 | [],vs,h=>h.nil_inv
 | b::bs,vs,h=>by
  obtain⟨v,r,rfl,a,c⟩:=h.cons_inv
  simp only[Rep] at a
  rw[a,f9 c]
  rfl
theorem pY:∀ {bs:List Bool}{us:List Value},aM (bs.map V.bl) us->us=bs.map Value.bool
 | [],us,h=>by cases h;rfl
 | b::bs,us,h=>by
  cases h with
  | cons r rr=>cases r;rw[pY rr];rfl
theorem range_all(bs:List Bool):(List.range bs.length).all (fun i=>bs.getD i false)=bs.all id:=by
 induction bs with
 | nil=>rfl
 | cons b bs ih=>rw[zL,List.range_succ_eq_map,xS,List.all_map,xS];simpa [Function.comp_def] using jC (b&&·) ih
theorem BF(hc:X.calm=true):fJ X (.builtin "all") (fun xs H Q=>∃ (a:Addr) (bs:List Bool),xs=[.ref a]/\hZ X.K H a (bs.map V.bl)/\Q (.bl (bs.all id)) H):=by
 intro pins s σ H xs us Q I r h
 obtain⟨a,bs,rfl,hq,q⟩:=h
 obtain⟨u,rfl,rx⟩:=vals1 r
 cases rx
 obtain⟨its,rv,pl,hz⟩:=I.list hq
 have hv:=pY rv
 subst hv
 have hh:X.A.in1.handled=none:=I.ok.hd hc
 refine call_all_walk (qK pl.isList ?_)
 obtain⟨o,ho,hcl,n,hd⟩:=pl.isList
 have hne:a≠s.heap.objs.size:=yR (zX ho)
 refine⟨_,_,_,_,_,_,fun i=>bs.getD i false,rfl,Walks.list hh s.heap.objs.size a hne (bs.map Value.bool).toArray,⟨⟨_,zW _ rfl,rfl,rfl⟩,pl.isList.push _⟩,fun i v s' Q' E' hP hQ=>?_,fun h' tk kp=>?_⟩
 ·have e:v=Value.bool (bs.getD i false):=by
   have hP:(bs.map Value.bool).toArray[i]?=some v:=hP
   rw[List.getElem?_toArray,zO] at hP
   obtain⟨b,hb,rfl⟩:=ag hP
   rw[zG,hb]
   rfl
  subst e
  exact xW hQ
 ·refine⟨.bl (bs.all id),H,?_,?_,q⟩
  ·exact I.kept (t':=tk) fun b o' e=>kp b o' (by simp;exact yR (zX e)) (zT _ e)
  ·show Value.bool _=Value.bool _
   have:=range_all bs
   simp only[zH,zD]
   rw[this]
def za:List D->Option D:=fun ds=>(oneOf ds).bind fun d=>match d with
 | .list es=>(boolsOf es).map fun bs=>.bool (bs.all id)
 | _=>none
theorem Mt(hc:X.calm=true)(B:oU X "all" (.builtin "all"))(ha:DA X [e] fs)(he:starEach [e] X.env=(false,eval e X.env)::starEach [] X.env:=by rfl):DE X (.Call (.Name "all" p) [e] [] pos) (bR za fs) :=
 j9 (BF hc) (by
  intro HF H ds vs d Q sm r hg q
  obtain⟨x,hx,hg⟩:=bs hg
  rw[iY hx] at r
  cases x<;>try cases hg
  obtain⟨bs,hb,rfl⟩:=ag hg
  obtain⟨v,r',rfl,a,b⟩:=r.cons_inv
  rw[b.nil_inv]
  simp only[Rep] at a
  obtain⟨p,us,rfl,h,rr⟩:=a
  rw[mW hb] at rr
  have:=f9 rr
  subst this
  exact⟨p,bs,rfl,sm.seq h,q _ H HF (.refl sm) (by simp[Rep])⟩) B ha (by decide) (by decide) he rfl
end
abbrev lexLt:=HT.lexLt
theorem gE:∀a:List Int,lexLt a a=false
 | []=>rfl
 | x::a=>by show HT.lexLt (x::a) (x::a)=false;rw[HT.cL,yL rfl];exact gE a
theorem eO:∀ {a b c:List Int},lexLt a b=true->lexLt b c=true->lexLt a c=true
 | [],[],_,h,_=>by cases h
 | [],_::_,[],_,h=>by cases h
 | [],_::_,_::_,_,_=>rfl
 | _::_,[],_,h,_=>by cases h
 | _::_,_::_,[],_,h=>by cases h
 | x::a,y::b,z::c,h1,h2=>by
  have h1:HT.lexLt (x::a) (y::b)=true:=h1
  have h2:HT.lexLt (y::b) (z::c)=true:=h2
  show HT.lexLt (x::a) (z::c)=true
  rw[HT.cL] at h1 h2 ⊢
  by_cases e1:x=y
  ·rw[yL e1] at h1
   by_cases e2:y=z
   ·rw[yL e2] at h2
    rw[yL (e1.trans e2)]
    exact eO h1 h2
   ·rw[yN e2] at h2
    rw[yN (by omega)]
    have:=yQ h2
    exact zZ (by omega)
  ·rw[yN e1] at h1
   have q1:=yQ h1
   by_cases e2:y=z
   ·rw[yN (by omega)]
    exact zZ (by omega)
   ·rw[yN e2] at h2
    have q2:=yQ h2
    rw[yN (by omega)]
    exact zZ (by omega)
theorem iH:∀ {a b:List Int},lexLt a b=false->lexLt b a=false->a=b
 | [],[],_,_=>rfl
 | [],_::_,h,_=>by cases h
 | _::_,[],_,h=>by cases h
 | x::a,y::b,h1,h2=>by
  have h1:HT.lexLt (x::a) (y::b)=false:=h1
  have h2:HT.lexLt (y::b) (x::a)=false:=h2
  rw[HT.cL] at h1 h2
  by_cases e:x=y
  ·rw[yL e] at h1
   rw[yL e.symm] at h2
   rw[e,iH h1 h2]
  ·rw[yN e] at h1
   rw[yN (fun z=>e z.symm)] at h2
   have:=of_decide_eq_false h1
   have:=of_decide_eq_false h2
   omega
def lexLe(a b:List Int):Bool:=!lexLt b a
theorem An(a b c:List Int)(h1:lexLe a b=true)(h2:lexLe b c=true):lexLe a c=true:=by
 unfold lexLe at *
 rw[yP] at *
 cases e:lexLt c a with
 | false=>rfl
 | true =>
  cases e1:lexLt a b with
  | true=>rw[eO e e1] at h2;cases h2
  | false =>
   have:=iH e1 h1
   subst this
   rw[e] at h2;cases h2
theorem yc(a b:List Int):(lexLe a b||lexLe b a)=true:=by
 unfold lexLe
 cases e1:lexLt b a with
 | false=>rfl
 | true =>
  cases e2:lexLt a b with
  | false=>rfl
  | true=>have:=eO e1 e2;rw[gE] at this;cases this
theorem qv{a b:List Int}(h1:lexLe a b=true)(h2:lexLe b a=true):a=b:=by
 unfold lexLe at *
 rw[yP] at *
 exact iH h2 h1
theorem tJ{α:Type}{le:α->α->Bool}(anti:∀a b,le a b=true->le b a=true->a=b):∀ {l m:List α},l.Perm m->l.Pairwise (fun a b=>le a b=true)->m.Pairwise (fun a b=>le a b=true)->l=m
 | [],m,p,_,_=>p.nil_eq
 | a::l,[],p,_,_=>by have:=p.length_eq;simp at this
 | a::l,b::m,p,h1,h2=>by
  obtain⟨h1a,h1b⟩:=List.pairwise_cons.mp h1
  obtain⟨h2a,h2b⟩:=List.pairwise_cons.mp h2
  have e:a=b:=by
   have ha:a∈b::m:=p.mem_iff.mp zE
   have hb:b∈a::l:=p.mem_iff.mpr zE
   rcases List.mem_cons.mp ha with e|ha
   ·exact e
   ·rcases List.mem_cons.mp hb with e|hb
    ·exact e.symm
    ·exact anti a b (h1a b hb) (h2a a ha)
  subst e
  rw[tJ anti (List.perm_cons a |>.mp p) h1b h2b]
def pR(l:List (List Int)):List (List Int):=l.mergeSort lexLe
theorem FH(l:List (List Int)):(pR l).Perm l:=List.mergeSort_perm l lexLe
theorem Mm(l:List (List Int)):(pR l).Pairwise (fun a b=>lexLe a b=true):=List.pairwise_mergeSort An yc l
theorem BO{l m:List (List Int)}(p:l.Perm m)(h:l.Pairwise (fun a b=>lexLe a b=true)):l=pR m:=tJ (fun _ _=>qv) (p.trans (FH m).symm) h (Mm m)
def rk(l:List (List Int))(a:List Int):Int:=((l.countP fun b=>lexLt b a:Nat):Int)
theorem Hg{l:List (List Int)}{a b:List Int}(ha:a∈l):lexLt a b=decide (rk l a < rk l b):=by
 unfold rk
 have mono:∀ {a b:List Int},lexLt a b=true->(l.countP fun c=>lexLt c a)<=l.countP fun c=>lexLt c b:=fun {a b} h=>List.countP_mono_left fun c _ hc=>eO hc h
 have strict:∀ {a b:List Int}(ha:a∈l),lexLt a b=true->(l.countP fun c=>lexLt c a) < l.countP fun c=>lexLt c b:=fun {a b} ha h=>by
  have key:∀m:List (List Int),a∈m->(m.countP fun c=>lexLt c a) < m.countP fun c=>lexLt c b:=fun m hm=>by
   induction m with
   | nil=>cases hm
   | cons x m ih =>
    rw[List.countP_cons,List.countP_cons]
    have mo:(m.countP fun c=>lexLt c a)<=m.countP fun c=>lexLt c b:=List.countP_mono_left fun c _ hc=>eO hc h
    rcases List.mem_cons.mp hm with e|hm
    ·subst e
     rw[gE,h]
     simp only[yO,qP,xH]
     omega
    ·have:=ih hm
     by_cases hx:lexLt x a=true
     ·rw[hx,eO hx h];simp only[xH];omega
     ·have hx':lexLt x a=false:=by simpa using hx
      rw[hx']
      simp only[yO,qP]
      split<;>omega
  exact key l ha
 cases e:lexLt a b with
 | true=>exact (zZ (by have:=strict ha e;omega)).symm
 | false =>
  refine (zY ?_).symm
  cases e2:lexLt b a with
  | true=>have:=mono e2;omega
  | false=>rw[iH e e2];omega
section
variable {prog:Program}{w:World}{A:Around}{E:Value->Shared->Prop}{s:Shared}
theorem pZ{Q:Bool->Shared->Prop}:∀ {us ws:List Value}{ns ms:List Int}(i:Nat),IntsAre us ns->IntsAre ws ms->Q (lexLt ns ms) s->W.KatLex prog w A true (decide (ns.length < ms.length)) Q (us.zip ws) i s
 | [],[],_,_,i,.nil,.nil,h=>h
 | [],_::_,_,_,i,.nil,.cons _ _ _,h=>by
  show Q (decide (0 < _+1)) s
  rw[zZ (Nat.succ_pos _)]
  exact h
 | _::_,[],_,_,i,.cons _ _ _,.nil,h=>by
  show Q (decide (_+1 < 0)) s
  rw[zY (vR _)]
  exact h
 | _::us,_::ws,_,_,i,.cons n t r1,.cons m u r2,h=>by
  have h:Q (HT.lexLt (n::_) (m::_)) s:=h
  rw[HT.cL] at h
  refine W.kat_cons (SeqAt.EqAt.int_int n t m u prog w _ _ ?_)
  cases e:(n == m) with
  | true =>
   have e':n=m:=eq_of_beq e
   rw[yL e'] at h
   refine W.kat_yes ?_
   have:=pZ (i+1) r1 r2 h
   simp only[zL,Nat.add_lt_add_iff_right]
   exact this
  | false =>
   have e':¬ n=m:=fun q=>by rw[q] at e;simp at e
   rw[yN e'] at h
   refine W.kat_no ?_
   by_cases hi:(true&&i == 0)=true
   ·rw[hi]
    exact oneLt_int h
   ·have hi':(true&&i == 0)=false:=by simpa using hi
    rw[hi']
    refine W.kat_one _ _ (lt_int ?_)
    exact h
end
def av(ns:List Int):D:=.tuple (ns.map PyData.int)
def intsOf:List D->Option (List Int)
 | []=>some []
 | .int n::r=>(intsOf r).map (n::·)
 | _::_=>none
theorem dU:∀ {ds:List D}{ns:List Int},intsOf ds=some ns->ds=ns.map PyData.int
 | [],ns,h=>by cases h;rfl
 | d::r,ns,h=>by
  cases d<;>simp only[intsOf] at h<;>try cases h
  obtain⟨ns',h1,rfl⟩:=ag h
  rw[dU h1]
  rfl
theorem iR:∀ns:List Int,intsOf (ns.map PyData.int)=some ns
 | []=>rfl
 | n::ns=>by simp[intsOf,iR ns]
def B1:D->Option (List Int)|.tuple ds=>(intsOf ds).bind fun ns=>if ns=[] then none else some ns|_=>none
theorem BP{d:D}{ns:List Int}(h:B1 d=some ns):d=av ns/\ns≠[]:=by
 cases d<;>try cases h
 obtain⟨ms,h1,h2⟩:=bs h
 split at h2
 ·cases h2
 ·rename_i hn
  cases h2
  rw[dU h1]
  exact⟨rfl,hn⟩
theorem Dp{ns:List Int}(h:ns≠[]):B1 (av ns)=some ns:=by
 unfold av B1
 simp only[iR,zA]
 rw[yN h]
def rowsOf:List D->Option (List (List Int))
 | []=>some []
 | d::r=>(B1 d).bind fun ns=>(rowsOf r).map (ns::·)
theorem kg:∀ {ds:List D}{nss:List (List Int)},rowsOf ds=some nss->ds=nss.map av/\∀ns∈nss,ns≠[]
 | [],nss,h=>by cases h;exact⟨rfl,fun _ z=>by cases z⟩
 | d::r,nss,h=>by
  obtain⟨ns,h1,h⟩:=bs h
  obtain⟨rest,h2,rfl⟩:=ag h
  obtain⟨e,hn⟩:=BP h1
  obtain⟨e2,hn2⟩:=kg h2
  refine⟨by rw[e,e2];rfl,fun m hm=>?_⟩
  rcases List.mem_cons.mp hm with q|q
  ·subst q;exact hn
  ·exact hn2 m q
theorem mf:∀ {nss:List (List Int)},(∀ns∈nss,ns≠[])->rowsOf (nss.map av)=some nss
 | [],_=>rfl
 | ns::r,h=>by
  simp only[zI,rowsOf,Dp (h ns zE),zA,mf fun m hm=>h m (zC _ hm),zB]
structure u0(h:Heap)(v:Value)(ns:List Int):Prop where
 ex:∃ (a:Addr) (o:Obj) (its:Array Value) (n:Nat),v=.ref a/\h.get? a=some o/\o.cls=.type "tuple"/\o.data=.seq its n/\IntsAre its.toList ns
theorem u0.keep{h h':Heap}{v:Value}{ns:List Int}(r:u0 h v ns)(k:∀b o,h.get? b=some o->h'.get? b=some o):u0 h' v ns:=let ⟨a,o,its,n,e,e1,e2,e3,e4⟩:=r.ex;⟨a,o,its,n,e,k _ _ e1,e2,e3,e4⟩
section
variable {prog:Program}{w:World}{A:Around}{E:Value->Shared->Prop}{s:Shared}
theorem pH{h:Heap}:∀ {vs:List Value}{nss:List (List Int)},Paired (u0 h) vs nss->(∀ns∈nss,ns≠[])->∃fs:List Value,W.KatTups h vs fs/\fs.length=vs.length/\∀f∈fs,∃n t,f=Value.int n t
 | _,_,.nil,_=>⟨[],trivial,rfl,fun _ z=>by cases z⟩
 | _,_,.cons (a:=v) (b:=ns) r p,hn=>by
  obtain⟨fs,h1,h2,h3⟩:=pH p fun m hm=>hn m (zC _ hm)
  obtain⟨a,o,its,n,rfl,e1,e2,e3,e4⟩:=r.ex
  cases hits:its.toList with
  | nil =>
   rw[hits] at e4
   cases e4
   exact absurd rfl (hn [] zE)
  | cons f rest =>
   rw[hits] at e4
   cases e4 with
   | cons m t e5 =>
    have h0:its[0]?=some (.int m t):=by
     have:its.toList[0]?=some (Value.int m t):=by rw[hits];rfl
     simpa using this
    exact⟨.int m t::fs,W.KatTups.cons e1 e2 e3 h0 h1,by simp[h2],fun g hg=>by
     rcases List.mem_cons.mp hg with q|q
     ·exact⟨m,t,q⟩
     ·exact h3 g q⟩
theorem gp{α β:Type}{R:α->β->Prop}{d:α}{d':β}:∀ {l:List α}{m:List β}{i:Nat},Paired R l m->i < l.length->R (l.getD i d) (m.getD i d')
 | _,_,i,.nil,h=>by simp at h
 | _,_,0,.cons r _,_=>r
 | _,_,i+1,.cons _ p,h=>by simpa using gp (i:=i) (d:=d) (d':=d') p (by simpa using h)
theorem xc{l:Addr}{vs:List Value}{nss:List (List Int)}{Q:Value->Shared->Prop}(hl:Srt.Coll s.heap l vs)(hp:Paired (u0 s.heap) vs nss)(hn:∀ns∈nss,ns≠[])(h64:vs.length < 64)
  (h:∀ (h':Heap) (D:Addr) (c:Nat),(∀b o,s.heap.get? b=some o->h'.get? b=some o)->s.heap.objs.size<=D->h'.get? D=some (seqObj "list" (Srt.outV (fun i=>rk nss (nss.getD i [])) vs).toArray c)->Q (.ref D) { s with heap:=h' }) :
  wpAny (model prog w) A (call (.builtin "sorted") [.ref l]) Q E s:=by
 refine Srt.sortedG hl h64 (fun i=>rk nss (nss.getD i [])) (tuples' true) (fun h2 h' kp Q' q=>?_) (fun h2 h' kp i j C hi hj q=>?_) h
 ·have hp':Paired (u0 h') vs nss:=Paired.mapP hp fun _ _ r=>r.keep kp
  obtain⟨fs,t,hlen,hf⟩:=pH hp' hn
  refine W.kat_kind (s:={ s with heap:=h' }) (T:=.type "int") t (by omega) (fun v hv=>?_) (by decide) q
  obtain⟨n,t,rfl⟩:=hf v hv
  exact W.Looks.of_pure rfl
 ·have ri:=(gp (d:=Value.none) (d':=[]) hp hi).keep kp
  have rj:=(gp (d:=Value.none) (d':=[]) hp hj).keep kp
  have hlen:=hp.length
  obtain⟨a,o,its,n,ea,e1,e2,e3,e4⟩:=ri.ex
  obtain⟨b,o',its',n',eb,f1,f2,f3,f4⟩:=rj.ex
  unfold W.kas_ask
  rw[ea,eb]
  have hmem:nss.getD i []∈nss:=by
   rw[zG,zK (by omega)]
   exact qA _
  have q':C (lexLt (nss.getD i []) (nss.getD j [])) { s with heap:=h' }:=by
   rw[Hg hmem]
   exact q
  refine W.kat_lt (s:={ s with heap:=h' }) e1 e3 f1 f3 ?_
  have:=pZ (prog:=prog) (w:=w) (A:=A.in1.in1) (s:={ s with heap:=h' }) 0 e4 f4 q'
  have l1:its.size=(nss.getD i []).length:=by have:=vY e4;simpa using this
  have l2:its'.size=(nss.getD j []).length:=by have:=vY f4;simpa using this
  rw[l1,l2]
  exact this
end
def Ad{α:Type}(z:Nat->Int)(l:List α)(d:α):List α:=if l.length < 2 then l else (SP.run (SP.eQ z) (W.kas_sort l.length)).toList.map fun i=>l.getD i d
theorem k4{α:Type}(l:List α)(d:α):(List.range l.length).map (fun i=>l.getD i d)=l:=by
 apply jH
 ·simp
 ·intro i h1 h2
  simp[h2]
theorem mS{α:Type}(z:Nat->Int)(l:List α)(d:α):(Ad z l d).Perm l:=by
 unfold Ad
 split
 ·exact List.Perm.refl _
 ·rename_i h
  have:=((SP.lq (z:=z) (n:=l.length) (by omega)).1).map fun i=>l.getD i d
  rw[k4] at this
  exact this
theorem HS(nss:List (List Int)):Ad (fun i=>rk nss (nss.getD i [])) nss []=pR nss:=by
 refine BO (mS _ _ _) ?_
 unfold Ad
 split
 ·rename_i h
  match nss,h with
  | [],_=>exact List.Pairwise.nil
  | [a],_=>exact List.pairwise_singleton _ _
 ·rename_i h
  obtain⟨hp,hs⟩:=SP.lq (z:=fun i=>rk nss (nss.getD i [])) (n:=nss.length) (by omega)
  rw[jE] at hs ⊢
  refine hs.imp_of_mem fun {i j} hi hj hij=>?_
  have hj':j < nss.length:=by have:=hp.mem_iff.mp hj;simpa using this
  unfold lexLe
  rw[Hg (l:=nss) (a:=nss.getD j []) (by rw[zG,zK hj'];exact qA _)]
  simp only[yP,xB]
  omega
section
variable {X:Cx}
theorem rq{K:W.Frag}{HF:Hp}{ds:List D}{vs:List V}(z:Nat->Int)(r:aw K HF ds vs):aw K HF (Ad z ds .none) (Ad z vs .non):=by
 unfold Ad
 rw[r.length]
 split
 ·exact r
 ·rename_i h
  obtain⟨hp,_⟩:=SP.lq (z:=z) (n:=ds.length) (by omega)
  have key:∀l:List Nat,(∀i∈l,i < ds.length)->aw K HF (l.map fun i=>ds.getD i .none) (l.map fun i=>vs.getD i .non):=fun l=>by
   induction l with
   | nil=>exact fun _=>aw.nil
   | cons i l ih =>
    intro hl
    have hi:=hl i zE
    obtain⟨v,e1,e2⟩:=r.getD (zK hi)
    refine aw.cons ?_ (ih fun j hj=>hl j (zC _ hj))
    dsimp only
    rw[zG,zG,e1,zK hi]
    exact e2
  exact key _ fun i hi=>by have:=hp.mem_iff.mp hi;simpa using this
theorem pS{vs:List V}{us:List Value}(z:Nat->Int)(r:aM vs us):aM (Ad z vs .non) (Srt.outV z us):=by
 unfold Ad Srt.outV
 rw[r.length]
 split
 ·exact r
 ·rename_i h
  obtain⟨hp,_⟩:=SP.lq (z:=z) (n:=us.length) (by omega)
  have key:∀l:List Nat,(∀i∈l,i < vs.length)->aM (l.map fun i=>vs.getD i .non) (l.map fun i=>us.getD i Value.none):=fun l=>by
   induction l with
   | nil=>exact fun _=>.nil
   | cons i l ih =>
    intro hl
    have hi:=hl i zE
    obtain⟨v,e1,e2⟩:=r.get (zK hi)
    refine .cons ?_ (ih fun j hj=>hl j (zC _ hj))
    dsimp only
    rw[zG,zG,e1,zK hi]
    exact e2
  exact key _ fun i hi=>by have:=hp.mem_iff.mp hi;rw[r.length];simpa using this
theorem Im(z:Nat->Int)(nss:List (List Int)):Ad z (nss.map av) .none=(Ad z nss []).map av:=by
 unfold Ad
 rw[zD]
 split
 ·rfl
 ·rename_i h
  rw[zM]
  obtain⟨hp,_⟩:=SP.lq (z:=z) (n:=nss.length) (by omega)
  refine yH fun i hi=>?_
  have hi':i < nss.length:=by have:=hp.mem_iff.mp hi;simpa using this
  simp[hi']
theorem m5{pins:List (Addr×Obj)}{σ:L2.St}{H HF:Hp}{s:Shared}(I:Inv X pins σ H s)(sm:aU HF H):∀ {nss:List (List Int)}{vs:List V}{us:List Value},aw X.K HF (nss.map av) vs->aM vs us->Paired (u0 s.heap) us nss
 | [],_,_,h,r=>by rw[h.nil_inv] at r;cases r;exact .nil
 | ns::nss,_,_,h,r=>by
  obtain⟨v,vr,rfl,a,b⟩:=h.cons_inv
  cases r with
  | cons r rr =>
   refine .cons ?_ (m5 I sm b rr)
   unfold av at a
   simp only[Rep] at a
   obtain⟨p,ws,rfl,hs,rw'⟩:=a
   cases r
   obtain⟨its,rv,⟨o,ho,hc,n,hd⟩,_⟩:=I.tuple (aO sm hs)
   have:ws=ns.map V.int:=by
    have key:∀ {ns:List Int}{ws:List V},aw X.K HF (ns.map PyData.int) ws->ws=ns.map V.int:=fun {ns}=>by
     induction ns with
     | nil=>exact fun h=>h.nil_inv
     | cons n ns ih =>
      intro ws h
      obtain⟨v,r,rfl,a,b⟩:=h.cons_inv
      simp only[Rep] at a
      rw[a,ih b]
      rfl
    exact key rw'
   subst this
   exact⟨p,o,its.toArray,n,rfl,ho,hc,hd,intsAre_of rv⟩
theorem nN:fJ X (.builtin "sorted") (fun xs H Q=>∃ (HF:Hp) (a:Addr) (vs:List V) (nss:List (List Int)),xs=[.ref a]/\aU HF H/\(hZ X.K HF a vs\/iI X.K HF a vs)/\aw X.K HF (nss.map av) vs/\(∀ns∈nss,ns≠[])/\nss.length < 64 /\
  ∀ (Dn:Addr) (us:List V),H Dn=none->aw X.K HF ((pR nss).map av) us->Q (.ref Dn) (upd H Dn (.lst us))):=by
 intro pins s σ H xs us Q I r h
 obtain⟨HF,a,vs,nss,rfl,sm,hq,rr,hn,h64,q⟩:=h
 obtain⟨u,rfl,rx⟩:=vals1 r
 cases rx
 obtain⟨its,rv,pl,hz⟩:∃its:List Value,aM vs its/\Srt.Coll s.heap a its/\vs.length<=sizeLine:=by
  rcases hq with hq|hq
  ·obtain⟨its,rv,pl,hz⟩:=I.list (sm.seq hq)
   obtain⟨o,ho,hc,n,hd⟩:=pl.isList
   exact⟨its,rv,⟨o,"list",n,.inl rfl,ho,hc,hd⟩,hz⟩
  ·obtain⟨its,rv,pl,hz⟩:=I.tuple (aO sm hq)
   obtain⟨o,ho,hc,n,hd⟩:=(show s.heap.IsTuple a its.toArray from pl)
   exact⟨its,rv,⟨o,"tuple",n,.inr rfl,ho,hc,hd⟩,hz⟩
 have hl1:=rr.length
 rw[zD] at hl1
 refine xc pl (m5 I sm rr rv) hn (by have:=rv.length;omega) fun h' Dn c kp hD e=>?_
 have hv:=pS (fun i=>rk nss (nss.getD i [])) rv
 have hr:=rq (fun i=>rk nss (nss.getD i [])) rr
 rw[Im,HS] at hr
 refine⟨.ref Dn,_,I.laid (t':=s.toks) (o:=.lst (Ad (fun i=>rk nss (nss.getD i [])) vs .non)) kp hD ⟨?_,_,c,hv,e⟩,rfl,q Dn _ (I.hok.fresh hD) hr⟩
 rw[(mS _ _ _).length_eq]
 exact hz
def du:List D->Option (List D):=fun ds=>(oneOf ds).bind fun d=>match d with
 | .list es=>(rowsOf es).bind fun nss=>if nss.length < 64 then some ((pR nss).map av) else none
 | .tuple es=>(rowsOf es).bind fun nss=>if nss.length < 64 then some ((pR nss).map av) else none
 | _=>none
variable {e:Expr}{fs:Env->Option (List D)}{p pos:Pos}
theorem DP(B:oU X "sorted" (.builtin "sorted"))(ha:DA X [e] fs)(he:starEach [e] X.env=(false,eval e X.env)::starEach [] X.env:=by rfl):DF X (.Call (.Name "sorted" p) [e] [] pos) (kc du fs) :=
 Fh nN (by
  intro HF H ds vs d Q sm r hg q
  obtain⟨x,hx,hg⟩:=bs hg
  rw[iY hx] at r
  have key:∀ (b:Bool) (es:List D),aw X.K HF [if b then .tuple es else .list es] vs->((rowsOf es).bind fun nss=>if nss.length < 64 then some ((pR nss).map av) else none)=some d->(∃ (HF:Hp) (a:Addr) (us:List V) (nss:List (List Int)),vs=[.ref a]/\aU HF H/\(hZ X.K HF a us\/iI X.K HF a us)/\aw X.K HF (nss.map av) us/\(∀ns∈nss,ns≠[])/\nss.length < 64/\∀ (Dn:Addr) (ws:List V),H Dn=none->aw X.K HF ((pR nss).map av) ws->Q (.ref Dn) (upd H Dn (.lst ws))):=fun b es r hg=>by
   obtain⟨nss,hb,hg⟩:=bs hg
   split at hg
   ·rename_i h64
    cases hg
    obtain⟨v,r',rfl,a,e0⟩:=r.cons_inv
    rw[e0.nil_inv]
    obtain⟨e1,e2⟩:=kg hb
    obtain⟨p,us,rfl,h,rr⟩:∃p us,v=.ref p/\(hZ X.K HF p us\/iI X.K HF p us)/\aw X.K HF es us:=by
     cases b
     ·simp only[yO,qP,Rep] at a
      obtain⟨p,us,rfl,h,rr⟩:=a
      exact⟨p,us,rfl,.inl h,rr⟩
     ·simp only[xH,Rep] at a
      obtain⟨p,us,rfl,h,rr⟩:=a
      exact⟨p,us,rfl,.inr h,rr⟩
    rw[e1] at rr
    exact⟨HF,p,us,nss,rfl,sm,h,rr,e2,h64,fun Dn ws hD hr=>q Dn ws _ HF (.own sm hD) hD (sm.free hD) aI hr⟩
   ·cases hg
  cases x<;>try cases hg
  ·exact key false _ r hg
  ·exact key true _ r hg) B ha (by decide) (by decide) he rfl
end
end Dl
namespace En
open PySem PyProof.Rows
open AutoSeq1 (wpAny_loadPart')
section
variable {prog:Program}{w:World}{A:Around}{E:Value->Shared->Prop}{s:Shared}
theorem nextT_item{j t:Addr}{k:Nat}{its:Array Value}{v:Value}{Q:Value->Shared->Prop}(hj:s.heap.IsTupleIter j t k)(ht:s.heap.IsTuple t its)(hv:its[k]?=some v)
  (hQ:∀g,g.IsTupleIter j t (k+1)->Heap.SameBut j s.heap g->Q v { s with heap:=g }):wpAny (model prog w) A (Builtin.SmallTypes.nextOf (.ref j)) Q E s:=by
 obtain⟨oj,gj,cj,dj⟩:=id hj
 obtain⟨ot,gt,_,nt,dt⟩:=ht
 unfold Builtin.SmallTypes.nextOf
 refine zU (qC (name:=Str.ofString "__next__") hj.typeIs jQ (qV jQ hj.typeIs F.entry_tuple_iterator_next ?_ (F.args_tuple_iterator_next_1 _)))
 refine zU (m:=field (.ref j) 0) (qT gj dj (x:=.ref t) rfl ?_)
 show wpAny _ _ (if (Value.ref t == Value.none)=true then _ else _) _ _ s
 rw[yN (show ¬ ((Value.ref t == Value.none)=true) by exact yZ)]
 refine zU (m:=field (.ref j) 1) (qT gj dj (x:=.int k 0) rfl ?_)
 refine zU (m:=seqItems? (.ref t)) (kG gt dt ?_)
 simp only[yF,hv]
 refine zU (wpAny_setField gj dj (by simp) (zV ⟨v,rfl,zV (hQ _ ⟨_,Heap.get?_update_self _ gj (Obj.isFreed_of_fields (Obj.data_mapFields dj _)),(Obj.cls_mapFields ..).trans cj,?_⟩ (Heap.SameBut.update ..))⟩))
 rw[Obj.data_mapFields dj];simp[rawInt]
theorem nextT_end{j t:Addr}{k:Nat}{its:Array Value}{Q:Value->Shared->Prop}(hh:A.handled=none)(hj:s.heap.IsTupleIter j t k)(ht:s.heap.IsTuple t its)(hv:its[k]?=none)
  (hE:∀g x,Heap.ExtBut j s.heap g->(∃o,g.get? x=some o/\o.cls=.type "StopIteration")->E (.ref x) { s with heap:=g }):wpAny (model prog w) A (Builtin.SmallTypes.nextOf (.ref j)) Q E s:=by
 obtain⟨oj,gj,cj,dj⟩:=id hj
 obtain⟨ot,gt,_,nt,dt⟩:=ht
 unfold Builtin.SmallTypes.nextOf
 refine zU (qC (name:=Str.ofString "__next__") hj.typeIs jQ (qV jQ hj.typeIs F.entry_tuple_iterator_next ?_ (F.args_tuple_iterator_next_1 _)))
 refine zU (m:=field (.ref j) 0) (qT gj dj (x:=.ref t) rfl ?_)
 show wpAny _ _ (if (Value.ref t == Value.none)=true then _ else _) _ _ s
 rw[yN (show ¬ ((Value.ref t == Value.none)=true) by exact yZ)]
 refine zU (m:=field (.ref j) 1) (qT gj dj (x:=.int k 0) rfl ?_)
 refine zU (m:=seqItems? (.ref t)) (kG gt dt ?_)
 simp only[yF,hv]
 refine zU (wH (zU (wpAny_setField gj dj (by simp) (zU (m:=newExc (.type "StopIteration") []) ?_))))
 simp only[newExc,newTuple]
 refine zU (qL (zU (m:=firstArgMember _ _) (wpAny_of_eq (a:=Value.none) (by first|rfl|(simp only[firstArgMember];rfl)) ?_)) (by size_fits))
 refine qL ?_ (by size_fits);simp only[raiseNew]
 refine zU (wpAny_handled ?_)
 first|rw[show A.in1.handled=none from hh]|rw[hh]
 exact zU (zV (wpAny_throw (hE _ _ (((Heap.SameBut.update ..).extBut.push _).push _) ⟨_,zW _ rfl,rfl⟩)))
theorem meets_enumT(t:Addr)(its:Array Value)(n:Nat)(dd:Option Addr)(sl:Array (Option Value)) :
  Meets (Builtin.«enumerate.__new__» ⟨[.type "enumerate",.ref t],[]⟩) (fun _ R s=>s.heap.get? t=some { cls:=.type "tuple",dict:=dd,data:=.seq its n,slots:=sl } /\
   R (.ok (.ret (.ref (s.heap.push { cls:=.type "tuple_iterator",data:=.fields #[.ref t,.int 0 0] }).objs.size)))
    { s with heap:=(s.heap.push { cls:=.type "tuple_iterator",data:=.fields #[.ref t,.int 0 0] }).push { cls:=.type "enumerate",data:=.fields #[.none,.bool false,.ref s.heap.objs.size,rawInt 0,.none,.none] } }) :=
 .of_wp fun prog w A R s h=>by
  obtain⟨hp,g,d,tk,os⟩:=s
  obtain⟨hl,h⟩:=h
  have hsub:=sub_enumerate
  have hL:Heap.IsTuple (Shared.heap ⟨hp,g,d,tk,os⟩) t its:=⟨_,hl,rfl,n,rfl⟩
  wp_walk using wpAny_loadPart' hl
  refine wpAny_stack_any fun st=>zV ?_
  split
  ·rename_i c _ _ _ _ _
   cases (c == Value.type "enumerate")
   ·wp_walk using wpAny_loadPart' hl,xR hL
    exact⟨_,rfl,h⟩
   ·wp_walk using wpAny_loadPart' hl,xR hL
    exact⟨_,rfl,h⟩
  ·wp_walk using wpAny_loadPart' hl,xR hL
   exact⟨_,rfl,h⟩
theorem call_enumT{t:Addr}{its:Array Value}{Q:Value->Shared->Prop}(ht:s.heap.IsTuple t its)
  (h:∀h',IsEnum h' (s.heap.objs.size+1) s.heap.objs.size 0 .none->h'.IsTupleIter s.heap.objs.size t 0->h'.objs.size=s.heap.objs.size+2->(∀b o,s.heap.get? b=some o->h'.get? b=some o)->Q (.ref (s.heap.objs.size+1)) { s with heap:=h' }) :
  wpAny (model prog w) A (call (.type "enumerate") [.ref t]) Q E s:=by
 obtain⟨⟨c,dct,dt,sl⟩,hl,hc,n,hd⟩:=ht
 simp only at hc hd
 subst hc hd
 refine callType_new F.called_enumerate (by decide) (F.typeCall_enumerate_1 _) (F.newCall_enumerate_1 _) (fun obj=>F.args_object_init_2 obj _) F.entry_enumerate_new (meets_enumT t its n dct sl) ⟨hl,?_⟩
 have hz:(s.heap.push { cls:=.type "tuple_iterator",data:=.fields #[.ref t,.int 0 0] }).objs.size=s.heap.objs.size+1:=by rw[xJ]
 have he:=zW (s.heap.push { cls:=.type "tuple_iterator",data:=.fields #[.ref t,.int 0 0] }) (o:={ cls:=.type "enumerate",data:=.fields #[.none,.bool false,.ref s.heap.objs.size,rawInt 0,.none,.none] }) rfl
 show _/\_
 rw[hz] at he ⊢
 refine⟨⟨_,he,rfl⟩,h _ he ⟨_,zT _ (zW _ rfl),rfl,rfl⟩ ?_ fun b o x=>zT _ (zT _ x)⟩
 show (Heap.push _ _).objs.size=_
 rw[xJ,hz]
end
end En
namespace Dl
open PySem L2 PySem.Spec PyProof.Rows
section
variable {X:Cx}{pins:List (Addr×Obj)}{σ:L2.St}{H:Hp}{s:Shared}{h':Heap}{t':Nat}{ch:List Addr}
theorem ze(I:Inv X pins σ H s)(hch:∀b∈ch,cq X pins H b)(k:∀b o,b∉ch->s.heap.get? b=some o->h'.get? b=some o){T:Addr}{vals:List Value}{xs:List V}(hT:s.heap.objs.size<=T)(ht:pC h' T vals.toArray)
  (rv:aM xs vals) (hz:xs.length<=sizeLine):Inv X pins σ (upd H T (.tup xs)) { s with heap:=h',toks:=t' }:=by
 have nT:H T=none:=I.hok.fresh hT
 have ne:∀b o,s.heap.get? b=some o->b≠T:=fun b o e=>yR (zP (zX e) hT)
 have ne2:∀b o,H b=some o->b≠T:=fun b o e=>aV e nT
 have nch:∀b o,H b=some o->b∉ch:=fun b o e z=>by rw[(hch b z).1] at e;cases e
 refine I.step (g':=s.gens) (d':=s.drawn) (ch:=ch) (fun b hb=>?_) (fun b o _ _ hc e _=>k b o hc e) (fun b o _ _ hc e _=>⟨o.slots,k b o hc e⟩) (fun b o _ e n=>by rw[aG (ne b o e)];exact n)
  (fun b o hc e=>⟨o,k b o hc e⟩) (fun b ys e=>by rw[aG (ne2 b _ e)];exact e) (fun b o u e=>by rw[aG (ne2 b _ e)];exact e) (.kept (fun b u ⟨q,z⟩ e=>k b u (nch b _ z) e) fun b u e _=>by rw[aG (ne2 b _ e)];exact e) (fun m hm=>?_) (fun b u e=>?_) I.bare
 ·obtain⟨f0,f1,f2,f3,f4,f5⟩:=hch b hb
  exact⟨f3,f1,f4,f5⟩
 ·obtain⟨o,es,ep,ho,r⟩:=hm
  exact⟨o,es,ep,k _ o (fun z=>(hch _ z).2.1 rfl) ho,r⟩
 ·by_cases hb:b=T
  ·subst hb
   rw[aI] at e
   cases e
   exact⟨hz,vals,rv,ht⟩
  ·rw[aG hb] at e
   refine (I.hok b u e).stay (fun c v hc q=>k c v ?_ q) (fun _ q=>?_) fun c v q _=>?_
   ·rcases hc with z|z
    ·rw[z];exact nch b u e
    ·exact nch c _ z
   all_goals first
    | (rw[aG (ne2 _ _ q)];exact q)
    | exact q
theorem Ng(I:Inv X pins σ H s){a b:Addr}{o:Obj}(hf:cq X pins H b)(h:X.K.lookup a=some o):a≠b:=by
 rintro rfl
 have hb:=I.ok.mod.kin a o h
 rcases hf.2.2.2.1 with z|z
 ·exact I.ok.noex a o hb z
 ·exact absurd (zP (zX (I.ok.bs a o hb).1) z) (qE _)
theorem LN(I:Inv X pins σ H s){a b:Addr}{xs:List V}(hf:cq X pins H b)(h:hZ X.K H a xs):a≠b:=by
 rcases h with (h|⟨o,h⟩)|⟨o,its,n,h,_⟩
 ·exact aV h hf.1
 ·exact aV h hf.1
 ·exact Ng I hf h
theorem Ml(I:Inv X pins σ H s){a b:Addr}{xs:List V}(hf:cq X pins H b)(h:iI X.K H a xs):a≠b:=by
 rcases h with (h|⟨o,h⟩)|⟨o,its,n,h,_⟩
 ·exact aV h hf.1
 ·exact aV h hf.1
 ·exact Ng I hf h
end
def Qa(sq:Hp->List V->Prop):It:=⟨fun i H=>∃xs x,sq H xs/\xs[i]?=some x,fun i H v H'=>∃T y,v=.ref T/\H T=none/\H'=upd H T (.tup [.int (i:Nat),y])/\∀xs,sq H xs->xs[i]?=some y,fun i H=>∃xs,sq H xs/\xs.length<=i⟩
def cB(k:Nat):List D->List D
 | []=>[]
 | d::ds=>.tuple [.int (k:Nat),d]::cB (k+1) ds
theorem tZ:∀ {ds:List D}{k i:Nat}{d:D},(cB k ds)[i]?=some d->∃x,ds[i]?=some x/\d=.tuple [.int ((k+i:Nat):Int),x]
 | [],k,i,d,h=>by simp[cB] at h
 | x::ds,k,0,d,h=>by simp[cB] at h;exact⟨x,rfl,h.symm⟩
 | x::ds,k,i+1,d,h=>by
  simp only[cB,yY] at h
  obtain⟨y,h1,h2⟩:=tZ h
  refine⟨y,by simpa using h1,?_⟩
  rw[h2,show k+1+i=k+(i+1) by omega]
theorem lD:∀ (ds:List D) (k:Nat),(cB k ds).length=ds.length
 | [],k=>rfl
 | x::ds,k=>by simp[cB,lD ds (k+1)]
theorem Ee{K:W.Frag}{HF:Hp}{sq:Hp->List V->Prop}{ds:List D}{vs:List V}(h:sq HF vs)(mo:∀H H',aU H H'->sq H vs->sq H' vs)(r:aw K HF ds vs):sZ K (Qa sq) HF (cB 0 ds) where
 go:=fun i d H₁ HF₁ e s1 s2=>by
  obtain⟨x,hx,rfl⟩:=tZ e
  rw[jD]
  obtain⟨v,hv,rv⟩:=r.getD hx
  have q:=mo _ _ s2 (mo _ _ s1 h)
  refine⟨⟨vs,v,q,hv⟩,fun y H₂ ⟨T,z,e1,hT,e2,hy⟩=>?_⟩
  have:=hy vs q
  rw[hv] at this
  cases this
  subst e1 e2
  exact⟨_,.new s2 hT,eV (s2.free hT) (aw.cons (by simp[Rep]) (aw.cons (rv.mono s1) aw.nil))⟩
 stop:=fun H₁ HF₁ s1 s2=>⟨vs,mo _ _ s2 (mo _ _ s1 h),by rw[lD,r.length];exact yM _⟩
def Qf(sq1 sq2:Hp->List V->Prop):It:=⟨fun i H=>∃xs ys x y,sq1 H xs/\sq2 H ys/\xs[i]?=some x/\ys[i]?=some y,
 fun i H v H'=>∃T x y,v=.ref T/\H T=none/\H'=upd H T (.tup [x,y])/\(∀xs,sq1 H xs->xs[i]?=some x)/\∀ys,sq2 H ys->ys[i]?=some y,
 fun i H=>∃xs ys,sq1 H xs/\sq2 H ys/\(xs.length<=i\/ys.length<=i)⟩
section
variable {X:Cx}{pins:List (Addr×Obj)}{σ:L2.St}{H:Hp}{s:Shared}{h':Heap}{t':Nat}{ch:List Addr}
theorem DR(I:Inv X pins σ H s)(hch:∀b∈ch,cq X pins H b)(k:∀b o,b∉ch->s.heap.get? b=some o->h'.get? b=some o):Inv X pins σ H { s with heap:=h',toks:=t' }:=by
 have nch:∀b o,H b=some o->b∉ch:=fun b o e z=>by rw[(hch b z).1] at e;cases e
 refine I.step (g':=s.gens) (d':=s.drawn) (ch:=ch) (fun b hb=>?_) (fun b o _ _ hc e _=>k b o hc e) (fun b o _ _ hc e _=>⟨o.slots,k b o hc e⟩) (fun b o _ e n=>n)
  (fun b o hc e=>⟨o,k b o hc e⟩) (fun b ys e=>e) (fun b o u e=>e) (.kept (fun b u ⟨q,z⟩ e=>k b u (nch b _ z) e) fun b u e _=>e) (fun m hm=>?_) (fun b u e=>?_) I.bare
 ·obtain⟨f0,f1,f2,f3,f4,f5⟩:=hch b hb
  exact⟨f3,f1,f4,f5⟩
 ·obtain⟨o,es,ep,ho,r⟩:=hm
  exact⟨o,es,ep,k _ o (fun z=>(hch _ z).2.1 rfl) ho,r⟩
 ·refine (I.hok b u e).stay (fun c v hc q=>k c v ?_ q) (fun _ q=>q) fun c v q _=>q
  rcases hc with z|z
  ·rw[z];exact nch b u e
  ·exact nch c _ z
end
structure QS(z TI TO i1 i2:Addr):Prop where
 a1:TI≠z
 a2:TO≠z
 a3:i1≠z
 a4:i2≠z
 a5:TI≠TO
 a6:TI≠i1
 a7:TI≠i2
 a8:TO≠i1
 a9:TO≠i2
 a0:i1≠i2
section
variable {X:Cx}{l l':Expr}{fs:Env->Option (List D)}{elts:List Expr}{k:Nat}{pos p tp:Pos}
def oW:List D->List D->List D
 | x::xs,y::ys=>.tuple [x,y]::oW xs ys
 | _,_=>[]
theorem xx:∀ {xs ys:List D}{i:Nat}{d:D},(oW xs ys)[i]?=some d->∃x y,xs[i]?=some x/\ys[i]?=some y/\d=.tuple [x,y]
 | [],_,i,d,h=>by simp[oW] at h
 | _::_,[],i,d,h=>by simp[oW] at h
 | x::xs,y::ys,0,d,h=>by simp[oW] at h;exact⟨x,y,rfl,rfl,h.symm⟩
 | x::xs,y::ys,i+1,d,h=>by
  simp only[oW,yY] at h
  obtain⟨a,b,h1,h2,h3⟩:=xx h
  exact⟨a,b,by simpa using h1,by simpa using h2,h3⟩
theorem yq:∀ (xs ys:List D),(oW xs ys).length=min xs.length ys.length
 | [],_=>by simp[oW]
 | _::_,[]=>by simp[oW]
 | x::xs,y::ys=>by simp[oW,yq xs ys]
theorem GU{K:W.Frag}{HF:Hp}{sq1 sq2:Hp->List V->Prop}{xs ys:List D}{vs us:List V}(h1:sq1 HF vs)(mo1:∀H H',aU H H'->sq1 H vs->sq1 H' vs)(h2:sq2 HF us)(mo2:∀H H',aU H H'->sq2 H us->sq2 H' us)(r1:aw K HF xs vs)(r2:aw K HF ys us) :
  sZ K (Qf sq1 sq2) HF (oW xs ys) where
 go:=fun i d H₁ HF₁ e s1 s2=>by
  obtain⟨x,y,hx,hy,rfl⟩:=xx e
  obtain⟨v,hv,rv⟩:=r1.getD hx
  obtain⟨u,hu,ru⟩:=r2.getD hy
  have q1:=mo1 _ _ s2 (mo1 _ _ s1 h1)
  have q2:=mo2 _ _ s2 (mo2 _ _ s1 h2)
  refine⟨⟨vs,us,v,u,q1,q2,hv,hu⟩,fun w H₂ ⟨T,a,b,e1,hT,e2,ha,hb⟩=>?_⟩
  have ea:=ha vs q1
  have eb:=hb us q2
  rw[hv] at ea
  rw[hu] at eb
  cases ea
  cases eb
  subst e1 e2
  exact⟨_,.new s2 hT,eV (s2.free hT) (aw.cons (rv.mono s1) (aw.cons (ru.mono s1) aw.nil))⟩
 stop:=fun H₁ HF₁ s1 s2=>⟨vs,us,mo1 _ _ s2 (mo1 _ _ s1 h1),mo2 _ _ s2 (mo2 _ _ s1 h2),by rw[yq,r1.length,r2.length];omega⟩
end
def cut{α:Type}(xs:List α)(lo hi:Option Int):List α:=(xs.drop (HT.dX xs.length 0 lo)).take (HT.dX xs.length xs.length hi - HT.dX xs.length 0 lo)
theorem IQ{α:Type}(xs:List α)(lo hi:Option Int):(cut xs lo hi).length<=xs.length:=by
 unfold cut;rw[jV,qH];omega
theorem qs{K:W.Frag}{H:Hp}{ds:List D}{vs:List V}(r:aw K H ds vs)(lo hi:Option Int):aw K H (cut ds lo hi) (cut vs lo hi):=by
 unfold cut;rw[r.length];exact (r.drop _).take _
section
variable {X:Cx}
theorem DC{prog:Program}{w:World}{A:Around}{E:Value->Shared->Prop}{s:Shared}{t sl:Addr}{its:Array Value}{vl vu:Value}{lo hi:Option Int}{Q:Value->Shared->Prop}(ht:IsTup s.heap t its)(hs:s.heap.IsSliceOf sl vl vu .none)(pl:IsPart vl lo)(pu:IsPart vu hi)
  (hw:HT.dX its.size 0 lo=0/\HT.dX its.size its.size hi=its.size) (h:Q (.ref t) s):wpAny (model prog w) A (getItem (.ref t) (.ref sl)) Q E s:=by
 obtain⟨os,hos,hcs,hds⟩:=id hs
 have hTs:s.TypeIs (.ref sl) "slice":=⟨os,hos,hcs⟩
 unfold getItem
 try with_reducible refine xX ?_
 first|refine zU (zV ?_)|skip
 refine zU (wpAny_sequenceKey ht.typeIs (by decide) (zU (qC (name:=Str.ofString "__getitem__") ht.typeIs jF (qV jF ht.typeIs entry_tuple_getitem ?_ (args_tuple_getitem _ _)))))
 refine zU (m:=Builtin.Tuple.tupleItemsOf (.ref t)) (tupleItemsOf_ ht (zU (wQ hTs ?_)))
 rw[yL (by decide)]
 refine zU (HT.iA hs pl pu ?_)
 show wpAny _ _ (if (((HT.dX its.size 0 lo:Nat):Int) == 0&&(1:Int) == 1&&(HT.dX its.size its.size hi - HT.dX its.size 0 lo) == its.size)=true then _ else _) _ _ s
 rw[hw.1,hw.2,yL (by simp)]
 unfold Builtin.Tuple.tupleIsExact
 refine zU (zU (wQ ht.typeIs (zV ?_)))
 rw[yL (by decide)]
 first
  | exact zU (wH (zV ⟨_,rfl,zV h⟩))
  | exact zU (wH (zU (zV (zV ⟨_,rfl,zV h⟩))))
def OZ(K:W.Frag):V->Option Int->Option Int->Hp->VK->Prop:=fun x lo hi H Q=>∃a xs,x=.ref a/\iI K H a xs/\(cut xs lo hi=xs->Q (.ref a) H)/\∀p,H p=none->Q (.ref p) (upd H p (.tup (cut xs lo hi)))
theorem KQ:Kp X (OZ X.K):=by
 intro pins s σ H x v vl vu lo hi sl Q I rx hs pl pu h
 obtain⟨a,xs,rfl,hx,q1,q2⟩:=h
 by_cases hw:HT.dX xs.length 0 lo=0/\HT.dX xs.length xs.length hi=xs.length
 ·cases rx
  obtain⟨its,r,ht,hz⟩:=I.tuple hx
  have hlen:its.toArray.size=xs.length:=by rw[zH];exact r.length.symm
  refine⟨"tuple",_,PyProof.Rows.slot_tuple_getitem.lookup,ht.typeIs,DC ht hs pl pu (by rw[hlen];exact hw) ⟨.ref a,H,I,rfl,q1 ?_⟩⟩
  unfold cut
  rw[hw.1,hw.2,List.drop_zero,Nat.sub_zero,List.take_length]
 ·exact Mh pins s σ H (.ref a) v vl vu lo hi sl Q I rx hs pl pu ⟨a,xs,rfl,hx,hw,q2⟩
def P9(K:W.Frag):V->Option Int->Option Int->Hp->VK->Prop:=fun x lo hi H Q=>∃a xs,x=.ref a/\hZ K H a xs/\∀p,H p=none->Q (.ref p) (upd H p (.lst (cut xs lo hi)))
theorem AO(lo hi:Option Int)(n:Nat):sliceBounds lo hi none n=(((HT.dX n 0 lo:Nat):Int),((HT.dX n n hi:Nat):Int),1):=by
 have h1:(1:Int) > 0:=by omega
 refine Prod.ext ?_ (Prod.ext ?_ rfl)
 ·cases lo with
  | none=>simp[sliceBounds,HT.dX]
  | some x =>
   by_cases h:x < 0
   ·simp only[sliceBounds,HT.dX,kM,h1,xH,yL h];omega
   ·simp only[sliceBounds,HT.dX,kM,h1,xH,yN h];omega
 ·cases hi with
  | none=>simp[sliceBounds,HT.dX]
  | some x =>
   by_cases h:x < 0
   ·simp only[sliceBounds,HT.dX,kM,h1,xH,yL h];omega
   ·simp only[sliceBounds,HT.dX,kM,h1,xH,yN h];omega
theorem IM:Kp X (P9 X.K):=by
 intro pins s σ H x v vl vu lo hi sl Q I rx hs pl pu h
 obtain⟨a,xs,rfl,hx,q⟩:=h
 cases rx
 obtain⟨its,r,p,hz⟩:=I.list hx
 have hlen:=r.length
 refine⟨"list",_,slot_list_getitem.lookup,p.isList.typeIs,wpAny_getItem_list_slice p.isList hs pl pu .none (by simp) ?_ (by rw[zH];omega)⟩
 rw[W.kmk_pick_nat its.toArray (AO lo hi its.toArray.size)]
 have e:((its.toArray.toList.drop (HT.dX its.toArray.size 0 lo)).take (HT.dX its.toArray.size its.toArray.size hi - HT.dX its.toArray.size 0 lo))=cut its lo hi:=by unfold cut;simp
 rw[e]
 have rc:aM (cut xs lo hi) (cut its lo hi):=by unfold cut;rw[hlen];exact (r.drop _).take _
 exact⟨.ref s.heap.objs.size,_,I.lnew (t':=s.toks) rc (yC (IQ xs lo hi) hz),rfl,q _ I.fresh⟩
def QU(K:W.Frag)(f:Env->Option (Option Int)):TO:=fun σ H Q=>∃HF ρ o,aU HF H/\cS K HF ρ σ/\f ρ=some o/\∀H' HF',bJ HF H HF' H'->Q o H'
def DO(X:Cx)(e:Option Expr)(f:Env->Option (Option Int)):Prop:=PO X e (QU X.K f)
def gF:Env->Option (Option Int):=fun _=>some none
def gI:D->Option Int|.int i=>some i|_=>none
def rQ(f:Env->Option D):Env->Option (Option Int):=fun ρ=>(f ρ).bind fun d=>(gI d).map some
theorem IA:DO X none gF:=fun pins s σ H Q I ⟨HF,ρ,o,sm,eo,hf,q⟩=>Ju pins s σ H Q I (by cases hf;exact q H HF (.refl sm))
theorem IZ{e:Expr}{f:Env->Option D}(h:DE X e f):DO X (some e) (rQ f):=fun pins s σ H Q I ⟨HF,ρ,o,sm,eo,hf,q⟩=>JX h pins s σ H Q I (by
 obtain⟨d,hd,hf⟩:=bs hf
 obtain⟨i,hi,rfl⟩:=ag hf
 cases d<;>try cases hi
 exact⟨HF,ρ,_,sm,eo,hd,fun v H1 HF1 g1 r1=>⟨_,by simpa only[Rep] using r1,q H1 HF1 g1⟩⟩)
variable {a:Expr}{lo hi:Option Expr}{fa:Env->Option D}{fl fh:Env->Option (Option Int)}{pos p2:Pos}
def gm{β:Type}(g:D->Option Int->Option Int->Option β)(fa:Env->Option D)(fl fh:Env->Option (Option Int)):Env->Option β:=fun ρ=>(fa ρ).bind fun x=>(fl ρ).bind fun l=>(fh ρ).bind fun h=>g x l h
end
section
variable {X:Cx}{a:Expr}{fa:Env->Option D}{pos p2 p3 p4:Pos}{j:Nat}
def f1(g:D->Option D)(f:Env->Option D):Env->Option D:=fun ρ=>(f ρ).bind g
end
end Dl
namespace HT
open PySem PyProof.Rows
section
open PySem.SeqAt
open PySem.AutoSeq1 (wpAny_loadPart')
open PySem.MeetsSeq PySem.MeetsSeq2 PySem.MeetsSeq3
theorem EV(A:Around)(s:Shared)(a:Int)(t:Tok)(c:Int)(u:Tok)(prog:Program)(w:World)(E:Value->Shared->Prop)(Q:Value->Shared->Prop)(h:Q (.bool (decide (c<=a))) s) :
  wpAny (model prog w) A (richCompare .GtE (.int a t) (.int c u)) Q E s :=
 (PyProof.Rows.ge_int h:wpAny (model prog w) A (compareOp .GtE (.int a t) (.int c u)) Q E s)
theorem sd(l b:Addr)(items items2:Array Value)(n n2:Nat)(dd dd2:Option Addr)(sl sl2:Array (Option Value))(ns ms:List Int)(hi:IntsAre items.toList ns)(hj:IntsAre items2.toList ms) :
  Meets (Builtin.«tuple.__ge__» ⟨[.ref l,.ref b],[]⟩)
   (fun _ R s=>s.heap.get? l=some { cls:=.type "tuple",dict:=dd,data:=.seq items n,slots:=sl }/\s.heap.get? b=some { cls:=.type "tuple",dict:=dd2,data:=.seq items2 n2,slots:=sl2 } /\
    R (.ok (.ret (.bool (!lexLt ns ms)))) s) :=
 .of_wp fun prog w A R s h=>by
  obtain⟨hp,g,d,tk,os⟩:=s;obtain⟨hl,hb,h⟩:=h
  have f2:=AutoSeq1.sub_tuple_tuple
  have z1:items.size=ns.length:=by rw[<- hi.length];simp
  have z2:items2.size=ms.length:=by rw[<- hj.length];simp
  wp_walk using wpAny_loadPart' hl,wpAny_loadPart' hb,wpAny_forIn_list _ (fun rest b s'=>b.1=none/\s'=⟨hp,g,d,tk,os⟩/\∃ (vs ws:List Value) (ns' ms':List Int),rest=vs.zip ws /\
   IntsAre vs ns'/\IntsAre ws ms'/\ns'.length+items2.size=ms'.length+items.size/\R (.ok (.ret (.bool (!lexLt ns' ms')))) ⟨hp,g,d,tk,os⟩) _
  case turn =>
   rintro⟨y,x⟩ rest b s' ⟨hb',rfl,vs,ws,ns',ms',hz,hvi,hwi,hlen,hR⟩
   cases hvi with
   | nil=>rw[List.zip_nil_left] at hz;cases hz
   | cons a t hvi' =>
    cases hwi with
    | nil=>rw[List.zip_nil_right] at hz;cases hz
    | cons c u hwi' =>
     rw[List.zip_cons_cons] at hz
     injection hz with hyx hrest
     injection hyx with hy hx
     subst hy hx
     rw[cL] at hR
     simp only[zL] at hlen
     obtain⟨e,he,hiff⟩:=GN A.in1 ⟨hp,g,d,tk,os⟩ a t c u
     refine zU (he prog w _ _ ?_)
     cases e with
     | true =>
      rw[yL (hiff.mp rfl)] at hR
      wp_walk
      exact⟨rfl,rfl,_,_,_,_,hrest,hvi',hwi',by omega,hR⟩
     | false =>
      rw[yN (fun q=>absurd (hiff.mpr q) yZ)] at hR
      have hri:=EV A.in1 ⟨hp,g,d,tk,os⟩ a t c u prog w
      have e1:(!decide (a < c))=decide (c<=a):=by
       rw[<- decide_not]
       exact decide_eq_decide.mpr (by omega)
      rw[e1] at hR
      wp_walk using hri
      exact⟨_,rfl,hR⟩
  case fin =>
   rintro⟨b1,b2⟩ s' ⟨hb',rfl,vs,ws,ns',ms',hz,hvi,hwi,hlen,hR⟩
   simp only at hb'
   subst hb'
   have hv:lexLt ns' ms'=decide (items.size < items2.size):=by
    cases hvi with
    | nil =>
     cases hwi with
     | nil =>
      simp only[xK] at hlen
      rw[sD]
      exact (zY (by omega)).symm
     | cons c u hw =>
      simp only[xK,zL] at hlen
      rw[qc]
      exact (zZ (by omega)).symm
    | cons a t hv =>
     cases hwi with
     | nil =>
      simp only[xK,zL] at hlen
      rw[qk]
      exact (zY (by omega)).symm
     | cons c u hw =>
      rw[List.zip_cons_cons] at hz
      cases hz
   have hv2:(!lexLt ns' ms')=decide (items.size >= items2.size):=by
    rw[hv,<- decide_not]
    exact decide_eq_decide.mpr (by omega)
   rw[hv2] at hR
   wp_walk
   exact⟨_,rfl,hR⟩
  case h =>
   exact⟨rfl,rfl,items.toList,items2.toList,ns,ms,rfl,hi,hj,by omega,h⟩
end
end HT
namespace Dl
open PySem L2 PySem.Spec PyProof.Rows
section
variable {X:Cx}
def lE:D->Option (List Int)|.tuple ds=>intsOf ds|_=>none
theorem iL{x:D}{ns:List Int}(h:lE x=some ns):x=.tuple (ns.map PyData.int):=by
 cases x<;>try cases h
 rename_i xs
 have h:intsOf xs=some ns:=h
 rw[dU h]
def NL:D->D->Option Bool:=fun x y=>(lE x).bind fun ns=>(lE y).map fun ms=>!lexLt ns ms
theorem GH(hu:X.A.units < cLine):gY X (compareOp .GtE) (Oa X.K NL):=by
 intro pins s σ H v1 v2 u1 u2 Q I rx ry h
 obtain⟨HF,x,y,k,sm,r1,r2,hg,q⟩:=h
 obtain⟨ns,h1,hg⟩:=bs hg
 obtain⟨ms,h2,rfl⟩:=ag hg
 rw[iL h1] at r1
 rw[iL h2] at r2
 have key:∀ {ns:List Int}{v:V}{u:Value},Rep X.K HF (.tuple (ns.map PyData.int)) v->RelV v u->∃a its,u=.ref a/\IsTup s.heap a its/\IntsAre its.toList ns:=fun {ns v u} r rv=>by
  have p:u0 s.heap u ns:=by
   cases m5 (X:=X) (us:=[u]) (vs:=[v]) (nss:=[ns]) I sm (aw.cons r aw.nil) (.cons rv .nil) with
   | cons p _=>exact p
  obtain⟨a,o,its,n,rfl,e1,e2,e3,e4⟩:=p.ex
  exact⟨a,its,rfl,⟨o,e1,e2,n,e3⟩,e4⟩
 obtain⟨a,its,rfl,⟨⟨cls,dd,data,sl⟩,ho,hc,n,hd⟩,i1⟩:=key r1 rx
 obtain⟨b,its2,rfl,⟨⟨cls2,dd2,data2,sl2⟩,ho2,hc2,n2,hd2⟩,i2⟩:=key r2 ry
 simp only at hc hd hc2 hd2
 subst hc hd hc2 hd2
 exact richCompare_meets_room (op:=.GtE) ⟨_,ho,rfl⟩ ⟨_,ho2,rfl⟩ PySem.F.slot_tuple_ge PySem.F.entry_tuple_ge (PySem.F.args_tuple_ge_2 _ _) (HT.sd a b its its2 n n2 dd dd2 sl sl2 ns ms i1 i2)
  ⟨ho,ho2,show Value.bool (!lexLt ns ms)≠Value.notImplemented/\EP X pins σ Q (.bool (!lexLt ns ms)) s from ⟨(fun x=>nomatch x),⟨.bl _,H,I,rfl,q⟩⟩⟩ hu
end
end Dl
namespace En
open PySem PyProof.Rows
open AutoSeq1 (wpAny_loadPart')
theorem noFill_tup:fillsNumberSlot (.type "tuple") "mul"=pure false:=PySem.fillsNumberSlot_seq (id:="tuple.__mul__") (r:=some (.builtin "tuple.__rmul__")) F.slot_tuple_mul.lookup (by decide +kernel) F.slot_tuple_rmul.lookup (by decide +kernel)
theorem repeat_tup:seqRepeat? (.type "tuple")=pure (some (.builtin "tuple.__mul__")):=by
 unfold seqRepeat?
 rw[PySem.seqSlot_of (T:="tuple") (name:="__mul__") (id:="tuple.__mul__") F.slot_tuple_mul.lookup (by decide +kernel),PySem.seqSlot_of (T:="tuple") (name:="__rmul__") (id:="tuple.__rmul__") F.slot_tuple_rmul.lookup (by decide +kernel)];rfl
theorem rmul_tup(a:Int)(t:Tok)(l:Addr)(its:Array Value)(n:Nat)(dd:Option Addr)(sl:Array (Option Value)) :
  Meets (Builtin.«int.__rmul__» ⟨[.int a t,.ref l],[]⟩) (fun _ R s=>s.heap.get? l=some { cls:=.type "tuple",dict:=dd,data:=.seq its n,slots:=sl }/\R (.ok (.ret Value.notImplemented)) s) :=
 .of_wp fun prog w A R s h=>by
  obtain⟨hp,g,d,tk,os⟩:=s;obtain⟨hl,h⟩:=h
  wp_walk
  exact⟨_,rfl,h⟩
theorem mulT_same(l:Addr)(its:Array Value)(n:Nat)(dd:Option Addr)(sl:Array (Option Value))(k:Int)(t:Tok)(h1:¬ (decide (k < -(2 ^ 63))||decide (k >= 2 ^ 63))=true)(h2:(its.isEmpty||k == 1)=true) :
  Meets (Builtin.«tuple.__mul__» ⟨[.ref l,.int k t],[]⟩) (fun _ R s=>s.heap.get? l=some { cls:=.type "tuple",dict:=dd,data:=.seq its n,slots:=sl }/\R (.ok (.ret (.ref l))) s) :=
 .of_wp fun prog w A R s h=>by
  obtain⟨hp,g,d,tk,os⟩:=s;obtain⟨hl,h⟩:=h
  have f1:=AutoSeq1.idx_int
  wp_walk using wpAny_loadPart' hl
  rw[yN h1]
  wp_walk using wpAny_loadPart' hl
  exact⟨_,rfl,h⟩
theorem mulT_none(l:Addr)(its:Array Value)(n:Nat)(dd:Option Addr)(sl:Array (Option Value))(k:Int)(t:Tok)(h1:¬ (decide (k < -(2 ^ 63))||decide (k >= 2 ^ 63))=true)(h2:¬ (its.isEmpty||k == 1)=true)(h3:(decide (k<=0)||its.isEmpty)=true) :
  Meets (Builtin.«tuple.__mul__» ⟨[.ref l,.int k t],[]⟩) (fun _ R s=>s.heap.get? l=some { cls:=.type "tuple",dict:=dd,data:=.seq its n,slots:=sl }/\R (.ok (.ret (.ref s.heap.objs.size))) { s with heap:=s.heap.push { cls:=.type "tuple",data:=.seq #[] } }) :=
 .of_wp fun prog w A R s h=>by
  obtain⟨hp,g,d,tk,os⟩:=s;obtain⟨hl,h⟩:=h
  have f1:=AutoSeq1.idx_int
  wp_walk using wpAny_loadPart' hl
  rw[yN h1]
  wp_walk using wpAny_loadPart' hl
  exact⟨_,rfl,h⟩
theorem mulT_many(l:Addr)(its:Array Value)(n:Nat)(dd:Option Addr)(sl:Array (Option Value))(k:Int)(t:Tok)(h1:¬ (decide (k < -(2 ^ 63))||decide (k >= 2 ^ 63))=true)(h2:¬ (its.isEmpty||k == 1)=true)(h3:¬ (decide (k<=0)||its.isEmpty)=true)
  (h4:¬ ((its.size:Nat):Int) * k > (2 ^ 63 - 1) / 8) (h5:¬ Builtin.Tuple.tupleTooMany (((its.size:Nat):Int) * k)=true) (hz:((List.replicate k.toNat its).foldl (·++·) #[]).size<=sizeLine) :
  Meets (Builtin.«tuple.__mul__» ⟨[.ref l,.int k t],[]⟩) (fun _ R s=>s.heap.get? l=some { cls:=.type "tuple",dict:=dd,data:=.seq its n,slots:=sl }/\R (.ok (.ret (.ref s.heap.objs.size))) { s with heap:=s.heap.push { cls:=.type "tuple",data:=.seq ((List.replicate k.toNat its).foldl (·++·) #[]) } }) :=
 .of_wp fun prog w A R s h=>by
  obtain⟨hp,g,d,tk,os⟩:=s;obtain⟨hl,h⟩:=h
  have f1:=AutoSeq1.idx_int
  wp_walk using wpAny_loadPart' hl
  rw[yN h1]
  wp_walk using wpAny_loadPart' hl
  rw[yN h4]
  wp_walk using wpAny_loadPart' hl
  exact⟨_,rfl,h⟩
end En
namespace Dl
open PySem L2 PySem.Spec PyProof.Rows
section
variable {X:Cx}
def Ki(K:W.Frag):R2:=fun x y H Q=>∃a k xs,x=.ref a/\y=.int k/\iI K H a xs/\-(2 ^ 62)<=k/\k < 2 ^ 62/\xs.length * k.toNat<=sizeLine/\((List.replicate k.toNat xs).flatten=xs->Q (.ref a) H) /\
 ∀p,H p=none->Q (.ref p) (upd H p (.tup (List.replicate k.toNat xs).flatten))
theorem IY:gY X (binaryOp .Mult) (Ki X.K):=by
 intro pins s σ H x y v u Q I rx ry h
 obtain⟨a,k,xs,rfl,rfl,hq,k1,k2,hz,q1,q2⟩:=h
 cases rx
 obtain⟨t,rfl⟩:=ry
 obtain⟨its,r,pl,hzx⟩:=I.tuple hq
 have hl:=r.length
 obtain⟨⟨cls,dd,data,sl⟩,ho,hc,n,hd⟩:=id pl
 simp only at hc hd
 subst hc hd
 have b1:¬ (decide (k < -(2 ^ 63))||decide (k >= 2 ^ 63))=true:=by
  simp only[jB,zJ]
  omega
 refine wpAny_binaryOp_repeat_ref (T:="tuple") (U:="int") (by decide) ⟨_,ho,rfl⟩ (fun s'=>wK s' k t) En.noFill_tup F.fills_int_mul vW En.repeat_tup F.slot_int_index.lookup
  (qX vW (wK s k t) F.entry_int_rmul (F.args_int_rmul_2 _ _) (En.rmul_tup k t a its.toArray n dd sl) ⟨ho,rfl,⟨_,ho,rfl⟩,?_⟩)
 have hfl:∀m:Nat,List.foldl (fun x1 x2=>x1++x2) #[] (List.replicate m its.toArray)=(List.replicate m its).flatten.toArray:=fun m=>by
  have:=foldl_rep its m []
  rw[xO] at this
  exact this
 by_cases h2:(its.toArray.isEmpty||k == 1)=true
 ·refine qX F.slot_tuple_mul ⟨_,ho,rfl⟩ wY (wL _ _) (En.mulT_same a its.toArray n dd sl k t b1 h2) ⟨ho,⟨.ref a,H,I,rfl,q1 ?_⟩⟩
  rw[jB] at h2
  rcases h2 with h2|h2
  ·have:xs=[]:=by
    have e:its=[]:=by simpa using h2
    rw[e] at hl
    exact List.length_eq_zero_iff.mp hl
   rw[this]
   simp
  ·have:k=1:=eq_of_beq h2
   subst this
   simp
 ·by_cases h3:(decide (k<=0)||its.toArray.isEmpty)=true
  ·refine qX F.slot_tuple_mul ⟨_,ho,rfl⟩ wY (wL _ _) (En.mulT_none a its.toArray n dd sl k t b1 h2 h3) ⟨ho,?_⟩
   have hk0:k.toNat=0:=by
    simp only[jB,zJ] at h3 h2
    rcases h3 with h3|h3
    ·omega
    ·exact absurd (.inl h3) h2
   have q3:=q2 s.heap.objs.size I.fresh
   rw[hk0] at q3
   exact⟨.ref s.heap.objs.size,_,I.laid (t':=s.toks) (o:=.tup []) (fun b ob q=>zT _ q) (yM _) ⟨xV _,[],.nil,pC.new _ _⟩,rfl,q3⟩
  ·have hm:its.length * k.toNat<=sizeLine:=by rw[<- hl];exact hz
   have hkn:(k.toNat:Int)=k:=by
    simp only[jB,zJ,not_or] at h3
    omega
   have hmi:((its.toArray.size:Nat):Int) * k=((its.length * k.toNat:Nat):Int):=by rw[zH,Int.natCast_mul,hkn]
   have hv:=L2.aM.rep r k.toNat
   have hlen2:(List.replicate k.toNat xs).flatten.length<=sizeLine:=by rw[len_rep,Nat.mul_comm];exact hz
   have hs8:(sizeLine:Nat)<=(2 ^ 63 - 1) / 8:=by decide
   have h4:¬ ((its.toArray.size:Nat):Int) * k > (2 ^ 63 - 1) / 8:=by rw[hmi];omega
   have h5:¬ Builtin.Tuple.tupleTooMany (((its.toArray.size:Nat):Int) * k)=true:=by
    unfold Builtin.Tuple.tupleTooMany
    rw[hmi]
    simp only[zJ]
    omega
   refine qX F.slot_tuple_mul ⟨_,ho,rfl⟩ wY (wL _ _) (En.mulT_many a its.toArray n dd sl k t b1 h2 h3 h4 h5 (by rw[hfl,zH,<- hv.length];exact hlen2)) ⟨ho,?_⟩
   rw[hfl]
   exact⟨.ref s.heap.objs.size,_,I.laid (t':=s.toks) (o:=.tup (List.replicate k.toNat xs).flatten) (fun b ob q=>zT _ q) (yM _) ⟨hlen2,_,hv,pC.new _ _⟩,rfl,q2 _ I.fresh⟩
def GL:D->D->Option D
 | .tuple ds,.int k=>if Ax k=true/\ds.length * k.toNat<=sizeLine then some (.tuple (List.replicate k.toNat ds).flatten) else none
 | _,_=>none
theorem mP{K:W.Frag}{HF:Hp}{ds:List D}{vs:List V}(r:aw K HF ds vs):∀k:Nat,aw K HF (List.replicate k ds).flatten (List.replicate k vs).flatten
 | 0=>aw.nil
 | k+1=>by rw[xE,xE,qM,qM];exact r.append (mP r k)
theorem EW{K:W.Frag}:fS K (Ki K) GL:=by
 intro HF H x y v1 v2 d Q sm r1 r2 hg q
 cases x<;>cases y<;>simp only[GL] at hg<;>try cases hg
 split at hg
 ·rename_i xs k hh
  cases hg
  simp only[Rep] at r1 r2
  obtain⟨a,vs,rfl,ha,ra⟩:=r1
  have ok:=hh.1
  unfold Ax at ok
  rw[zF] at ok
  refine⟨a,k,vs,rfl,r2,aO sm ha,yQ ok.1,yQ ok.2,by rw[ra.length];exact hh.2,fun e=>q _ H HF (.refl sm) ?_,fun p hp=>q _ _ _ (.new sm hp) (eV (sm.free hp) (mP ra _))⟩
  simp only[Rep]
  refine⟨a,vs,rfl,ha,?_⟩
  have:=mP ra k.toNat
  rw[e] at this
  exact this
 ·cases hg
end
end Dl
namespace En
open PySem PyProof.Rows
section
variable {prog:Program}{w:World}{A:Around}{E:Value->Shared->Prop}{s:Shared}
theorem call_setT{l:Addr}{its:Array Value}{ns:List Int}{Q:Value->Shared->Prop}(hh:A.handled=none)(hl:s.heap.IsTuple l its)(hi:IntsAre its.toList ns)(hb:its.size+1 < scanBound)
  (h:∀ (h':Heap) (tk:Nat),h'.SetOf (intKind prog w) s.heap.objs.size (fun k'=>(firstMet (fun i=>ns.getD i 0) its.size).any (· == k')) (firstMet (fun i=>ns.getD i 0) its.size).length->(∀b o,b < s.heap.objs.size->s.heap.get? b=some o->h'.get? b=some o)->Q (.ref s.heap.objs.size) { s with heap:=h',toks:=tk }) :
  wpAny (model prog w) A (call (.type "set") [.ref l]) Q E s:=by
 obtain⟨c,tl,hmro⟩:=F.called_set.mro
 have hmade:=F.called_set.made
 have hsub:=F.called_set.sub
 refine vL (codeAny_of_tree ?_);show wpAny _ _ (callAny (.type "set") _) _ _ _
 refine zV ⟨wM _ (by decide +kernel),kE F.entry_type_call ?_⟩
 rw[Around.under_plain (weight_type_call_type "set" [.ref l] []) rfl]
 have h1:=F.called_set.notType
 have h2:=F.called_set.canCreate
 have hct:=F.typeCall_set_1 (.ref l)
 repeat (any_goals (first|assumption|wp_step))
 refine jR (code_set_new_1 (.ref l) (E:=E) (Q₁:=fun obj s1=>∃led:Bool,obj=.ref s.heap.objs.size/\s1={ s with heap:=s.heap.push { cls:=.type "set",dict:=none,data:=.set #[] 0 (.fresh 0 0 led) } }) fun led=>⟨led,rfl,rfl⟩) fun r s1 hr=>?_
 cases r with
 | error e=>exact hr
 | ok fl =>
  cases fl with
  | ret obj =>
   obtain⟨led,rfl,rfl⟩:=hr
   have hS:(s.heap.push { cls:=.type "set",dict:=none,data:=.set #[] 0 (.fresh 0 0 led) }).get? s.heap.objs.size=some { cls:=.type "set",dict:=none,data:=.set #[] 0 (.fresh 0 0 led) }:=by exact zW _ rfl
   have hT:Shared.TypeIs { s with heap:=s.heap.push { cls:=.type "set",dict:=none,data:=.set #[] 0 (.fresh 0 0 led) } } (.ref s.heap.objs.size) "set":=⟨_,hS,rfl⟩
   have hli:=F.called_set.init.lookup
   have hbi:=F.called_set.init.bind (.ref s.heap.objs.size)
   repeat (any_goals (first|assumption|wp_step))
   refine jR (wC (R:=wants (fun r s2=>r=.none/\∃h' tk,s2={ s with heap:=h',toks:=tk }/\h'.SetOf (intKind prog w) s.heap.objs.size (fun k'=>(firstMet (fun i=>ns.getD i 0) its.size).any (· == k')) (firstMet (fun i=>ns.getD i 0) its.size).length /\
     (∀b o,b < s.heap.objs.size->s.heap.get? b=some o->h'.get? b=some o)) E) F.called_set.init.plain F.entry_set_init (check_set_init_1 hT ?_)) fun r2 s2 hr2=>?_
   ·obtain⟨ol,hol,hcl,nl,hdl⟩:=hl
    obtain⟨ocls,odict,odata,oslots⟩:=ol
    simp only at hcl hdl
    subst hcl hdl
    have hol':(s.heap.push { cls:=.type "set",dict:=none,data:=.set #[] 0 (.fresh 0 0 led) }).get? l=some { cls:=.type "tuple",dict:=odict,data:=.seq its nl,slots:=oslots }:=zT _ hol
    have hsls:=F.sub_tuple_set
    have hslf:=F.sub_tuple_frozenset
    have hne:(Value.type "tuple" == Value.type "dict")=false:=by decide
    have hl1:(s.heap.push { cls:=.type "set",dict:=none,data:=.set #[] 0 (.fresh 0 0 led) }).IsTuple l its:=⟨_,hol',rfl,nl,rfl⟩
    unfold Builtin.«set.__init__» noKeywords Builtin.Frozenset.updateFrom
    generalize hPI:pyIter=PI
    wp_walk
    subst hPI
    refine xR hl1 (zU (wpAny_runValue ?_))
    have hlS:l < s.heap.objs.size:=zX hol
    have hh3:A.in1.in1.in1.handled=none:=by simp[hh]
    have hneI:l≠(s.heap.push { cls:=.type "set",dict:=none,data:=.set #[] 0 (.fresh 0 0 led) }).objs.size:=by rw[xJ];exact yR (jN hlS)
    have hSf:s.heap.objs.size∉[(s.heap.push { cls:=.type "set",dict:=none,data:=.set #[] 0 (.fresh 0 0 led) }).objs.size,l]:=by
     rw[xJ];simp only[zQ,yE,xU,not_or]
     exact⟨yR (kN _),jI hlS⟩
    have hval:∀ (i:Nat) (v:Value),its[i]?=some v->∃t,v=.int ((fun i=>ns.getD i 0) i) t:=fun i v hv=>IntsAre.int_at hi i v (by rw[Array.getElem?_toList];exact hv)
    refine codeAny_set_update_loopS ((Walks.tuple hh3 _ l hneI its).toS) s.heap.objs.size hSf (fun i=>ns.getD i 0) hval hb (its.size - 0) 0 _ (by omega) (xV _) ⟨⟨_,zW _ rfl,rfl,rfl⟩,?ht⟩ ?hS0 ?hR
    case ht=>exact⟨_,zT _ hol',rfl,nl,rfl⟩
    case hS0 =>
     have hget:((s.heap.push { cls:=.type "set",dict:=none,data:=.set #[] 0 (.fresh 0 0 led) }).push { cls:=.type "tuple_iterator",data:=.fields #[.ref l,.int 0 0] }).get? s.heap.objs.size=some { cls:=.type "set",dict:=none,data:=.set #[] 0 (.fresh 0 0 led) }:=by exact zT _ hS
     exact SetOf_congr ((setObjOf_fresh (knd:=intKind prog w) led).setOf hget (by unfold scanBound;omega)) (fun _=>rfl) rfl
    case hR =>
     intro s' hm hS'
     obtain⟨h',g',d',tk',os'⟩:=s'
     have eg:g'=s.gens:=hm.gens
     have ed:d'=s.drawn:=hm.drawn
     have eo:os'=s.os:=hm.os
     subst eg ed eo
     show wpAny _ _ _ _ _ _
     refine zV ?_
     show wpAny _ _ (ret Value.none) _ _ _
     refine zV ⟨rfl,h',tk',rfl,hS',fun b o hb' e=>?_⟩
     refine hm.heap b o ?_ (zT _ (zT _ e))
     simp only[zQ,yE,xU,not_or]
     exact⟨yR hb',by rw[xJ];exact yR (jN hb')⟩
   ·cases r2 with
    | error e=>exact hr2
    | ok fl2 =>
     cases fl2 with
     | ret r =>
      obtain⟨rfl,h',tk,rfl,hS',hk'⟩:=hr2
      repeat (any_goals (first|assumption|wp_step))
      exact h _ _ hS' hk'
     | _=>exact hr2.elim
  | _=>exact hr.elim
end
end En
namespace Dl
open PySem L2 PySem.Spec PyProof.Rows
def many(ns:List Int):Nat:=(firstMet (fun i=>ns.getD i 0) ns.length).length
section
variable {X:Cx}{e:Expr}{f:Env->Option D}{pos p p' pos':Pos}
theorem D2(hc:X.calm=true):fJ X (.type "set") (fun xs H Q=>∃ (a:Addr) (ns:List Int),xs=[.ref a]/\iI X.K H a (ns.map V.int)/\ns.length+1 < scanBound/\∀q S,H q=none->Q (.ref q) (upd H q (.set S (many ns)))):=by
 intro pins s σ H xs us Q I r h
 obtain⟨a,ns,rfl,hq,hb,q⟩:=h
 obtain⟨u,rfl,rx⟩:=vals1 r
 cases rx
 obtain⟨its,rv,pl,hz⟩:=I.tuple hq
 have hi:IntsAre its.toArray.toList ns:=intsAre_of rv
 have hlen:its.toArray.size=ns.length:=by have:=rv.length;simpa using this.symm
 refine En.call_setT (I.ok.hd hc) (show s.heap.IsTuple a its.toArray from pl) hi (by rw[hlen];exact hb) fun h' tk hS hk=>?_
 rw[hlen] at hS
 exact⟨.ref s.heap.objs.size,_,I.laid (t':=tk) (fun b o e=>hk b o (zX e) e) (yM _) (show eK X.prog X.w _ h' _ (.set _ (many ns)) from hS),rfl,q _ _ I.fresh⟩
theorem Dv:fJ X (.builtin "len") (fun xs H Q=>∃ (a:Addr) (S:Int->Bool) (n:Nat),xs=[.ref a]/\H a=some (.set S n)/\Q (.int n) H):=by
 intro pins s σ H xs us Q I r h
 obtain⟨a,S,n,rfl,hq,q⟩:=h
 obtain⟨u,rfl,rx⟩:=vals1 r
 cases rx
 obtain⟨o,es,ep,t,ho,hex,hd,hel,hmem,hlt,hf,hn⟩:=(show s.heap.SetOf (intKind X.prog X.w) a S n from I.hok a _ hq)
 have hfit:((es.size:Nat):Int) < 2 ^ 63:=by unfold scanBound at hlt;omega
 refine call_len_set ho hex hd hf hfit ⟨.int n,H,I.tok _,⟨s.toks+1,by rw[hn]⟩,q⟩
def lH:D->Option D:=fun d=>(lE d).bind fun ns=>if ns.length+1 < scanBound then some (.int (many ns)) else none
theorem D4(hc:X.calm=true)(B:oU X "len" (.builtin "len"))(C:oU X "set" (.type "set"))(h:DE X e f)(he:starEach [e] X.env=(false,eval e X.env)::starEach [] X.env:=by rfl) :
  DE X (.Call (.Name "len" p) [.Call (.Name "set" p') [e] [] pos'] [] pos) (f1 lH f) :=
 bh (m6 Dv B.gl B.mg B.bt (cn (nQ (D2 hc) C.gl C.mg C.bt (cn h eZ he) (by decide) (by decide) he rfl) eZ) (by decide) (by decide) rfl rfl) fun σ H Q ⟨HF,ρ,d,sm,eo,hf,q⟩=>by
  obtain⟨x,hx,hf⟩:=bs hf
  obtain⟨ns,h1,hf⟩:=bs hf
  split at hf
  ·rename_i hb
   cases hf
   refine⟨HF,ρ,x,sm,eo,hx,fun v1 H1 HF1 g1 r1=>?_⟩
   rw[iL h1] at r1
   simp only[Rep] at r1
   obtain⟨a,vs,rfl,hs,rr⟩:=r1
   have key:∀ {ns:List Int}{ws:List V},aw X.K HF1 (ns.map PyData.int) ws->ws=ns.map V.int:=fun {ns}=>by
    induction ns with
    | nil=>exact fun h=>h.nil_inv
    | cons n ns ih =>
     intro ws h
     obtain⟨v,r,rfl,a,b⟩:=h.cons_inv
     simp only[Rep] at a
     rw[a,ih b]
     rfl
   have:=key rr
   subst this
   refine⟨a,ns,rfl,aO g1.fh hs,hb,fun b S hb'=>⟨b,S,_,rfl,aI,q _ _ HF1 (g1.trans (.own g1.fh hb')) (by simp[Rep])⟩⟩
  ·cases hf
end
theorem k8(val:Nat->Int):∀i,(firstMet val i).length=i↔((List.range i).map val).Nodup
 | 0=>by simp[firstMet]
 | i+1=>by
  have hle:=firstMet_length_le val i
  rw[firstMet_succ,step_length,vS,jA,List.nodup_append]
  have ha:=firstMet_any val i (val i)
  have ih:=k8 val i
  constructor
  ·intro h
   by_cases hin:(firstMet val i).any (· == val i)=true
   ·rw[yL hin] at h;omega
   ·rw[yN hin] at h
    refine⟨ih.mp (by omega),by simp,fun a hm b hb z=>?_⟩
    have hb':b=val i:=by simpa using hb
    subst z hb'
    rw[ha] at hin
    exact hin (List.any_eq_true.mpr ⟨_,hm,by simp⟩)
  ·rintro⟨h1,_,h3⟩
   rw[yN ?_]
   ·rw[ih.mpr h1]
   ·rw[ha]
    intro hin
    obtain⟨x,hx,he⟩:=List.any_eq_true.mp hin
    have he':x=val i:=by simpa using he
    exact h3 x hx (val i) (by simp) he'
theorem AV(ns:List Int):many ns=ns.length↔ns.Nodup:=by
 unfold many
 rw[k8]
 have:(List.range ns.length).map (fun i=>ns.getD i 0)=ns:=k4 ns 0
 rw[this]
section
variable {X:Cx}{N:List Str}{sc:Scope}{k:Nat}{a b c e e2:Expr}{es:List Expr}{fa fb fc f:Env->Option D}{fs:Env->Option (List D)}{pos p p' pos' p2 p3 p4 px apos cpos tp:Pos}{x y:Str}{HF₀ H₀:Hp}
theorem pD{K:W.Frag}{r r':R2}{g g':D->D->Option D}(h:fS K r g)(h':fS K r' g'):fS K (fun x y H Q=>r x y H Q\/r' x y H Q) (fun x y=>(g x y).or (g' x y)):=by
 intro HF H x y v1 v2 d Q sm r1 r2 hg q
 cases e:g x y with
 | some d' =>
  have hg:(g x y).or (g' x y)=some d:=hg
  rw[e] at hg
  cases hg
  exact .inl (h HF H x y v1 v2 d Q sm r1 r2 e q)
 | none =>
  have hg:(g x y).or (g' x y)=some d:=hg
  rw[e] at hg
  exact .inr (h' HF H x y v1 v2 d Q sm r1 r2 hg q)
theorem Dr{K:W.Frag}:fS K (GF K) (fun x y=>(iq x y).map PyData.list):=by
 intro HF H x y v1 v2 d Q sm r1 r2 hg q
 obtain⟨zs,hg',rfl⟩:=ag hg
 clear hg
 cases x<;>cases y<;>simp only[iq] at hg'<;>try cases hg'
 obtain⟨rfl,hz⟩:=eS hg'
 simp only[Rep] at r1 r2
 obtain⟨a,vs,rfl,ha,ra⟩:=r1
 obtain⟨b,us,rfl,hb,rb⟩:=r2
 refine⟨a,b,vs,us,rfl,rfl,sm.seq ha,sm.seq hb,by rw[ra.length,rb.length,<- zN];exact hz,fun p hp=>q _ _ _ (.new sm hp) ?_⟩
 simp only[Rep]
 exact⟨p,_,rfl,.inl (.inl aI),(ra.append rb).mono (eJ (sm.free hp))⟩
def aJ:D->D->Option D:=fun x y=>((wz (fun _ _=>True) fun i j=>.int (i+j)) x y).or ((IS x y).or ((iq x y).map PyData.list))
theorem Bk.add(C:Bk X N sc k)(ha:DE X a fa)(hb:DE X b fb):DE X (.BinOp a .Add b pos) (f2 aJ fa fb):=zm (KL.or (Dk.or pK)) (pD FI (pD IK Dr)) ha hb
def lJ:D->D->Option D:=wz (fun _ _=>True) fun i j=>.int (i - j)
theorem Bk.sub(C:Bk X N sc k)(ha:DE X a fa)(hb:DE X b fb):DE X (.BinOp a .Sub b pos) (f2 lJ fa fb):=zm LX FI ha hb
def gH:D->D->Option D:=fun x y=>((wz wo fun i j=>.int (i * j)) x y).or (GL x y)
theorem Bk.mul(C:Bk X N sc k)(ha:DE X a fa)(hb:DE X b fb):DE X (.BinOp a .Mult b pos) (f2 gH fa fb):=zm (Lk.or IY) (pD Fz EW) ha hb
def nz:D->D->Option D:=wz ID fun i j=>.int (i / j)
theorem Bk.div(C:Bk X N sc k)(ha:DE X a fa)(hb:DE X b fb):DE X (.BinOp a .FloorDiv b pos) (f2 nz fa fb):=zm II Fz ha hb
def lM:D->D->Option D:=wz (fun _ j=>0 < j) fun i j=>.int (i % j)
theorem Bk.mod(C:Bk X N sc k)(ha:DE X a fa)(hb:DE X b fb):DE X (.BinOp a .Mod b pos) (f2 lM fa fb):=zm MB Fz ha hb
def MU:D->D->Option D:=wz (fun _ _=>True) fun i j=>.bool (decide (i < j))
def FZ:D->D->Option D:=wz (fun _ _=>True) fun i j=>.bool (decide (i<=j))
def KC:D->D->Option D:=wz (fun _ _=>True) fun i j=>.bool (decide (j < i))
def O5:D->D->Option D:=fun x y=>((wz (fun _ _=>True) fun i j=>.bool (decide (j<=i))) x y).or ((NL x y).map PyData.bool)
def cI:D->D->Option D:=fun x y=>(Ms x y).map PyData.bool
def dD:D->D->Option D:=fun x y=>(LW x y).map PyData.bool
def pk:D->D->Option D:=fun x y=>(OA x y).map PyData.bool
theorem Bk.u64(C:Bk X N sc k):X.A.units+64 < cLine:=C.room.units
theorem Bk.u66(C:Bk X N sc k):X.A.units+66 < cLine:=by have:=C.room.un;omega
theorem Bk.lt(C:Bk X N sc k)(ha:DE X a fa)(hb:DE X b fb):DE X (.Compare a [.Lt] [b] pos) (f2 MU fa fb):=jf Fc g8 ha hb (dE _)
theorem Bk.le(C:Bk X N sc k)(ha:DE X a fa)(hb:DE X b fb):DE X (.Compare a [.LtE] [b] pos) (f2 FZ fa fb):=jf EK g8 ha hb (dE _)
theorem Bk.gt(C:Bk X N sc k)(ha:DE X a fa)(hb:DE X b fb):DE X (.Compare a [.Gt] [b] pos) (f2 KC fa fb):=jf KA g8 ha hb (dE _)
theorem Bk.ge(C:Bk X N sc k)(ha:DE X a fa)(hb:DE X b fb):DE X (.Compare a [.GtE] [b] pos) (f2 O5 fa fb):=jf (Kz.or (GH C.room.units0)) (pD g8 j3) ha hb (dE _)
theorem Bk.eq(C:Bk X N sc k)(ha:DE X a fa)(hb:DE X b fb):DE X (.Compare a [.Eq] [b] pos) (f2 cI fa fb):=jf (Fi C.u64) j3 ha hb (dE _)
theorem Bk.ne(C:Bk X N sc k)(ha:DE X a fa)(hb:DE X b fb):DE X (.Compare a [.NotEq] [b] pos) (f2 dD fa fb):=jf (EN C.u64) j3 ha hb (dE _)
theorem Bk.isin(C:Bk X N sc k)(ha:DE X a fa)(hb:DE X b fb)(hm:behindInMarks .In b=false:=by rfl):DE X (.Compare a [.In] [b] pos) (f2 pk fa fb):=jf (Gp C.u66) j3 ha hb hm
theorem Bk.tlt(C:Bk X N sc k)(ha:DE X a fa)(hb:DE X b fb):DT X (.Compare a [.Lt] [b] pos) (fB (f2 MU fa fb)):=iN Fc g8 ha hb (dE _)
theorem Bk.tle(C:Bk X N sc k)(ha:DE X a fa)(hb:DE X b fb):DT X (.Compare a [.LtE] [b] pos) (fB (f2 FZ fa fb)):=iN EK g8 ha hb (dE _)
theorem Bk.tgt(C:Bk X N sc k)(ha:DE X a fa)(hb:DE X b fb):DT X (.Compare a [.Gt] [b] pos) (fB (f2 KC fa fb)):=iN KA g8 ha hb (dE _)
theorem Bk.tge(C:Bk X N sc k)(ha:DE X a fa)(hb:DE X b fb):DT X (.Compare a [.GtE] [b] pos) (fB (f2 O5 fa fb)):=iN (Kz.or (GH C.room.units0)) (pD g8 j3) ha hb (dE _)
theorem Bk.teq(C:Bk X N sc k)(ha:DE X a fa)(hb:DE X b fb):DT X (.Compare a [.Eq] [b] pos) (fB (f2 cI fa fb)):=iN (Fi C.u64) j3 ha hb (dE _)
theorem Bk.tne(C:Bk X N sc k)(ha:DE X a fa)(hb:DE X b fb):DT X (.Compare a [.NotEq] [b] pos) (fB (f2 dD fa fb)):=iN (EN C.u64) j3 ha hb (dE _)
theorem Bk.tin(C:Bk X N sc k)(ha:DE X a fa)(hb:DE X b fb)(hm:behindInMarks .In b=false:=by rfl):DT X (.Compare a [.In] [b] pos) (fB (f2 pk fa fb)):=iN (Gp C.u66) j3 ha hb hm
def dz:D->Option Int->Option Int->Option D|.tuple ds,lo,hi=>some (.tuple (cut ds lo hi))|.list ds,lo,hi=>some (.list (cut ds lo hi))|_,_,_=>none
theorem Bk.cut(C:Bk X N sc k){lo hi:Option Expr}{fl fh:Env->Option (Option Int)}(ha:DE X a fa)(hl:DO X lo fl)(hh:DO X hi fh):DE X (.Subscript a (.Slice lo hi none p2) pos) (gm dz fa fl fh):=bh (Fs (KQ.or IM) ha hl hh) fun σ H Q ⟨HF,ρ,d,sm,eo,hf,q⟩=>by
 obtain⟨x,hx,hf⟩:=bs hf
 obtain⟨l,hl,hf⟩:=bs hf
 obtain⟨u,hu,hf⟩:=bs hf
 refine⟨HF,ρ,x,sm,eo,hx,fun v1 H1 HF1 g1 r1=>⟨HF1,ρ,l,g1.fh,eo.mono g1.ff,hl,fun H2 HF2 g2=>⟨HF2,ρ,u,g2.fh,eo.mono (g1.ff.trans g2.ff),hu,fun H3 HF3 g3=>?_⟩⟩⟩
 have G:=(g1.trans g2).trans g3
 have r3:=r1.mono (g2.ff.trans g3.ff)
 cases x<;>try cases hf
 ·simp only[Rep] at r3
  obtain⟨b,vs,rfl,hs,rr⟩:=r3
  refine .inr ⟨b,vs,rfl,G.fh.seq hs,fun p hp=>q _ _ _ (G.trans (.new G.fh hp)) ?_⟩
  simp only[Rep]
  exact⟨p,_,rfl,.inl (.inl aI),(qs rr l u).mono (eJ (G.fh.free hp))⟩
 ·simp only[Rep] at r3
  obtain⟨b,vs,rfl,hs,rr⟩:=r3
  refine .inl ⟨b,vs,rfl,aO G.fh hs,fun e=>q _ H3 HF3 G ?_,fun p hp=>q _ _ _ (G.trans (.new G.fh hp)) (eV (G.fh.free hp) (qs rr l u))⟩
  simp only[Rep]
  refine⟨b,vs,rfl,hs,?_⟩
  have:=qs rr l u
  rw[e] at this
  exact this
def FQ:D->Option D|.int i=>some (.int (-i))|_=>none
theorem Bk.neg(C:Bk X N sc k)(ha:DE X a fa):DE X (.UnaryOp .USub a pos) (f1 FQ fa):=bh (Oo MG ha) fun σ H Q ⟨HF,ρ,d,sm,eo,hf,q⟩=>by
 obtain⟨x,hx,hf⟩:=bs hf
 refine⟨HF,ρ,x,sm,eo,hx,fun v1 H1 HF1 g1 r1=>?_⟩
 cases x<;>try cases hf
 exact⟨_,by simpa only[Rep] using r1,q _ H1 HF1 g1 (by simp[Rep])⟩
theorem Ha:bootBuiltins "len"=some (.builtin "len"):=by decide +kernel
theorem rX:bootBuiltins "isinstance"=some (.builtin "isinstance"):=by decide +kernel
theorem FM:bootBuiltins "tuple"=some (.type "tuple"):=by decide +kernel
theorem Jt:bootBuiltins "list"=some (.type "list"):=by decide +kernel
theorem yz:bootBuiltins "range"=some (.type "range"):=by decide +kernel
theorem MN:bootBuiltins "all"=some (.builtin "all"):=by decide +kernel
theorem LM:bootBuiltins "set"=some (.type "set"):=by decide +kernel
theorem nZ:bootBuiltins "sorted"=some (.builtin "sorted"):=by decide +kernel
theorem ux:bootBuiltins "enumerate"=some (.type "enumerate"):=by decide +kernel
theorem Lx:bootBuiltins "zip"=some (.type "zip"):=by decide +kernel
end
abbrev dM(f:Env->Option (List D)):Env->Option D:=fun ρ=>(f ρ).map PyData.list
abbrev bU:List D->Option D:=fun ds=>(dB ds).map PyData.tuple
section
variable {X:Cx}{N:List Str}{sc:Scope}{k:Nat}
theorem Bk.locl(C:Bk X N sc k){x:Str}(h:decide (sc.names.lookup x=some .local)=true):X.env.scope.names.lookup x=some .local:=by
 rcases C.tb x _ (yQ h) with q|⟨q,_⟩
 ·exact q
 ·cases q
def isStar:Expr->Bool|.Starred ..=>true|_=>false
theorem bB{e:Expr}{es:List Expr}{env:PySem.Env}(h:isStar e=false):starEach (e::es) env=(false,eval e env)::starEach es env:=by
 cases e<;>first|rfl|cases h
theorem L9{e:Expr}{es:List Expr}{f:Env->Option D}{g:Env->Option (List D)}(he:DE X e f)(hs:DA X es g)(h:isStar e=false:=by rfl):DA X (e::es) (aa f g):=CJ he hs (bB h)
theorem qd{elt:Expr}{gens:List Comprehension}{scope:Scope}{pos py:Pos}{x:Str}{line:Nat}{env:PySem.Env}:swapsWith (.ListComp elt gens scope pos) (some (.Name x py)) line env=pure (env.blockKind == .function&&env.kindOf x == some .local && py.line == pos.line
     &&!(scope.names.any fun (n,k)=>n == x&&(k == .local || k == .cell))):=rfl
theorem Kv{env:PySem.Env}(h:env.scope.kind=.function):env.blockKind=.function:=by unfold PySem.Env.blockKind;rw[h];rfl
theorem Bk.swap(C:Bk X N sc k){elt:Expr}{gens:List Comprehension}{scope:Scope}{pos py:Pos}{x:Str}{line:Nat}(h:decide (sc.names.lookup x=some .local)=true)(h2:(py.line == pos.line&&!(scope.names.any fun (n,k)=>n == x&&(k == .local || k == .cell)))=true) :
  swapsWith (.ListComp elt gens scope pos) (some (.Name x py)) line X.env=pure true:=by
 rw[qd,Kv C.kd,show X.env.kindOf x=some .local from C.locl h]
 rw[Bool.and_assoc,h2]
 rfl
theorem Bk.noswap(C:Bk X N sc k){elt:Expr}{gens:List Comprehension}{scope:Scope}{pos py:Pos}{x:Str}{line:Nat}(h:decide (sc.names.lookup x=some .cell)=true) :
  swapsWith (.ListComp elt gens scope pos) (some (.Name x py)) line X.env=pure false:=by
 have q:X.env.kindOf x=some .cell:=by
  rcases C.tb x _ (yQ h) with q|⟨q,_⟩
  ·exact q
  ·cases q
 rw[qd,q,Kv C.kd]
 rfl
end
section
variable {K:W.Frag}
structure bj(K:W.Frag)(x:Str)(st:Stmt)(ps:List Str):Prop where
 ex:∃ (f:Addr) (fd:FuncData),W.nsIn K mainGlobals x=some (some (.ref f))/\FO K x x st f fd/\Binds K fd ps []
structure cG(K:W.Frag)(mg:Str->Option Value)(x:Str)(st:Stmt)(ps:List Str):Prop where
 ex:∃ (f:Addr) (fd:FuncData),mg x=some (.ref f)/\FO K x x st f fd/\Binds K fd ps []
theorem bj.mg{h:Heap}{mg:Str->Option Value}{x:Str}{st:Stmt}{ps:List Str}(D:bj K x st ps)(X:K.In h)(G:h.Ns mainGlobals mg):cG K mg x st ps:=by
 obtain⟨f,fd,a,b,c⟩:=D.ex
 exact⟨f,fd,W.mg_of X G a,b,c⟩
def jy(st:Stmt)(ps:List Str):Prop:=∀ (x qual:Str) (kV doc pm:Value) (an:Option Addr) (cdv ct:Value) (us:List Value),us.length=ps.length->bindArgs (W.fnOf x qual (i8 st) (bG st) (aj st) .none kV doc pm an cdv ct) ⟨us,[]⟩=pure (ps.zip us)
theorem NZ{x:Str}{st:Stmt}{ps:List Str}{f:Addr}{oc:Value}{od an:Option Addr}{osl:Array (Option Value)}{kV doc pm cdv ct:Value}(hb:jy st ps)(a:W.nsIn K mainGlobals x=some (some (.ref f)))(l:K.lookup f=some ⟨oc,od,.func (W.fnOf x x (i8 st) (bG st) (aj st) .none kV doc pm an cdv ct),osl⟩)
  (c:W.codeIn K cdv x=true) (k:W.keepIn K (.ref f)=true):bj K x st ps:=⟨f,_,a,EM (st:=st) l c k,(EM (st:=st) l c k).binds fun kV doc pm an cdv ct us h=>hb _ _ kV doc pm an cdv ct us h⟩
structure Km(K:W.Frag)(x:Str)(st:Stmt)(ps:List Str):Prop where
 ex:∃ (f:Addr) (fd:FuncData) (c P:Addr),W.nsIn K mainGlobals x=some (some (.ref f))/\FO K x x st f fd/\Binds K fd ps []/\fd.code=.ref c/\W.codeHdIn K c P=true
structure Pt(K:W.Frag)(mg:Str->Option Value)(x:Str)(st:Stmt)(ps:List Str):Prop where
 ex:∃ (f:Addr) (fd:FuncData) (c P:Addr),mg x=some (.ref f)/\FO K x x st f fd/\Binds K fd ps []/\fd.code=.ref c/\W.codeHdIn K c P=true
theorem Km.mg{h:Heap}{mg:Str->Option Value}{x:Str}{st:Stmt}{ps:List Str}(D:Km K x st ps)(X:K.In h)(G:h.Ns mainGlobals mg):Pt K mg x st ps:=by
 obtain⟨f,fd,c,P,a,b⟩:=D.ex
 exact⟨f,fd,c,P,W.mg_of X G a,b⟩
theorem LJ{K:W.Frag}(h:(cX.all fun x=>match W.nsIn K mainGlobals x with|some none=>true|_=>false)=true):∀x∈cX,W.nsIn K mainGlobals x=some none:=by
 intro x hx
 have:=List.all_eq_true.mp h x hx
 split at this
 ·assumption
 ·cases this
theorem Bs{K:W.Frag}{H:Hp}{a:Addr}{ns:List Int}{m:List D->Option D}(hS:hZ K H a (ns.map V.int))(hT:eN K H)(h:m [.list (ns.map PyData.int)]=some (.bool true)){X:_}:NS K 1 m [.ref a] H (fun v _=>v=.bl true) X:=by
 refine⟨H,[.list (ns.map PyData.int)],.bool true,.refl _,hT,aw.cons ?_ aw.nil,rfl,h,fun v H' HF' G r=>by simpa only[Rep] using r⟩
 simp only[Rep]
 refine⟨a,_,rfl,hS,?_⟩
 clear h hS hT
 induction ns with
 | nil=>exact aw.nil
 | cons n ns ih=>exact aw.cons (by simp[Rep]) ih
end
theorem O2{X:Cx}{e:Expr}{es:List Expr}{f:Env->Option D}{g:Env->Option (List D)}(h:isStar e=false)(he:DE X e f)(hs:DA X es g):DA X (e::es) (aa f g):=L9 he hs h
section
variable {X:Cx}{N:List Str}{sc:Scope}{k:Nat}{HF₀ H₀:Hp}{e c:Expr}{es:List Expr}{fs:Env->Option (List D)}{pos p:Pos}
def KS:aq->Option Out:=fun _=>none
theorem Nz{st:Stmt}:DS X HF₀ H₀ st KS:=fun pins s σ H E I ⟨HF,ρ,o,S,hg,q⟩=>by cases hg
def bH(f:Env->Option D):aq->Option Out:=fun ρ=>(f (aW ρ)).map fun _=>.nx ρ
theorem IB{f:Env->Option D}(hs:swapsWith e none pos.line X.env=pure false)(h:DE X e f):DS X HF₀ H₀ (.Expr e pos) (bH f):=cH (mZ h hs) fun E σ H ⟨HF,ρ,o,S,hg,q⟩=>by
 obtain⟨d,h,rfl⟩:=ag hg
 exact⟨H,aW ρ,d,.refl _,S.all,h,fun v H' HF' G r=>q σ H' HF (S.step G.hh) (.refl _)⟩
def M6(t:Env->Option Bool)(gb:aq->Option Out):Nat->aq->Option Out
 | 0,_=>none
 | n+1,ρ=>(t (aW ρ)).bind fun b=>if b=true then (gb ρ).bind fun|.nx ρ'=>M6 t gb n ρ'|.rt d=>some (.rt d) else some (.nx ρ)
theorem Gi(n:Nat){body:List Stmt}{t:Env->Option Bool}{gb:aq->Option Out}(hp:PassesOwn (model X.prog X.w) X.A X.env X.xe)(hc:DT X c t)(hb:CS X HF₀ H₀ body gb):DS X HF₀ H₀ (.While c body [] pos) (M6 t gb n) :=
 cH (Hx hp hc hb) fun E σ H ⟨HF,ρ,o,S,hg,q⟩=>by
  refine⟨fun m σ' H'=>∃HF' ρ',jr X.K HF₀ H₀ HF' H' ρ' σ'/\aU HF HF'/\M6 t gb m ρ'=some o,⟨n,HF,ρ,S,.refl _,hg⟩,?_⟩
  rintro m σ' H' ⟨HF',ρ',S',s',hf⟩
  cases m with
  | zero=>cases hf
  | succ m =>
   unfold M6 at hf
   obtain⟨b,hb,hf⟩:=bs hf
   refine⟨H',aW ρ',b,.refl _,S'.all,hb,fun H1 HF1 G=>?_⟩
   cases b with
   | false =>
    rw[yN yZ] at hf ⊢
    cases hf
    exact q σ' H1 HF' (S'.step G.hh) s'
   | true =>
    rw[yL rfl] at hf ⊢
    obtain⟨o1,h2,hf⟩:=bs hf
    refine⟨fun σ2 H3=>∃HF3 ρ3,jr X.K HF₀ H₀ HF3 H3 ρ3 σ2/\aU HF HF3/\M6 t gb m ρ3=some o,fun σ2 H3 ⟨HF3,ρ3,a1,a2,a3⟩=>⟨m,kN _,HF3,ρ3,a1,a2,a3⟩,HF',ρ',o1,S'.step G.hh,h2,?_⟩
    cases o1 with
    | nx ρ2=>exact fun σ4 H4 HF4 S4 s4=>⟨HF4,ρ2,S4,s'.trans s4,hf⟩
    | rt d=>cases hf;exact q
def Mv:List D->Option D
 | [.int a,.int b]=>some (.int (min a b))
 | [.int a,.int b,.int c]=>some (.int (min (min a b) c))
 | _=>none
theorem FD(hc:X.calm=true):fJ X (.builtin "min") (fun xs H Q=>(∃a b:Int,xs=[.int a,.int b]/\Q (.int (min a b)) H)\/(∃a b c:Int,xs=[.int a,.int b,.int c]/\Q (.int (min (min a b) c)) H)):=by
 intro pins s σ H xs us Q I r h
 have hh:X.A.handled=none:=I.ok.hd hc
 rcases h with ⟨a,b,rfl,q⟩|⟨a,b,c,rfl,q⟩
 ·cases r with
  | cons r1 r =>
   cases r with
   | cons r2 r =>
    cases r
    obtain⟨t,rfl⟩:=r1
    obtain⟨u,rfl⟩:=r2
    refine min_two_ints hh fun h' tk kp=>⟨.int (min a b),H,I.kept (t':=tk) kp,?_,q⟩
    by_cases h:b < a
    ·rw[yL h,show min a b=b by omega];exact⟨_,rfl⟩
    ·rw[yN h,show min a b=a by omega];exact⟨_,rfl⟩
 ·cases r with
  | cons r1 r =>
   cases r with
   | cons r2 r =>
    cases r with
    | cons r3 r =>
     cases r
     obtain⟨t,rfl⟩:=r1
     obtain⟨u,rfl⟩:=r2
     obtain⟨x,rfl⟩:=r3
     refine min_three_ints hh fun h' tk kp=>⟨.int (min (min a b) c),H,I.kept (t':=tk) kp,?_,q⟩
     by_cases h:b < a
     ·rw[yL h]
      by_cases h2:c < b
      ·rw[yL h2,show min (min a b) c=c by omega];exact⟨_,rfl⟩
      ·rw[yN h2,show min (min a b) c=b by omega];exact⟨_,rfl⟩
     ·rw[yN h]
      by_cases h2:c < a
      ·rw[yL h2,show min (min a b) c=c by omega];exact⟨_,rfl⟩
      ·rw[yN h2,show min (min a b) c=a by omega];exact⟨_,rfl⟩
theorem zw{K:W.Frag}{H:Hp}{d:D}{v:V}(r:Rep K H d v):∀ {ds:List D}{vs:List V}(j:Nat),aw K H ds vs->aw K H (ds.set j d) (vs.set j v)
 | [],vs,j,h=>by rw[h.nil_inv];exact aw.nil
 | x::ds,vs,j,h=>by
  obtain⟨u,us,rfl,a,b⟩:=h.cons_inv
  cases j with
  | zero=>exact aw.cons r b
  | succ j=>exact aw.cons a (zw r j b)
def D3(i:Nat)(fz:List Nat)(fk f:Env->Option D):aq->Option Out:=fun ρ=>(ki fz f ρ).bind fun p=>(fk (aW p.2)).bind fun kd=>match kd with
 | .int k=>oi i (fun ds=>(HH ds.length k).map fun j=>ds.set j p.1) p.2
 | _=>none
theorem GT(i:Nat)(fz:List Nat){x:Str}{e2:Expr}{px spos:Pos}{fk f:Env->Option D}(hN:X.N[i]?=some x)(hv:HX X.env.scope x)(hk:DE X e fk)(h:DE X e2 f)(hd:(x == ("__debug__":Str))=false:=by decide)(hcd:(x == ("__classdict__":Str))=false:=by decide)
  (ha:∀v,assign (.Subscript (.Name x px) e spos) X.env v=(do
   let ov <- holding [v] (eval (.Name x px) X.env)
   let iv <- holding [v,ov] (eval e X.env)
   standAt spos
   holding [v,ov,iv] (setItem ov iv v)
   release [v,ov,iv] []):=by intro _;rfl)
  (hs:swapsWithSole [.Subscript (.Name x px) e spos] e2 pos.line X.env=pure false:=by rfl) (hw:swappedStores [.Subscript (.Name x px) e spos] e2 X.env=pure none:=by rfl)
  (h1:(assignEach [.Subscript (.Name x px) e spos] X.env).map (·.2)=[assign (.Subscript (.Name x px) e spos) X.env]:=by rfl):DS X HF₀ H₀ (.Assign [.Subscript (.Name x px) e spos] e2 pos) (D3 i fz fk f) :=
 cH (Hl h (KJ (k6 hN hv hd hcd) hk set_list ha) hs hw h1) fun E σ H ⟨HF,ρ,o,S,hg,q⟩=>by
  obtain⟨⟨d,ρ'⟩,h1,hg⟩:=bs hg
  obtain⟨kd,h2,hg⟩:=bs hg
  cases kd<;>try cases hg
  rename_i k
  obtain⟨ds,es,h3,h4,rfl⟩:=lx hg
  obtain⟨j,hj,rfl⟩:=ag h4
  refine og S h1 fun v H1 HF1 s1 S1 s2 r=>?_
  obtain⟨a,vs,e1,e2,e3,e5,e4⟩:=S1.own i ds h3
  refine⟨.ref a,e1,H1,aW ρ',.int k,.refl _,S1.all,h2,fun kv H2 HF2 G rk=>?_⟩
  simp only[Rep] at rk
  have S2:=S1.step G.hh
  obtain⟨a',vs',f1,f2,f3,f5,f4⟩:=S2.own i ds h3
  rw[e1] at f1;cases f1
  exact⟨a,vs',k,j,rfl,rk,f2,by rw[f4.length];exact hj,q σ _ HF1 (S2.mut h3 e1 f2 (zw r j f4)) s1⟩
end
section
variable {X:Cx}{N:List Str}{sc:Scope}{k:Nat}{HF₀ H₀:Hp}{a b e c:Expr}{es:List Expr}{fa fb:Env->Option D}{fs:Env->Option (List D)}{pos p:Pos}
def Nc:D->Bool|.none=>true|_=>false
theorem o5{K:W.Frag}{HF:Hp}{d:D}{v:V}(r:Rep K HF d v):decide (v=.non)=Nc d:=by
 cases d<;>simp only[Rep] at r<;>first
  | (subst r;rfl)
  | (obtain⟨a,vs,rfl,_⟩:=r;rfl)
  | exact r.elim
def EE:D->D->Option D:=fun x y=>if Nc y=true then some (.bool (Nc x)) else none
def z7:D->D->Option D:=fun x y=>if Nc y=true then some (.bool (!Nc x)) else none
theorem CI{K:W.Frag}:fS K (fun x y H Q=>y=.non/\Q (.bl (decide (x=.non))) H) EE:=by
 intro HF H x y v1 v2 d Q sm r1 r2 hg q
 unfold EE at hg
 split at hg
 ·rename_i h
  cases hg
  have h2:=o5 r2
  rw[h,zJ] at h2
  refine⟨h2,?_⟩
  rw[o5 r1]
  exact q _ H HF (.refl sm) (by simp[Rep])
 ·cases hg
theorem xl{K:W.Frag}:fS K (fun x y H Q=>y=.non/\Q (.bl (!decide (x=.non))) H) z7:=by
 intro HF H x y v1 v2 d Q sm r1 r2 hg q
 unfold z7 at hg
 split at hg
 ·rename_i h
  cases hg
  have h2:=o5 r2
  rw[h,zJ] at h2
  refine⟨h2,?_⟩
  rw[o5 r1]
  exact q _ H HF (.refl sm) (by simp[Rep])
 ·cases hg
theorem Bk.is0(C:Bk X N sc k)(ha:DE X a fa)(hb:DE X b fb):DE X (.Compare a [.Is] [b] pos) (f2 EE fa fb):=jf Gz CI ha hb (dE _)
theorem Bk.not0(C:Bk X N sc k)(ha:DE X a fa)(hb:DE X b fb):DE X (.Compare a [.IsNot] [b] pos) (f2 z7 fa fb):=jf C7 xl ha hb (dE _)
theorem Bk.tis0(C:Bk X N sc k)(ha:DE X a fa)(hb:DE X b fb):DT X (.Compare a [.Is] [b] pos) (fB (f2 EE fa fb)):=iN Gz CI ha hb (dE _)
theorem Bk.tnot0(C:Bk X N sc k)(ha:DE X a fa)(hb:DE X b fb):DT X (.Compare a [.IsNot] [b] pos) (fB (f2 z7 fa fb)):=iN C7 xl ha hb (dE _)
theorem Li(hc:X.calm=true)(B:oU X "min" (.builtin "min"))(he:starEach (e::es) X.env=(false,eval e X.env)::starEach es X.env)(hpl:(backTo pos (starEach es X.env)).any (·.1)=false)(ha:DA X (e::es) fs):DE X (.Call (.Name "min" p) (e::es) [] pos) (bR Mv fs) :=
 j9 (FD hc) (by
  intro HF H ds vs d Q sm r hg q
  unfold Mv at hg
  split at hg
  ·cases hg
   obtain⟨v1,r1,rfl,a1,b1⟩:=r.cons_inv
   obtain⟨v2,r2,rfl,a2,b2⟩:=b1.cons_inv
   rw[b2.nil_inv]
   simp only[Rep] at a1 a2
   exact .inl ⟨_,_,by rw[a1,a2],q _ H HF (.refl sm) (by simp[Rep])⟩
  ·cases hg
   obtain⟨v1,r1,rfl,a1,b1⟩:=r.cons_inv
   obtain⟨v2,r2,rfl,a2,b2⟩:=b1.cons_inv
   obtain⟨v3,r3,rfl,a3,b3⟩:=b2.cons_inv
   rw[b3.nil_inv]
   simp only[Rep] at a1 a2 a3
   exact .inr ⟨_,_,_,by rw[a1,a2,a3],q _ H HF (.refl sm) (by simp[Rep])⟩
  ·cases hg) B ha (by decide) (by decide) he hpl
end
section
variable {X:Cx}{a b e c:Expr}{es:List Expr}{fa fb:Env->Option D}{fl fs:Env->Option (List D)}{pos p:Pos}
def Cz(ds:List D):D->Option (List D)
 | .int k=>if Ax k=true/\ds.length * k.toNat<=sizeLine then some (List.replicate k.toNat ds).flatten else none
 | _=>none
def oH(fl:Env->Option (List D))(fb:Env->Option D):Env->Option (List D):=fun ρ=>(fl ρ).bind fun ds=>(fb ρ).bind (Cz ds)
theorem L7(ha:DF X a fl)(hb:DE X b fb):DF X (.BinOp a .Mult b pos) (oH fl fb):=bh (CL Lg ha hb) fun σ H Q ⟨HF,ρ,d,sm,eo,hf,q⟩=>by
 obtain⟨ds,hx,hf⟩:=bs hf
 obtain⟨y,hy,hg⟩:=bs hf
 refine⟨HF,ρ,ds,sm,eo,hx,fun l vs H1 HF1 g1 h0 hn h1 r1=>⟨HF1,ρ,y,g1.fh,eo.mono g1.ff,hy,fun v2 H2 HF2 g2 r2=>?_⟩⟩
 cases y<;>try cases hg
 rename_i k
 have hg:(if Ax k=true/\ds.length * k.toNat<=sizeLine then some (List.replicate k.toNat ds).flatten else none)=some d:=hg
 split at hg
 ·rename_i hz
  cases hg
  simp only[Rep] at r2
  have r1:=r1.mono g2.ff
  have G:=g1.trans g2
  have ok:=hz.1
  simp only[Ax,zF,zJ] at ok
  exact⟨l,k,vs,rfl,r2,g2.hh _ _ h1,by omega,by omega,by rw[r1.length];exact hz.2,fun p hp=>q p _ _ HF2 (G.trans (.own G.fh hp)) (G.hh.free hp) (G.fh.free hp) aI (mP r1 _)⟩
 ·cases hg
end
section
variable {X:Cx}{e:Expr}{fs:Env->Option (List D)}{pos p:Pos}
theorem oq(ns:List Int):∀j:Nat,preSum (fun i=>ns.getD i 0) j=(ns.take j).sum
 | 0=>by simp[preSum]
 | j+1=>by
  rw[preSum,oq ns j,wX,List.sum_append]
  congr 1
  rw[zG]
  cases ns[j]?<;>simp
theorem tG(val:Nat->Int)(B:Int)(h:∀i,-B<=val i/\val i<=B):∀j:Nat,-(B * j)<=preSum val j/\preSum val j<=B * j
 | 0=>by simp[preSum]
 | j+1=>by
  have ih:=tG val B h j
  have:=h j
  rw[preSum]
  have e:B * ((j+1:Nat):Int)=B * (j:Int)+B:=by rw[Int.natCast_add,Int.mul_add];simp
  rw[e]
  omega
def KG(ns:List Int):Bool:=decide (ns.length<=1000)&&ns.all fun n=>decide (-1000000<=n)&&decide (n<=1000000)
theorem MX{ns:List Int}(h:KG ns=true):ns.length<=1000/\∀i,-1000000<=ns.getD i 0/\ns.getD i 0<=1000000:=by
 unfold KG at h
 rw[zF,zJ,xG] at h
 refine⟨h.1,fun i=>?_⟩
 rw[zG]
 cases e:ns[i]? with
 | none=>simp
 | some n =>
  have:=h.2 n (qB e)
  simpa using this
theorem o8{ns:List Int}{its:List Value}(r:aM (ns.map V.int) its){i:Nat}{v:Value}(h:its.toArray[i]?=some v):∃t,v=.int (ns.getD i 0) t:=by
 rw[List.getElem?_toArray] at h
 induction ns generalizing its i with
 | nil=>cases r;simp at h
 | cons n ns ih =>
  cases r with
  | cons r1 rr =>
   cases i with
   | zero =>
    simp only[xQ,yK] at h
    subst h
    obtain⟨t,rfl⟩:=r1
    exact⟨t,rfl⟩
   | succ i =>
    simp only[yY] at h
    exact ih rr h
theorem Bo(hc:X.calm=true):fJ X (.builtin "sum") (fun xs H Q=>∃ (a:Addr) (ns:List Int),xs=[.ref a]/\(hZ X.K H a (ns.map V.int)\/iI X.K H a (ns.map V.int))/\KG ns=true/\Q (.int ns.sum) H):=by
 intro pins s σ H xs us Q I r h
 obtain⟨a,ns,rfl,hq,hok,q⟩:=h
 obtain⟨u,rfl,rx⟩:=vals1 r
 cases rx
 have hh:X.A.in1.handled=none:=I.ok.hd hc
 obtain⟨hlen,hbd⟩:=MX hok
 have hin:∀n:Nat,n<=1000->∀j,j < n->InLong ((fun i=>ns.getD i 0) j)/\InLong (preSum (fun i=>ns.getD i 0) (j+1)):=fun n hn j hj=>by
  have h1:=hbd j
  have h2:=tG (fun i=>ns.getD i 0) 1000000 hbd (j+1)
  refine⟨⟨?_,?_⟩,?_,?_⟩
  ·show -(2 ^ 63)<=ns.getD j 0
   omega
  ·show ns.getD j 0 < 2 ^ 63
   omega
  ·omega
  ·omega
 have hsum:preSum (fun i=>ns.getD i 0) ns.length=ns.sum:=by rw[oq,List.take_length]
 rcases hq with hq|hq
 ·obtain⟨its,rv,pl,hz⟩:=I.list hq
  have hl:its.length=ns.length:=by rw[<- rv.length,zD]
  refine call_sum_walk (qK pl.isList ?_)
  obtain⟨o,ho,hcl,n,hd⟩:=pl.isList
  have hlt:=zX ho
  have hne:a≠s.heap.objs.size:=yR hlt
  refine⟨_,_,_,_,_,_,fun i=>ns.getD i 0,rfl,Walks.list hh s.heap.objs.size a hne its.toArray,⟨⟨_,zW _ rfl,rfl,rfl⟩,pl.isList.push _⟩,fun b hb=>?_,fun i v hP=>o8 rv hP,by rw[zH,hl];exact hin _ hlen,fun h' tk t' kp=>?_⟩
  ·show b < (s.heap.push _).objs.size
   rw[xJ]
   simp only[zQ,yE,xU] at hb
   rcases hb with rfl|rfl
   ·exact kN _
   ·exact jN hlt
  ·refine⟨.int ns.sum,H,I.kept (t':=tk) fun b o' e=>kp b o' (by simp;exact yR (zX e)) (zT _ e),⟨t',?_⟩,q⟩
   rw[zH,hl,hsum]
 ·obtain⟨its,rv,pl,hz⟩:=I.tuple hq
  have pl:s.heap.IsTuple a its.toArray:=pl
  have hl:its.length=ns.length:=by rw[<- rv.length,zD]
  refine call_sum_walk (xR pl ?_)
  obtain⟨o,ho,hcl,n,hd⟩:=id pl
  have hlt:=zX ho
  have hne:a≠s.heap.objs.size:=yR hlt
  refine⟨_,_,_,_,_,_,fun i=>ns.getD i 0,rfl,Walks.tuple hh s.heap.objs.size a hne its.toArray,⟨⟨_,zW _ rfl,rfl,rfl⟩,pl.push _⟩,fun b hb=>?_,fun i v hP=>o8 rv hP,by rw[zH,hl];exact hin _ hlen,fun h' tk t' kp=>?_⟩
  ·show b < (s.heap.push _).objs.size
   rw[xJ]
   simp only[zQ,yE,xU] at hb
   rcases hb with rfl|rfl
   ·exact kN _
   ·exact jN hlt
  ·refine⟨.int ns.sum,H,I.kept (t':=tk) fun b o' e=>kp b o' (by simp;exact yR (zX e)) (zT _ e),⟨t',?_⟩,q⟩
   rw[zH,hl,hsum]
end
section
variable {X:Cx}{e:Expr}{fs:Env->Option (List D)}{pos p:Pos}
def N1:List D->Option D:=fun ds=>(dB ds).bind fun es=>(intsOf es).bind fun ns=>if KG ns=true then some (.int ns.sum) else none
theorem lj{K:W.Frag}{H:Hp}:∀ {ns:List Int}{vs:List V},aw K H (ns.map PyData.int) vs->vs=ns.map V.int
 | [],vs,h=>h.nil_inv
 | b::bs,vs,h=>by
  obtain⟨v,r,rfl,a,c⟩:=h.cons_inv
  simp only[Rep] at a
  rw[a,lj c]
  rfl
theorem MK(hc:X.calm=true)(B:oU X "sum" (.builtin "sum"))(he:starEach [e] X.env=(false,eval e X.env)::starEach [] X.env)(ha:DA X [e] fs):DE X (.Call (.Name "sum" p) [e] [] pos) (bR N1 fs) :=
 j9 (Bo hc) (by
  intro HF H ds vs d Q sm r hg q
  obtain⟨es,h1,hg⟩:=bs hg
  obtain⟨ns,h2,hg⟩:=bs hg
  have hg:(if KG ns=true then some (PyData.int ns.sum) else none)=some d:=hg
  split at hg
  ·rename_i hok
   cases hg
   have e2:=dU h2
   subst e2
   rcases gP h1 with rfl|rfl
   all_goals
    obtain⟨v,r',rfl,a,b⟩:=r.cons_inv
    rw[b.nil_inv]
    simp only[Rep] at a
    obtain⟨p,us,rfl,h,rr⟩:=a
    have:=lj rr
    subst this
   ·exact⟨p,ns,rfl,.inr (aO sm h),hok,q _ H HF (.refl sm) (by simp[Rep])⟩
   ·exact⟨p,ns,rfl,.inl (sm.seq h),hok,q _ H HF (.refl sm) (by simp[Rep])⟩
  ·cases hg) B ha (by decide) (by decide) he rfl
end
section
variable {X:Cx}
def MZ(i:Int):Value->Bool|.int a _=>a == i|_=>false
theorem Dx:LR X "list.index" (fun x vs H Q=>∃ (l:Addr) (ns:List Int) (i:Int) (j:Nat),x=.ref l/\vs=[.int i]/\hZ X.K H l (ns.map V.int)/\ns[j]?=some i/\(∀m,m < j->ns[m]?≠some i)/\Q (.int j) H):=by
 intro pins s σ H x vs v us Q I rx rv h
 obtain⟨l,ns,i,j,rfl,rfl,hq,hj,hno,q⟩:=h
 cases rx
 obtain⟨u,rfl,ru⟩:=rv.one
 obtain⟨t,rfl⟩:=ru
 obtain⟨its,r,pl,hz⟩:=I.list hq
 obtain⟨⟨cls,dd,data,sl⟩,ho,hc,n,hd⟩:=id pl.isList
 simp only at hc hd
 subst hc hd
 have hl:its.length=ns.length:=by rw[<- r.length,zD]
 have hj1:j < ns.length:=(List.getElem?_eq_some_iff.mp hj).1
 have hz':ns.length<=sizeLine:=by rw[zD] at hz;exact hz
 have hs63:(sizeLine:Nat) < 2 ^ 62:=by decide
 have at_:∀m (hm:m < its.toArray.size),∃t',its.toArray[m]=.int (ns.getD m 0) t':=fun m hm=>o8 r (jY hm)
 refine qX F.slot_list_index ⟨_,ho,rfl⟩ F.entry_list_index (F.args_list_index_2 _ _) (PySem.SeqAt.list_indexAt l its.toArray n dd sl (.int i t) (MZ i) j (by rw[zH,hl];exact hj1) (by omega) ?_ ?_) ⟨ho,?_,?_⟩
 ·obtain⟨t',e⟩:=at_ j (by rw[zH,hl];exact hj1)
  rw[e,MZ,zG,hj]
  simp
 ·intro m hm hmj
  obtain⟨t',e⟩:=at_ m hm
  have hm':m < ns.length:=by omega
  have:=hno m hmj
  rw[e,MZ,zG]
  rw[zK hm'] at this ⊢
  simp only[qG,beq_eq_false_iff_ne]
  exact fun h=>this (by rw[h])
 ·intro y hy
  obtain⟨m,hm,rfl⟩:=Array.getElem_of_mem hy
  obtain⟨t',e⟩:=at_ m hm
  rw[e]
  exact PySem.SeqAt.EqAt.int_int _ _ _ _
 ·exact⟨.int j,H,I.tok _,⟨_,rfl⟩,q⟩
def xj(i:Int):List Int->Option Nat
 | []=>none
 | n::ns=>if n=i then some 0 else (xj i ns).map (·+1)
theorem nO{i:Int}:∀ {ns:List Int}{j:Nat},xj i ns=some j->ns[j]?=some i/\∀m,m < j->ns[m]?≠some i
 | [],j,h=>by cases h
 | n::ns,j,h=>by
  unfold xj at h
  split at h
  ·cases h
   rename_i e
   exact⟨by rw[e];rfl,fun m hm=>absurd hm (vR _)⟩
  ·rename_i e
   obtain⟨k,hk,rfl⟩:=ag h
   obtain⟨a,b⟩:=nO hk
   refine⟨by simpa using a,fun m hm=>?_⟩
   cases m with
   | zero=>simpa using e
   | succ m=>simpa using b m (by omega)
def O4:D->D->Option D
 | .list es,.int i=>(intsOf es).bind fun ns=>(xj i ns).map fun j=>.int ((j:Nat):Int)
 | _,_=>none
theorem E5{o e:Expr}{apos cpos:Pos}{fo fe:Env->Option D}(hbase:attributeBase o "index" X.env (eval o X.env)=eval o X.env)
  (hfew:((backTo cpos (starEach [e] X.env)).all (fun x=>!x.1)&&(backToKw cpos (keywordEach [] X.env)).all (fun x=>x.1.isSome)&&decide ([e].length+([]:List Keyword).length+(if ([]:List Keyword).isEmpty then 0 else 1) < 30))=true)
  (hline:(apos.endLine == cpos.line)=true) (hs:starEach [e] X.env=(false,eval e X.env)::starEach [] X.env) (ho:DE X o fo) (he:DE X e fe):DE X (.Call (.Attribute o "index" apos) [e] [] cpos) (f2 O4 fo fe) :=
 bh (rF qN PySem.F.slot_list_index PySem.F.type_list_index Dx ho (cn he eZ hs) hbase hfew hline hs rfl) fun σ H Q ⟨HF,ρ,d,sm,eo,hf,q⟩=>by
  obtain⟨x,hx,hf⟩:=bs hf
  obtain⟨y,hy,hg⟩:=bs hf
  refine⟨HF,ρ,x,sm,eo,hx,fun v1 H1 HF1 g1 r1=>?_⟩
  cases x<;>try cases hg
  cases y<;>try cases hg
  rename_i es i
  obtain⟨ns,h1,hg⟩:=bs hg
  obtain⟨j,h2,rfl⟩:=ag hg
  have e1:=dU h1
  subst e1
  simp only[Rep] at r1
  obtain⟨l,us,rfl,hq,rr⟩:=r1
  have:=lj rr
  subst this
  refine⟨.inl ⟨rfl,_,g1.fh.seq hq⟩,HF1,ρ,.int i,g1.fh,eo.mono g1.ff,hy,fun v2 H2 HF2 g2 r2=>?_⟩
  simp only[Rep] at r2
  obtain⟨a,b⟩:=nO h2
  exact⟨l,ns,i,j,rfl,by rw[r2],g2.fh.seq (g2.ff.seq hq),a,b,q _ H2 HF2 (g1.trans g2) (by simp[Rep])⟩
end
end Dl
namespace Tx
open PySem PySem.SeqAt PyProof.Rows
open PySem.AutoSeq1 (wpAny_loadPart')
open PySem.MeetsSeq PySem.MeetsSeq2 PySem.MeetsSeq3
theorem wpR{M:Model}{A:Around}{E:Value->Shared->Prop}{s:Shared}{β:Type}(f:Nat->β->Sem (ForInStep β))(I:List Nat->β->Shared->Prop)(Q:β->Shared->Prop)
  (turn:∀x rest b s,I (x::rest) b s->wpAny M A (f x b) (fun r s'=>match r with|.yield b'=>I rest b' s'|.done b'=>Q b' s') E s)
  (fin:∀b s,I [] b s->Q b s) (n:Nat) (b:β) (h:I (List.range' 0 n 1) b s):wpAny M A (forIn [:n] b f) Q E s:=by
 have e:forIn [:n] b f=forIn (List.range' 0 n 1) b f:=by
  rw[Std.Legacy.Range.forIn_eq_forIn_range']
  simp[Std.Legacy.Range.size]
 rw[e]
 exact wpAny_forIn_list f I Q turn fin _ b h
theorem tuple_indexAt(l:Addr)(items:Array Value)(n:Nat)(dd:Option Addr)(sl:Array (Option Value))(x:Value)(e:Value->Bool)(j:Nat)(hj:j < items.size)(h1:e items[j]=true)(h2:∀m (hm:m < items.size),m < j->e items[m]=false) :
  Meets (Builtin.«tuple.index» ⟨[.ref l,x],[]⟩)
   (fun A R s=>s.heap.get? l=some { cls:=.type "tuple",dict:=dd,data:=.seq items n,slots:=sl }/\(∀y,y∈items->EqAt A.in1 s y x (e y))/\R (.ok (.ret (.int (j:Nat) s.toks))) { s with toks:=s.toks+1 }) :=
 .of_wp fun prog w A R s h=>by
  obtain⟨hp,g,d,tk,os⟩:=s;obtain⟨hl,he,h⟩:=h
  wp_walk using wpAny_loadPart' hl,wpR _ (fun rest b s'=>s'=⟨hp,g,d,tk,os⟩/\b.1=none/\∃i,i<=j/\rest=List.range' i (items.size - i) 1) _
  case turn =>
   rintro i rest b s' ⟨rfl,hb,i',hi,e1⟩
   have hlt:i' < items.size:=by omega
   rw[show items.size - i'=(items.size - (i'+1))+1 by omega,vI] at e1
   injection e1 with e2 e3
   subst e2
   subst e3
   simp only[jY hlt]
   refine zU (he _ (Array.getElem_mem hlt) prog w _ _ ?_)
   by_cases hij:i=j
   ·subst hij
    rw[h1]
    wp_walk
    exact⟨_,rfl,h⟩
   ·rw[h2 i hlt (by omega)]
    wp_walk
    exact⟨rfl,rfl,i+1,by omega,rfl⟩
  case fin =>
   rintro b s' ⟨rfl,hb,i,hi,e1⟩
   have:=jC List.length e1
   simp at this
   omega
  case h =>
   exact⟨rfl,rfl,0,xV _,by simp⟩
end Tx
namespace Dl
open PySem L2 PySem.Spec PyProof.Rows
section
variable {X:Cx}
theorem Ed:LR X "tuple.index" (fun x vs H Q=>∃ (l:Addr) (ns:List Int) (i:Int) (j:Nat),x=.ref l/\vs=[.int i]/\iI X.K H l (ns.map V.int)/\ns[j]?=some i/\(∀m,m < j->ns[m]?≠some i)/\Q (.int j) H):=by
 intro pins s σ H x vs v us Q I rx rv h
 obtain⟨l,ns,i,j,rfl,rfl,hq,hj,hno,q⟩:=h
 cases rx
 obtain⟨u,rfl,ru⟩:=rv.one
 obtain⟨t,rfl⟩:=ru
 obtain⟨its,r,pl,hz⟩:=I.tuple hq
 obtain⟨⟨cls,dd,data,sl⟩,ho,hc,n,hd⟩:=id pl
 simp only at hc hd
 subst hc hd
 have hl:its.length=ns.length:=by rw[<- r.length,zD]
 have hj1:j < ns.length:=(List.getElem?_eq_some_iff.mp hj).1
 have at_:∀m (hm:m < its.toArray.size),∃t',its.toArray[m]=.int (ns.getD m 0) t':=fun m hm=>o8 r (jY hm)
 refine qX F.slot_tuple_index ⟨_,ho,rfl⟩ F.entry_tuple_index (F.args_tuple_index_2 _ _) (Tx.tuple_indexAt l its.toArray n dd sl (.int i t) (MZ i) j (by rw[zH,hl];exact hj1) ?_ ?_) ⟨ho,?_,?_⟩
 ·obtain⟨t',e⟩:=at_ j (by rw[zH,hl];exact hj1)
  rw[e,MZ,zG,hj]
  simp
 ·intro m hm hmj
  obtain⟨t',e⟩:=at_ m hm
  have hm':m < ns.length:=by
   rw[zH] at hm
   omega
  have:=hno m hmj
  rw[e,MZ,zG]
  rw[zK hm'] at this ⊢
  simp only[qG,beq_eq_false_iff_ne]
  exact fun h=>this (by rw[h])
 ·intro y hy
  obtain⟨m,hm,rfl⟩:=Array.getElem_of_mem hy
  obtain⟨t',e⟩:=at_ m hm
  rw[e]
  exact PySem.SeqAt.EqAt.int_int _ _ _ _
 ·exact⟨.int j,H,I.tok _,⟨_,rfl⟩,q⟩
theorem Gm{e:Expr}{t u:TE}(h:PE X e t)(g:PE X e u):PE X e (fun σ H Q=>t σ H Q\/u σ H Q):=fun pins s σ H Q I q=>q.elim (h pins s σ H Q I) (g pins s σ H Q I)
def uJ:D->D->Option D
 | .list es,.int i=>(intsOf es).bind fun ns=>(xj i ns).map fun j=>.int ((j:Nat):Int)
 | .tuple es,.int i=>(intsOf es).bind fun ns=>(xj i ns).map fun j=>.int ((j:Nat):Int)
 | _,_=>none
theorem De{o e:Expr}{apos cpos:Pos}{fo fe:Env->Option D}(hbase:attributeBase o "index" X.env (eval o X.env)=eval o X.env)
  (hfew:((backTo cpos (starEach [e] X.env)).all (fun x=>!x.1)&&(backToKw cpos (keywordEach [] X.env)).all (fun x=>x.1.isSome)&&decide ([e].length+([]:List Keyword).length+(if ([]:List Keyword).isEmpty then 0 else 1) < 30))=true)
  (hline:(apos.endLine == cpos.line)=true) (hs:starEach [e] X.env=(false,eval e X.env)::starEach [] X.env) (ho:DE X o fo) (he:DE X e fe):DE X (.Call (.Attribute o "index" apos) [e] [] cpos) (f2 uJ fo fe) :=
 bh (Gm (E5 hbase hfew hline hs ho he) (rF PySem.F.plainAttrs_tuple PySem.F.slot_tuple_index PySem.F.type_tuple_index Ed ho (cn he eZ hs) hbase hfew hline hs rfl)) fun σ H Q ⟨HF,ρ,d,sm,eo,hf,q⟩=>by
  obtain⟨x,hx,hf⟩:=bs hf
  obtain⟨y,hy,hg⟩:=bs hf
  cases x<;>try cases hg
  ·cases y<;>try cases hg
   rename_i es i
   exact .inl ⟨HF,ρ,d,sm,eo,by simp only[f2,hx,hy,zA];exact hg,q⟩
  ·cases y<;>try cases hg
   rename_i es i
   obtain⟨ns,h1,hg⟩:=bs hg
   obtain⟨j,h2,rfl⟩:=ag hg
   have e1:=dU h1
   subst e1
   refine .inr ⟨HF,ρ,_,sm,eo,hx,fun v1 H1 HF1 g1 r1=>?_⟩
   simp only[Rep] at r1
   obtain⟨l,us,rfl,hq,rr⟩:=r1
   have:=lj rr
   subst this
   refine⟨?_,HF1,ρ,.int i,g1.fh,eo.mono g1.ff,hy,fun v2 H2 HF2 g2 r2=>?_⟩
   ·first|exact .inr (.inl ⟨rfl,_,aO g1.fh hq⟩)|exact .inl ⟨rfl,_,aO g1.fh hq⟩|exact .inr ⟨rfl,_,aO g1.fh hq⟩
   ·simp only[Rep] at r2
    obtain⟨a,b⟩:=nO h2
    exact⟨l,ns,i,j,rfl,by rw[r2],aO g2.fh (aO g2.ff hq),a,b,q _ H2 HF2 (g1.trans g2) (by simp[Rep])⟩
end
end Dl
namespace Zp
open PySem PyProof.Rows
def IsI(b:Bool)(h:Heap)(it l:Addr)(k:Nat):Prop:=match b with|true=>h.IsTupleIter it l k|false=>h.IsListIter it l k
def IsS(b:Bool)(h:Heap)(l:Addr)(xs:Array Value):Prop:=match b with|true=>h.IsTuple l xs|false=>h.IsList l xs
theorem IsI.obj{b:Bool}{h:Heap}{it l:Addr}{k:Nat}(x:IsI b h it l k):∃o,h.get? it=some o/\∀v,o.data≠.cell v:=by
 cases b
 ·obtain⟨o,e,_,d⟩:=(show h.IsListIter it l k from x);exact⟨o,e,fun v q=>by rw[d] at q;cases q⟩
 ·obtain⟨o,e,_,d⟩:=(show h.IsTupleIter it l k from x);exact⟨o,e,fun v q=>by rw[d] at q;cases q⟩
theorem IsI.at{b:Bool}{h h':Heap}{it l:Addr}{k:Nat}(x:IsI b h it l k)(e:∀o,h.get? it=some o->h'.get? it=some o):IsI b h' it l k:=by
 cases b
 ·exact Heap.IsListIter.at x e
 ·exact Heap.IsTupleIter.at x e
theorem IsI.extBut{b:Bool}{h h':Heap}{a it l:Addr}{k:Nat}(x:IsI b h it l k)(e:Heap.ExtBut a h h')(n:it≠a):IsI b h' it l k:=x.at fun o q=>e it o n q
theorem IsS.at{b:Bool}{h h':Heap}{l:Addr}{xs:Array Value}(x:IsS b h l xs)(e:∀o,h.get? l=some o->h'.get? l=some o):IsS b h' l xs:=by
 cases b
 ·obtain⟨o,q,r⟩:=(show h.IsList l xs from x);exact⟨o,e o q,r⟩
 ·obtain⟨o,q,r⟩:=(show h.IsTuple l xs from x);exact⟨o,e o q,r⟩
theorem IsS.extBut{b:Bool}{h h':Heap}{a l:Addr}{xs:Array Value}(x:IsS b h l xs)(e:Heap.ExtBut a h h')(n:l≠a):IsS b h' l xs:=x.at fun o q=>e l o n q
section
variable {prog:Program}{w:World}{A:Around}{E:Value->Shared->Prop}{s:Shared}
theorem nxt{b:Bool}{j t:Addr}{k:Nat}{its:Array Value}{v:Value}{Q:Value->Shared->Prop}(hj:IsI b s.heap j t k)(ht:IsS b s.heap t its)(hv:its[k]?=some v)
  (hQ:∀g,IsI b g j t (k+1)->Heap.SameBut j s.heap g->Q v { s with heap:=g }):wpAny (model prog w) A (Builtin.SmallTypes.nextOf (.ref j)) Q E s:=by
 cases b
 ·exact wpAny_nextOf_list_item hj ht hv hQ
 ·exact En.nextT_item hj ht hv hQ
theorem nxtE{b:Bool}{j t:Addr}{k:Nat}{its:Array Value}{Q:Value->Shared->Prop}(hh:A.handled=none)(hj:IsI b s.heap j t k)(ht:IsS b s.heap t its)(hv:its[k]?=none)
  (hE:∀g x,Heap.ExtBut j s.heap g->(∃o,g.get? x=some o/\o.cls=.type "StopIteration")->E (.ref x) { s with heap:=g }):wpAny (model prog w) A (Builtin.SmallTypes.nextOf (.ref j)) Q E s:=by
 cases b
 ·exact wpAny_nextOf_list_end hh hj ht hv hE
 ·exact En.nextT_end hh hj ht hv hE
structure ZS(b₁ b₂:Bool)(h₀ h:Heap)(z TI TO i j l m:Addr)(xs ys:Array Value)(f:Value)(p q:Nat)(a b:Value):Prop where
 zo:IsZip h z TI TO f
 ti:IsPair h TI (.ref i) (.ref j)
 to:IsPair h TO a b
 wi:IsI b₁ h i l p
 wj:IsI b₂ h j m q
 sl:IsS b₁ h l xs
 sm:IsS b₂ h m ys
 kp:∀c o,c≠z->c≠TO->c≠i->c≠j->h₀.get? c=some o->h.get? c=some o
 sz:h.objs.size=h₀.objs.size
section
variable {b₁ b₂:Bool}{h₀ h g:Heap}{z TI TO i j l m:Addr}{xs ys:Array Value}{f f':Value}{p q:Nat}{a b x y:Value}
theorem ZS.fl(Z:ZS b₁ b₂ h₀ h z TI TO i j l m xs ys f p q a b)(D:ZipApart z TI TO i j l m)(e:IsZip g z TI TO f')(t:Heap.SameBut z h g):ZS b₁ b₂ h₀ g z TI TO i j l m xs ys f' p q a b :=
 ⟨e,t.extBut _ _ D.TIz Z.ti,t.extBut _ _ D.TOz Z.to,Z.wi.extBut t.extBut D.i1z,Z.wj.extBut t.extBut D.i2z,Z.sl.extBut t.extBut D.l1z,Z.sm.extBut t.extBut D.l2z,fun c o n1 n2 n3 n4 r=>t.extBut _ _ n1 (Z.kp c o n1 n2 n3 n4 r),t.1.trans Z.sz⟩
theorem ZS.fst(Z:ZS b₁ b₂ h₀ h z TI TO i j l m xs ys f p q a b)(D:ZipApart z TI TO i j l m)(e:IsI b₁ g i l (p+1))(t:Heap.SameBut i h g):ZS b₁ b₂ h₀ g z TI TO i j l m xs ys f (p+1) q a b :=
 ⟨t.extBut _ _ D.i1z.symm Z.zo,t.extBut _ _ D.TIi1 Z.ti,t.extBut _ _ D.TOi1 Z.to,e,Z.wj.extBut t.extBut D.i12.symm,Z.sl.extBut t.extBut D.l1i1,Z.sm.extBut t.extBut D.l2i1,fun c o n1 n2 n3 n4 r=>t.extBut _ _ n3 (Z.kp c o n1 n2 n3 n4 r),t.1.trans Z.sz⟩
theorem ZS.snd(Z:ZS b₁ b₂ h₀ h z TI TO i j l m xs ys f p q a b)(D:ZipApart z TI TO i j l m)(e:IsI b₂ g j m (q+1))(t:Heap.SameBut j h g):ZS b₁ b₂ h₀ g z TI TO i j l m xs ys f p (q+1) a b :=
 ⟨t.extBut _ _ D.i2z.symm Z.zo,t.extBut _ _ D.TIi2 Z.ti,t.extBut _ _ D.TOi2 Z.to,Z.wi.extBut t.extBut D.i12,e,Z.sl.extBut t.extBut D.l1i2,Z.sm.extBut t.extBut D.l2i2,fun c o n1 n2 n3 n4 r=>t.extBut _ _ n4 (Z.kp c o n1 n2 n3 n4 r),t.1.trans Z.sz⟩
theorem ZS.put(Z:ZS b₁ b₂ h₀ h z TI TO i j l m xs ys f p q a b)(D:ZipApart z TI TO i j l m)(e:IsPair g TO x y)(t:Heap.SameBut TO h g):ZS b₁ b₂ h₀ g z TI TO i j l m xs ys f p q x y :=
 ⟨t.extBut _ _ D.TOz.symm Z.zo,t.extBut _ _ D.TITO Z.ti,e,Z.wi.extBut t.extBut D.TOi1.symm,Z.wj.extBut t.extBut D.TOi2.symm,Z.sl.extBut t.extBut D.l1TO,Z.sm.extBut t.extBut D.l2TO,fun c o n1 n2 n3 n4 r=>t.extBut _ _ n2 (Z.kp c o n1 n2 n3 n4 r),t.1.trans Z.sz⟩
end
variable {b₁ b₂:Bool}{z TI TO i j l m:Addr}{xs ys:Array Value}{p q:Nat}{a b:Value}
theorem zipN{Q:Value->Shared->Prop}(hn:A.handled=none)(D:ZipApart z TI TO i j l m)(Z:ZS b₁ b₂ s.heap s.heap z TI TO i j l m xs ys .none p q a b)
  (item:∀x y g g',xs[p]?=some x->ys[q]?=some y->ZS b₁ b₂ s.heap g z TI TO i j l m xs ys .ellipsis (p+1) (q+1) x y->IsZip g' z TI TO (rawInt g.objs.size) ->
   Heap.SameBut z (g.push { cls:=.type "tuple",data:=.seq #[x,y] }) g'->Q (.ref g.objs.size) { s with heap:=g' })
  (over:(xs[p]?=none\/ys[q]?=none)->∀g e,(∀c o,c≠z->c≠TO->c≠i->c≠j->s.heap.get? c=some o->g.get? c=some o)->(∃o,g.get? e=some o/\o.cls=.type "StopIteration")->E (.ref e) { s with heap:=g }) :
  wpAny (model prog w) A (Builtin.«zip.__next__» ⟨[.ref z],[]⟩) (fun r s'=>∃v,r=.done (.ret v)/\Q v s') E s:=by
 have stop:∀ {g1 g2:Heap}{e:Addr}{c:Addr}{p' q':Nat}{a' b':Value},ZS b₁ b₂ s.heap g1 z TI TO i j l m xs ys .ellipsis p' q' a' b'->(c=i\/c=j)->(xs[p]?=none\/ys[q]?=none)->Heap.ExtBut c g1 g2 ->
   (∃o,g2.get? e=some o/\o.cls=.type "StopIteration")->wpAny (model prog w) A (setField (.ref z) 0 Value.none) (fun _ t=>E (.ref e) t) E { s with heap:=g2 }:=by
  intro g1 g2 e c p' q' a' b' Y hc hv k ⟨o,ho,ht⟩
  have cz:z≠c:=hc.elim (fun e=>e ▸ D.i1z.symm) fun e=>e ▸ D.i2z.symm
  have Yz:IsZip g2 z TI TO .ellipsis:=k _ _ cz Y.zo
  refine kZ Yz (by simp) fun g3 _ t=>over hv g3 e (fun d u n1 n2 n3 n4 r=>t.extBut _ _ n1 (k _ _ ?_ (Y.kp d u n1 n2 n3 n4 r))) ⟨o,t.extBut _ _ ?_ ho,ht⟩
  ·exact hc.elim (fun e=>e ▸ n3) fun e=>e ▸ n4
  ·rintro rfl;rw[Yz] at ho;cases ho;simp at ht
 show wpAny _ _ (field (.ref z) 2 >>= _) _ _ _
 refine zU (qT Z.zo rfl (x:=.bool false) rfl (zU (qT Z.zo rfl (x:=.ref TI) rfl (zU (kG Z.ti rfl (zU (m:=Builtin.SmallTypes.ownedTupleIsFree _) ?_))))))
 refine zU (qT Z.zo rfl (x:=.none) rfl (zV ?_))
 rw[yL rfl]
 refine zU (wH (zU (qT Z.zo rfl (x:=.ref TO) rfl (zU (kZ Z.zo (by simp) fun g1 e1 t1=>?_)))))
 have Z1:=Z.fl D (f':=.ellipsis) e1 t1
 refine zU ?_
 simp only[List.zipIdx_cons,List.zipIdx_nil,List.forIn_cons,List.forIn_nil]
 refine zU (zU (wpAny_onRaise (zU (m:=Builtin.SmallTypes.nextOf _) ?_)))
 cases hx:xs[p]? with
 | none=>exact nxtE hn Z1.wi Z1.sl hx fun g2 e k o=>stop Z1 (.inl rfl) (.inl hx) k o
 | some x =>
 refine nxt Z1.wi Z1.sl hx fun g2 e2 t2=>zV ?_
 have Z2:=Z1.fst D e2 t2
 refine zU (kG Z2.to rfl (zU (wpAny_updateSeq_pair Z2.to fun g3 e3 t3=>zU (wpAny_letGo (zV ?_)))))
 have Z3:=Z2.put D (x:=x) (y:=b) e3 t3
 refine zU (zU (wpAny_onRaise (zU (m:=Builtin.SmallTypes.nextOf _) ?_)))
 cases hy:ys[q]? with
 | none=>exact nxtE hn Z3.wj Z3.sm hy fun g4 e k o=>stop Z3 (.inr rfl) (.inr hy) k o
 | some y =>
 refine nxt Z3.wj Z3.sm hy fun g4 e4 t4=>zV ?_
 have Z4:=Z3.snd D e4 t4
 refine zU (kG Z4.to rfl (zU (wpAny_updateSeq_pair Z4.to fun g5 e5 t5=>zU (wpAny_letGo (zV (zV ?_))))))
 have Z5:=Z4.put D (x:=x) (y:=y) e5 t5
 refine zU (kG Z5.to rfl (zU (wpAny_newTuple (zU (m:=Builtin.SmallTypes.ownedTupleHandOut _ _) ?_))))
 refine zU (kZ (zT _ Z5.zo) (by simp) fun g6 e6 t6=>kZ e6 (by simp) fun g7 e7 t7=>zV ⟨_,rfl,?_⟩)
 exact item x y g5 g7 hx hy Z5 e7 (t6.trans t7)
theorem nextZ{x y:Value}{Q:Option Value->Shared->Prop}(hn:A.handled=none)(D:ZipApart z TI TO i j l m)
  (qz:IsZip s.heap z TI TO .none) (qI:IsPair s.heap TI (.ref i) (.ref j)) (qO:IsPair s.heap TO a b)
  (p1:IsI b₁ s.heap i l p) (p2:IsI b₂ s.heap j m q) (r1:IsS b₁ s.heap l xs) (r2:IsS b₂ s.heap m ys) (ex:xs[p]?=some x) (ey:ys[q]?=some y)
  (kQ:∀g,IsZip g z TI TO (rawInt s.heap.objs.size)->IsPair g TO x y->IsI b₁ g i l (p+1)->IsI b₂ g j m (q+1)->IsPair g s.heap.objs.size x y->g.objs.size=s.heap.objs.size+1 ->
   (∀c o,c≠z->c≠TO->c≠i->c≠j->s.heap.get? c=some o->g.get? c=some o)->Q (some (.ref s.heap.objs.size)) { s with heap:=g }) :
  wpAny (model prog w) A (pyNext (.ref z)) Q E s:=by
 have ty:s.TypeIs (.ref z) "zip":=⟨_,qz,rfl⟩
 have Z:ZS b₁ b₂ s.heap s.heap z TI TO i j l m xs ys .none p q a b:=⟨qz,qI,qO,p1,p2,r1,r2,fun _ _ _ _ _ _ e=>e,rfl⟩
 refine zU (kP (qC (name:=Str.ofString "__next__") ty vV (qV vV ty F.entry_zip_next (zipN hn D Z ?_ ?_) (F.args_zip_next_1 _))))
 ·intro x' y' g g' hx hy Y ez t
  rw[ex] at hx;rw[ey] at hy;cases hx;cases hy
  rw[Y.sz] at ez ⊢
  have lt:=zX Y.zo
  have up:∀c o,c≠z->g.get? c=some o->g'.get? c=some o:=fun c o n e=>t.extBut _ _ n (zT _ e)
  refine zV (kQ g' ez (up _ _ D.TOz Y.to) (Y.wi.at fun o e=>up _ _ D.i1z e) (Y.wj.at fun o e=>up _ _ D.i2z e) ?_ (by rw[t.1,xJ,Y.sz]) fun c o n1 n2 n3 n4 e=>up c o n1 (Y.kp c o n1 n2 n3 n4 e))
  rw[<- Y.sz]
  exact t.extBut _ _ (jI lt) (zW _ rfl)
 ·intro no
  rw[ex,ey] at no
  rcases no with no|no<;>cases no
theorem nextZE{Q:Option Value->Shared->Prop}(hn:A.handled=none)(D:ZipApart z TI TO i j l m)
  (qz:IsZip s.heap z TI TO .none) (qI:IsPair s.heap TI (.ref i) (.ref j)) (qO:IsPair s.heap TO a b)
  (p1:IsI b₁ s.heap i l p) (p2:IsI b₂ s.heap j m q) (r1:IsS b₁ s.heap l xs) (r2:IsS b₂ s.heap m ys) (ends:xs[p]?=none\/ys[q]?=none)
  (kQ:∀g,(∀c o,c≠z->c≠TO->c≠i->c≠j->s.heap.get? c=some o->g.get? c=some o)->Q none { s with heap:=g }):wpAny (model prog w) A (pyNext (.ref z)) Q E s:=by
 have ty:s.TypeIs (.ref z) "zip":=⟨_,qz,rfl⟩
 have Z:ZS b₁ b₂ s.heap s.heap z TI TO i j l m xs ys .none p q a b:=⟨qz,qI,qO,p1,p2,r1,r2,fun _ _ _ _ _ _ e=>e,rfl⟩
 refine zU (kP (qC (name:=Str.ofString "__next__") ty vV (qV vV ty F.entry_zip_next (zipN hn D Z ?_ ?_) (F.args_zip_next_1 _))))
 ·intro x y g g' hx hy
  rw[hx,hy] at ends
  rcases ends with no|no<;>cases no
 ·rintro _ g e kp ⟨o,ho,ht⟩
  exact zU (wpAny_isInstance (T:="StopIteration") (b:=true) ⟨o,ho,ht⟩ isSubtype_stop (zV (kQ _ kp)))
end
abbrev itO(b:Bool)(l:Addr):Obj:={ cls:=.type (if b then "tuple_iterator" else "list_iterator"),data:=.fields #[.ref l,.int 0 0] }
abbrev z1(b:Bool)(h:Heap)(l:Addr):Heap:=h.push (itO b l)
abbrev z2(b c:Bool)(h:Heap)(l m:Addr):Heap:=(z1 b h l).push (itO c m)
abbrev z3(b c:Bool)(h:Heap)(l m:Addr):Heap:=(z2 b c h l m).push { cls:=.type "tuple",data:=.seq #[.ref h.objs.size,.ref (z1 b h l).objs.size] }
abbrev z4(b c:Bool)(h:Heap)(l m:Addr):Heap:=(z3 b c h l m).push { cls:=.type "tuple",data:=.seq #[.none,.none] }
abbrev z5(b c:Bool)(h:Heap)(l m:Addr):Heap:=(z4 b c h l m).push { cls:=.type "zip",data:=.fields #[.none,.bool false,.bool false,.ref (z2 b c h l m).objs.size,.ref (z3 b c h l m).objs.size] }
theorem IsS.push{b:Bool}{h:Heap}{l:Addr}{xs:Array Value}(x:IsS b h l xs)(o:Obj):IsS b (h.push o) l xs:=x.at fun o' e=>zT _ e
theorem new_zip(b c:Bool)(l m:Addr)(xs ys:Array Value):Meets (Builtin.«zip.__new__» ⟨[.type "zip",.ref l,.ref m],[]⟩) (fun _ R s=>IsS b s.heap l xs/\IsS c s.heap m ys/\R (.ok (.ret (.ref (z4 b c s.heap l m).objs.size))) { s with heap:=z5 b c s.heap l m }) :=
 .of_wp fun prog w A R s h=>by
  obtain⟨hp,g,d,tk,os⟩:=s;obtain⟨q1,q2,h⟩:=h
  have hsub:=sub_zip
  cases b<;>cases c
  ·have L1:Heap.IsList (Shared.heap ⟨hp,g,d,tk,os⟩) l xs:=q1
   have L2:Heap.IsList (Shared.heap ⟨hp.push { cls:=.type "list_iterator",data:=.fields #[.ref l,.int 0 0] },g,d,tk,os⟩) m ys:=IsS.push (b:=false) q2 _
   wp_walk using qK L1,qK L2
   exact⟨_,rfl,h⟩
  ·have L1:Heap.IsList (Shared.heap ⟨hp,g,d,tk,os⟩) l xs:=q1
   have L2:Heap.IsTuple (Shared.heap ⟨hp.push { cls:=.type "list_iterator",data:=.fields #[.ref l,.int 0 0] },g,d,tk,os⟩) m ys:=IsS.push (b:=true) q2 _
   wp_walk using qK L1,xR L2
   exact⟨_,rfl,h⟩
  ·have L1:Heap.IsTuple (Shared.heap ⟨hp,g,d,tk,os⟩) l xs:=q1
   have L2:Heap.IsList (Shared.heap ⟨hp.push { cls:=.type "tuple_iterator",data:=.fields #[.ref l,.int 0 0] },g,d,tk,os⟩) m ys:=IsS.push (b:=false) q2 _
   wp_walk using xR L1,qK L2
   exact⟨_,rfl,h⟩
  ·have L1:Heap.IsTuple (Shared.heap ⟨hp,g,d,tk,os⟩) l xs:=q1
   have L2:Heap.IsTuple (Shared.heap ⟨hp.push { cls:=.type "tuple_iterator",data:=.fields #[.ref l,.int 0 0] },g,d,tk,os⟩) m ys:=IsS.push (b:=true) q2 _
   wp_walk using xR L1,xR L2
   exact⟨_,rfl,h⟩
section
variable {prog:Program}{w:World}{A:Around}{E:Value->Shared->Prop}{s:Shared}
theorem isI_new{b:Bool}{h:Heap}{it l:Addr}(e:h.get? it=some (itO b l)):IsI b h it l 0:=by
 cases b
 ·exact⟨_,e,rfl,rfl⟩
 ·exact⟨_,e,rfl,rfl⟩
theorem call_zip{b c:Bool}{l m:Addr}{xs ys:Array Value}{Q:Value->Shared->Prop}(q1:IsS b s.heap l xs)(q2:IsS c s.heap m ys)
  (h:∀g,IsZip g (s.heap.objs.size+4) (s.heap.objs.size+2) (s.heap.objs.size+3) .none->IsPair g (s.heap.objs.size+2) (.ref s.heap.objs.size) (.ref (s.heap.objs.size+1))->IsPair g (s.heap.objs.size+3) .none .none ->
   IsI b g s.heap.objs.size l 0->IsI c g (s.heap.objs.size+1) m 0->(∀a o,s.heap.get? a=some o->g.get? a=some o)->Q (.ref (s.heap.objs.size+4)) { s with heap:=g }) :
  wpAny (model prog w) A (call (.type "zip") [.ref l,.ref m]) Q E s:=by
 refine callType_new F.called_zip (by decide) (F.typeCall_zip_2 _ _) (F.newCall_zip_2 _ _) (fun obj=>F.args_object_init_3 obj _ _) F.entry_zip_new (new_zip b c l m xs ys) ⟨q1,q2,?_⟩
 have n1:(z1 b s.heap l).objs.size=s.heap.objs.size+1:=xJ ..
 have n2:(z2 b c s.heap l m).objs.size=s.heap.objs.size+2:=by rw[xJ,n1]
 have n3:(z3 b c s.heap l m).objs.size=s.heap.objs.size+3:=by rw[xJ,n2]
 have n4:(z4 b c s.heap l m).objs.size=s.heap.objs.size+4:=by rw[xJ,n3]
 have g5:(z5 b c s.heap l m).get? (z4 b c s.heap l m).objs.size=some _:=zW _ rfl
 have g4:(z5 b c s.heap l m).get? (z3 b c s.heap l m).objs.size=some _:=zT _ (zW _ rfl)
 have g3:(z5 b c s.heap l m).get? (z2 b c s.heap l m).objs.size=some _:=zT _ (zT _ (zW _ rfl))
 have g2:(z5 b c s.heap l m).get? (z1 b s.heap l).objs.size=some (itO c m):=zT _ (zT _ (zT _ (zW _ rfl)))
 have g1:(z5 b c s.heap l m).get? s.heap.objs.size=some (itO b l):=zT _ (zT _ (zT _ (zT _ (zW _ rfl))))
 show _/\_
 rw[n2,n3,n4] at g5
 rw[n1,n2] at g3
 rw[n3] at g4
 rw[n1] at g2
 rw[n4]
 exact⟨⟨_,g5,rfl⟩,h _ g5 g3 g4 (isI_new g1) (isI_new g2) fun a o x=>zT _ (zT _ (zT _ (zT _ (zT _ x))))⟩
end
end Zp
namespace Dl
open PySem L2 PySem.Spec PyProof.Rows Zp
def sP(K:W.Frag)(b:Bool)(a:Addr)(H:Hp)(xs:List V):Prop:=match b with|true=>iI K H a xs|false=>hZ K H a xs
section
variable {X:Cx}{pins:List (Addr×Obj)}{σ:L2.St}{H:Hp}{s:Shared}{b:Bool}{a:Addr}{xs ys:List V}
theorem sP.src(I:Inv X pins σ H s)(h:sP X.K b a H xs):∃its:List Value,aM xs its/\IsS b s.heap a its.toArray/\xs.length<=sizeLine:=by
 cases b
 ·obtain⟨its,rv,pl,hz⟩:=I.list (show hZ X.K H a xs from h);exact⟨its,rv,pl.isList,hz⟩
 ·obtain⟨its,rv,pl,hz⟩:=I.tuple (show iI X.K H a xs from h);exact⟨its,rv,pl,hz⟩
theorem sP.ne(I:Inv X pins σ H s){c:Addr}(hf:cq X pins H c)(h:sP X.K b a H xs):a≠c:=by
 cases b
 ·exact LN I hf h
 ·exact Ml I hf h
theorem sP.inj(I:Inv X pins σ H s)(h:sP X.K b a H xs)(h':sP X.K b a H ys):xs=ys:=by
 cases b
 ·exact I.list_inj h h'
 ·exact I.tuple_inj h h'
theorem sP.mono{K:W.Frag}{H H':Hp}(e:aU H H')(h:sP K b a H xs):sP K b a H' xs:=by
 cases b
 ·exact e.seq h
 ·exact aO e h
end
theorem Er{P:Program}{w:World}{K:W.Frag}{elts:List Expr}{k:Nat}{pos:Pos}(b c:Bool)(l1 l2 z TI TO i1 i2:Addr)(Z:QS z TI TO i1 i2) :
  Turn P w K (.Tuple elts k pos) (Qf (sP K b l1) (sP K c l2)) [z,TI,TO,i1,i2] z (fun i h=>IsZip h z TI TO .none/\IsPair h TI (.ref i1) (.ref i2)/\(∃a b,IsPair h TO a b)/\IsI b h i1 l1 i/\IsI c h i2 l2 i) where
 mem:=by simp
 obj:=fun i h st d hd=>by
  obtain⟨hz,hTI,⟨a,b',hTO⟩,p1,p2⟩:=st
  simp only[zQ,yE,xU] at hd
  rcases hd with rfl|rfl|rfl|rfl|rfl
  ·exact⟨_,hz,fun v q=>by have q:Data.fields _=Data.cell v:=q;cases q⟩
  ·exact⟨_,hTI,fun v q=>by have q:Data.seq _ _=Data.cell v:=q;cases q⟩
  ·exact⟨_,hTO,fun v q=>by have q:Data.seq _ _=Data.cell v:=q;cases q⟩
  ·exact p1.obj
  ·exact p2.obj
 keep:=fun i h h' st kk=>by
  obtain⟨hz,hTI,⟨a,b',hTO⟩,h1,h2⟩:=st
  exact⟨kk z (by simp) _ hz,kk TI (by simp) _ hTI,⟨a,b',kk TO (by simp) _ hTO⟩,h1.at fun o q=>kk i1 (by simp) o q,h2.at fun o q=>kk i2 (by simp) o q⟩
 item:=by
  intro X hP hw hK hc i pins s σ H E I hf st hg
  subst hP hw hK
  obtain⟨xs,ys,x,y,hq1,hq2,hx,hy⟩:=hg
  obtain⟨its1,rv1,p1,hz1⟩:=hq1.src I
  obtain⟨its2,rv2,p2,hz2⟩:=hq2.src I
  obtain⟨u1,hu1,ru1⟩:=rv1.get hx
  obtain⟨u2,hu2,ru2⟩:=rv2.get hy
  have D:ZipApart z TI TO i1 i2 l1 l2:=⟨Z.a1,Z.a2,Z.a3,Z.a4,Z.a5,Z.a6,Z.a7,Z.a8,Z.a9,Z.a0,hq1.ne I (hf z (by simp)),hq1.ne I (hf TO (by simp)),hq1.ne I (hf i1 (by simp)),hq1.ne I (hf i2 (by simp)),hq2.ne I (hf z (by simp)),hq2.ne I (hf TO (by simp)),hq2.ne I (hf i1 (by simp)),hq2.ne I (hf i2 (by simp))⟩
  obtain⟨hz,hTI,⟨a,b',hTO⟩,h1,h2⟩:=st
  refine nextZ (I.ok.hd hc) D hz hTI hTO h1 h2 p1 p2 (x:=u1) (y:=u2) (by simpa using hu1) (by simpa using hu2) fun g b1 b2 b3 b4 b5 b6 hk=>⟨.ref s.heap.objs.size,rfl,?_⟩
  have lt:∀ {c:Addr}{o:Obj},s.heap.get? c=some o->s.heap.objs.size≠c:=fun e=>jI (zX e)
  refine wpAny_letOwnedTupleGo_zip (s:={ s with heap:=g }) b1 fun g' hz' hs'=>?_
  have b5':g'.get? s.heap.objs.size=some { cls:=.type "tuple",data:=.seq #[u1,u2] }:=hs'.extBut _ _ (lt hz) b5
  have ht:pC g' s.heap.objs.size (List.toArray [u1,u2]):=⟨⟨_,b5',rfl,_,rfl⟩,_,b5',rfl⟩
  refine⟨.ref s.heap.objs.size,_,ze (ch:=[z,TI,TO,i1,i2]) (xs:=[x,y]) (t':=s.toks) I hf (fun b o hb q=>?_) (yM _) ht (.cons ru1 (.cons ru2 .nil)) (by show 2<=sizeLine;decide),rfl,
   ⟨s.heap.objs.size,x,y,rfl,I.fresh,rfl,fun zs hzs=>by rw[hzs.inj I hq1];exact hx,fun zs hzs=>by rw[hzs.inj I hq2];exact hy⟩,
   ⟨hz',hs'.extBut _ _ Z.a1 (hk _ _ D.TIz D.TITO D.TIi1 D.TIi2 hTI),⟨_,_,hs'.extBut _ _ Z.a2 b2⟩,b3.extBut hs'.extBut Z.a3,b4.extBut hs'.extBut Z.a4⟩,fun b hb=>?_⟩
  ·simp only[zQ,yE,xU,not_or] at hb
   exact hs'.extBut _ _ hb.1 (hk b o hb.1 hb.2.2.1 hb.2.2.2.1 hb.2.2.2.2 q)
  ·have:s.heap.objs.size≠b:=by
    simp only[zQ,yE,xU] at hb
    obtain⟨o1,g1,_⟩:=h1.obj
    obtain⟨o2,g2,_⟩:=h2.obj
    rcases hb with rfl|rfl|rfl|rfl|rfl
    ·exact lt hz
    ·exact lt hTI
    ·exact lt hTO
    ·exact lt g1
    ·exact lt g2
   rw[aG (jM this)]
   exact (hf b hb).1
 done:=by
  intro X hP hw hK hc i pins s σ H E I hf st hg
  subst hP hw hK
  obtain⟨xs,ys,hq1,hq2,hx⟩:=hg
  obtain⟨its1,rv1,p1,hz1⟩:=hq1.src I
  obtain⟨its2,rv2,p2,hz2⟩:=hq2.src I
  have D:ZipApart z TI TO i1 i2 l1 l2:=⟨Z.a1,Z.a2,Z.a3,Z.a4,Z.a5,Z.a6,Z.a7,Z.a8,Z.a9,Z.a0,hq1.ne I (hf z (by simp)),hq1.ne I (hf TO (by simp)),hq1.ne I (hf i1 (by simp)),hq1.ne I (hf i2 (by simp)),hq2.ne I (hf z (by simp)),hq2.ne I (hf TO (by simp)),hq2.ne I (hf i1 (by simp)),hq2.ne I (hf i2 (by simp))⟩
  obtain⟨hz,hTI,⟨a,b',hTO⟩,h1,h2⟩:=st
  have e1:=rv1.length
  have e2:=rv2.length
  refine nextZE (I.ok.hd hc) D hz hTI hTO h1 h2 p1 p2 (hx.elim (fun q=>.inl (by simp;omega)) fun q=>.inr (by simp;omega)) fun g hk=>⟨rfl,?_⟩
  refine DR (ch:=[z,TI,TO,i1,i2]) (t':=s.toks) I hf fun b o hb q=>?_
  simp only[zQ,yE,xU,not_or] at hb
  exact hk b o hb.1 hb.2.2.1 hb.2.2.2.1 hb.2.2.2.2 q
 self:=fun _ _ _ _ _ st h=>wpAny_pyIter_zip st.1 h
section
variable {X:Cx}{l l':Expr}{fs:Env->Option (List D)}{elts:List Expr}{k:Nat}{pos p tp:Pos}
theorem HR{tl:TA}(B:oU X "zip" (.type "zip"))(ha:PA X [l,l'] tl)(hs:starEach [l,l'] X.env=(false,eval l X.env)::starEach [l'] X.env)(hs2:(backTo pos (starEach [l'] X.env)).any (·.1)=false) :
  PI X (.Tuple elts k tp) (.Call (.Name "zip" p) [l,l'] [] pos) (fun σ H R=>tl σ H fun vs H1=>∃a b,vs=[.ref a,.ref b]/\∃c d xs ys,sP X.K c a H1 xs/\sP X.K d b H1 ys/\R (Qf (sP X.K c a) (sP X.K d b)) H1):=by
 intro pins s σ H R I h
 refine Call_ (gn I B.gl B.mg B.bt (qS (cw (ha pos pins s σ H _ I h) fun us s1 ⟨vs,H1,I1,r1,q1⟩=>?_) hs hs2))
 obtain⟨a,b,e,c,d,xs,ys,hq1,hq2,q⟩:=q1
 subst e
 obtain⟨u,u',rfl,rx,ry⟩:=vals2 r1
 cases rx
 cases ry
 obtain⟨its,rv,pl,hz⟩:=hq1.src I1
 obtain⟨its',rv',pl',hz'⟩:=hq2.src I1
 refine call_zip pl pl' fun g b1 b2 b3 b4 b5 kp=>wpAny_pyIter_zip (s:={ s1 with heap:=g }) b1 ?_
 refine⟨_,_,_,_,H1,rfl,I1.kept (t':=s1.toks) kp,Er c d a b (s1.heap.objs.size+4) (s1.heap.objs.size+2) (s1.heap.objs.size+3) s1.heap.objs.size (s1.heap.objs.size+1) ?_,⟨b1,b2,⟨_,_,b3⟩,b4,b5⟩,fun c hc=>?_,q⟩
 ·constructor<;>(intro z;have z:(_:Nat)=_:=z;omega)
 ·have hge:s1.heap.objs.size<=c:=by
   simp only[zQ,yE,xU] at hc
   rcases hc with rfl|rfl|rfl|rfl|rfl
   ·exact jU _ _
   ·exact jU _ _
   ·exact jU _ _
   ·exact yM _
   ·exact jU _ _
  exact I1.fpOk hge (I1.hok.fresh hge)
def N9:List D->Option (List D):=fun ds=>match ds with
 | [x,y]=>(iG x).bind fun xs=>(iG y).map fun ys=>oW xs ys
 | _=>none
theorem A9{K:W.Frag}{HF:Hp}{d:D}{v:V}{xs:List D}(h:iG d=some xs)(r:Rep K HF d v):∃b a vs,v=.ref a/\sP K b a HF vs/\aw K HF xs vs:=by
 rcases mn h with rfl|rfl
 ·simp only[Rep] at r
  obtain⟨a,vs,rfl,q,rr⟩:=r
  exact⟨true,a,vs,rfl,q,rr⟩
 ·simp only[Rep] at r
  obtain⟨a,vs,rfl,q,rr⟩:=r
  exact⟨false,a,vs,rfl,q,rr⟩
def Ks(fs:Env->Option (List D)):Env->Option (List D):=fun ρ=>(fs ρ).bind N9
theorem JR(B:oU X "zip" (.type "zip"))(hs:starEach [l,l'] X.env=(false,eval l X.env)::starEach [l'] X.env)(hs2:(backTo pos (starEach [l'] X.env)).any (·.1)=false)(h:DA X [l,l'] fs) :
  DI X (.Tuple elts k tp) (.Call (.Name "zip" p) [l,l'] [] pos) (Ks fs) :=
 um (HR B h hs hs2) fun σ H R ⟨HF,ρ,ds,sm,eo,hf,q⟩=>by
  obtain⟨x,hx,hf⟩:=bs hf
  refine⟨HF,ρ,_,sm,eo,hx,fun vs H1 HF1 g1 r1=>?_⟩
  unfold N9 at hf
  split at hf
  ·obtain⟨xs,h1,hf⟩:=bs hf
   obtain⟨ys,h2,rfl⟩:=ag hf
   obtain⟨v,r',rfl,a,b⟩:=r1.cons_inv
   obtain⟨v',r'',rfl,a',b'⟩:=b.cons_inv
   rw[b'.nil_inv]
   obtain⟨c,ad,us,rfl,hq,rr⟩:=A9 h1 a
   obtain⟨c',ad',us',rfl,hq',rr'⟩:=A9 h2 a'
   exact⟨ad,ad',rfl,c,c',us,us',hq.mono g1.fh,hq'.mono g1.fh,q _ H1 HF1 g1 (GU hq (fun _ _ s h=>h.mono s) hq' (fun _ _ s h=>h.mono s) rr rr')⟩
  ·cases hf
end
end Dl
namespace Zp
open PySem PyProof.Rows
theorem IsI.ne{b:Bool}{h:Heap}{it l:Addr}{k:Nat}{xs:Array Value}(x:IsI b h it l k)(y:IsS b h l xs):l≠it:=by
 rintro rfl
 cases b
 ·obtain⟨o,e,c,d⟩:=(show h.IsListIter l l k from x)
  obtain⟨o',e',r⟩:=(show h.IsList l xs from y)
  rw[e] at e';cases e'
  simp_all
 ·obtain⟨o,e,c,d⟩:=(show h.IsTupleIter l l k from x)
  obtain⟨o',e',r⟩:=(show h.IsTuple l xs from y)
  rw[e] at e';cases e'
  simp_all
section
variable {prog:Program}{w:World}{A:Around}{E:Value->Shared->Prop}{s:Shared}
theorem drawsI(hn:A.handled=none)(b:Bool)(it l:Addr)(xs:Array Value):Draws prog w A it [it,l] xs.size (fun i x=>xs[i]?=some x) (fun i h=>IsI b h it l i/\IsS b h l xs) where
 live:=fun i h st=>let ⟨o,e,_⟩:=st.1.obj;⟨o,e⟩
 frame:=fun i h h' st k=>⟨st.1.at (k it (by simp)),st.2.at (k l (by simp))⟩
 item:=fun i s Q E hi st hQ=>nxt st.1 st.2 (v:=xs[i]) (by simp[hi]) fun g e t=>hQ _ g s.toks (by simp[hi]) ⟨e,st.2.extBut t.extBut (st.1.ne st.2)⟩ t
 done:=fun s Q E st hE=>nxtE hn st.1 st.2 (by simp) hE
theorem nextE{b₁:Bool}{e it l:Addr}{i:Nat}{items:Array Value}{x old:Value}{Q:Option Value->Shared->Prop}(hn:A.handled=none)
  (qe:IsEnum s.heap e it i old) (qi:IsI b₁ s.heap it l i) (ql:IsS b₁ s.heap l items) (ex:items[i]?=some x) (nei:e≠it)
  (kQ:∀g tk,IsEnumOut g e it ((i:Int)+1) x s.heap.objs.size->IsI b₁ g it l (i+1)->g.get? s.heap.objs.size=some { cls:=.type "tuple",data:=.seq #[.int i tk,x] } ->
   g.objs.size=s.heap.objs.size+1->(∀c o,c≠e->c≠it->s.heap.get? c=some o->g.get? c=some o)->Q (some (.ref s.heap.objs.size)) { s with heap:=g,toks:=tk+1 }) :
  wpAny (model prog w) A (pyNext (.ref e)) Q E s:=by
 have nel:e≠l:=by
  rintro rfl
  cases b₁
  ·obtain⟨o,e1,r⟩:=(show s.heap.IsList e items from ql)
   rw[qe] at e1;cases e1;simp at r
  ·obtain⟨o,e1,r⟩:=(show s.heap.IsTuple e items from ql)
   rw[qe] at e1;cases e1;simp at r
 have D:Draws prog w A.in1 it [it,l] items.size (fun i x=>items[i]?=some x) (fun i h=>IsI b₁ h it l i/\IsS b₁ h l items):=drawsI (A:=A.in1) hn b₁ it l items
 refine wpAny_pyNext_enum_itemD D qe ⟨qi,ql⟩ (Array.getElem?_eq_some_iff.mp ex).1 nei (by simp[nei,nel]) fun y g tk hy a b c d k=>?_
 rw[ex] at hy;cases hy
 exact kQ g tk a b.1 c d k
end
end Zp
namespace Dl
open PySem L2 PySem.Spec PyProof.Rows Zp
theorem rg{P:Program}{w:World}{K:W.Frag}{elts:List Expr}{k:Nat}{pos:Pos}(b:Bool)(a it e:Addr)(hei:e≠it):Turn P w K (.Tuple elts k pos) (Qa (sP K b a)) [e,it] e (fun i h=>(∃old,IsEnum h e it i old)/\IsI b h it a i) where
 mem:=by simp
 obj:=fun i h st c hc=>by
  obtain⟨⟨old,he⟩,hi⟩:=st
  rcases List.mem_cons.mp hc with z|z
  ·subst z;exact⟨_,he,fun v q=>by have q:Data.fields _=Data.cell v:=q;cases q⟩
  ·rw[List.mem_singleton.mp z];exact hi.obj
 keep:=fun i h h' st kk=>⟨let ⟨old,he⟩:=st.1;⟨old,kk e (by simp) _ he⟩,st.2.at fun o q=>kk it (by simp) o q⟩
 item:=by
  intro X hP hw hK hc i pins s σ H E I hf st hg
  subst hP hw hK
  obtain⟨xs,x,hq,hx⟩:=hg
  obtain⟨its,rv,p,hz⟩:=hq.src I
  obtain⟨u,hu,ru⟩:=rv.get hx
  obtain⟨⟨old,he⟩,hi⟩:=st
  refine nextE (I.ok.hd hc) he hi p (x:=u) (by simpa using hu) hei fun g tk b1 b2 b3 b4 hk=>⟨.ref s.heap.objs.size,rfl,?_⟩
  have lt:∀ {c:Addr}{o:Obj},s.heap.get? c=some o->s.heap.objs.size≠c:=fun e=>jI (zX e)
  have hte:s.heap.objs.size≠e:=lt he
  refine wpAny_letOwnedTupleGo_enum (s:={ s with heap:=g,toks:=tk+1 }) b1 fun g' he' hs'=>?_
  have b3':g'.get? s.heap.objs.size=some { cls:=.type "tuple",data:=.seq #[.int i tk,u] }:=hs'.extBut _ _ hte b3
  have ht:pC g' s.heap.objs.size (List.toArray [Value.int (i:Nat) tk,u]):=⟨⟨_,b3',rfl,_,rfl⟩,_,b3',rfl⟩
  refine⟨.ref s.heap.objs.size,_,ze (ch:=[e,it]) (xs:=[.int (i:Nat),x]) (t':=tk+1) I hf (fun c o hb q=>?_) (yM _) ht (.cons ⟨_,rfl⟩ (.cons ru .nil)) (by show 2<=sizeLine;decide),rfl,
   ⟨s.heap.objs.size,x,rfl,I.fresh,rfl,fun zs hzs=>by rw[hzs.inj I hq];exact hx⟩,⟨⟨_,he'⟩,b2.extBut hs'.extBut (jM hei)⟩,fun c hc'=>?_⟩
  ·simp only[zQ,yE,xU,not_or] at hb
   exact hs'.extBut _ _ hb.1 (hk c o hb.1 hb.2 q)
  ·have:s.heap.objs.size≠c:=by
    simp only[zQ,yE,xU] at hc'
    obtain⟨o1,g1,_⟩:=hi.obj
    rcases hc' with rfl|rfl
    ·exact lt he
    ·exact lt g1
   rw[aG (jM this)]
   exact (hf c hc').1
 done:=by
  intro X hP hw hK hc i pins s σ H E I hf st hg
  subst hP hw hK
  obtain⟨xs,hq,hx⟩:=hg
  obtain⟨its,rv,p,hz⟩:=hq.src I
  have hh:X.A.in1.handled=none:=I.ok.hd hc
  have hl:=rv.length
  obtain⟨⟨old,he⟩,hi⟩:=st
  have hT:s.TypeIs (.ref e) "enumerate":=⟨_,he,rfl⟩
  unfold pyNext
  refine zU (kP (qC (name:=Str.ofString "__next__") hT F.slot_enumerate_next (qV F.slot_enumerate_next hT F.entry_enumerate_next ?_ (F.args_enumerate_next_1 _))))
  refine zU (m:=field (.ref e) 2) (qT he rfl (x:=.ref it) rfl ?_)
  refine zU (nxtE hh hi p (by simp;omega) fun h1 x k1 hx1=>?_)
  obtain⟨o,ho,hc1⟩:=hx1
  refine zU (wpAny_isInstance (T:="StopIteration") (b:=true) ⟨o,ho,hc1⟩ isSubtype_stop (zV ⟨rfl,?_⟩))
  obtain⟨f0,f1,f2,f3,f4,f5⟩:=hf it (by simp)
  exact I.turned (t':=s.toks) (fun b o hb q=>k1 b o hb q) f0 f1 f3 f4 f5
 self:=fun _ _ _ _ _ st h=>let ⟨_,he⟩:=st.1;wW he h
section
variable {X:Cx}{l:Expr}{f:Env->Option D}{fs:Env->Option (List D)}{elts:List Expr}{k:Nat}{pos p tp:Pos}
theorem Ik{tl:TA}(B:oU X "enumerate" (.type "enumerate"))(ha:PA X [l] tl)(hs:starEach [l] X.env=[(false,eval l X.env)]):PI X (.Tuple elts k tp) (.Call (.Name "enumerate" p) [l] [] pos) (fun σ H R=>tl σ H fun vs H1=>∃a,vs=[.ref a]/\∃b xs,sP X.K b a H1 xs/\R (Qa (sP X.K b a)) H1):=by
 intro pins s σ H R I h
 refine Call_ (gn I B.gl B.mg B.bt (qS (cw (ha pos pins s σ H _ I h) fun us s1 ⟨vs,H1,I1,r1,q1⟩=>?_) hs rfl))
 obtain⟨a,e,b,xs,hq,q⟩:=q1
 subst e
 obtain⟨u,rfl,rx⟩:=vals1 r1
 cases rx
 have fresh:∀b∈[s1.heap.objs.size+1,s1.heap.objs.size],cq X pins H1 b:=fun b hb=>by
  rcases List.mem_cons.mp hb with z|z
  ·subst z;exact I1.fpOk (Nat.le_succ _) (I1.hok.fresh (Nat.le_succ _))
  ·cases List.mem_singleton.mp z;exact I1.fpOk (yM _) I1.fresh
 obtain⟨its,rv,pl,hz⟩:=hq.src I1
 cases b with
 | false =>
  refine call_enumerate_list pl fun h' he hit hsz kp=>wW (s:={ s1 with heap:=h' }) he ?_
  exact⟨_,_,_,_,H1,rfl,I1.kept (t':=s1.toks) kp,rg false a s1.heap.objs.size (s1.heap.objs.size+1) (Nat.succ_ne_self _),⟨⟨_,he⟩,hit⟩,fresh,q⟩
 | true =>
  refine En.call_enumT (show s1.heap.IsTuple a its.toArray from pl) fun h' he hit hsz kp=>wW (s:={ s1 with heap:=h' }) he ?_
  exact⟨_,_,_,_,H1,rfl,I1.kept (t':=s1.toks) kp,rg true a s1.heap.objs.size (s1.heap.objs.size+1) (Nat.succ_ne_self _),⟨⟨_,he⟩,hit⟩,fresh,q⟩
def dA(fs:Env->Option (List D)):Env->Option (List D):=fun ρ=>(fs ρ).bind fun ds=>(dB ds).map (cB 0)
theorem IH(B:oU X "enumerate" (.type "enumerate"))(h:DA X [l] fs)(hs:starEach [l] X.env=[(false,eval l X.env)]):DI X (.Tuple elts k tp) (.Call (.Name "enumerate" p) [l] [] pos) (dA fs) :=
 um (Ik B h hs) fun σ H R ⟨HF,ρ,ds,sm,eo,hf,q⟩=>by
  obtain⟨x,hx,hf⟩:=bs hf
  obtain⟨es,h1,rfl⟩:=ag hf
  obtain⟨d,h0,h1⟩:=bs h1
  rw[iY h0] at hx
  refine⟨HF,ρ,_,sm,eo,hx,fun vs H1 HF1 g1 r1=>?_⟩
  obtain⟨v,r',rfl,a,b⟩:=r1.cons_inv
  rw[b.nil_inv]
  obtain⟨c,ad,us,rfl,hq,rr⟩:=A9 h1 a
  exact⟨ad,rfl,c,us,hq.mono g1.fh,q _ H1 HF1 g1 (Ee hq (fun _ _ s h=>h.mono s) rr)⟩
end
end Dl
namespace Srt
open PySem PySem.W PySem.Calls PyProof.Rows L2
theorem cq.at{X:Cx}{pins:List (Addr×Obj)}{H H':Hp}{b:Addr}(h:cq X pins H b)(e:H' b=none):cq X pins H' b:=⟨e,h.2⟩
section
variable {X:Cx}{pins:List (Addr×Obj)}{σ:L2.St}{H:Hp}{s:Shared}{A:Around}{E:Value->Shared->Prop}
theorem upd_inv{b:Addr}{g:Array Value->Array Value}(I:Inv X pins σ H s)(f:cq X pins H b):Inv X pins σ H { s with heap:=s.heap.update b (Obj.mapSeq g) }:=by
 obtain⟨f0,f1,f2,f3,f4,f5⟩:=f
 exact I.turned (t':=s.toks) (h':=s.heap.update b (Obj.mapSeq g)) (fun c o hc e=>(xN _ _ (jM hc)).trans e) f0 f1 f3 f4 f5
theorem pin_get{fp:List Addr}{h:Heap}{b:Addr}{o:Obj}{H':Hp}{s':Shared}(I:Inv X (pins++nS fp h) σ H' s')(hb:b∈fp)(e:h.get? b=some o):s'.heap.get? b=some o/\H' b=none :=
 let q:=I.pin (b,o) (yD _ (yD _ (dS hb e)));⟨q.1,q.2.1⟩
theorem list_sortK{a:Addr}{f:Value}{vs:List Value}{n:Nat}{P:PySem.Fin->Shared->Prop}(I:Inv X pins σ H s)(ho:s.heap.get? a=some (seqObj "list" vs.toArray n))(fa:cq X pins H a)(h64:vs.length < 64)
  (J:List Value->Hp->Prop) (j0:J [] H)
  (step:∀us v,vs[us.length]?=some v->∀pl s' H',Inv X (pins++pl) σ H' s'->J us H'->wpAny (model X.prog X.w) A (call f [v]) (fun u s''=>∃H'',Inv X (pins++pl) σ H'' s''/\J (us++[u]) H'') (fun _ _=>False) s')
  (fin:∀us H',us.length=vs.length->J us H'->∃ (z:Nat->Int) (κ:SortKind),(2<=vs.length->∀s',Inv X pins σ H' s'->(∀Q':SortKind->Shared->Prop,Q' κ s'->wpAny (model X.prog X.w) A (keyKind' us.toArray) Q' (fun _ _=>False) s') /\
    ∀i j C,i < vs.length->j < vs.length->C (SP.eQ z i j) s'->kas_ask X.prog X.w A κ us i j C s') /\
   ∀s' c,Inv X pins σ H' s'->cq X pins H' a->s'.heap.get? a=some (seqObj "list" (outV z vs).toArray c)->P (.done (.ret .none)) s') :
  wpAny (model X.prog X.w) A (ksk_tree a f false) P E s:=by
 have hsl:vs.length<=sizeLine:=by rw[qU];omega
 unfold ksk_tree
 refine zU (vN ho rfl ?_)
 refine zU (kA ho rfl ?_ (by simpa using hsl) (xV _))
 obtain⟨e1,ho1⟩:∃e,(s.heap.update a (Obj.mapSeq fun _=>(#[]:Array Value))).get? a=some (seqObj "list" #[] e):=⟨_,kC ho fun _=>#[]⟩
 have I1:=upd_inv (g:=fun _=>(#[]:Array Value)) I fa
 refine zU (seqEpoch_at ho1 rfl ?_)
 refine zU (wpAny_newTuple ?_ (by simpa using hsl))
 refine zU (kO ?_ (xV _))
 refine xX ?_
 have ho3:(((s.heap.update a (Obj.mapSeq fun _=>(#[]:Array Value))).push (seqObj "tuple" vs.toArray 0)).push (seqObj "list" #[] 0)).get? a=some (seqObj "list" #[] e1):=zT _ (zT _ ho1)
 have hk3:(((s.heap.update a (Obj.mapSeq fun _=>(#[]:Array Value))).push (seqObj "tuple" vs.toArray 0)).push (seqObj "list" #[] 0)).get? ((s.heap.update a (Obj.mapSeq fun _=>(#[]:Array Value))).push (seqObj "tuple" vs.toArray 0)).objs.size=some (seqObj "list" #[] 0):=zW _ rfl
 have I3:=(I1.kept (t':=s.toks) (h':=((s.heap.update a (Obj.mapSeq fun _=>(#[]:Array Value))).push (seqObj "tuple" vs.toArray 0)).push (seqObj "list" #[] 0)) fun b o e=>zT _ (zT _ e))
 have I2:=(I1.kept (t':=s.toks) (h':=(s.heap.update a (Obj.mapSeq fun _=>(#[]:Array Value))).push (seqObj "tuple" vs.toArray 0)) fun b o e=>zT _ e)
 have fk:cq X pins H ((s.heap.update a (Obj.mapSeq fun _=>(#[]:Array Value))).push (seqObj "tuple" vs.toArray 0)).objs.size:=I2.fpOk (yM _) (I2.hok.fresh (yM _))
 have hka:((s.heap.update a (Obj.mapSeq fun _=>(#[]:Array Value))).push (seqObj "tuple" vs.toArray 0)).objs.size≠a:=by
  have hlt:=zX ho1
  rw[xJ]
  exact jI (jN hlt)
 show wpAny _ A _ P E { s with heap:=((s.heap.update a (Obj.mapSeq fun _=>(#[]:Array Value))).push (seqObj "tuple" vs.toArray 0)).push (seqObj "list" #[] 0) }
 generalize ((s.heap.update a (Obj.mapSeq fun _=>(#[]:Array Value))).push (seqObj "tuple" vs.toArray 0)).objs.size=kS at hk3 fk hka
 generalize e3:({ s with heap:=((s.heap.update a (Obj.mapSeq fun _=>(#[]:Array Value))).push (seqObj "tuple" vs.toArray 0)).push (seqObj "list" #[] 0) }:Shared)=s3 at I3
 have ho3:s3.heap.get? a=some (seqObj "list" #[] e1):=by rw[<- e3];exact ho3
 have hk3:s3.heap.get? kS=some (seqObj "list" #[] 0):=by rw[<- e3];exact hk3
 clear e3 I2 I1 ho1 ho
 unfold ksk_rest
 refine zU (wH ?_)
 first
  | rw[List.forIn_toArray]
  | (rw[<- Array.forIn_toList];simp only[List.toList_toArray])
  | rw[<- Array.forIn_toList]
 refine zU (ksk_fold (fun i s'=>∃us H' e,us.length=i/\Inv X pins σ H' s'/\H' a=none/\H' kS=none/\s'.heap.get? a=some (seqObj "list" #[] e1)/\s'.heap.get? kS=some (seqObj "list" us.toArray e)/\J us H') vs 0 s3
  ⟨[],H,0,rfl,I3,fa.1,fk.1,ho3,hk3,j0⟩ ?step ?done)
 case step =>
  rintro j x s' hx ⟨us,H',e,hu,I',ha',hk',hoa,hok,j'⟩
  have hu:us.length=j:=by omega
  have hj:j < vs.length:=(List.getElem?_eq_some_iff.mp hx).1
  have Ip:=I'.pinned (fp:=[a,kS]) (fun b hb=>by
   rcases List.mem_cons.mp hb with rfl|hb
   ·exact cq.at fa ha'
   ·rw[List.mem_singleton.mp hb];exact cq.at fk hk') (fun b hb=>by
   rcases List.mem_cons.mp hb with rfl|hb
   ·exact⟨_,hoa,fun v z=>by cases z⟩
   ·rw[List.mem_singleton.mp hb];exact⟨_,hok,fun v z=>by cases z⟩)
  refine zU (kP (xA (step us x (by rw[hu];exact hx) _ s' H' Ip j') (fun u s'' he=>?_) fun _ _ hF=>hF.elim))
  obtain⟨H'',I'',j''⟩:=he
  try dsimp only
  obtain⟨ga,na⟩:=pin_get I'' (b:=a) zE hoa
  obtain⟨gk,nk⟩:=pin_get I'' (b:=kS) (zC _ zE) hok
  have I4:=I''.unpinned
  obtain⟨c2,hc2⟩:∃c2,(s''.heap.update kS (Obj.mapSeq (·.push u))).get? kS=some (seqObj "list" (us.toArray.push u) c2):=⟨_,kC gk (·.push u)⟩
  refine zU (kA gk rfl ?_ (by rw[zH,qU];omega) (yC (Nat.le_of_eq (Array.size_push ..)) (by rw[zH,qU];omega)))
  refine zV ⟨rfl,us++[u],H'',c2,by rw[zN,hu];simp,upd_inv I4 (cq.at fk nk),na,nk,(xN _ _ hka).trans ga,?_,j''⟩
  rw[hc2]
  simp
 case done =>
  rintro s' ⟨us,H',e,hu,I',ha',hk',hoa,hok,j'⟩
  have hu:us.length=vs.length:=by omega
  try dsimp only
  refine zU (vN hok rfl ?_)
  obtain⟨z,κ,hz,hP⟩:=fin us H' hu j'
  have last:∀st':SortSt,(arrOf st').map (·.2)=(outV z vs).toArray->failedOf st'=none->wpAny (model X.prog X.w) A (ksk_tail a false e1 (.ref kS) st') P E s':=fun st' h1 h2=>by
   unfold ksk_tail
   try dsimp only
   rw[h1,h2]
   have na1:(s'.heap.update kS (Obj.mapSeq fun _=>(#[]:Array Value))).get? a=some (seqObj "list" #[] e1):=(xN _ _ hka).trans hoa
   have I5:=upd_inv (g:=fun _=>(#[]:Array Value)) I' (cq.at fk hk')
   have I6:=upd_inv (s:={ s' with heap:=s'.heap.update kS (Obj.mapSeq fun _=>(#[]:Array Value)) }) (g:=fun _=>(outV z vs).toArray) I5 (cq.at fa ha')
   refine zU (kA hok rfl ?_ (by rw[zH,qU];omega) (xV _))
   refine zU (wpAny_letGo ?_)
   refine zU (seqEpoch_at na1 rfl ?_)
   refine zU (kA na1 rfl ?_ (xV _) (by
    simp only[yO,qP]
    show (outV z vs).toArray.size<=_;rw[zH,outV_len];omega))
   obtain⟨c,hc⟩:∃c,((s'.heap.update kS (Obj.mapSeq fun _=>(#[]:Array Value))).update a (Obj.mapSeq fun _=>(outV z vs).toArray)).get? a=some (seqObj "list" (outV z vs).toArray c):=⟨_,kC na1 fun _=>(outV z vs).toArray⟩
   simp only[bne_self_eq_false,yO,qP]
   exact zV (hP _ c I6 (cq.at fa ha') hc)
  unfold ksk_end
  try dsimp only
  simp only[yO,qP]
  by_cases h2:vs.toArray.size < 2
  ·rw[yL h2,yL h2]
   refine zU (zV ?_)
   rw[StateT.run_pure]
   refine zU (zV (last _ ?_ rfl))
   have h2':vs.length < 2:=by simpa using h2
   unfold outV
   rw[yL h2']
   show ((us.toArray.zip vs.toArray).map (·.2))=vs.toArray
   apply Array.toList_inj.mp
   simp only[Array.toList_map,Array.toList_zip]
   exact List.map_snd_zip (by rw[hu];exact yM _)
  ·rw[yN h2,yN h2]
   have h2':2<=vs.length:=by
    have:¬ vs.length < 2:=by simpa using h2
    omega
   obtain⟨hk,hlt⟩:=hz h2' s' I'
   refine zU (xA (hk (fun κ' s''=>κ'=κ/\s''=s') ⟨rfl,rfl⟩) (fun κ' s'' hs=>?_) fun _ _ x=>x.elim)
   obtain⟨rfl,rfl⟩:=hs
   refine zU (xA (kat_run (Q:=fun st' s2=>s2=s''/\(arrOf st').map (·.2)=(outV z vs).toArray/\failedOf st'=none) (G:=fun p s2=>s2=s''/\p=SP.run (SP.eQ z) (kas_sort vs.length))
    hu h2' h64 (fun p st' s2 a1 a2 a3 a4=>⟨a4.1,?_,a3⟩) (SP.wp_run hlt (kas_sort vs.length) (SP.Fp (by omega)) ⟨rfl,rfl⟩)) ?_ fun _ _ e=>e)
   ·rw[kat_snds hu a2,a4.2]
    unfold outV
    rw[yN (by omega)]
   ·rintro⟨⟨⟩,st'⟩ s2 ⟨hs,h4,h5⟩
    subst hs
    exact last st' h4 h5
theorem sortedK{l:Value}{f:Addr}{vs:List Value}{Q:Value->Shared->Prop}(I:Inv X pins σ H s)(h64:vs.length < 64)
  (hcol:∀ {Q':List Value->Shared->Prop},(∀h':Heap,(∀b o,s.heap.get? b=some o->h'.get? b=some o)->Q' vs { s with heap:=h' })->wpAny (model X.prog X.w) A.in1 (collect l) Q' E s)
  (J:List Value->Hp->Prop) (j0:J [] H)
  (step:∀us v,vs[us.length]?=some v->∀pl s' H',Inv X (pins++pl) σ H' s'->J us H'->wpAny (model X.prog X.w) A.in1.in1 (call (.ref f) [v]) (fun u s''=>∃H'',Inv X (pins++pl) σ H'' s''/\J (us++[u]) H'') (fun _ _=>False) s')
  (fin:∀us H',us.length=vs.length->J us H'->∃ (z:Nat->Int) (κ:SortKind),(2<=vs.length->∀s',Inv X pins σ H' s'->(∀Q':SortKind->Shared->Prop,Q' κ s'->wpAny (model X.prog X.w) A.in1.in1 (keyKind' us.toArray) Q' (fun _ _=>False) s') /\
    ∀i j C,i < vs.length->j < vs.length->C (SP.eQ z i j) s'->kas_ask X.prog X.w A.in1.in1 κ us i j C s') /\
   ∀s' D c,Inv X pins σ H' s'->cq X pins H' D->s'.heap.get? D=some (seqObj "list" (outV z vs).toArray c)->Q (.ref D) s') :
  wpAny (model X.prog X.w) A (call (.builtin "sorted") [l] [(Str.ofString "key",.ref f)]) Q E s:=by
 have hsl:vs.length<=sizeLine:=by rw[qU];omega
 refine call_function_entry_kw kind_sorted plain_sorted entry_sorted (ksk_s1 _ _) ?_
 unfold Builtin.«sorted»
 refine zU (m:=checkCount "sorted" 1 1 _) (zV (zU (hcol fun h1 kp=>?_)))
 refine zU (kO ?_ (by simpa using hsl))
 have I1:=I.kept (t':=s.toks) kp
 have fD:cq X pins H h1.objs.size:=I1.fpOk (yM _) (I1.hok.fresh (yM _))
 have hoD:(h1.push (seqObj "list" vs.toArray 0)).get? h1.objs.size=some (seqObj "list" vs.toArray 0):=zW _ rfl
 have I2:=I1.kept (t':=s.toks) (h':=h1.push (seqObj "list" vs.toArray 0)) fun b o e=>zT _ e
 show wpAny _ _ _ _ _ { s with heap:=h1.push (seqObj "list" vs.toArray 0) }
 refine zU (xX (wpAny_call_entry_kw slot_list_sort ⟨_,hoD,rfl⟩ entry_list_sort ?body (ksk_l1 _ _)))
 case body =>
  show wpAny (model X.prog X.w) A.in1.in1 (Builtin.«list.sort» ⟨[.ref h1.objs.size],[(Str.ofString "key",.ref f)]⟩) _ _ _
  rw[ksk_t1]
  refine list_sortK I2 hoD fD h64 J j0 step fun us H' hu j'=>?_
  obtain⟨z,κ,hz,hP⟩:=fin us H' hu j'
  exact⟨z,κ,hz,fun s' c I' f' e=>⟨_,rfl,zV ⟨_,rfl,hP s' _ c I' f' e⟩⟩⟩
end
end Srt
namespace Dl
open PySem L2 PySem.Spec PyProof.Rows
theorem _root_.L2.Inv.track{X:Cx}{pins:List (Addr×Obj)}{σ:L2.St}{H:Hp}{s:Shared}{b:Addr}{o:HO}(I:Inv X pins σ H s)(f:cq X pins H b)(ho:eK X.prog X.w (upd H b o) s.heap b o):Inv X pins σ (upd H b o) s:=by
 obtain⟨f0,f1,f2,f3,f4,f5⟩:=f
 have up:∀c u,H c=some u->upd H b o c=some u:=fun c u e=>by rw[aG (aV e f0)];exact e
 refine⟨I.ok,I.os,I.bare,⟨I.base.keep,I.base.slot,fun c oc e n hx=>?_,I.base.there,fun c xs e=>up c _ (I.base.tups c xs e),fun c oc u e=>up c _ (I.base.frzs c oc u e),⟨fun c u e t=>up c u (I.base.tbls.st c u e t),I.base.tbls.gr⟩⟩,I.loc,I.cell,?_,fun x c e=>?_,fun p hp=>?_,fun c u e=>?_,I.len⟩
 ·have hne:c≠b:=fun z=>by
   rcases f3 with g|g
   ·exact hx (z ▸ g)
   ·exact absurd (zP (zX e) (z ▸ g)) (qE _)
  rw[aG hne];exact I.base.free c oc e n hx
 ·rw[aG (jM f1)];exact I.free
 ·rw[aG (f4 x c e)];exact I.freeC x c e
 ·obtain⟨e,n,r⟩:=I.pin p hp
  exact⟨e,by rw[aG (f5 p hp)];exact n,r⟩
 ·by_cases hc:c=b
  ·subst hc;rw[aI] at e;cases e;exact ho
  ·rw[aG hc] at e
   exact (I.hok c u e).stay (fun d w _ q=>q) (fun d q=>up d _ q) fun d w q _=>up d _ q
def oz(scope:Scope)(N':List Str)(p:Str):Bool:=scope.names.all (fun q=>!decide (q.2=NameKind.cell))&&decide (N'[0]?=some p)&&decide (scope.names.lookup p=some .local)&&decide (scope.isCoroutine=false)&&decide (scope.isGenerator=false)
section
variable {X:Cx}{N:List Str}{sc:Scope}{k:Nat}
theorem EG{scope:Scope}{N':List Str}{p qual:Str}{A:Around}{f c:Addr}{s:Shared}{H:Hp}(C:Bk X N sc (k+3))(hA:eu (k+1) A)(hk:scope.kind=.function)(hnd:N'.Nodup)(hl:oz scope N' p=true):Bk (gM X A qual scope N' f c s H) N' scope k where
 n:=rfl
 nd:=hnd
 tb:=fun x kd hx=>.inl hx
 calm:=rfl
 fn:=fun x hx=>by
  unfold oz at hl
  simp only[zF,xG,yP,xB] at hl
  exact absurd rfl (hl.1.1.1.1 _ (mem_of_lookup hx))
 room:=hA.deeper _
 xe:=rfl
 kd:=hk
structure tq(X:Cx)(qual:Str):Prop where
 ex:∃c P,X.env.code=.ref c/\X.env.qual++"<lambda>"=qual/\W.codeHdIn X.K c P=true/\∀HF,eN X.K HF->HF P=some (.tab qual)
def rG(te:Env->Option D)(ρ:Env):List D->Option (List D)
 | []=>some []
 | d::ds=>(te (ρ.set 0 (some d))).bind fun x=>(rG te ρ ds).map (x::·)
theorem nR{te:Env->Option D}{ρ:Env}:∀ {ds ks:List D},rG te ρ ds=some ks->ks.length=ds.length
 | [],ks,h=>by cases h;rfl
 | d'::ds,ks,h=>by
  unfold rG at h
  obtain⟨y,h1,h⟩:=bs h
  obtain⟨ys,h2,rfl⟩:=ag h
  simp[nR h2]
theorem qo{te:Env->Option D}{ρ:Env}:∀ {ds ks:List D}{i:Nat}{d:D},rG te ρ ds=some ks->ds[i]?=some d->∃x,te (ρ.set 0 (some d))=some x/\ks[i]?=some x
 | [],ks,i,d,h,e=>by simp at e
 | d'::ds,ks,i,d,h,e=>by
  unfold rG at h
  obtain⟨y,h1,h⟩:=bs h
  obtain⟨ys,h2,rfl⟩:=ag h
  cases i with
  | zero=>simp at e;subst e;exact⟨y,h1,rfl⟩
  | succ i=>obtain⟨x,a,b⟩:=qo h2 (by simpa using e);exact⟨x,a,by simpa using b⟩
def G8(cs:List Nat)(fl te:Env->Option D):Env->Option (List D):=fun ρ=>(fl ρ).bind fun l=>match l with
 | .list ds=>(rG te (gJ 1 cs ρ) ds).bind fun ks=>(intsOf ks).bind fun zs=>if ds.length < 64 then some (Ad (fun i=>zs.getD i 0) ds .none) else none
 | _=>none
theorem xk{K:W.Frag}{HF:Hp}{ρ:Env}{σ:L2.St}{cs:List Nat}{d:D}{v:V}(eo:cS K HF ρ σ)(r:Rep K HF d v):cS K HF ((gJ 1 cs ρ).set 0 (some d)) ((kj 1 cs σ).set 0 (some v)):=iM (Cr eo) r
theorem mQ{K:W.Frag}{HF:Hp}:∀ {ks:List D}{zs:List Int}{kvs:List V}{us:List Value},intsOf ks=some zs->aw K HF ks kvs->aM kvs us->IntsAre us zs
 | [],zs,kvs,us,h,r,v=>by
  cases h
  rw[r.nil_inv] at v
  cases v
  exact .nil
 | d::ks,zs,kvs,us,h,r,v=>by
  cases d<;>simp only[intsOf] at h<;>try cases h
  rename_i i
  obtain⟨ys,h2,rfl⟩:=ag h
  obtain⟨w,ws,rfl,a,b⟩:=r.cons_inv
  simp only[Rep] at a
  subst a
  cases v with
  | cons r1 r2 =>
   obtain⟨t,rfl⟩:=r1
   exact .cons i t (mQ h2 b r2)
theorem iP:∀ {us:List Value}{zs:List Int}{i:Nat},IntsAre us zs->i < us.length->∃t,us.getD i Value.none=.int (zs.getD i 0) t
 | _,_,i,.nil,h=>by simp at h
 | _,_,0,.cons n t r,h=>⟨t,rfl⟩
 | _,_,i+1,.cons n t r,h=>by
  obtain⟨t',e⟩:=iP (i:=i) r (by simpa using h)
  exact⟨t',by simpa using e⟩
variable {l body:Expr}{fl te:Env->Option D}{params:Arguments}{scope:Scope}{lpos pos p0 kpos:Pos}{N':List Str}{cs:List Nat}{p qual:Str}
theorem Bk.sortK(C:Bk X N sc (k+3))(B:oU X "sorted" (.builtin "sorted"))(L:tq X qual)(ok:iT sc scope N N' 1 cs=true)(hl:oz scope N' p=true)
  (hb:∀ (cl:List (Str×Addr)) (pm ctv u:Value) (c:Addr),bindArgs (W.kla_fn "<lambda>" qual params body scope cl pm (.ref c) ctv) ⟨[u],[]⟩=pure [(p,u)]) (hdef:defaultsOf params X.env=([],[])) (h:DE X l fl)
  (hY:∀A f c s H,Bk (gM X A qual scope N' f c s H) N' scope k->DE (gM X A qual scope N' f c s H) body te)
  (hst:starEach [l] X.env=(false,eval l X.env)::starEach [] X.env) (he:backTo pos (starEach [l] X.env)=(false,eval l X.env)::backTo pos (starEach [] X.env)) (hpl:(backTo pos (starEach [l] X.env)).any (·.1)=false) :
  DF X (.Call (.Name "sorted" p0) [l] [⟨some "key",.Lambda params body scope lpos,kpos⟩] pos) (G8 cs fl te):=by
 obtain⟨S,_⟩:=C.comp ok
 have hnd:N'.Nodup:=by
  unfold iT at ok
  simp only[zF,zJ] at ok
  exact ok.2
 have hl':=hl
 unfold oz at hl'
 simp only[zF,xG,yP,xB,zJ] at hl'
 obtain⟨⟨⟨⟨hnc,hN0⟩,hp⟩,hco⟩,hgen⟩:=hl'
 obtain⟨cc,P,hcode,hqual,hhd,fE⟩:=L.ex
 intro pins s σ H Q I ⟨HF,ρ,out,sm,eo,hf,q⟩
 obtain⟨ld,hld,hf⟩:=bs hf
 cases ld<;>try cases hf
 rename_i ds
 obtain⟨ks,hks,hf⟩:=bs hf
 obtain⟨zs,hzs,hf⟩:=bs hf
 split at hf<;>cases hf
 rename_i h64
 refine qY (gn I B.gl B.mg B.bt ?_ (by decide) (by decide))
 refine PyProof.Rows.callWith_kw (e:=l) (rest:=[]) (kws:=[⟨some "key",.Lambda params body scope lpos,kpos⟩]) ?_ he hpl rfl rfl
 refine cw (CJ h FC hst pos pins s σ H _ I ⟨HF,ρ,[.list ds],sm,eo,by simp[aa,af,hld],fun vs H1 HF1 g1 r1=>(⟨HF1,g1,r1⟩:∃HF1,bJ HF H HF1 H1/\aw X.K HF1 [.list ds] vs)⟩) fun us s1 ⟨vs,H1,I1,rv,HF1,g1,r1⟩=>?_
 obtain⟨v,vr,rfl,a1,b1⟩:=r1.cons_inv
 rw[b1.nil_inv] at rv
 obtain⟨u,rfl,rx⟩:=vals1 rv
 simp only[Rep] at a1
 obtain⟨la,ws,rfl,hq,rr⟩:=a1
 cases rx
 have hT1:H1 P=some (.tab qual):=g1.fh _ _ (fE HF1 (eo.tb.mono g1.ff))
 show wpAny _ _ (evalAll ((do let v <- eval (.Lambda params body scope lpos) X.env;standAt pos;pure v)::[])) _ _ s1
 refine wpAny_evalAll_cons (zU ?_)
 refine z8 (P:=P) I1 S hqual hcode (W.codeHd_of_K I1.ok.mod.kin hhd) hT1 I1.ok.mod.bmd hdef fun f c' pm ctv s2 H2 I2 hfo hfn hcod s12 fp2 _=>?_
 refine zU (vF (zV (wpAny_evalAll_nil ?_)))
 show wpAny _ _ (call (.builtin "sorted") [.ref la] [(Str.ofString "key",.ref f)]) _ _ s2
 have Ip:=I2.pinned (fp:=[f]) (fun b hb=>by rw[List.mem_singleton.mp hb];exact fp2) (fun b hb=>by rw[List.mem_singleton.mp hb];exact⟨_,hfo,fun v z=>by cases z⟩)
 have g2:bJ HF1 H1 HF1 H2:=⟨s12,.refl _,g1.fh.trans s12,fun _ _ e=>.inl e⟩
 obtain⟨its,rvi,pl,hz⟩:=Ip.list (s12.seq (g1.fh.seq hq))
 have hlen:its.length=ds.length:=by rw[<- rvi.length,rr.length]
 have hkl:=nR hks
 have hR:eu (k+1) X.A.in1.in1:=C.room.in1.in1
 refine Srt.sortedK (vs:=its) Ip (by omega) (fun {Q'} hQ=>?_) (fun us H'=>∃HF' kvs,bJ HF1 H2 HF' H'/\aw X.K HF' (ks.take us.length) kvs/\aM kvs us) ⟨HF1,[],.refl g2.fh,by simpa using aw.nil,.nil⟩ (fun us x hx pl' s3 H3 I3 ⟨HF3,kvs,g3,rk,rvk⟩=>?_) fun us H3 hu ⟨HF3,kvs,g3,rk,rvk⟩=>?_
 ·refine collect_list pl.isList (hQ _ fun b o e=>?_) (by rw[qU];omega)
  exact (xN _ _ (jI (zX e))).trans (zT _ e)
 ·have hi:us.length < its.length:=(List.getElem?_eq_some_iff.mp hx).1
  obtain⟨w,hw⟩:∃w,ws[us.length]?=some w:=⟨_,zK (by rw[rvi.length];exact hi)⟩
  obtain⟨x',hx',rw'⟩:=rvi.get hw
  rw[hx] at hx'
  cases hx'
  obtain⟨d,hd,rd⟩:=rr.get hw
  obtain⟨kd,hkd,hki⟩:=qo hks hd
  have hfo3:s3.heap.get? f=some (W.kla_obj "<lambda>" qual params body scope (eU X.env scope.names []) pm c' ctv) :=
   (I3.pin (f,_) (yD _ (qJ _ (yD _ (dS zE hfo))))).1
  refine xA (yk (Q:=fun v H4=>∃HF4,bJ HF3 H3 HF4 H4/\Rep X.K HF4 kd v) (te:=tD X.K te) I3 hR I3.ok.frames S hnc hN0 hp hnd hco hgen hfo3 (g3.hh _ _ hcod) (hb _ _ _ _ _) rw' (hY _ _ _ _ _ (EG C hR S.kind hnd hl))
   ⟨HF3,_,kd,g3.fh,xk (eo.mono (g1.ff.trans g3.ff)) (rd.mono g3.ff),hkd,fun v H4 HF4 g4 r4=>⟨HF4,g4,r4⟩⟩) (fun u s4 ⟨v4,H4,I4,r4,HF4,g4,rp⟩=>⟨H4,I4,HF4,kvs++[v4],g3.trans g4,?_,rvk.append (.cons r4 .nil)⟩) fun _ _ e=>e
  rw[zN,xC,wX,hki]
  exact (rk.mono g4.ff).append (aw.cons rp aw.nil)
 ·have hk':ks.take us.length=ks:=kK (by omega)
  rw[hk'] at rk
  have ia:=mQ hzs rk rvk
  refine⟨fun i=>zs.getD i 0,oneType',fun h2 s3 I3=>⟨fun Q' q'=>?_,fun i j Cc hi hj q'=>?_⟩,fun s3 Dn c I3 fD e=>?_⟩
  ·rw[PyProof.Rows.ksk_kind (keys:=us.toArray) (kz:=zs) (by simpa using ia) (by simpa [hu] using h2)]
   exact zV q'
  ·obtain⟨t1,e1⟩:=iP ia (i:=i) (by omega)
   obtain⟨t2,e2⟩:=iP ia (i:=j) (by omega)
   unfold W.kas_ask
   rw[e1,e2]
   exact W.kat_lt_int q'
  ·have hv:=pS (fun i=>zs.getD i 0) rvi
   have hr:=rq (fun i=>zs.getD i 0) rr
   have hnD:H3 Dn=none:=fD.1
   have I4:=Inv.track (o:=.lst (Ad (fun i=>zs.getD i 0) ws .non)) I3 fD ⟨by rw[(mS _ _ _).length_eq];exact hz,_,c,hv,e⟩
   have G:=(g1.trans g2).trans g3
   refine⟨.ref Dn,_,I4.unpinned,rfl,q Dn _ _ HF3 (G.trans (.own G.fh hnD)) (G.hh.free hnD) (G.fh.free hnD) aI (hr.mono g3.ff)⟩
end
end Dl
namespace Srt
open PySem PySem.W PySem.Calls PyProof.Rows L2
section
variable {prog:Program}{w:World}{A:Around}{E:Value->Shared->Prop}{s:Shared}
theorem iadd_rng{R:Result->Shared->Prop}{r S:Addr}{a b c:Int}{t u v:Tok}{n:Nat}(hh:A.handled=none)(hr:IsRange s.heap r a b c t u v)(hsmall:Builtin.Range.small a b c=true)(hn:Builtin.Range.rangeSize a b c=n)(hlen:n<=2 ^ 24)
  (hS:s.heap.get? S=some { cls:=.type "list",data:=.seq #[] })
  (hR:∀h' tk acc' c',(∀b o,b≠S->s.heap.get? b=some o->h'.get? b=some o)->h'.get? S=some { cls:=.type "list",dict:=none,data:=.seq acc' c',slots:=#[] } ->
   ItemsOf (fun i v=>∃t,v=.int (a+i * c) t) acc' n->R (.ok (.ret (.ref S))) { s with heap:=h',toks:=tk }):codeAny (model prog w) A (.builtin "list.__iadd__" ⟨[.ref S,.ref r],[]⟩) R s:=by
 refine kE entry_list_iadd' ?_
 rw[Around.under_plainId (by decide +kernel:plainId "list.__iadd__"=true) _]
 exact wpAny_extend_range (A:=A) hh hr hsmall hn hlen S (.ref S) _ hS hR
theorem collect_rng{r:Addr}{a b c:Int}{t u v:Tok}{n:Nat}{Q:List Value->Shared->Prop}(hh:A.handled=none)(hr:IsRange s.heap r a b c t u v)(hsmall:Builtin.Range.small a b c=true)(hn:Builtin.Range.rangeSize a b c=n)(hlen:n<=2 ^ 24)
  (h:∀h' tk acc,(∀b o,s.heap.get? b=some o->h'.get? b=some o)->ItemsOf (fun i v=>∃t,v=.int (a+i * c) t) acc n->Q acc.toList { s with heap:=h',toks:=tk }):wpAny (model prog w) A (collect (.ref r)) Q E s:=by
 unfold collect
 refine zU (wpAny_runValue (kE entry_proto_collect' ?_))
 rw[Around.under_plainId (by decide +kernel:plainId "proto.collect"=true) _]
 show wpAny _ A.in1 (newList [] >>= fun l=>again (.builtin "list.__iadd__" ⟨[l,.ref r],[]⟩)) _ _ s
 refine zU (qL ?_)
 have hS:(s.heap.push { cls:=.type "list",data:=.seq #[] }).get? s.heap.objs.size=some { cls:=.type "list",data:=.seq #[] }:=zW _ rfl
 refine zV ⟨plainId_quiet (by decide +kernel) _,iadd_rng (s:={ s with heap:=s.heap.push { cls:=.type "list",data:=.seq #[] } }) hh (zT _ hr) hsmall hn hlen hS fun h' tk acc' c' hk hS' hacc=>?_⟩
 show wpAny _ A (load s.heap.objs.size >>= _) _ _ _
 refine zU (wpAny_load hS' ?_)
 exact zV (h h' tk acc' (fun b o e=>hk b o (yR (zX e)) (zT _ e)) hacc)
end
section
variable {X:Cx}{pins:List (Addr×Obj)}{σ:L2.St}{H:Hp}{s:Shared}{A:Around}{E:Value->Shared->Prop}
theorem sortedR{l:Value}{f:Addr}{PV:List Value->Prop}{Q:Value->Shared->Prop}(I:Inv X pins σ H s)
  (hcol:∀ {Q':List Value->Shared->Prop},(∀ (h':Heap) (tk:Nat) (vs:List Value),PV vs->(∀b o,s.heap.get? b=some o->h'.get? b=some o)->Q' vs { s with heap:=h',toks:=tk })->wpAny (model X.prog X.w) A.in1 (collect l) Q' E s)
  (rest:∀vs,PV vs->vs.length < 64/\∃J:List Value->Hp->Prop,J [] H /\
   (∀us v,vs[us.length]?=some v->∀pl s' H',Inv X (pins++pl) σ H' s'->J us H'->wpAny (model X.prog X.w) A.in1.in1 (call (.ref f) [v]) (fun u s''=>∃H'',Inv X (pins++pl) σ H'' s''/\J (us++[u]) H'') (fun _ _=>False) s') /\
   (∀us H',us.length=vs.length->J us H'->∃ (z:Nat->Int) (κ:SortKind),(2<=vs.length->∀s',Inv X pins σ H' s'->(∀Q':SortKind->Shared->Prop,Q' κ s'->wpAny (model X.prog X.w) A.in1.in1 (keyKind' us.toArray) Q' (fun _ _=>False) s') /\
    ∀i j C,i < vs.length->j < vs.length->C (SP.eQ z i j) s'->kas_ask X.prog X.w A.in1.in1 κ us i j C s') /\
   ∀s' D c,Inv X pins σ H' s'->cq X pins H' D->s'.heap.get? D=some (seqObj "list" (outV z vs).toArray c)->Q (.ref D) s')) :
  wpAny (model X.prog X.w) A (call (.builtin "sorted") [l] [(Str.ofString "key",.ref f)]) Q E s:=by
 refine call_function_entry_kw kind_sorted plain_sorted entry_sorted (ksk_s1 _ _) ?_
 unfold Builtin.«sorted»
 refine zU (m:=checkCount "sorted" 1 1 _) (zV (zU (hcol fun h1 tk vs hv kp=>?_)))
 obtain⟨h64,J,j0,step,fin⟩:=rest vs hv
 have hsl:vs.length<=sizeLine:=by rw[qU];omega
 refine zU (kO ?_ (by simpa using hsl))
 have I1:=I.kept (t':=tk) kp
 have fD:cq X pins H h1.objs.size:=I1.fpOk (yM _) (I1.hok.fresh (yM _))
 have hoD:(h1.push (seqObj "list" vs.toArray 0)).get? h1.objs.size=some (seqObj "list" vs.toArray 0):=zW _ rfl
 have I2:=I1.kept (t':=tk) (h':=h1.push (seqObj "list" vs.toArray 0)) fun b o e=>zT _ e
 show wpAny _ _ _ _ _ { s with heap:=h1.push (seqObj "list" vs.toArray 0),toks:=tk }
 refine zU (xX (wpAny_call_entry_kw slot_list_sort ⟨_,hoD,rfl⟩ entry_list_sort ?body (ksk_l1 _ _)))
 case body =>
  show wpAny (model X.prog X.w) A.in1.in1 (Builtin.«list.sort» ⟨[.ref h1.objs.size],[(Str.ofString "key",.ref f)]⟩) _ _ _
  rw[ksk_t1]
  refine list_sortK I2 hoD fD h64 J j0 step fun us H' hu j'=>?_
  obtain⟨z,κ,hz,hP⟩:=fin us H' hu j'
  exact⟨z,κ,hz,fun s' c I' f' e=>⟨_,rfl,zV ⟨_,rfl,hP s' _ c I' f' e⟩⟩⟩
end
end Srt
namespace Dl
open PySem L2 PySem.Spec PyProof.Rows
def p9(n:Nat):List D:=(List.range n).map fun i=>PyData.int ((i:Nat):Int)
def HD(cs:List Nat)(fs:Env->Option (List D))(te:Env->Option D):Env->Option (List D):=fun ρ=>(fs ρ).bind fun l=>match l with
 | [.int n]=>if 0<=n/\n < 64 then (rG te (gJ 1 cs ρ) (p9 n.toNat)).bind fun ks=>(rowsOf ks).map fun nss=>Ad (fun i=>rk nss (nss.getD i [])) (p9 n.toNat) .none else none
 | _=>none
theorem sS:∀ {vs:List Value}{k:Nat},(∀i v,vs[i]?=some v->∃t,v=Value.int ((k+i:Nat):Int) t)->aM ((List.range' k vs.length).map fun i=>V.int ((i:Nat):Int)) vs
 | [],k,_=>.nil
 | v::vs,k,h=>by
  rw[zL,vI,zI]
  obtain⟨t,e⟩:=h 0 v rfl
  refine .cons ⟨t,by simpa using e⟩ (sS fun i u hu=>?_)
  obtain⟨t',e'⟩:=h (i+1) u (by simpa using hu)
  exact⟨t',by rw[e'];congr 1;omega⟩
theorem sQ{K:W.Frag}{HF:Hp}:∀ (l:List Nat),aw K HF (l.map fun i=>PyData.int ((i:Nat):Int)) (l.map fun i=>V.int ((i:Nat):Int))
 | []=>aw.nil
 | i::l=>aw.cons (by simp[Rep]) (sQ l)
section
variable {X:Cx}{N:List Str}{sc:Scope}{k:Nat}
variable {e body:Expr}{fs:Env->Option (List D)}{te:Env->Option D}{params:Arguments}{scope:Scope}{lpos pos p0 kpos rpos p1:Pos}{N':List Str}{cs:List Nat}{p qual:Str}
theorem Bk.sortR(C:Bk X N sc (k+3))(B:oU X "sorted" (.builtin "sorted"))(BR:oU X "range" (.type "range"))(L:tq X qual)(ok:iT sc scope N N' 1 cs=true)(hl:oz scope N' p=true)
  (hb:∀ (cl:List (Str×Addr)) (pm ctv u:Value) (c:Addr),bindArgs (W.kla_fn "<lambda>" qual params body scope cl pm (.ref c) ctv) ⟨[u],[]⟩=pure [(p,u)]) (hdef:defaultsOf params X.env=([],[])) (h:DA X [e] fs)
  (hY:∀A f c s H,Bk (gM X A qual scope N' f c s H) N' scope k->DE (gM X A qual scope N' f c s H) body te)
  (hsR:starEach [e] X.env=[(false,eval e X.env)])
  (hst:starEach [.Call (.Name "range" p1) [e] [] rpos] X.env=(false,eval (.Call (.Name "range" p1) [e] [] rpos) X.env)::starEach [] X.env) (he:backTo pos (starEach [.Call (.Name "range" p1) [e] [] rpos] X.env)=(false,eval (.Call (.Name "range" p1) [e] [] rpos) X.env)::backTo pos (starEach [] X.env)) (hpl:(backTo pos (starEach [.Call (.Name "range" p1) [e] [] rpos] X.env)).any (·.1)=false) :
  DF X (.Call (.Name "sorted" p0) [.Call (.Name "range" p1) [e] [] rpos] [⟨some "key",.Lambda params body scope lpos,kpos⟩] pos) (HD cs fs te):=by
 obtain⟨S,_⟩:=C.comp ok
 have hnd:N'.Nodup:=by
  unfold iT at ok
  simp only[zF,zJ] at ok
  exact ok.2
 have hl':=hl
 unfold oz at hl'
 simp only[zF,xG,yP,xB,zJ] at hl'
 obtain⟨⟨⟨⟨hnc,hN0⟩,hp⟩,hco⟩,hgen⟩:=hl'
 obtain⟨cc,P,hcode,hqual,hhd,fE⟩:=L.ex
 intro pins s σ H Q I ⟨HF,ρ,out,sm,eo,hf,q⟩
 obtain⟨ld,hld,hf⟩:=bs hf
 obtain⟨n,rfl⟩:∃n,ld=[.int n]:=by
  split at hf
  ·exact⟨_,rfl⟩
  ·cases hf
 simp only at hf
 split at hf
 rotate_left
 ·cases hf
 rename_i h64
 obtain⟨ks,hks,hf⟩:=bs hf
 obtain⟨nss,hns,rfl⟩:=ag hf
 obtain⟨hkr,hne⟩:=kg hns
 refine qY (gn I B.gl B.mg B.bt ?_ (by decide) (by decide))
 refine PyProof.Rows.callWith_kw (e:=.Call (.Name "range" p1) [e] [] rpos) (rest:=[]) (kws:=[⟨some "key",.Lambda params body scope lpos,kpos⟩]) ?_ he hpl rfl rfl
 rw[he]
 refine jJ ?_
 refine Call_ (gn I BR.gl BR.mg boot_range (qS (cw (h rpos pins s σ H _ I ⟨HF,ρ,[.int n],sm,eo,hld,fun vs H1 HF1 g1 r1=>(⟨HF1,g1,r1⟩:∃HF1,bJ HF H HF1 H1/\aw X.K HF1 [.int n] vs)⟩) fun us s1 ⟨vs,H1,I1,rv,HF1,g1,r1⟩=>?_) hsR rfl))
 obtain⟨v,vr,rfl,a1,b1⟩:=r1.cons_inv
 rw[b1.nil_inv] at rv
 obtain⟨u,rfl,rx⟩:=vals1 rv
 simp only[Rep] at a1
 subst a1
 obtain⟨t,rfl⟩:=rx
 refine call_range_1 ?_
 refine kH ?_
 obtain⟨hn0,hn64⟩:=h64
 have I1':=I1.kept (t':=s1.toks+1+1) (h':=s1.heap.push { cls:=Value.type "range",data:=Data.fields #[Value.int 0 s1.toks,Value.int n t,Value.int 1 (s1.toks+1)] }) fun b o e=>zT _ e
 have hro:(s1.heap.push { cls:=Value.type "range",data:=Data.fields #[Value.int 0 s1.toks,Value.int n t,Value.int 1 (s1.toks+1)] }).get? s1.heap.objs.size=some { cls:=Value.type "range",data:=Data.fields #[Value.int 0 s1.toks,Value.int n t,Value.int 1 (s1.toks+1)] }:=zW _ rfl
 have Ir:=I1'.pinned (fp:=[s1.heap.objs.size]) (fun b hb=>by rw[List.mem_singleton.mp hb];exact I1.fpOk (yM _) I1.fresh) (fun b hb=>by rw[List.mem_singleton.mp hb];exact⟨_,hro,fun v z=>by cases z⟩)
 have hT1:H1 P=some (.tab qual):=g1.fh _ _ (fE HF1 (eo.tb.mono g1.ff))
 show wpAny _ _ (evalAll ((do let v <- eval (.Lambda params body scope lpos) X.env;standAt pos;pure v)::[])) _ _ _
 refine wpAny_evalAll_cons (zU ?_)
 refine z8 (P:=P) Ir S hqual hcode (W.codeHd_of_K Ir.ok.mod.kin hhd) hT1 Ir.ok.mod.bmd hdef fun f c' pm ctv s2 H2 I2 hfo hfn hcod s12 fp2 _=>?_
 refine zU (vF (zV (wpAny_evalAll_nil ?_)))
 show wpAny _ _ (call (.builtin "sorted") [.ref s1.heap.objs.size] [(Str.ofString "key",.ref f)]) _ _ s2
 have hr2:IsRange s2.heap s1.heap.objs.size 0 n 1 s1.toks t (s1.toks+1):=(Srt.pin_get I2 zE hro).1
 have Ip:=I2.pinned (fp:=[f]) (fun b hb=>by rw[List.mem_singleton.mp hb];exact fp2) (fun b hb=>by rw[List.mem_singleton.mp hb];exact⟨_,hfo,fun v z=>by cases z⟩)
 have g2:bJ HF1 H1 HF1 H2:=⟨s12,.refl _,g1.fh.trans s12,fun _ _ e=>.inl e⟩
 have hkl:=nR hks
 have hnl:(p9 n.toNat).length=n.toNat:=by simp[p9]
 have hR:eu (k+1) X.A.in1.in1:=C.room.in1.in1
 refine Srt.sortedR (PV:=fun vs=>vs.length=n.toNat/\∀i v,vs[i]?=some v->∃t,v=Value.int ((i:Nat):Int) t) Ip (fun {Q'} hQ=>?_) fun its ⟨hil,hiv⟩=>⟨by omega,fun us H'=>∃HF' kvs,bJ HF1 H2 HF' H'/\aw X.K HF' (ks.take us.length) kvs/\aM kvs us,⟨HF1,[],.refl g2.fh,by simpa using aw.nil,.nil⟩,fun us x hx pl' s3 H3 I3 ⟨HF3,kvs,g3,rk,rvk⟩=>?_,fun us H3 hu ⟨HF3,kvs,g3,rk,rvk⟩=>?_⟩
 ·refine Srt.collect_rng (n:=n.toNat) C.room.in1.hd hr2 (small_one (by omega) (by omega) (by omega) (by omega)) (by rw[rangeSize_one];split<;>omega) (by omega) fun h' tk acc kp ha=>?_
  refine hQ h' tk acc.toList ⟨by have:=ha.1;simpa using this,fun i v hv=>?_⟩ kp
  obtain⟨t',e'⟩:=ha.2 i v (by simpa using hv)
  exact⟨t',by rw[e'];congr 1;omega⟩
 ·have hi:us.length < n.toNat:=by rw[<- hil];exact (List.getElem?_eq_some_iff.mp hx).1
  obtain⟨tx,rfl⟩:=hiv _ _ hx
  have hd:(p9 n.toNat)[us.length]?=some (.int ((us.length:Nat):Int)):=by simp[p9,hi]
  obtain⟨kd,hkd,hki⟩:=qo hks hd
  have hfo3:s3.heap.get? f=some (W.kla_obj "<lambda>" qual params body scope (eU X.env scope.names []) pm c' ctv) :=
   (I3.pin (f,_) (yD _ (qJ _ (yD _ (dS zE hfo))))).1
  refine xA (yk (v:=V.int ((us.length:Nat):Int)) (Q:=fun v H4=>∃HF4,bJ HF3 H3 HF4 H4/\Rep X.K HF4 kd v) (te:=tD X.K te) I3 hR I3.ok.frames S hnc hN0 hp hnd hco hgen hfo3 (g3.hh _ _ hcod) (hb _ _ _ _ _) ⟨tx,rfl⟩ (hY _ _ _ _ _ (EG C hR S.kind hnd hl))
   ⟨HF3,_,kd,g3.fh,xk (eo.mono (g1.ff.trans g3.ff)) (by simp[Rep]),hkd,fun v H4 HF4 g4 r4=>⟨HF4,g4,r4⟩⟩) (fun u s4 ⟨v4,H4,I4,r4,HF4,g4,rp⟩=>⟨H4,I4,HF4,kvs++[v4],g3.trans g4,?_,rvk.append (.cons r4 .nil)⟩) fun _ _ e=>e
  rw[zN,xC,wX,hki]
  exact (rk.mono g4.ff).append (aw.cons rp aw.nil)
 ·have hk':ks.take us.length=ks:=kK (by omega)
  rw[hk',hkr] at rk
  have hnn:nss.length=n.toNat:=by
   have:=jC List.length hkr
   rw[zD] at this
   omega
  refine⟨fun i=>Dl.rk nss (nss.getD i []),tuples' true,fun h2 s3 I3=>⟨fun Q' q'=>?_,fun i j Cc hi hj q'=>?_⟩,fun s3 Dn c I3 fD e=>?_⟩
  ·obtain⟨fs',tt,hlen,hff⟩:=pH (m5 I3 g3.fh rk rvk) hne
   refine W.kat_kind (T:=.type "int") tt (by omega) (fun v hv=>?_) (by decide) q'
   obtain⟨n',t',rfl⟩:=hff v hv
   exact W.Looks.of_pure rfl
  ·have hp3:=m5 I3 g3.fh rk rvk
   have ri:=gp (d:=Value.none) (d':=[]) hp3 (show i < us.length by omega)
   have rj:=gp (d:=Value.none) (d':=[]) hp3 (show j < us.length by omega)
   obtain⟨a,o,its1,n1,ea,e1,e2,e3,e4⟩:=ri.ex
   obtain⟨b,o',its',n',eb,f1,f2,f3,f4⟩:=rj.ex
   unfold W.kas_ask
   rw[ea,eb]
   have hmem:nss.getD i []∈nss:=by
    rw[zG,zK (by omega)]
    exact qA _
   have q2:Cc (lexLt (nss.getD i []) (nss.getD j [])) s3:=by
    rw[Hg hmem]
    exact q'
   refine W.kat_lt e1 e3 f1 f3 ?_
   have:=pZ (prog:=X.prog) (w:=X.w) (A:=X.A.in1.in1) (s:=s3) 0 e4 f4 q2
   have l1:its1.size=(nss.getD i []).length:=by have:=vY e4;simpa using this
   have l2:its'.size=(nss.getD j []).length:=by have:=vY f4;simpa using this
   rw[l1,l2]
   exact this
  ·have rvi:aM ((List.range n.toNat).map fun i=>V.int ((i:Nat):Int)) its:=by
    have:=sS (vs:=its) (k:=0) fun i v hv=>by
     obtain⟨t',e'⟩:=hiv i v hv
     exact⟨t',by rw[e'];congr 1;omega⟩
    rw[hil,<- yG] at this
    exact this
   have rr:aw X.K HF1 (p9 n.toNat) ((List.range n.toNat).map fun i=>V.int ((i:Nat):Int)):=sQ _
   have hv:=pS (fun i=>Dl.rk nss (nss.getD i [])) rvi
   have hr:=rq (fun i=>Dl.rk nss (nss.getD i [])) rr
   have hnD:H3 Dn=none:=fD.1
   have I4:=Inv.track (o:=.lst (Ad (fun i=>Dl.rk nss (nss.getD i [])) ((List.range n.toNat).map fun i=>V.int ((i:Nat):Int)) .non)) I3 fD ⟨by rw[(mS _ _ _).length_eq,zD,zR,PySem.sizeLine_eq];omega,_,c,hv,e⟩
   have G:=(g1.trans g2).trans g3
   refine⟨.ref Dn,_,I4.unpinned.unpinned,rfl,q Dn _ _ HF3 (G.trans (.own G.fh hnD)) (G.hh.free hnD) (G.fh.free hnD) aI (hr.mono g3.ff)⟩
end
section
variable {X:Cx}{pos:Pos}
def PZ(i j l:Nat):Env->D->Option Env:=fun ρ d=>match d with
 | .tuple [x,y,z]=>if isFree ρ i=true/\isFree ρ j=true/\isFree ρ l=true then some (((ρ.set i (some x)).set j (some y)).set l (some z)) else none
 | _=>none
theorem GA(i j l:Nat){x y z:Str}{px py pz:Pos}{k:Nat}(hc:X.calm=true)(hN:X.N.Nodup)(hi:X.N[i]?=some x)(hx:Loc X.env.scope x)(hj:X.N[j]?=some y)(hy:Loc X.env.scope y)(hl:X.N[l]?=some z)(hz:Loc X.env.scope z)
  (hf:X.fn x=true\/X.env.scope.names.lookup x=some .local) (hf':X.fn y=true\/X.env.scope.names.lookup y=some .local) (hf'':X.fn z=true\/X.env.scope.names.lookup z=some .local) :
  DG X (.Tuple [.Name x px,.Name y py,.Name z pz] k pos) (PZ i j l) :=
 pq (uK hc (dJ (dN hN hi hx hf) (dJ (dN hN hj hy hf') (dJ (dN hN hl hz hf'') o6)))) fun v σ H Q ⟨HF,ρ,d,ρ',sm,eo,r,hf,q⟩=>by
  unfold PZ at hf
  split at hf
  ·rename_i x' y' z'
   split at hf
   ·rename_i hh
    cases hf
    simp only[Rep] at r
    obtain⟨a,vs,rfl,hs,rr⟩:=r
    obtain⟨v1,r1,rfl,a1,b1⟩:=rr.cons_inv
    obtain⟨v2,r2,rfl,a2,b2⟩:=b1.cons_inv
    obtain⟨v3,r3,rfl,a3,b3⟩:=b2.cons_inv
    rw[b3.nil_inv] at hs
    exact⟨a,_,rfl,aO sm hs,rfl,v1,_,rfl,v2,_,rfl,v3,_,rfl,rfl,q _ (iM (iM (iM eo a1) a2) a3) (lr (lr (lr eo hh.1) hh.2.1) hh.2.2)⟩
   ·cases hf
  ·cases hf
end
section
variable {X:Cx}{a:Expr}{fa:Env->Option D}{pos p1 p2 p3 p4:Pos}{i j:Nat}
end
section
variable {X:Cx}
def va(d:D):List D->Option Nat
 | []=>none
 | x::xs=>if PyData.eqv x d=true then some 0 else (va d xs).map (·+1)
theorem tU{d:D}:∀ {xs:List D}{j:Nat},va d xs=some j->j < xs.length/\(∀x,xs[j]?=some x->PyData.eqv x d=true)/\∀m,m < j->∀x,xs[m]?=some x->PyData.eqv x d=false
 | [],j,h=>by cases h
 | x::xs,j,h=>by
  unfold va at h
  split at h
  ·cases h
   rename_i e
   exact⟨Nat.succ_pos _,fun y hy=>by cases hy;exact e,fun m hm=>absurd hm (vR _)⟩
  ·rename_i e
   obtain⟨k,hk,rfl⟩:=ag h
   obtain⟨a,b,c⟩:=tU hk
   refine⟨by simpa using a,fun y hy=>b y (by simpa using hy),fun m hm y hy=>?_⟩
   cases m with
   | zero=>cases hy;simpa using e
   | succ m=>exact c m (by omega) y (by simpa using hy)
theorem DQ(hu:X.A.units+66 < cLine):LR X "list.index" (fun x vs H Q=>∃ (HF:Hp) (ds:List D) (d:D) (y:V) (j:Nat),aU HF H/\Rep X.K HF (.list ds) x/\vs=[y]/\Rep X.K HF d y/\SeqAt.shaped d=true/\SeqAt.shaped (.list ds)=true/\ds.length<=sizeLine/\va d ds=some j/\Q (.int j) H):=by
 intro pins s σ H x vs v us Q I rx rv h
 obtain⟨HF,ds,d,y,j,sm,r1,rfl,r2,hd,hl,hz,hj,q⟩:=h
 obtain⟨u,rfl,ru⟩:=rv.one
 obtain⟨as,ra⟩:=cY I sm r1 rx
 obtain⟨bs,rb⟩:=cY I sm r2 ru
 have c1:=kJ hd
 have c2:=kJ hl
 have d1:=SeqAt.depth_of_shaped hd
 simp only[PyData.canLay0] at c2
 have m:=Nat.min_le_right (PyData.depthAll ds) d.depth
 obtain⟨hj1,hj2,hj3⟩:=tU hj
 cases ra with
 | list h1 h2 h3 h4 =>
  rename_i l o its n as
  obtain⟨cls,dd,data,sl⟩:=o
  simp only at h2 h3
  subst h2 h3
  have hm:=SeqAt.readsAll_map _ _ _ c2 h4
  have hlen:its.size=ds.length:=by rw[<- hm];simp
  have hs63:(sizeLine:Nat) < 2 ^ 62:=by decide
  have at_:∀m (hm:m < its.size),ds[m]?=some (SeqAt.readOf s.heap its[m]):=fun m hm'=>by
   rw[<- hm,zO,Array.getElem?_toList,jY hm']
   rfl
  refine qX F.slot_list_index ⟨_,h1,rfl⟩ F.entry_list_index (F.args_list_index_2 _ _) (PySem.SeqAt.list_indexAt l its n dd sl u (fun y=>PyData.eqv (SeqAt.readOf s.heap y) d) j (by rw[hlen];exact hj1) (by omega) ?_ ?_) ⟨h1,?_,?_⟩
  ·exact hj2 _ (at_ j (by rw[hlen];exact hj1))
  ·intro m hm' hmj
   exact hj3 m hmj _ (at_ m hm')
  ·exact SeqAt.items_eqAt h4 rb c2 c1 (by omega)
  ·exact⟨.int j,H,I.tok _,⟨_,rfl⟩,q⟩
variable {HF₀ H₀:Hp}
end
section
variable {X:Cx}{e:Expr}{es:List Expr}{fs:Env->Option (List D)}{pos p:Pos}
def MM:List D->Option D
 | [.int a,.int b]=>some (.int (max a b))
 | _=>none
theorem Gy(hc:X.calm=true):fJ X (.builtin "max") (fun xs H Q=>∃a b:Int,xs=[.int a,.int b]/\Q (.int (max a b)) H):=by
 intro pins s σ H xs us Q I r h
 have hh:X.A.handled=none:=I.ok.hd hc
 obtain⟨a,b,rfl,q⟩:=h
 cases r with
 | cons r1 r =>
  cases r with
  | cons r2 r =>
   cases r
   obtain⟨t,rfl⟩:=r1
   obtain⟨u,rfl⟩:=r2
   refine max_two_ints hh fun h' tk kp=>⟨.int (max a b),H,I.kept (t':=tk) kp,?_,q⟩
   by_cases h:b > a
   ·rw[yL h,show max a b=b by omega];exact⟨_,rfl⟩
   ·rw[yN h,show max a b=a by omega];exact⟨_,rfl⟩
theorem KR(hc:X.calm=true)(B:oU X "max" (.builtin "max"))(he:starEach (e::es) X.env=(false,eval e X.env)::starEach es X.env)(hpl:(backTo pos (starEach es X.env)).any (·.1)=false)(ha:DA X (e::es) fs):DE X (.Call (.Name "max" p) (e::es) [] pos) (bR MM fs) :=
 j9 (Gy hc) (by
  intro HF H ds vs d Q sm r hg q
  unfold MM at hg
  split at hg
  ·cases hg
   obtain⟨v1,r1,rfl,a1,b1⟩:=r.cons_inv
   obtain⟨v2,r2,rfl,a2,b2⟩:=b1.cons_inv
   rw[b2.nil_inv]
   simp only[Rep] at a1 a2
   exact⟨_,_,by rw[a1,a2],q _ H HF (.refl sm) (by simp[Rep])⟩
  ·cases hg) B ha (by decide) (by decide) he hpl
end
section
variable {X:Cx}{N:List Str}{sc:Scope}{k:Nat}{a b e:Expr}{fa fb:Env->Option D}{pos p:Pos}{HF₀ H₀:Hp}
end
section
variable {X:Cx}{e:Expr}{f:Env->Option D}{pos p p' pos':Pos}
end
section
variable {X:Cx}{a b c e:Expr}{es:List Expr}{fk:Env->Option D}{fs:Env->Option (List D)}{pos p p1 p2 p3:Pos}{x y:Str}
end
section
variable {X:Cx}{HF₀ H₀:Hp}{e:Expr}{pos:Pos}
end
structure Fv(h:Heap)(v:Value)(r:List Int):Prop where
 ex:∃ (a:Addr) (o:Obj) (n:Nat) (p:Value) (x y m:Int) (t:Tok),v=.ref a/\r=[x,y,m]/\h.get? a=some o/\o.cls=.type "tuple"/\o.data=.seq #[p,.int m t] n/\u0 h p [x,y]
theorem Fv.keep{h h':Heap}{v:Value}{r:List Int}(q:Fv h v r)(k:∀b o,h.get? b=some o->h'.get? b=some o):Fv h' v r:=by
 obtain⟨a,o,n,p,x,y,m,t,e,e1,e2,e3,e4,e5⟩:=q.ex
 exact⟨a,o,n,p,x,y,m,t,e,e1,k _ _ e2,e3,e4,e5.keep k⟩
section
variable {prog:Program}{w:World}{A:Around}{E:Value->Shared->Prop}{s:Shared}
end
section
variable {X:Cx}{e:Expr}{fs:Env->Option (List D)}{p pos:Pos}
end
end Dl
namespace HT
open PySem PyProof.Rows
section
open PySem.SeqAt
open PySem.AutoSeq1 (wpAny_loadPart')
open PySem.MeetsSeq PySem.MeetsSeq2 PySem.MeetsSeq3
end
end HT
namespace Dl
open PySem L2 PySem.Spec PyProof.Rows
section
variable {prog:Program}{w:World}{A:Around}{E:Value->Shared->Prop}{s:Shared}
end
section
variable {X:Cx}{e:Expr}{fs:Env->Option (List D)}{p pos:Pos}
def js:List D->Option (List (List Int))
 | []=>some []
 | d::r=>(lE d).bind fun ns=>(js r).map (ns::·)
end
theorem cq.of{X:Cx}{pins:List (Addr×Obj)}{H H':Hp}{b:Addr}(h:cq X pins H b)(hn:H' b=none):cq X pins H' b:=⟨hn,h.2⟩
section
variable {X:Cx}{pins:List (Addr×Obj)}{σ:L2.St}{A:Around}
end
section
variable {X:Cx}{N:List Str}{sc:Scope}{k:Nat}
variable {l body:Expr}{fl te:Env->Option D}{params:Arguments}{scope:Scope}{lpos pos p0 kpos:Pos}{N':List Str}{cs:List Nat}{p qual:Str}
end
section
variable {X:Cx}{e:Expr}{fs:Env->Option (List D)}{pos p:Pos}
end
section
variable {X:Cx}{e:Expr}{pos:Pos}{HF₀ H₀:Hp}
def CH:Expr->Bool
 | .Call ..=>true
 | .Subscript ..=>true
 | .Name ..=>true
 | _=>false
def jb(i j l:Nat)(fz:List Nat)(f:Env->Option D):aq->Option Out:=fun ρ=>(f (cJ (hand fz 0 ρ))).bind fun d=>match d with
 | .tuple [x,y,z]=>some (.nx ((((if ir (.tuple [x,y,z])=true then ρ else hand fz 0 ρ).set i (.val x)).set j (.val y)).set l (.val z)))
 | _=>none
theorem Hj(i j l:Nat)(fz:List Nat){x y z:Str}{px py pz pt:Pos}{m:Nat}{f:Env->Option D}(hc:X.calm=true)(hN:X.N.Nodup)(hi:X.N[i]?=some x)(hx:Loc X.env.scope x)(hj:X.N[j]?=some y)(hy:Loc X.env.scope y)(hl:X.N[l]?=some z)(hz:Loc X.env.scope z)(hp:CH e=true)(he:DE X e f)
  (h1:X.fn x=true\/X.env.scope.names.lookup x=some .local) (h2:X.fn y=true\/X.env.scope.names.lookup y=some .local) (h3:X.fn z=true\/X.env.scope.names.lookup z=some .local):DS X HF₀ H₀ (.Assign [.Tuple [.Name x px,.Name y py,.Name z pz] m pt] e pos) (jb i j l fz f) :=
 cH (Hl he (uK hc (dJ (dN hN hi hx h1) (dJ (dN hN hj hy h2) (dJ (dN hN hl hz h3) o6)))) (by cases e<;>first|rfl|cases hp) (by cases e<;>first|rfl|cases hp)) fun E σ H ⟨HF,ρ,o,S,hg,q⟩=>by
  unfold jb at hg
  obtain⟨d,h,hg⟩:=bs hg
  split at hg
  ·rename_i u v t
   cases hg
   obtain⟨HF1,s1,S1⟩:=S.hand fz
   refine⟨HF1,_,.tuple [u,v,t],S1.gr.fh,S1.frz,h,fun w H' HF' G r=>?_⟩
   simp only[Rep] at r
   obtain⟨a,vs,rfl,hs,rr⟩:=r
   obtain⟨v1,r1,rfl,a1,b1⟩:=rr.cons_inv
   obtain⟨v2,r2,rfl,a2,b2⟩:=b1.cons_inv
   obtain⟨v3,r3,rfl,a3,b3⟩:=b2.cons_inv
   rw[b3.nil_inv] at hs
   refine⟨a,_,rfl,aO G.fh hs,rfl,v1,_,rfl,v2,_,rfl,v3,_,rfl,rfl,?_⟩
   by_cases hn:ir (.tuple [u,v,t])=true
   ·rw[yL hn] at q
    obtain⟨HF2,s2,S2,hb⟩:=S.back S1 s1 G
    simp only[ir,pE,zF,Bool.and_true] at hn
    exact q _ H' HF2 (((S2.setV (hb u v1 hn.1 a1)).setV (hb v v2 hn.2.1 a2)).setV (hb t v3 hn.2.2 a3)) s2
   ·rw[yN hn] at q
    exact q _ H' HF' ((((S1.grow G).setV a1).setV a2).setV a3) (s1.trans G.ff)
  ·cases hg
end
end Dl
namespace Rf
open PySem L2 Dl PySem.Spec PyProof.Rows
structure Tr where
 e:Expr->Option (Dl.Env->Option D)
 f:Expr->Option (Dl.Env->Option (List D))
 t:Expr->Option (Dl.Env->Option Bool)
structure Sg where
 fn:List (Str×Nat×(List D->Option D))
 int:List (Str×Int)
abbrev FE:=Dl.Env->Option D
def BB(G:Sg)(sc:Scope)(N:List Str)(x:Str):Option FE:=match N.idxOf? x with
 | some i=>if Di N sc i x=true then some (ae i) else none
 | none=>if (sr sc x&&!(x == ("__debug__":Str)))=true then (G.int.lookup x).map fun n=>fC (.int n) else none
def B8:Const->Option FE
 | .int i=>some (fC (.int i))
 | .bool b=>some (fC (.bool b))
 | .none=>some (fC .none)
 | .str x=>some (fC (.str x))
 | _=>none
def NK(T:Tr)(op:UnaryOp)(a:Expr):Option FE:=match op with
 | .Not=>(T.e a).map KW
 | .USub=>(T.e a).map (f1 FQ)
 | _=>none
def Px:Operator->Option (D->D->Option D)
 | .Add=>some aJ
 | .Sub=>some Dl.lJ
 | .Mult=>some gH
 | .FloorDiv=>some nz
 | .Mod=>some lM
 | _=>none
def Ke:Expr->Bool
 | .List ..=>true
 | .ListComp ..=>true
 | _=>false
def CD:Expr->Bool
 | .List ..=>true
 | .ListComp ..=>true
 | .BinOp a .Mult _ _=>Ke a
 | .BinOp a .Add b _=>CD a||CD b
 | .Call (.Name x _) _ _ _=>x == ("sorted":Str)||x == ("list":Str)
 | _=>false
def Ge(T:Tr)(whole a:Expr)(op:Operator)(b:Expr):Option FE :=
 if CD whole=true then (T.f whole).map dM else (Px op).bind fun g=>(T.e a).bind fun x=>(T.e b).map fun y=>f2 g x y
def uu(T:Tr)(op:BoolOp):List Expr->Option FE
 | []=>none
 | [a]=>T.e a
 | a::b::r=>(T.e a).bind fun x=>(uu T op (b::r)).map fun y=>match op with|.And=>rS x y|.Or=>PN x y
def Om:CmpOp->Option (D->D->Option D)
 | .Lt=>some MU
 | .LtE=>some FZ
 | .Gt=>some KC
 | .GtE=>some O5
 | .Eq=>some cI
 | .NotEq=>some dD
 | .In=>some pk
 | .NotIn=>none
 | .Is=>some EE
 | .IsNot=>some z7
def PD:CmpOp->Option (D->D->Option D)
 | .Lt=>some MU
 | .LtE=>some FZ
 | _=>none
def C6(T:Tr)(a:Expr)(ops:List CmpOp)(cs:List Expr):Option FE:=match ops,cs with
 | [op],[b]=>if behindInMarks op b=false then (Om op).bind fun g=>(T.e a).bind fun x=>(T.e b).map fun y=>f2 g x y else none
 | [op,op'],[b,c]=>if lastMarks [op,op'] [b,c]=false then (PD op).bind fun g=>(PD op').bind fun g'=>(T.e a).bind fun x=>(T.e b).bind fun y=>(T.e c).map fun z=>j4 g g' x y z else none
 | _,_=>none
def vj(T:Tr):List Expr->Option (Dl.Env->Option (List D))
 | []=>some af
 | e::es=>if isStar e=false then (T.e e).bind fun x=>(vj T es).map fun r=>aa x r else none
def PH(T:Tr):Option Expr->Option (Dl.Env->Option (Option Int))
 | none=>some gF
 | some e=>(T.e e).map rQ
def Fx:Expr->Bool
 | .Slice ..=>true
 | .Tuple ..=>true
 | .Starred ..=>true
 | _=>false
def E3(T:Tr)(a b:Expr):Option FE:=match b with
 | .Slice lo hi none _=>(T.e a).bind fun x=>(PH T lo).bind fun l=>(PH T hi).map fun h=>gm dz x l h
 | _=>if Fx b=false then (T.e a).bind fun x=>(T.e b).map fun y=>f2 aC x y else none
def nL:Expr->Option Expr
 | .Call (.Name x _) [e] [] _=>if x="set" then some e else none
 | _=>none
def Lf(x:Str):Option String:=if x="int" then some "int" else if x="bool" then some "bool" else if x="tuple" then some "tuple" else if x="list" then some "list" else none
def AW(T:Tr)(x:Str)(args:List Expr):Option FE :=
 if x="max" then (if args.isEmpty=true then none else (vj T args).map fun fs=>bR MM fs)
 else none
def AM(G:Sg)(sc:Scope)(T:Tr)(whole:Expr)(x:Str)(args:List Expr):Option FE :=
 if (sr sc x&&args.all fun e=>!isStar e)=true then
  match G.fn.lookup x with
  | some (n,m)=>if (args.isEmpty||x == ("__debug__":Str))=true then none else (vj T args).map fun fs=>ah n m fs
  | none =>
   if x="len" then (match args with
    | [e]=>(match nL e with
     | some e'=>if (sr sc "set"&&!isStar e')=true then (T.e e').map fun y=>f1 lH y else none
     | none=>(vj T args).map fun fs=>bR bz fs)
    | _=>none)
   else if x="isinstance" then (match args with
    | [e,.Name y _]=>if sr sc y=true then (Lf y).bind fun ty=>(T.e e).map fun z=>J0 ty z else none
    | _=>none)
   else if x="tuple" then (if args.length=1 then (vj T args).map fun fs=>bR bU fs else none)
   else if x="all" then (if args.length=1 then (vj T args).map fun fs=>bR za fs else none)
   else if x="any" then none
   else if x="sum" then (if args.length=1 then (vj T args).map fun fs=>bR N1 fs else none)
   else if x="min" then (if args.isEmpty=true then none else (vj T args).map fun fs=>bR Mv fs)
   else if (x == ("list":Str)||x == ("sorted":Str))=true then (T.f whole).map dM
   else AW T x args
 else none
def wt:Expr->Bool
 | .Call ..=>true
 | _=>false
def Bt(T:Tr)(o:Expr)(m:Str)(apos:Pos)(args:List Expr)(cpos:Pos):Option FE :=
 if (m == ("index":Str)&&apos.endLine == cpos.line&&!wt o)=true then (match args with
  | [e]=>if isStar e=false then (T.e o).bind fun x=>(T.e e).map fun y=>f2 uJ x y else none
  | _=>none)
 else none
def FR(G:Sg)(sc:Scope)(N:List Str)(T:Tr)(whole:Expr):Option FE:=match whole with
 | .Name x _=>BB G sc N x
 | .Constant c _ _=>B8 c
 | .UnaryOp op a _=>NK T op a
 | .BinOp a op b _=>Ge T whole a op b
 | .BoolOp op es _=>uu T op es
 | .Compare a ops cs _=>C6 T a ops cs
 | .IfExp c a b _=>(T.t c).bind fun z=>(T.e a).bind fun x=>(T.e b).map fun y=>Qh z x y
 | .Tuple es _ _=>(vj T es).map aA
 | .Subscript a b _=>E3 T a b
 | .List ..=>(T.f whole).map dM
 | .ListComp ..=>(T.f whole).map dM
 | .Call (.Name x _) args [] _=>AM G sc T whole x args
 | .Call (.Name _ _) _ (_::_) _=>(T.f whole).map dM
 | .Call (.Attribute o m apos) args [] cpos=>Bt T o m apos args cpos
 | _=>none
def ON(T:Tr)(op:BoolOp):List Expr->Option (Dl.Env->Option Bool)
 | []=>none
 | [a]=>T.t a
 | a::b::r=>(T.t a).bind fun x=>(ON T op (b::r)).map fun y=>match op with|.And=>oQ x y|.Or=>pM x y
def GE:Expr->Bool
 | .Name ..=>true
 | .Call ..=>true
 | .Subscript ..=>true
 | _=>false
def stepT(T:Tr)(whole:Expr):Option (Dl.Env->Option Bool):=match whole with
 | .Compare a ops cs _=>(C6 T a ops cs).map fB
 | .UnaryOp .Not a _=>(T.t a).map cu
 | .BoolOp op es _=>ON T op es
 | _=>if GE whole=true then (T.e whole).map fB else none
def u6:Expr->Bool
 | .Tuple ..=>true
 | _=>false
def OC(sc:Scope)(T:Tr)(tg iter:Expr):Option (Dl.Env->Option (List D)):=match iter with
 | .Call (.Name x _) args [] _ =>
  if x="range" then (match args with|[e]=>if (sr sc "range"&&!isStar e)=true then (vj T args).map cg else none|_=>none)
  else if x="enumerate" then (match args with|[e]=>if (sr sc "enumerate"&&!isStar e&&u6 tg)=true then (vj T args).map dA else none|_=>none)
  else if x="zip" then (match args with|[e,e']=>if (sr sc "zip"&&!isStar e&&!isStar e'&&u6 tg)=true then (vj T args).map Ks else none|_=>none)
  else (T.e iter).map bO
 | .Set ..=>none
 | _=>(T.e iter).map bO
def Pq:Expr->Option (List Str)
 | .Name x _=>some [x]
 | .Tuple [.Name x _,.Name y _] _ _=>some [x,y]
 | _=>none
def Pv:Expr->Option (List Str)
 | .Tuple [.Name x _,.Name y _,.Name z _] _ _=>some [x,y,z]
 | tg=>Pq tg
def fP(N:List Str)(scope:Scope):List Nat:=(List.range N.length).filter fun j=>match N[j]? with|some x=>decide (scope.names.lookup x=some .free)|none=>false
def Lp:Expr->Bool
 | .Set ..=>false
 | _=>true
def KB(B:Tr)(ifs:List Expr):Option (Dl.Env->Option Bool):=match ifs with
 | []=>some fun _=>some true
 | [c]=>B.t c
 | _=>none
def uk(sc:Scope)(N:List Str)(T:Tr)(blk:Scope->List Str->Tr)(elt:Expr)(gens:List Comprehension)(scope:Scope):Option (Dl.Env->Option (List D)):=match gens with
 | [⟨tg,iter,ifs,as⟩] =>
  if as=0 then (Pv tg).bind fun xs =>
   if (iT sc scope N (xs++(fP N scope).filterMap fun j=>N[j]?) xs.length (fP N scope)&&(List.range xs.length).all fun i=>pJ (xs++(fP N scope).filterMap fun j=>N[j]?) scope i (xs.getD i ""))=true then
    (OC sc T tg iter).bind fun fi=>(KB (blk scope (xs++(fP N scope).filterMap fun j=>N[j]?)) ifs).bind fun tt =>
     ((blk scope (xs++(fP N scope).filterMap fun j=>N[j]?)).e elt).map fun te=>aN xs.length (fP N scope) fi (match xs with|[_]=>fG 0|[_,_]=>zx 0 1|_=>PZ 0 1 2) tt te
   else none
  else none
 | _=>none
def CA:Arguments->Option Str
 | ⟨[],[⟨x,none,_⟩],none,[],[],none,[]⟩=>if x="number" then some x else if x="plan" then some x else none
 | _=>none
def uR(lam:Option Str)(sc:Scope)(N:List Str)(T:Tr)(lmb:Scope->List Str->Tr)(l:Expr)(params:Arguments)(body:Expr)(scope:Scope):Option (Dl.Env->Option (List D)) :=
 if (lam.isSome&&sr sc "sorted"&&!isStar l)=true then
  (CA params).bind fun p =>
   if (iT sc scope N (p::(fP N scope).filterMap fun j=>N[j]?) 1 (fP N scope)&&oz scope (p::(fP N scope).filterMap fun j=>N[j]?) p)=true then
    (T.e l).bind fun fl=>((lmb scope (p::(fP N scope).filterMap fun j=>N[j]?)).e body).map fun te=>G8 (fP N scope) fl te
   else none
 else none
def u5(lam:Option Str)(sc:Scope)(N:List Str)(T:Tr)(lmb:Scope->List Str->Tr)(l:Expr)(params:Arguments)(body:Expr)(scope:Scope):Option (Dl.Env->Option (List D)):=match l with
 | .Call (.Name r _) [e] [] _ =>
  if (lam.isSome&&sr sc "sorted"&&r == ("range":Str)&&sr sc "range"&&!isStar e)=true then
   (CA params).bind fun p =>
    if (iT sc scope N (p::(fP N scope).filterMap fun j=>N[j]?) 1 (fP N scope)&&oz scope (p::(fP N scope).filterMap fun j=>N[j]?) p)=true then
     (vj T [e]).bind fun fs=>((lmb scope (p::(fP N scope).filterMap fun j=>N[j]?)).e body).map fun te=>HD (fP N scope) fs te
    else none
  else none
 | _=>none
def Cg(lam:Option Str)(sc:Scope)(N:List Str)(T:Tr)(blk lmb:Scope->List Str->Tr)(whole:Expr):Option (Dl.Env->Option (List D)):=match whole with
 | .List es _=>(vj T es).map cQ
 | .ListComp elt gens scope _=>uk sc N T blk elt gens scope
 | .BinOp a .Mult b _=>if Ke a=true then (T.f a).bind fun x=>(T.e b).map fun y=>oH x y else none
 | .BinOp a .Add b _=>(T.e a).bind fun x=>(T.e b).map fun y=>HL iq x y
 | .Call (.Name x _) [l] [⟨some ky,.Lambda params body scope _,_⟩] _=>if (x == ("sorted":Str)&&ky == ("key":Str))=true then (match uR lam sc N T lmb l params body scope with|some f=>some f|none=>u5 lam sc N T lmb l params body scope) else none
 | .Call (.Name x _) [e] [] _ =>
  if (sr sc x&&!isStar e)=true then
   if x="list" then (vj T [e]).map fun fs=>kc dB fs
   else if x="sorted" then (vj T [e]).map fun fs=>kc du fs
   else none
  else none
 | _=>none
def tr(G:Sg):Nat->Option Str->Scope->List Str->Tr
 | 0,_,_,_=>⟨fun _=>none,fun _=>none,fun _=>none⟩
 | n+1,lam,sc,N=>⟨FR G sc N (tr G n lam sc N),Cg lam sc N (tr G n lam sc N) (tr G n none) (tr G n none),stepT (tr G n lam sc N)⟩
structure Oj(G:Sg)(X:Cx)(j:Nat):Prop where
 fn:∀x n m,G.fn.lookup x=some (n,m)->hV X.prog X.w X.K X.mg X.base j x n m
 int:∀x i,G.int.lookup x=some i->∃t,X.mg x=some (.int i t)
 bn:Bn X
structure qq(X:Cx)(tg iter:Expr)(ifs:List Expr)(elt:Expr)(scope:Scope)(f:Dl.Env->Option (List D)):Prop where
 ex:∃ (N':List Str) (t:Nat) (cs:List Nat) (fi:Dl.Env->Option (List D)) (tgt:Dl.Env->D->Option Dl.Env) (tt:Dl.Env->Option Bool) (te:FE),f=aN t cs fi tgt tt te/\je X scope N' (kj t cs)/\DI X tg iter fi/\(∀x,foldedSetIterable iter X.env x=pure x) /\
  ∀fp s H,DG (bg X scope N' fp s H) tg tgt/\Nw (bg X scope N' fp s H) ifs tt/\DE (bg X scope N' fp s H) elt te
structure dm(X:Cx)(T:Tr):Prop where
 c:∀elt gens scope p f,T.f (.ListComp elt gens scope p)=some f->∃tg iter ifs,gens=[⟨tg,iter,ifs,0⟩]/\qq X tg iter ifs elt scope f
 e:∀e f,T.e e=some f->DE X e f
 f:∀e f,T.f e=some f->DF X e f
 t:∀e f,T.t e=some f->DT X e f
section
variable {G:Sg}{X:Cx}{N:List Str}{sc:Scope}{k j:Nat}{T:Tr}{pos p:Pos}
theorem DH(C:Bk X N sc k)(g:Oj G X j){x:Str}{f:FE}(h:BB G sc N x=some f):DE X (.Name x pos) f:=by
 unfold BB at h
 split at h
 ·split at h
  ·cases h;exact C.v _ ‹_›
  ·cases h
 ·split at h
  ·rename_i hg
   obtain⟨n,hn,rfl⟩:=ag h
   obtain⟨t,ht⟩:=g.int x n hn
   simp only[zF,yP] at hg
   exact Iy (C.gl hg.1) ht hg.2
  ·cases h
theorem Bv{c:Const}{i:Nat}{f:FE}(h:B8 c=some f):DE X (.Constant c i pos) f:=by
 cases c<;>cases h<;>first|exact Mj|exact Nd|exact LU|exact LZ
theorem Ji(C:Bk X N sc k)(O:dm X T){op:UnaryOp}{a:Expr}{f:FE}(h:NK T op a=some f):DE X (.UnaryOp op a pos) f:=by
 cases op<;>try cases h
 ·obtain⟨x,hx,rfl⟩:=ag h;exact MJ (O.e _ _ hx)
 ·obtain⟨x,hx,rfl⟩:=ag h;exact C.neg (O.e _ _ hx)
theorem F1(C:Bk X N sc k)(O:dm X T){op:Operator}{a b:Expr}{f:FE}(h:Ge T (.BinOp a op b pos) a op b=some f):DE X (.BinOp a op b pos) f:=by
 unfold Ge at h
 split at h
 ·obtain⟨x,hx,rfl⟩:=ag h;exact DF.de (O.f _ _ hx)
 ·obtain⟨g,hg,h⟩:=bs h
  obtain⟨x,hx,h⟩:=bs h
  obtain⟨y,hy,rfl⟩:=ag h
  cases op<;>cases hg
  ·exact C.add (O.e _ _ hx) (O.e _ _ hy)
  ·exact C.sub (O.e _ _ hx) (O.e _ _ hy)
  ·exact C.mul (O.e _ _ hx) (O.e _ _ hy)
  ·exact C.mod (O.e _ _ hx) (O.e _ _ hy)
  ·exact C.div (O.e _ _ hx) (O.e _ _ hy)
theorem tm(O:dm X T){op:BoolOp}:∀ {es:List Expr}{f:FE},uu T op es=some f->DE X (.BoolOp op es pos) f
 | [],f,h=>by cases h
 | [a],f,h=>LQ (O.e _ _ h)
 | a::b::r,f,h=>by
  unfold uu at h
  obtain⟨x,hx,h⟩:=bs h
  obtain⟨y,hy,rfl⟩:=ag h
  have ih:=tm O hy
  cases op with
  | And=>exact Lm (O.e _ _ hx) ih
  | Or=>exact NI (O.e _ _ hx) ih
theorem LS(C:Bk X N sc k){op:CmpOp}{a b:Expr}{g:D->D->Option D}{x y:FE}(hg:Om op=some g)(hm:behindInMarks op b=false)(ha:DE X a x)(hb:DE X b y):DE X (.Compare a [op] [b] pos) (f2 g x y)/\DT X (.Compare a [op] [b] pos) (fB (f2 g x y)):=by
 cases op<;>cases hg
 ·exact⟨C.eq ha hb,C.teq ha hb⟩
 ·exact⟨C.ne ha hb,C.tne ha hb⟩
 ·exact⟨C.lt ha hb,C.tlt ha hb⟩
 ·exact⟨C.le ha hb,C.tle ha hb⟩
 ·exact⟨C.gt ha hb,C.tgt ha hb⟩
 ·exact⟨C.ge ha hb,C.tge ha hb⟩
 ·exact⟨C.is0 ha hb,C.tis0 ha hb⟩
 ·exact⟨C.not0 ha hb,C.tnot0 ha hb⟩
 ·exact⟨C.isin ha hb hm,C.tin ha hb hm⟩
theorem Kh{op:CmpOp}{g:D->D->Option D}(h:PD op=some g):∃r,gY X (compareOp op) r/\fS X.K r g:=by
 cases op<;>cases h
 ·exact⟨_,Fc,g8⟩
 ·exact⟨_,EK,g8⟩
theorem yb(C:Bk X N sc k)(O:dm X T){a:Expr}{ops:List CmpOp}{cs:List Expr}{f:FE}(h:C6 T a ops cs=some f):DE X (.Compare a ops cs pos) f/\DT X (.Compare a ops cs pos) (fB f):=by
 unfold C6 at h
 split at h
 ·split at h
  ·rename_i hm
   obtain⟨g,hg,h⟩:=bs h
   obtain⟨x,hx,h⟩:=bs h
   obtain⟨y,hy,rfl⟩:=ag h
   exact LS C hg hm (O.e _ _ hx) (O.e _ _ hy)
  ·cases h
 ·split at h
  ·rename_i hm
   obtain⟨g,hg,h⟩:=bs h
   obtain⟨g',hg',h⟩:=bs h
   obtain⟨x,hx,h⟩:=bs h
   obtain⟨y,hy,h⟩:=bs h
   obtain⟨z,hz,rfl⟩:=ag h
   obtain⟨r,r1,r2⟩:=Kh (X:=X) hg
   obtain⟨r',r1',r2'⟩:=Kh (X:=X) hg'
   exact⟨EX r1 r2 r1' r2' (O.e _ _ hx) (O.e _ _ hy) (O.e _ _ hz) hm,GI r1 r2 r1' r2' (O.e _ _ hx) (O.e _ _ hy) (O.e _ _ hz) hm⟩
  ·cases h
 ·cases h
theorem dk(O:dm X T):∀ {es:List Expr}{fs:Dl.Env->Option (List D)},vj T es=some fs->DA X es fs
 | [],fs,h=>by cases h;exact FC
 | e::es,fs,h=>by
  unfold vj at h
  split at h
  ·rename_i hs
   obtain⟨x,hx,h⟩:=bs h
   obtain⟨r,hr,rfl⟩:=ag h
   exact O2 hs (O.e _ _ hx) (dk O hr)
  ·cases h
theorem GO(O:dm X T){o:Option Expr}{f:Dl.Env->Option (Option Int)}(h:PH T o=some f):DO X o f:=by
 cases o with
 | none=>cases h;exact IA
 | some e=>obtain⟨x,hx,rfl⟩:=ag h;exact IZ (O.e _ _ hx)
theorem Bu{b:Expr}(h:Fx b=false):uN b:=by
 cases b<;>first|(intro _ _;rfl)|cases h
theorem Hm(C:Bk X N sc k)(O:dm X T){a b:Expr}{f:FE}(h:E3 T a b=some f):DE X (.Subscript a b pos) f:=by
 unfold E3 at h
 split at h
 ·obtain⟨x,hx,h⟩:=bs h
  obtain⟨l,hl,h⟩:=bs h
  obtain⟨u,hu,rfl⟩:=ag h
  exact C.cut (O.e _ _ hx) (GO O hl) (GO O hu)
 ·split at h
  ·rename_i hc
   obtain⟨x,hx,h⟩:=bs h
   obtain⟨y,hy,rfl⟩:=ag h
   exact Ov (O.e _ _ hx) (O.e _ _ hy) (Bu hc)
  ·cases h
theorem cZ{env:PySem.Env}:∀ {es:List Expr},(es.all fun e=>!isStar e)=true->(backTo pos (starEach es env)).any (·.1)=false
 | [],_=>rfl
 | e::es,h=>by
  rw[xS,zF,yP] at h
  rw[bB h.1]
  show (false||(backTo pos (starEach es env)).any (·.1))=false
  rw[cZ h.2]
  rfl
theorem Ga{e e':Expr}(h:nL e=some e'):∃p q,e=.Call (.Name "set" p) [e'] [] q:=by
 unfold nL at h
 split at h
 ·split at h
  ·rename_i hx;cases h;subst hx;exact⟨_,_,rfl⟩
  ·cases h
 ·cases h
theorem JE{y:Str}{ty:String}(h:Lf y=some ty):y∈cX/\bootBuiltins y=some (.type ty)/\y≠"__name__"/\(y == ("__debug__":Str))=false:=by
 unfold Lf at h
 split at h
 ·rename_i e;cases h;subst e;exact⟨by decide +kernel,by decide +kernel,by decide,by decide⟩
 ·split at h
  ·rename_i e;cases h;subst e;exact⟨by decide +kernel,by decide +kernel,by decide,by decide⟩
  ·split at h
   ·rename_i e;cases h;subst e;exact⟨by decide +kernel,by decide +kernel,by decide,by decide⟩
   ·split at h
    ·rename_i e;cases h;subst e;exact⟨by decide +kernel,by decide +kernel,by decide,by decide⟩
    ·cases h
theorem KZ:bootBuiltins "sum"=some (.builtin "sum"):=by decide +kernel
theorem MT:bootBuiltins "max"=some (.builtin "max"):=by decide +kernel
theorem LC:bootBuiltins "min"=some (.builtin "min"):=by decide +kernel
theorem DD{α:Type}{l:List α}(h:l.length=1):∃a,l=[a]:=by
 match l,h with
 | [a],_=>exact⟨a,rfl⟩
theorem Dj(C:Bk X N sc k)(g:Oj G X j)(O:dm X T){x:Str}{args:List Expr}{f:FE}(hg:sr sc x=true)(hs:args.all (fun e=>!isStar e)=true)(h:AW T x args=some f):DE X (.Call (.Name x p) args [] pos) f:=by
 have st1:∀ {e:Expr}{es:List Expr},args=e::es->starEach (e::es) X.env=(false,eval e X.env)::starEach es X.env:=fun {e es} q=>by
  subst q
  rw[xS,zF,yP] at hs
  exact bB hs.1
 have st2:∀ {e:Expr}{es:List Expr},args=e::es->(backTo pos (starEach es X.env)).any (·.1)=false:=fun {e es} q=>by
  subst q
  rw[xS,zF] at hs
  exact cZ hs.2
 unfold AW at h
 split at h
 ·rename_i hx
  subst hx
  split at h
  ·cases h
  ·rename_i hl
   obtain⟨fs,hfs,rfl⟩:=ag h
   cases args with
   | nil=>exact absurd rfl hl
   | cons e es =>
    exact KR C.calm (C.blt g.bn hg (by decide +kernel) MT) (st1 rfl) (st2 rfl) (dk O hfs)
 ·cases h
theorem D5(C:Bk X N sc k)(g:Oj G X j)(hjk:j<=k)(O:dm X T){x:Str}{args:List Expr}{f:FE}(h:AM G sc T (.Call (.Name x p) args [] pos) x args=some f):DE X (.Call (.Name x p) args [] pos) f:=by
 unfold AM at h
 split at h
 ·rename_i hg
  rw[zF] at hg
  obtain⟨hg,hs⟩:=hg
  have st1:∀ {e:Expr}{es:List Expr},args=e::es->starEach (e::es) X.env=(false,eval e X.env)::starEach es X.env:=fun {e es} q=>by
   subst q
   rw[xS,zF,yP] at hs
   exact bB hs.1
  have st2:∀ {e:Expr}{es:List Expr},args=e::es->(backTo pos (starEach es X.env)).any (·.1)=false:=fun {e es} q=>by
   subst q
   rw[xS,zF] at hs
   exact cZ hs.2
  split at h
  ·rename_i n m hfn
   split at h
   ·cases h
   ·rename_i hne
    obtain⟨fs,hfs,rfl⟩:=ag h
    cases args with
    | nil=>exact absurd (by simp) hne
    | cons e es =>
     have hd:(x == ("__debug__":Str))=false:=by simpa using hne
     exact HQ (g.fn x n m hfn) (C.room.mono hjk) (C.gl hg) (dk O hfs) hd (st1 rfl) (st2 rfl)
  ·split at h
   ·rename_i hx
    subst hx
    split at h
    ·rename_i e
     split at h
     ·rename_i e' he'
      split at h
      ·rename_i hg2
       rw[zF,yP] at hg2
       obtain⟨y,hy,rfl⟩:=ag h
       obtain⟨p1,p2,rfl⟩:=Ga he'
       exact D4 C.calm (C.blt g.bn hg (by decide +kernel) Ha) (C.blt g.bn hg2.1 (by decide +kernel) LM) (O.e _ _ hy) (bB hg2.2)
      ·cases h
     ·obtain⟨fs,hfs,rfl⟩:=ag h
      exact MH (C.blt g.bn hg (by decide +kernel) Ha) (dk O hfs) (st1 rfl)
    ·cases h
   ·split at h
    ·rename_i hx
     subst hx
     split at h
     ·rename_i e y py
      split at h
      ·rename_i hgy
       obtain⟨ty,hty,h⟩:=bs h
       obtain⟨z,hz,rfl⟩:=ag h
       obtain⟨t1,t2,t3,t4⟩:=JE hty
       exact NW (C.blt g.bn hg (by decide +kernel) rX) (C.blt g.bn hgy t1 t2) (O.e _ _ hz) t3 t4 (st1 rfl)
      ·cases h
     ·cases h
    ·split at h
     ·rename_i hx
      subst hx
      split at h
      ·rename_i hl
       obtain⟨fs,hfs,rfl⟩:=ag h
       obtain⟨e,rfl⟩:=DD hl
       exact F6 (C.blt g.bn hg (by decide +kernel) FM) (dk O hfs) (st1 rfl)
      ·cases h
     ·split at h
      ·rename_i hx
       subst hx
       split at h
       ·rename_i hl
        obtain⟨fs,hfs,rfl⟩:=ag h
        obtain⟨e,rfl⟩:=DD hl
        exact Mt C.calm (C.blt g.bn hg (by decide +kernel) MN) (dk O hfs) (st1 rfl)
       ·cases h
      ·split at h
       ·cases h
       ·split at h
        ·rename_i hx
         subst hx
         split at h
         ·rename_i hl
          obtain⟨fs,hfs,rfl⟩:=ag h
          obtain⟨e,rfl⟩:=DD hl
          exact MK C.calm (C.blt g.bn hg (by decide +kernel) KZ) (st1 rfl) (dk O hfs)
         ·cases h
        ·split at h
         ·rename_i hx
          subst hx
          split at h
          ·cases h
          ·rename_i hl
           obtain⟨fs,hfs,rfl⟩:=ag h
           cases args with
           | nil=>exact absurd rfl hl
           | cons e es =>
            exact Li C.calm (C.blt g.bn hg (by decide +kernel) LC) (st1 rfl) (st2 rfl) (dk O hfs)
         ·split at h
          ·obtain⟨y,hy,rfl⟩:=ag h
           exact DF.de (O.f _ _ hy)
          ·exact Dj C g O hg hs h
 ·cases h
end
section
variable {G:Sg}{X:Cx}{N:List Str}{sc:Scope}{k j:Nat}{T:Tr}{pos p:Pos}
theorem Pk{env:PySem.Env}{e:Expr}{cpos:Pos}(h:isStar e=false):((backTo cpos (starEach [e] env)).all (fun x=>!x.1)&&(backToKw cpos (keywordEach [] env)).all (fun x=>x.1.isSome)&&decide ([e].length+([]:List Keyword).length+(if ([]:List Keyword).isEmpty then 0 else 1) < 30))=true:=by
 rw[bB h];rfl
theorem mJ{o:Expr}{a:Str}{env:PySem.Env}{w:Sem Value}(h:wt o=false):attributeBase o a env w=w:=by
 cases o<;>first|rfl|cases h
theorem Dd(C:Bk X N sc k)(O:dm X T){o:Expr}{m:Str}{apos cpos:Pos}{args:List Expr}{f:FE}(h:Bt T o m apos args cpos=some f):DE X (.Call (.Attribute o m apos) args [] cpos) f:=by
 unfold Bt at h
 split at h
 ·rename_i hm
  rw[zF,zF,yP] at hm
  obtain⟨⟨hm1,hm⟩,hcl⟩:=hm
  have e1:m="index":=eq_of_beq hm1
  subst e1
  split at h
  ·rename_i e
   split at h
   ·rename_i hs
    obtain⟨x,hx,h⟩:=bs h
    obtain⟨y,hy,rfl⟩:=ag h
    exact De (mJ hcl) (Pk hs) hm (bB hs) (O.e _ _ hx) (O.e _ _ hy)
   ·cases h
  ·cases h
 ·cases h
theorem FL(C:Bk X N sc k)(g:Oj G X j)(hjk:j<=k)(O:dm X T){e:Expr}{f:FE}(h:FR G sc N T e=some f):DE X e f:=by
 unfold FR at h
 split at h
 ·exact DH C g h
 ·exact Bv h
 ·exact Ji C O h
 ·exact F1 C O h
 ·exact tm O h
 ·exact (yb C O h).1
 ·obtain⟨z,hz,h⟩:=bs h
  obtain⟨x,hx,h⟩:=bs h
  obtain⟨y,hy,rfl⟩:=ag h
  exact Oh (O.t _ _ hz) (O.e _ _ hx) (O.e _ _ hy)
 ·obtain⟨x,hx,rfl⟩:=ag h;exact L4 (dk O hx)
 ·exact Hm C O h
 ·obtain⟨x,hx,rfl⟩:=ag h;exact DF.de (O.f _ _ hx)
 ·obtain⟨x,hx,rfl⟩:=ag h;exact DF.de (O.f _ _ hx)
 ·exact D5 C g hjk O h
 ·obtain⟨x,hx,rfl⟩:=ag h;exact DF.de (O.f _ _ hx)
 ·exact Dd C O h
 ·cases h
theorem GD(O:dm X T){op:BoolOp}:∀ {es:List Expr}{f:Dl.Env->Option Bool},ON T op es=some f->DW X (.BoolOp op es pos) f
 | [],f,h=>by cases h
 | [a],f,h=>by
  cases op with
  | And=>exact JG (O.t _ _ h)
  | Or=>exact Mp (O.t _ _ h)
 | a::b::r,f,h=>by
  unfold ON at h
  obtain⟨x,hx,h⟩:=bs h
  obtain⟨y,hy,rfl⟩:=ag h
  have ih:=GD O hy
  cases op with
  | And=>exact MV (O.t _ _ hx) ih
  | Or=>exact Oi (O.t _ _ hx) ih
theorem EB(C:Bk X N sc k)(O:dm X T){e:Expr}{f:Dl.Env->Option Bool}(h:stepT T e=some f):DT X e f:=by
 unfold stepT at h
 split at h
 ·obtain⟨x,hx,rfl⟩:=ag h;exact (yb C O hx).2
 ·obtain⟨x,hx,rfl⟩:=ag h;exact MY (O.t _ _ hx)
 ·exact DW.dt (GD O h)
 ·split at h
  ·rename_i hp
   obtain⟨x,hx,rfl⟩:=ag h
   refine L3 (O.e _ _ hx) ?_
   revert hp
   cases e<;>first|(intro hp;cases hp;done)|(intro hp _;rfl)
  ·cases h
theorem LP{e:Expr}{env:PySem.Env}(h:Lp e=true):∀x,foldedSetIterable e env x=pure x:=by
 cases e<;>first|(intro _;rfl)|cases h
theorem FA(C:Bk X N sc k)(B:Bn X)(O:dm X T){tg iter:Expr}{fi:Dl.Env->Option (List D)}(h:OC sc T tg iter=some fi):DI X tg iter fi/\∀x,foldedSetIterable iter X.env x=pure x:=by
 unfold OC at h
 split at h
 ·refine⟨?_,fun _=>rfl⟩
  split at h
  ·rename_i hx
   subst hx
   split at h
   ·split at h
    ·rename_i hg
     rw[zF,yP] at hg
     obtain⟨x,hx,rfl⟩:=ag h
     exact GZ (C.blt B hg.1 (by decide +kernel) yz) (dk O hx) (bB hg.2)
    ·cases h
   ·cases h
  ·split at h
   ·rename_i hx
    subst hx
    split at h
    ·split at h
     ·rename_i hg
      simp only[zF,yP] at hg
      obtain⟨x,hx,rfl⟩:=ag h
      cases tg<;>first|exact IH (C.blt B hg.1.1 (by decide +kernel) ux) (dk O hx) (bB hg.1.2)|exact absurd hg.2 (by simp[u6])
     ·cases h
    ·cases h
   ·split at h
    ·rename_i hx
     subst hx
     split at h
     ·split at h
      ·rename_i e e' hg
       simp only[zF,yP] at hg
       obtain⟨x,hx,rfl⟩:=ag h
       cases tg<;>first|exact JR (C.blt B hg.1.1.1 (by decide +kernel) Lx) (bB hg.1.1.2) (cZ (by simp[hg.1.2])) (dk O hx)|exact absurd hg.2 (by simp[u6])
      ·cases h
     ·cases h
    ·obtain⟨x,hx,rfl⟩:=ag h
     exact Hu (O.e _ _ hx)
 ·cases h
 ·rename_i h1 h2
  obtain⟨x,hx,rfl⟩:=ag h
  refine⟨Hu (O.e _ _ hx),LP ?_⟩
  cases iter<;>first|rfl|exact absurd rfl (h2 _ _ _)
theorem Lc{tg:Expr}{xs:List Str}(h:Pq tg=some xs):(∃x px,tg=.Name x px/\xs=[x])\/∃x px y py m pt,tg=.Tuple [.Name x px,.Name y py] m pt/\xs=[x,y]:=by
 unfold Pq at h
 split at h
 ·cases h;exact .inl ⟨_,_,rfl,rfl⟩
 ·cases h;exact .inr ⟨_,_,_,_,_,_,rfl,rfl⟩
 ·cases h
theorem Lz{tg:Expr}{xs:List Str}(h:Pv tg=some xs):((∃x px,tg=.Name x px/\xs=[x])\/∃x px y py m pt,tg=.Tuple [.Name x px,.Name y py] m pt/\xs=[x,y])\/∃x px y py z pz m pt,tg=.Tuple [.Name x px,.Name y py,.Name z pz] m pt/\xs=[x,y,z]:=by
 unfold Pv at h
 split at h
 ·cases h;exact .inr ⟨_,_,_,_,_,_,_,_,rfl,rfl⟩
 ·exact .inl (Lc h)
theorem uj(C:Bk X N sc k)(B:Bn X)(O:dm X T){blk:Scope->List Str->Tr}(OB:∀scope N' fp s H,Bk (bg X scope N' fp s H) N' scope k->dm (bg X scope N' fp s H) (blk scope N')){tg iter elt:Expr}{ifs:List Expr}{as:Int}{scope:Scope}{f:Dl.Env->Option (List D)}
  (h:uk sc N T blk elt [⟨tg,iter,ifs,as⟩] scope=some f):as=0/\qq X tg iter ifs elt scope f:=by
 unfold uk at h
 dsimp only at h
 split at h
 ·rename_i has
  refine⟨has,?_⟩
  obtain⟨xs,hxs,h⟩:=bs h
  split at h
  ·rename_i hok
   rw[zF] at hok
   obtain⟨fi,hfi,h⟩:=bs h
   obtain⟨tt,htt,h⟩:=bs h
   obtain⟨te,hte,rfl⟩:=ag h
   obtain⟨S,CB⟩:=C.comp hok.1
   obtain⟨hd,hfold⟩:=FA C B O hfi
   refine⟨_,_,_,_,_,_,_,rfl,S,hd,hfold,fun fp s H=>?_⟩
   have C1:=CB fp s H
   have O1:=OB scope _ fp s H C1
   refine⟨?_,?_,O1.e _ _ hte⟩
   ·rcases Lz hxs with (⟨x,px,rfl,rfl⟩|⟨x,px,y,py,m,pt,rfl,rfl⟩)|⟨x,px,y,py,z,pz,m,pt,htg,rfl⟩
    ·have z:=C1.loc (i:=0) (x:=x) (List.all_eq_true.mp hok.2 0 (by simp))
     exact JM 0 z.1 z.2.1 z.2.2.1 z.2.2.2
    ·have z:=C1.loc (i:=0) (x:=x) (List.all_eq_true.mp hok.2 0 (by simp))
     have w:=C1.loc (i:=1) (x:=y) (List.all_eq_true.mp hok.2 1 (by simp))
     exact L5 0 1 C1.calm z.1 z.2.1 z.2.2.1 w.2.1 w.2.2.1 z.2.2.2 w.2.2.2
    ·have z0:=C1.loc (i:=0) (x:=x) (List.all_eq_true.mp hok.2 0 (by simp))
     have w:=C1.loc (i:=1) (x:=y) (List.all_eq_true.mp hok.2 1 (by simp))
     have u:=C1.loc (i:=2) (x:=z) (List.all_eq_true.mp hok.2 2 (by simp))
     subst htg
     exact GA 0 1 2 C1.calm z0.1 z0.2.1 z0.2.2.1 w.2.1 w.2.2.1 u.2.1 u.2.2.1 z0.2.2.2 w.2.2.2 u.2.2.2
   ·unfold KB at htt
    split at htt
    ·cases htt;exact JU
    ·exact IE (O1.t _ _ htt)
    ·cases htt
  ·cases h
 ·cases h
theorem qq.df{tg iter elt:Expr}{ifs:List Expr}{scope:Scope}{f:Dl.Env->Option (List D)}(hc:X.calm=true)(h:qq X tg iter ifs elt scope f):DF X (.ListComp elt [⟨tg,iter,ifs,0⟩] scope pos) f:=by
 obtain⟨N',t,cs,fi,tgt,tt,te,rfl,S,hd,hfold,hY⟩:=h.ex
 exact IT hc S hd hY hfold
theorem y4{a:Arguments}{x:Str}(h:CA a=some x):∃px,a=⟨[],[⟨x,none,px⟩],none,[],[],none,[]⟩/\(x="number"\/x="plan"):=by
 unfold CA at h
 split at h
 ·split at h
  ·cases h;exact⟨_,rfl,.inl ‹_›⟩
  ·split at h
   ·cases h;exact⟨_,rfl,.inr ‹_›⟩
   ·cases h
 ·cases h
theorem bind1{x q:Str}{px:Pos}{body:Expr}{scope:Scope}{cl:List (Str×Addr)}{pm ctv u:Value}{c:Addr}(h:x="number"\/x="plan") :
  bindArgs (W.kla_fn "<lambda>" q ⟨[],[⟨x,none,px⟩],none,[],[],none,[]⟩ body scope cl pm (.ref c) ctv) ⟨[u],[]⟩=pure [(x,u)]:=by
 rcases h with rfl|rfl<;>rfl
theorem A8{lam:Option Str}(C:Bk X N sc k)(B:Bn X)(hlam:∀q,lam=some q->tq X q/\j+3<=k)(O:dm X T){lmb:Scope->List Str->Tr}
  (OL:∀scope N' qual A f c s H,Bk (gM X A qual scope N' f c s H) N' scope (k - 3)->j<=k - 3->dm (gM X A qual scope N' f c s H) (lmb scope N')) {l body:Expr}{params:Arguments}{scope:Scope}{p0 lpos kpos:Pos}{f:Dl.Env->Option (List D)}
  (h:uR lam sc N T lmb l params body scope=some f):DF X (.Call (.Name "sorted" p0) [l] [⟨some "key",.Lambda params body scope lpos,kpos⟩] pos) f:=by
 unfold uR at h
 split at h
 ·rename_i hg
  simp only[zF,yP] at hg
  obtain⟨⟨hl,hg⟩,hs⟩:=hg
  obtain⟨q,rfl⟩:=Option.isSome_iff_exists.mp hl
  obtain⟨L,hk⟩:=hlam q rfl
  obtain⟨x,hx,h2⟩:=bs h
  clear h
  obtain⟨px,rfl,hpx⟩:=y4 hx
  split at h2
  ·rename_i hok
   rw[zF] at hok
   obtain⟨fl,hfl,h⟩:=bs h2
   obtain⟨te,hte,rfl⟩:=ag h
   obtain⟨k',rfl⟩:∃k',k=k'+3:=⟨k - 3,by omega⟩
   exact Bk.sortK (p:=x) C (C.blt B hg (by decide +kernel) nZ) L hok.1 hok.2 (fun _ _ _ _ _=>bind1 hpx) rfl (O.e _ _ hfl) (fun A f c s H C'=>(OL scope _ q A f c s H C' (by omega)).e _ _ hte) (bB hs) (by rw[bB hs];rfl) (cZ (by simp[hs]))
  ·cases h2
 ·cases h
theorem Bx{lam:Option Str}(C:Bk X N sc k)(B:Bn X)(hlam:∀q,lam=some q->tq X q/\j+3<=k)(O:dm X T){lmb:Scope->List Str->Tr}
  (OL:∀scope N' qual A f c s H,Bk (gM X A qual scope N' f c s H) N' scope (k - 3)->j<=k - 3->dm (gM X A qual scope N' f c s H) (lmb scope N')) {l body:Expr}{params:Arguments}{scope:Scope}{p0 lpos kpos:Pos}{f:Dl.Env->Option (List D)}
  (h:u5 lam sc N T lmb l params body scope=some f):DF X (.Call (.Name "sorted" p0) [l] [⟨some "key",.Lambda params body scope lpos,kpos⟩] pos) f:=by
 unfold u5 at h
 split at h
 ·split at h
  ·rename_i hg
   simp only[zF,yP] at hg
   obtain⟨⟨⟨⟨hl,hg⟩,hr⟩,hgr⟩,hs⟩:=hg
   have er:=eq_of_beq hr
   subst er
   obtain⟨q,rfl⟩:=Option.isSome_iff_exists.mp hl
   obtain⟨L,hk⟩:=hlam q rfl
   obtain⟨x,hx,h2⟩:=bs h
   clear h
   obtain⟨px,rfl,hpx⟩:=y4 hx
   split at h2
   ·rename_i hok
    rw[zF] at hok
    obtain⟨fl,hfl,h⟩:=bs h2
    obtain⟨te,hte,rfl⟩:=ag h
    obtain⟨k',rfl⟩:∃k',k=k'+3:=⟨k - 3,by omega⟩
    exact Bk.sortR (p:=x) C (C.blt B hg (by decide +kernel) nZ) (C.blt B hgr (by decide +kernel) yz) L hok.1 hok.2 (fun _ _ _ _ _=>bind1 hpx) rfl (dk O hfl) (fun A f c s H C'=>(OL scope _ q A f c s H C' (by omega)).e _ _ hte) (bB hs) (bB rfl) (by rw[bB rfl];rfl) (cZ (by rfl))
   ·cases h2
  ·cases h
 ·cases h
theorem F8{lam:Option Str}(C:Bk X N sc k)(B:Bn X)(hlam:∀q,lam=some q->tq X q/\j+3<=k)(O:dm X T){blk lmb:Scope->List Str->Tr}
  (OB:∀scope N' fp s H,Bk (bg X scope N' fp s H) N' scope k->dm (bg X scope N' fp s H) (blk scope N'))
  (OL:∀scope N' qual A f c s H,Bk (gM X A qual scope N' f c s H) N' scope (k - 3)->j<=k - 3->dm (gM X A qual scope N' f c s H) (lmb scope N')) {e:Expr}{f:Dl.Env->Option (List D)}(h:Cg lam sc N T blk lmb e=some f):DF X e f:=by
 unfold Cg at h
 split at h
 ·obtain⟨x,hx,rfl⟩:=ag h;exact K3 (dk O hx)
 ·rename_i elt gens scope ps
  match gens,h with
  | [⟨tg,iter,ifs,as⟩],h =>
   obtain⟨rfl,q⟩:=uj C B O OB h
   exact q.df C.calm
 ·split at h
  ·obtain⟨x,hx,h⟩:=bs h
   obtain⟨y,hy,rfl⟩:=ag h
   exact L7 (O.f _ _ hx) (O.e _ _ hy)
  ·cases h
 ·obtain⟨x,hx,h⟩:=bs h
  obtain⟨y,hy,rfl⟩:=ag h
  exact KO (O.e _ _ hx) (O.e _ _ hy)
 ·split at h
  ·rename_i hk
   rw[zF] at hk
   have e1:=eq_of_beq hk.1
   have e2:=eq_of_beq hk.2
   subst e1 e2
   split at h
   ·cases h;exact A8 C B hlam O OL ‹_›
   ·exact Bx C B hlam O OL h
  ·cases h
 ·split at h
  ·rename_i hg
   rw[zF,yP] at hg
   split at h
   ·rename_i hx
    subst hx
    obtain⟨x,hx,rfl⟩:=ag h
    exact IU (C.blt B hg.1 (by decide +kernel) Jt) (dk O hx) (bB hg.2)
   ·split at h
    ·rename_i hx
     subst hx
     obtain⟨x,hx,rfl⟩:=ag h
     exact DP (C.blt B hg.1 (by decide +kernel) nZ) (dk O hx) (bB hg.2)
    ·cases h
  ·cases h
 ·cases h
theorem JA{lam:Option Str}(C:Bk X N sc k)(B:Bn X)(O:dm X T){blk lmb:Scope->List Str->Tr}(OB:∀scope N' fp s H,Bk (bg X scope N' fp s H) N' scope k->dm (bg X scope N' fp s H) (blk scope N'))
  {elt:Expr}{gens:List Comprehension}{scope:Scope}{p:Pos}{f:Dl.Env->Option (List D)}(h:Cg lam sc N T blk lmb (.ListComp elt gens scope p)=some f):∃tg iter ifs,gens=[⟨tg,iter,ifs,0⟩]/\qq X tg iter ifs elt scope f:=by
 have h:uk sc N T blk elt gens scope=some f:=h
 match gens,h with
 | [⟨tg,iter,ifs,as⟩],h =>
  obtain⟨rfl,q⟩:=uj C B O OB h
  exact⟨tg,iter,ifs,rfl,q⟩
theorem Gj(n:Nat):∀ {lam:Option Str}{X:Cx}{N:List Str}{sc:Scope}{k:Nat},Bk X N sc k->Oj G X j->j<=k->(∀q,lam=some q->tq X q/\j+3<=k)->dm X (tr G n lam sc N):=by
 induction n with
 | zero=>intro lam X N sc k C g hjk hlam;exact⟨fun _ _ _ _ _ h=>(by cases h),fun _ _ h=>(by cases h),fun _ _ h=>(by cases h),fun _ _ h=>(by cases h)⟩
 | succ n ih =>
  intro lam X N sc k C g hjk hlam
  have O:=ih C g hjk hlam
  exact⟨fun elt gens scope p f h=>JA (lam:=lam) (lmb:=tr G n none) (p:=p) C g.bn O (fun scope N' fp s H C'=>ih C' ⟨g.fn,g.int,g.bn⟩ hjk fun q z=>by cases z) h,fun e f h=>FL C g hjk O h,
   fun e f h=>F8 C g.bn hlam O (fun scope N' fp s H C'=>ih C' ⟨g.fn,g.int,g.bn⟩ hjk fun q z=>by cases z) (fun scope N' qual A f c s H C' hk=>ih C' ⟨g.fn,g.int,g.bn⟩ hk fun q z=>by cases z) h,
   fun e f h=>EB C O h⟩
end
def rl:Nat->Expr->List Str
 | 0,_=>[]
 | n+1,e=>match e with
  | .Name x _=>[x]
  | .UnaryOp _ a _=>rl n a
  | .BinOp a _ b _=>rl n a++rl n b
  | .BoolOp _ es _=>es.flatMap (rl n)
  | .Compare a _ cs _=>rl n a++cs.flatMap (rl n)
  | .IfExp c a b _=>rl n c++(rl n a++rl n b)
  | .Tuple es _ _=>es.flatMap (rl n)
  | .List es _=>es.flatMap (rl n)
  | .Subscript a b _=>rl n a++rl n b
  | .Slice lo hi st _=>(lo.toList++(hi.toList++st.toList)).flatMap (rl n)
  | .Call f args kws _=>rl n f++(args.flatMap (rl n)++kws.flatMap fun k=>rl n k.value)
  | .Attribute o _ _=>rl n o
  | .ListComp elt gens _ _=>rl n elt++gens.flatMap fun g=>rl n g.iter++g.ifs.flatMap (rl n)
  | .Lambda _ b _ _=>rl n b
  | _=>[]
def pL(N:List Str)(e:Expr):List Nat:=let ns:=rl 60 e;(List.range N.length).filter fun j=>match N[j]? with|some x=>ns.contains x|none=>false
abbrev GS:=aq->Option Out
def turns:Nat:=1000000
def Bq:Expr->Bool
 | .ListComp ..=>true
 | .SetComp ..=>true
 | .DictComp ..=>true
 | _=>false
def G7(sc:Scope)(N:List Str)(T:Tr)(x:Str)(px:Pos)(e:Expr):Option GS :=
 (N.idxOf? x).bind fun i=>if pJ N sc i x=true then
  (if CD e=true then (match e with
   | .ListComp _ _ scope lp =>
    if (decide (sc.names.lookup x=some .local)&&(px.line == lp.line&&!(scope.names.any fun (n,k)=>n == x&&(k == .local || k == .cell))))=true then (T.f e).map fun f=>br i (pL N e) f
    else if decide (sc.names.lookup x=some .cell)=true then (T.f e).map fun f=>br i (pL N e) f
    else if (px.line == lp.line)=false then (T.f e).map fun f=>br i (pL N e) f
    else none
   | _=>(T.f e).map fun f=>br i (pL N e) f)
  else if Bq e=false then (T.e e).map fun f=>ba i (pL N e) f else none) else none
def GQ(N:List Str)(sc:Scope)(T:Tr)(e:Expr):Option GS:=match e with
 | .Constant (.str _) _ _=>some cU
 | .Call (.Attribute (.Name x _) m apos) args [] cpos =>
  (N.idxOf? x).bind fun i=>if (Di N sc i x&&apos.endLine == cpos.line&&args.all fun e=>!isStar e)=true then
   (if m="append" then (match args with
    | [a]=>(T.e a).map fun f=>lL i (pL N a) f
    | _=>none)
   else if m="extend" then (match args with
    | [a]=>(T.f a).map fun f=>Al i (pL N a) f
    | _=>none)
   else if m="insert" then (match args with
    | [a,b]=>(T.e a).bind fun fk=>(T.e b).map fun f=>G1 i (pL N b) fk f
    | _=>none)
   else none) else none
 | .Call (.Name _ _) _ _ _=>(T.e e).map bH
 | _=>none
def PL(sc:Scope)(N:List Str)(tg:Expr):Option (aq->D->Option aq):=match tg with
 | .Name x _=>(N.idxOf? x).bind fun i=>if pJ N sc i x=true then some (AX i) else none
 | .Tuple [.Name x _,.Name y _] _ _=>(N.idxOf? x).bind fun i=>(N.idxOf? y).bind fun j=>if (pJ N sc i x&&pJ N sc j y)=true then some (mE i j) else none
 | _=>none
def Fq(sc:Scope)(N:List Str)(T:Tr)(x:Str)(kx e:Expr):Option GS :=
 (N.idxOf? x).bind fun i=>if (Di N sc i x&&!Fx kx)=true then (T.e kx).bind fun fk=>(T.e e).map fun f=>D3 i (pL N e) fk f else none
def uM(sc:Scope)(N:List Str)(T:Tr)(x y z:Str)(e:Expr):Option GS :=
 (N.idxOf? x).bind fun i=>(N.idxOf? y).bind fun j=>(N.idxOf? z).bind fun l=>if (((pJ N sc i x&&pJ N sc j y)&&pJ N sc l z)&&CH e)=true then (T.e e).map fun f=>jb i j l (pL N e) f else none
def qf(f:Stmt->Option GS):List Stmt->Option GS
 | []=>some cU
 | [s]=>f s
 | s::r=>(f s).bind fun g=>(qf f r).map fun h=>ay g h
def vm(sc:Scope)(N:List Str)(T:Tr):Nat->Stmt->Option GS
 | 0,_=>none
 | n+1,st=>match st with
  | .Return (some e) _=>(T.e e).map bu
  | .If c a b _=>(T.t c).bind fun t=>(qf (vm sc N T n) a).bind fun g=>(qf (vm sc N T n) b).map fun h=>iw t g h
  | .Assign [.Name x px] e _=>G7 sc N T x px e
  | .Assign [.Subscript (.Name x _) kx _] e _=>Fq sc N T x kx e
  | .Assign [.Tuple [.Name x _,.Name y _,.Name z _] _ _] e _=>uM sc N T x y z e
  | .For tg iter body [] _=>(OC sc T tg iter).bind fun fi=>(PL sc N tg).bind fun t=>(qf (vm sc N T n) body).map fun g=>hU (pL N iter) fi t g
  | .While c body [] _=>(T.t c).bind fun t=>(qf (vm sc N T n) body).map fun g=>M6 t g turns
  | .Expr e _=>GQ N sc T e
  | .Raise ..=>some KS
  | .Pass _=>some cU
  | _=>none
section
variable {X:Cx}{N:List Str}{sc:Scope}{k:Nat}{T:Tr}{HF₀ H₀:Hp}{pos:Pos}
theorem jj{f:Stmt->Option GS}(H:∀s g,f s=some g->DS X HF₀ H₀ s g):∀ {l:List Stmt}{g:GS},qf f l=some g->CS X HF₀ H₀ l g
 | [],g,h=>by cases h;exact Iw
 | [s],g,h=>CN (H _ _ h)
 | s::t::r,g,h=>by
  unfold qf at h
  obtain⟨x,hx,h⟩:=bs h
  obtain⟨y,hy,rfl⟩:=ag h
  exact GR (H _ _ hx) (jj H hy)
theorem oa{e:Expr}{x:Str}{px:Pos}{line:Nat}{env:PySem.Env}(h:Bq e=false):swapsWith e (some (.Name x px)) line env=pure false:=by
 cases e<;>first|rfl|cases h
theorem GM(C:Bk X N sc k)(O:dm X T){x:Str}{px:Pos}{e:Expr}{g:GS}(h:G7 sc N T x px e=some g):DS X HF₀ H₀ (.Assign [.Name x px] e pos) g:=by
 unfold G7 at h
 obtain⟨i,hi,h⟩:=bs h
 split at h
 ·rename_i hloc
  obtain⟨z1,z2,z3,z4⟩:=C.loc hloc
  split at h
  ·split at h
   ·rename_i elt gens scope lp hl
    split at h
    ·rename_i hc
     rw[zF] at hc
     obtain⟨f,hf,rfl⟩:=ag h
     obtain⟨tg,iter,ifs,rfl,q⟩:=O.c _ _ _ _ _ hf
     obtain⟨N',t,cs,fi,tgt,tt,te,rfl,S,hd,hfold,hY⟩:=q.ex
     exact Jo i _ C.calm S hd hY z1 z2 (C.locl hc.1) (C.swap hc.1 hc.2) hfold
    ·split at h
     ·rename_i hc
      obtain⟨f,hf,rfl⟩:=ag h
      exact vd i _ z1 z2 z3 (O.f _ _ hf) (C.noswap hc) z4
     ·split at h
      ·rename_i hc
       obtain⟨f,hf,rfl⟩:=ag h
       refine vd i _ z1 z2 z3 (O.f _ _ hf) ?_ z4
       rw[qd,hc]
       simp
      ·cases h
   ·rename_i hl hn
    obtain⟨f,hf,rfl⟩:=ag h
    refine vd i _ z1 z2 z3 (O.f _ _ hf) (oa ?_) z4
    cases e<;>first|rfl|exact absurd rfl (hn _ _ _ _)|(rename_i hl _;cases hl;done)
  ·split at h
   ·rename_i hc
    obtain⟨f,hf,rfl⟩:=ag h
    exact MW i _ z1 z2 z3 (O.e _ _ hf) (oa hc) z4
   ·cases h
 ·cases h
theorem Be{env:PySem.Env}{es:List Expr}{cpos:Pos}(h:(es.all fun e=>!isStar e)=true)(hl:es.length < 20):((backTo cpos (starEach es env)).all (fun x=>!x.1)&&(backToKw cpos (keywordEach [] env)).all (fun x=>x.1.isSome)&&decide (es.length+([]:List Keyword).length+(if ([]:List Keyword).isEmpty then 0 else 1) < 30))=true:=by
 have h1:(backTo cpos (starEach es env)).all (fun x=>!x.1)=true:=by
  have:=cZ (pos:=cpos) (env:=env) h
  rw[List.all_eq_not_any_not]
  simpa using this
 rw[h1]
 simp[backToKw,keywordEach]
 omega
theorem ER(C:Bk X N sc k)(O:dm X T){e:Expr}{g:GS}(h:GQ N sc T e=some g):DS X HF₀ H₀ (.Expr e pos) g:=by
 unfold GQ at h
 split at h
 ·cases h;exact MQ
 ·rename_i x px m apos args cpos
  replace h:=bs h
  obtain⟨i,hi,h⟩:=h
  split at h
  ·rename_i hv
   simp only[zF] at hv
   obtain⟨⟨hv,hline⟩,hs⟩:=hv
   obtain⟨z1,z2,z3,z4⟩:=C.vis hv
   split at h
   ·rename_i hm
    subst hm
    split at h
    ·obtain⟨f,hf,rfl⟩:=ag h
     exact Ea i _ z1 z2 (O.e _ _ hf) z3 z4 (Be hs (by simp)) hline (bB (by simpa using hs))
    ·cases h
   ·split at h
    ·rename_i hm
     subst hm
     split at h
     ·obtain⟨f,hf,rfl⟩:=ag h
      exact Eg i _ z1 z2 (O.f _ _ hf) z3 z4 (Be hs (by simp)) hline (bB (by simpa using hs))
     ·cases h
    ·split at h
     ·rename_i hm
      subst hm
      split at h
      ·obtain⟨fk,hfk,h⟩:=bs h
       obtain⟨f,hf,rfl⟩:=ag h
       have hs':=hs
       simp only[xS,List.all_nil,Bool.and_true,zF,yP] at hs'
       exact C9 i _ z1 z2 (O.e _ _ hfk) (O.e _ _ hf) z3 z4 (Be hs (by simp)) hline (bB hs'.1) (bB hs'.2)
      ·cases h
     ·cases h
  ·cases h
 ·obtain⟨f,hf,rfl⟩:=ag h
  exact IB rfl (O.e _ _ hf)
 ·cases h
theorem K0(C:Bk X N sc k){tg:Expr}{t:aq->D->Option aq}(h:PL sc N tg=some t):OS X HF₀ H₀ tg t:=by
 unfold PL at h
 split at h
 ·obtain⟨i,hi,h⟩:=bs h
  split at h
  ·rename_i hl
   cases h
   have z:=C.loc hl
   exact FF i z.1 z.2.1 z.2.2.1 z.2.2.2
  ·cases h
 ·obtain⟨i,hi,h⟩:=bs h
  obtain⟨j,hj,h⟩:=bs h
  split at h
  ·rename_i hl
   rw[zF] at hl
   cases h
   have z:=C.loc hl.1
   have w:=C.loc hl.2
   exact Jg i j C.calm z.1 z.2.1 z.2.2.1 w.2.1 w.2.2.1 z.2.2.2 w.2.2.2
  ·cases h
 ·cases h
theorem A6(C:Bk X N sc k)(O:dm X T){x y z:Str}{px py pz pt:Pos}{m:Nat}{e:Expr}{g:GS}(h:uM sc N T x y z e=some g):DS X HF₀ H₀ (.Assign [.Tuple [.Name x px,.Name y py,.Name z pz] m pt] e pos) g:=by
 unfold uM at h
 obtain⟨i,hi,h⟩:=bs h
 obtain⟨j,hj,h⟩:=bs h
 obtain⟨l,hl',h⟩:=bs h
 split at h
 ·rename_i hl
  rw[zF,zF,zF] at hl
  obtain⟨f,hf,rfl⟩:=ag h
  have z:=C.loc hl.1.1.1
  have w:=C.loc hl.1.1.2
  have u:=C.loc hl.1.2
  exact Hj i j l _ C.calm z.1 z.2.1 z.2.2.1 w.2.1 w.2.2.1 u.2.1 u.2.2.1 hl.2 (O.e _ _ hf) z.2.2.2 w.2.2.2 u.2.2.2
 ·cases h
theorem ET(C:Bk X N sc k)(O:dm X T){x:Str}{px spos:Pos}{kx e:Expr}{g:GS}(h:Fq sc N T x kx e=some g):DS X HF₀ H₀ (.Assign [.Subscript (.Name x px) kx spos] e pos) g:=by
 unfold Fq at h
 obtain⟨i,hi,h⟩:=bs h
 split at h
 ·rename_i hv
  simp only[zF,yP] at hv
  obtain⟨hv,hc⟩:=hv
  obtain⟨z1,z2,z3,z4⟩:=C.vis hv
  obtain⟨fk,hfk,h⟩:=bs h
  obtain⟨f,hf,rfl⟩:=ag h
  refine GT i _ z1 z2 (O.e _ _ hfk) (O.e _ _ hf) z3 z4 (fun v=>?_) ?_ ?_ rfl
  ·cases kx<;>first|rfl|cases hc
  ·cases e<;>rfl
  ·rfl
 ·cases h
theorem v9(C:Bk X N sc k)(B:Bn X)(O:dm X T):∀ (n:Nat) {st:Stmt}{g:GS},vm sc N T n st=some g->DS X HF₀ H₀ st g
 | 0,st,g,h=>by cases h
 | n+1,st,g,h=>by
  have ih:=fun s g h=>v9 C B O n (st:=s) (g:=g) h
  unfold vm at h
  split at h
  ·obtain⟨f,hf,rfl⟩:=ag h;exact L6 (O.e _ _ hf)
  ·obtain⟨t,ht,h⟩:=bs h
   obtain⟨a,ha,h⟩:=bs h
   obtain⟨b,hb,rfl⟩:=ag h
   exact Oy (O.t _ _ ht) (jj ih ha) (jj ih hb)
  ·exact GM C O h
  ·exact ET C O h
  ·exact A6 C O h
  ·obtain⟨fi,hfi,h⟩:=bs h
   obtain⟨t,ht,h⟩:=bs h
   obtain⟨b,hb,rfl⟩:=ag h
   obtain⟨hd,hfold⟩:=FA C B O hfi
   exact LH _ C.pass C.calm hd (K0 C ht) (jj ih hb) hfold
  ·obtain⟨t,ht,h⟩:=bs h
   obtain⟨b,hb,rfl⟩:=ag h
   exact Gi _ C.pass (O.t _ _ ht) (jj ih hb)
  ·exact ER C O h
  ·cases h;exact Nz
  ·cases h;exact Il
  ·cases h
end
section
variable {P:Program}{w:World}{K:W.Frag}{mg:Str->Option Value}{base:Heap}{j:Nat}
def j8(P:Program)(w:World)(K:W.Frag)(mg:Str->Option Value)(base:Heap)(j:Nat)(l:List (Str×Nat×(List D->Option D))):Prop:=∀x n m,l.lookup x=some (n,m)->hV P w K mg base j x n m
def iZ(mg:Str->Option Value)(l:List (Str×Int)):Prop:=∀x i,l.lookup x=some i->∃t,mg x=some (.int i t)
theorem cx:j8 P w K mg base j []:=fun _ _ _ h=>by cases h
theorem Nf{x:Str}{n:Nat}{m:List D->Option D}{l:List (Str×Nat×(List D->Option D))}(F:hV P w K mg base j x n m)(h:j8 P w K mg base j l):j8 P w K mg base j ((x,n,m)::l):=fun y n' m' e=>by
 rw[yA] at e
 cases q:y == x with
 | true=>rw[q] at e;cases e;rw[eq_of_beq q];exact F
 | false=>rw[q] at e;exact h y n' m' e
theorem cy:iZ mg []:=fun _ _ h=>by cases h
theorem m8{x:Str}{i:Int}{l:List (Str×Int)}(F:∃t,mg x=some (.int i t))(h:iZ mg l):iZ mg ((x,i)::l):=fun y i' e=>by
 rw[yA] at e
 cases q:y == x with
 | true=>rw[q] at e;cases e;rw[eq_of_beq q];exact F
 | false=>rw[q] at e;exact h y i' e
theorem Ky{X:Cx}{N:List Str}{st:Stmt}{g:aq->Option Out}{fs:List (Str×Nat×(List D->Option D))}{is:List (Str×Int)}{HF₀ H₀:Hp}(C:Bk X N (aj st) j)(B:Bn X)(hf:j8 X.prog X.w X.K X.mg X.base j fs)(hi:iZ X.mg is)
  (t:qf (vm (aj st) N (tr ⟨fs,is⟩ 40 none (aj st) N) 40) (bG st)=some g):CS X HF₀ H₀ (bG st) g :=
 jj (fun s g h=>v9 C B (Gj (G:=⟨fs,is⟩) 40 C ⟨hf,hi,B⟩ (yM j) fun q z=>by cases z) 40 h) t
theorem QN{x:Str}{st:Stmt}{ps N:List Str}{g:aq->Option Out}{fs:List (Str×Nat×(List D->Option D))}{is:List (Str×Int)}(D:cG K mg x st ps)(S:dP N ps (aj st))(B:∀x∈cX,mg x=none)(hf:j8 P w K mg base j fs)(hi:iZ mg is)
  (t:qf (vm (aj st) N (tr ⟨fs,is⟩ 40 none (aj st) N) 40) (bG st)=some g):hV P w K mg base (j+1) x ps.length (b9 g N.length):=by
 obtain⟨f,fd,hm,F,hb⟩:=D.ex
 exact QE F S hb hm fun X hP hw hK hm' hb' C _ _ HF H=>by subst hP;subst hw;subst hK;subst hm';subst hb';exact Ky C B hf hi t
end
abbrev tW(s:Stmt)(N:List Str)(S:Sg)(l:Option Str):Option GS:=qf (vm (aj s) N (tr S 40 l (aj s) N) 40) (bG s)
theorem Of{N P:List Str}{sc:Scope}(a:sc.kind=.function:=by rfl)(b:sc.isCoroutine=false:=by rfl)(c:sc.isGenerator=false:=by rfl)(d:N.Nodup:=by decide +kernel)(e:N.take P.length=P:=by rfl)(f:∀x∈P,sc.names.lookup x=some .local \/ sc.names.lookup x=some .cell:=by decide +kernel)(g:∀y∈sc.names,y.2≠.free:=by decide +kernel):dP N P sc:=⟨a,b,c,d,e,f,g⟩
section
variable {P:Program}{w:World}{K:W.Frag}{mg:Str->Option Value}{base:Heap}{i j:Nat}
theorem fm{x:Str}{n:Nat}{m:List D->Option D}{l:List (Str×Nat×(List D->Option D))}(F:hV P w K mg base i x n m)(h:j8 P w K mg base j l)(e:i<=j:=by decide):j8 P w K mg base j ((x,n,m)::l):=Nf (F.mono e) h
theorem nr{x:Str}{st:Stmt}{ps N:List Str}{g:aq->Option Out}{S:Sg}(D:cG K mg x st ps)(B:∀x∈cX,mg x=none)(hf:j8 P w K mg base j S.fn)(hi:iZ mg S.int)(t:tW st N S none=some g)(F:dP N ps (aj st):=by exact Rf.Of):hV P w K mg base (j+1) x ps.length (b9 g N.length):=QN D F B hf hi t
end
end Rf
namespace Ex
open PySem L2 PySem.Spec PyProof.Rows
theorem sX{P:Program}{w:World}{H:Hp}{h:Heap}{a:Addr}{o:HO}(x:eK P w H h a o):∃ob,h.get? a=some ob:=by
 cases o with
 | lst xs=>obtain⟨_,_,_,_,e⟩:=x;exact⟨_,e⟩
 | tup xs=>obtain⟨_,_,_,⟨_,e,_⟩,_⟩:=x;exact⟨_,e⟩
 | dK kvs=>obtain⟨_,_,_,_,o,_,_,e,_⟩:=x;exact⟨_,e⟩
 | dT kvs=>obtain⟨_,_,_,_,o,_,_,e,_⟩:=x;exact⟨_,e⟩
 | set S n=>obtain⟨o,_,_,_,e,_⟩:=x;exact⟨_,e⟩
 | ins C dx fs=>obtain⟨_,_,_,e,_⟩:=x;exact⟨_,e⟩
 | own y=>obtain⟨_,e⟩:=x;exact⟨_,e⟩
 | xd fs=>obtain⟨_,⟨_,_,_,e,_⟩,_⟩:=x;exact⟨_,e⟩
 | rng lo hi=>obtain⟨_,_,_,e⟩:=x;exact⟨_,e⟩
 | frz ob u=>obtain⟨e,_⟩:=x;exact⟨_,e⟩
 | tab q=>obtain⟨_,e,_⟩:=x;exact⟨_,e⟩
 | cod q=>obtain⟨_,_,_,_,e0,e,_⟩:=x;cases e0;exact⟨_,e⟩
 | met f y=>exact⟨_,(show h.get? a=some _ from x)⟩
 | ext φ=>obtain⟨_,⟨_,e⟩,_⟩:=x;exact⟨_,e⟩
structure DM(P:Program)(w:World)(l:List Env)(H:Hp)(s:Shared)(cls:Value)(ea:Addr)(H':Hp)(s':Shared):Prop where
 os:s'.os=s.os
 bare:AllBare s'.gens
 un:Un (ib l) [] H H' s.heap s'.heap
 hok:nI P w H' s'.heap
 fly:∃B a0,Heap.FlyingW B l ea cls a0 s'.heap/\∀b,b∉ib l->(H' b≠none\/∃o,s.heap.get? b=some o)->∃o,B.get? b=some o
def BQ(P:Program)(w:World):Df:=fun l H s E e s'=>∃ea cls H',e=.ref ea/\DM P w l H s cls ea H' s'/\E cls none H'
section
variable {X:Cx}{pins:List (Addr×Obj)}{σ:L2.St}{H H':Hp}{s s':Shared}{cls:Value}{ea:Addr}
theorem CY{h':Heap}{B:Heap}{a0:Value}(I:Inv X pins σ H s)(hs:X.stack=X.env::X.outer)(hf:X.env.frame=some X.env.locals)(hex:X.ex=[])(hos:s'.os=s.os)(hbr:AllBare s'.gens)(hun:Un (ib X.stack) [] H H' s.heap s'.heap)(hok:nI X.prog X.w H' s'.heap)
  (hst:B.StaysIn s'.heap) (hff:s'.heap.FunFrames B X.stack) (hB:∀b,b∉ib X.stack->(H' b≠none\/∃o,s.heap.get? b=some o)->∃o,B.get? b=some o) (x1:Heap.FlyingW B X.outer ea cls a0 h') (x2:s'.heap.UpToSlots h') :
  DM X.prog X.w X.outer X.H₀ X.s₀ cls ea H' { s' with heap:=h' }:=by
 have nx:∀b:Addr,b∉X.ex:=fun b=>by rw[hex];simp
 have fs:ib X.stack=X.env.locals::ib X.outer:=by rw[hs];unfold ib;rw[jG,hf]
 have neL:∀b o,X.s₀.heap.get? b=some o->b≠X.env.locals:=fun b o e=>yR (zP (zX e) I.ok.above)
 have out:∀b o,X.s₀.heap.get? b=some o->b∉ib X.outer->b∉ib X.stack:=fun b o e hb z=>by
  rw[fs] at z
  rcases List.mem_cons.mp z with z|z
  ·exact neL b o e z
  ·exact hb z
 have stk:∀b∈ib X.stack,H' b=none:=fun b hb=>by
  obtain⟨_,o,ho,_⟩:=I.stack.mem hb
  exact hun.free b o ho (I.stkFree b hb) (by simp)
 have HK:∀b u,H' b≠none->s'.heap.get? b=some u->h'.get? b=some u:=fun b u hn e=>by
  obtain⟨o,eo⟩:=hB b (fun z=>hn (stk b z)) (.inl hn)
  have:=hst b o eo
  rw[e] at this
  cases this
  exact x1.1 b u eo
 have old:∀b o o2,b∉ib X.stack->s.heap.get? b=some o->s'.heap.get? b=some o2->h'.get? b=some o2:=fun b o o2 hb e e2=>by
  obtain⟨o3,eo⟩:=hB b hb (.inr ⟨o,e⟩)
  have:=hst b o3 eo
  rw[e2] at this
  cases this
  exact x1.1 b o2 eo
 have inO:∀b,b∈ib X.outer->b∈ib X.stack:=fun b hb=>by rw[fs];exact zC _ hb
 have slotS:∀b∈ib X.outer,∀o,s'.heap.get? b=some o->∃sl,h'.get? b=some { o with slots:=sl }:=fun b hb o e=>by
  obtain⟨_,o2,e2,d2⟩:=hff.mem (inO b hb)
  rw[e] at e2
  cases e2
  exact x2 b o e d2
 refine⟨hos.trans I.os,hbr,⟨fun b o e n hb _=>?_,fun b o e n hb _=>?_,fun b o e n _=>?_,fun b o e _=>?_,fun b xs e=>hun.tups b xs (I.base.tups b xs e),fun b o u e=>hun.frzs b o u (I.base.frzs b o u e),?_⟩,fun a o e=>?_,B,a0,x1,fun b hb hh=>?_⟩
 ·have e1:=I.base.keep b o e n hb (nx b)
  have n1:=I.base.free b o e n (nx b)
  have hb':=out b o e hb
  exact old b o o hb' e1 (hun.keep b o e1 n1 hb' (by simp))
 ·obtain⟨sl,e1⟩:=I.base.slot b o e n hb (nx b)
  have n1:=I.base.free b o e n (nx b)
  obtain⟨sl2,e2⟩:=hun.slot b _ e1 n1 (inO b hb) (by simp)
  obtain⟨sl3,e3⟩:=slotS b hb _ e2
  exact⟨sl3,e3⟩
 ·obtain⟨o1,e1⟩:=I.base.there b o e (nx b)
  exact hun.free b o1 e1 (I.base.free b o e n (nx b)) (by simp)
 ·obtain⟨o1,e1⟩:=I.base.there b o e (nx b)
  obtain⟨o2,e2⟩:=hun.there b o1 e1 (by simp)
  by_cases hb:b∈ib X.outer
  ·obtain⟨sl,e3⟩:=slotS b hb o2 e2
   exact⟨_,e3⟩
  ·exact⟨o2,old b o1 o2 (out b o e hb) e1 e2⟩
 ·exact I.base.tbls.trans (hun.tbls.trans (.kept (fun b u ⟨q,z⟩ e=>HK b u (by rw[z];simp) e) fun _ _ e _=>e))
 ·refine (hok a o e).stay (fun b u hb q=>HK b u ?_ q) (fun _ q=>q) fun _ _ q _=>q
  rcases hb with rfl|z
  ·rw[e];simp
  ·rw[z];simp
 ·refine hB b (fun z=>?_) (hh.imp id fun ⟨o,e⟩=>I.base.there b o e (nx b))
  rw[fs] at z
  rcases List.mem_cons.mp z with z|z
  ·subst z
   rcases hh with hn|⟨o,e⟩
   ·exact hn (stk _ (by rw[fs];exact zE))
   ·exact neL _ o e rfl
  ·exact hb z
theorem Nj{E E':XK}(hs:X.stack=X.env::X.outer)(hf:X.env.frame=some X.env.locals)(hex:X.ex=[])
  (hxe:∀e s',wpAny (model X.prog X.w) X.A (leaving X.env e) (fun _ s''=>BQ X.prog X.w X.outer X.H₀ X.s₀ E' e s'') (fun _ _=>False) s'->X.xe e s') (hE:∀cls H',E cls none H'->E' cls none H'):fN (BQ X.prog X.w) X E:=by
 intro pins σ H s e s' I h
 obtain⟨ea,cls,H',rfl,F,hc⟩:=h
 obtain⟨B,a0,hfl,hB⟩:=F.fly
 refine hxe _ _ ?_
 refine wpAny_leaves_onW (base:=B) (a0:=a0) (cls:=cls) (by rw[I.ok.frames,hs]) hf (by rw[<- hs];exact hfl) fun h' x1 x2=>⟨ea,cls,H',rfl,CY I hs hf hex F.os F.bare F.un F.hok hfl.1 hfl.2.2.1 hB x1 x2,hE _ _ hc⟩
theorem Bl{E':XK}{args:List Value}(I:Inv X pins σ H s)(hs:X.stack=X.env::X.outer)(hf:X.env.frame=some X.env.locals)(hex:X.ex=[])
  (hxe:∀e s',wpAny (model X.prog X.w) X.A (leaving X.env e) (fun _ s''=>BQ X.prog X.w X.outer X.H₀ X.s₀ E' e s'') (fun _ _=>False) s'->X.xe e s') (hm:Heap.MadeExcOf s.heap s'.heap ea cls args) (ho:s'.os=s.os) (hg:AllBare s'.gens) (hE:E' cls none H):X.xe (.ref ea) s':=by
 have fs:ib X.stack=X.env.locals::ib X.outer:=by rw[hs];unfold ib;rw[jG,hf]
 have hfun:=I.stack
 refine hxe _ _ ?_
 have hin:∀env∈X.stack,∀b,env.frame=some b->b∈ib X.stack:=fun env he b hb=>List.mem_filterMap.mpr ⟨env,he,hb⟩
 refine wpAny_leaves_madeW (base:=W.hideAll s.heap (ib X.stack)) (h:=s.heap) (cls:=cls) (args:=args) (by rw[I.ok.frames,hs]) hf (fun b o q=>W.of_hideAll _ q) (by rw[<- hs];exact W.funFrames_hide hfun hin) hm fun h' t x1 x2 x3 x4=>⟨ea,cls,H,rfl,?_,hE⟩
 refine CY I hs hf hex ho hg (Un.kept hm.keeps) (I.hok.kept hm.keeps) (fun b o q=>hm.keeps b o (W.of_hideAll _ q)) ((W.funFrames_hide hfun hin).of_keeps fun b o q _=>⟨o,hm.keeps b o q,rfl⟩) (fun b hb hh=>?_) x1 x4
 have ⟨o,e⟩:∃o,s.heap.get? b=some o:=by
  rcases hh with hn|h
  ·obtain⟨u,hu⟩:=Option.ne_none_iff_exists'.mp hn
   exact sX (I.hok b u hu)
  ·exact h
 exact⟨o,W.hideAll_get _ e hb⟩
end
abbrev Mn:List Value:=[.type "ValueError",.type "Exception",.type "BaseException",.type "object"]
theorem Jh{K:W.Frag}{h:Heap}{C:Addr}(X:K.In h)(q:W.excIn K C Mn "ValueError.__new__"=true) :
  ∃bm N nm qn bs hd sn sub ab col dd k0 k1 k2 k3 k5 mN,h.get? C=some (excClassObj nm qn C N bs bm hd sn sub ab col dd k0 k1 k2 k3 k5 "ValueError.__new__")/\h.Ns N mN/\mN "__init__"=none/\OwnTail h Mn bm:=by
 unfold W.excIn at q
 split at q
 ·rename_i dd cd sl ho
  split at q
  ·rename_i C' bm k0 k1 k2 k3 n k5 hm hsl
   simp only[zF,vM,yP] at q
   obtain⟨⟨⟨⟨⟨rfl,rfl⟩,hdel⟩,ht⟩,hok⟩,hni⟩:=q
   cases cd with
   | mk nm bs mro ns qn hd sn sub ab col del =>
    simp only at hm hdel hok hni
    subst hm hdel
    cases sl with
    | mk l =>
     simp only at hsl
     subst hsl
     exact⟨bm,ns,nm,qn,bs,hd,sn,sub,ab,col,dd,k0,k1,k2,k3,k5,_,X _ _ ho,.of_isNs (W.isNs_of_in X hok),W.nsMap_none_of_in X hok hni,W.tail_of_in X ht⟩
  ·cases q
 ·cases q
section
variable {X:Cx}{pins:List (Addr×Obj)}{σ:L2.St}{H:Hp}{s:Shared}
theorem Gg{E':XK}{Q:Flow->Shared->Prop}{x:Str}{C:Addr}{np cpos pos p:Pos}{t:Str}{i:Nat}(I:Inv X pins σ H s)(hc:X.calm=true)(hg:Gl X x)(hm:X.mg x=some (.ref C))(q:W.excIn X.K C Mn "ValueError.__new__"=true)
  (hs:X.stack=X.env::X.outer) (hf:X.env.frame=some X.env.locals) (hex:X.ex=[])
  (hxe:∀e s',wpAny (model X.prog X.w) X.A (leaving X.env e) (fun _ s''=>BQ X.prog X.w X.outer X.H₀ X.s₀ E' e s'') (fun _ _=>False) s'->X.xe e s') (hE:E' (.ref C) none H) (hdb:(x == ("__debug__":Str))=false) :
  wpAny (model X.prog X.w) X.A (exec (.Raise (some (.Call (.Name x np) [.Constant (.str t) i p] [] cpos)) none pos) X.env) Q X.xe s:=by
 obtain⟨bm,N,nm,qn,bs,hd,sn,sub,ab,col,dd,k0,k1,k2,k3,k5,mN,hC,hN,hni,T⟩:=Jh I.kIn q
 refine wpAny_Raise_call_subT (C:=C) (nm:=nm) (q:=qn) (N:=N) (bs:=bs) (bm:=bm) (hdct:=hd) (sn:=sn) (sub:=sub) (ab:=ab) (col:=col) (dd:=dd) (k0:=k0) (k1:=k1) (k2:=k2) (k3:=k3) (k5:=k5)
  F.excBase_ValueError (mN:=mN) (T.hasType F.excBase_ValueError.hasBase) (I.ok.hd hc) rfl hni (lG I hg hm ⟨rfl,?_⟩ hdb)
 refine Calls.evalArgs_plain (jJ (wN (k:=i) (pos:=p) (kH ⟨rfl,?_,hC,hN,T,fun h' e hme=>?_⟩)))
 ·exact yC (show 1<=4000 by omega) (by decide)
 ·exact Bl (s:={ s with toks:=s.toks+1 }) (I.tok _) hs hf hex hxe hme rfl I.bare hE
end
open PySem L2 Dl PySem.Spec PyProof.Rows
def QH(K:W.Frag)(mg:Str->Option Value)(n:Nat)(xm:List D->Option Str):Sp:=fun vs H _ E=>∃HF ds c C,aU HF H/\eN K HF/\aw K HF ds vs/\ds.length=n/\xm ds=some c/\mg c=some (.ref C)/\∀H' HF',bJ HF H HF' H'->E (.ref C) none H'
structure Af(P:Program)(w:World)(K:W.Frag)(mg:Str->Option Value)(base:Heap)(k:Nat)(x:Str)(n:Nat)(xm:List D->Option Str):Prop where
 ex:∃ (f:Addr) (fd:FuncData) (ps:List Str),oY P w K mg base (BQ P w) k f fd ps (QH K mg n xm)/\mg x=some (.ref f)/\W.keepIn K (.ref f)=true/\Binds K fd ps []
theorem Af.mono{P:Program}{w:World}{K:W.Frag}{mg:Str->Option Value}{base:Heap}{k j:Nat}{x:Str}{n:Nat}{xm:List D->Option Str}(F:Af P w K mg base k x n xm)(h:k<=j):Af P w K mg base j x n xm:=by
 obtain⟨f,fd,ps,a,b,c,d⟩:=F.ex
 exact⟨f,fd,ps,a.mono h,b,c,d⟩
structure Xk(X:Cx)(E:XK):Prop where
 hs:X.stack=X.env::X.outer
 hf:X.env.frame=some X.env.locals
 hex:X.ex=[]
 hxe:∀e s',wpAny (model X.prog X.w) X.A (leaving X.env e) (fun _ s''=>BQ X.prog X.w X.outer X.H₀ X.s₀ E e s'') (fun _ _=>False) s'->X.xe e s'
theorem Xk.pass{X:Cx}{E:XK}(hx:Xk X E):fN (BQ X.prog X.w) X E:=Nj hx.hs hx.hf hx.hex hx.hxe fun _ _ h=>h
section
variable {X:Cx}{E:XK}{HF₀ H₀:Hp}
def Qp(K:W.Frag)(mg:Str->Option Value)(E:XK)(xf:Dl.Env->Option Str):TE:=fun σ H _=>∃HF ρ c C,aU HF H/\cS K HF ρ σ/\xf ρ=some c/\mg c=some (.ref C)/\∀H' HF',bJ HF H HF' H'->E (.ref C) none H'
def HG(X:Cx)(E:XK)(e:Expr)(xf:Dl.Env->Option Str):Prop:=PE X e (Qp X.K X.mg E xf)
def tX(K:W.Frag)(mg:Str->Option Value)(HF₀ H₀:Hp)(E:XK)(xg:aq->Option Str):TS:=fun _ σ H=>∃HF ρ c C,jr K HF₀ H₀ HF H ρ σ/\xg ρ=some c/\mg c=some (.ref C)/\∀H' HF',bJ HF₀ H₀ HF' H'->E (.ref C) none H'
def DX(X:Cx)(E:XK)(HF₀ H₀:Hp)(st:Stmt)(xg:aq->Option Str):Prop:=PS X st (tX X.K X.mg HF₀ H₀ E xg)
def Dt(X:Cx)(E:XK)(HF₀ H₀:Hp)(st:List Stmt)(xg:aq->Option Str):Prop:=u3 X st (tX X.K X.mg HF₀ H₀ E xg)
theorem La{es:List Expr}{t:TA}(h:PA X.nox es t):PA X es t:=fun pos pins s σ H Q I hw =>
 xA (h pos pins s σ H Q (I.wish _) hw) (fun _ _ ⟨v,H',I',r,q⟩=>⟨v,H',I'.unwish,r,q⟩) fun _ _ z=>False.elim z
theorem MC{st:Stmt}{t:TS}(h:PS X.nox st t):PS X st t:=fun pins s σ H D I hw =>
 xA (h pins s σ H D (I.wish _) hw) (fun _ _ q=>q.unwish) fun _ _ z=>False.elim z
def jn(n:Nat)(xm:List D->Option Str)(fs:Dl.Env->Option (List D)):Dl.Env->Option Str:=fun ρ=>(fs ρ).bind fun ds=>if ds.length=n then xm ds else none
theorem Js{k n:Nat}{xm:List D->Option Str}{x:Str}{e:Expr}{es:List Expr}{fs:Dl.Env->Option (List D)}{p pos:Pos}(F:Af X.prog X.w X.K X.mg X.base k x n xm)(hr:eu k X.A)(hx:fN (BQ X.prog X.w) X E)(hg:Gl X x)(ha:DA X.nox (e::es) fs)(hdb:(x == ("__debug__":Str))=false:=by decide)
  (he:starEach (e::es) X.env=(false,eval e X.env)::starEach es X.env:=by rfl) (hpl:(backTo pos (starEach es X.env)).any (·.1)=false:=by rfl):HG X E (.Call (.Name x p) (e::es) [] pos) (jn n xm fs):=by
 obtain⟨f,fd,ps,ok,hm,hk,hb⟩:=F.ex
 refine bh (C0 (E:=E) ok hr hg hm hk hb .nil hx (La ha) hdb he hpl) fun σ H Q ⟨HF,ρ,c,C,sm,eo,hf,hc,q⟩=>?_
 obtain⟨ds,hds,hf⟩:=bs hf
 split at hf
 ·rename_i hl
  exact⟨HF,ρ,ds,sm,eo,hds,fun vs H1 HF1 g1 r1=>⟨HF1,ds,c,C,g1.fh,eo.tb.mono g1.ff,by rw[qF];exact r1,hl,hf,hc,fun H' HF' g=>q H' HF' (g1.trans g)⟩⟩
 ·cases hf
def NR(t:Dl.Env->Option Bool)(xa xb:Dl.Env->Option Str):Dl.Env->Option Str:=fun ρ=>(t ρ).bind fun b=>if b=true then xa ρ else xb ρ
theorem NA{c a b:Expr}{pos:Pos}{t:Dl.Env->Option Bool}{xa xb:Dl.Env->Option Str}(hc:DT X.nox c t)(ha:HG X E a xa)(hb:HG X E b xb):HG X E (.IfExp c a b pos) (NR t xa xb) :=
 bh (Aa (PT.nox hc) ha hb) fun σ H Q ⟨HF,ρ,c,C,sm,eo,hf,hc,q⟩=>by
  obtain⟨b,h,hf⟩:=bs hf
  refine⟨HF,ρ,b,sm,eo,h,fun H' HF' G=>?_⟩
  cases b with
  | true=>exact rZ ⟨HF',ρ,c,C,G.fh,eo.mono G.ff,hf,hc,fun H2 HF2 G2=>q H2 HF2 (G.trans G2)⟩
  | false=>exact oV ⟨HF',ρ,c,C,G.fh,eo.mono G.ff,hf,hc,fun H2 HF2 G2=>q H2 HF2 (G.trans G2)⟩
theorem F5{xf:Dl.Env->Option Str}{K:W.Frag}{mg:Str->Option Value}{D:Ends}{σ:L2.St}{H:Hp}{Q:VK}(h:tX K mg HF₀ H₀ E (fun ρ=>xf (aW ρ)) D σ H):Qp K mg E xf σ H Q:=by
 obtain⟨HF,ρ,c,C,S,hx,hc,q⟩:=h
 exact⟨H,aW ρ,c,C,.refl _,S.all,hx,hc,fun H' HF' G=>q H' HF (S.step G.hh).gr⟩
theorem Ls{e:Expr}{pos:Pos}{xf:Dl.Env->Option Str}(h:HG X E e xf)(hs:swapsWith e none pos.line X.env=pure false:=by rfl):DX X E HF₀ H₀ (.Expr e pos) (fun ρ=>xf (aW ρ)):=cH (mZ h hs) fun D σ H q=>F5 q
theorem KH{e:Expr}{pos:Pos}{xf:Dl.Env->Option Str}(h:HG X E e xf):DX X E HF₀ H₀ (.Return (some e) pos) (fun ρ=>xf (aW ρ)):=cH (BE h) fun D σ H q=>F5 q
theorem rK{st:Stmt}{rest:List Stmt}{xg:aq->Option Str}(h:DX X E HF₀ H₀ st xg):Dt X E HF₀ H₀ (st::rest) xg:=fun pins s σ H D I q=>by
 refine vH (cw (h pins s σ H ⟨fun _ _=>False,fun _ _=>False,fun _ _=>False,fun _ _=>False⟩ I q) fun f s1 z=>?_)
 cases f with
 | next=>obtain⟨_,_,_,z⟩:=z;exact z.elim
 | brk=>obtain⟨_,_,_,z⟩:=z;exact z.elim
 | cont=>obtain⟨_,_,_,z⟩:=z;exact z.elim
 | ret u=>obtain⟨_,_,_,_,_,z⟩:=z;exact z.elim
def p8(g:aq->Option Out)(xg:aq->Option Str):aq->Option Str:=fun ρ=>(g ρ).bind fun o=>match o with|.nx ρ'=>xg ρ'|.rt _=>none
theorem Ai{st:Stmt}{rest:List Stmt}{g:aq->Option Out}{xg:aq->Option Str}(h:DS X.nox HF₀ H₀ st g)(hr:Dt X E HF₀ H₀ rest xg):Dt X E HF₀ H₀ (st::rest) (p8 g xg) :=
 o7 (ix (MC h) hr) fun D σ H ⟨HF,ρ,c,C,S,hx,hc,q⟩=>by
  obtain⟨o,ho,hx⟩:=bs hx
  cases o with
  | rt d=>cases hx
  | nx ρ'=>exact⟨HF,ρ,.nx ρ',S,ho,fun σ' H' HF' S' _=>⟨HF',ρ',c,C,S',hx,hc,q⟩⟩
def Et(t:Dl.Env->Option Bool)(xa xb:aq->Option Str):aq->Option Str:=fun ρ=>(t (aW ρ)).bind fun b=>if b=true then xa ρ else xb ρ
theorem M9{c:Expr}{a b:List Stmt}{pos:Pos}{t:Dl.Env->Option Bool}{xa xb:aq->Option Str}(hc:DT X.nox c t)(ha:Dt X E HF₀ H₀ a xa)(hb:Dt X E HF₀ H₀ b xb):DX X E HF₀ H₀ (.If c a b pos) (Et t xa xb) :=
 cH (Gu (PT.nox hc) ha hb) fun D σ H ⟨HF,ρ,c,C,S,hx,hc,q⟩=>by
  obtain⟨b,h,hx⟩:=bs hx
  refine⟨H,aW ρ,b,.refl _,S.all,h,fun H' HF' G=>?_⟩
  cases b with
  | true=>exact rZ ⟨HF,ρ,c,C,S.step G.hh,hx,hc,q⟩
  | false=>exact oV ⟨HF,ρ,c,C,S.step G.hh,hx,hc,q⟩
theorem Gv{x:Str}{C:Addr}{np cpos pos p:Pos}{t:Str}{i:Nat}(hk:Xk X E)(hc:X.calm=true)(hg:Gl X x)(hm:X.mg x=some (.ref C))(q:W.excIn X.K C Mn "ValueError.__new__"=true)(hdb:(x == ("__debug__":Str))=false:=by decide) :
  DX X E HF₀ H₀ (.Raise (some (.Call (.Name x np) [.Constant (.str t) i p] [] cpos)) none pos) (fun _=>some x):=fun pins s σ H D I ⟨HF,ρ,c,C',S,hx,hc',z⟩=>by
 cases hx
 rw[hm] at hc'
 cases hc'
 exact Gg I hc hg hm q hk.hs hk.hf hk.hex hk.hxe (z H HF S.gr) hdb
end
def qm(xg:aq->Option Str)(n:Nat)(args:List D):Option Str:=xg (args.map Slot.val++List.replicate (n - args.length) .non)
theorem yi{K:W.Frag}{HF H:Hp}{ds:List D}{vs:List V}{N:List Str}(sm:aU HF H)(tb:eN K HF)(rr:aw K HF ds vs):jr K HF H HF H (ds.map Slot.val++List.replicate (N.length - ds.length) .non) (L2.start N vs):=by
 refine⟨.refl sm,fun i e h=>?_,fun i es h=>?_,fun i j es fs a h=>?_,?_,tb⟩
 ·have hi:i < ds.length:=by
   by_cases hi:i < ds.length
   ·exact hi
   ·rw[yT (by simpa using hi),yX] at h
    split at h<;>cases h
  rw[yS (by simpa using hi),zO] at h
  obtain⟨d',hd',h⟩:=ag h
  cases h
  obtain⟨v,hv,rv⟩:=rr.getD hd'
  refine⟨v,?_,rv⟩
  unfold L2.start
  rw[yS (by simpa [rr.length] using hi),zO,hv]
  rfl
 ·exfalso
  by_cases hi:i < ds.length
  ·rw[yS (by simpa using hi),zO] at h
   obtain⟨d',hd',h⟩:=ag h
   cases h
  ·rw[yT (by simpa using hi),yX] at h
   split at h<;>cases h
 ·exfalso
  by_cases hi:i < ds.length
  ·rw[yS (by simpa using hi),zO] at h
   obtain⟨d',hd',h⟩:=ag h
   cases h
  ·rw[yT (by simpa using hi),yX] at h
   split at h<;>cases h
 ·unfold L2.start
  rw[zN,zN,zD,zD,xM,xM,rr.length]
  exact yM _
theorem fnX{P:Program}{w:World}{K:W.Frag}{mg:Str->Option Value}{base:Heap}{k:Nat}{N:List Str}{x qual:Str}{st:Stmt}{f:Addr}{fd:FuncData}{ps:List Str}{xg:aq->Option Str}(F:FO K x qual st f fd)(S:dP N ps (aj st))(hb:Binds K fd ps [])(hm:mg x=some (.ref f))
  (body:∀ (X:Cx) (E:XK),X.prog=P->X.w=w->X.K=K->X.mg=mg->X.base=base->Bk X.nox N (aj st) k->X.calm=true->Xk X E->∀HF₀ H₀,Dt X E HF₀ H₀ (bG st) xg):Af P w K mg base (k+1) x ps.length (qm xg N.length):=by
 refine⟨f,fd,ps,?_,hm,F.kp,hb⟩
 obtain⟨oc,od,kV,doc,pm,an,cdv,ct,osl,rfl,lk,hcd⟩:=F.ex
 refine FB lk hcd S (fun vs H Q E ⟨HF,ds,c,C,h1,_,h2,h3,_⟩=>by rw[h2.length,h3]) fun A outer s H vs Q E hr ⟨HF,ds,c,C,sm,tb,rr,hl,hd,hc,q⟩=>?_
 refine⟨_,body (rD (BQ P w) P w K mg base N qual (aj st) f cdv A outer s H E) E rfl rfl rfl rfl rfl ⟨rfl,S.nd,fun y kd hy=>.inl hy,rfl,fun _ _=>rfl,hr,rfl,S.kind⟩ rfl ⟨rfl,rfl,rfl,fun e s' z=>xA z (fun _ _ h=>h) fun _ _ h=>h.elim⟩ HF H,?_⟩
 exact⟨HF,_,c,C,yi sm tb rr,hd,hc,q⟩
section
variable {X:Cx}{pins:List (Addr×Obj)}{σ:L2.St}{H H':Hp}{s s':Shared}{cls:Value}{ea:Addr}
theorem Hh{h':Heap}{B:Heap}(I:Inv X pins σ H s)(hun:Un (ib X.stack) [] H H' s.heap s'.heap)(hok:nI X.prog X.w H' s'.heap)
  (hst:B.StaysIn s'.heap) (hff:s'.heap.FunFrames B X.stack) (hB:∀b,b∉ib X.stack->(H' b≠none\/∃o,s.heap.get? b=some o)->∃o,B.get? b=some o) (x1:B.StaysIn h') (x2:s'.heap.UpToSlots h') :
  Un (ib X.stack) [] H H' s.heap h'/\nI X.prog X.w H' h':=by
 have stk:∀b∈ib X.stack,H' b=none:=fun b hb=>by
  obtain⟨_,o,ho,_⟩:=I.stack.mem hb
  exact hun.free b o ho (I.stkFree b hb) (by simp)
 have HK:∀b u,H' b≠none->s'.heap.get? b=some u->h'.get? b=some u:=fun b u hn e=>by
  obtain⟨o,eo⟩:=hB b (fun z=>hn (stk b z)) (.inl hn)
  have:=hst b o eo
  rw[e] at this
  cases this
  exact x1 b u eo
 have old:∀b o o2,b∉ib X.stack->s.heap.get? b=some o->s'.heap.get? b=some o2->h'.get? b=some o2:=fun b o o2 hb e e2=>by
  obtain⟨o3,eo⟩:=hB b hb (.inr ⟨o,e⟩)
  have:=hst b o3 eo
  rw[e2] at this
  cases this
  exact x1 b o2 eo
 have slotS:∀b∈ib X.stack,∀o,s'.heap.get? b=some o->∃sl,h'.get? b=some { o with slots:=sl }:=fun b hb o e=>by
  obtain⟨_,o2,e2,d2⟩:=hff.mem hb
  rw[e] at e2
  cases e2
  exact x2 b o e d2
 refine⟨⟨fun b o e n hb _=>?_,fun b o e n hb _=>?_,fun b o e n _=>hun.free b o e n (by simp),fun b o e _=>?_,hun.tups,hun.frzs,?_⟩,fun a o e=>?_⟩
 ·exact old b o o hb e (hun.keep b o e n hb (by simp))
 ·obtain⟨sl2,e2⟩:=hun.slot b o e n hb (by simp)
  obtain⟨sl3,e3⟩:=slotS b hb _ e2
  exact⟨sl3,e3⟩
 ·obtain⟨o2,e2⟩:=hun.there b o e (by simp)
  by_cases hb:b∈ib X.stack
  ·obtain⟨sl,e3⟩:=slotS b hb o2 e2
   exact⟨_,e3⟩
  ·exact⟨o2,old b o o2 hb e e2⟩
 ·exact hun.tbls.trans (.kept (fun b u ⟨q,z⟩ e=>HK b u (by rw[z];simp) e) fun _ _ e _=>e)
 ·refine (hok a o e).stay (fun b u hb q=>HK b u ?_ q) (fun _ q=>q) fun _ _ q _=>q
  rcases hb with rfl|z
  ·rw[e];simp
  ·rw[z];simp
theorem DM.inv(I:Inv X pins σ H s)(F:DM X.prog X.w X.stack H s cls ea H' s'):Inv X pins σ H' s':=I.call' F.os F.un F.hok F.bare (fun b hb=>absurd hb (by simp))
theorem DM.stay{h' B:Heap}{a0:Value}(I:Inv X pins σ H s)(F:DM X.prog X.w X.stack H s cls ea H' s')(hfl:Heap.FlyingW B X.stack ea cls a0 s'.heap)(hB:∀b,b∉ib X.stack->(H' b≠none\/∃o,s.heap.get? b=some o)->∃o,B.get? b=some o)
  (x1:Heap.FlyingW B X.stack ea cls a0 h') (x2:s'.heap.UpToSlots h'):DM X.prog X.w X.stack H s cls ea H' { s' with heap:=h' }:=by
 obtain⟨u,k⟩:=Hh I F.un F.hok hfl.1 hfl.2.2.1 hB x1.1 x2
 exact⟨F.os,F.bare,u,k,B,a0,x1,hB⟩
theorem land{M:Model}{E:Value->Shared->Prop}{Q:Unit->Shared->Prop}(I:Inv X pins σ H s)(hs:X.stack=X.env::X.outer)(hf:X.env.frame=some X.env.locals)(F:DM X.prog X.w X.stack H s cls ea H' s')
  (k:∀h',DM X.prog X.w X.stack H s cls ea H' { s' with heap:=h' }->Q () { s' with heap:=h' }) :
  wpAny M X.A (noteFrame (.ref ea) X.env) (fun _ s2=>wpAny M X.A (setFlight (.ref ea) none) Q E s2) E s':=by
 obtain⟨B,a0,hfl,hB⟩:=F.fly
 refine wpAny_looks_onW (base:=B) (a0:=a0) (cls:=cls) (by rw[I.ok.frames,hs]) hf (by rw[<- hs];exact hfl) fun h4 hh x2=>?_
 refine wpAny_landsW (s:={ s' with heap:=h4 }) hh fun h5 y1 y2=>k h5 ?_
 exact F.stay I hfl hB (by rw[hs];exact y1) (x2.trans y2)
theorem again{M:Model}{A:Around}{E:Value->Shared->Prop}{Q:Unit->Shared->Prop}(I:Inv X pins σ H s)(F:DM X.prog X.w X.stack H s cls ea H' s')
  (k:∀h',DM X.prog X.w X.stack H s cls ea H' { s' with heap:=h' }->Q () { s' with heap:=h' }):wpAny M A (setFlight (.ref ea) none) Q E s':=by
 obtain⟨B,a0,hfl,hB⟩:=F.fly
 exact lands_againW hfl fun h5 y1 y2=>k h5 (F.stay I hfl hB y1 y2)
end
section
variable {X:Cx}{pins:List (Addr×Obj)}{σ:L2.St}{H H':Hp}{s s':Shared}{cls:Value}{ea:Addr}
abbrev jc(X:Cx)(A':Around):Cx:={ X with A:=A',calm:=false }
theorem pU{A':Around}(I:Inv X pins σ H s)(hfr:A'.frames=X.A.frames):Inv (jc X A') pins σ H s :=
 let ok:=I.ok
 ⟨⟨ok.mod,ok.kind,ok.glob,ok.blt,ok.above,ok.inj,ok.has,ok.cab,fun z=>(by cases z),hfr.trans ok.frames,ok.stk,ok.exf,ok.bs,ok.bsz,ok.noex,ok.exfs,ok.funs,ok.frf⟩,I.os,I.bare,I.base,I.loc,I.cell,I.free,I.freeC,I.pin,I.hok,I.len⟩
theorem Ba{A':Around}(ok:X.Ok)(I:Inv (jc X A') pins σ H s):Inv X pins σ H s:=⟨ok,I.os,I.bare,I.base,I.loc,I.cell,I.free,I.freeC,I.pin,I.hok,I.len⟩
theorem Bf{h':Heap}{m':Str->Option Value}{t':Nat}(I:Inv X pins σ H s)(hn:h'.Ns X.env.locals m')(hs:Heap.SameBut X.env.locals s.heap h'):Inv X pins (List.replicate X.N.length none) H { s with heap:=h',toks:=t' }:=by
 have neL:∀b o,X.s₀.heap.get? b=some o->b≠X.env.locals:=fun b o e=>yR (zP (zX e) I.ok.above)
 have kp:∀b o,b≠X.env.locals->s.heap.get? b=some o->h'.get? b=some o:=fun b o ne e=>(hs.2 b ne).trans e
 have tr:∀b u,H b=some u->b≠X.env.locals:=fun b u e z=>by rw[z,I.free] at e;cases e
 refine⟨I.ok,I.os,I.bare,⟨fun b o e n hb hx=>kp b o (neL b o e) (I.base.keep b o e n hb hx),fun b o e n hb hx=>?_,I.base.free,fun b o e hx=>?_,I.base.tups,I.base.frzs,?_⟩,⟨m',hn,fun i x v _ h2 _=>?_⟩,fun x c e=>?_,I.free,I.freeC,fun p hp=>?_,fun a o e=>?_,?_⟩
 ·obtain⟨sl,e1⟩:=I.base.slot b o e n hb hx
  exact⟨sl,kp b _ (neL b o e) e1⟩
 ·obtain⟨o',e1⟩:=I.base.there b o e hx
  exact⟨o',kp b _ (neL b o e) e1⟩
 ·exact I.base.tbls.trans (.kept (fun b u ⟨q,z⟩ e=>kp b u (tr b _ z) e) fun _ _ e _=>e)
 ·rw[yX] at h2
  split at h2<;>cases h2
 ·obtain⟨v,o,ho,hd⟩:=I.cell x c e
  exact⟨v,o,kp c o (I.cne x c e) ho,hd⟩
 ·obtain⟨e,n,ne,r⟩:=I.pin p hp
  exact⟨kp _ _ ne e,n,ne,r⟩
 ·refine (I.hok a o e).stay (fun b u hb q=>kp b u ?_ q) (fun _ q=>q) fun _ _ q _=>q
  rcases hb with rfl|z
  ·exact tr b _ e
  ·exact tr b _ z
 ·simp
def ExcAt(l:List PySem.Env)(H:Hp)(h:Heap)(ea:Addr)(cls:Value):Prop:=(∃ob vs,h.get? ea=some ob/\ob.cls=cls/\ob.data=.fields vs)/\H ea=none/\ea∉ib l
theorem LO{i:Nat}{x n:Str}{C:Addr}{np pos:Pos}{b₀:Stmt}{suite:List Stmt}{rest:List ExceptHandler}{D:Ends}(I:Inv X pins σ H s)(F:DM X.prog X.w X.stack H s cls ea H' s')(hg:Gl X x)(hm:X.mg x=some (.ref C))(hdb:(x == ("__debug__":Str))=false)
  (hx:W.exmOne X.K cls (.ref C)=some true) (hN:X.N.Nodup) (hi:X.N[i]?=some n) (hl:X.env.kindOf n=some .local) (hsc:X.env.scope.names.lookup n=some .local) (hcl:X.env.cells.lookup n=none)
  (k:∀s2,Inv (jc X (X.A.mark (some (.ref ea)))) pins (σ.set i (some (.ref ea))) H' s2->ExcAt X.stack H' s2.heap ea cls ->
   wpAny (model X.prog X.w) (X.A.mark (some (.ref ea))) (execs (b₀::suite) X.env) (fun f s3=>∃u v σ' H3,f=.ret u/\Inv (jc X (X.A.mark (some (.ref ea)))) pins σ' H3 s3/\RelV v u/\D.rt v H3) (fun _ _=>False) s2) :
  wpAny (model X.prog X.w) X.A (handleBy (.ref ea) X.env (.ExceptHandler (some (.Name x np)) (some n) (b₀::suite) pos::rest)) (SP X pins D) X.xe s':=by
 have hfr:(X.A.mark (some (.ref ea))).frames=X.A.frames:=rfl
 have I1:=F.inv I
 obtain⟨B,a0,hfl,hB⟩:=F.fly
 obtain⟨ob,hob,hobc⟩:=hfl.there
 refine wpAny_handleBy_cons (codeAny_handlers_test ?_) (by intro q;cases q)
 refine lG (X:=jc X (X.A.mark (some (.ref ea)))) (pU I1 hfr) hg hm ?_ hdb
 have LT:W.Looks (model X.prog X.w) s'.heap (typeOf (.ref ea)) cls:=fun A Q E s2 k2 q=>wpAny_typeOf_ref (k2 _ _ hob) (by rw[hobc];exact q)
 refine (W.exm_one I1.kIn LT hx).here ?_
 refine codeAny_handlers_suite_as ?_
 refine again I F fun h2 F2=>?_
 obtain⟨B2,a2,hfl2,hB2⟩:=F2.fly
 obtain⟨oe,vs,T,oT,ts,he,⟨hec,_⟩,hed,_⟩:=hfl2.2.2.2
 refine nX (X:=X) (i:=i) (v:=.ref ea) (F2.inv I) hN hi (.inl hsc) rfl (fun s2 I2 hsb=>?_) (.inr hsc)
 obtain⟨a,hsb,ha⟩:=hsb
 have hal:a=X.env.locals:=by
  rcases ha with h|h
  ·exact h
  ·rw[hcl] at h;cases h
 subst hal
 have hne:ea≠X.env.locals:=fun z=>by
  obtain⟨m,⟨o,es,ep,ho,hd,_⟩,_⟩:=(F2.inv I).loc
  rw[<- z] at ho
  have:oe=o:=by rw[he] at ho;exact xD ho
  rw[<- this,hed] at hd
  cases hd
 have hnf:ea∉ib X.stack:=fun z=>by
  obtain⟨_,o2,e2,d2⟩:=hfl2.2.2.1.mem z
  have:oe=o2:=by rw[he] at e2;exact xD e2
  exact d2 vs (this ▸ hed)
 have hno:H' ea=none:=by
  cases q:H' ea with
  | none=>rfl
  | some u =>
   obtain⟨o,eo⟩:=hB2 ea hnf (.inl (by rw[q];simp))
   rw[hfl2.2.1] at eo
   cases eo
 refine xA (k s2 (pU I2 hfr) ⟨⟨oe,vs,(hsb.2 ea hne).trans he,hec,hed⟩,hno,hnf⟩) (fun f s3 hz=>?_) fun _ _ z=>z.elim
 obtain⟨u,v,σ',H3,rfl,I3,r,d⟩:=hz
 have I4:=Ba I1.ok I3
 obtain⟨m3,hn3,_⟩:=id I4.loc
 exact wpAny_nameGoes hl hn3 (by rw[I4.ok.kind];rfl) fun h' m' hns hsb'=>⟨v,_,H3,Bf I4 hns hsb',r,d⟩
end
abbrev gq(X:Cx)(pn:List (Addr×Obj))(xe:Value->Shared->Prop):Cx:={ X with pn:=pn,xe:=xe }
section
variable {X:Cx}{pins:List (Addr×Obj)}{σ:L2.St}{H H':Hp}{s s':Shared}
theorem FK{pn:List (Addr×Obj)}{xe:Value->Shared->Prop}(ok:X.Ok):(gq X pn xe).Ok :=
 ⟨ok.mod,ok.kind,ok.glob,ok.blt,ok.above,ok.inj,ok.has,ok.cab,ok.hd,ok.frames,ok.stk,ok.exf,ok.bs,ok.bsz,ok.noex,ok.exfs,ok.funs,ok.frf⟩
theorem Cw{pn pins':List (Addr×Obj)}{xe:Value->Shared->Prop}(I:Inv X pins σ H s)(h:∀p∈pn++pins',p∈X.pn++pins):Inv (gq X pn xe) pins' σ H s :=
 ⟨FK I.ok,I.os,I.bare,I.base,I.loc,I.cell,I.free,I.freeC,fun p hp=>I.pin p (h p hp),I.hok,I.len⟩
theorem Es{pn pins':List (Addr×Obj)}{xe:Value->Shared->Prop}(ok:X.Ok)(I:Inv (gq X pn xe) pins' σ H s)(h:∀p∈X.pn++pins,p∈pn++pins'):Inv X pins σ H s :=
 ⟨ok,I.os,I.bare,I.base,I.loc,I.cell,I.free,I.freeC,fun p hp=>I.pin p (h p hp),I.hok,I.len⟩
def CK(X:Cx)(i:Nat)(ss:List Stmt)(c:Str)(d:D):Prop:=∀ (pn pins:List (Addr×Obj)) (xe:Value->Shared->Prop) (σ:L2.St) (H:Hp) (s:Shared) (ea C:Addr),X.mg c=some (.ref C)->Inv (jc (gq X pn xe) (X.A.mark (some (.ref ea)))) pins σ H s->σ[i]?=some (some (.ref ea)) ->
 ExcAt X.stack H s.heap ea (.ref C)->wpAny (model X.prog X.w) (X.A.mark (some (.ref ea))) (execs ss X.env) (fun f s3=>∃u v σ' H3,f=.ret u/\Inv (jc (gq X pn xe) (X.A.mark (some (.ref ea)))) pins σ' H3 s3/\RelV v u/\∀HF,aU HF H->∃HF3,bJ HF H HF3 H3/\Rep X.K HF3 d v) (fun _ _=>False) s
def Ar(gb:aq->Option Out)(xg:aq->Option Str)(fin:Str->Option D):aq->Option Out:=fun ρ=>match gb ρ with
 | some (.rt d)=>some (.rt d)
 | some (.nx _)=>none
 | none=>(xg ρ).bind fun c=>(fin c).map Out.rt
theorem Lq{HF₀ H₀:Hp}{i:Nat}{x n:Str}{CF:Addr}{np hpos pos:Pos}{body:List Stmt}{b₀:Stmt}{suite:List Stmt}{gb:aq->Option Out}{xg:aq->Option Str}{fin:Str->Option D}(hs:X.stack=X.env::X.outer)(hf:X.env.frame=some X.env.locals)
  (hg:Gl X x) (hm:X.mg x=some (.ref CF)) (hdb:(x == ("__debug__":Str))=false) (hN:X.N.Nodup) (hi:X.N[i]?=some n) (hl:X.env.kindOf n=some .local) (hsc:X.env.scope.names.lookup n=some .local) (hcl:X.env.cells.lookup n=none)
  (hok:CS X.nox HF₀ H₀ body gb) (hx:∀pn xe E,fN (BQ X.prog X.w) (gq X pn xe) E->Dt (gq X pn xe) E HF₀ H₀ body xg)
  (hfin:∀c d,fin c=some d->(∀C,X.mg c=some (.ref C)->W.exmOne X.K (.ref C) (.ref CF)=some true)/\(∃C,X.mg c=some (.ref C))/\CK X i (b₀::suite) c d) :
  DS X HF₀ H₀ (.Try body [.ExceptHandler (some (.Name x np)) (some n) (b₀::suite) hpos] [] [] pos) (Ar gb xg fin):=by
 intro pins s σ H D I ⟨HF,ρ,o,S,hgo,q⟩
 refine wpAny_Try_except ?_
 unfold Ar at hgo
 split at hgo
 ·rename_i d hgb
  cases hgo
  refine xA (u3.nox hok pins s σ H { D with nx:=fun _ _=>False,bk:=fun _ _=>False,ct:=fun _ _=>False } I ⟨HF,ρ,.rt d,S,hgb,q⟩ |> fun _=>hok pins s σ H { D with nx:=fun _ _=>False,bk:=fun _ _=>False,ct:=fun _ _=>False } (I.wish _) ⟨HF,ρ,.rt d,S,hgb,q⟩) (fun f s1 z=>?_) fun _ _ z=>z.elim
  cases f with
  | next=>obtain⟨_,_,_,z⟩:=z;exact z.elim
  | brk=>obtain⟨_,_,_,z⟩:=z;exact z.elim
  | cont=>obtain⟨_,_,_,z⟩:=z;exact z.elim
  | ret u=>exact SP.unwish (D:=D) z
 ·cases hgo
 ·obtain⟨c,hc,hgo⟩:=bs hgo
  obtain⟨d,hd,rfl⟩:=ag hgo
  obtain⟨hex,⟨C,hC⟩,hsu⟩:=hfin c d hd
  have hxm:=hex C hC
  let E1:XK:=fun cls _ H'=>cls=.ref C/\∃HF',bJ HF₀ H₀ HF' H'
  let xeT:Value->Shared->Prop:=fun e s1=>∃pins' σ' Hc s0 ea H',e=.ref ea/\Inv (gq X (X.pn++pins) X.xe) pins' σ' Hc s0/\DM X.prog X.w X.stack Hc s0 (.ref C) ea H' s1/\∃HF',bJ HF₀ H₀ HF' H'
  have hp:fN (BQ X.prog X.w) (gq X (X.pn++pins) xeT) E1:=fun pins' σ' Hc s0 e s1 Ic hcx=>by
   obtain⟨ea,cls,H',rfl,F,rfl,HF',G⟩:=hcx
   exact⟨pins',σ',Hc,s0,ea,H',rfl,⟨FK I.ok,Ic.os,Ic.bare,Ic.base,Ic.loc,Ic.cell,Ic.free,Ic.freeC,Ic.pin,Ic.hok,Ic.len⟩,F,HF',G⟩
  have hI:Inv (gq X (X.pn++pins) xeT) [] σ H s:=Cw I fun p hp=>by rw[qF] at hp;exact hp
  refine xA (hx _ _ E1 hp [] s σ H ⟨fun _ _=>False,fun _ _=>False,fun _ _=>False,fun _ _=>False⟩ hI ⟨HF,ρ,c,C,S,hc,hC,fun H' HF' G=>⟨rfl,HF',G⟩⟩) (fun f s1 z=>?_) fun e s1 z=>?_
  ·exfalso
   cases f with
   | next=>obtain⟨_,_,_,z⟩:=z;exact z
   | brk=>obtain⟨_,_,_,z⟩:=z;exact z
   | cont=>obtain⟨_,_,_,z⟩:=z;exact z
   | ret u=>obtain⟨_,_,_,_,_,z⟩:=z;exact z
  ·obtain⟨pins',σ',Hc,s0,ea,H',rfl,Ic,F,HF',G⟩:=z
   refine land (X:=gq X (X.pn++pins) X.xe) Ic hs hf F fun h' F'=>?_
   refine cw (LO (X:=gq X (X.pn++pins) X.xe) (D:=⟨fun _ _=>False,fun v H3=>D.rt v H3,fun _ _=>False,fun _ _=>False⟩) Ic F' hg hm hdb hxm hN hi hl hsc hcl fun s2 I2 hob=>?_) fun f s3 z=>?_
   ·have hlen:i < σ'.length:=by rw[Ic.len];exact (List.getElem?_eq_some_iff.mp hi).1
    refine xA (hsu _ _ _ _ _ _ _ C hC I2 (by simp[hlen]) hob) (fun f s3 z=>?_) fun _ _ z=>z
    obtain⟨u,v,σ3,H3,rfl,I3,r,z⟩:=z
    obtain⟨HF3,g3,rp⟩:=z HF' G.fh
    exact⟨u,v,σ3,H3,rfl,I3,r,q v H3 HF3 (G.trans g3) rp⟩
   ·cases f with
    | next=>obtain⟨_,_,_,z⟩:=z;exact z.elim
    | brk=>obtain⟨_,_,_,z⟩:=z;exact z.elim
    | cont=>obtain⟨_,_,_,z⟩:=z;exact z.elim
    | ret u =>
     obtain⟨v,σ3,H3,I3,r,z⟩:=z
     exact⟨v,σ3,H3,Es I.ok I3 fun p hp=>qJ _ hp,r,z⟩
end
structure Cb(P:Program)(w:World)(K:W.Frag)(mg:Str->Option Value)(base:Heap)(k:Nat)(x c:Str)(d:D):Prop where
 ex:∃ (f:Addr) (fd:FuncData) (ps:List Str),mg x=some (.ref f)/\W.keepIn K (.ref f)=true/\Binds K fd ps []/\ps.length=1 /\
  ∀ (A:Around) (outer:List PySem.Env) (s:Shared) (H:Hp) (args:Args) (ea C:Addr),A.depth+3 * k+5 < recursionLimit->A.units+16 * k+200 < cLine->BA P w K mg base A outer s H->BindsTo s fd args (ps.zip [.ref ea])->mg c=some (.ref C)->ExcAt outer H s.heap ea (.ref C) ->
   codeAny (model P w) A (.call (.ref f) args) (fun r s'=>∃u,r=.ok (.ret u)/\CE outer P w H s (fun v H'=>∀HF,aU HF H->∃HF',bJ HF H HF' H'/\Rep K HF' d v) u s') s
section
variable {X:Cx}
theorem Dy{k i:Nat}{x n c:Str}{d:D}{p pe cpos pos:Pos}(R:Cb X.prog X.w X.K X.mg X.base k x c d)(hr:eu k X.A)(hg:Gl X x)(hdb:(x == ("__debug__":Str))=false)(hi:X.N[i]?=some n)(hl:X.env.kindOf n=some .local)(hsc:X.env.scope.names.lookup n=some .local)(hnd:(n == ("__debug__":Str))=false) :
  CK X i [.Return (some (.Call (.Name x p) [.Name n pe] [] cpos)) pos] c d:=by
 obtain⟨f,fd,ps,hm,hk,hb,hpl,run⟩:=R.ex
 intro pn pins xe σ H s ea C hC I hσ hob
 have ev:∀ {Q:Value->Shared->Prop},Q (.ref ea) s->wpAny (model X.prog X.w) (X.A.mark (some (.ref ea))) (eval (.Name n pe) X.env) Q (fun _ _=>False) s:=fun {Q} q=>by
  obtain⟨m,hn,hlo⟩:=I.loc
  obtain⟨u,r,l⟩:=hlo i n (.ref ea) hi hσ (.inl hsc)
  have r:u=.ref ea:=r
  subst r
  rcases l with ⟨hk,hm⟩|⟨hk,_⟩
  ·exact wJ (wA I.ok.kind hk hn hm q) hnd
  ·have hk:X.env.kindOf n=some .cell\/X.env.kindOf n=some .free:=hk
   rw[hl] at hk
   rcases hk with hk|hk<;>cases hk
 have key:wpAny (model X.prog X.w) (X.A.mark (some (.ref ea))) (eval (.Call (.Name x p) [.Name n pe] [] cpos) X.env) (EP (jc (gq X pn xe) (X.A.mark (some (.ref ea)))) pins σ (fun v H'=>∀HF,aU HF H->∃HF',bJ HF H HF' H'/\Rep X.K HF' d v)) (fun _ _=>False) s:=by
  refine qY (lG I hg hm ?_ hdb)
  refine W.callWith_K (h₀:=X.base) I.ok.mod.kin hk (jJ (ev (kH ⟨I.kIn,?_⟩))) rfl rfl
  refine vL (jR (run _ X.stack s H ⟨[.ref ea],[]⟩ ea C hr.dp hr.un I.env0 (by have:=hb s [.ref ea] I.kIn (by simp[hpl]);simpa using this) hC hob) fun r s' hq=>?_)
  obtain⟨u,rfl,hq⟩:=hq
  exact I.after hq
 refine vH (wpAny_Return_some (xA key (fun u s3 z=>?_) fun _ _ z=>z))
 obtain⟨v,H3,I3,r,z⟩:=z
 exact⟨u,v,σ,H3,rfl,I3,r,z⟩
end
open PySem PySem.W PySem.Spec PySem.Calls PyProof.Rows
section
variable {prog:Program}{w:World}{A:Around}{E:Value->Shared->Prop}{s:Shared}{K:Frag}{x D:Addr}{ox:Obj}
theorem D0{M:Model}{h:Heap}{self a g:Value}{name:Str}(X:K.In h)(ha:findIn K (.ref D) name=some (some a))(hg:specialIn K a "__get__"=some (some g))(ht:takesIn K a=some true):Looks M h (Builtin.ObjectAttr.find self (.ref D) name) (.bind g a):=by
 refine (looks_findIn X ha).andThen ?_
 refine (show Looks M h (Builtin.ObjectAttr.getOf (some a)) (some g) from looks_specialIn X hg).andThen ?_
 refine (show Looks M h (Builtin.ObjectAttr.dataDescriptor? (some a) (some g)) (some (g,a)) from (looks_takesIn X ht).andThen .now).andThen ?_
 exact Looks.tag .now
theorem HB{tp:Value}{R:Result->Shared->Prop}(X:K.In s.heap)(L0:Looks (model prog w) s.heap (typeOf (.ref x)) (.ref D))(hm:mroIn K D (.type "object")=some true)
  (h:R (.ok (.ret (.ref D))) s):codeAny (model prog w) A (.call (.builtin "getset_descriptor.__get__") ⟨[.builtin "object.__class__",.ref x,tp],[]⟩) R s:=by
 have LI:Looks (model prog w) s.heap (isInstance (.ref x) (.type "object")) true:=L0.andThen (looks_mroIn X hm)
 obtain⟨hh,g,dr,t,os⟩:=s
 refine wC KF.slot_gs.plain KF.entry_gs (KF.slot_gs.check _ _ _ _ _ _ _ _ KF.type_class (KF.args_gs _ _ _) ?_)
 unfold Builtin.«getset_descriptor.__get__» Builtin.Getset_descriptor.descrGet
 rw[dga_obj]
 refine zU (zV ?_)
 unfold Builtin.Getset_descriptor.descrGetter Builtin.Getset_descriptor.descrCheckInstance Builtin.Getset_descriptor.descrNameAndClass
 simp only[KF.owner_class]
 repeat lk
 refine⟨wM _ (by decide +kernel),kE KF.entry_class ?_⟩
 unfold Builtin.«object.__class__» shownTypeOf
 repeat lk
 exact h
theorem Eh{Q:Option Value->Shared->Prop}(X:K.In s.heap)(ho:s.heap.get? x=some ox)(hcl:ox.cls=.ref D)(hga:findIn K (.ref D) "__getattribute__"=some (some (.builtin "BaseException.__getattribute__")))(hno:findIn K (.ref D) "__getattr__"=some none)
  (ha:findIn K (.ref D) "__class__"=some (some (.builtin "object.__class__"))) (hn:specialIn K (.builtin "object.__class__") "__get__"=some (some (.builtin "getset_descriptor.__get__"))) (htk:takesIn K (.builtin "object.__class__")=some true) (hm:mroIn K D (.type "object")=some true) (hb:subIn K (.ref D) (.type "BaseException")=some true)
  (h:Q (some (.ref D)) { s with toks:=s.toks+1 }):wpAny (model prog w) A (getAttr? (.ref x) "__class__") Q E s:=by
 obtain⟨hh,g,d,t,os⟩:=s
 have L0:Looks (model prog w) hh (typeOf (.ref x)) (.ref D):=hcl ▸ (Looks.ld ho).andThen .now
 have L1:=looks_findIn (M:=model prog w) X hga
 have L2:=looks_findIn (M:=model prog w) X hno
 have LF:=D0 (M:=model prog w) (self:=.ref x) X ha hn htk
 have LI:Looks (model prog w) hh (isInstance (.ref x) (.type "BaseException")) true:=L0.andThen (looks_subIn X hb)
 unfold getAttr? getAttrBy? getAttrBy
 refine zU (wpAny_mkText (zU (kP (xX (zU (L0.at (zU (L1.at ?_))))))))
 have hx2:(Value.builtin "BaseException.__getattribute__" == Value.builtin "object.__getattribute__")=false:=by decide +kernel
 simp only[hx2,kY,yO,qP]
 unfold getAttrByItsOwn hookBefore
 refine zU ?_
 show wpAny _ _ (typeLookup (.ref D) "__getattr__") _ _ _
 refine L2.at ?_
 refine zU (kP (xX ?_))
 show wpAny _ _ (boundAndCalled (.builtin "BaseException.__getattribute__") (.ref x) (.str "__class__" t)) _ _ _
 unfold boundAndCalled
 refine zU (wpAny_of_eq (F.attr_ValueError.ga.bind (.ref x)) ?_)
 refine vL (wC F.attr_ValueError.ga.plain F.entry_bexc_ga ?_)
 have hk:builtinKind "BaseException.__getattribute__"=some .slot:=by decide +kernel
 have hsplit:splitId "BaseException.__getattribute__"=some ("BaseException","__getattribute__"):=by decide +kernel
 simp only[checkBuiltinCall,hk,hsplit]
 refine zU (LI.at ?_)
 simp only[xY,yO,qP]
 have hargs:argsOk "BaseException.__getattribute__" ⟨[.ref x]++[.str (Str.ofString "__class__") t],[]⟩:=F.args_bexc_ga _ _
 have body:∀ {P:Fin->Shared->Prop}{E':Value->Shared->Prop},P (.done (.ret (.ref D))) ⟨hh,g,d,t+1,os⟩->wpAny (model prog w) A.in1 (Builtin.«object.__getattribute__» ⟨[.ref x]++[.str (Str.ofString "__class__") t],[]⟩) P E' ⟨hh,g,d,t+1,os⟩:=fun {P E'} q=>by
  unfold Builtin.«object.__getattribute__»
  refine zU (zV ?_)
  refine zU (zV ?_)
  refine zU (L0.at ?_)
  refine zU (LF.at ?_)
  show wpAny _ _ (holding [.builtin "object.__class__"] (call (.builtin "getset_descriptor.__get__") [.builtin "object.__class__",.ref x,.ref D]) >>= ret) _ _ _
  exact zU (xX (vL (HB (s:=⟨hh,g,d,t+1,os⟩) X L0 hm (zV q))))
 cases hsig:Manifest.signature? "BaseException.__getattribute__" with
 | none=>exact zV (body (handed_on rfl (zV h)))
 | some sig =>
  have ha':Bind.checkArgs "BaseException.__getattribute__" sig ⟨[.ref x]++[.str (Str.ofString "__class__") t],[]⟩=pure ():=by simpa only[argsOk,hsig] using hargs
  simp only[ha']
  exact zV (body (handed_on rfl (zV h)))
structure IF(K:Frag)(C:Addr):Prop where
 ga:findIn K (.ref C) "__getattribute__"=some (some (.builtin "BaseException.__getattribute__"))
 no:findIn K (.ref C) "__getattr__"=some none
 cl:findIn K (.ref C) "__class__"=some (some (.builtin "object.__class__"))
 hn:specialIn K (.builtin "object.__class__") "__get__"=some (some (.builtin "getset_descriptor.__get__"))
 tk:takesIn K (.builtin "object.__class__")=some true
 ob:mroIn K C (.type "object")=some true
 be:subIn K (.ref C) (.type "BaseException")=some true
 ci:(clsIn K C).isSome=true
theorem Fy(k:IF K D):KitX K (.ref x) (.ref D) (fun h=>h.get? x=some ox/\ox.cls=.ref D) where
 ty:=fun _ _ _ p=>p.2 ▸ (Looks.ld p.1).andThen .now
 it:=fun _ _ X _=>by
  have hc:=k.ci
  unfold clsIn at hc
  split at hc
  ·rename_i ho
   intro A' Q' E' s' kp q
   unfold isType loadHead
   exact zU (wpAny_loadPart (kp _ _ (X _ _ ho)) (zV q))
  ·cases hc
 ne:=fun h tp dd its n sl X htp=>by
  have hc:=k.ci
  refine Bool.eq_false_iff.mpr fun q=>?_
  have e:D=tp:=Value.ref.inj (beq_iff_eq.mp q)
  subst e
  unfold clsIn at hc
  split at hc
  ·rename_i ho
   have z:=(X _ _ ho).symm.trans htp
   cases z
  ·cases hc
 ca:=fun X p q=>Eh X p.1 p.2 k.ga k.no k.cl k.hn k.tk k.ob k.be q
theorem BM{c:Value}{b:Bool}{Q:Value->Shared->Prop}(k:IF K D)(X:K.In s.heap)(ho:s.heap.get? x=some ox)(hc:ox.cls=.ref D)(e:kitOne K (.ref D) c=some b)(h:∀tk,Q (.bool b) { s with toks:=tk }) :
  wpAny (model prog w) A (call (.builtin "isinstance") [.ref x,c]) Q E s:=kia_one (Fy k) X ⟨ho,hc⟩ e (fun z=>nomatch z) h
end
abbrev AZ(A:Around):Around:={ A with handled:=none }
abbrev BV(P:Program)(w:World)(K:W.Frag)(mg:Str->Option Value)(base:Heap)(N:List Str)(qual:Str)(scope:Scope)(f:Addr)(cdv:Value)(A:Around)(outer:List PySem.Env)(s:Shared)(H:Hp)(pn:List (Addr×Obj)):Cx :=
 gq (jc (rD HJ P w K mg base N qual scope f cdv (AZ A) outer s H E0) (A.deeper (envOfC qual scope s.heap.objs.size f cdv))) pn fun _ _=>False
section
variable {P:Program}{w:World}{K:W.Frag}{mg:Str->Option Value}{base:Heap}
theorem D6{A:Around}{outer:List PySem.Env}{s:Shared}{H:Hp}{args:Args}{ea C:Addr}{ob:Obj}{vs:Array Value}{N ps:List Str}{x qual:Str}{st:Stmt}{f:Addr}{fd:FuncData}{Q:VK}(F:FO K x qual st f fd)(S:dP N ps (aj st))(h1:ps.length=1)
  (hdp:A.depth < recursionLimit) (e0:BA P w K mg base A outer s H) (hb:BindsTo s fd args (ps.zip [.ref ea])) (ho:s.heap.get? ea=some ob) (hd:ob.data=.fields vs) (hn:H ea=none) (hf:ea∉ib outer)
  (body:∀ (cdv:Value) (s1:Shared),Inv (BV P w K mg base N qual (aj st) f cdv A outer s H [(ea,ob)]) [] (L2.start N [.ref ea]) H s1 ->
   wpAny (model P w) (A.deeper (envOfC qual (aj st) s.heap.objs.size f cdv)) (execs (bG st) (envOfC qual (aj st) s.heap.objs.size f cdv)) (fun fl s'=>∃u v σ' H',fl=.ret u/\Inv (BV P w K mg base N qual (aj st) f cdv A outer s H [(ea,ob)]) [] σ' H' s'/\RelV v u/\Q v H') (fun _ _=>False) s1) :
  codeAny (model P w) A (.call (.ref f) args) (fun r s'=>∃u,r=.ok (.ret u)/\CE outer P w H s Q u s') s:=by
 obtain⟨oc,od,kV,doc,pm,an,cdv,ct,osl,rfl,lk,hcd⟩:=F.ex
 have KX:K.In s.heap:=e0.mod.kin.keeps fun b o e=>(e0.bs b o e).1
 have lim:s.heap.NoLimit:=e0.mod.nolimit.keeps fun b o e=>(e0.bs b o e).1
 have hkind:∀y∈ps.zip [Value.ref ea],(aj st).names.lookup y.1=some .local \/ ((aj st).names.lookup y.1=some .cell/\((cellsFrom (s.heap.objs.size+1) (aj st).names []).lookup y.1).isSome=true):=fun ⟨n,v⟩ hy=>by
  rcases S.par n (vT hy).1 with q|q
  ·exact .inl q
  ·exact .inr ⟨q,W.cellsFrom_some _ _ _ (.inl q)⟩
 refine codeAny_call_function hdp (KX _ _ lk) rfl S.co S.gen rfl (W.codeRec_of KX hcd) (hb _ _ _ _ ?_)
 refine wpAny_newFunctionEnv_cells S.kind hkind fun env he s1 x=>?_
 subst he
 refine⟨lim.keeps x.toInCall.keep,codeAny_func ?_⟩
 have e0':BA P w K mg base (AZ A) outer s H:=⟨e0.frames,e0.mod,e0.bs,e0.bsz,e0.funs,e0.frf,e0.hok,e0.bare⟩
 have I0:Inv (rD HJ P w K mg base N qual (aj st) f cdv (AZ A) outer s H E0) [] (L2.start N [.ref ea]) H s1:=ub S rfl e0' (by simp[h1]) (.cons rfl .nil) x
 have hlt:ea < s.heap.objs.size:=zX ho
 have I1:=I0.pins_of (pins':=[(ea,ob)]) fun p hp=>by
  have hp:p=(ea,ob):=by simpa using hp
  subst hp
  exact⟨x.toInCall.keep _ _ ho,hn,yR hlt,hf,fun v z=>by rw[hd] at z;cases z⟩
 have I2:Inv (BV P w K mg base N qual (aj st) f cdv A outer s H [(ea,ob)]) [] (L2.start N [.ref ea]) H s1:=Cw (pU I1 rfl) fun p hp=>yD _ (by simpa using hp)
 refine xA (body cdv s1 I2) (fun fl s' z=>?_) fun _ _ z=>z.elim
 obtain⟨u,v,σ',H',rfl,J,r,q⟩:=z
 exact⟨u,rfl,v,H',J.os,J.bare,J.base,J.hok,r,q⟩
end
section
variable {X:Cx}
theorem K7{i:Nat}{n y:Str}{ea C:Addr}{ob:Obj}{c:Value}{b:Bool}{p p1 p2 pos:Pos}(k:IF X.K C)(hpn:(ea,ob)∈X.pn)(hcls:ob.cls=.ref C)(hgi:Gl X "isinstance")(hmi:X.mg "isinstance"=none)(hi:X.N[i]?=some n)(hl:X.env.kindOf n=some .local)(hsc:X.env.scope.names.lookup n=some .local)(hnd:(n == ("__debug__":Str))=false)
  (hy:∀ {pins:List (Addr×Obj)}{σ:L2.St}{H:Hp}{s:Shared}{Q:Value->Shared->Prop},Inv X pins σ H s->Q c s->wpAny (model X.prog X.w) X.A (eval (.Name y p2) X.env) Q X.xe s) (e:W.kitOne X.K (.ref C) c=some b) :
  PE X (.Call (.Name "isinstance" p) [.Name n p1,.Name y p2] [] pos) (fun σ H Q=>σ[i]?=some (some (.ref ea))/\Q (.bl b) H):=by
 intro pins s σ H Q I ⟨hσ,q⟩
 have ev:∀ {Q:Value->Shared->Prop},Q (.ref ea) s->wpAny (model X.prog X.w) X.A (eval (.Name n p1) X.env) Q X.xe s:=fun {Q} q=>by
  obtain⟨m,hn,hlo⟩:=I.loc
  obtain⟨u,r,l⟩:=hlo i n (.ref ea) hi hσ (.inl hsc)
  have r:u=.ref ea:=r
  subst r
  rcases l with ⟨hk,hm⟩|⟨hk,_⟩
  ·exact wJ (wA I.ok.kind hk hn hm q) hnd
  ·have hk:X.env.kindOf n=some .cell\/X.env.kindOf n=some .free:=hk
   rw[hl] at hk
   rcases hk with hk|hk<;>cases hk
 have ho:=(I.pin (ea,ob) (qJ _ hpn)).1
 refine qY (gn I hgi hmi (u:=.builtin "isinstance") (by decide +kernel) ?_)
 refine PyProof.Rows.callWith_builtin1 (jJ (ev (jJ (hy I (kH ?_))))) rfl rfl
 exact BM k I.kIn ho hcls e fun tk=>⟨.bl b,H,I.tok tk,rfl,q⟩
end
section
variable {X:Cx}
def GY(d:D)(xs:List D):Nat:=xs.countP fun x=>PyData.eqv x d
theorem Eb(hu:X.A.units+66 < cLine):LR X "list.count" (fun x vs H Q=>∃ (HF:Hp) (ds:List D) (d:D) (y:V),aU HF H/\Rep X.K HF (.list ds) x/\vs=[y]/\Rep X.K HF d y/\SeqAt.shaped d=true/\SeqAt.shaped (.list ds)=true/\Q (.int (GY d ds)) H):=by
 intro pins s σ H x vs v us Q I rx rv h
 obtain⟨HF,ds,d,y,sm,r1,rfl,r2,hd,hl,q⟩:=h
 obtain⟨u,rfl,ru⟩:=rv.one
 obtain⟨as,ra⟩:=cY I sm r1 rx
 obtain⟨bs,rb⟩:=cY I sm r2 ru
 have c1:=kJ hd
 have c2:=kJ hl
 have d1:=SeqAt.depth_of_shaped hd
 simp only[PyData.canLay0] at c2
 have m:=Nat.min_le_right (PyData.depthAll ds) d.depth
 cases ra with
 | list h1 h2 h3 h4 =>
  rename_i l o its n as
  obtain⟨cls,dd,data,sl⟩:=o
  simp only at h2 h3
  subst h2 h3
  have hm:=SeqAt.readsAll_map _ _ _ c2 h4
  refine qX F.slot_list_count ⟨_,h1,rfl⟩ F.entry_list_count (F.args_list_count_2 _ _) (PySem.SeqAt.list_countAt l its n dd sl u (fun y=>PyData.eqv (SeqAt.readOf s.heap y) d)) ⟨h1,?_,?_⟩
  ·exact SeqAt.items_eqAt h4 rb c2 c1 (by omega)
  ·refine⟨.int (GY d ds),H,I.tok _,⟨s.toks,?_⟩,q⟩
   rw[GY,<- hm,List.countP_map]
   rfl
def lu(X:Cx)(ea:Addr)(es:List Expr)(bs:List Bool):Prop:=PA X es (fun σ H Q=>σ[0]?=some (some (.ref ea))/\Q (bs.map V.bl) H)
theorem K2{ea:Addr}:lu X ea [] []:=fun pos pins s σ H Q I ⟨_,q⟩=>eZ pos pins s σ H Q I q
theorem Jq{ea:Addr}{e:Expr}{es:List Expr}{b:Bool}{bs:List Bool}(h:PE X e (fun σ H Q=>σ[0]?=some (some (.ref ea))/\Q (.bl b) H))(hr:lu X ea es bs)(hs:starEach (e::es) X.env=(false,eval e X.env)::starEach es X.env:=by rfl):lu X ea (e::es) (b::bs) :=
 Bg (cn h hr hs) fun σ H Q ⟨h0,q⟩=>⟨h0,h0,q⟩
theorem f9{K:W.Frag}{H:Hp}:∀bs:List Bool,aw K H (bs.map PyData.bool) (bs.map V.bl)
 | []=>rfl
 | b::bs=>⟨_,_,rfl,rfl,f9 bs⟩
theorem nj(bs:List Bool):SeqAt.shaped (.list (bs.map PyData.bool))=true:=by
 have h:∀bs:List Bool,PyData.canLayAll0 (bs.map PyData.bool)=true/\PyData.depthAll (bs.map PyData.bool)<=1:=fun bs=>by
  induction bs with
  | nil=>exact⟨by simp[PyData.canLayAll0],by simp[PyData.depthAll]⟩
  | cons b bs ih=>exact⟨by simp[PyData.canLayAll0,PyData.canLay0,ih.1],by simp[PyData.depthAll,PyData.depth];omega⟩
 have:=h bs
 unfold SeqAt.shaped
 rw[zF]
 exact⟨by simp[PyData.canLay0,this.1],by simp[PyData.depth];omega⟩
variable {ea:Addr}{es1 es2:List Expr}{bs1 bs2:List Bool}{j:Nat}{e6:Expr}{bad:List Stmt}
theorem ED{a1 a2 a3 b1 b2 b3 b4 b5 b6 c1 c2 c3 c4 c5 c6 c7 c8 c9 d1 d2 d3 d4 d5 d6 d7:Pos}{i1 i2 i3 i4 k1:Nat}(hu:X.A.units+66 < cLine)(hN:X.N=[("_law_e":Str),("_law_flags":Str)])(hl:X.env.scope.names.lookup ("_law_flags":Str)=some .local)
  (h1:lu X ea es1 bs1) (h2:lu X ea es2 bs2) (h6:PE X e6 (fun σ H Q=>σ[0]?=some (some (.ref ea))/\Q (.bl true) H)) (w6:∀whole,isTrue e6 X.env whole=(do let v <- whole;standAt e6.pos;holding [v] (truthy v)))
  (hc:GY (.bool true) ((bs1++bs2).map PyData.bool)=1) (hj:va (.bool true) ((bs1++bs2).map PyData.bool)=some j) (hz:bs1.length+bs2.length<=sizeLine) (l1:(c2.endLine == c4.line)=true) (l2:(d2.endLine == d4.line)=true) :
  u3 X [.Assign [.Name "_law_flags" a1] (.List es1 a2) a3,.Assign [.Name "_law_flags" b1] (.BinOp (.Name "_law_flags" b2) .Add (.List es2 b3) b4) b5,
   .If (.BoolOp .Or [.Compare (.Call (.Attribute (.Name "_law_flags" c1) "count" c2) [.Constant (.bool true) i1 c3] [] c4) [.NotEq] [.Constant (.int 1) i2 c5] c6,.UnaryOp .Not e6 c7] c8) bad [] c9,
   .Return (some (.Tuple [.Constant (.str "refused") i3 d1,.Call (.Attribute (.Name "_law_flags" d3) "index" d2) [.Constant (.bool true) i4 d5] [] d4] k1 d6)) d7]
   (fun D σ H=>σ.length=2/\σ[0]?=some (some (.ref ea))/\∀v H',(∀HF,aU HF H->∃HF',bJ HF H HF' H'/\Rep X.K HF' (.tuple [.str "refused",.int j]) v)->D.rt v H'):=by
 have hnd:X.N.Nodup:=by rw[hN];decide
 have hi:X.N[1]?=some ("_law_flags":Str):=by rw[hN];rfl
 have hlc:Loc X.env.scope ("_law_flags":Str):=.inl hl
 have hv:HX X.env.scope ("_law_flags":Str):=.inl hl
 have hbad:u3 X bad (fun _ _ _=>False):=fun _ _ _ _ _ _ z=>z.elim
 have p1:=rP (pos':=a1) (pos:=a3) hnd hi hlc (AR (pos:=a2) h1) rfl (.inr hl)
 have p2:=rP (pos':=b1) (pos:=b5) hnd hi hlc (CL (pos:=b4) pK (k6 (pos:=b2) hi hv) (AR (pos:=b3) h2)) rfl (.inr hl)
 have p3:=Gu (pos:=c9) (PW.pt (Kb (pos:=c8) (CQ (pos:=c6) Ox (rF (apos:=c2) (cpos:=c4) qN PySem.F.slot_list_count PySem.F.type_list_count (Eb hu) (k6 (pos:=c1) hi hv) (cn (EL (b:=true) (j:=i1) (pos:=c3)) eZ) rfl rfl l1) (Gb (i:=1) (j:=i2) (pos:=c5)) (Gc _ (by decide) (by decide))) (E7 (pos:=c8) (FN (pos:=c7) (Ft h6 w6))))) hbad uS
 have p4:=BE (pos:=d7) (F7 (x1:=k1) (pos:=d6) (cn (GP (x:="refused") (j:=i3) (pos:=d1)) (cn (rF (apos:=d2) (cpos:=d4) qN PySem.F.slot_list_index PySem.F.type_list_index (DQ hu) (k6 (pos:=d3) hi hv) (cn (EL (b:=true) (j:=i4) (pos:=d5)) eZ) rfl rfl l2) eZ)))
 refine o7 (ix p1 (ix p2 (ix p3 (ix p4 uS)))) fun D σ H ⟨hlen,h0,q⟩=>?_
 refine⟨h0,by rw[zD];omega,fun p hp=>?_⟩
 have s1:∀v:V,(σ.set 1 (some v))[1]?=some (some v):=fun v=>by simp[hlen]
 have s0:∀v:V,(σ.set 1 (some v))[0]?=some (some (.ref ea)):=fun v=>by simp[h0]
 refine⟨.ref p,s1 _,s0 _,by rw[zD];omega,fun p2 hp2=>⟨p,p2,bs1.map V.bl,bs2.map V.bl,rfl,rfl,.inl (.inl ?_),.inl (.inl aI),by rw[zD,zD];exact hz,fun p3 hp3=>?_⟩⟩
 ·rw[aG (fun z=>by rw[z] at hp2 ;rw[aI] at hp2;cases hp2)]
  exact aI
 have t1:∀v w:V,((σ.set 1 (some w)).set 1 (some v))[1]?=some (some v):=fun v w=>by simp[hlen]
 have t0:∀v w:V,((σ.set 1 (some w)).set 1 (some v))[0]?=some (some (.ref ea)):=fun v w=>by simp[h0]
 let H3:Hp:=upd (upd (upd H p (.lst (bs1.map V.bl))) p2 (.lst (bs2.map V.bl))) p3 (.lst (bs1.map V.bl++bs2.map V.bl))
 have hsm:aU H H3:=fun b o e=>by
  have n1:b≠p:=fun z=>by rw[z,hp] at e;cases e
  have e1:upd H p (.lst (bs1.map V.bl)) b=some o:=by rw[aG n1];exact e
  have n2:b≠p2:=fun z=>by rw[z,hp2] at e1;cases e1
  have e2:upd (upd H p (.lst (bs1.map V.bl))) p2 (.lst (bs2.map V.bl)) b=some o:=by rw[aG n2];exact e1
  have n3:b≠p3:=fun z=>by rw[z,hp3] at e2;cases e2
  show upd _ p3 _ b=some o
  rw[aG n3];exact e2
 have hls:hZ X.K H3 p3 ((bs1++bs2).map V.bl):=by
  rw[jA]
  exact .inl (.inl aI)
 have hrp:Rep X.K H3 (.list ((bs1++bs2).map PyData.bool)) (.ref p3):=⟨p3,_,rfl,hls,f9 _⟩
 have hst:SeqAt.shaped (.bool true)=true:=by decide
 refine⟨.ref p3,t1 _ _,.inl ⟨rfl,_,hls⟩,H3,_,.bool true,.bl true,.refl _,hrp,rfl,rfl,hst,nj _,?_⟩
 rw[hc]
 refine⟨rfl,?_⟩
 refine⟨false,rfl,?_⟩
 refine oV ?_
 refine⟨t0 _ _,true,rfl,?_⟩
 refine oV ?_
 refine⟨.ref p3,t1 _ _,.inl ⟨rfl,_,hls⟩,H3,_,.bool true,.bl true,j,.refl _,hrp,rfl,rfl,hst,nj _,by rw[zD,zN];exact hz,hj,(show 2<=sizeLine by decide),fun p4 hp4=>?_⟩
 have hp4:H3 p4=none:=hp4
 refine q (.ref p4) _ fun HF sm=>⟨upd HF p4 (.tup [.str "refused",.int j]),⟨fun b o e=>?_,fun b o e=>?_,fun b o e=>?_,fun b o e=>?_⟩,p4,_,rfl,.inl (.inl aI),?_⟩
 ·have e3:=hsm b o e
  rw[aG (fun z=>by rw[z,hp4] at e3;cases e3)]
  exact e3
 ·have e3:=hsm b o (sm b o e)
  rw[aG (fun z=>by rw[z,hp4] at e3;cases e3)]
  exact e
 ·by_cases z:b=p4
  ·subst z
   rw[aI] at e ⊢
   exact e
  ·rw[aG z] at e ⊢
   exact hsm b o (sm b o e)
 ·by_cases z:b=p4
  ·subst z
   refine .inr ?_
   cases w:H b with
   | none=>rfl
   | some u=>have:=hsm b u w;rw[hp4] at this;cases this
  ·rw[aG z] at e
   exact .inl e
 ·exact⟨_,_,rfl,rfl,_,_,rfl,rfl,rfl⟩
end
open PySem L2 Dl PySem.Spec PyProof.Rows Rf
abbrev XE:=Dl.Env->Option Str
abbrev XS:=aq->Option Str
abbrev XT:=List (Str×Nat×(List D->Option Str))
def Jw:XE:=fun _=>none
def bY:XS:=fun _=>none
def dc(x:XE):XS:=fun ρ=>x (aW ρ)
def Nq(c:Str):XS:=fun _=>some c
def bT(xh:XS)(g:GS)(xr:XS):XS:=fun ρ=>match xh ρ with
 | some c=>some c
 | none=>p8 g xr ρ
def uX(P:Program)(w:World)(K:W.Frag)(mg:Str->Option Value)(base:Heap)(j:Nat)(l:XT):Prop:=∀x n m,l.lookup x=some (n,m)->Af P w K mg base j x n m
def Pj(fx:XT)(sc:Scope)(T:Tr)(x:Str)(a:Expr)(as:List Expr):Option XE:=match fx.lookup x with
 | some (m,xm)=>if (sr sc x&&((a::as).all fun e=>!isStar e)&&!(x == ("__debug__":Str)))=true then (vj T (a::as)).map fun fs=>jn m xm fs else none
 | none=>none
def Kq(fx:XT)(sc:Scope)(T:Tr):Nat->Expr->Option XE
 | 0,_=>none
 | n+1,e=>match e with
  | .Call (.Name x _) (a::as) [] _=>Pj fx sc T x a as
  | .IfExp c a b _=>(T.t c).bind fun t=>match Kq fx sc T n a,Kq fx sc T n b with
   | none,none=>none
   | xa,xb=>some (NR t (xa.getD Jw) (xb.getD Jw))
  | _=>none
def sC(f:Stmt->Option XS)(tS:Stmt->Option GS):List Stmt->Option XS
 | []=>none
 | s::r=>match f s,sC f tS r with
  | none,none=>none
  | some xh,none=>some xh
  | none,some xr=>(tS s).map fun g=>p8 g xr
  | some xh,some xr=>match tS s with
   | some g=>some (bT xh g xr)
   | none=>some xh
def JT(cl:List Str)(fx:XT)(sc:Scope)(N:List Str)(T:Tr)(tS:Stmt->Option GS):Nat->Stmt->Option XS
 | 0,_=>none
 | n+1,st=>match st with
  | .Return (some e) _=>(Kq fx sc T 4 e).map dc
  | .Expr e _=>if wt e=true then (Kq fx sc T 4 e).map dc else none
  | .Assign [.Name x _] e _=>(N.idxOf? x).bind fun i=>if (pJ N sc i x&&!Bq e)=true then (Kq fx sc T 4 e).map dc else none
  | .If c a b _=>(T.t c).bind fun t=>match sC (JT cl fx sc N T tS n) tS a,sC (JT cl fx sc N T tS n) tS b with
   | none,none=>none
   | xa,xb=>some (Et t (xa.getD bY) (xb.getD bY))
  | .Raise (some (.Call (.Name x _) [.Constant (.str _) _ _] [] _)) none _=>if (cl.contains x&&sr sc x&&!(x == ("__debug__":Str)))=true then some (Nq x) else none
  | _=>none
section
variable {X:Cx}{E:XK}{N:List Str}{sc:Scope}{k j:Nat}{T:Tr}{fx:XT}{cl:List Str}{HF₀ H₀:Hp}{tS:Stmt->Option GS}
theorem Nx{e:Expr}:HG X E e Jw:=fun pins s σ H Q I ⟨HF,ρ,c,C,_,_,h,_⟩=>by cases h
theorem Kl{st:List Stmt}:Dt X E HF₀ H₀ st bY:=fun pins s σ H Q I ⟨HF,ρ,c,C,_,h,_⟩=>by cases h
theorem Lw(C:Bk X.nox N sc k)(O:dm X.nox T)(hx:uX X.prog X.w X.K X.mg X.base k fx)(hp:fN (BQ X.prog X.w) X E){x:Str}{a:Expr}{as:List Expr}{xf:XE}{p pos:Pos}(h:Pj fx sc T x a as=some xf):HG X E (.Call (.Name x p) (a::as) [] pos) xf:=by
 unfold Pj at h
 split at h
 ·rename_i m xm hl
  split at h
  ·rename_i hc
   simp only[zF] at hc
   obtain⟨fs,hfs,rfl⟩:=ag h
   have hst:isStar a=false/\(as.all fun e=>!isStar e)=true:=by
    have:=hc.1.2
    rw[xS,zF] at this
    exact⟨by simpa using this.1,this.2⟩
   exact Js (hx x m xm hl) C.room hp (C.gl hc.1.1) (dk O hfs) (by simpa using hc.2) (bB (by simpa using hst.1)) (cZ hst.2)
  ·cases h
 ·cases h
theorem wx(C:Bk X.nox N sc k)(O:dm X.nox T)(hx:uX X.prog X.w X.K X.mg X.base k fx)(hp:fN (BQ X.prog X.w) X E):∀ (n:Nat) {e:Expr}{xf:XE},Kq fx sc T n e=some xf->HG X E e xf
 | 0,e,xf,h=>by cases h
 | n+1,e,xf,h=>by
  have ih:∀ {e:Expr}{o:Option XE},Kq fx sc T n e=o->HG X E e (o.getD Jw):=fun {e o} h=>by
   cases o with
   | none=>exact Nx
   | some x=>exact wx C O hx hp n h
  unfold Kq at h
  split at h
  ·exact Lw C O hx hp h
  ·obtain⟨t,ht,h⟩:=bs h
   split at h
   ·cases h
   ·cases h
    exact NA (O.t _ _ ht) (ih rfl) (ih rfl)
  ·cases h
theorem JW{st:Stmt}{rest:List Stmt}{xh xr:XS}{g:GS}(h1:DX X E HF₀ H₀ st xh)(h2:DS X.nox HF₀ H₀ st g)(h3:Dt X E HF₀ H₀ rest xr):Dt X E HF₀ H₀ (st::rest) (bT xh g xr):=fun pins s σ H D I ⟨HF,ρ,c,C,S,hx,hc,q⟩=>by
 unfold bT at hx
 split at hx
 ·rename_i c' hh
  cases hx
  exact rK h1 pins s σ H D I ⟨HF,ρ,c,C,S,hh,hc,q⟩
 ·exact Ai h2 h3 pins s σ H D I ⟨HF,ρ,c,C,S,hx,hc,q⟩
theorem wk{f:Stmt->Option XS}(hf:∀s x,f s=some x->DX X E HF₀ H₀ s x)(ht:∀s g,tS s=some g->DS X.nox HF₀ H₀ s g):∀ {l:List Stmt}{x:XS},sC f tS l=some x->Dt X E HF₀ H₀ l x
 | [],x,h=>by cases h
 | s::r,x,h=>by
  have ih:=fun x=>wk hf ht (l:=r) (x:=x)
  unfold sC at h
  split at h
  ·cases h
  ·rename_i h1 h2
   cases h
   exact rK (hf _ _ h1)
  ·rename_i h1 h2
   obtain⟨g,hg,rfl⟩:=ag h
   exact Ai (ht _ _ hg) (ih _ h2)
  ·rename_i h1 h2
   split at h
   ·rename_i g hg
    cases h
    exact JW (hf _ _ h1) (ht _ _ hg) (ih _ h2)
   ·cases h
    exact rK (hf _ _ h1)
def Qi(X:Cx)(E:XK)(HF₀ H₀:Hp)(cl:List Str):Prop:=∀x∈cl,Gl X x->(x == ("__debug__":Str))=false->∀ (np cpos pos p:Pos) (t:Str) (i:Nat),DX X E HF₀ H₀ (.Raise (some (.Call (.Name x np) [.Constant (.str t) i p] [] cpos)) none pos) (Nq x)
theorem Fn(C:Bk X.nox N sc k)(O:dm X.nox T)(hx:uX X.prog X.w X.K X.mg X.base k fx)(hp:fN (BQ X.prog X.w) X E)(hr:Qi X E HF₀ H₀ cl)(ht:∀s g,tS s=some g->DS X.nox HF₀ H₀ s g):∀ (n:Nat) {st:Stmt}{x:XS},JT cl fx sc N T tS n st=some x->DX X E HF₀ H₀ st x
 | 0,st,x,h=>by cases h
 | n+1,st,x,h=>by
  have ih:∀ {l:List Stmt}{o:Option XS},sC (JT cl fx sc N T tS n) tS l=o->Dt X E HF₀ H₀ l (o.getD bY):=fun {l o} h=>by
   cases o with
   | none=>exact Kl
   | some x=>exact wk (fun s x h=>Fn C O hx hp hr ht n h) ht h
  unfold JT at h
  split at h
  ·obtain⟨xf,hf,rfl⟩:=ag h
   exact KH (wx C O hx hp 4 hf)
  ·split at h
   ·rename_i hc
    obtain⟨xf,hf,rfl⟩:=ag h
    refine Ls (wx C O hx hp 4 hf) ?_
    rename_i e pos
    cases e<;>first|rfl|cases hc
   ·cases h
  ·obtain⟨i,hi,h⟩:=bs h
   split at h
   ·rename_i hl
    simp only[zF,yP] at hl
    obtain⟨xf,hf,rfl⟩:=ag h
    obtain⟨z1,z2,z3,z4⟩:=C.loc hl.1
    exact cH (rP z1 z2 z3 (wx C O hx hp 4 hf) (oa hl.2) z4) fun D σ H q=>F5 q
   ·cases h
  ·obtain⟨t,ht',h⟩:=bs h
   split at h
   ·cases h
   ·cases h
    exact M9 (O.t _ _ ht') (ih rfl) (ih rfl)
  ·split at h
   ·rename_i hc
    simp only[zF,yP] at hc
    cases h
    exact hr _ (List.contains_iff_mem.mp hc.1.1) (C.gl hc.1.2) hc.2 _ _ _ _ _ _
   ·cases h
  ·cases h
end
abbrev HN(st:Stmt)(N:List Str)(S:Sg)(fx:XT)(cl:List Str):Option XS:=sC (JT cl fx (aj st) N (tr S 40 none (aj st) N) (vm (aj st) N (tr S 40 none (aj st) N) 40) 10) (vm (aj st) N (tr S 40 none (aj st) N) 40) (bG st)
def J9(K:W.Frag)(mg:Str->Option Value)(cl:List Str):Prop:=∀c∈cl,∃C:Addr,mg c=some (.ref C)/\W.excIn K C Mn "ValueError.__new__"=true
section
variable {P:Program}{w:World}{K:W.Frag}{mg:Str->Option Value}{base:Heap}{j:Nat}
theorem J2{X:Cx}{E:XK}{N:List Str}{sc:Scope}{fs:List (Str×Nat×(List D->Option D))}{is:List (Str×Int)}{fx:XT}{cl:List Str}{HF₀ H₀:Hp}{l:List Stmt}{xg:XS}(C:Bk X.nox N sc j)(B:Bn X)(hf:j8 X.prog X.w X.K X.mg X.base j fs)(hi:iZ X.mg is)(hx:uX X.prog X.w X.K X.mg X.base j fx)(hp:fN (BQ X.prog X.w) X E)(hr:Qi X E HF₀ H₀ cl)
  (t:sC (JT cl fx sc N (tr ⟨fs,is⟩ 40 none sc N) (vm sc N (tr ⟨fs,is⟩ 40 none sc N) 40) 10) (vm sc N (tr ⟨fs,is⟩ 40 none sc N) 40) l=some xg):Dt X E HF₀ H₀ l xg:=by
 have O:dm X.nox (tr ⟨fs,is⟩ 40 none sc N):=Gj (G:=⟨fs,is⟩) 40 C ⟨hf,hi,B⟩ (yM j) fun q z=>by cases z
 have ht:∀s g,vm sc N (tr ⟨fs,is⟩ 40 none sc N) 40 s=some g->DS X.nox HF₀ H₀ s g:=fun s g h=>v9 C B O 40 h
 exact wk (fun s x h=>Fn C O hx hp hr ht 10 h) ht t
theorem u9{x:Str}{st:Stmt}{ps N:List Str}{xg:XS}{S:Sg}{fx:XT}{cl:List Str}(D:cG K mg x st ps)(B:∀x∈cX,mg x=none)(hf:j8 P w K mg base j S.fn)(hi:iZ mg S.int)(hx:uX P w K mg base j fx)(hc:J9 K mg cl)(t:HN st N S fx cl=some xg)(F:dP N ps (aj st):=by exact Rf.Of):Af P w K mg base (j+1) x ps.length (qm xg N.length):=by
 obtain⟨f,fd,hm,Fu,hb⟩:=D.ex
 refine fnX Fu F hb hm fun X E hP hw hK hm' hb' C hcalm hk HF H=>?_
 subst hP;subst hw;subst hK;subst hm';subst hb'
 exact J2 C B hf hi hx hk.pass (fun c hcl hg hd np cpos pos p t i=>by
  obtain⟨Ca,h1,h2⟩:=hc c hcl
  exact Gv hk hcalm hg h1 h2 hd) t
theorem r9:uX P w K mg base j []:=fun _ _ _ h=>by cases h
theorem xm{i:Nat}{x:Str}{n:Nat}{m:List D->Option Str}{l:XT}(F:Af P w K mg base i x n m)(h:uX P w K mg base j l)(e:i<=j:=by decide):uX P w K mg base j ((x,n,m)::l):=fun y n' m' e'=>by
 rw[yA] at e'
 cases q:y == x with
 | true=>rw[q] at e';cases e';rw[eq_of_beq q];exact F.mono e
 | false=>rw[q] at e';exact h y n' m' e'
end
def NJ(K:W.Frag)(C:Addr):Bool:=W.findIn K (.ref C) "__getattribute__" == some (some (.builtin "BaseException.__getattribute__"))&&(W.findIn K (.ref C) "__getattr__" == some none)&&(W.findIn K (.ref C) "__class__" == some (some (.builtin "object.__class__")))&&(W.specialIn K (.builtin "object.__class__") "__get__" == some (some (.builtin "getset_descriptor.__get__")))&&(W.takesIn K (.builtin "object.__class__") == some true)&&(W.mroIn K C (.type "object") == some true)&&(W.subIn K (.ref C) (.type "BaseException") == some true)&&(W.clsIn K C).isSome
def Nh(K:W.Frag)(F:Addr)(cs:List (Str×Addr)):Bool:=(W.nsIn K mainGlobals "FlowError" == some (some (.ref F)))&&(W.nsIn K mainGlobals "ValueError" == some none)&&cs.all fun c=>(W.nsIn K mainGlobals c.1 == some (some (.ref c.2)))&&W.excIn K c.2 Mn "ValueError.__new__"&&NJ K c.2&&(W.exmOne K (.ref c.2) (.ref F) == some true)&&(W.kitOne K (.ref c.2) (.type "ValueError") == some true)&&cs.all fun d=>W.kitOne K (.ref c.2) (.ref d.2) == some (c.1 == d.1)
structure Ap(K:W.Frag)(mg:Str->Option Value)(F:Addr)(cs:List (Str×Addr)):Prop where
 fe:mg "FlowError"=some (.ref F)
 ve:mg "ValueError"=none
 at_:∀c∈cs,mg c.1=some (.ref c.2)
 ex:∀c∈cs,W.excIn K c.2 Mn "ValueError.__new__"=true
 ek:∀c∈cs,IF K c.2
 xm:∀c∈cs,W.exmOne K (.ref c.2) (.ref F)=some true
 kv:∀c∈cs,W.kitOne K (.ref c.2) (.type "ValueError")=some true
 kt:∀c∈cs,∀d∈cs,W.kitOne K (.ref c.2) (.ref d.2)=some (c.1 == d.1)
theorem JD{K:W.Frag}{h:Heap}{mg:Str->Option Value}{F:Addr}{cs:List (Str×Addr)}(X:K.In h)(G:h.Ns mainGlobals mg)(e:Nh K F cs=true):Ap K mg F cs:=by
 unfold Nh at e
 simp only[zF,xG,vM] at e
 obtain⟨⟨e1,e2⟩,e3⟩:=e
 refine⟨W.mg_of X G e1,W.mg_none_of X G e2,fun c hc=>W.mg_of X G (e3 c hc).1.1.1.1.1,fun c hc=>(e3 c hc).1.1.1.1.2,fun c hc=>?_,fun c hc=>(e3 c hc).1.1.2,fun c hc=>(e3 c hc).1.2,fun c hc d hd=>(e3 c hc).2 d hd⟩
 have q:=(e3 c hc).1.1.1.2
 unfold NJ at q
 simp only[zF,vM] at q
 exact⟨q.1.1.1.1.1.1.1,q.1.1.1.1.1.1.2,q.1.1.1.1.1.2,q.1.1.1.1.2,q.1.1.1.2,q.1.1.2,q.1.2,q.2⟩
theorem Ap.ok{K:W.Frag}{mg:Str->Option Value}{F:Addr}{cs:List (Str×Addr)}{cl:List Str}(M:Ap K mg F cs)(h:(cl.all fun c=>(cs.map Prod.fst).contains c)=true):J9 K mg cl:=fun c hc=>by
 have:=List.contains_iff_mem.mp (List.all_eq_true.mp h c hc)
 obtain⟨q,hq,rfl⟩:=List.mem_map.mp this
 exact⟨q.2,M.at_ q hq,M.ex q hq⟩
def OR(sc:Scope):Expr->Option Str
 | .Call (.Name f _) [.Name n _,.Name y _] [] _=>if (f == ("isinstance":Str)&&n == ("_law_e":Str)&&sr sc "isinstance"&&sr sc y)=true then some y else none
 | _=>none
def Fj(sc:Scope):List Expr->Option (List Str)
 | []=>some []
 | e::r=>(OR sc e).bind fun y=>(Fj sc r).map fun ys=>y::ys
def my(ns:List Str)(c:Str):Option D:=if ns.contains c=true then (va (.bool true) (ns.map fun n=>.bool (c == n))).map fun j=>.tuple [.str "refused",.int ((j:Nat):Int)] else none
section
variable {P:Program}{w:World}{K:W.Frag}{mg:Str->Option Value}{base:Heap}{F:Addr}{cs:List (Str×Addr)}
theorem EC{X:Cx}{sc:Scope}{ea:Addr}{ob:Obj}{c:Str×Addr}{e:Expr}{y:Str}{v:Value}{b:Bool}(M:Ap X.K X.mg F cs)(hc:c∈cs)(hpn:(ea,ob)∈X.pn)(hcls:ob.cls=.ref c.2)(hsc:JV X sc)(hmi:X.mg "isinstance"=none)(hN:X.N[0]?=some ("_law_e":Str))(hl:X.env.kindOf ("_law_e":Str)=some .local)(hs:X.env.scope.names.lookup ("_law_e":Str)=some .local)
  (hr:OR sc e=some y) (hy:∀ {p2:Pos}{pins:List (Addr×Obj)}{σ:L2.St}{H:Hp}{s:Shared}{Q:Value->Shared->Prop},Gl X y->Inv X pins σ H s->Q v s->wpAny (model X.prog X.w) X.A (eval (.Name y p2) X.env) Q X.xe s) (hk:W.kitOne X.K (.ref c.2) v=some b) :
  PE X e (fun σ H Q=>σ[0]?=some (some (.ref ea))/\Q (.bl b) H)/\(∀env whole,isTrue e env whole=(do let v <- whole;standAt e.pos;holding [v] (truthy v)))/\∀es:List Expr,starEach (e::es) X.env=(false,eval e X.env)::starEach es X.env:=by
 unfold OR at hr
 split at hr
 ·rename_i f pf n pn y' py pos
  split at hr
  ·rename_i hh
   cases hr
   simp only[zF,vM] at hh
   obtain⟨⟨⟨rfl,rfl⟩,hg⟩,hgy⟩:=hh
   have gl:∀ {x:Str},sr sc x=true->Gl X x:=fun h=>by
    rcases hsc _ _ (yQ h) with q|⟨q,_⟩
    ·exact q
    ·cases q
   exact⟨K7 (M.ek c hc) hpn hcls (gl hg) hmi hN hl hs (by decide) (fun {pins σ H s Q} I q=>hy (gl hgy) I q) hk,fun env whole=>rfl,fun es=>rfl⟩
  ·cases hr
 ·cases hr
theorem vc{X:Cx}{sc:Scope}{ea:Addr}{ob:Obj}{c:Str×Addr}(M:Ap X.K X.mg F cs)(hc:c∈cs)(hpn:(ea,ob)∈X.pn)(hcls:ob.cls=.ref c.2)(hsc:JV X sc)(hmi:X.mg "isinstance"=none)(hN:X.N[0]?=some ("_law_e":Str))(hl:X.env.kindOf ("_law_e":Str)=some .local)(hs:X.env.scope.names.lookup ("_law_e":Str)=some .local)(hd:(cs.all fun d=>!(d.1 == ("__debug__":Str)))=true) :
  ∀ {es:List Expr}{ns:List Str},Fj sc es=some ns->(ns.all fun c=>(cs.map Prod.fst).contains c)=true->lu X ea es (ns.map fun n=>c.1 == n)
 | [],ns,h,_=>by cases h;exact K2
 | e::es,ns,h,ha=>by
  unfold Fj at h
  obtain⟨y,hy,h⟩:=bs h
  obtain⟨ys,hys,rfl⟩:=ag h
  rw[xS,zF] at ha
  obtain⟨d,hdm,rfl⟩:=List.mem_map.mp (List.contains_iff_mem.mp ha.1)
  have hdb:(d.1 == ("__debug__":Str))=false:=by simpa using List.all_eq_true.mp hd d hdm
  obtain⟨h1,_,h3⟩:=EC (v:=.ref d.2) M hc hpn hcls hsc hmi hN hl hs hy (fun {p2 pins σ H s Q} hg I q=>lG I hg (M.at_ d hdm) q hdb) (M.kt c hc d hdm)
  exact Jq h1 (vc M hc hpn hcls hsc hmi hN hl hs hd hys ha.2) (h3 es)
theorem Dg{A:Around}{env:PySem.Env}(h:A.units+200 < cLine):(A.deeper env).units+66 < cLine:=by
 have:(A.deeper env).units<=A.units+16:=by simp[Around.deeper]
 omega
theorem N2{k:Nat}{st:Stmt}{es1 es2:List Expr}{e6:Expr}{bad:List Stmt}{a1 a2 a3 b1 b2 b3 b4 b5 c1 c2 c3 c4 c5 c6 c7 c8 c9 d1 d2 d3 d4 d5 d6 d7:Pos}{i1 i2 i3 i4 k1:Nat}{ns1 ns2:List Str}(D:cG K mg "_law_refused" st ["_law_e"])(M:Ap K mg F cs)(B:∀x∈cX,mg x=none)
  (hb:bG st=[.Assign [.Name "_law_flags" a1] (.List es1 a2) a3,.Assign [.Name "_law_flags" b1] (.BinOp (.Name "_law_flags" b2) .Add (.List es2 b3) b4) b5,
   .If (.BoolOp .Or [.Compare (.Call (.Attribute (.Name "_law_flags" c1) "count" c2) [.Constant (.bool true) i1 c3] [] c4) [.NotEq] [.Constant (.int 1) i2 c5] c6,.UnaryOp .Not e6 c7] c8) bad [] c9,
   .Return (some (.Tuple [.Constant (.str "refused") i3 d1,.Call (.Attribute (.Name "_law_flags" d3) "index" d2) [.Constant (.bool true) i4 d5] [] d4] k1 d6)) d7])
  (S:dP [("_law_e":Str),("_law_flags":Str)] ["_law_e"] (aj st)) (r1:Fj (aj st) es1=some ns1) (r2:Fj (aj st) es2=some ns2) (r6:OR (aj st) e6=some "ValueError")
  (s1:(aj st).names.lookup ("_law_e":Str)=some .local) (s2:(aj st).names.lookup ("_law_flags":Str)=some .local) (OQ:((ns1++ns2).all fun c=>(cs.map Prod.fst).contains c&&decide (GY (.bool true) ((ns1++ns2).map fun n=>.bool (c == n))=1))=true) (hdb:(cs.all fun d=>!(d.1 == ("__debug__":Str)))=true) (hz:ns1.length+ns2.length<=sizeLine) (l1:(c2.endLine == c4.line)=true) (l2:(d2.endLine == d4.line)=true) :
  ∀c d,my (ns1++ns2) c=some d->Cb P w K mg base k "_law_refused" c d:=fun c d h=>by
 unfold my at h
 split at h
 ·rename_i hc
  have hcm:=List.contains_iff_mem.mp hc
  obtain⟨j,hj,rfl⟩:=ag h
  have hcc:=List.all_eq_true.mp OQ c hcm
  rw[zF] at hcc
  obtain⟨q,hq,rfl⟩:=List.mem_map.mp (List.contains_iff_mem.mp hcc.1)
  have hcnt:=yQ hcc.2
  obtain⟨f,fd,hm,Fu,hbd⟩:=D.ex
  refine⟨f,fd,["_law_e"],hm,Fu.kp,hbd,rfl,fun A outer s H args ea C hdp hun e0 hbt hC hex=>?_⟩
  obtain⟨⟨ob,vs,ho,hcl,hd⟩,hn,hf⟩:=hex
  have hCq:C=q.2:=by
   have:=M.at_ q hq
   rw[hC] at this
   cases this
   rfl
  subst hCq
  refine D6 (C:=q.2) Fu S rfl (by omega) e0 hbt ho hd hn hf fun cdv t1 I=>?_
  rw[hb]
  have hall:∀ {l:List Str},(∀n∈l,n∈ns1++ns2)->(l.all fun c=>(cs.map Prod.fst).contains c)=true:=fun hl=>by
   rw[xG]
   intro n hn
   have:=List.all_eq_true.mp OQ n (hl n hn)
   rw[zF] at this
   exact this.1
  let X:Cx:=BV P w K mg base [("_law_e":Str),("_law_flags":Str)] "_law_refused" (aj st) f cdv A outer s H [(ea,ob)]
  have hpn:(ea,ob)∈X.pn:=List.mem_singleton.mpr rfl
  have hsc:JV X (aj st):=fun y kd hy=>.inl hy
  have hmi:X.mg "isinstance"=none:=B _ (by decide)
  have f1:=vc (X:=X) (sc:=aj st) M hq hpn hcl hsc hmi rfl s1 s1 hdb r1 (hall fun n hn=>qJ _ hn)
  have f2:=vc (X:=X) (sc:=aj st) M hq hpn hcl hsc hmi rfl s1 s1 hdb r2 (hall fun n hn=>yD _ hn)
  obtain⟨f6,w6,_⟩:=EC (X:=X) (sc:=aj st) (v:=.type "ValueError") M hq hpn hcl hsc hmi rfl s1 s1 r6 (fun {p2 pins σ H s Q} hg I q=>gn I hg M.ve (by decide +kernel) q) (M.kv q hq)
  have main:=ED (X:=X) (bad:=bad) (j:=j) (a1:=a1) (a2:=a2) (a3:=a3) (b1:=b1) (b2:=b2) (b3:=b3) (b4:=b4) (b5:=b5) (b6:=b5) (c1:=c1) (c2:=c2) (c3:=c3) (c4:=c4) (c5:=c5) (c6:=c6) (c7:=c7) (c8:=c8) (c9:=c9) (d1:=d1) (d2:=d2) (d3:=d3) (d4:=d4) (d5:=d5) (d6:=d6) (d7:=d7) (i1:=i1) (i2:=i2) (i3:=i3) (i4:=i4) (k1:=k1) (Dg (by omega)) rfl s2 f1 f2 f6 (fun whole=>w6 _ whole)
   (by rw[<- jA,zM];exact hcnt) (by rw[<- jA,zM];exact hj) (by rw[zD,zD];exact hz) l1 l2
   [] t1 (L2.start [("_law_e":Str),("_law_flags":Str)] [.ref ea]) H ⟨fun _ _=>False,fun v H'=>∀HF,aU HF H->∃HF',bJ HF H HF' H'/\Rep K HF' (.tuple [.str "refused",.int ((j:Nat):Int)]) v,fun _ _=>False,fun _ _=>False⟩ I ⟨rfl,rfl,fun v H' z=>z⟩
  refine cw main fun fl s' z=>?_
  cases fl with
  | next=>obtain⟨_,_,_,z⟩:=z;exact z.elim
  | brk=>obtain⟨_,_,_,z⟩:=z;exact z.elim
  | cont=>obtain⟨_,_,_,z⟩:=z;exact z.elim
  | ret u =>
   obtain⟨v,σ',H',J,r,z⟩:=z
   exact⟨u,v,σ',H',rfl,J,r,z⟩
 ·cases h
theorem tE:∀ (names:List (Str×NameKind)) (n:Nat),(names.all fun y=>!(y.2 == NameKind.cell))=true->cellsFrom n names []=[]
 | [],_,_=>rfl
 | (x,k)::r,n,h=>by
  rw[xS,zF] at h
  unfold cellsFrom
  rw[yN (by simpa using h.1)]
  exact tE r n h.2
def NV(st:Stmt)(N:List Str)(S:Sg)(fx:XT)(ns:List Str):List Stmt->Option GS
 | [.Try body [.ExceptHandler (some (.Name e _)) (some n) [.Return (some (.Call (.Name r _) [.Name m _] [] _)) _] _] [] [] _] =>
  if (e == ("FlowError":Str)&&r == ("_law_refused":Str)&&m == n&&!(n == ("__debug__":Str))&&sr (aj st) "FlowError"&&sr (aj st) "_law_refused"&&decide ((aj st).names.lookup n=some .local)&&(aj st).names.all (fun y=>!(y.2 == NameKind.cell))&&N.contains n)=true then
   (qf (vm (aj st) N (tr S 40 none (aj st) N) 40) body).map fun gb=>Ar gb ((sC (JT [] fx (aj st) N (tr S 40 none (aj st) N) (vm (aj st) N (tr S 40 none (aj st) N) 40) 10) (vm (aj st) N (tr S 40 none (aj st) N) 40) body).getD bY) (my ns)
  else none
 | _=>none
abbrev Pw(st:Stmt)(N:List Str)(S:Sg)(fx:XT)(ns:List Str):Option GS:=NV st N S fx ns (bG st)
theorem NM{j:Nat}{x:Str}{st:Stmt}{ps N ns:List Str}{g:GS}{S:Sg}{fx:XT}(D:cG K mg x st ps)(B:∀x∈cX,mg x=none)(M:Ap K mg F cs)(hf:j8 P w K mg base j S.fn)(hi:iZ mg S.int)(hx:uX P w K mg base j fx)(R:∀c d,my ns c=some d->Cb P w K mg base j "_law_refused" c d)(hns:(ns.all fun c=>(cs.map Prod.fst).contains c)=true)(t:Pw st N S fx ns=some g)(FS:dP N ps (aj st):=by exact Rf.Of):hV P w K mg base (j+1) x ps.length (b9 g N.length):=by
 obtain⟨f,fd,hm,Fu,hb⟩:=D.ex
 refine⟨f,fd,ps,?_,hm,Fu.kp,hb⟩
 obtain⟨oc,od,kV,doc,pm,an,cdv,ct,osl,rfl,lk,hcd⟩:=Fu.ex
 refine FB lk hcd FS (fun vs H Q E ⟨HF,ds,d,h1,_,h2,h3,_⟩=>by rw[h2.length,h3]) fun A outer s H vs Q E hr ⟨HF,ds,d,sm,tb,rr,hl,hd,q⟩=>?_
 have key:∀X:Cx,X=(rD HJ P w K mg base N x (aj st) f cdv A outer s H E).nox->Bk X N (aj st) j->∀HF1 H1,CS X HF1 H1 (bG st) g:=fun X hX C HF1 H1=>by
  unfold Pw at t
  generalize bG st=bd at t
  unfold NV at t
  split at t
  ·rename_i body e pe n r pr m pm' pc prt ph pt
   split at t
   ·rename_i hh
    simp only[zF,vM,yP,zJ] at hh
    obtain⟨⟨⟨⟨⟨⟨⟨⟨rfl,rfl⟩,rfl⟩,hnd⟩,hgF⟩,hgR⟩,hloc⟩,hnc⟩,hNn⟩:=hh
    obtain⟨gb,hgb,rfl⟩:=ag t
    obtain⟨i,hi',hiN⟩:=qQ (List.contains_iff_mem.mp hNn)
    have hiN':N[i]?=some m:=by rw[zK hi',hiN]
    subst hX
    refine CN (Lq (i:=i) rfl rfl (C.gl hgF) M.fe (by decide) C.nd hiN' hloc hloc ?_ ?_ ?_ ?_)
    ·show List.lookup m (cellsFrom _ _ [])=none
     rw[tE _ _ hnc]
     rfl
    ·exact Rf.jj (fun s g h=>v9 C B (Gj (G:=S) 40 C ⟨hf,hi,B⟩ (yM j) fun q z=>by cases z) 40 h) hgb
    ·intro pn xe E' hp
     have C':Bk (gq (rD HJ P w K mg base N x (aj st) f cdv A outer s H E).nox pn xe).nox N (aj st) j:=⟨rfl,FS.nd,fun y kd hy=>.inl hy,rfl,fun _ _=>rfl,hr,rfl,FS.kind⟩
     cases hq:sC (JT [] fx (aj st) N (tr S 40 none (aj st) N) (vm (aj st) N (tr S 40 none (aj st) N) 40) 10) (vm (aj st) N (tr S 40 none (aj st) N) 40) body with
     | none=>exact Kl
     | some xg=>exact J2 C' B hf hi hx hp (fun c hcl=>by cases hcl) hq
    ·intro c d hcd
     have hcd':=hcd
     unfold my at hcd'
     split at hcd'
     ·rename_i hc
      obtain⟨z,hz,rfl⟩:=List.mem_map.mp (List.contains_iff_mem.mp (List.all_eq_true.mp hns c (List.contains_iff_mem.mp hc)))
      refine⟨fun C hC=>?_,⟨z.2,M.at_ z hz⟩,Dy (R z.1 d hcd) C.room (C.gl hgR) (by decide) hiN' hloc hloc hnd⟩
      have:=M.at_ z hz
      rw[show mg z.1=some (.ref C) from hC] at this
      cases this
      exact M.xm z hz
     ·cases hcd'
   ·cases t
  ·cases t
 unfold b9 at hd
 obtain⟨o,ho,hd⟩:=ag hd
 refine⟨_,(key _ rfl ⟨rfl,FS.nd,fun y kd hy=>.inl hy,rfl,fun _ _=>rfl,hr,rfl,FS.kind⟩ HF H).nox,HF,_,o,yi sm tb rr,ho,?_⟩
 cases o with
 | rt d'=>cases hd;exact fun v H' HF' G r=>q v H' HF' G r
 | nx ρ'=>cases hd;exact fun σ' H' HF' S' _=>q .non H' HF' S'.gr (by simp[Rep])
end
end Ex
namespace Hd
open PySem L2 Dl PySem.Spec PyProof.Rows
section
variable {K:W.Frag}
theorem M1{x:Str}{st:Stmt}{ps:List Str}{f c:Addr}{pm:Value}(hb:jy st ps)(a:W.nsIn K mainGlobals x=some (some (.ref f)))(l:K.lookup f=some (fo x st pm c))(d:W.codeIn K (.ref c) x=true)(k:W.keepIn K (.ref f)=true):bj K x st ps:=NZ hb a l d k
end
section
variable {α:Type}{R:List α->Prop}
theorem DD(h:∀a,R [a])(us:List α)(e:us.length=1):R us:=by
 obtain⟨a,rfl⟩:=List.length_eq_one_iff.mp e;exact h a
theorem Hw{n:Nat}(us:List α)(e:us.length=n+1):∃a r,us=a::r/\r.length=n:=by
 cases us with
 | nil=>cases e
 | cons a r=>exact⟨a,r,rfl,by simpa using e⟩
theorem NN(h:∀a b,R [a,b])(us:List α)(e:us.length=2):R us:=by
 obtain⟨a,r,rfl,e'⟩:=Hw us e;exact DD (R:=fun r=>R (a::r)) (h a) r e'
theorem Os(h:∀a b c,R [a,b,c])(us:List α)(e:us.length=3):R us:=by
 obtain⟨a,r,rfl,e'⟩:=Hw us e;exact NN (R:=fun r=>R (a::r)) (h a) r e'
theorem On(h:∀a b c d,R [a,b,c,d])(us:List α)(e:us.length=4):R us:=by
 obtain⟨a,r,rfl,e'⟩:=Hw us e;exact Os (R:=fun r=>R (a::r)) (h a) r e'
theorem N6(h:∀a b c d f,R [a,b,c,d,f])(us:List α)(e:us.length=5):R us:=by
 obtain⟨a,r,rfl,e'⟩:=Hw us e;exact On (R:=fun r=>R (a::r)) (h a) r e'
theorem PP(h:∀a b c d f g,R [a,b,c,d,f,g])(us:List α)(e:us.length=6):R us:=by
 obtain⟨a,r,rfl,e'⟩:=Hw us e;exact N6 (R:=fun r=>R (a::r)) (h a) r e'
end
section
variable {K:W.Frag}
theorem f1(f c:Addr)(pm:Value){x:Str}{st:Stmt}{ps:List Str}(hb:jy st ps:=by exact fun _ _ _ _ _ _ _ _ us hl=>DD (R:=fun us=>bindArgs _ ⟨us,[]⟩=pure (List.zip _ us)) (fun _=>rfl) us hl)(a:W.nsIn K mainGlobals x=some (some (.ref f)):=by kernel_rfl)(l:K.lookup f=some (fo x st pm c):=by kernel_rfl)(d:W.codeIn K (.ref c) x=true:=by kernel_rfl)(k:W.keepIn K (.ref f)=true:=by kernel_rfl):bj K x st ps:=M1 hb a l d k
theorem f2(f c:Addr)(pm:Value){x:Str}{st:Stmt}{ps:List Str}(hb:jy st ps:=by exact fun _ _ _ _ _ _ _ _ us hl=>NN (R:=fun us=>bindArgs _ ⟨us,[]⟩=pure (List.zip _ us)) (fun _ _=>rfl) us hl)(a:W.nsIn K mainGlobals x=some (some (.ref f)):=by kernel_rfl)(l:K.lookup f=some (fo x st pm c):=by kernel_rfl)(d:W.codeIn K (.ref c) x=true:=by kernel_rfl)(k:W.keepIn K (.ref f)=true:=by kernel_rfl):bj K x st ps:=M1 hb a l d k
theorem f3(f c:Addr)(pm:Value){x:Str}{st:Stmt}{ps:List Str}(hb:jy st ps:=by exact fun _ _ _ _ _ _ _ _ us hl=>Os (R:=fun us=>bindArgs _ ⟨us,[]⟩=pure (List.zip _ us)) (fun _ _ _=>rfl) us hl)(a:W.nsIn K mainGlobals x=some (some (.ref f)):=by kernel_rfl)(l:K.lookup f=some (fo x st pm c):=by kernel_rfl)(d:W.codeIn K (.ref c) x=true:=by kernel_rfl)(k:W.keepIn K (.ref f)=true:=by kernel_rfl):bj K x st ps:=M1 hb a l d k
theorem f4(f c:Addr)(pm:Value){x:Str}{st:Stmt}{ps:List Str}(hb:jy st ps:=by exact fun _ _ _ _ _ _ _ _ us hl=>On (R:=fun us=>bindArgs _ ⟨us,[]⟩=pure (List.zip _ us)) (fun _ _ _ _=>rfl) us hl)(a:W.nsIn K mainGlobals x=some (some (.ref f)):=by kernel_rfl)(l:K.lookup f=some (fo x st pm c):=by kernel_rfl)(d:W.codeIn K (.ref c) x=true:=by kernel_rfl)(k:W.keepIn K (.ref f)=true:=by kernel_rfl):bj K x st ps:=M1 hb a l d k
theorem f5(f c:Addr)(pm:Value){x:Str}{st:Stmt}{ps:List Str}(hb:jy st ps:=by exact fun _ _ _ _ _ _ _ _ us hl=>N6 (R:=fun us=>bindArgs _ ⟨us,[]⟩=pure (List.zip _ us)) (fun _ _ _ _ _=>rfl) us hl)(a:W.nsIn K mainGlobals x=some (some (.ref f)):=by kernel_rfl)(l:K.lookup f=some (fo x st pm c):=by kernel_rfl)(d:W.codeIn K (.ref c) x=true:=by kernel_rfl)(k:W.keepIn K (.ref f)=true:=by kernel_rfl):bj K x st ps:=M1 hb a l d k
theorem f6(f c:Addr)(pm:Value){x:Str}{st:Stmt}{ps:List Str}(hb:jy st ps:=by exact fun _ _ _ _ _ _ _ _ us hl=>PP (R:=fun us=>bindArgs _ ⟨us,[]⟩=pure (List.zip _ us)) (fun _ _ _ _ _ _=>rfl) us hl)(a:W.nsIn K mainGlobals x=some (some (.ref f)):=by kernel_rfl)(l:K.lookup f=some (fo x st pm c):=by kernel_rfl)(d:W.codeIn K (.ref c) x=true:=by kernel_rfl)(k:W.keepIn K (.ref f)=true:=by kernel_rfl):bj K x st ps:=M1 hb a l d k
end
end Hd
namespace Pg
open PySem L2 Dl PySem.Spec PyProof.Rows
abbrev Bi:List Str:=["thing","least","most"]
def mj:aq->Option Out:=(ay (iw (pM (cu (fB (J0 "int" (ae 0)))) (fB (J0 "bool" (ae 0)))) (bu (fC (.bool false))) cU) (bu (j4 FZ FZ (ae 1) (ae 0) (ae 2))))
def bf:List D->Option D:=b9 mj 3
abbrev zc:List Str:=["thing","many"]
def kn:aq->Option Out:=(bu (ah 3 bf (aa (ae 0) (aa (fC (.int 0)) (aa (f2 Dl.lJ (ae 1) (fC (.int 1))) af)))))
def bV:List D->Option D:=b9 kn 2
abbrev Dm:List Str:=["thing","least","most"]
def n5:aq->Option Out:=(bu (rS (J0 "tuple" (ae 0)) (j4 FZ FZ (ae 1) (bR bz (aa (ae 0) af)) (ae 2))))
def bP:List D->Option D:=b9 n5 3
abbrev zl:List Str:=["thing","many"]
def j7:aq->Option Out:=(ay (iw (cu (fB (J0 "tuple" (ae 0)))) (bu (fC (.bool false))) cU) (ay (iw (cu (fB (bR za (aa (dM (aN 1 [1] (bO (ae 0)) (fG 0) (fun _=>some true) (ah 2 bV (aa (ae 0) (aa (ae 1) af))))) af)))) (bu (fC (.bool false))) cU) (bu (f2 cI (f1 lH (ae 0)) (bR bz (aa (ae 0) af))))))
def fA:List D->Option D:=b9 j7 2
abbrev Hf:List Str:=["thing","many"]
def qh:aq->Option Out:=(bu (rS (ah 3 bP (aa (ae 0) (aa (fC (.int 2)) (aa (fC (.int 2)) af)))) (rS (ah 3 bf (aa (f2 aC (ae 0) (fC (.int 0))) (aa (fC (.int 0)) (aa (fC (.int 9)) af)))) (ah 2 fA (aa (f2 aC (ae 0) (fC (.int 1))) (aa (ae 1) af))))))
def fM:List D->Option D:=b9 qh 2
abbrev G6:List Str:=["thing","givers","takers"]
def p7:aq->Option Out:=(ay (iw (cu (fB (ah 3 bP (aa (ae 0) (aa (fC (.int 3)) (aa (fC (.int 3)) af)))))) (bu (fC (.bool false))) cU) (bu (rS (ah 2 bV (aa (f2 aC (ae 0) (fC (.int 0))) (aa (ae 1) af))) (rS (ah 2 bV (aa (f2 aC (ae 0) (fC (.int 1))) (aa (ae 2) af))) (ah 3 bf (aa (f2 aC (ae 0) (fC (.int 2))) (aa (fC (.int 1)) (aa (fC (.int 9)) af))))))))
def iF:List D->Option D:=b9 p7 3
abbrev xq:List Str:=["givers","takers","ways"]
def k7:aq->Option Out:=(ay (iw (pM (cu (fB (ah 3 bP (aa (ae 0) (aa (fC (.int 1)) (aa (fC (.int 4)) af)))))) (cu (fB (ah 3 bP (aa (ae 1) (aa (fC (.int 1)) (aa (fC (.int 4)) af))))))) (bu (fC (.bool false))) cU) (ay (iw (cu (fB (bR za (aa (dM (aN 1 [1] (bO (ae 0)) (fG 0) (fun _=>some true) (ah 2 fM (aa (ae 0) (aa (bR bz (aa (ae 1) af)) af))))) af)))) (bu (fC (.bool false))) cU) (ay (iw (cu (fB (bR za (aa (dM (aN 1 [0] (bO (ae 1)) (fG 0) (fun _=>some true) (ah 2 fM (aa (ae 0) (aa (bR bz (aa (ae 1) af)) af))))) af)))) (bu (fC (.bool false))) cU) (bu (rS (J0 "tuple" (ae 2)) (bR za (aa (dM (aN 1 [0,1] (bO (ae 2)) (fG 0) (fun _=>some true) (ah 3 iF (aa (ae 0) (aa (bR bz (aa (ae 1) af)) (aa (bR bz (aa (ae 2) af)) af)))))) af)))))))
def fH:List D->Option D:=b9 k7 3
abbrev sj:List Str:=["places","pairs","number","place"]
def gW:aq->Option Out:=(ay (br 1 [] (cQ af)) (ay (hU [0] (dA (aa (ae 0) af)) (mE 2 3) (Al 1 [2,3] (aN 1 [2] (bO (f2 aC (ae 3) (fC (.int 1)))) (fG 0) (fun _=>some true) (aA (aa (ae 1) (aa (ae 0) af)))))) (bu (ae 1))))
def bF:List D->Option D:=b9 gW 4
abbrev BD:List Str:=["thing","joined","by_givers","by_takers"]
def gu:aq->Option Out:=(ay (iw (pM (cu (fB (ah 3 bP (aa (ae 0) (aa (fC (.int 3)) (aa (fC (.int 3)) af)))))) (cu (fB (ah 3 fH (aa (f2 aC (ae 0) (fC (.int 0))) (aa (f2 aC (ae 0) (fC (.int 1))) (aa (f2 aC (ae 0) (fC (.int 2))) af))))))) (bu (fC (.bool false))) cU) (ay (br 1 [0] (aN 1 [] (bO (f2 aC (ae 0) (fC (.int 2)))) (fG 0) (fun _=>some true) (aA (aa (f2 aC (ae 0) (fC (.int 0))) (aa (f2 aC (ae 0) (fC (.int 1))) af))))) (ay (br 2 [0] (kc du (aa (ah 1 bF (aa (f2 aC (ae 0) (fC (.int 0))) af)) af))) (ay (br 3 [0] (kc du (aa (dM (aN 2 [] (bO (ah 1 bF (aa (f2 aC (ae 0) (fC (.int 1))) af))) (zx 0 1) (fun _=>some true) (aA (aa (ae 1) (aa (ae 0) af))))) af))) (bu (rS (f2 cI (ae 1) (ae 2)) (f2 cI (ae 1) (ae 3))))))))
def aY:List D->Option D:=b9 gu 4
abbrev lN:List Str:=["world"]
def dF:aq->Option Out:=(iw (cu (fB (ah 1 aY (aa (ae 0) af)))) KS cU)
def az:List D->Option D:=b9 dF 1
abbrev lX:List Str:=["thing","least","most"]
def ck:aq->Option Out:=(iw (cu (fB (ah 3 bf (aa (ae 0) (aa (ae 1) (aa (ae 2) af)))))) KS cU)
def aF:List D->Option D:=b9 ck 3
abbrev ku:List Str:=["thing","many"]
def bQ:aq->Option Out:=(bH (ah 3 aF (aa (ae 0) (aa (fC (.int 0)) (aa (f2 Dl.lJ (ae 1) (fC (.int 1))) af)))))
def ao:List D->Option D:=b9 bQ 2
abbrev m9:List Str:=["thing"]
def d9:aq->Option Out:=(bH (ah 2 ao (aa (ae 0) (aa (fC (.int 2)) af))))
def dv:List D->Option D:=b9 d9 1
abbrev A1:List Str:=["parts","number","part"]
def iK:aq->Option Out:=(bu (f2 aJ (f2 aJ (gm dz (ae 0) gF (rQ (ae 1))) (aA (aa (ae 2) af))) (gm dz (ae 0) (rQ (f2 aJ (ae 1) (fC (.int 1)))) gF)))
def cM:List D->Option D:=b9 iK 3
abbrev y9:List Str:=["_law_script","_law_k"]
def gN:aq->Option Out:=(ay (iw (fB (f2 cI (ae 0) (dM (cQ af)))) (bu (f2 gH (fC (.int 7)) (ae 1))) cU) (bu (f2 aJ (f2 aC (ae 0) (f2 lM (ae 1) (bR bz (aa (ae 0) af)))) (f2 gH (fC (.int 6553)) (f2 nz (ae 1) (bR bz (aa (ae 0) af)))))))
def dY:List D->Option D:=b9 gN 2
abbrev uF:List Str:=["_law_script","_law_k","_law_many","_law_cell_here"]
def iW:aq->Option Out:=(ay (ba 3 [0,1] (f2 lM (f2 aJ (f2 gH (f2 lM (ah 2 dY (aa (ae 0) (aa (ae 1) af))) (fC (.int 2147483563))) (fC (.int 69069))) (f2 gH (fC (.int 104723)) (f2 aJ (ae 1) (fC (.int 1))))) (fC (.int 2147483563)))) (ay (ba 3 [3] (f2 lM (f2 aJ (f2 gH (ae 3) (ae 3)) (f2 nz (ae 3) (fC (.int 3)))) (fC (.int 2147483399)))) (bu (f2 lM (f2 nz (f2 lM (f2 aJ (f2 gH (ae 3) (ae 3)) (f2 nz (ae 3) (fC (.int 7)))) (fC (.int 2147483647))) (fC (.int 11))) (ae 2)))))
def ak:List D->Option D:=b9 iW 4
abbrev sN:List Str:=["_law_script","_law_at","_law_rows","_law_found","_law_k","_law_row","_law_order","_law_j","_law_one"]
def gS:aq->Option Out:=(ay (br 3 [] (cQ af)) (ay (hU [2] (dA (aa (ae 2) af)) (mE 4 5) (ay (br 6 [] (cQ af)) (ay (hU [5] (dA (aa (ae 5) af)) (mE 7 8) (G1 6 [8] (ah 3 ak (aa (ae 0) (aa (f2 aJ (f2 aJ (ae 1) (f2 gH (fC (.int 4)) (ae 4))) (ae 7)) (aa (f2 aJ (bR bz (aa (ae 6) af)) (fC (.int 1))) af)))) (ae 8))) (lL 3 [6] (bR bU (aa (ae 6) af)))))) (bu (ae 3))))
def bN:List D->Option D:=b9 gS 9
abbrev vv:List Str:=["_law_script","_law_at","_law_most","_law_each","_law_takers","_law_many","_law_size","_law_ways","_law_k","_law_mine","_law_yours","_law_givers"]
def eI:aq->Option Out:=(ay (iw (oQ (fB (f2 KC (ae 2) (fC (.int 3)))) (fB (f2 cI (ah 3 ak (aa (ae 0) (aa (f2 aJ (ae 1) (fC (.int 64))) (aa (fC (.int 4)) af)))) (fC (.int 0))))) (ay (ba 3 [0,1] (f2 aJ (fC (.int 1)) (ah 3 ak (aa (ae 0) (aa (f2 aJ (ae 1) (fC (.int 65))) (aa (fC (.int 2)) af)))))) (ay (ba 4 [3] (aA (aa (aA (aa (ae 3) (aa (aA (aa (fC (.int 1)) (aa (fC (.int 0)) af))) af))) (aa (aA (aa (ae 3) (aa (aA (aa (fC (.int 0)) (aa (fC (.int 1)) af))) af))) af)))) (bu (aA (aa (aA (aa (aA (aa (ae 3) (aa (aA (aa (fC (.int 0)) (aa (fC (.int 1)) af))) af))) (aa (aA (aa (ae 3) (aa (aA (aa (fC (.int 1)) (aa (fC (.int 0)) af))) af))) af))) (aa (ae 4) (aa (aA (aa (aA (aa (fC (.int 0)) (aa (fC (.int 0)) (aa (fC (.int 2)) af)))) (aa (aA (aa (fC (.int 0)) (aa (fC (.int 1)) (aa (fC (.int 2)) af)))) (aa (aA (aa (fC (.int 1)) (aa (fC (.int 0)) (aa (fC (.int 2)) af)))) (aa (aA (aa (fC (.int 1)) (aa (fC (.int 1)) (aa (fC (.int 2)) af)))) af))))) af))))))) cU) (ay (ba 5 [0,1] (f2 aJ (fC (.int 1)) (ah 3 ak (aa (ae 0) (aa (ae 1) (aa (fC (.int 3)) af)))))) (ay (ba 6 [0,1] (f2 aJ (fC (.int 1)) (ah 3 ak (aa (ae 0) (aa (f2 aJ (ae 1) (fC (.int 1))) (aa (fC (.int 3)) af)))))) (ay (br 7 [] (cQ af)) (ay (hU [5,6] (cg (aa (f2 gH (ae 5) (ae 6)) af)) (AX 8) (iw (oQ (fB (f2 MU (bR bz (aa (ae 7) af)) (ae 2))) (fB (f2 KC (ah 3 ak (aa (ae 0) (aa (f2 aJ (f2 aJ (ae 1) (fC (.int 2))) (ae 8)) (aa (fC (.int 4)) af)))) (fC (.int 0))))) (lL 7 [0,1,6,8] (aA (aa (f2 nz (ae 8) (ae 6)) (aa (f2 lM (ae 8) (ae 6)) (aa (f2 aJ (fC (.int 1)) (ah 3 ak (aa (ae 0) (aa (f2 aJ (f2 aJ (ae 1) (fC (.int 12))) (ae 8)) (aa (fC (.int 2)) af))))) af))))) cU)) (ay (ba 9 [0,1,5,7] (ah 3 bN (aa (ae 0) (aa (f2 aJ (ae 1) (fC (.int 24))) (aa (dM (aN 1 [7] (cg (aa (ae 5) af)) (fG 0) (fun _=>some true) (dM (aN 1 [0] (bO (ae 1)) (fG 0) (fB (f2 cI (f2 aC (ae 0) (fC (.int 0))) (ae 1))) (f2 aC (ae 0) (fC (.int 1))))))) af))))) (ay (ba 10 [0,1,6,7] (ah 3 bN (aa (ae 0) (aa (f2 aJ (ae 1) (fC (.int 40))) (aa (dM (aN 1 [7] (cg (aa (ae 6) af)) (fG 0) (fun _=>some true) (dM (aN 1 [0] (bO (ae 1)) (fG 0) (fB (f2 cI (f2 aC (ae 0) (fC (.int 1))) (ae 1))) (f2 aC (ae 0) (fC (.int 0))))))) af))))) (ay (ba 11 [0,1,8,9] (bR bU (aa (dM (aN 2 [0,1] (dA (aa (ae 9) af)) (zx 0 1) (fun _=>some true) (aA (aa (ah 3 ak (aa (ae 2) (aa (f2 aJ (f2 aJ (ae 3) (fC (.int 56))) (ae 0)) (aa (fC (.int 4)) af)))) (aa (ae 1) af))))) af))) (ay (ba 4 [0,1,8,10] (bR bU (aa (dM (aN 2 [0,1] (dA (aa (ae 10) af)) (zx 0 1) (fun _=>some true) (aA (aa (ah 3 ak (aa (ae 2) (aa (f2 aJ (f2 aJ (ae 3) (fC (.int 60))) (ae 0)) (aa (fC (.int 4)) af)))) (aa (ae 1) af))))) af))) (bu (aA (aa (ae 11) (aa (ae 4) (aa (bR bU (aa (ae 7) af)) af))))))))))))))
def bX:List D->Option D:=b9 eI 12
abbrev lS:List Str:=["world","side","place"]
def dI:aq->Option Out:=(ay (bH (ah 1 dv (aa (ae 1) af))) (bH (ah 2 ao (aa (ae 2) (aa (bR bz (aa (f2 aC (ae 0) (ae 1)) af)) af)))))
def aH:List D->Option D:=b9 dI 3
abbrev BG:List Str:=["world","side","place","amount","likes"]
def eY:aq->Option Out:=(bu (ah 3 cM (aa (ae 0) (aa (ae 1) (aa (ah 3 cM (aa (f2 aC (ae 0) (ae 1)) (aa (ae 2) (aa (aA (aa (ae 3) (aa (ae 4) af))) af)))) af)))))
def dR:List D->Option D:=b9 eY 5
abbrev l4:List Str:=["world","side","place","amount"]
def fv:aq->Option Out:=(ay (bH (ah 1 az (aa (ae 0) af))) (ay (bH (ah 3 aH (aa (ae 0) (aa (ae 1) (aa (ae 2) af))))) (ay (bH (ah 3 aF (aa (ae 3) (aa (fC (.int 0)) (aa (fC (.int 9)) af))))) (bu (ah 5 dR (aa (ae 0) (aa (ae 1) (aa (ae 2) (aa (ae 3) (aa (f2 aC (f2 aC (f2 aC (ae 0) (ae 1)) (ae 2)) (fC (.int 1))) af))))))))))
def bw:List D->Option D:=b9 fv 4
abbrev v8:List Str:=["world","side","place","likes"]
def fR:aq->Option Out:=(bu (ah 5 dR (aa (ae 0) (aa (ae 1) (aa (ae 2) (aa (f2 aC (f2 aC (f2 aC (ae 0) (ae 1)) (ae 2)) (fC (.int 0))) (aa (ae 3) af)))))))
def bx:List D->Option D:=b9 fR 4
abbrev Ak:List Str:=["world","ways"]
def gK:aq->Option Out:=(bu (ah 3 cM (aa (ae 0) (aa (fC (.int 2)) (aa (bR bU (aa (ae 1) af)) af)))))
def bL:List D->Option D:=b9 gK 2
abbrev mR:List Str:=["world","way","limit","old"]
def fW:aq->Option Out:=(ay (bH (ah 1 az (aa (ae 0) af))) (ay (bH (ah 2 ao (aa (ae 1) (aa (bR bz (aa (f2 aC (ae 0) (fC (.int 2))) af)) af)))) (ay (bH (ah 3 aF (aa (ae 2) (aa (fC (.int 1)) (aa (fC (.int 9)) af))))) (ay (ba 3 [0,1] (f2 aC (f2 aC (ae 0) (fC (.int 2))) (ae 1))) (bu (ah 2 bL (aa (ae 0) (aa (ah 3 cM (aa (f2 aC (ae 0) (fC (.int 2))) (aa (ae 1) (aa (aA (aa (f2 aC (ae 3) (fC (.int 0))) (aa (f2 aC (ae 3) (fC (.int 1))) (aa (ae 2) af)))) af)))) af))))))))
def bE:List D->Option D:=b9 fW 4
abbrev lT:List Str:=["world","way","gone","changed","side","old"]
def fy:aq->Option Out:=(ay (bH (ah 1 az (aa (ae 0) af))) (ay (bH (ah 2 ao (aa (ae 1) (aa (bR bz (aa (f2 aC (ae 0) (fC (.int 2))) af)) af)))) (ay (ba 2 [0,1] (f2 aC (f2 aC (ae 0) (fC (.int 2))) (ae 1))) (ay (ba 3 [0,2] (ah 2 bL (aa (ae 0) (aa (dM (aN 1 [2] (bO (f2 aC (ae 0) (fC (.int 2)))) (fG 0) (fB (f2 dD (ae 0) (ae 1))) (ae 0))) af)))) (ay (hU [] (bO (aA (aa (fC (.int 0)) (aa (fC (.int 1)) af)))) (AX 4) (ay (ba 5 [0,2,4] (f2 aC (f2 aC (f2 aC (ae 0) (ae 4)) (f2 aC (ae 2) (ae 4))) (fC (.int 1)))) (ba 3 [2,3,4,5] (ah 4 bx (aa (ae 3) (aa (ae 4) (aa (f2 aC (ae 2) (ae 4)) (aa (bR bU (aa (dM (aN 1 [2,4] (bO (ae 5)) (fG 0) (fB (f2 dD (ae 0) (f2 aC (ae 1) (f2 Dl.lJ (fC (.int 1)) (ae 2))))) (ae 0))) af)) af)))))))) (bu (ae 3)))))))
def bD:List D->Option D:=b9 fy 6
abbrev Br:List Str:=["old","number","other"]
def ji:aq->Option Out:=(bu (f2 aJ (f2 aJ (gm dz (ae 0) gF (rQ (ae 1))) (aA (aa (ae 2) af))) (gm dz (ae 0) (rQ (ae 1)) gF)))
def gC:List D->Option D:=b9 ji 3
abbrev rO:List Str:=["world","giver","taker","limit","at_giver","at_taker","of_giver","of_taker","changed"]
def jd:aq->Option Out:=(ay (bH (ah 1 az (aa (ae 0) af))) (ay (bH (ah 3 aH (aa (ae 0) (aa (fC (.int 0)) (aa (ae 1) af))))) (ay (bH (ah 3 aH (aa (ae 0) (aa (fC (.int 1)) (aa (ae 2) af))))) (ay (bH (ah 3 aF (aa (ae 3) (aa (fC (.int 1)) (aa (fC (.int 9)) af))))) (ay (ba 6 [0,1] (f2 aC (f2 aC (f2 aC (ae 0) (fC (.int 0))) (ae 1)) (fC (.int 1)))) (ay (ba 7 [0,2] (f2 aC (f2 aC (f2 aC (ae 0) (fC (.int 1))) (ae 2)) (fC (.int 1)))) (ay (bH (ah 2 ao (aa (ae 4) (aa (f2 aJ (bR bz (aa (ae 6) af)) (fC (.int 1))) af)))) (ay (bH (ah 2 ao (aa (ae 5) (aa (f2 aJ (bR bz (aa (ae 7) af)) (fC (.int 1))) af)))) (ay (iw (fB (f2 pk (ae 2) (ae 6))) KS cU) (ay (ba 8 [0,1,2,3] (ah 2 bL (aa (ae 0) (aa (dM (kc du (aa (f2 aJ (f2 aC (ae 0) (fC (.int 2))) (aA (aa (aA (aa (ae 1) (aa (ae 2) (aa (ae 3) af)))) af))) af))) af)))) (ay (ba 8 [1,2,4,6,8] (ah 4 bx (aa (ae 8) (aa (fC (.int 0)) (aa (ae 1) (aa (ah 3 gC (aa (ae 6) (aa (ae 4) (aa (ae 2) af)))) af)))))) (bu (ah 4 bx (aa (ae 8) (aa (fC (.int 1)) (aa (ae 2) (aa (ah 3 gC (aa (ae 7) (aa (ae 5) (aa (ae 1) af)))) af)))))))))))))))))
def bI:List D->Option D:=b9 jd 9
open PySem L2 Dl PySem.Spec PyProof.Rows Ex
def ko:XS:=(Et (cu (fB (ah 1 aY (aa (ae 0) af)))) (Nq "NoWorld") bY)
def aL:List D->Option Str:=qm ko 1
def j1:XS:=(Et (cu (fB (ah 3 bf (aa (ae 0) (aa (ae 1) (aa (ae 2) af)))))) (Nq "NoPlace") bY)
def aK:List D->Option Str:=qm j1 3
def jt:XS:=(dc (jn 3 aK (aa (ae 0) (aa (fC (.int 0)) (aa (f2 Dl.lJ (ae 1) (fC (.int 1))) af)))))
def au:List D->Option Str:=qm jt 2
def lV:XS:=(dc (jn 2 au (aa (ae 0) (aa (fC (.int 2)) af))))
def fT:List D->Option Str:=qm lV 1
def j5:XS:=(bT (dc (jn 1 fT (aa (ae 1) af))) (bH (ah 1 dv (aa (ae 1) af))) (dc (jn 2 au (aa (ae 2) (aa (bR bz (aa (f2 aC (ae 0) (ae 1)) af)) af)))))
def aZ:List D->Option Str:=qm j5 3
def k9:XS:=(bT (dc (jn 1 aL (aa (ae 0) af))) (bH (ah 1 az (aa (ae 0) af))) (bT (dc (jn 3 aZ (aa (ae 0) (aa (ae 1) (aa (ae 2) af))))) (bH (ah 3 aH (aa (ae 0) (aa (ae 1) (aa (ae 2) af))))) (dc (jn 3 aK (aa (ae 3) (aa (fC (.int 0)) (aa (fC (.int 9)) af)))))))
def bZ:List D->Option Str:=qm k9 4
def l5:XS:=(bT (dc (jn 1 aL (aa (ae 0) af))) (bH (ah 1 az (aa (ae 0) af))) (bT (dc (jn 2 au (aa (ae 1) (aa (bR bz (aa (f2 aC (ae 0) (fC (.int 2))) af)) af)))) (bH (ah 2 ao (aa (ae 1) (aa (bR bz (aa (f2 aC (ae 0) (fC (.int 2))) af)) af)))) (dc (jn 3 aK (aa (ae 2) (aa (fC (.int 1)) (aa (fC (.int 9)) af)))))))
def cC:List D->Option Str:=qm l5 4
def jx:XS:=(bT (dc (jn 1 aL (aa (ae 0) af))) (bH (ah 1 az (aa (ae 0) af))) (dc (jn 2 au (aa (ae 1) (aa (bR bz (aa (f2 aC (ae 0) (fC (.int 2))) af)) af)))))
def cO:List D->Option Str:=qm jx 6
def ou:XS:=(bT (dc (jn 1 aL (aa (ae 0) af))) (bH (ah 1 az (aa (ae 0) af))) (bT (dc (jn 3 aZ (aa (ae 0) (aa (fC (.int 0)) (aa (ae 1) af))))) (bH (ah 3 aH (aa (ae 0) (aa (fC (.int 0)) (aa (ae 1) af))))) (bT (dc (jn 3 aZ (aa (ae 0) (aa (fC (.int 1)) (aa (ae 2) af))))) (bH (ah 3 aH (aa (ae 0) (aa (fC (.int 1)) (aa (ae 2) af))))) (bT (dc (jn 3 aK (aa (ae 3) (aa (fC (.int 1)) (aa (fC (.int 9)) af))))) (bH (ah 3 aF (aa (ae 3) (aa (fC (.int 1)) (aa (fC (.int 9)) af))))) (p8 (ba 6 [0,1] (f2 aC (f2 aC (f2 aC (ae 0) (fC (.int 0))) (ae 1)) (fC (.int 1)))) (p8 (ba 7 [0,2] (f2 aC (f2 aC (f2 aC (ae 0) (fC (.int 1))) (ae 2)) (fC (.int 1)))) (bT (dc (jn 2 au (aa (ae 4) (aa (f2 aJ (bR bz (aa (ae 6) af)) (fC (.int 1))) af)))) (bH (ah 2 ao (aa (ae 4) (aa (f2 aJ (bR bz (aa (ae 6) af)) (fC (.int 1))) af)))) (bT (dc (jn 2 au (aa (ae 5) (aa (f2 aJ (bR bz (aa (ae 7) af)) (fC (.int 1))) af)))) (bH (ah 2 ao (aa (ae 5) (aa (f2 aJ (bR bz (aa (ae 7) af)) (fC (.int 1))) af)))) (Et (fB (f2 pk (ae 2) (ae 6))) (Nq "NoPlace") bY)))))))))
def b8:List D->Option Str:=qm ou 9
abbrev oX:List Str:=["_law_way","_law_world_here","_law_some","_law_e"]
def jq:aq->Option Out:=(Ar (ay (iw (fB (f2 cI (ae 0) (fC (.int 0)))) (bu (ah 4 bw (aa (ae 1) (aa (f2 aC (ae 2) (fC (.int 0))) (aa (f2 aC (ae 2) (fC (.int 1))) (aa (f2 aC (ae 2) (fC (.int 2))) af)))))) cU) (ay (iw (fB (f2 cI (ae 0) (fC (.int 1)))) (bu (ah 3 bE (aa (ae 1) (aa (f2 aC (ae 2) (fC (.int 0))) (aa (f2 aC (ae 2) (fC (.int 1))) af))))) cU) (ay (iw (fB (f2 cI (ae 0) (fC (.int 2)))) (bu (ah 2 bD (aa (ae 1) (aa (f2 aC (ae 2) (fC (.int 0))) af)))) cU) (bu (ah 6 bI (aa (ae 1) (aa (f2 aC (ae 2) (fC (.int 0))) (aa (f2 aC (ae 2) (fC (.int 1))) (aa (f2 aC (ae 2) (fC (.int 2))) (aa (f2 aC (ae 2) (fC (.int 3))) (aa (f2 aC (ae 2) (fC (.int 4))) af))))))))))) (bT (Et (fB (f2 cI (ae 0) (fC (.int 0)))) (dc (jn 4 bZ (aa (ae 1) (aa (f2 aC (ae 2) (fC (.int 0))) (aa (f2 aC (ae 2) (fC (.int 1))) (aa (f2 aC (ae 2) (fC (.int 2))) af)))))) bY) (iw (fB (f2 cI (ae 0) (fC (.int 0)))) (bu (ah 4 bw (aa (ae 1) (aa (f2 aC (ae 2) (fC (.int 0))) (aa (f2 aC (ae 2) (fC (.int 1))) (aa (f2 aC (ae 2) (fC (.int 2))) af)))))) cU) (bT (Et (fB (f2 cI (ae 0) (fC (.int 1)))) (dc (jn 3 cC (aa (ae 1) (aa (f2 aC (ae 2) (fC (.int 0))) (aa (f2 aC (ae 2) (fC (.int 1))) af))))) bY) (iw (fB (f2 cI (ae 0) (fC (.int 1)))) (bu (ah 3 bE (aa (ae 1) (aa (f2 aC (ae 2) (fC (.int 0))) (aa (f2 aC (ae 2) (fC (.int 1))) af))))) cU) (bT (Et (fB (f2 cI (ae 0) (fC (.int 2)))) (dc (jn 2 cO (aa (ae 1) (aa (f2 aC (ae 2) (fC (.int 0))) af)))) bY) (iw (fB (f2 cI (ae 0) (fC (.int 2)))) (bu (ah 2 bD (aa (ae 1) (aa (f2 aC (ae 2) (fC (.int 0))) af)))) cU) (dc (jn 6 b8 (aa (ae 1) (aa (f2 aC (ae 2) (fC (.int 0))) (aa (f2 aC (ae 2) (fC (.int 1))) (aa (f2 aC (ae 2) (fC (.int 2))) (aa (f2 aC (ae 2) (fC (.int 3))) (aa (f2 aC (ae 2) (fC (.int 4))) af))))))))))) (my ["NoWorld","NoPlan","NoPlace","TooMany","Nothing"]))
def ai:List D->Option D:=b9 jq 4
abbrev su:List Str:=["_law_rows","_law_place","_law_row"]
def fu:aq->Option Out:=(bu (f2 aJ (f2 aJ (gm dz (ae 0) gF (rQ (ae 1))) (aA (aa (ae 2) af))) (gm dz (ae 0) (rQ (f2 aJ (ae 1) (fC (.int 1)))) gF)))
def aQ:List D->Option D:=b9 fu 3
abbrev oR:List Str:=["_law_row","_law_one"]
def dQ:aq->Option Out:=(bu (aA (aa (f2 aC (ae 0) (fC (.int 0))) (aa (bR bU (aa (dM (aN 1 [1] (bO (f2 aC (ae 0) (fC (.int 1)))) (fG 0) (fB (f2 dD (ae 0) (ae 1))) (ae 0))) af)) af))))
def bq:List D->Option D:=b9 dQ 2
abbrev sY:List Str:=["_law_script","_law_world_here","_law_givers","_law_takers","_law_ways","_law_odd","_law_side","_law_place","_law_amount","_law_due","_law_bad_ones","_law_way","_law_giver","_law_taker","_law_limit","_law_fresh","_law_less","_law_places","_law_some","_law_one"]
def tH:aq->Option Out:=(ay (ba 1 [0] (ah 3 bX (aa (ae 0) (aa (fC (.int 0)) (aa (fC (.int 9)) af))))) (ay (jb 2 3 4 [1] (ae 1)) (ay (ba 5 [0] (f2 aC (dM (cQ (aa (f1 FQ (fC (.int 1))) (aa (fC (.int 10)) (aa (fC (.bool true)) (aa (fC .none) (aa (fC (.str "1")) af))))))) (ah 3 ak (aa (ae 0) (aa (fC (.int 70)) (aa (fC (.int 5)) af)))))) (ay (ba 6 [0] (ah 3 ak (aa (ae 0) (aa (fC (.int 71)) (aa (fC (.int 2)) af))))) (ay (ba 7 [0,1,6] (ah 3 ak (aa (ae 0) (aa (fC (.int 72)) (aa (bR bz (aa (f2 aC (ae 1) (ae 6)) af)) af))))) (ay (ba 8 [0] (ah 3 ak (aa (ae 0) (aa (fC (.int 73)) (aa (fC (.int 10)) af))))) (ay (br 9 [1] (kc dB (aa (ae 1) af))) (ay (D3 9 [1,6,7,8] (ae 6) (ah 3 aQ (aa (f2 aC (ae 1) (ae 6)) (aa (ae 7) (aa (aA (aa (ae 8) (aa (f2 aC (f2 aC (f2 aC (ae 1) (ae 6)) (ae 7)) (fC (.int 1))) af))) af))))) (ay (iw (fB (f2 dD (ah 3 ai (aa (fC (.int 0)) (aa (ae 1) (aa (aA (aa (ae 6) (aa (ae 7) (aa (ae 8) af)))) af)))) (bR bU (aa (ae 9) af)))) (bu (fC (.bool false))) cU) (ay (br 10 [1,5,6,7,8] (cQ (aa (ah 3 ai (aa (fC (.int 0)) (aa (ae 1) (aa (aA (aa (ae 6) (aa (ae 5) (aa (ae 8) af)))) af)))) (aa (ah 3 ai (aa (fC (.int 0)) (aa (ae 1) (aa (aA (aa (ae 6) (aa (ae 7) (aa (ae 5) af)))) af)))) af)))) (ay (hU [4] (cg (aa (bR bz (aa (ae 4) af)) af)) (AX 11) (ay (jb 12 13 14 [4,11] (f2 aC (ae 4) (ae 11))) (ay (ba 15 [0] (f2 aJ (fC (.int 1)) (ah 3 ak (aa (ae 0) (aa (fC (.int 74)) (aa (fC (.int 9)) af)))))) (ay (iw (fB (f2 dD (ah 3 ai (aa (fC (.int 1)) (aa (ae 1) (aa (aA (aa (ae 11) (aa (ae 15) af))) af)))) (aA (aa (ae 2) (aa (ae 3) (aa (ah 3 aQ (aa (ae 4) (aa (ae 11) (aa (aA (aa (ae 12) (aa (ae 13) (aa (ae 15) af)))) af)))) af)))))) (bu (fC (.bool false))) cU) (ay (ba 16 [2,12,13] (aA (aa (ah 3 aQ (aa (ae 2) (aa (ae 12) (aa (ah 2 bq (aa (f2 aC (ae 2) (ae 12)) (aa (ae 13) af))) af)))) af))) (ay (ba 16 [3,12,13,16] (f2 aJ (ae 16) (aA (aa (ah 3 aQ (aa (ae 3) (aa (ae 13) (aa (ah 2 bq (aa (f2 aC (ae 3) (ae 13)) (aa (ae 12) af))) af)))) af)))) (ay (ba 16 [4,11,16] (f2 aJ (ae 16) (aA (aa (f2 aJ (gm dz (ae 4) gF (rQ (ae 11))) (gm dz (ae 4) (rQ (f2 aJ (ae 11) (fC (.int 1)))) gF)) af)))) (ay (iw (pM (fB (f2 dD (ah 3 ai (aa (fC (.int 2)) (aa (ae 1) (aa (aA (aa (ae 11) af)) af)))) (ae 16))) (cu (fB (ah 1 aY (aa (ae 16) af))))) (bu (fC (.bool false))) cU) (ay (ba 17 [2,3,12,13] (aA (aa (f2 uJ (f2 aC (f2 aC (ae 2) (ae 12)) (fC (.int 1))) (ae 13)) (aa (f2 uJ (f2 aC (f2 aC (ae 3) (ae 13)) (fC (.int 1))) (ae 12)) af)))) (ay (iw (fB (f2 dD (ah 3 ai (aa (fC (.int 3)) (aa (ae 16) (aa (f2 aJ (aA (aa (ae 12) (aa (ae 13) (aa (ae 14) af)))) (ae 17)) af)))) (ae 1))) (bu (fC (.bool false))) cU) (ay (br 10 [1,5,10,11,12,13,14,17] (HL iq (ae 10) (dM (cQ (aa (ah 3 ai (aa (fC (.int 3)) (aa (ae 1) (aa (f2 aJ (aA (aa (ae 12) (aa (ae 13) (aa (ae 14) af)))) (ae 17)) af)))) (aa (ah 3 ai (aa (fC (.int 1)) (aa (ae 1) (aa (aA (aa (ae 11) (aa (ae 5) af))) af)))) af)))))) (ay (br 18 [5,12,13,14] (cQ (aa (aA (aa (ae 12) (aa (ae 13) (aa (ae 14) (aa (ae 5) (aa (fC (.int 0)) af)))))) (aa (aA (aa (ae 12) (aa (ae 5) (aa (fC (.int 1)) (aa (fC (.int 0)) (aa (fC (.int 0)) af)))))) (aa (aA (aa (ae 12) (aa (ae 13) (aa (ae 5) (aa (fC (.int 0)) (aa (fC (.int 0)) af)))))) af))))) (hU [5,12,13,18] (bO (dM (HL iq (ae 18) (dM (cQ (aa (aA (aa (ae 12) (aa (ae 13) (aa (fC (.int 1)) (aa (fC (.int 0)) (aa (ae 5) af)))))) af)))))) (AX 19) (lL 10 [16,19] (ah 3 ai (aa (fC (.int 3)) (aa (ae 16) (aa (ae 19) af)))))))))))))))))) (ay (br 10 [1,5,10] (HL iq (ae 10) (dM (cQ (aa (ah 3 ai (aa (fC (.int 1)) (aa (ae 1) (aa (aA (aa (ae 5) (aa (fC (.int 1)) af))) af)))) (aa (ah 3 ai (aa (fC (.int 2)) (aa (ae 1) (aa (aA (aa (ae 5) af)) af)))) af)))))) (ay (lL 10 [1,4] (ah 3 ai (aa (fC (.int 2)) (aa (ae 1) (aa (aA (aa (bR bz (aa (ae 4) af)) af)) af))))) (ay (iw (fB (f2 dD (ae 10) (dM (oH (cQ (aa (aA (aa (fC (.str "refused")) (aa (fC (.int 2)) af))) af)) (bR bz (aa (ae 10) af)))))) (bu (fC (.bool false))) cU) (bu (f2 cI (dM (aN 1 [1] (cg (aa (fC (.int 4)) af)) (fG 0) (fun _=>some true) (ah 3 ai (aa (ae 0) (aa (gm dz (ae 1) gF (rQ (fC (.int 2)))) (aa (aA (aa (fC (.int 0)) (aa (fC (.int 0)) (aa (fC (.int 0)) (aa (fC (.int 0)) (aa (fC (.int 0)) af)))))) af)))))) (dM (oH (cQ (aa (aA (aa (fC (.str "refused")) (aa (fC (.int 0)) af))) af)) (fC (.int 4))))))))))))))))))))
def il:List D->Option D:=b9 tH 20
end Pg
namespace K50
open PySem L2 Dl PySem.Spec PyProof.Rows
open Pg Ex
abbrev Pm:List Str:=["NoWorld","NoPlan","NoPlace","TooMany","Nothing"]
abbrev rC:Stmt:=top 10
theorem BS:Rf.tW rC Bi ⟨[],[]⟩ none=some mj:=by kernel_rfl
abbrev oF:Stmt:=top 11
theorem xt:Rf.tW oF zc ⟨[("is_whole",3,bf)],[]⟩ none=some kn:=by kernel_rfl
abbrev ua:Stmt:=top 12
theorem Dw:Rf.tW ua Dm ⟨[],[]⟩ none=some n5:=by kernel_rfl
abbrev oC:Stmt:=top 13
theorem xp:Rf.tW oC zl ⟨[("is_number",2,bV)],[]⟩ none=some j7:=by kernel_rfl
abbrev Aq:Stmt:=top 14
theorem Fk:Rf.tW Aq Hf ⟨[("is_long",3,bP),("is_whole",3,bf),("are_likes",2,fA)],[("MOST",9)]⟩ none=some qh:=by kernel_rfl
abbrev z6:Stmt:=top 15
theorem FX:Rf.tW z6 G6 ⟨[("is_long",3,bP),("is_number",2,bV),("is_whole",3,bf)],[("MOST",9)]⟩ none=some p7:=by kernel_rfl
abbrev oE:Stmt:=top 16
theorem zz:Rf.tW oE xq ⟨[("is_long",3,bP),("is_end",2,fM),("is_way",3,iF)],[("MOST_PLACES",4)]⟩ none=some k7:=by kernel_rfl
abbrev me:Stmt:=top 17
theorem sE:Rf.tW me sj ⟨[],[]⟩ none=some gW:=by kernel_rfl
abbrev pO:Stmt:=top 18
theorem Bz:Rf.tW pO BD ⟨[("liked_pairs",1,bF),("is_long",3,bP),("are_parts",3,fH)],[]⟩ none=some gu:=by kernel_rfl
abbrev hJ:Stmt:=top 19
abbrev lP:Rf.Sg:=⟨[("is_world",1,aY)],[]⟩
theorem sv:Rf.tW hJ lN lP none=some dF:=by kernel_rfl
theorem pV:Ex.HN hJ lN lP [] ["NoWorld"]=some ko:=by kernel_rfl
abbrev gU:Stmt:=top 20
abbrev lU:Rf.Sg:=⟨[("is_whole",3,bf)],[]⟩
theorem rR:Rf.tW gU lX lU none=some ck:=by kernel_rfl
theorem pF:Ex.HN gU lX lU [] ["NoPlace"]=some j1:=by kernel_rfl
abbrev gz:Stmt:=top 21
abbrev kf:Rf.Sg:=⟨[("check_whole",3,aF)],[]⟩
theorem qg:Rf.tW gz ku kf none=some bQ:=by kernel_rfl
theorem oS:Ex.HN gz ku kf [("check_whole",3,aK)] []=some jt:=by kernel_rfl
abbrev jl:Stmt:=top 22
abbrev mM:Rf.Sg:=⟨[("check_number",2,ao)],[]⟩
theorem ur:Rf.tW jl m9 mM none=some d9:=by kernel_rfl
theorem sF:Ex.HN jl m9 mM [("check_number",2,au)] []=some lV:=by kernel_rfl
abbrev g9:Stmt:=top 23
abbrev lZ:Rf.Sg:=⟨[("check_side",1,dv),("check_number",2,ao)],[]⟩
theorem rY:Rf.tW g9 lS lZ none=some dI:=by kernel_rfl
theorem rL:Ex.HN g9 lS lZ [("check_side",1,fT),("check_number",2,au)] []=some j5:=by kernel_rfl
abbrev rh:Stmt:=top 24
theorem Bh:Rf.tW rh A1 ⟨[],[]⟩ none=some iK:=by kernel_rfl
abbrev qj:Stmt:=top 26
theorem A5:Rf.tW qj BG ⟨[("replaced",3,cM)],[]⟩ none=some eY:=by kernel_rfl
abbrev nC:Stmt:=top 27
theorem wq:Rf.tW nC v8 ⟨[("with_end",5,dR)],[]⟩ none=some fR:=by kernel_rfl
abbrev ow:Stmt:=top 28
theorem zd:Rf.tW ow Ak ⟨[("replaced",3,cM)],[]⟩ none=some gK:=by kernel_rfl
abbrev g0:Stmt:=top 29
abbrev l8:Rf.Sg:=⟨[("check_world",1,az),("check_place",3,aH),("check_whole",3,aF),("with_end",5,dR)],[("MOST",9)]⟩
theorem sO:Rf.tW g0 l4 l8 none=some fv:=by kernel_rfl
theorem qa:Ex.HN g0 l4 l8 [("check_world",1,aL),("check_place",3,aZ),("check_whole",3,aK)] []=some k9:=by kernel_rfl
abbrev jg:Stmt:=top 30
abbrev nv:Rf.Sg:=⟨[("check_world",1,az),("check_number",2,ao),("check_whole",3,aF),("with_ways",2,bL),("replaced",3,cM)],[("MOST",9)]⟩
theorem uA:Rf.tW jg mR nv none=some fW:=by kernel_rfl
theorem sM:Ex.HN jg mR nv [("check_world",1,aL),("check_number",2,au),("check_whole",3,aK)] []=some l5:=by kernel_rfl
abbrev gR:Stmt:=top 31
abbrev lO:Rf.Sg:=⟨[("check_world",1,az),("check_number",2,ao),("with_ways",2,bL),("with_likes",4,bx)],[]⟩
theorem r8:Rf.tW gR lT lO none=some fy:=by kernel_rfl
theorem rH:Ex.HN gR lT lO [("check_world",1,aL),("check_number",2,au)] []=some jx:=by kernel_rfl
abbrev rz:Stmt:=top 32
theorem AB:Rf.tW rz Br ⟨[],[]⟩ none=some ji:=by kernel_rfl
abbrev mw:Stmt:=top 33
abbrev rm:Rf.Sg:=⟨[("check_world",1,az),("check_place",3,aH),("check_whole",3,aF),("check_number",2,ao),("with_ways",2,bL),("with_likes",4,bx),("inserted",3,gC)],[("MOST",9)]⟩
theorem AC:Rf.tW mw rO rm none=some jd:=by kernel_rfl
theorem Ae:Ex.HN mw rO rm [("check_world",1,aL),("check_place",3,aZ),("check_whole",3,aK),("check_number",2,au)] ["NoPlace"]=some ou:=by kernel_rfl
abbrev oJ:Stmt:=top 35
theorem Ao:Rf.tW oJ y9 ⟨[],[]⟩ none=some gN:=by kernel_rfl
abbrev mT:Stmt:=top 36
theorem uO:Rf.tW mT uF ⟨[("_law_cell",2,dY)],[]⟩ none=some iW:=by kernel_rfl
abbrev l9:Stmt:=top 37
theorem si:Rf.tW l9 sN ⟨[("_law_drawn",3,ak)],[]⟩ none=some gS:=by kernel_rfl
abbrev nu:Stmt:=top 38
theorem uw:Rf.tW nu vv ⟨[("_law_orders",3,bN),("_law_drawn",3,ak)],[]⟩ none=some eI:=by kernel_rfl
abbrev p6:Stmt:=top 39
abbrev oK:Stmt:=top 40
theorem zt:Ex.Pw oK oX ⟨[("with_way",6,bI),("with_amount",4,bw),("with_limit",3,bE),("without_way",2,bD)],[]⟩ [("with_way",6,b8),("with_amount",4,bZ),("with_limit",3,cC),("without_way",2,cO)] Pm=some jq:=by kernel_rfl
abbrev lY:Stmt:=top 41
theorem sk:Rf.tW lY su ⟨[],[]⟩ none=some fu:=by kernel_rfl
abbrev oD:Stmt:=top 42
theorem Am:Rf.tW oD oR ⟨[],[]⟩ none=some dQ:=by kernel_rfl
abbrev AD:Stmt:=top 43
abbrev Kg:Stmt:=top 44
theorem Oc:Rf.tW Kg sY ⟨[("_law_world",3,bX),("_law_drawn",3,ak),("_law_placed",3,aQ),("_law_told",3,ai),("_law_gone",2,bq),("is_world",1,aY)],[]⟩ none=some tH:=by kernel_rfl
structure cf(K:W.Frag)(mg:Str->Option Value):Prop where
 c0:cG K mg "is_whole" rC ["thing","least","most"]
 c1:cG K mg "is_number" oF ["thing","many"]
 c2:cG K mg "is_long" ua ["thing","least","most"]
 c3:cG K mg "are_likes" oC ["thing","many"]
 c4:cG K mg "is_end" Aq ["thing","many"]
 c5:cG K mg "is_way" z6 ["thing","givers","takers"]
 c6:cG K mg "are_parts" oE ["givers","takers","ways"]
 c7:cG K mg "liked_pairs" me ["places"]
 c8:cG K mg "is_world" pO ["thing"]
 c9:cG K mg "check_world" hJ ["world"]
 c10:cG K mg "check_whole" gU ["thing","least","most"]
 c11:cG K mg "check_number" gz ["thing","many"]
 c12:cG K mg "check_side" jl ["thing"]
 c13:cG K mg "check_place" g9 ["world","side","place"]
 c14:cG K mg "replaced" rh ["parts","number","part"]
 c15:cG K mg "with_end" qj ["world","side","place","amount","likes"]
 c16:cG K mg "with_likes" nC ["world","side","place","likes"]
 c17:cG K mg "with_ways" ow ["world","ways"]
 c18:cG K mg "with_amount" g0 ["world","side","place","amount"]
 c19:cG K mg "with_limit" jg ["world","way","limit"]
 c20:cG K mg "without_way" gR ["world","way"]
 c21:cG K mg "inserted" rz ["old","number","other"]
 c22:cG K mg "with_way" mw ["world","giver","taker","limit","at_giver","at_taker"]
 c23:cG K mg "_law_cell" oJ ["_law_script","_law_k"]
 c24:cG K mg "_law_drawn" mT ["_law_script","_law_k","_law_many"]
 c25:cG K mg "_law_orders" l9 ["_law_script","_law_at","_law_rows"]
 c26:cG K mg "_law_world" nu ["_law_script","_law_at","_law_most"]
 c27:cG K mg "_law_refused" p6 ["_law_e"]
 c28:cG K mg "_law_told" oK ["_law_way","_law_world_here","_law_some"]
 c29:cG K mg "_law_placed" lY ["_law_rows","_law_place","_law_row"]
 c30:cG K mg "_law_gone" oD ["_law_row","_law_one"]
 c31:cG K mg "_law_put" AD ["_law_row","_law_one","_law_at"]
 c32:cG K mg "law" Kg ["_law_script"]
 i_MOST_PLACES:∃t,mg "MOST_PLACES"=some (.int 4 t)
 i_MOST:∃t,mg "MOST"=some (.int 9 t)
 m:Ex.Ap K mg QR QB
 b:∀x∈cX,mg x=none
section
variable {P:Program}{w:World}{K:W.Frag}{mg:Str->Option Value}{base:Heap}
theorem gy(D:cf K mg):hV P w K mg base 1 "is_whole" 3 bf:=Rf.nr (j:=0) D.c0 D.b Rf.cx Rf.cy BS
theorem oP(D:cf K mg):hV P w K mg base 2 "is_number" 2 bV:=Rf.nr (j:=1) D.c1 D.b (Rf.fm (gy D) Rf.cx) Rf.cy xt
theorem lA(D:cf K mg):hV P w K mg base 1 "is_long" 3 bP:=Rf.nr (j:=0) D.c2 D.b Rf.cx Rf.cy Dw
theorem zp(D:cf K mg):hV P w K mg base 3 "are_likes" 2 fA:=Rf.nr (j:=2) D.c3 D.b (Rf.fm (oP D) Rf.cx) Rf.cy xp
theorem E8(D:cf K mg):hV P w K mg base 4 "is_end" 2 fM:=Rf.nr (j:=3) D.c4 D.b (Rf.fm (lA D) (Rf.fm (gy D) (Rf.fm (zp D) Rf.cx))) (Rf.m8 D.i_MOST Rf.cy) Fk
theorem EU(D:cf K mg):hV P w K mg base 3 "is_way" 3 iF:=Rf.nr (j:=2) D.c5 D.b (Rf.fm (lA D) (Rf.fm (oP D) (Rf.fm (gy D) Rf.cx))) (Rf.m8 D.i_MOST Rf.cy) FX
theorem Ag(D:cf K mg):hV P w K mg base 5 "are_parts" 3 fH:=Rf.nr (j:=4) D.c6 D.b (Rf.fm (lA D) (Rf.fm (E8 D) (Rf.fm (EU D) Rf.cx))) (Rf.m8 D.i_MOST_PLACES Rf.cy) zz
theorem rV(D:cf K mg):hV P w K mg base 1 "liked_pairs" 1 bF:=Rf.nr (j:=0) D.c7 D.b Rf.cx Rf.cy sE
theorem mh(D:cf K mg):hV P w K mg base 6 "is_world" 1 aY:=Rf.nr (j:=5) D.c8 D.b (Rf.fm (rV D) (Rf.fm (lA D) (Rf.fm (Ag D) Rf.cx))) Rf.cy Bz
theorem e8(D:cf K mg):Ex.Af P w K mg base 7 "check_world" 1 aL:=Ex.u9 (j:=6) D.c9 D.b (Rf.fm (mh D) Rf.cx) Rf.cy Ex.r9 (D.m.ok (by decide +kernel)) pV
theorem bK(D:cf K mg):hV P w K mg base 7 "check_world" 1 az:=Rf.nr (j:=6) D.c9 D.b (Rf.fm (mh D) Rf.cx) Rf.cy sv
theorem ft(D:cf K mg):Ex.Af P w K mg base 2 "check_whole" 3 aK:=Ex.u9 (j:=1) D.c10 D.b (Rf.fm (gy D) Rf.cx) Rf.cy Ex.r9 (D.m.ok (by decide +kernel)) pF
theorem bM(D:cf K mg):hV P w K mg base 2 "check_whole" 3 aF:=Rf.nr (j:=1) D.c10 D.b (Rf.fm (gy D) Rf.cx) Rf.cy rR
theorem dh(D:cf K mg):Ex.Af P w K mg base 3 "check_number" 2 au:=Ex.u9 (j:=2) D.c11 D.b (Rf.fm (bM D) Rf.cx) Rf.cy (Ex.xm (ft D) Ex.r9) (D.m.ok (by decide +kernel)) oS
theorem bo(D:cf K mg):hV P w K mg base 3 "check_number" 2 ao:=Rf.nr (j:=2) D.c11 D.b (Rf.fm (bM D) Rf.cx) Rf.cy qg
theorem uT(D:cf K mg):Ex.Af P w K mg base 4 "check_side" 1 fT:=Ex.u9 (j:=3) D.c12 D.b (Rf.fm (bo D) Rf.cx) Rf.cy (Ex.xm (dh D) Ex.r9) (D.m.ok (by decide +kernel)) sF
theorem mU(D:cf K mg):hV P w K mg base 4 "check_side" 1 dv:=Rf.nr (j:=3) D.c12 D.b (Rf.fm (bo D) Rf.cx) Rf.cy ur
theorem lQ(D:cf K mg):Ex.Af P w K mg base 5 "check_place" 3 aZ:=Ex.u9 (j:=4) D.c13 D.b (Rf.fm (mU D) (Rf.fm (bo D) Rf.cx)) Rf.cy (Ex.xm (uT D) (Ex.xm (dh D) Ex.r9)) (D.m.ok (by decide +kernel)) rL
theorem fj(D:cf K mg):hV P w K mg base 5 "check_place" 3 aH:=Rf.nr (j:=4) D.c13 D.b (Rf.fm (mU D) (Rf.fm (bo D) Rf.cx)) Rf.cy rY
theorem iQ(D:cf K mg):hV P w K mg base 1 "replaced" 3 cM:=Rf.nr (j:=0) D.c14 D.b Rf.cx Rf.cy Bh
theorem ml(D:cf K mg):hV P w K mg base 2 "with_end" 5 dR:=Rf.nr (j:=1) D.c15 D.b (Rf.fm (iQ D) Rf.cx) Rf.cy A5
theorem fQ(D:cf K mg):hV P w K mg base 3 "with_likes" 4 bx:=Rf.nr (j:=2) D.c16 D.b (Rf.fm (ml D) Rf.cx) Rf.cy wq
theorem dW(D:cf K mg):hV P w K mg base 2 "with_ways" 2 bL:=Rf.nr (j:=1) D.c17 D.b (Rf.fm (iQ D) Rf.cx) Rf.cy zd
theorem sf(D:cf K mg):Ex.Af P w K mg base 8 "with_amount" 4 bZ:=Ex.u9 (j:=7) D.c18 D.b (Rf.fm (bK D) (Rf.fm (fj D) (Rf.fm (bM D) (Rf.fm (ml D) Rf.cx)))) (Rf.m8 D.i_MOST Rf.cy) (Ex.xm (e8 D) (Ex.xm (lQ D) (Ex.xm (ft D) Ex.r9))) (D.m.ok (by decide +kernel)) qa
theorem so(D:cf K mg):hV P w K mg base 8 "with_amount" 4 bw:=Rf.nr (j:=7) D.c18 D.b (Rf.fm (bK D) (Rf.fm (fj D) (Rf.fm (bM D) (Rf.fm (ml D) Rf.cx)))) (Rf.m8 D.i_MOST Rf.cy) sO
theorem uE(D:cf K mg):Ex.Af P w K mg base 8 "with_limit" 3 cC:=Ex.u9 (j:=7) D.c19 D.b (Rf.fm (bK D) (Rf.fm (bo D) (Rf.fm (bM D) (Rf.fm (dW D) (Rf.fm (iQ D) Rf.cx))))) (Rf.m8 D.i_MOST Rf.cy) (Ex.xm (e8 D) (Ex.xm (dh D) (Ex.xm (ft D) Ex.r9))) (D.m.ok (by decide +kernel)) sM
theorem v7(D:cf K mg):hV P w K mg base 8 "with_limit" 3 bE:=Rf.nr (j:=7) D.c19 D.b (Rf.fm (bK D) (Rf.fm (bo D) (Rf.fm (bM D) (Rf.fm (dW D) (Rf.fm (iQ D) Rf.cx))))) (Rf.m8 D.i_MOST Rf.cy) uA
theorem sg(D:cf K mg):Ex.Af P w K mg base 8 "without_way" 2 cO:=Ex.u9 (j:=7) D.c20 D.b (Rf.fm (bK D) (Rf.fm (bo D) (Rf.fm (dW D) (Rf.fm (fQ D) Rf.cx)))) Rf.cy (Ex.xm (e8 D) (Ex.xm (dh D) Ex.r9)) (D.m.ok (by decide +kernel)) rH
theorem sJ(D:cf K mg):hV P w K mg base 8 "without_way" 2 bD:=Rf.nr (j:=7) D.c20 D.b (Rf.fm (bK D) (Rf.fm (bo D) (Rf.fm (dW D) (Rf.fm (fQ D) Rf.cx)))) Rf.cy r8
theorem rJ(D:cf K mg):hV P w K mg base 1 "inserted" 3 gC:=Rf.nr (j:=0) D.c21 D.b Rf.cx Rf.cy AB
theorem AY(D:cf K mg):Ex.Af P w K mg base 8 "with_way" 6 b8:=Ex.u9 (j:=7) D.c22 D.b (Rf.fm (bK D) (Rf.fm (fj D) (Rf.fm (bM D) (Rf.fm (bo D) (Rf.fm (dW D) (Rf.fm (fQ D) (Rf.fm (rJ D) Rf.cx))))))) (Rf.m8 D.i_MOST Rf.cy) (Ex.xm (e8 D) (Ex.xm (lQ D) (Ex.xm (ft D) (Ex.xm (dh D) Ex.r9)))) (D.m.ok (by decide +kernel)) Ae
theorem AJ(D:cf K mg):hV P w K mg base 8 "with_way" 6 bI:=Rf.nr (j:=7) D.c22 D.b (Rf.fm (bK D) (Rf.fm (fj D) (Rf.fm (bM D) (Rf.fm (bo D) (Rf.fm (dW D) (Rf.fm (fQ D) (Rf.fm (rJ D) Rf.cx))))))) (Rf.m8 D.i_MOST Rf.cy) AC
theorem yp(D:cf K mg):hV P w K mg base 1 "_law_cell" 2 dY:=Rf.nr (j:=0) D.c23 D.b Rf.cx Rf.cy Ao
theorem iJ(D:cf K mg):hV P w K mg base 2 "_law_drawn" 3 ak:=Rf.nr (j:=1) D.c24 D.b (Rf.fm (yp D) Rf.cx) Rf.cy uO
theorem sy(D:cf K mg):hV P w K mg base 3 "_law_orders" 3 bN:=Rf.nr (j:=2) D.c25 D.b (Rf.fm (iJ D) Rf.cx) Rf.cy si
theorem uZ(D:cf K mg):hV P w K mg base 4 "_law_world" 3 bX:=Rf.nr (j:=3) D.c26 D.b (Rf.fm (sy D) (Rf.fm (iJ D) Rf.cx)) Rf.cy uw
theorem Ec{k:Nat}(D:cf K mg):∀c d,Ex.my Pm c=some d->Ex.Cb P w K mg base k "_law_refused" c d:=Ex.N2 D.c27 D.m D.b rfl Rf.Of rfl rfl rfl rfl rfl (by decide +kernel) (by decide +kernel) (by decide) rfl rfl
theorem yg(D:cf K mg):hV P w K mg base 9 "_law_told" 3 ai:=Ex.NM (j:=8) (ns:=Pm) D.c28 D.b D.m (Rf.fm (AJ D) (Rf.fm (so D) (Rf.fm (v7 D) (Rf.fm (sJ D) Rf.cx)))) Rf.cy (Ex.xm (AY D) (Ex.xm (sf D) (Ex.xm (uE D) (Ex.xm (sg D) Ex.r9)))) (Ec D) (by decide +kernel) zt
theorem rT(D:cf K mg):hV P w K mg base 1 "_law_placed" 3 aQ:=Rf.nr (j:=0) D.c29 D.b Rf.cx Rf.cy sk
theorem y3(D:cf K mg):hV P w K mg base 1 "_law_gone" 2 bq:=Rf.nr (j:=0) D.c30 D.b Rf.cx Rf.cy Am
end
theorem KI{P:Program}{w:World}{K:W.Frag}{mg:Str->Option Value}{fa:Addr}(D:cf K mg)(hfa:mg "law"=some (.ref fa)):∃fd:FuncData,(∀ (s:Shared) (v:Value),BindsTo s fd ⟨[v],[]⟩ [("_law_script",v)])/\∀base:Heap,K.In base->base.Ns mainGlobals mg->oY P w K mg base HJ 10 fa fd ["_law_script"] (NS K 1 il):=by
 obtain⟨f,fd,hm,F,hb⟩:=D.c32.ex
 rw[hfa] at hm;cases hm
 refine⟨fd,fun s v=>?_,fun base _ _=>Ku F (Rf.Of (N:=sY)) fun X hP hw hK hm' hb' C _ _ HF H=>by subst hP;subst hw;subst hK;subst hm';subst hb';exact Rf.Ky (j:=9) C D.b (Rf.fm (uZ D) (Rf.fm (iJ D) (Rf.fm (rT D) (Rf.fm (yg D) (Rf.fm (y3 D) (Rf.fm (mh D) Rf.cx)))))) Rf.cy Oc⟩
 obtain⟨oc,od,kV,doc,pm,an,cdv,ct,osl,rfl,lk,hcd⟩:=F.ex
 exact .of_eq rfl
theorem walk{l:W.OpenLaw}{q:Program}{loose:List Str}{XP:(Str->Option Value)->Heap->Prop}{YP:World->Heap->Prop}{d:DefRec}{K:Params->W.Frag}{ts:List Addr}(hn:l.most=some 63)(hdf:d.params.defaults=[])(hname:d.name="law")
  (hY:∀ (w:World) (h:Heap),YP w h->(K w.params).In h/\∀P∈ts,h.get? P=some (W.tabObj #[])) (ht:∀w:World,nG (K w.params) ts=true) (hI:∀ (w:World) {h:Heap}{mg:Str->Option Value},(K w.params).In h->h.Ns mainGlobals mg->cf (K w.params) mg) (main:∀ns:List Int,ns.length<=63->il [.list (ns.map PyData.int)]=some (.bool true)) :
  W.WalkO q loose XP YP l.row.toRowW d [] (fun f vs=>PySem.call f vs) :=
 E2 (n:=63) (k:=10) (x:="_law_script") (CX:=fun _=>HJ) (sp:=fun w=>NS (K w.params) 1 il) hn (by decide) hdf ⟨rfl,by decide,by decide⟩ hY ht (fun w mg fa h KX G hmg=>KI (hI w KX G) (by rw[<- hname];exact hmg)) (fun _ _ a ns hl hT hS=>Bs hS hT (main ns hl)) fun _ _ _ _ _ z=>z
end K50
namespace Dl
open PySem L2 PySem.Spec PyProof.Rows
def yj:D->Prop|.none=>True|.bool _=>True|.int _=>True|.str x=>PyData.canLay0 (.str x)=true|_=>False
def ik(b:Nat):Nat->D->Prop
 | 0,d=>yj d
 | k+1,d=>yj d\/(∃xs,(d=.list xs\/d=.tuple xs)/\xs.length<=b/\∀x∈xs,ik b k x)
theorem ik.leaf{b k:Nat}{d:D}(h:yj d):ik b k d:=by
 cases k with
 | zero=>exact h
 | succ k=>exact .inl h
theorem ik.tup{b k:Nat}{xs:List D}(hb:xs.length<=b)(h:∀x∈xs,ik b k x):ik b (k+1) (.tuple xs):=.inr ⟨xs,.inr rfl,hb,h⟩
theorem ik.lst{b k:Nat}{xs:List D}(hb:xs.length<=b)(h:∀x∈xs,ik b k x):ik b (k+1) (.list xs):=.inr ⟨xs,.inl rfl,hb,h⟩
theorem ik.of_tup{b k:Nat}{xs:List D}(h:ik b k (.tuple xs)):∃j,k=j+1/\xs.length<=b/\∀x∈xs,ik b j x:=by
 cases k with
 | zero=>cases h
 | succ k =>
  rcases h with h|⟨ys,h|h,h1,h2⟩
  ·cases h
  ·cases h
  ·cases h;exact⟨k,rfl,h1,h2⟩
theorem ik.mono{b b':Nat}(hb:b<=b'):∀ {k k':Nat}{d:D},k<=k'->ik b k d->ik b' k' d
 | 0,k',d,_,h=>.leaf h
 | k+1,0,d,hk,h=>by omega
 | k+1,k'+1,d,hk,h=>by
  rcases h with h|⟨xs,h,h1,h2⟩
  ·exact .inl h
  ·exact .inr ⟨xs,h,yC h1 hb,fun x hx=>(h2 x hx).mono hb (by omega)⟩
theorem B4{b k:Nat}:∀ {xs:List D},(∀x∈xs,PyData.canLay0 x=true/\x.depth<=k)->PyData.canLayAll0 xs=true/\PyData.depthAll xs<=k
 | [],_=>⟨by simp[PyData.canLayAll0],by simp[PyData.depthAll]⟩
 | x::xs,h=>by
  obtain⟨a,c⟩:=B4 (b:=b) (xs:=xs) fun y hy=>h y (zC _ hy)
  obtain⟨a',c'⟩:=h x zE
  exact⟨by simp[PyData.canLayAll0,a,a'],by simp[PyData.depthAll];omega⟩
theorem ik.lay{b:Nat}:∀ {k:Nat}{d:D},ik b k d->PyData.canLay0 d=true/\d.depth<=k:=by
 have lf:∀ {k:Nat}{d:D},yj d->PyData.canLay0 d=true/\d.depth<=k:=fun {k d} h=>by
  cases d<;>simp only[yj] at h<;>first|exact⟨h,by simp[PyData.depth]⟩|exact⟨by simp[PyData.canLay0],by simp[PyData.depth]⟩
 intro k
 induction k with
 | zero=>exact fun h=>lf h
 | succ k ih =>
  intro d h
  rcases h with h|⟨xs,h,h1,h2⟩
  ·exact lf h
  ·obtain⟨a,c⟩:=B4 (b:=b) (xs:=xs) fun y hy=>ih (h2 y hy)
   rcases h with rfl|rfl
   ·exact⟨by simp[PyData.canLay0,a],by simp[PyData.depth];omega⟩
   ·exact⟨by simp[PyData.canLay0,a],by simp[PyData.depth];omega⟩
theorem ik.shaped{b k:Nat}{d:D}(h:ik b k d)(hk:k<=64):SeqAt.shaped d=true:=by
 obtain⟨a,c⟩:=h.lay
 simp[SeqAt.shaped,a];omega
theorem ik.noDict{b k:Nat}{d:D}(h:ik b k d):∀kv,d≠.dict kv:=by
 rintro kv rfl
 have:=h.lay.1
 simp[PyData.canLay0] at this
def ip:D->Bool|.dict _=>false|_=>true
theorem ik.nd{b k:Nat}{d:D}(h:ik b k d):ip d=true:=by
 cases d<;>first|rfl|exact absurd rfl (h.noDict _)
def Qr:D->Bool|.int _=>true|.bool _=>true|_=>false
def Qn:D->Bool|.bool _=>true|_=>false
def J7:D->Bool|.tuple _=>true|_=>false
theorem kI{d:D}(h:ip d=true):uH (gZ d) "int"=some (Qr d):=by cases d<;>first|cases h;done|exact HV _ (by simp[gZ])
theorem kB{d:D}(h:ip d=true):uH (gZ d) "bool"=some (Qn d):=by cases d<;>first|cases h;done|exact GV _ (by simp[gZ])
theorem kT{d:D}(h:ip d=true):uH (gZ d) "tuple"=some (J7 d):=by cases d<;>first|cases h;done|exact kit_tuple _ (by simp[gZ])
def whole(a b:Int):D->Bool|.int i=>decide (a<=i)&&decide (i<=b)|_=>false
theorem tw{tgt:Env->D->Option Env}{te:Env->Option D}{ρ:Env}{h:D->D}:∀ {ds:List D},(∀d∈ds,∃ρ',tgt ρ d=some ρ'/\te ρ'=some (h d))->gx tgt (fun _=>some true) te ρ ds=some (ds.map h)
 | [],_=>rfl
 | d::ds,hh=>by
  obtain⟨ρ',h1,h2⟩:=hh d zE
  have ih:=tw (ds:=ds) fun y hy=>hh y (zC _ hy)
  unfold gx
  rw[h1]
  simp[h2,ih]
theorem nc{tgt:Env->D->Option Env}{tt:Env->Option Bool}{te:Env->Option D}{ρ:Env}{p:D->Bool}{h:D->D}:∀ {ds:List D},(∀d∈ds,∃ρ',tgt ρ d=some ρ'/\tt ρ'=some (p d)/\(p d=true->te ρ'=some (h d)))->gx tgt tt te ρ ds=some ((ds.filter p).map h)
 | [],_=>rfl
 | d::ds,hh=>by
  obtain⟨ρ',h1,h2,h3⟩:=hh d zE
  have ih:=nc (ds:=ds) fun y hy=>hh y (zC _ hy)
  unfold gx
  rw[h1]
  simp only[zA,h2]
  cases hp:p d with
  | true=>rw[yL rfl,h3 hp];simp[ih,jW,hp]
  | false=>simp[ih,jW,hp]
theorem oO{p:D->Bool}:∀ds:List D,boolsOf (ds.map fun d=>.bool (p d))=some (ds.map p)
 | []=>rfl
 | d::ds=>by simp[boolsOf,oO ds]
theorem mY{p:D->Bool}(ds:List D):za [.list (ds.map fun d=>.bool (p d))]=some (.bool (ds.all p)):=by
 simp only[za,oneOf,zA,oO,zB,List.all_map]
 rfl
theorem cN{ds:List D}(h:ds.length<=4000):small ds=some ds:=yL (yC h (by decide))
theorem mX{ds:List D}{i:Nat}(h:i < ds.length):uo ds (i:Nat)=some (ds.getD i .none):=by
 have:=uG (xs:=ds) (j:=i) (v:=ds[i]) (List.getElem?_eq_some_iff.mpr ⟨h,rfl⟩)
 rw[this]
 simp[List.getD,h]
theorem BW{ds:List D}(h:0 < ds.length):uo ds 0=some (ds.getD 0 .none):=mX (i:=0) h
theorem yf{ds:List D}(h:1 < ds.length):uo ds 1=some (ds.getD 1 .none):=mX (i:=1) h
theorem Kt{ds:List D}(h:2 < ds.length):uo ds 2=some (ds.getD 2 .none):=mX (i:=2) h
end Dl
namespace Wm
open PySem L2 Dl PySem.Spec PyProof.Rows Pg
theorem y6{fa fb fc:Dl.Env->Option D}{ρ:Dl.Env}{a i b:Int}(ha:fa ρ=some (.int a))(hb:fb ρ=some (.int i))(hc:fc ρ=some (.int b)):j4 FZ FZ fa fb fc ρ=some (.bool (decide (a<=i)&&decide (i<=b))):=by
 simp only[j4,ha,hb,hc,zA,FZ,wz,xH]
 by_cases h:a<=i<;>simp[h]
theorem qy(i j:Int):Dl.lJ (.int i) (.int j)=some (.int (i - j)):=rfl
theorem dG(i j:Int):Dl.aJ (.int i) (.int j)=some (.int (i+j)):=rfl
theorem BX(d:D):Slot.all (.val d)=some d:=rfl
theorem CC(ds:List D):Slot.all (.own ds)=some (.list ds):=rfl
theorem CZ:Slot.all .non=none:=rfl
theorem C2(d:D):Slot.frz (.val d)=some d:=rfl
theorem Ct(ds:List D):Slot.frz (.own ds)=none:=rfl
theorem CO:Slot.frz .non=none:=rfl
local macro_rules|`(tactic| simp! [$ts,*])=>`(tactic| simp only[b9,ay,iw,bu,cU,pM,oQ,cu,fB,gB,J0,ae,fC,rS,PN,KW,N8,f1,f2,qy,dG,aa,af,ah,bR,kc,bz,dB,oneOf,iG,aW,BX,CC,CZ,C2,Ct,CO,bO,dM,bU,aA,cQ,aC,  zI,yU,xF,xO,zL,xK,List.replicate,xQ,yY,qG,kM,zA,Option.bind_none,zB,Option.map_none,Nat.reduceAdd,Nat.reduceSub,jD,Nat.sub_self,xH,reduceIte,$ts,*])
theorem eX{d:D}(h:ip d=true)(a b:Int):bf [d,.int a,.int b]=some (.bool (whole a b d)):=by
 simp! [bf,mj,kI h,kB h]
 cases d<;>simp[Qr,Qn,whole]
 rw[y6 rfl rfl rfl]
theorem kb{d:D}(h:ip d=true)(n:Int):bV [d,.int n]=some (.bool (whole 0 (n - 1) d)):=by
 simp! [bV,kn,eX h]
def long(a b:Int):D->Bool|.tuple ds=>decide (a<=(ds.length:Int))&&decide ((ds.length:Int)<=b)|_=>false
theorem fY{d:D}(h:ip d=true)(a b:Int):bP [d,.int a,.int b]=some (.bool (long a b d)):=by
 simp! [bP,n5,kT h]
 cases d<;>simp[J7,long]
 rw[y6 rfl (i:=_) rfl rfl]
def mC:D->Int|.int i=>i|_=>0
theorem f7{a b:Int}{d:D}(h:whole a b d=true):d=.int (mC d)/\a<=mC d/\mC d<=b:=by
 cases d<;>simp[whole] at h
 exact⟨rfl,h⟩
theorem mr{a b:Int}:∀ {ls:List D},ls.all (whole a b)=true->ls=(ls.map mC).map PyData.int
 | [],_=>rfl
 | d::ls,h=>by
  rw[xS,zF] at h
  rw[zI,zI,<- (f7 h.1).1,<- mr h.2]
def iU(n:Int):D->Bool|.tuple ls=>ls.all (whole 0 (n - 1))&&decide ((ls.map mC).Nodup)|_=>false
theorem iD(i j:Int):cI (.int i) (.int j)=some (.bool (decide (i=j))):=by
 simp[cI,Ms,SeqAt.shaped,PyData.canLay0,PyData.depth,PyData.eqv]
 rfl
theorem zq(i j:Int):dD (.int i) (.int j)=some (.bool (!decide (i=j))):=by
 simp[dD,LW,SeqAt.shaped,PyData.canLay0,PyData.depth,PyData.eqv]
 rfl
theorem DY{ls:List D}{a b:Int}(h:ls.all (whole a b)=true)(hl:ls.length<=100):f2 cI (f1 lH (fun _=>some (.tuple ls))) (bR bz (aa (fun _=>some (.tuple ls)) af)) []=some (.bool (decide ((ls.map mC).Nodup))):=by
 have e:=mr h
 have e1:lH (.tuple ls)=some (.int (many (ls.map mC))):=by
  simp only[lH,lE]
  conv=>lhs;rw[e]
  rw[iR,zA,yL]
  rw[zD]
  exact qZ (Nat.add_le_add_right hl 1) (by decide)
 simp! [e1,iD]
 have:=AV (ls.map mC)
 rw[zD] at this
 simp only[<- this,Int.ofNat_inj,yK,PyData.bool.injEq]
theorem NF(r:Dl.Env)(d:D):fG 0 (none::r) d=some (some d::r):=by simp[fG,isFree]
theorem dy{cs:List Nat}{fi:Dl.Env->Option (List D)}{ds:List D}{te:Dl.Env->Option D}{h:D->D}{ρ:Dl.Env}(hfi:fi ρ=some ds)(hl:ds.length<=4000)(hh:∀d∈ds,te (some d::cs.map fun j=>(ρ[j]?).getD none)=some (h d)):aN 1 cs fi (fG 0) (fun _=>some true) te ρ=some (ds.map h):=by
 simp only[aN,hfi,zA,gJ,List.replicate,xF,xO]
 rw[tw (h:=h) fun d hd=>⟨_,NF _ d,hh d hd⟩,zA,cN (by rw[zD];exact hl)]
theorem mO{cs:List Nat}{fi:Dl.Env->Option (List D)}{ds:List D}{tt:Dl.Env->Option Bool}{te:Dl.Env->Option D}{p:D->Bool}{h:D->D}{ρ:Dl.Env}(hfi:fi ρ=some ds)(hl:ds.length<=4000)
  (hp:∀d∈ds,tt (some d::cs.map fun j=>(ρ[j]?).getD none)=some (p d)) (hh:∀d∈ds,p d=true->te (some d::cs.map fun j=>(ρ[j]?).getD none)=some (h d)):aN 1 cs fi (fG 0) tt te ρ=some ((ds.filter p).map h):=by
 simp only[aN,hfi,zA,gJ,List.replicate,xF,xO]
 rw[nc (p:=p) (h:=h) fun d hd=>⟨_,NF _ d,hp d hd,hh d hd⟩,zA,cN (by rw[zD];exact yC (xP _ _) hl)]
theorem yd{b k:Nat}{d:D}(h:ik b k d)(hb:b<=100)(n:Int):fA [d,.int n]=some (.bool (iU n d)):=by
 simp! [fA,j7,kT h.nd]
 cases d<;>try (simp[J7,iU];done)
 rename_i ls
 obtain⟨j,rfl,hl,hf⟩:=h.of_tup
 have c:=dy (cs:=[1]) (fi:=bO (ae 0)) (te:=(ah 2 bV (aa (ae 0) (aa (ae 1) af)))) (h:=fun x=>.bool (whole 0 (n - 1) x)) (ρ:=[some (.tuple ls),some (.int n)]) rfl (by omega) fun x hx=>by simp! [kb (hf x hx).nd]
 simp! [J7,xY,yO,c,mY]
 cases e:ls.all (whole 0 (n - 1)) with
 | false=>simp[iU,e]
 | true =>
  have:=DY e (yC hl hb)
  simp only[f2,f1,bR,aa,af,zA,zB] at this
  simp! [iU,e,xY,yO,jL]
  simp only[bz,dB,oneOf,zA,iG,zB] at this
  simp! [this]
def placeOk(n:Int):D->Bool|.tuple ds=>decide (ds.length=2)&&(whole 0 9 (ds.getD 0 .none)&&iU n (ds.getD 1 .none))|_=>false
def jo(g t:Int):D->Bool|.tuple ds=>decide (ds.length=3)&&(whole 0 (g - 1) (ds.getD 0 .none)&&(whole 0 (t - 1) (ds.getD 1 .none)&&whole 1 9 (ds.getD 2 .none)))|_=>false
theorem uW(n:Nat)(ds:List D):long (n:Int) (n:Int) (.tuple ds)=decide (ds.length=n):=by
 simp only[long]
 by_cases h:ds.length=n
 ·simp[h]
 ·rw[zY h,Bool.and_eq_false_iff,xB,xB];omega
theorem getD_mem{ds:List D}{i:Nat}(h:i < ds.length):ds.getD i .none∈ds:=by simp[List.getD,h]
theorem xv{b k:Nat}{d:D}(h:ik b k d)(hb:b<=100)(n:Int):fM [d,.int n]=some (.bool (placeOk n d)):=by
 simp! [fM,qh,fY h.nd]
 cases d<;>try (simp[long,placeOk];done)
 rename_i ds
 obtain⟨j,rfl,hl,hf⟩:=h.of_tup
 rw[show long 2 2 (.tuple ds)=decide (ds.length=2) from uW 2 ds]
 by_cases e:ds.length=2
 ·have f0:=hf _ (getD_mem (i:=0) (by omega))
  have f1:=hf _ (getD_mem (i:=1) (by omega))
  simp! [e,jP,BW (show 0 < ds.length by omega),yf (show 1 < ds.length by omega),eX f0.nd,yd f1 hb,placeOk]
  cases whole 0 9 (ds.getD 0 .none)<;>simp
 ·simp[e,placeOk]
theorem He{b k:Nat}{d:D}(h:ik b k d)(hb:b<=100)(g t:Int):iF [d,.int g,.int t]=some (.bool (jo g t d)):=by
 simp! [iF,p7,fY h.nd]
 cases d<;>try (simp[long,jo];done)
 rename_i ds
 obtain⟨j,rfl,hl,hf⟩:=h.of_tup
 rw[show long 3 3 (.tuple ds)=decide (ds.length=3) from uW 3 ds]
 by_cases e:ds.length=3
 ·have f0:=hf _ (getD_mem (i:=0) (by omega))
  have f1:=hf _ (getD_mem (i:=1) (by omega))
  have f2':=hf _ (getD_mem (i:=2) (by omega))
  simp! [e,jP,xY,yO,BW (show 0 < ds.length by omega),yf (show 1 < ds.length by omega),Kt (show 2 < ds.length by omega),eX f2'.nd,kb f0.nd,kb f1.nd,jo]
  cases whole 0 (g - 1) (ds.getD 0 .none)<;>cases whole 0 (t - 1) (ds.getD 1 .none)<;>simp
 ·simp[e,jo]
def dg:D->List D|.tuple ds=>ds|_=>[]
def nK(d:D):Bool:=long 1 4 d
def ja(g t w:D):Bool:=nK g&&(nK t&&((dg g).all (placeOk (dg t).length)&&((dg t).all (placeOk (dg g).length)&&(J7 w&&(dg w).all (jo (dg g).length (dg t).length)))))
theorem kh{a b:Int}{d:D}(h:long a b d=true):d=.tuple (dg d):=by cases d<;>first|rfl|cases h
theorem oG{b k:Nat}{g t w:D}(hg:ik b k g)(ht:ik b k t)(hw:ik b k w)(hb:b<=100):fH [g,t,w]=some (.bool (ja g t w)):=by
 simp! [fH,k7,fY hg.nd,fY ht.nd,kT hw.nd]
 unfold ja nK
 cases e1:long 1 4 g with
 | false=>simp
 | true =>
  cases e2:long 1 4 t with
  | false=>simp
  | true =>
   obtain⟨gs,rfl⟩:∃gs,g=.tuple gs:=⟨_,kh e1⟩
   obtain⟨ts,rfl⟩:∃ts,t=.tuple ts:=⟨_,kh e2⟩
   obtain⟨j,rfl,hgl,hgf⟩:=hg.of_tup
   obtain⟨j',hj,htl,htf⟩:=ht.of_tup
   have c1:=dy (cs:=[1]) (fi:=bO (ae 0)) (te:=(ah 2 fM (aa (ae 0) (aa (bR bz (aa (ae 1) af)) af)))) (h:=fun x=>.bool (placeOk ts.length x)) (ρ:=[some (.tuple gs),some (.tuple ts),some w]) rfl (by omega) fun x hx=>by simp! [xv (hgf x hx) hb]
   have c2:=dy (cs:=[0]) (fi:=bO (ae 1)) (te:=(ah 2 fM (aa (ae 0) (aa (bR bz (aa (ae 1) af)) af)))) (h:=fun x=>.bool (placeOk gs.length x)) (ρ:=[some (.tuple gs),some (.tuple ts),some w]) rfl (by omega) fun x hx=>by simp! [xv (htf x hx) hb]
   simp! [xY,yO,c1,mY,dg,jL]
   cases e3:gs.all (placeOk ts.length) with
   | false=>simp
   | true =>
    simp! [xY,yO,c2,mY,jL]
    cases e4:ts.all (placeOk gs.length) with
    | false=>simp
    | true =>
     cases hT:J7 w with
     | false=>simp! [xY,yO,kT hw.nd,hT,vZ,kY]
     | true =>
     obtain⟨ws,rfl⟩:∃ws,w=.tuple ws:=by cases w<;>first|exact⟨_,rfl⟩|cases hT
     obtain⟨j2,hj2,hwl,hwf⟩:=hw.of_tup
     have c3:=dy (cs:=[0,1]) (fi:=bO (ae 2)) (te:=(ah 3 iF (aa (ae 0) (aa (bR bz (aa (ae 1) af)) (aa (bR bz (aa (ae 2) af)) af))))) (h:=fun x=>.bool (jo gs.length ts.length x)) (ρ:=[some (.tuple gs),some (.tuple ts),some (.tuple ws)]) rfl (by omega) fun x hx=>by simp! [He (hwf x hx) hb]
     simp! [xY,yO,c3,mY,jL,kT hw.nd,J7]
theorem qb:∀ (a b:List Int),PyData.eqvAll (a.map PyData.int) (b.map PyData.int)=decide (a=b)
 | [],[]=>by simp[PyData.eqvAll]
 | [],_::_=>by simp[PyData.eqvAll]
 | _::_,[]=>by simp[PyData.eqvAll]
 | i::a,j::b=>by
  rw[zI,zI,PyData.eqvAll,qb a b]
  by_cases h:i=j
  ·subst h;simp[PyData.eqv]
  ·simp[PyData.eqv,h]
theorem wZ:∀ (a b:List (List Int)),PyData.eqvAll (a.map av) (b.map av)=decide (a=b)
 | [],[]=>by simp[PyData.eqvAll]
 | [],_::_=>by simp[PyData.eqvAll]
 | _::_,[]=>by simp[PyData.eqvAll]
 | x::a,y::b=>by
  rw[zI,zI,PyData.eqvAll,wZ a b,av,av,PyData.eqv,qb]
  by_cases h:x=y
  ·subst h;simp
  ·simp[h]
theorem lF{b k:Nat}(i:Int):ik b k (.int i):=.leaf trivial
theorem uL{b k:Nat}{r:List Int}(h:r.length<=b):ik b (k+1) (av r):=.tup (by rw[zD];exact h) fun x hx=>by
 obtain⟨i,_,rfl⟩:=List.mem_map.mp hx
 exact lF i
theorem E9{b k:Nat}{a:List (List Int)}(h:a.length<=b)(hr:∀r∈a,r.length<=b):ik b (k+2) (.list (a.map av)):=.lst (by rw[zD];exact h) fun x hx=>by
 obtain⟨r,hr',rfl⟩:=List.mem_map.mp hx
 exact uL (hr r hr')
theorem Dh(a:List (List Int)):∃b,a.length<=b/\∀r∈a,r.length<=b:=by
 induction a with
 | nil=>exact⟨0,yM _,fun r h=>by cases h⟩
 | cons x a ih =>
  obtain⟨b,h1,h2⟩:=ih
  refine⟨b+1+x.length,by rw[zL];omega,fun r hr=>?_⟩
  rcases List.mem_cons.mp hr with rfl|hr
  ·omega
  ·have:=h2 r hr;omega
theorem xo(a:List (List Int)):SeqAt.shaped (.list (a.map av))=true:=by
 obtain⟨b,h1,h2⟩:=Dh a
 exact (E9 (b:=b) (k:=0) h1 h2).shaped (by decide)
theorem DU(a b:List (List Int)):cI (.list (a.map av)) (.list (b.map av))=some (.bool (decide (a=b))):=by
 simp only[cI,Ms,xo,jO,xH,PyData.eqv,wZ,zB]
def km(d:D):List Int:=(dg ((dg d).getD 1 .none)).map mC
theorem jm{n:Int}{d:D}(h:placeOk n d=true):∃a ds,d=.tuple ds/\ds.length=2/\ds.getD 0 .none=.int a/\0<=a/\a<=9/\ds.getD 1 .none=.tuple ((km d).map PyData.int)/\(km d).Nodup/\∀j∈km d,0<=j/\j<=n - 1:=by
 cases d<;>simp only[placeOk] at h<;>try cases h
 rename_i ds
 simp only[zF,zJ] at h
 obtain⟨h1,h2,h3⟩:=h
 have e:km (.tuple ds)=(dg (ds.getD 1 .none)).map mC:=rfl
 rw[e]
 generalize hl:ds.getD 1 .none=l at h3
 cases l<;>simp only[iU] at h3<;>try cases h3
 rename_i ls
 simp only[zF,zJ] at h3
 obtain⟨w1,w2,w3⟩:=f7 h2
 refine⟨_,ds,rfl,h1,w1,w2,w3,?_,h3.2,fun j hj=>?_⟩
 ·rw[show dg (.tuple ls)=ls from rfl,<- mr h3.1];exact hl
 ·obtain⟨x,hx,rfl⟩:=List.mem_map.mp hj
  exact (f7 (List.all_eq_true.mp h3.1 x hx)).2
def mI(k:Nat):List D->List (List Int)|[]=>[]|p::ps=>(km p).map (fun j=>[((k:Nat):Int),j])++mI (k+1) ps
theorem pw:∀ (n:Nat) {l:List Int},l.Nodup->(∀j∈l,0<=j/\j<=(n:Int) - 1)->l.length<=n:=by
 intro n l hn h
 have hs:l.map Int.toNat ⊆ List.range n:=fun x hx=>by
  obtain⟨j,hj,rfl⟩:=List.mem_map.mp hx
  have:=h j hj
  exact List.mem_range.mpr (by omega)
 have hnd:(l.map Int.toNat).Nodup:=by
  refine List.pairwise_map.mpr (hn.imp_of_mem fun {x y} hx hy hne e=>hne ?_)
  have:=h x hx;have:=h y hy;omega
 have:=List.Nodup.length_le_of_subset hnd hs
 simpa using this
theorem wa{n:Nat}:∀ {ps:List D}{k:Nat},(∀p∈ps,placeOk n p=true)->(mI k ps).length<=ps.length * n
 | [],k,_=>xV _
 | p::ps,k,h=>by
  obtain⟨_,_,_,_,_,_,_,_,hn,hr⟩:=jm (h p zE)
  have h1:=pw n hn hr
  have h2:=wa (ps:=ps) (k:=k+1) fun q hq=>h q (zC _ hq)
  rw[mI,zN,zD,zL,Nat.succ_mul]
  omega
def pB:aq->Option Out:=Al 1 [2,3] (aN 1 [2] (bO (f2 aC (ae 3) (fC (.int 1)))) (fG 0) (fun _=>some true) (aA (aa (ae 1) (aa (ae 0) af))))
theorem LY{n:Nat}{p x:D}{acc:List D}{k:Nat}(hp:placeOk n p=true)(hn:n<=100)(ha:acc.length<=1000):pB [.val x,.own acc,.val (.int (k:Nat)),.val p]=some (.nx [.val x,.own (acc++((km p).map fun j=>av [((k:Nat):Int),j])),.val (.int (k:Nat)),.val p]):=by
 obtain⟨a,ds,rfl,hl,_,_,_,h1,hnd,hr⟩:=jm hp
 have hb:=pw n hnd hr
 generalize km (.tuple ds)=ls at *
 have c:=dy (cs:=[2]) (fi:=bO (f2 aC (ae 3) (fC (.int 1)))) (te:=aA (aa (ae 1) (aa (ae 0) af))) (h:=fun y=>.tuple [.int (k:Nat),y]) (ρ:=[some x,none,some (.int (k:Nat)),some (.tuple ds)]) (ds:=ls.map PyData.int)
  (by simp! [yf (show 1 < ds.length by omega),h1]) (by rw[zD];omega) fun y hy=>by
   simp! [cN (show [PyData.int (k:Nat),y].length<=4000 by simp)]
 have hh:hand [2,3] 0 [Slot.val x,.own acc,.val (.int (k:Nat)),.val (.tuple ds)]=[Slot.val x,.own acc,.val (.int (k:Nat)),.val (.tuple ds)]:=rfl
 simp only[pB,Al,hh,cJ,zI,yU,Slot.frz,c,zA,oi,yY,xQ]
 rw[yL]
 ·simp only[zB,yW,yV,zM]
  rfl
 ·simp only[zD]
  exact yC (show acc.length+ls.length<=1100 by omega) (by decide)
theorem tM{n:Nat}{x:D}(hn:n<=100):∀ {ps:List D}{k:Nat}{acc:List D}{s2 s3:Slot},(∀p∈ps,placeOk n p=true)->acc.length+ps.length * n<=1000 ->
  ∃t2 t3,fU (mE 2 3) pB (cB k ps) [.val x,.own acc,s2,s3]=some (.nx [.val x,.own (acc++(mI k ps).map av),t2,t3])
 | [],k,acc,s2,s3,_,_=>⟨s2,s3,by simp[cB,fU,mI]⟩
 | p::ps,k,acc,s2,s3,h,hl=>by
  have hp:=h p zE
  obtain⟨_,_,_,_,_,_,_,_,hnd,hr⟩:=jm hp
  have hb:=pw n hnd hr
  rw[zL,Nat.succ_mul] at hl
  obtain⟨t2,t3,e⟩:=tM hn (x:=x) (ps:=ps) (k:=k+1) (acc:=acc++((km p).map fun j=>av [((k:Nat):Int),j])) (s2:=.val (.int (k:Nat))) (s3:=.val p) (fun q hq=>h q (zC _ hq)) (by rw[zN,zD];omega)
  refine⟨t2,t3,?_⟩
  have hs:mE 2 3 [.val x,.own acc,s2,s3] (.tuple [.int (k:Nat),p])=some [.val x,.own acc,.val (.int (k:Nat)),.val p]:=rfl
  simp only[cB,fU,hs,zA,LY hp hn (show acc.length<=1000 by omega)]
  rw[e]
  simp[mI,zM,Function.comp_def]
theorem CG{n:Nat}{ps:List D}(h:∀p∈ps,placeOk n p=true)(hn:n<=100)(hl:ps.length * n<=1000):bF [.tuple ps]=some (.list ((mI 0 ps).map av)):=by
 obtain⟨t2,t3,e⟩:=tM hn (x:=.tuple ps) (k:=0) (acc:=[]) (s2:=.non) (s3:=.non) h (by simpa using hl)
 have hs:br 1 [] (cQ af) [Slot.val (.tuple ps),.non,.non,.non]=some (.nx [.val (.tuple ps),.own [],.non,.non]):=rfl
 have hh:hand [0] 0 [Slot.val (.tuple ps),.own [],.non,.non]=[Slot.val (.tuple ps),.own [],.non,.non]:=rfl
 have hf:dA (aa (ae 0) af) (cJ [Slot.val (.tuple ps),.own [],.non,.non])=some (cB 0 ps):=rfl
 simp! [bF,gW,hs,hU,hh,hf]
 rw[show Al 1 [2,3] (aN 1 [2] (bO (f2 aC (ae 3) (fC (.int 1)))) (fG 0) (fun _=>some true) (aA (aa (ae 1) (aa (ae 0) af))))=pB from rfl,e]
 simp! []
def fO(d:D):List Int:=[mC ((dg d).getD 0 .none),mC ((dg d).getD 1 .none)]
theorem AL{g t:Int}{d:D}(h:jo g t d=true):∃ds c,d=.tuple ds/\ds.length=3/\ds.getD 0 .none=.int (mC (ds.getD 0 .none))/\ds.getD 1 .none=.int (mC (ds.getD 1 .none))/\ds.getD 2 .none=.int c/\1<=c/\c<=9 /\
  0<=mC (ds.getD 0 .none)/\mC (ds.getD 0 .none)<=g - 1/\0<=mC (ds.getD 1 .none)/\mC (ds.getD 1 .none)<=t - 1:=by
 cases d<;>simp only[jo] at h<;>try cases h
 rename_i ds
 simp only[zF,zJ] at h
 obtain⟨h1,h2,h3,h4⟩:=h
 have a:=f7 h2
 have b:=f7 h3
 have c:=f7 h4
 exact⟨ds,_,rfl,h1,a.1,b.1,c.1,c.2.1,c.2.2,a.2.1,a.2.2,b.2.1,b.2.2⟩
def Bj(g t w:D):Bool:=decide ((dg w).map fO=pR (mI 0 (dg g)))&&decide ((dg w).map fO=pR ((mI 0 (dg t)).map List.reverse))
def OG(d:D):Bool:=long 3 3 d&&(ja ((dg d).getD 0 .none) ((dg d).getD 1 .none) ((dg d).getD 2 .none)&&Bj ((dg d).getD 0 .none) ((dg d).getD 1 .none) ((dg d).getD 2 .none))
theorem lh:∀ {ps:List D}{k:Nat},∀r∈mI k ps,∃i j,r=[i,j]
 | [],k,r,h=>by cases h
 | p::ps,k,r,h=>by
  rcases List.mem_append.mp h with h|h
  ·obtain⟨j,_,rfl⟩:=List.mem_map.mp h;exact⟨_,_,rfl⟩
  ·exact lh r h
theorem nE{a:List (List Int)}(h:∀r∈a,∃i j,r=[i,j])(hl:a.length < 64):du [.list (a.map av)]=some ((pR a).map av):=by
 have:∀ns∈a,ns≠[]:=fun ns hn=>by obtain⟨i,j,rfl⟩:=h ns hn;exact List.cons_ne_nil _ _
 simp only[du,oneOf,zA,mf this,yL hl]
theorem uf:∀ {a:List (List Int)},(∀r∈a,∃i j,r=[i,j])->gx (zx 0 1) (fun _=>some true) (aA (aa (ae 1) (aa (ae 0) af))) [none,none] (a.map av)=some ((a.map List.reverse).map av)
 | [],_=>rfl
 | r::a,h=>by
  obtain⟨i,j,rfl⟩:=h r zE
  have ih:=uf (a:=a) fun q hq=>h q (zC _ hq)
  have e:zx 0 1 [none,none] (av [i,j])=some [some (.int i),some (.int j)]:=rfl
  rw[zI,gx,e,zA,zA,yL rfl,ih]
  simp! [cN (show [PyData.int j,.int i].length<=4000 by simp)]
  rfl
theorem Eo{a:List (List Int)}{fi:Dl.Env->Option (List D)}{ρ:Dl.Env}(hfi:fi ρ=some (a.map av))(hl:a.length<=4000)(h:∀r∈a,∃i j,r=[i,j]):aN 2 [] fi (zx 0 1) (fun _=>some true) (aA (aa (ae 1) (aa (ae 0) af))) ρ=some ((a.map List.reverse).map av):=by
 simp only[aN,hfi,zA,gJ,List.replicate,xF,xO,yU]
 rw[uf h,zA,cN (by rw[zD,zD];exact hl)]
theorem zf{g t w:D}(h:ja g t w=true):∃gs ts ws,g=.tuple gs/\t=.tuple ts/\w=.tuple ws/\1<=gs.length/\gs.length<=4/\1<=ts.length/\ts.length<=4/\(∀p∈gs,placeOk ts.length p=true)/\(∀p∈ts,placeOk gs.length p=true)/\∀x∈ws,jo gs.length ts.length x=true:=by
 simp only[ja,nK,zF] at h
 obtain⟨h1,h2,h3,h4,h5,h6⟩:=h
 cases w<;>try cases h5
 rename_i ws
 have e1:=kh h1
 have e2:=kh h2
 generalize dg g=gs at *
 generalize dg t=ts at *
 subst e1 e2
 simp only[long,zF,zJ] at h1 h2
 exact⟨gs,ts,ws,rfl,rfl,rfl,by omega,by omega,by omega,by omega,List.all_eq_true.mp h3,List.all_eq_true.mp h4,List.all_eq_true.mp h6⟩
theorem mF{b k:Nat}{d:D}(h:ik b k d)(hb:b<=100):aY [d]=some (.bool (OG d)):=by
 unfold OG
 cases e1:long 3 3 d with
 | false=>simp! [aY,gu,fY h.nd,e1,Bool.not_false,vZ]
 | true =>
  obtain⟨ds,rfl⟩:∃ds,d=.tuple ds:=⟨_,kh e1⟩
  obtain⟨j,rfl,hl,hf⟩:=h.of_tup
  rw[show long 3 3 (.tuple ds)=decide (ds.length=3) from uW 3 ds,zJ] at e1
  have f0:=hf _ (getD_mem (i:=0) (by omega))
  have f1:=hf _ (getD_mem (i:=1) (by omega))
  have f2':=hf _ (getD_mem (i:=2) (by omega))
  have i0:=BW (show 0 < ds.length by omega)
  have i1:=yf (show 1 < ds.length by omega)
  have i2:=Kt (show 2 < ds.length by omega)
  have el:bP [.tuple ds,.int 3,.int 3]=some (.bool true):=by rw[fY rfl,show long 3 3 (.tuple ds)=decide (ds.length=3) from uW 3 ds,zZ e1]
  rw[show dg (.tuple ds)=ds from rfl,jL]
  generalize hg:ds.getD 0 .none=g at *
  generalize ht:ds.getD 1 .none=t at *
  generalize hw:ds.getD 2 .none=w at *
  cases e2:ja g t w with
  | false=>simp! [aY,gu,el,i0,i1,i2,oG f0 f1 f2' hb,e2,Bool.not_false,xY,vZ]
  | true =>
   obtain⟨gs,ts,ws,rfl,rfl,rfl,g1,g4,t1,t4,hG,hT,hW⟩:=zf e2
   have hfw:=f2'.of_tup
   obtain⟨j2,_,hwl,_⟩:=hfw
   have q1:=wa (k:=0) hG
   have q2:=wa (k:=0) hT
   have m1:gs.length * ts.length<=16:=vX g4 t4
   have m2:ts.length * gs.length<=16:=vX t4 g4
   have l1:=CG hG (by omega) (by omega)
   have l2:=CG hT (by omega) (by omega)
   have s1:=nE (a:=mI 0 gs) lh (by omega)
   have s2:=nE (a:=(mI 0 ts).map List.reverse) (fun r hr=>by
    obtain⟨q,hq,rfl⟩:=List.mem_map.mp hr
    obtain⟨i,j,rfl⟩:=lh q hq
    exact⟨j,i,rfl⟩) (by rw[zD];omega)
   have c1:aN 1 [] (bO (f2 aC (ae 0) (fC (.int 2)))) (fG 0) (fun _=>some true) (aA (aa (f2 aC (ae 0) (fC (.int 0))) (aa (f2 aC (ae 0) (fC (.int 1))) af))) [some (.tuple ds),none,none,none]=some ((ws.map fO).map av):=by
    rw[dy (ds:=ws) (h:=fun x=>av (fO x)) (by simp! [i2]) (by omega) fun x hx=>?_,zM]
    ·rfl
    ·obtain⟨vs,c,rfl,v3,v0,v1,_⟩:=AL (hW x hx)
     simp! [BW (show 0 < vs.length by omega),yf (show 1 < vs.length by omega),cN (show [vs.getD 0 PyData.none,vs.getD 1 .none].length<=4000 by simp),av,fO,dg]
     rw[<- v0,<- v1]
   have c2:∀x y z,aN 2 [] (bO (ah 1 bF (aa (f2 aC (ae 0) (fC (.int 1))) af))) (zx 0 1) (fun _=>some true) (aA (aa (ae 1) (aa (ae 0) af))) [some (.tuple ds),x,y,z]=some (((mI 0 ts).map List.reverse).map av):=fun x y z =>
    Eo (by simp! [i1,l2]) (by omega) lh
   have st1:br 1 [0] (aN 1 [] (bO (f2 aC (ae 0) (fC (.int 2)))) (fG 0) (fun _=>some true) (aA (aa (f2 aC (ae 0) (fC (.int 0))) (aa (f2 aC (ae 0) (fC (.int 1))) af)))) [Slot.val (.tuple ds),.non,.non,.non]=some (.nx [.val (.tuple ds),.own ((ws.map fO).map av),.non,.non]):=by
    have hh:hand [0] 0 [Slot.val (.tuple ds),.non,.non,.non]=[Slot.val (.tuple ds),.non,.non,.non]:=rfl
    simp only[br,hh,cJ,zI,yU,Slot.frz,c1,zB,yW,yV]
   have st2:br 2 [0] (kc du (aa (ah 1 bF (aa (f2 aC (ae 0) (fC (.int 0))) af)) af)) [Slot.val (.tuple ds),.own ((ws.map fO).map av),.non,.non]=some (.nx [.val (.tuple ds),.own ((ws.map fO).map av),.own ((pR (mI 0 gs)).map av),.non]):=by
    have hh:hand [0] 0 [Slot.val (.tuple ds),.own ((ws.map fO).map av),.non,.non]=[Slot.val (.tuple ds),.own ((ws.map fO).map av),.non,.non]:=rfl
    simp only[br,hh,cJ,zI,yU,Slot.frz]
    simp! [i0,l1,s1,yW,yV]
   have st3:br 3 [0] (kc du (aa (dM (aN 2 [] (bO (ah 1 bF (aa (f2 aC (ae 0) (fC (.int 1))) af))) (zx 0 1) (fun _=>some true) (aA (aa (ae 1) (aa (ae 0) af))))) af)) [Slot.val (.tuple ds),.own ((ws.map fO).map av),.own ((pR (mI 0 gs)).map av),.non]
      =some (.nx [.val (.tuple ds),.own ((ws.map fO).map av),.own ((pR (mI 0 gs)).map av),.own ((pR ((mI 0 ts).map List.reverse)).map av)]):=by
    have hh:hand [0] 0 [Slot.val (.tuple ds),.own ((ws.map fO).map av),.own ((pR (mI 0 gs)).map av),.non]=[Slot.val (.tuple ds),.own ((ws.map fO).map av),.own ((pR (mI 0 gs)).map av),.non]:=rfl
    simp only[br,hh,cJ,zI,yU,Slot.frz]
    simp! [c2,s2,yW,yV]
   simp! [aY,gu,el,i0,i1,i2,oG f0 f1 f2' hb,e2,xY,yO,st1,st2,st3,DU,Bj,dg,jL]
   by_cases hq:List.map fO ws=pR (mI 0 gs)<;>simp[hq]
theorem BH(xs:List D):PyData.eqvAll xs []=xs.isEmpty:=by cases xs<;>simp[PyData.eqvAll]
theorem AI:SeqAt.shaped (.list [])=true:=by simp[SeqAt.shaped,PyData.canLay0,PyData.canLayAll0,PyData.depth,PyData.depthAll]
theorem FY{b k:Nat}{xs:List D}(h:∀x∈xs,ik b k x)(hk:k<=60):cI (.list xs) (.list [])=some (.bool xs.isEmpty):=by
 have hs:SeqAt.shaped (.list xs)=true:=(ik.lst (b:=max b xs.length) (k:=k) (Nat.le_max_right _ _) fun x hx=>(h x hx).mono (Nat.le_max_left _ _) (yM _)).shaped (by omega)
 simp only[cI,Ms,hs,AI,jO,xH,PyData.eqv,BH,zB]
theorem iy:small []=some []:=rfl
theorem EI{α:Type}(xs:List α)(k:Nat):cut xs none (some (k:Int))=xs.take k:=by
 simp only[cut,HT.xy,HT.CW,List.drop_zero,Nat.sub_zero]
 rw[List.take_eq_take_iff];omega
theorem GX{α:Type}(xs:List α)(k:Nat):cut xs (some (k:Int)) none=xs.drop k:=by
 simp only[cut,HT.xy,HT.CW]
 rw[kK (by rw[qH];omega)]
 by_cases h:k<=xs.length
 ·rw[Nat.min_eq_left h]
 ·rw[Nat.min_eq_right (by omega),List.drop_of_length_le (yM _),List.drop_of_length_le (by omega)]
theorem gL(b:Bool):gB (.bool b)=some b:=rfl
theorem Ij(l:List Int)(a:Int):((l.map PyData.int).any fun z=>PyData.eqv z (.int a))=decide (a∈l):=by
 rw[List.any_map]
 induction l with
 | nil=>simp
 | cons r l ih =>
  rw[List.any_cons,ih,Function.comp_apply]
  by_cases h:r=a
  ·subst h;simp[PyData.eqv]
  ·simp[PyData.eqv,h,jM h]
theorem zi(l:List Int)(a:Int):pk (.int a) (.tuple (l.map PyData.int))=some (.bool (decide (a∈l))):=by
 have hs:SeqAt.shaped (.int a)=true:=(lF (b:=0) (k:=0) a).shaped (by decide)
 have h2:SeqAt.shaped (.tuple (l.map PyData.int))=true:=(uL (b:=l.length) (k:=0) (yM _)).shaped (by decide)
 simp only[pk,OA,hs,h2,jO,xH,Ij,zB]
theorem A7(a b:D):small [a,b]=some [a,b]:=rfl
theorem mK:∀ (ρ:aq) (k:Nat),hand [] k ρ=ρ
 | [],k=>rfl
 | s::r,k=>by simp[hand,mK r]
theorem pd:∀ {ps:List D}{k:Nat}{i j:Int},[i,j]∈mI k ps↔∃m p,ps[m]?=some p/\i=((k+m:Nat):Int)/\j∈km p
 | [],k,i,j=>by simp[mI]
 | p::ps,k,i,j=>by
  rw[mI,List.mem_append,pd (ps:=ps)]
  constructor
  ·rintro (h|⟨m,q,h1,h2,h3⟩)
   ·obtain⟨y,hy,e⟩:=List.mem_map.mp h
    injection e with e1 e2
    injection e2 with e2 _
    exact⟨0,p,rfl,by simpa using e1.symm,e2 ▸ hy⟩
   ·exact⟨m+1,q,by simpa using h1,by rw[h2];congr 1;omega,h3⟩
  ·rintro⟨m,q,h1,h2,h3⟩
   cases m with
   | zero =>
    simp at h1
    subst h1
    exact .inl (List.mem_map.mpr ⟨j,h3,by rw[h2];rfl⟩)
   | succ m=>exact .inr ⟨m,q,by simpa using h1,by rw[h2];congr 1;omega,h3⟩
theorem tR:∀ {ps:List D}{k:Nat},(∀p∈ps,(km p).Nodup)->(mI k ps).Nodup
 | [],k,_=>List.nodup_nil
 | p::ps,k,h=>by
  rw[mI,List.nodup_append]
  refine⟨List.pairwise_map.mpr ((h p zE).imp fun hne e=>hne ?_),tR fun q hq=>h q (zC _ hq),?_⟩
  rotate_left
  ·injection e with _ e2
   injection e2
  ·rintro a ha b hb rfl
   obtain⟨y,hy,rfl⟩:=List.mem_map.mp ha
   obtain⟨m,q,h1,h2,h3⟩:=pd.mp hb
   omega
theorem N0{a b:List Int}(h:Dl.lexLt a b=true):lexLe a b=true:=by
 unfold lexLe
 cases e:Dl.lexLt b a with
 | false=>rfl
 | true=>have:=eO h e;rw[gE] at this;cases this
theorem fF{i j:Int}(h:wo i j):Dl.gH (.int i) (.int j)=some (.int (i * j)):=by
 simp only[Dl.gH,wz,yL h,Option.some_or]
theorem iB{i j:Int}(h:0 < j):Dl.lM (.int i) (.int j)=some (.int (i % j)):=yL h
theorem jz{i j:Int}(h:0 < j/\j < 1073741824):Dl.nz (.int i) (.int j)=some (.int (i / j)):=yL h
theorem ll(i j:Int):Dl.KC (.int i) (.int j)=some (.bool (decide (j < i))):=rfl
theorem vf(i j:Int):Dl.MU (.int i) (.int j)=some (.bool (decide (i < j))):=rfl
theorem mq{i j:Int}(h:-(2 ^ 64) < i/\i < 2 ^ 64):wo i j:=.inl h
theorem MO{i j:Int}(h:-(2 ^ 64) < j/\j < 2 ^ 64):wo i j:=.inr h
theorem yu(i:Int):Dl.oZ (.int i)=true:=rfl
theorem xi(i:List D):Dl.oZ (.tuple i)=false:=rfl
def cW(ns:List Int):D:=.list (ns.map PyData.int)
theorem Mc{ns:List Int}(k:Int)(hl:ns.length<=63):∃c,dY [cW ns,.int k]=some (.int c):=by
 have heq:cI (.list (ns.map PyData.int)) (.list [])=some (.bool ns.isEmpty):=by
  have:=FY (b:=0) (k:=0) (xs:=ns.map PyData.int) (fun x hx=>by obtain⟨i,_,rfl⟩:=List.mem_map.mp hx;exact lF i) (by decide)
  rw[this];cases ns<;>rfl
 by_cases hn:ns=[]
 ·subst hn
  refine⟨7 * k,?_⟩
  rw[yU,List.isEmpty_nil] at heq
  simp! [dY,gN,cW,iy,heq,List.isEmpty_nil,fF (mq (i:=7) (j:=k) (by decide))]
 ·have hpos:(0:Int) < (ns.length:Int):=by have:=List.length_pos_iff.mpr hn;omega
  have he:ns.isEmpty=false:=by cases ns<;>first|rfl|exact absurd rfl hn
  obtain⟨j,hj⟩:=vK (vU k (show (ns.length:Int)≠0 by omega))
  have hlt:=vA k hpos
  have hx:uo (ns.map PyData.int) (k % (ns.length:Int))=some (.int (ns.getD j 0)):=by
   rw[hj]
   have:j < (ns.map PyData.int).length:=by rw[zD];omega
   rw[mX this,zG,zO,zG]
   rw[zK (by omega)]
   rfl
  refine⟨ns.getD j 0+6553 * (k / (ns.length:Int)),?_⟩
  simp! [dY,gN,cW,iy,heq,he,yO,zD,iB hpos,hx,jz (i:=k) (j:=(ns.length:Int)) ⟨hpos,by omega⟩,fF (mq (i:=6553) (j:=k / (ns.length:Int)) (by decide))]
theorem Jm{ns:List Int}(k many:Int)(hl:ns.length<=63)(hm:0 < many):∃r,ak [cW ns,.int k,.int many]=some (.int r)/\0<=r/\r < many:=by
 obtain⟨c,hc⟩:=Mc k hl
 have m1:∀i:Int,Dl.lM (.int i) (.int 2147483563)=some (.int (i % 2147483563)):=fun i=>iB (by decide)
 have m2:∀i:Int,Dl.lM (.int i) (.int 2147483399)=some (.int (i % 2147483399)):=fun i=>iB (by decide)
 have m3:∀i:Int,Dl.lM (.int i) (.int 2147483647)=some (.int (i % 2147483647)):=fun i=>iB (by decide)
 have d1:∀i:Int,Dl.nz (.int i) (.int 3)=some (.int (i / 3)):=fun i=>jz (by decide)
 have d2:∀i:Int,Dl.nz (.int i) (.int 7)=some (.int (i / 7)):=fun i=>jz (by decide)
 have d3:∀i:Int,Dl.nz (.int i) (.int 11)=some (.int (i / 11)):=fun i=>jz (by decide)
 have u1:∀i:Int,Dl.gH (.int i) (.int 69069)=some (.int (i * 69069)):=fun i=>fF (MO (by decide))
 have u2:∀i:Int,Dl.gH (.int 104723) (.int i)=some (.int (104723 * i)):=fun i=>fF (mq (by decide))
 have b1:∀x:Int,Dl.gH (.int (x % 2147483563)) (.int (x % 2147483563))=some (.int (x % 2147483563 * (x % 2147483563))):=fun x=>fF (mq (by
  have:=vU x (show (2147483563:Int)≠0 by decide)
  have:=vA x (show (0:Int) < 2147483563 by decide)
  omega))
 have b2:∀x:Int,Dl.gH (.int (x % 2147483399)) (.int (x % 2147483399))=some (.int (x % 2147483399 * (x % 2147483399))):=fun x=>fF (mq (by
  have:=vU x (show (2147483399:Int)≠0 by decide)
  have:=vA x (show (0:Int) < 2147483399 by decide)
  omega))
 suffices h:∃x,ak [cW ns,.int k,.int many]=some (.int (x % many)) by
  obtain⟨x,hx⟩:=h
  exact⟨_,hx,vU x (show many≠0 by omega),vA x hm⟩
 ·refine⟨(((((c % 2147483563 * 69069+104723 * (k+1)) % 2147483563) * ((c % 2147483563 * 69069+104723 * (k+1)) % 2147483563)+((c % 2147483563 * 69069+104723 * (k+1)) % 2147483563) / 3) % 2147483399) * ((((c % 2147483563 * 69069+104723 * (k+1)) % 2147483563) * ((c % 2147483563 * 69069+104723 * (k+1)) % 2147483563)+((c % 2147483563 * 69069+104723 * (k+1)) % 2147483563) / 3) % 2147483399)+((((c % 2147483563 * 69069+104723 * (k+1)) % 2147483563) * ((c % 2147483563 * 69069+104723 * (k+1)) % 2147483563)+((c % 2147483563 * 69069+104723 * (k+1)) % 2147483563) / 3) % 2147483399) / 7) % 2147483647 / 11,?_⟩
  simp! [ak,iW,hc,m1,u1,u2,Dl.ba,yu,yW,yV,b1,d1,m2,b2,d2,m3,d3,iB (j:=many) hm]
def dr(ns:List Int)(k many:Int):Int:=mC ((ak [cW ns,.int k,.int many]).getD .none)
theorem dC{ns:List Int}(k many:Int)(hl:ns.length<=63)(hm:0 < many):ak [cW ns,.int k,.int many]=some (.int (dr ns k many))/\0<=dr ns k many/\dr ns k many < many:=by
 obtain⟨r,h1,h2⟩:=Jm k many hl hm
 have:dr ns k many=r:=by simp only[dr,h1,qG,mC]
 rw[this];exact⟨h1,h2⟩
theorem Aj{ns:List Int}(k many:Int)(hl:ns.length<=63)(hm:0 < many):ak [cW ns,.int k,.int many]=some (.int (dr ns k many)):=(dC k many hl hm).1
theorem NT{ns:List Int}(k many:Int)(hl:ns.length<=63)(hm:0 < many):0<=dr ns k many:=(dC k many hl hm).2.1
theorem Od{ns:List Int}(k many:Int)(hl:ns.length<=63)(hm:0 < many):dr ns k many < many:=(dC k many hl hm).2.2
def cA(r:List Int):D:=.list (r.map PyData.int)
def insI(ds:List Int)(k:Int)(d:Int):List Int:=let j:=if k < 0 then (k+(ds.length:Int)).toNat else min k.toNat ds.length;ds.take j++d::ds.drop j
theorem DB(ds:List Int)(k d:Int):Ce (ds.map PyData.int) k (.int d)=(insI ds k d).map PyData.int:=by
 simp only[Ce,insI,zD,jA,zI,List.map_take,List.map_drop]
theorem insI_perm(ds:List Int)(k d:Int):(insI ds k d).Perm (d::ds):=by
 simp only[insI]
 refine List.perm_middle.trans ?_
 rw[List.take_append_drop]
def oB:aq->Option Out:=(G1 6 [8] (ah 3 ak (aa (ae 0) (aa (f2 aJ (f2 aJ (ae 1) (f2 gH (fC (.int 4)) (ae 4))) (ae 7)) (aa (f2 aJ (bR bz (aa (ae 6) af)) (fC (.int 1))) af)))) (ae 8))
theorem Mx{ns order:List Int}{a k j x:Int}{s2 s3 s5:Slot}(hl:ns.length<=63)(ho:order.length<=1000) :
  oB [.val (cW ns),.val (.int a),s2,s3,.val (.int k),s5,.own (order.map PyData.int),.val (.int j),.val (.int x)] =
   some (.nx [.val (cW ns),.val (.int a),s2,s3,.val (.int k),s5,.own ((insI order (dr ns (a+4 * k+j) ((order.length:Int)+1)) x).map PyData.int),.val (.int j),.val (.int x)]):=by
 have h4:Dl.gH (.int 4) (.int k)=some (.int (4 * k)):=fF (mq (by decide))
 have hd:=dC (ns:=ns) (a+4 * k+j) ((order.length:Int)+1) hl (by omega)
 have hr:Ax (dr ns (a+4 * k+j) ((order.length:Int)+1))=true:=by
  simp only[Ax,zF,zJ]
  omega
 have hz:(order.map PyData.int).length < sizeLine:=by rw[zD];exact qZ ho (by decide)
 simp! [oB,G1,ki,yu,oi,zD,h4,hd.1]
 rw[zD] at hz
 simp only[hr,hz,jO,xH,zB,DB,yW,yV]
theorem Ho{ns:List Int}{a k:Int}{s2 s3 s5:Slot}(hl:ns.length<=63):∀ {row order:List Int}{j:Nat}{s7 s8:Slot},order.length+row.length<=1000 ->
  ∃ (o:List Int) (t7 t8:Slot),fU (mE 7 8) oB (cB j (row.map PyData.int)) [.val (cW ns),.val (.int a),s2,s3,.val (.int k),s5,.own (order.map PyData.int),s7,s8] =
   some (.nx [.val (cW ns),.val (.int a),s2,s3,.val (.int k),s5,.own (o.map PyData.int),t7,t8])/\o.Perm (row++order)
 | [],order,j,s7,s8,_=>⟨order,s7,s8,by simp[cB,fU],by simp⟩
 | x::row,order,j,s7,s8,h=>by
  rw[zL] at h
  have hp:=insI_perm order (dr ns (a+4 * k+((j:Nat):Int)) ((order.length:Int)+1)) x
  have hlen:=hp.length_eq
  rw[zL] at hlen
  obtain⟨o,t7,t8,e,p⟩:=Ho (s2:=s2) (s3:=s3) (s5:=s5) (a:=a) (k:=k) hl (row:=row) (order:=insI order (dr ns (a+4 * k+((j:Nat):Int)) ((order.length:Int)+1)) x) (j:=j+1) (s7:=.val (.int (j:Nat))) (s8:=.val (.int x)) (by omega)
  refine⟨o,t7,t8,?_,p.trans ?_⟩
  ·have hs:mE 7 8 [.val (cW ns),.val (.int a),s2,s3,.val (.int k),s5,.own (order.map PyData.int),s7,s8] (.tuple [.int (j:Nat),.int x])=some [.val (cW ns),.val (.int a),s2,s3,.val (.int k),s5,.own (order.map PyData.int),.val (.int (j:Nat)),.val (.int x)]:=rfl
   simp only[zI,cB,fU,hs,zA,Mx hl (show order.length<=1000 by omega),e]
  ·refine (hp.append_left row).trans ?_
   rw[xF]
   exact List.perm_middle
def pP:List (List Int)->List (List Int)->Prop|[],[]=>True|a::l,b::m=>a.Perm b/\pP l m|_,_=>False
def rB:aq->Option Out:=(ay (br 6 [] (cQ af)) (ay (hU [5] (dA (aa (ae 5) af)) (mE 7 8) oB) (lL 3 [6] (bR bU (aa (ae 6) af)))))
theorem Mz{ns row:List Int}{a k:Int}{rows:D}{found:List D}{s6 s7 s8:Slot}(hl:ns.length<=63)(hr:row.length<=1000)(hf:found.length<=1000) :
  ∃ (o:List Int) (t7 t8:Slot),rB [.val (cW ns),.val (.int a),.val rows,.own found,.val (.int k),.val (cA row),s6,s7,s8]=some (.nx [.val (cW ns),.val (.int a),.val rows,.own (found++[av o]),.val (.int k),.val (cA row),.val (cA o),t7,t8])/\o.Perm row:=by
 obtain⟨o,t7,t8,e,p⟩:=Ho (s2:=.val rows) (s3:=.own found) (s5:=.val (cA row)) (a:=a) (k:=k) hl (row:=row) (order:=[]) (j:=0) (s7:=s7) (s8:=s8) (by simpa using hr)
 rw[qF] at p
 refine⟨o,t7,t8,?_,p⟩
 have h1:br 6 [] (cQ af) [.val (cW ns),.val (.int a),.val rows,.own found,.val (.int k),.val (cA row),s6,s7,s8]=some (.nx [.val (cW ns),.val (.int a),.val rows,.own found,.val (.int k),.val (cA row),.own [],s7,s8]):=by
  simp only[br,mK,cQ,af,zA,iy,zB,yW,yV]
 have h2:hU [5] (dA (aa (ae 5) af)) (mE 7 8) oB [.val (cW ns),.val (.int a),.val rows,.own found,.val (.int k),.val (cA row),.own [],s7,s8]=some (.nx [.val (cW ns),.val (.int a),.val rows,.own found,.val (.int k),.val (cA row),.own (o.map PyData.int),t7,t8]):=by
  have hh:hand [5] 0 [Slot.val (cW ns),.val (.int a),.val rows,.own found,.val (.int k),.val (cA row),.own [],s7,s8]=[Slot.val (cW ns),.val (.int a),.val rows,.own found,.val (.int k),.val (cA row),.own [],s7,s8]:=rfl
  have hq:dA (aa (ae 5) af) (cJ [Slot.val (cW ns),.val (.int a),.val rows,.own found,.val (.int k),.val (cA row),.own [],s7,s8])=some (cB 0 (row.map PyData.int)):=by
   simp only[cJ,zI,yU]
   simp! [dA,cA]
  simp only[hU,hh,hq,zA]
  exact e
 have h3:lL 3 [6] (bR bU (aa (ae 6) af)) [.val (cW ns),.val (.int a),.val rows,.own found,.val (.int k),.val (cA row),.own (o.map PyData.int),t7,t8]=some (.nx [.val (cW ns),.val (.int a),.val rows,.own (found++[av o]),.val (.int k),.val (cA row),.val (cA o),t7,t8]):=by
  have hz:found.length < sizeLine:=qZ hf (by decide)
  have hh:hand [6] 0 [Slot.val (cW ns),.val (.int a),.val rows,.own found,.val (.int k),.val (cA row),.own (o.map PyData.int),t7,t8]=[Slot.val (cW ns),.val (.int a),.val rows,.own found,.val (.int k),.val (cA row),.val (cA o),t7,t8]:=rfl
  simp only[lL,ki,hh,cJ,zI,yU]
  simp! [xi,yO,oi,hz,yW,yV,cA,av]
 simp only[rB,ay,h1,h2,h3,zA]
theorem Fw{ns:List Int}{a:Int}{rws:D}(hl:ns.length<=63):∀ {rows:List (List Int)}{found:List D}{k:Nat}{s4 s5 s6 s7 s8:Slot},(∀r∈rows,r.length<=1000)->found.length+rows.length<=1000 ->
  ∃ (os:List (List Int)) (t4 t5 t6 t7 t8:Slot),fU (mE 4 5) rB (cB k (rows.map cA)) [.val (cW ns),.val (.int a),.val rws,.own found,s4,s5,s6,s7,s8]=some (.nx [.val (cW ns),.val (.int a),.val rws,.own (found++os.map av),t4,t5,t6,t7,t8])/\pP os rows
 | [],found,k,s4,s5,s6,s7,s8,_,_=>⟨[],s4,s5,s6,s7,s8,by simp[cB,fU],trivial⟩
 | r::rows,found,k,s4,s5,s6,s7,s8,h,hf=>by
  rw[zL] at hf
  obtain⟨o,u7,u8,e1,p1⟩:=Mz (rows:=rws) (a:=a) (k:=((k:Nat):Int)) (s6:=s6) (s7:=s7) (s8:=s8) hl (h r zE) (show found.length<=1000 by omega)
  obtain⟨os,t4,t5,t6,t7,t8,e,p⟩:=Fw hl (rws:=rws) (a:=a) (rows:=rows) (found:=found++[av o]) (k:=k+1) (s4:=.val (.int (k:Nat))) (s5:=.val (cA r)) (s6:=.val (cA o)) (s7:=u7) (s8:=u8) (fun r' hr'=>h r' (zC _ hr')) (by rw[zN,xC];omega)
  refine⟨o::os,t4,t5,t6,t7,t8,?_,p1,p⟩
  have hs:mE 4 5 [.val (cW ns),.val (.int a),.val rws,.own found,s4,s5,s6,s7,s8] (.tuple [.int (k:Nat),cA r])=some [.val (cW ns),.val (.int a),.val rws,.own found,.val (.int (k:Nat)),.val (cA r),s6,s7,s8]:=rfl
  simp only[zI,cB,fU,hs,zA,e1]
  rw[e,List.append_assoc]
  rfl
theorem ye{ns:List Int}{a:Int}{rows:List (List Int)}(hl:ns.length<=63)(hr:∀r∈rows,r.length<=1000)(hn:rows.length<=1000):∃os:List (List Int),bN [cW ns,.int a,.list (rows.map cA)]=some (.list (os.map av))/\pP os rows:=by
 obtain⟨os,t4,t5,t6,t7,t8,e,p⟩:=Fw hl (rws:=.list (rows.map cA)) (a:=a) (rows:=rows) (found:=[]) (k:=0) (s4:=.non) (s5:=.non) (s6:=.non) (s7:=.non) (s8:=.non) hr (by simpa using hn)
 refine⟨os,?_,p⟩
 rw[xO] at e
 have h1:br 3 [] (cQ af) [.val (cW ns),.val (.int a),.val (.list (rows.map cA)),.non,.non,.non,.non,.non,.non]=some (.nx [.val (cW ns),.val (.int a),.val (.list (rows.map cA)),.own [],.non,.non,.non,.non,.non]):=by
  simp only[br,mK,cQ,af,zA,iy,zB,yW,yV]
 have h2:hU [2] (dA (aa (ae 2) af)) (mE 4 5) rB [.val (cW ns),.val (.int a),.val (.list (rows.map cA)),.own [],.non,.non,.non,.non,.non]=some (.nx [.val (cW ns),.val (.int a),.val (.list (rows.map cA)),.own (os.map av),t4,t5,t6,t7,t8]):=by
  have hh:hand [2] 0 [Slot.val (cW ns),.val (.int a),.val (.list (rows.map cA)),.own [],.non,.non,.non,.non,.non]=[Slot.val (cW ns),.val (.int a),.val (.list (rows.map cA)),.own [],.non,.non,.non,.non,.non]:=rfl
  have hq:dA (aa (ae 2) af) (cJ [Slot.val (cW ns),.val (.int a),.val (.list (rows.map cA)),.own [],.non,.non,.non,.non,.non])=some (cB 0 (rows.map cA)):=by
   simp only[cJ,zI,yU]
   simp! [dA]
  simp only[hU,hh,hq,zA]
  exact e
 unfold rB oB at h2
 simp! [bN,gS,h1,h2]
abbrev Pl:=Int×List Int
abbrev Wy:=Int×Int×Int
def aD(p:Pl):D:=.tuple [.int p.1,av p.2]
def aE(w:Wy):D:=.tuple [.int w.1,.int w.2.1,.int w.2.2]
def aX(G T:List Pl)(W:List Wy):D:=.tuple [.tuple (G.map aD),.tuple (T.map aD),.tuple (W.map aE)]
def Ay(W:List Wy)(i:Int):List Int:=(W.filter fun w=>decide (w.1=i)).map fun w=>w.2.1
def ofT(W:List Wy)(j:Int):List Int:=(W.filter fun w=>decide (w.2.1=j)).map fun w=>w.1
abbrev vx(W:List Wy):Prop:=W.Pairwise fun a b=>a.1 < b.1\/(a.1=b.1/\a.2.1 < b.2.1)
structure Wd(G T:List Pl)(W:List Wy):Prop where
 g1:1<=G.length
 g4:G.length<=4
 t1:1<=T.length
 t4:T.length<=4
 ga:∀p∈G,0<=p.1/\p.1<=9
 ta:∀p∈T,0<=p.1/\p.1<=9
 gl:∀ (i:Nat) (p:Pl),G[i]?=some p->p.2.Perm (Ay W i)
 tl:∀ (j:Nat) (p:Pl),T[j]?=some p->p.2.Perm (ofT W j)
 wr:∀w∈W,(0<=w.1/\w.1 < G.length)/\(0<=w.2.1/\w.2.1 < T.length)/\1<=w.2.2/\w.2.2<=9
 wp:vx W
 wl:W.length<=16
theorem uz{W:List Wy}{i j:Int}:j∈Ay W i↔[i,j]∈W.map fun w=>[w.1,w.2.1]:=by
 simp only[Ay,List.mem_map,List.mem_filter,zJ,kW,and_true]
 constructor
 ·rintro⟨w,⟨h1,h2⟩,h3⟩;exact⟨w,h1,h2,h3⟩
 ·rintro⟨w,h1,h2,h3⟩;exact⟨w,⟨h1,h2⟩,h3⟩
theorem uP{W:List Wy}{i j:Int}:i∈ofT W j↔[i,j]∈W.map fun w=>[w.1,w.2.1]:=by
 simp only[ofT,List.mem_map,List.mem_filter,zJ,kW,and_true]
 constructor
 ·rintro⟨w,⟨h1,h2⟩,h3⟩;exact⟨w,h1,h3,h2⟩
 ·rintro⟨w,h1,h2,h3⟩;exact⟨w,⟨h1,h3⟩,h2⟩
theorem tL{W:List Wy}(h:vx W)(i:Int):(Ay W i).Nodup:=by
 unfold Ay List.Nodup
 rw[jE,List.pairwise_filter]
 refine h.imp fun hab ha hb=>?_
 rw[zJ] at ha hb
 omega
theorem ue{W:List Wy}(h:vx W)(i:Int):(ofT W i).Nodup:=by
 unfold ofT List.Nodup
 rw[jE,List.pairwise_filter]
 refine h.imp fun hab ha hb=>?_
 rw[zJ] at ha hb
 omega
theorem fZ(p:Pl):km (aD p)=p.2:=by
 show ((p.2.map PyData.int).map mC)=p.2
 rw[zM]
 exact List.map_id _
theorem oN{n:Int}{p:Pl}(ha:0<=p.1/\p.1<=9)(hn:p.2.Nodup)(hr:∀j∈p.2,0<=j/\j < n):placeOk n (aD p)=true:=by
 have e:(p.2.map PyData.int).map mC=p.2:=fZ p
 have e2:(p.2.map PyData.int).all (whole 0 (n - 1))=true:=by
  rw[xG]
  intro x hx
  obtain⟨j,hj,rfl⟩:=List.mem_map.mp hx
  have:=hr j hj
  simp only[whole,zF,zJ]
  omega
 simp only[placeOk,aD,av,zL,xK,wD,wF,iU,whole,e,e2,ha.1,ha.2,hn,jP,Bool.and_self]
theorem Ds{g t:Int}{w:Wy}(h:(0<=w.1/\w.1 < g)/\(0<=w.2.1/\w.2.1 < t)/\1<=w.2.2/\w.2.2<=9):jo g t (aE w)=true:=by
 obtain⟨⟨a,b⟩,⟨c,d⟩,e,f⟩:=h
 have b':w.1<=g - 1:=by omega
 have d':w.2.1<=t - 1:=by omega
 simp only[jo,aE,zL,xK,wD,wF,whole,a,b',c,d',e,f,jP,Bool.and_self]
theorem P3{a b c d:Int}(h:a < c\/(a=c/\b < d)):Dl.lexLt [a,b] [c,d]=true:=by
 show HT.lexLt [a,b] [c,d]=true
 rw[HT.cL]
 by_cases e:a=c
 ·rw[yL e,HT.cL,yN (by omega)]
  simp only[zJ];omega
 ·rw[yN e];simp only[zJ];omega
theorem Wd.glike{G T:List Pl}{W:List Wy}(h:Wd G T W){p:Pl}(hp:p∈G):∃i:Nat,i < G.length/\p.2.Perm (Ay W i):=by
 obtain⟨i,hi,e⟩:=qQ hp
 exact⟨i,hi,h.gl i p (by rw[zK hi,e])⟩
theorem Wd.tlike{G T:List Pl}{W:List Wy}(h:Wd G T W){p:Pl}(hp:p∈T):∃i:Nat,i < T.length/\p.2.Perm (ofT W i):=by
 obtain⟨i,hi,e⟩:=qQ hp
 exact⟨i,hi,h.tl i p (by rw[zK hi,e])⟩
theorem Wd.gok{G T:List Pl}{W:List Wy}(h:Wd G T W):(G.map aD).all (placeOk T.length)=true:=by
 rw[xG]
 intro x hx
 obtain⟨p,hp,rfl⟩:=List.mem_map.mp hx
 obtain⟨i,hi,q⟩:=h.glike hp
 refine oN (h.ga p hp) (q.nodup_iff.mpr (tL h.wp _)) fun j hj=>?_
 obtain⟨w,hw,e⟩:=List.mem_map.mp (uz.mp (q.mem_iff.mp hj))
 injection e with e1 e2
 injection e2 with e2 _
 have:=(h.wr w hw).2.1
 rw[e2] at this;exact this
theorem Wd.tok{G T:List Pl}{W:List Wy}(h:Wd G T W):(T.map aD).all (placeOk G.length)=true:=by
 rw[xG]
 intro x hx
 obtain⟨p,hp,rfl⟩:=List.mem_map.mp hx
 obtain⟨i,hi,q⟩:=h.tlike hp
 refine oN (h.ta p hp) (q.nodup_iff.mpr (ue h.wp _)) fun j hj=>?_
 obtain⟨w,hw,e⟩:=List.mem_map.mp (uP.mp (q.mem_iff.mp hj))
 injection e with e1 e2
 have:=(h.wr w hw).1
 rw[e1] at this;exact this
theorem rM{W:List Wy}{p:Wy->Bool}(h:W.length<=16):(W.filter p).length<=16:=yC (xP _ _) h
theorem Cq{p:Pl}(h:p.2.length<=16):ik 16 2 (aD p):=.tup (by simp only[zL,xK];omega) fun x hx=>by
 rcases List.mem_cons.mp hx with rfl|hx
 ·exact lF _
 ·rw[yJ] at hx
  subst hx
  exact uL h
theorem JO(w:Wy):ik 16 1 (aE w):=.tup (by simp only[zL,xK];omega) fun x hx=>by
 simp only[zQ,yE,xU] at hx
 rcases hx with rfl|rfl|rfl<;>exact lF _
theorem Wd.fit{G T:List Pl}{W:List Wy}(h:Wd G T W):ik 16 4 (aX G T W):=by
 refine .tup (by simp only[zL,xK];omega) fun x hx=>?_
 simp only[zQ,yE,xU] at hx
 have h4:=h.g4
 have h5:=h.t4
 have h6:=h.wl
 rcases hx with rfl|rfl|rfl
 ·refine .tup (by rw[zD];omega) fun x hx=>?_
  obtain⟨p,hp,rfl⟩:=List.mem_map.mp hx
  obtain⟨i,hi,q⟩:=h.glike hp
  exact Cq (by rw[q.length_eq,Ay,zD];exact rM h.wl)
 ·refine .tup (by rw[zD];omega) fun x hx=>?_
  obtain⟨p,hp,rfl⟩:=List.mem_map.mp hx
  obtain⟨i,hi,q⟩:=h.tlike hp
  exact Cq (by rw[q.length_eq,ofT,zD];exact rM h.wl)
 ·refine .tup (by rw[zD];omega) fun x hx=>?_
  obtain⟨p,hp,rfl⟩:=List.mem_map.mp hx
  exact (JO p).mono (yM _) (by decide)
theorem Ef{c:Int}(h0:0<=c)(h9:c<=9):Wd [(c,[0,1]),(c,[1,0])] [(c,[1,0]),(c,[0,1])] [(0,0,2),(0,1,2),(1,0,2),(1,1,2)] where
 g1:=by simp only[zL,xK];omega
 g4:=by simp only[zL,xK];omega
 t1:=by simp only[zL,xK];omega
 t4:=by simp only[zL,xK];omega
 ga:=by intro p hp;simp only[zQ,yE,xU] at hp;rcases hp with rfl|rfl<;>exact⟨h0,h9⟩
 ta:=by intro p hp;simp only[zQ,yE,xU] at hp;rcases hp with rfl|rfl<;>exact⟨h0,h9⟩
 gl:=by
  intro i p hp
  match i,hp with
  | 0,hp=>injection hp with hp;subst hp;exact (show List.Perm ([0,1]:List Int) (Ay [(0,0,2),(0,1,2),(1,0,2),(1,1,2)] ((0:Nat):Int)) by decide)
  | 1,hp=>injection hp with hp;subst hp;exact (show List.Perm ([1,0]:List Int) (Ay [(0,0,2),(0,1,2),(1,0,2),(1,1,2)] ((1:Nat):Int)) by decide)
 tl:=by
  intro i p hp
  match i,hp with
  | 0,hp=>injection hp with hp;subst hp;exact (show List.Perm ([1,0]:List Int) (ofT [(0,0,2),(0,1,2),(1,0,2),(1,1,2)] ((0:Nat):Int)) by decide)
  | 1,hp=>injection hp with hp;subst hp;exact (show List.Perm ([0,1]:List Int) (ofT [(0,0,2),(0,1,2),(1,0,2),(1,1,2)] ((1:Nat):Int)) by decide)
 wr:=show ∀w∈([(0,0,2),(0,1,2),(1,0,2),(1,1,2)]:List Wy),(0<=w.1/\w.1 < ((2:Nat):Int))/\(0<=w.2.1/\w.2.1 < ((2:Nat):Int))/\1<=w.2.2/\w.2.2<=9 by decide
 wp:=by decide
 wl:=by decide
def jw(f:Nat->Int):Nat->List (List Int)->List Pl|_,[]=>[]|k,r::rs=>(f k,r)::jw f (k+1) rs
theorem iu(f:Nat->Int):∀ (rs:List (List Int)) (k:Nat),(jw f k rs).length=rs.length
 | [],k=>rfl
 | r::rs,k=>by rw[jw,zL,zL,iu f rs]
theorem iE(f:Nat->Int):∀ {rs:List (List Int)}{k i:Nat}{p:Pl},(jw f k rs)[i]?=some p->∃r,rs[i]?=some r/\p=(f (k+i),r)
 | [],k,i,p,h=>by simp[jw] at h
 | r::rs,k,0,p,h=>by simp[jw] at h;exact⟨r,rfl,h.symm⟩
 | r::rs,k,i+1,p,h=>by
  simp only[jw,yY] at h
  obtain⟨y,h1,h2⟩:=iE f h
  exact⟨y,by simpa using h1,by rw[h2];congr 2;omega⟩
theorem eW:∀ {a b:List (List Int)},pP a b->a.length=b.length
 | [],[],_=>rfl
 | x::a,y::b,h=>by rw[zL,zL,eW h.2]
 | [],_::_,h=>h.elim
 | _::_,[],h=>h.elim
theorem oo:∀ {a b:List (List Int)}{i:Nat}{r:List Int},pP a b->a[i]?=some r->∃s,b[i]?=some s/\r.Perm s
 | [],[],i,r,_,h=>by simp at h
 | x::a,y::b,0,r,h,e=>by
  simp only[xQ,yK] at e
  subst e
  exact⟨y,rfl,h.1⟩
 | x::a,y::b,i+1,r,h,e=>by
  simp only[yY] at e
  obtain⟨s,h1,h2⟩:=oo h.2 e
  exact⟨s,by simpa using h1,h2⟩
 | [],_::_,i,r,h,_=>h.elim
 | _::_,[],i,r,h,_=>h.elim
def md(W:List Wy)(m:Nat):List (List Int):=(List.range m).map fun i=>Ay W ((i:Nat):Int)
def js(W:List Wy)(m:Nat):List (List Int):=(List.range m).map fun i=>ofT W ((i:Nat):Int)
theorem IJ{m s:Nat}{W:List Wy}{mine yours:List (List Int)}{f g:Nat->Int}(m1:1<=m)(m4:m<=4)(s1:1<=s)(s4:s<=4)(hf:∀k,0<=f k/\f k<=9)(hg:∀k,0<=g k/\g k<=9)
  (hm:pP mine (md W m)) (hy:pP yours (js W s)) (wr:∀w∈W,(0<=w.1/\w.1 < m)/\(0<=w.2.1/\w.2.1 < s)/\1<=w.2.2/\w.2.2<=9) (wp:vx W) (wl:W.length<=16):Wd (jw f 0 mine) (jw g 0 yours) W:=by
 have lm:(jw f 0 mine).length=m:=by rw[iu,eW hm,md,zD,zR]
 have ly:(jw g 0 yours).length=s:=by rw[iu,eW hy,js,zD,zR]
 have am:∀ {h:Nat->Int}{rs:List (List Int)},(∀k,0<=h k/\h k<=9)->∀p∈jw h 0 rs,0<=p.1/\p.1<=9:=fun {h rs} hh p hp=>by
  obtain⟨i,hi⟩:=List.mem_iff_getElem?.mp hp
  obtain⟨r,_,rfl⟩:=iE h hi
  exact hh _
 refine⟨by omega,by omega,by omega,by omega,am hf,am hg,fun i p hp=>?_,fun i p hp=>?_,by rw[lm,ly];exact wr,wp,wl⟩
 ·obtain⟨r,h1,rfl⟩:=iE f hp
  obtain⟨t,h2,h3⟩:=oo hm h1
  rw[md,zO] at h2
  obtain⟨k,hk,rfl⟩:=Option.map_eq_some_iff.mp h2
  have:k=i:=by
   rw[zS] at hk
   obtain⟨h,e⟩:=hk
   rw[List.getElem_range] at e
   exact e.symm
  subst this
  exact h3
 ·obtain⟨r,h1,rfl⟩:=iE g hp
  obtain⟨t,h2,h3⟩:=oo hy h1
  rw[js,zO] at h2
  obtain⟨k,hk,rfl⟩:=Option.map_eq_some_iff.mp h2
  have:k=i:=by
   rw[zS] at hk
   obtain⟨h,e⟩:=hk
   rw[List.getElem_range] at e
   exact e.symm
  subst this
  exact h3
theorem ie{i:Nat}{fz:List Nat}{f:Dl.Env->Option D}{ρ ρ':aq}{d:D}(hf:f (aW ρ)=some d)(hs:Dl.oZ d=false)(hh:hand fz 0 ρ=ρ')(hv:cJ ρ'=aW ρ)(hr:ir d=false\/ρ'=ρ:=by first|exact .inr rfl|exact .inl rfl):Dl.ba i fz f ρ=some (.nx (ρ'.set i (.val d))):=by
 rcases hr with hr|hr
 ·simp only[Dl.ba,hf,zA,hs,yO,qP,hh,hv,zB,hr]
 ·subst hr
  simp only[Dl.ba,hf,zA,hs,yO,qP,hh,hv,zB,ite_self]
theorem lz{i:Nat}{fz:List Nat}{f:Dl.Env->Option D}{ρ:aq}{d:D}(hf:f (aW ρ)=some d)(hs:Dl.oZ d=true):Dl.ba i fz f ρ=some (.nx (ρ.set i (.val d))):=by
 simp only[Dl.ba,hf,zA,hs,xH]
theorem Kn(w:Wy):aC (aE w) (.int 0)=some (.int w.1):=rfl
theorem Ko(w:Wy):aC (aE w) (.int 1)=some (.int w.2.1):=rfl
theorem Bc(a b c:D):small [a,b,c]=some [a,b,c]:=rfl
theorem NX{a b s:Int}(hs:s=1\/s=2\/s=3)(h:a < b):a / s < b / s\/(a / s=b / s/\a % s < b % s):=by rcases hs with rfl|rfl|rfl<;>omega
theorem K4{k m s:Int}(hs:s=1\/s=2\/s=3)(hm:m=1\/m=2\/m=3)(h0:0<=k)(h:k < m * s):(0<=k / s/\k / s < m)/\0<=k % s/\k % s < s:=by
 rcases hs with rfl|rfl|rfl<;>rcases hm with rfl|rfl|rfl<;>omega
def lB:aq->Option Out:=(iw (oQ (fB (f2 MU (bR bz (aa (ae 7) af)) (ae 2))) (fB (f2 KC (ah 3 ak (aa (ae 0) (aa (f2 aJ (f2 aJ (ae 1) (fC (.int 2))) (ae 8)) (aa (fC (.int 4)) af)))) (fC (.int 0))))) (lL 7 [0,1,6,8] (aA (aa (f2 nz (ae 8) (ae 6)) (aa (f2 lM (ae 8) (ae 6)) (aa (f2 aJ (fC (.int 1)) (ah 3 ak (aa (ae 0) (aa (f2 aJ (f2 aJ (ae 1) (fC (.int 12))) (ae 8)) (aa (fC (.int 2)) af))))) af))))) cU)
abbrev st(ns:List Int)(a mo m s:Int)(x4 x7 x8 x9 x10 x11:Slot):aq:=[.val (cW ns),.val (.int a),.val (.int mo),.non,x4,.val (.int m),.val (.int s),x7,x8,x9,x10,x11]
def Ib(ns:List Int)(a mo s k:Int)(W:List Wy):List Wy:=if (W.length:Int) < mo/\0 < dr ns (a+2+k) 4 then W++[(k / s,k % s,1+dr ns (a+12+k) 2)] else W
theorem KY{ns:List Int}{a mo m s k:Int}{W:List Wy}(hl:ns.length<=63)(hs:s=1\/s=2\/s=3)(hw:W.length<=9) :
  lB (st ns a mo m s .non (.own (W.map aE)) (.val (.int k)) .non .non .non)=some (.nx (st ns a mo m s .non (.own ((Ib ns a mo s k W).map aE)) (.val (.int k)) .non .non .non)):=by
 have hs0:0 < s:=by omega
 have hz:W.length < sizeLine:=qZ hw (by decide)
 have hd:Dl.nz (.int k) (.int s)=some (.int (k / s)):=jz ⟨hs0,by omega⟩
 have hm:Dl.lM (.int k) (.int s)=some (.int (k % s)):=iB hs0
 have e4:=Aj (ns:=ns) (a+2+k) 4 hl (by decide)
 have e2:=Aj (ns:=ns) (a+12+k) 2 hl (by decide)
 have hh:hand [0,1,6,8] 0 (st ns a mo m s .non (.own (W.map aE)) (.val (.int k)) .non .non .non)=st ns a mo m s .non (.own (W.map aE)) (.val (.int k)) .non .non .non:=rfl
 have ha:lL 7 [0,1,6,8] (aA (aa (f2 nz (ae 8) (ae 6)) (aa (f2 lM (ae 8) (ae 6)) (aa (f2 aJ (fC (.int 1)) (ah 3 ak (aa (ae 0) (aa (f2 aJ (f2 aJ (ae 1) (fC (.int 12))) (ae 8)) (aa (fC (.int 2)) af))))) af)))) (st ns a mo m s .non (.own (W.map aE)) (.val (.int k)) .non .non .non)=some (.nx (st ns a mo m s .non (.own ((W++[(k / s,k % s,1+dr ns (a+12+k) 2)]).map aE)) (.val (.int k)) .non .non .non)):=by
  simp only[lL,ki,hh,cJ,zI,yU]
  simp! [xi,yO,oi,hd,hm,e2,Bc,zD,hz,yW,yV,jA]
  rfl
 by_cases c1:(W.length:Int) < mo
 ·by_cases c2:0 < dr ns (a+2+k) 4
  ·rw[show Ib ns a mo s k W=W++[(k / s,k % s,1+dr ns (a+12+k) 2)] from yL ⟨c1,c2⟩,<- ha]
   simp! [lB,vf,ll,zD,c1,c2,jP,gL,e4]
  ·rw[show Ib ns a mo s k W=W from yN fun h=>c2 h.2]
   simp! [lB,vf,ll,zD,c1,c2,jP,wR,gL,e4,yO]
 ·rw[show Ib ns a mo s k W=W from yN fun h=>c1 h.1]
  simp! [lB,vf,ll,zD,c1,wR,gL,yO]
structure El(mo s k:Int)(W:List Wy):Prop where
 mem:∀w∈W,∃j:Int,0<=j/\j < k/\w.1=j / s/\w.2.1=j % s/\1<=w.2.2/\w.2.2<=2
 ris:vx W
 len:(W.length:Int)<=k
 lem:(W.length:Int)<=mo
theorem El.next{ns:List Int}{a mo s k:Int}{W:List Wy}(hl:ns.length<=63)(hs:s=1\/s=2\/s=3)(hk:0<=k)(h:El mo s k W):El mo s (k+1) (Ib ns a mo s k W):=by
 have old:∀w∈W,∃j:Int,0<=j/\j < k+1/\w.1=j / s/\w.2.1=j % s/\1<=w.2.2/\w.2.2<=2:=fun w hw=>by
  obtain⟨j,a,b,c⟩:=h.mem w hw
  exact⟨j,a,by omega,c⟩
 by_cases c:(W.length:Int) < mo/\0 < dr ns (a+2+k) 4
 ·rw[show Ib ns a mo s k W=W++[(k / s,k % s,1+dr ns (a+12+k) 2)] from yL c]
  have g1:=NT (ns:=ns) (a+12+k) 2 hl (by decide)
  have g2:=Od (ns:=ns) (a+12+k) 2 hl (by decide)
  refine⟨fun w hw=>?_,?_,?_,?_⟩
  ·rcases List.mem_append.mp hw with hw|hw
   ·exact old w hw
   ·rw[yJ] at hw
    subst hw
    exact⟨k,hk,by omega,rfl,rfl,by simp only;omega,by simp only;omega⟩
  ·refine List.pairwise_append.mpr ⟨h.ris,List.pairwise_singleton _ _,fun a ha b hb=>?_⟩
   rw[yJ] at hb
   subst hb
   obtain⟨j,_,b,c1,c2,_⟩:=h.mem a ha
   rw[c1,c2]
   exact NX hs b
  ·have:=h.len;rw[zN,xC];omega
  ·have:=c.1;rw[zN,xC];omega
 ·rw[show Ib ns a mo s k W=W from yN c]
  exact⟨old,h.ris,by have:=h.len;omega,h.lem⟩
theorem G0{ns:List Int}{a mo m s:Int}(hl:ns.length<=63)(hs:s=1\/s=2\/s=3):∀ (n k:Nat) {W:List Wy}{x8:Slot},k+n<=9->El mo s k W ->
  ∃W' t8,fU (AX 8) lB ((List.range' k n).map fun i=>PyData.int ((i:Nat):Int)) (st ns a mo m s .non (.own (W.map aE)) x8 .non .non .non)=some (.nx (st ns a mo m s .non (.own (W'.map aE)) t8 .non .non .non))/\(n=0/\t8=x8\/∃d,t8=.val d)/\El mo s ((k+n:Nat):Int) W'
 | 0,k,W,x8,hk,h=>⟨W,x8,rfl,.inl ⟨rfl,rfl⟩,h⟩
 | n+1,k,W,x8,hk,h=>by
  have h':El mo s ((k+1:Nat):Int) (Ib ns a mo s k W):=by
   have:=h.next (ns:=ns) (a:=a) hl hs (by omega)
   rwa [show ((k:Int)+1)=((k+1:Nat):Int) by omega] at this
  obtain⟨W',t8,e,q,b⟩:=G0 hl hs n (k+1) (W:=Ib ns a mo s k W) (x8:=.val (.int (k:Nat))) (by omega) h'
  refine⟨W',t8,?_,.inr (q.elim (fun z=>⟨_,z.2⟩) id),by rw[show k+(n+1)=k+1+n by omega];exact b⟩
  have hsg:∀d,AX 8 (st ns a mo m s .non (.own (W.map aE)) x8 .non .non .non) d=some (st ns a mo m s .non (.own (W.map aE)) (.val d) .non .non .non):=fun d=>rfl
  rw[vI,zI,fU,hsg,zA,KY hl hs (by have:=h.len;omega)]
  exact e
theorem Qz(W:List Wy)(i:Int)(hw:W.length<=20):aN 1 [0] (bO (ae 1)) (fG 0) (fB (f2 cI (f2 aC (ae 0) (fC (.int 0))) (ae 1))) (f2 aC (ae 0) (fC (.int 1))) [some (.int i),some (.list (W.map aE))]=some ((Ay W i).map PyData.int):=by
 rw[mO (ds:=W.map aE) (p:=fun d=>decide (mC ((dg d).getD 0 .none)=i)) (h:=fun d=>(dg d).getD 1 .none) rfl (by rw[zD];omega) (fun d hd=>?_) fun d hd _=>?_]
 ·rw[kF,zM,Ay,zM];rfl
 ·obtain⟨w,_,rfl⟩:=List.mem_map.mp hd
  simp! [Kn,iD,gL]
  rfl
 ·obtain⟨w,_,rfl⟩:=List.mem_map.mp hd
  simp! [Ko]
  rfl
theorem QQ(W:List Wy)(i:Int)(hw:W.length<=20):aN 1 [0] (bO (ae 1)) (fG 0) (fB (f2 cI (f2 aC (ae 0) (fC (.int 1))) (ae 1))) (f2 aC (ae 0) (fC (.int 0))) [some (.int i),some (.list (W.map aE))]=some ((ofT W i).map PyData.int):=by
 rw[mO (ds:=W.map aE) (p:=fun d=>decide (mC ((dg d).getD 1 .none)=i)) (h:=fun d=>(dg d).getD 0 .none) rfl (by rw[zD];omega) (fun d hd=>?_) fun d hd _=>?_]
 ·rw[kF,zM,ofT,zM];rfl
 ·obtain⟨w,_,rfl⟩:=List.mem_map.mp hd
  simp! [Ko,iD,gL]
  rfl
 ·obtain⟨w,_,rfl⟩:=List.mem_map.mp hd
  simp! [Kn]
  rfl
theorem vt{m:Nat}(hm:m<=1000):Ax ((m:Nat):Int)=true:=by
 unfold Ax
 rw[zF,zJ,zJ]
 have h1:(0:Int)<=(m:Int):=Int.natCast_nonneg m
 have h2:(m:Int)<=1000:=by omega
 exact⟨jT (by decide) h1,Int.lt_of_le_of_lt h2 (by decide)⟩
theorem zy{j:Int}(h:Ax j=true):mD [.int j]=some ((List.range j.toNat).map fun i=>PyData.int ((i:Nat):Int)):=by
 rw[mD,yL h]
theorem u4{fi:Dl.Env->Option D}{ρ:Dl.Env}(m:Nat)(hm:m<=1000)(h:fi ρ=some (.int (m:Nat))):cg (aa fi af) ρ=some ((List.range m).map fun i=>PyData.int ((i:Nat):Int)):=by
 have e:aa fi af ρ=some [.int ((m:Nat):Int)]:=by simp only[aa,af,h,zA,zB]
 have e2:cg (aa fi af) ρ=(aa fi af ρ).bind mD:=rfl
 rw[e2,e,zA,zy (vt hm),yF]
theorem IW{W:List Wy}{m:Nat}{i7 i5:Nat}{ρ:Dl.Env}(hw:W.length<=20)(hm:m<=1000)(h5:ae i5 ρ=some (.int (m:Nat)))(h7:(ρ[i7]?).getD none=some (.list (W.map aE))) :
  aN 1 [i7] (cg (aa (ae i5) af)) (fG 0) (fun _=>some true) (dM (aN 1 [0] (bO (ae 1)) (fG 0) (fB (f2 cI (f2 aC (ae 0) (fC (.int 0))) (ae 1))) (f2 aC (ae 0) (fC (.int 1))))) ρ=some ((md W m).map cA):=by
 rw[dy (h:=fun d=>cA (Ay W (mC d))) (u4 m hm h5) (by rw[zD,zR];omega) fun d hd=>?_]
 ·rw[md,zM,zM];rfl
 ·obtain⟨i,_,rfl⟩:=List.mem_map.mp hd
  simp only[zI,yU,h7,dM,Qz W _ hw,zB,cA,mC]
theorem JN{W:List Wy}{m:Nat}{i7 i5:Nat}{ρ:Dl.Env}(hw:W.length<=20)(hm:m<=1000)(h5:ae i5 ρ=some (.int (m:Nat)))(h7:(ρ[i7]?).getD none=some (.list (W.map aE))) :
  aN 1 [i7] (cg (aa (ae i5) af)) (fG 0) (fun _=>some true) (dM (aN 1 [0] (bO (ae 1)) (fG 0) (fB (f2 cI (f2 aC (ae 0) (fC (.int 1))) (ae 1))) (f2 aC (ae 0) (fC (.int 0))))) ρ=some ((js W m).map cA):=by
 rw[dy (h:=fun d=>cA (ofT W (mC d))) (u4 m hm h5) (by rw[zD,zR];omega) fun d hd=>?_]
 ·rw[js,zM,zM];rfl
 ·obtain⟨i,_,rfl⟩:=List.mem_map.mp hd
  simp only[zI,yU,h7,dM,QQ W _ hw,zB,cA,mC]
def J6(c:Int):Dl.Env->Option D:=(aA (aa (ah 3 ak (aa (ae 2) (aa (f2 aJ (f2 aJ (ae 3) (fC (.int c))) (ae 0)) (aa (fC (.int 4)) af)))) (aa (ae 1) af)))
theorem Nt{ns:List Int}{a:Int}(c:Int)(hl:ns.length<=63):∀ (mine:List (List Int)) (k:Nat),gx (zx 0 1) (fun _=>some true) (J6 c) [none,none,some (cW ns),some (.int a)] (cB k (mine.map av))=some ((jw (fun k=>dr ns (a+c+((k:Nat):Int)) 4) k mine).map aD)
 | [],k=>rfl
 | r::mine,k=>by
  have hg:zx 0 1 [none,none,some (cW ns),some (.int a)] (.tuple [.int ((k:Nat):Int),av r])=some [some (.int ((k:Nat):Int)),some (av r),some (cW ns),some (.int a)]:=rfl
  have he:J6 c [some (.int ((k:Nat):Int)),some (av r),some (cW ns),some (.int a)]=some (aD (dr ns (a+c+((k:Nat):Int)) 4,r)):=by
   simp! [J6,Aj (ns:=ns) (a+c+((k:Nat):Int)) 4 hl (by decide),A7,aD]
  have ih:=Nt (a:=a) c hl mine (k+1)
  rw[zI,cB,gx,hg]
  simp only[zA,xH,he,ih,zB,jw,zI]
theorem lD:∀ (ds:List D) (k:Nat),(cB k ds).length=ds.length
 | [],k=>rfl
 | d::ds,k=>by rw[cB,zL,zL,lD ds]
theorem Ab{ns:List Int}{a c:Int}{i9:Nat}{ρ:Dl.Env}{mine:List (List Int)}(hl:ns.length<=63)(hm:mine.length<=1000)(h9:ae i9 ρ=some (.list (mine.map av)))(h0:(ρ[0]?).getD none=some (cW ns))(h1:(ρ[1]?).getD none=some (.int a)) :
  bR bU (aa (dM (aN 2 [0,1] (dA (aa (ae i9) af)) (zx 0 1) (fun _=>some true) (J6 c))) af) ρ=some (.tuple ((jw (fun k=>dr ns (a+c+((k:Nat):Int)) 4) 0 mine).map aD)):=by
 have hi:dA (aa (ae i9) af) ρ=some (cB 0 (mine.map av)):=by
  simp only[dA,aa,af,h9,zA,zB,dB,oneOf,iG]
 have hc:aN 2 [0,1] (dA (aa (ae i9) af)) (zx 0 1) (fun _=>some true) (J6 c) ρ=some ((jw (fun k=>dr ns (a+c+((k:Nat):Int)) 4) 0 mine).map aD):=by
  simp only[aN,hi,zA,gJ,zI,yU,h0,h1,List.replicate,xF,xO,Nt c hl]
  exact cN (by rw[zD,iu];omega)
 simp only[bR,aa,af,dM,hc,zB,zA,bU,dB,oneOf,iG]
theorem ar{g1 g2:aq->Option Out}{ρ ρ':aq}(h:g1 ρ=some (.nx ρ')):ay g1 g2 ρ=g2 ρ':=by
 simp only[ay,h,zA]
theorem bA{g:aq->Option Out}{n:Nat}{args:List D}{d:D}(h:g (args.map Slot.val++List.replicate (n - args.length) .non)=some (.rt d)):b9 g n args=some d:=by
 simp only[b9,h,zB]
theorem Ka{g:D->D->Option D}{fa fb:Dl.Env->Option D}{ρ:Dl.Env}{a b:D}(ha:fa ρ=some a)(hb:fb ρ=some b):f2 g fa fb ρ=g a b:=by
 simp only[f2,ha,hb,zA]
theorem KM{ns:List Int}{a mo:Int}{m s:Nat}(m1:m<=3)(s1:s<=3):f2 gH (ae 5) (ae 6) (cJ (st ns a mo m s .non (.own []) .non .non .non .non))=some (.int ((m * s:Nat):Int)):=by
 have h:Dl.gH (.int (m:Int)) (.int (s:Int))=some (.int ((m:Int) * (s:Int))):=fF (mq (by omega))
 rw[Ka (a:=.int (m:Int)) (b:=.int (s:Int)) rfl rfl,h,Int.natCast_mul]
theorem Lu{ns:List Int}{a mo:Int}{m s:Nat}(m1:m<=3)(s1:s<=3)(hms:m * s<=9){W:List Wy}{t8:Slot}(e: fU (AX 8) lB ((List.range' 0 (m * s)).map fun i=>PyData.int ((i:Nat):Int)) (st ns a mo m s .non (.own (([]:List Wy).map aE)) .non .non .non .non)=some (.nx (st ns a mo m s .non (.own (W.map aE)) t8 .non .non .non))):hU [5,6] (cg (aa (f2 gH (ae 5) (ae 6)) af)) (AX 8) lB (st ns a mo m s .non (.own []) .non .non .non .non)=some (.nx (st ns a mo m s .non (.own (W.map aE)) t8 .non .non .non)):=by
 have hh:hand [5,6] 0 (st ns a mo m s .non (.own []) .non .non .non .non)=st ns a mo m s .non (.own []) .non .non .non .non:=rfl
 have hr:=u4 (fi:=f2 gH (ae 5) (ae 6)) (ρ:=cJ (st ns a mo m s .non (.own []) .non .non .non .non)) (m * s) (by omega) (KM m1 s1)
 rw[yG] at hr
 rw[yU] at e
 simp only[hU,hh,hr,zA]
 exact e
structure OU(mo:Int)(G T:List Pl)(W:List Wy):Prop where
 g3:G.length<=3
 t3:T.length<=3
 w2:∀w∈W,w.2.2<=2
 ga:∀p∈G,p.1<=3
 ta:∀p∈T,p.1<=3
 wm:(W.length:Int)<=mo
theorem vb{ns:List Int}{a mo:Int}(hl:ns.length<=63)(hmo:3 < mo)(c:dr ns (a+64) 4=0):∃G T W,bX [cW ns,.int a,.int mo]=some (aX G T W)/\Wd G T W/\OU mo G T W:=by
 have e64:=Aj (ns:=ns) (a+64) 4 hl (by decide)
 have e65:=dC (ns:=ns) (a+65) 2 hl (by decide)
 refine⟨_,_,_,?_,Ef (c:=1+dr ns (a+65) 2) (by omega) (by omega),⟨by simp,by simp,by decide,fun p hp=>?_,fun p hp=>?_,by simp;omega⟩⟩
 rotate_left
 ·simp only[zQ,yE,xU] at hp;rcases hp with rfl|rfl<;>(simp only;omega)
 ·simp only[zQ,yE,xU] at hp;rcases hp with rfl|rfl<;>(simp only;omega)
 have s1:Dl.ba 3 [0,1] (f2 aJ (fC (.int 1)) (ah 3 ak (aa (ae 0) (aa (f2 aJ (ae 1) (fC (.int 65))) (aa (fC (.int 2)) af))))) [.val (cW ns),.val (.int a),.val (.int mo),.non,.non,.non,.non,.non,.non,.non,.non,.non]=some (.nx [.val (cW ns),.val (.int a),.val (.int mo),.val (.int (1+dr ns (a+65) 2)),.non,.non,.non,.non,.non,.non,.non,.non]) :=
  lz (d:=.int (1+dr ns (a+65) 2)) (by simp! [e65.1]) rfl
 generalize 1+dr ns (a+65) 2=x at *
 have s2:Dl.ba 4 [3] (aA (aa (aA (aa (ae 3) (aa (aA (aa (fC (.int 1)) (aa (fC (.int 0)) af))) af))) (aa (aA (aa (ae 3) (aa (aA (aa (fC (.int 0)) (aa (fC (.int 1)) af))) af))) af))) [.val (cW ns),.val (.int a),.val (.int mo),.val (.int x),.non,.non,.non,.non,.non,.non,.non,.non]=some (.nx [.val (cW ns),.val (.int a),.val (.int mo),.val (.int x),.val (.tuple [aD (x,[1,0]),aD (x,[0,1])]),.non,.non,.non,.non,.non,.non,.non]) :=
  ie (d:=.tuple [aD (x,[1,0]),aD (x,[0,1])]) (by simp! [A7];rfl) rfl rfl rfl
 simp! [bX,eI,ll,e64,c,iD,jP,gL,show decide ((3:Int) < mo)=true from zZ hmo,s1,s2,A7,Bc,show ∀a b c d:D,small [a,b,c,d]=some [a,b,c,d] from fun _ _ _ _=>rfl]
 rfl
theorem v5{ns:List Int}{a mo:Int}(hl:ns.length<=63)(hm0:0<=mo)(c:¬ (3 < mo/\dr ns (a+64) 4=0)):∃G T W,bX [cW ns,.int a,.int mo]=some (aX G T W)/\Wd G T W/\OU mo G T W:=by
 have e64:=Aj (ns:=ns) (a+64) 4 hl (by decide)
 have em:=dC (ns:=ns) a 3 hl (by decide)
 have es:=dC (ns:=ns) (a+1) 3 hl (by decide)
 obtain⟨m,hm⟩:=vK (show 0<=1+dr ns a 3 by omega)
 obtain⟨s,hs⟩:=vK (show 0<=1+dr ns (a+1) 3 by omega)
 have m1:1<=m/\m<=3:=by omega
 have s1:1<=s/\s<=3:=by omega
 have hs':(s:Int)=1\/(s:Int)=2\/(s:Int)=3:=by omega
 have hm':(m:Int)=1\/(m:Int)=2\/(m:Int)=3:=by omega
 have t5:Dl.ba 5 [0,1] (f2 aJ (fC (.int 1)) (ah 3 ak (aa (ae 0) (aa (ae 1) (aa (fC (.int 3)) af))))) [.val (cW ns),.val (.int a),.val (.int mo),.non,.non,.non,.non,.non,.non,.non,.non,.non]=some (.nx [.val (cW ns),.val (.int a),.val (.int mo),.non,.non,.val (.int (m:Nat)),.non,.non,.non,.non,.non,.non]) :=
  lz (d:=.int (m:Nat)) (by simp! [em.1,hm]) rfl
 have t6:Dl.ba 6 [0,1] (f2 aJ (fC (.int 1)) (ah 3 ak (aa (ae 0) (aa (f2 aJ (ae 1) (fC (.int 1))) (aa (fC (.int 3)) af))))) [.val (cW ns),.val (.int a),.val (.int mo),.non,.non,.val (.int (m:Nat)),.non,.non,.non,.non,.non,.non]=some (.nx (st ns a mo m s .non .non .non .non .non .non)) :=
  lz (d:=.int (s:Nat)) (by simp! [es.1,hs]) rfl
 have t7:br 7 [] (cQ af) (st ns a mo m s .non .non .non .non .non .non)=some (.nx (st ns a mo m s .non (.own []) .non .non .non .non)):=by
  simp only[br,mK,cQ,af,zA,iy,zB,yW,yV]
 have hms:m * s<=9:=vX m1.2 s1.2
 have hms1:1<=m * s:=vX m1.1 s1.1
 obtain⟨W,t8,e,h8,I⟩:=G0 (ns:=ns) (a:=a) (m:=m) (s:=s) hl hs' (m * s) 0 (W:=[]) (x8:=.non) (by omega) (mo:=mo) ⟨fun w hw=>(by cases hw),List.Pairwise.nil,by decide,hm0⟩
 rw[jD] at I
 obtain⟨d8,rfl⟩:∃d,t8=.val d:=h8.elim (fun z=>by omega) id
 have hlen9:W.length<=9:=by have:=I.len;omega
 have tf:=Lu m1.2 s1.2 hms e
 unfold lB at tf
 have hwl:W.length<=20:=by omega
 have wr:∀w∈W,(0<=w.1/\w.1 < m)/\(0<=w.2.1/\w.2.1 < s)/\1<=w.2.2/\w.2.2<=9:=fun w hw=>by
  obtain⟨j,j0,jk,ea,b,c1,c2⟩:=I.mem w hw
  have:=K4 hs' hm' j0 (by rw[<- Int.natCast_mul];exact jk)
  rw[ea,b]
  exact⟨this.1,this.2,c1,by omega⟩
 have lenG:∀r∈md W m,r.length<=1000:=fun r hr=>by
  obtain⟨i,_,rfl⟩:=List.mem_map.mp hr
  rw[Ay,zD]
  exact yC (xP _ _) (by omega)
 have lenT:∀r∈js W s,r.length<=1000:=fun r hr=>by
  obtain⟨i,_,rfl⟩:=List.mem_map.mp hr
  rw[ofT,zD]
  exact yC (xP _ _) (by omega)
 obtain⟨mine,om,pm⟩:=ye (ns:=ns) (a:=a+24) (rows:=md W m) hl lenG (by rw[md,zD,zR];omega)
 obtain⟨yours,oy,py⟩:=ye (ns:=ns) (a:=a+40) (rows:=js W s) hl lenT (by rw[js,zD,zR];omega)
 have lm:mine.length<=1000:=by rw[eW pm,md,zD,zR];omega
 have ly:yours.length<=1000:=by rw[eW py,js,zD,zR];omega
 have t9:Dl.ba 9 [0,1,5,7] (ah 3 bN (aa (ae 0) (aa (f2 aJ (ae 1) (fC (.int 24))) (aa (dM (aN 1 [7] (cg (aa (ae 5) af)) (fG 0) (fun _=>some true) (dM (aN 1 [0] (bO (ae 1)) (fG 0) (fB (f2 cI (f2 aC (ae 0) (fC (.int 0))) (ae 1))) (f2 aC (ae 0) (fC (.int 1))))))) af)))) (st ns a mo m s .non (.own (W.map aE)) (.val d8) .non .non .non)=some (.nx (st ns a mo m s .non (.val (.list (W.map aE))) (.val d8) (.val (.list (mine.map av))) .non .non)):=by
  refine (ie (ρ':=st ns a mo m s .non (.val (.list (W.map aE))) (.val d8) .non .non .non) (d:=.list (mine.map av)) ?_ rfl rfl ?_).trans rfl
  ·have q:=IW (ρ:=aW (st ns a mo m s .non (.own (W.map aE)) (.val d8) .non .non .non)) (i5:=5) (i7:=7) hwl (show m<=1000 by omega) rfl rfl
   simp only[ah,aa,af,dM,q,zB,zA]
   simp! [om]
  ·simp only[st,cJ,aW,zI,yU];rfl
 have t10:Dl.ba 10 [0,1,6,7] (ah 3 bN (aa (ae 0) (aa (f2 aJ (ae 1) (fC (.int 40))) (aa (dM (aN 1 [7] (cg (aa (ae 6) af)) (fG 0) (fun _=>some true) (dM (aN 1 [0] (bO (ae 1)) (fG 0) (fB (f2 cI (f2 aC (ae 0) (fC (.int 1))) (ae 1))) (f2 aC (ae 0) (fC (.int 0))))))) af)))) (st ns a mo m s .non (.val (.list (W.map aE))) (.val d8) (.val (.list (mine.map av))) .non .non)=some (.nx (st ns a mo m s .non (.val (.list (W.map aE))) (.val d8) (.val (.list (mine.map av))) (.val (.list (yours.map av))) .non)):=by
  refine (ie (ρ':=st ns a mo m s .non (.val (.list (W.map aE))) (.val d8) (.val (.list (mine.map av))) .non .non) (d:=.list (yours.map av)) ?_ rfl ?_ ?_).trans rfl
  ·have q:=JN (ρ:=aW (st ns a mo m s .non (.val (.list (W.map aE))) (.val d8) (.val (.list (mine.map av))) .non .non)) (i5:=6) (i7:=7) hwl (show s<=1000 by omega) rfl rfl
   simp only[ah,aa,af,dM,q,zB,zA]
   simp! [oy]
  ·rfl
  ·simp only[st,cJ,aW,zI,yU];rfl
 have t11:Dl.ba 11 [0,1,8,9] (bR bU (aa (dM (aN 2 [0,1] (dA (aa (ae 9) af)) (zx 0 1) (fun _=>some true) (J6 56))) af)) (st ns a mo m s .non (.val (.list (W.map aE))) (.val d8) (.val (.list (mine.map av))) (.val (.list (yours.map av))) .non)=some (.nx (st ns a mo m s .non (.val (.list (W.map aE))) (.val d8) (.val (.list (mine.map av))) (.val (.list (yours.map av))) (.val (.tuple ((jw (fun k=>dr ns (a+56+((k:Nat):Int)) 4) 0 mine).map aD))))):=by
  refine (ie (ρ':=st ns a mo m s .non (.val (.list (W.map aE))) (.val d8) (.val (.list (mine.map av))) (.val (.list (yours.map av))) .non) (Ab hl lm rfl rfl rfl) rfl rfl ?_).trans rfl
  simp only[st,cJ,aW,zI,yU];rfl
 have t4:∀G:D,Dl.ba 4 [0,1,8,10] (bR bU (aa (dM (aN 2 [0,1] (dA (aa (ae 10) af)) (zx 0 1) (fun _=>some true) (J6 60))) af)) (st ns a mo m s .non (.val (.list (W.map aE))) (.val d8) (.val (.list (mine.map av))) (.val (.list (yours.map av))) (.val G))=some (.nx (st ns a mo m s (.val (.tuple ((jw (fun k=>dr ns (a+60+((k:Nat):Int)) 4) 0 yours).map aD))) (.val (.list (W.map aE))) (.val d8) (.val (.list (mine.map av))) (.val (.list (yours.map av))) (.val G))):=fun G=>by
  refine (ie (ρ':=st ns a mo m s .non (.val (.list (W.map aE))) (.val d8) (.val (.list (mine.map av))) (.val (.list (yours.map av))) (.val G)) (Ab hl ly rfl rfl rfl) rfl rfl ?_).trans rfl
  simp only[st,cJ,aW,zI,yU];rfl
 refine⟨_,_,W,?_,IJ (f:=fun k=>dr ns (a+56+((k:Nat):Int)) 4) (g:=fun k=>dr ns (a+60+((k:Nat):Int)) 4) m1.1 (by omega) s1.1 (by omega) (fun k=>?_) (fun k=>?_) pm py wr I.ris (by omega),⟨by rw[iu,eW pm,md,zD,zR];omega,by rw[iu,eW py,js,zD,zR];omega,fun w hw=>(by obtain⟨j,_,_,_,_,_,z⟩:=I.mem w hw;exact z),fun p hp=>?_,fun p hp=>?_,I.lem⟩⟩
 ·unfold J6 at t11 t4
  have tA:∀g,iw (oQ (fB (f2 KC (ae 2) (fC (.int 3)))) (fB (f2 cI (ah 3 ak (aa (ae 0) (aa (f2 aJ (ae 1) (fC (.int 64))) (aa (fC (.int 4)) af)))) (fC (.int 0))))) g cU [.val (cW ns),.val (.int a),.val (.int mo),.non,.non,.non,.non,.non,.non,.non,.non,.non]=some (.nx [.val (cW ns),.val (.int a),.val (.int mo),.non,.non,.non,.non,.non,.non,.non,.non,.non]):=fun g=>by
   by_cases c1:3 < mo
   ·have c2:¬ dr ns (a+64) 4=0:=fun z=>c ⟨c1,z⟩
    simp! [ll,e64,c1,c2,iD,wR,jP,gL,yO]
   ·simp! [ll,c1,wR,gL,yO]
  refine bA ?_
  show eI [.val (cW ns),.val (.int a),.val (.int mo),.non,.non,.non,.non,.non,.non,.non,.non,.non]=_
  unfold eI
  rw[ar (tA _),ar t5,ar t6,ar t7,ar tf,ar t9,ar t10,ar t11,ar (t4 _)]
  simp! [Bc,aX]
 ·have q:=dC (ns:=ns) (a+56+((k:Nat):Int)) 4 hl (by decide)
  exact⟨q.2.1,by omega⟩
 ·have q:=dC (ns:=ns) (a+60+((k:Nat):Int)) 4 hl (by decide)
  exact⟨q.2.1,by omega⟩
 ·obtain⟨i,hi⟩:=List.getElem?_of_mem hp
  obtain⟨r,_,rfl⟩:=iE _ hi
  have q:=dC (ns:=ns) (a+56+((0+i:Nat):Int)) 4 hl (by decide)
  simp only;omega
 ·obtain⟨i,hi⟩:=List.getElem?_of_mem hp
  obtain⟨r,_,rfl⟩:=iE _ hi
  have q:=dC (ns:=ns) (a+60+((0+i:Nat):Int)) 4 hl (by decide)
  simp only;omega
theorem zu{ns:List Int}{a mo:Int}(hl:ns.length<=63)(hm0:0<=mo):∃G T W,bX [cW ns,.int a,.int mo]=some (aX G T W)/\Wd G T W/\OU mo G T W:=by
 by_cases c:3 < mo/\dr ns (a+64) 4=0
 ·exact vb hl c.1 c.2
 ·exact v5 hl hm0 c
section
variable {G T:List Pl}{W:List Wy}
theorem KE(h:vx W):(W.map fun w=>[w.1,w.2.1]).Pairwise fun a b=>Dl.lexLt a b=true:=List.pairwise_map.mpr (h.imp fun hab=>P3 hab)
theorem G9(h:vx W):(W.map fun w=>[w.1,w.2.1]).Nodup:=(KE h).imp fun {a b} hab e=>by
 rw[e,gE] at hab
 cases hab
theorem Gd(h:vx W){m:List (List Int)}(hn:m.Nodup)(hm:∀r,r∈W.map (fun w=>[w.1,w.2.1])↔r∈m):W.map (fun w=>[w.1,w.2.1])=pR m :=
 BO ((List.perm_ext_iff_of_nodup (G9 h) hn).mpr hm) ((KE h).imp fun hab=>N0 hab)
theorem Wd.wok(h:Wd G T W):OG (aX G T W)=true:=by
 have hP:(W.map aE).map fO=W.map fun w=>[w.1,w.2.1]:=by rw[zM];rfl
 have hpg:∀i j:Int,[i,j]∈W.map (fun w=>[w.1,w.2.1])↔[i,j]∈mI 0 (G.map aD):=fun i j=>by
  rw[pd]
  constructor
  ·intro hm
   obtain⟨w,hw,e⟩:=List.mem_map.mp hm
   simp only[kW,and_true] at e
   have hr:=(h.wr w hw).1
   obtain⟨p,hp⟩:∃p,G[i.toNat]?=some p:=⟨G[i.toNat]'(by omega),zK (by omega)⟩
   refine⟨i.toNat,aD p,by rw[zO,hp];rfl,by omega,?_⟩
   rw[fZ,(h.gl _ p hp).mem_iff,uz,show ((i.toNat:Nat):Int)=i by omega]
   exact hm
  ·rintro⟨m,p,hp,rfl,hj⟩
   rw[zO] at hp
   obtain⟨p',hp',rfl⟩:=Option.map_eq_some_iff.mp hp
   rw[fZ,(h.gl m p' hp').mem_iff,uz] at hj
   rwa [jD]
 have hpt:∀i j:Int,[i,j]∈W.map (fun w=>[w.1,w.2.1])↔[j,i]∈mI 0 (T.map aD):=fun i j=>by
  rw[pd]
  constructor
  ·intro hm
   obtain⟨w,hw,e⟩:=List.mem_map.mp hm
   simp only[kW,and_true] at e
   have hr:=(h.wr w hw).2.1
   obtain⟨p,hp⟩:∃p,T[j.toNat]?=some p:=⟨T[j.toNat]'(by omega),zK (by omega)⟩
   refine⟨j.toNat,aD p,by rw[zO,hp];rfl,by omega,?_⟩
   rw[fZ,(h.tl _ p hp).mem_iff,uP,show ((j.toNat:Nat):Int)=j by omega]
   exact hm
  ·rintro⟨m,p,hp,rfl,hj⟩
   rw[zO] at hp
   obtain⟨p',hp',rfl⟩:=Option.map_eq_some_iff.mp hp
   rw[fZ,(h.tl m p' hp').mem_iff,uP] at hj
   rwa [jD]
 have two:∀ {r:List Int},r∈W.map (fun w=>[w.1,w.2.1])->∃i j,r=[i,j]:=fun hr=>by
  obtain⟨w,_,rfl⟩:=List.mem_map.mp hr
  exact⟨_,_,rfl⟩
 have ng:∀ (L:List Pl),(∀p∈L,p.2.Nodup)->(mI 0 (L.map aD)).Nodup:=fun L hL=>tR fun p hp=>by
  obtain⟨p',hp',rfl⟩:=List.mem_map.mp hp
  rw[fZ]
  exact hL p' hp'
 have e1:W.map (fun w=>[w.1,w.2.1])=pR (mI 0 (G.map aD)):=Gd h.wp (ng G fun p hp=>by
   obtain⟨i,hi,e⟩:=qQ hp
   exact (h.gl i p (by rw[zK hi,e])).nodup_iff.mpr (tL h.wp i)) fun r=>⟨fun hr=>by
   obtain⟨i,j,rfl⟩:=two hr
   exact (hpg i j).mp hr,fun hr=>by
   obtain⟨i,j,rfl⟩:=lh r hr
   exact (hpg i j).mpr hr⟩
 have e2:W.map (fun w=>[w.1,w.2.1])=pR ((mI 0 (T.map aD)).map List.reverse):=Gd h.wp (by
   exact List.pairwise_map.mpr (List.Pairwise.imp (fun {a b} hne e=>hne (List.reverse_inj.mp e)) (ng T fun p hp=>by
    obtain⟨i,hi,e⟩:=qQ hp
    exact (h.tl i p (by rw[zK hi,e])).nodup_iff.mpr (ue h.wp i)))) fun r=>⟨fun hr=>by
   obtain⟨i,j,rfl⟩:=two hr
   exact List.mem_map.mpr ⟨[j,i],(hpt i j).mp hr,rfl⟩,fun hr=>by
   obtain⟨r',hr',rfl⟩:=List.mem_map.mp hr
   obtain⟨i,j,rfl⟩:=lh r' hr'
   exact (hpt j i).mpr hr'⟩
 have hw:(W.map aE).all (jo G.length T.length)=true:=by
  rw[xG]
  intro x hx
  obtain⟨w,hw,rfl⟩:=List.mem_map.mp hx
  exact Ds (h.wr w hw)
 have hs:∀ {L:List Pl},1<=L.length->L.length<=4->nK (.tuple (L.map aD))=true:=fun {L} a b=>by
  simp only[nK,long,zD,zF,zJ];omega
 have h3:long 3 3 (aX G T W)=true:=rfl
 have hg:=h.gok
 have ht:=h.tok
 unfold OG Bj
 rw[h3,jL]
 simp only[aX,dg,wD,wF,hP,<- e1,<- e2,jP,Bool.and_true,ja,hs h.g1 h.g4,hs h.t1 h.t4,zD,hg,ht,hw,J7]
end
def sI(b:Bool):Int:=if b then 1 else 0
def bS(b:Bool)(w:Wy):Int:=if b then w.2.1 else w.1
def cT(b:Bool)(w:Wy):Int:=bS (!b) w
def aR(b:Bool)(G T:List Pl):List Pl:=if b then T else G
theorem dw(b:Bool)(G T:List Pl)(W:List Wy):aC (aX G T W) (.int (sI b))=some (.tuple ((aR b G T).map aD)):=by cases b<;>rfl
theorem fV(G T:List Pl)(W:List Wy):aC (aX G T W) (.int 2)=some (.tuple (W.map aE)):=rfl
theorem C5(b:Bool)(w:Wy):aC (aE w) (.int (sI b))=some (.int (bS b w)):=by cases b<;>rfl
theorem IV(w:Wy):aC (aE w) (.int 2)=some (.int w.2.2):=rfl
theorem Bw{ds:List D}{i:Nat}{d:D}(h:ds[i]?=some d):aC (.tuple ds) (.int ((i:Nat):Int))=some d:=by
 show uo ds (i:Nat)=_
 exact uG h
theorem E4{ds:List D}{i:Nat}{d:D}(h:ds[i]?=some d):aC (.list ds) (.int ((i:Nat):Int))=some d:=by
 show uo ds (i:Nat)=_
 exact uG h
theorem gD{α:Type}{f:α->D}{l:List α}{i:Nat}{x:α}(h:l[i]?=some x):aC (.tuple (l.map f)) (.int ((i:Nat):Int))=some (f x):=Bw (by rw[zO,h];rfl)
theorem Jv{α:Type}{f:α->D}{l:List α}{i:Nat}{x:α}(h:l[i]?=some x):aC (.list (l.map f)) (.int ((i:Nat):Int))=some (f x):=E4 (by rw[zO,h];rfl)
def O3(b:Bool)(W:List Wy)(p:Int):List Int:=(W.filter fun w=>decide (bS b w=p)).map (cT b)
theorem Wd.lik{G T:List Pl}{W:List Wy}(h:Wd G T W){b:Bool}{i:Nat}{p:Pl}(e:(aR b G T)[i]?=some p):p.2.Perm (O3 b W i):=by
 cases b
 ·exact h.gl i p e
 ·exact h.tl i p e
theorem lR{α:Type}(f:α->Int):∀ {l m:List α},l.Perm m->(l.Pairwise fun a b=>f a<=f b)->(m.Pairwise fun a b=>f a < f b)->l=m
 | l,[],hp,_,_=>hp.eq_nil
 | [],x::m,hp,_,_=>absurd hp.symm.eq_nil (by simp)
 | y::l,x::m,hp,h1,h2=>by
  rw[List.pairwise_cons] at h1 h2
  have e:y=x:=by
   have hx:x∈y::l:=hp.mem_iff.mpr zE
   rcases List.mem_cons.mp hx with z|hx
   ·exact z.symm
   ·have hy:y∈x::m:=hp.mem_iff.mp zE
    rcases List.mem_cons.mp hy with z|hy
    ·exact z
    ·have:=h1.1 x hx
     have:=h2.1 y hy
     omega
  subst e
  rw[lR f ((List.perm_cons y).mp hp) h1.2 h2.2]
def aS(W:List Wy)(i:Nat):Wy:=W.getD i (0,0,0)
theorem gQ{W:List Wy}{k:Nat}(hk:k < W.length):W[k]=aS W k:=by simp[aS,hk]
theorem uU{W:List Wy}{k:Nat}(hk:k < W.length):W[k]?=some (aS W k):=by rw[zK hk,gQ hk]
def own(b:Bool)(W:List Wy)(p:Int):List Nat:=(List.range W.length).filter fun i=>decide (bS b (aS W i)=p)
def Kc(b:Bool)(W:List Wy)(p o:Int):Nat:=W.findIdx fun w=>decide (bS b w=p)&&decide (cT b w=o)
def A0(b:Bool)(W:List Wy)(p:Int)(L:List Int):List Nat:=L.map (Kc b W p)
theorem mV{b:Bool}{W:List Wy}{p:Int}{i:Nat}:i∈own b W p↔i < W.length/\bS b (aS W i)=p:=by simp[own]
theorem map_range{α β:Type}(d:α)(f:α->β)(l:List α):(List.range l.length).map (fun i=>f (l.getD i d))=l.map f:=by
 apply jH
 ·simp
 ·intro i h1 h2
  have:i < l.length:=by simpa using h2
  simp[this]
theorem we{α:Type}(d:α)(q:α->Bool):∀ (l:List α),((List.range l.length).filter fun i=>q (l.getD i d)).map (fun i=>l.getD i d)=l.filter q:=by
 intro l
 have e:l=(List.range l.length).map fun i=>l.getD i d:=by
  have:=map_range d (fun x=>x) l
  simp at this
  simpa using this.symm
 conv=>rhs;rw[e]
 rw[kF]
 rfl
theorem CM(b:Bool)(W:List Wy)(p:Int):(own b W p).map (fun i=>cT b (aS W i))=O3 b W p:=by
 unfold own O3 aS
 rw[<- we (0,0,0) (fun w=>decide (bS b w=p)) W,zM]
 rfl
theorem Cs{W:List Wy}(h:vx W){i j:Nat}(hi:i < W.length)(hj:j < W.length)(h1:(aS W i).1=(aS W j).1)(h2:(aS W i).2.1=(aS W j).2.1):i=j:=by
 have e:∀k,k < W.length->W[k]?=some (aS W k):=fun k hk=>by simp[aS,hk]
 rcases Nat.lt_trichotomy i j with z|z|z
 ·have:=List.pairwise_iff_getElem.mp h i j hi hj z
  have a:=e i hi
  have b:=e j hj
  rw[zK hi] at a
  rw[zK hj] at b
  rw[xD a,xD b] at this
  rcases this with z|z<;>omega
 ·exact z
 ·have:=List.pairwise_iff_getElem.mp h j i hj hi z
  have a:=e i hi
  have b:=e j hj
  rw[zK hi] at a
  rw[zK hj] at b
  rw[xD a,xD b] at this
  rcases this with z|z<;>omega
theorem Au{W:List Wy}(h:vx W){b:Bool}{i j:Nat}(hi:i < W.length)(hj:j < W.length)(h1:bS b (aS W i)=bS b (aS W j))(h2:cT b (aS W i)=cT b (aS W j)):i=j:=by
 cases b
 ·exact Cs h hi hj h1 h2
 ·exact Cs h hi hj h2 h1
theorem Hr{W:List Wy}(h:vx W){b:Bool}{p:Int}{i:Nat}(hi:i∈own b W p):Kc b W p (cT b (aS W i))=i:=by
 obtain⟨hl,he⟩:=mV.mp hi
 have hw:W[i]=aS W i:=by simp[aS,hl]
 unfold Kc
 have hlt:W.findIdx (fun w=>decide (bS b w=p)&&decide (cT b w=cT b (aS W i))) < W.length:=by
  apply kL
  exact⟨W[i],qA _,by rw[hw];simp[he]⟩
 have hq:=List.findIdx_getElem (w:=hlt)
 rw[zF,zJ,zJ] at hq
 rw[gQ hlt] at hq
 exact Au h hlt hl (by rw[hq.1,he]) hq.2
theorem pQ{G T:List Pl}{W:List Wy}(h:Wd G T W){b:Bool}{i:Nat}{p:Pl}(e:(aR b G T)[i]?=some p):(A0 b W i p.2).Perm (own b W i):=by
 have h1:=(h.lik e).map (Kc b W i)
 rw[<- CM b W i,zM] at h1
 have e2:(own b W i).map (Kc b W i ∘ fun j=>cT b (aS W j))=own b W i:=by
  conv=>rhs;rw[<- List.map_id (own b W i)]
  exact yH fun j hj=>Hr h.wp hj
 rw[e2] at h1
 exact h1
theorem Ia{G T:List Pl}{W:List Wy}(h:Wd G T W){b:Bool}{i:Nat}{p:Pl}(e:(aR b G T)[i]?=some p){o:Int}(ho:o∈p.2):Kc b W i o < W.length/\bS b (aS W (Kc b W i o))=i/\cT b (aS W (Kc b W i o))=o:=by
 have hm:=(h.lik e).mem_iff.mp ho
 rw[<- CM b W i] at hm
 obtain⟨j,hj,rfl⟩:=List.mem_map.mp hm
 rw[Hr h.wp hj]
 obtain⟨h1,h2⟩:=mV.mp hj
 exact⟨h1,h2,rfl⟩
theorem tQ:∀ {L:List Int}{x:Int},x∈L->xj x L=some (L.findIdx fun o=>decide (o=x))
 | [],x,h=>by cases h
 | o::L,x,h=>by
  unfold xj
  by_cases e:o=x
  ·simp[e,vE]
  ·rw[yN e]
   have hx:x∈L:=(List.mem_cons.mp h).resolve_left fun z=>e z.symm
   rw[tQ hx]
   simp[vE,e]
abbrev nD(n:Nat):D:=.int ((n:Nat):Int)
local macro_rules|`(tactic| dsimp! [$ts,*])=>`(tactic| simp only[ae,fC,f1,f2,aa,af,ah,bR,kc,bO,iG,dM,fB,gB,cu,oQ,pM,dA,aW,cJ,BX,CC,CZ,C2,Ct,CO,zI,yU,xQ,yY,zA,zB,qG,zL,xK,Nat.reduceAdd,jD,reduceIte,yW,yV,$ts,*])
theorem wb{fz:List Nat}{fi:Dl.Env->Option (List D)}{tgt:aq->D->Option aq}{gb:aq->Option Out}{ρ ρ1:aq}{ds:List D}{o:Option Out}(h:fU tgt gb ds ρ1=o)(hi:fi (cJ ρ1)=some ds)(hh:hand fz 0 ρ=ρ1):hU fz fi tgt gb ρ=o:=by
 simp only[hU,hh,hi,zA,h]
theorem uv{i:Nat}{fz:List Nat}{f:Dl.Env->Option (List D)}{ρ ρ':aq}{ds:List D}(hh:hand fz 0 ρ=ρ')(hf:f (cJ ρ')=some ds):br i fz f ρ=some (.nx (ρ'.set i (.own ds))):=by
 simp only[br,hh,hf,zB]
theorem nM{i:Nat}{fz:List Nat}{f:Dl.Env->Option (List D)}{ρ:aq}{ds:List D}(hf:f (cJ ρ)=some ds)(hh:hand fz 0 ρ=ρ):br i fz f ρ=some (.nx (ρ.set i (.own ds))):=uv hh hf
theorem AH{i:Nat}{fz:List Nat}{f:Dl.Env->Option D}{ρ ρ':aq}(hh:hand fz 0 ρ=ρ'){d:D}(hA:f (aW ρ)=some d)(hF:f (cJ ρ')=some d)(hs:Dl.oZ d=false)(hr:ir d=false\/ρ'=ρ:=by first|exact .inr rfl|exact .inl rfl):Dl.ba i fz f ρ=some (.nx (ρ'.set i (.val d))):=by
 rcases hr with hr|hr
 ·simp only[Dl.ba,hA,zA,hs,yO,qP,hh,hF,zB,hr]
 ·subst hr
  simp only[Dl.ba,hA,zA,hs,yO,qP,hh,hF,zB,ite_self]
theorem call_of{n:Nat}{m:List D->Option D}{fs:Dl.Env->Option (List D)}{ρ:Dl.Env}{ds:List D}{d:D}(h:m ds=some d)(hf:fs ρ=some ds)(hn:ds.length=n):ah n m fs ρ=some d:=by
 unfold ah
 rw[hf,zA,yL hn,h]
theorem cons_of{f:Dl.Env->Option D}{fs:Dl.Env->Option (List D)}{ρ:Dl.Env}{d:D}{ds:List D}(h:f ρ=some d)(hs:fs ρ=some ds):aa f fs ρ=some (d::ds):=by
 unfold aa
 rw[h,hs]
 rfl
theorem dq{f:Dl.Env->Option D}{ρ:aq}{d:D}(hf:f (aW ρ)=some d):bu f ρ=some (.rt d):=by
 simp only[bu,hf,zB]
theorem cK{f:Dl.Env->Option D}{ρ:aq}{d:D}(hf:f (aW ρ)=some d):bH f ρ=some (.nx ρ):=by
 simp only[bH,hf,zB]
theorem bC{t:Dl.Env->Option Bool}{g:aq->Option Out}{ρ:aq}(h:t (aW ρ)=some false):iw t g cU ρ=some (.nx ρ):=by
 simp[iw,h,cU]
theorem fX{t:Dl.Env->Option Bool}{g g2:aq->Option Out}{ρ:aq}(h:t (aW ρ)=some true):iw t g g2 ρ=g ρ:=by
 simp[iw,h]
theorem BJ{g1 g2:aq->Option Out}{ρ:aq}{d:D}(h:g1 ρ=some (.rt d)):ay g1 g2 ρ=some (.rt d):=by
 simp only[ay,h,zA]
def lp{S:Type}(cont:S->Bool)(st:S->S):Nat->S->S
 | 0,s=>s
 | n+1,s=>if cont s=true then lp cont st n (st s) else s
theorem p5{W:List Wy}{i:Nat}(h:i < W.length):aC (.tuple (W.map aE)) (nD i)=some (aE (aS W i)):=gD (uU h)
theorem Fe(l:List D):bU [.list l]=some (.tuple l):=rfl
theorem Jl(l:List D):bz [.tuple l]=some (nD l.length):=rfl
theorem DV{n:Nat}(h:n<=1000):mD [nD n]=some ((List.range n).map nD):=by
 rw[zy (vt h),yF]
theorem BI{fs:Dl.Env->Option (List D)}{ρ:Dl.Env}{n:Nat}(h:fs ρ=some [nD n])(hn:n<=1000):cg fs ρ=some ((List.range n).map nD):=by
 unfold cg
 rw[h,zA,DV hn]
theorem sub_int(i j:Int):Dl.lJ (.int i) (.int j)=some (.int (i - j)):=qy i j
theorem FG{ds:List D}{k:Int}(h1:Ax k=true)(h2:ds.length * k.toNat<=sizeLine):Cz ds (.int k)=some (List.replicate k.toNat ds).flatten:=by
 simp only[Cz]
 rw[yL (And.intro h1 h2)]
def cV(W:List Wy)(off:List Int)(left:Int)(i:Nat):Int:=min (min (off.getD i 0) (aS W i).2.2) left
def HI(W:List Wy)(off:List Int)(s:Int×List Int)(i:Nat):Int×List Int:=(s.1 - cV W off s.1 i,s.2.set i (cV W off s.1 i))
def Eu(W:List Wy)(off:List Int)(amt:Int)(is:List Nat):List Int:=(is.foldl (HI W off) (amt,List.replicate W.length 0)).2
theorem Cf(W:List Wy)(off:List Int):∀ (is:List Nat) (s:Int×List Int),(is.foldl (HI W off) s).2.length=s.2.length
 | [],s=>rfl
 | i::is,s=>by rw[yI,Cf W off is];simp[HI]
theorem vn(W:List Wy)(off:List Int)(amt:Int)(is:List Nat):(Eu W off amt is).length=W.length:=by rw[Eu,Cf];simp
def bc(b:Bool)(G T:List Pl)(i:Nat):Pl:=(aR b G T).getD i (0,[])
def Cd(b:Bool)(G T:List Pl)(W:List Wy)(off s:List Int)(i:Nat):List Int:=List.zipWith (·+·) s (Eu W off (bc b G T i).1 (A0 b W i (bc b G T i).2))
def gh(b:Bool)(G T:List Pl)(W:List Wy)(off:List Int):List Int:=(List.range (aR b G T).length).foldl (Cd b G T W off) (List.replicate W.length 0)
theorem cR{b:Bool}{G T:List Pl}{i:Nat}(h:i < (aR b G T).length):(aR b G T)[i]?=some (bc b G T i):=by simp[bc,h]
theorem vi{b:Bool}{G T:List Pl}{W:List Wy}{off s:List Int}{i:Nat}(h:s.length=W.length):(Cd b G T W off s i).length=W.length:=by
 unfold Cd
 rw[List.length_zipWith,vn,h,Nat.min_self]
theorem lI{S α:Type}{f:S->α->S}(R:S->Prop):∀ {l:List α}{s:S},(∀s x,x∈l->R s->R (f s x))->R s->R (l.foldl f s)
 | [],s,_,h=>h
 | x::l,s,hh,h=>by
  rw[yI]
  exact lI (l:=l) R (fun s y hy=>hh s y (zC _ hy)) (hh s x zE h)
theorem Jp(b:Bool)(G T:List Pl)(W:List Wy)(off:List Int):(gh b G T W off).length=W.length :=
 lI (fun s:List Int=>s.length=W.length) (fun s i _ h=>vi h) (by simp)
theorem Wd.pl{G T:List Pl}{W:List Wy}(h:Wd G T W)(b:Bool):(aR b G T).length<=4:=by
 cases b
 ·exact h.g4
 ·exact h.t4
theorem dO{xs ys:List D}(h:(xs++ys).length<=4000):Dl.aJ (.tuple xs) (.tuple ys)=some (.tuple (xs++ys)):=by
 simp only[Dl.aJ,wz,IS,cN h,zB,Option.none_or,Option.some_or]
theorem pI{f:Dl.Env->Option D}{ρ:Dl.Env}{d:D}(h:f ρ=some d):aA (aa f af) ρ=some (.tuple [d]):=by
 simp only[aA,aa,af,h,zA,zB]
 rw[cN (by simp),zB]
theorem ax{g:D->D->Option D}{fa fb:Dl.Env->Option D}{ρ:Dl.Env}{a b c:D}(h:g a b=some c)(ha:fa ρ=some a)(hb:fb ρ=some b):f2 g fa fb ρ=some c:=by rw[Ka ha hb,h]
theorem vy{f g:Dl.Env->Option D}{ρ:Dl.Env}{ds:List D}{k:Nat}(h:f ρ=some (.tuple ds))(h2:g ρ=some (nD k)):gm dz f gF (rQ g) ρ=some (.tuple (ds.take k)):=by
 simp only[gm,h,gF,rQ,h2,zA,gI,zB,dz,EI]
theorem uB{f g:Dl.Env->Option D}{ρ:Dl.Env}{ds:List D}{k:Nat}(h:f ρ=some (.tuple ds))(h2:g ρ=some (nD k)):gm dz f (rQ g) gF ρ=some (.tuple (ds.drop k)):=by
 simp only[gm,h,gF,rQ,h2,zA,gI,zB,dz,GX]
theorem OX(d:D)(ds:List D):aC (.list (d::ds)) (.int 0)=some d:=E4 (i:=0) rfl
def yy(W:List Wy):List Int:=W.map fun w=>w.2.2
theorem CV(W:List Wy):(yy W).length=W.length:=by simp[yy]
def wy(G T:List Pl)(W:List Wy)(c:List Int):List Int:=gh true G T W (gh false G T W c)
def qR(G T:List Pl)(W:List Wy)(c:List Int)(k:Nat):Bool:=decide ((wy G T W c).getD k 0 < (gh false G T W c).getD k 0)
def HM(G T:List Pl)(W:List Wy)(c:List Int):Option (Nat×Int):=((List.range W.length).find? (qR G T W c)).map fun k=>(k,(wy G T W c).getD k 0)
theorem fK(l:List Int)(k:Nat)(v:Int)(i:Nat):(l.set k v).getD i 0=if k=i/\i < l.length then v else l.getD i 0:=by
 simp only[zG,xI]
 by_cases h:k=i
 ·subst h
  by_cases h2:k < l.length
  ·simp[h2]
  ·simp[h2]
 ·simp[h]
theorem w8{a b:List Int}{i:Nat}(ha:i < a.length)(hb:i < b.length):(List.zipWith (·+·) a b).getD i 0=a.getD i 0+b.getD i 0:=by
 rw[zG,zG,zG,List.getElem?_zipWith,zK ha,zK hb]
 rfl
def Off(off:List Int):Prop:=∀i,0<=off.getD i 0
def Qj(W:List Wy):Prop:=∀i,0<=(aS W i).2.2
theorem Wd.lim{G T:List Pl}{W:List Wy}(h:Wd G T W):Qj W:=fun i=>by
 by_cases hi:i < W.length
 ·have:=h.wr (aS W i) (by rw[<- gQ hi];exact qA hi)
  omega
 ·simp only[aS,zG]
  rw[List.getElem?_eq_none (by omega)]
  simp
theorem Wd.amt{G T:List Pl}{W:List Wy}(h:Wd G T W)(b:Bool)(i:Nat):0<=(bc b G T i).1:=by
 unfold bc
 rw[zG]
 cases e:(aR b G T)[i]? with
 | none=>simp
 | some p =>
  have hm:=qB e
  cases b
  ·exact (h.ga p hm).1
  ·exact (h.ta p hm).1
theorem MI{W:List Wy}{off:List Int}(ho:Off off)(hl:Qj W){amt:Int}(ha:0<=amt)(is:List Nat)(i:Nat):0<=(Eu W off amt is).getD i 0/\(Eu W off amt is).getD i 0<=off.getD i 0:=by
 have:=lI (l:=is) (f:=HI W off) (s:=(amt,List.replicate W.length 0)) (fun s=>0<=s.1/\∀i,0<=s.2.getD i 0/\s.2.getD i 0<=off.getD i 0) (fun s k _ ⟨h1,h2⟩=>by
  have ok:=ho k
  have lk:=hl k
  have v0:0<=cV W off s.1 k:=by unfold cV;omega
  have v1:cV W off s.1 k<=off.getD k 0:=by unfold cV;omega
  have v2:cV W off s.1 k<=s.1:=by unfold cV;omega
  refine⟨by simp only[HI];omega,fun i=>?_⟩
  simp only[HI,fK]
  split
  ·rename_i z
   rw[<- z.1]
   exact⟨v0,v1⟩
  ·exact h2 i) ⟨ha,fun i=>by
   have:=ho i
   have z:(List.replicate W.length (0:Int)).getD i 0=0:=by
    simp only[zG,yX]
    split<;>rfl
   simp only[z]
   omega⟩
 exact this.2 i
theorem Ck{W:List Wy}{off:List Int}{amt:Int}{is:List Nat}{i:Nat}(hi:i∉is):(Eu W off amt is).getD i 0=0:=by
 refine lI (l:=is) (f:=HI W off) (s:=(amt,List.replicate W.length 0)) (fun s=>s.2.getD i 0=0) (fun s k hk h=>?_) ?_
 ·simp only[HI,fK]
  have hki:¬ (k=i/\i < s.2.length):=fun z=>hi (z.1 ▸ hk)
  rw[yN hki,h]
 ·simp only[zG,yX]
  split<;>rfl
theorem vh{G T:List Pl}{W:List Wy}(h:Wd G T W){off:List Int}(ho:Off off)(b:Bool):∀ (n:Nat),n<=(aR b G T).length ->
  ((List.range n).foldl (Cd b G T W off) (List.replicate W.length 0)).length=W.length/\∀i,i < W.length->(0<=((List.range n).foldl (Cd b G T W off) (List.replicate W.length 0)).getD i 0/\((List.range n).foldl (Cd b G T W off) (List.replicate W.length 0)).getD i 0<=off.getD i 0)/\((n:Nat)<=bS b (aS W i)->((List.range n).foldl (Cd b G T W off) (List.replicate W.length 0)).getD i 0=0)
 | 0,_=>by
  refine⟨by simp,fun i hi=>?_⟩
  have:=ho i
  have z:((List.range 0).foldl (Cd b G T W off) (List.replicate W.length 0)).getD i 0=0:=by simp[zG,hi]
  rw[z]
  exact⟨by omega,fun _=>rfl⟩
 | n+1,hn=>by
  obtain⟨h1,h2⟩:=vh h ho b n (by omega)
  rw[vS,vD,yI,List.foldl_nil]
  generalize (List.range n).foldl (Cd b G T W off) (List.replicate W.length 0)=s at h1 h2
  refine⟨vi h1,fun i hi=>?_⟩
  obtain⟨h3,h4⟩:=h2 i hi
  have e:=cR (b:=b) (G:=G) (T:=T) (i:=n) (by omega)
  have hc:=MI ho h.lim (h.amt b n) (A0 b W n (bc b G T n).2) i
  have hz:(Cd b G T W off s n).getD i 0=s.getD i 0+(Eu W off (bc b G T n).1 (A0 b W n (bc b G T n).2)).getD i 0:=w8 (by omega) (by rw[vn];exact hi)
  rw[hz]
  by_cases he:bS b (aS W i)=n
  ·rw[h4 (by omega)]
   exact⟨by omega,fun z=>by omega⟩
  ·have hni:i∉A0 b W n (bc b G T n).2:=fun z=>he (mV.mp ((pQ h e).mem_iff.mp z)).2
   rw[Ck hni]
   exact⟨by omega,fun z=>by rw[h4 (by omega)];rfl⟩
theorem zj{l:List Int}{i:Nat}(h:l.length<=i):l.getD i 0=0:=by simp[zG,h]
theorem pb{G T:List Pl}{W:List Wy}(h:Wd G T W){off:List Int}(ho:Off off)(b:Bool):Off (gh b G T W off):=fun i=>by
 by_cases hi:i < W.length
 ·exact ((vh h ho b _ (yM _)).2 i hi).1.1
 ·rw[zj (by rw[Jp];omega)]
  exact xZ 0
theorem Ly{G T:List Pl}{W:List Wy}(h:Wd G T W){off:List Int}(ho:Off off)(b:Bool){i:Nat}(hi:i < W.length):(gh b G T W off).getD i 0<=off.getD i 0 :=
 ((vh h ho b _ (yM _)).2 i hi).1.2
theorem Kj{G T:List Pl}{W:List Wy}(h:Wd G T W){c:List Int}(ho:Off c){p:Nat×Int}(e:HM G T W c=some p):p.1 < W.length/\0<=p.2/\p.2 < c.getD p.1 0:=by
 unfold HM at e
 obtain⟨k,hk,rfl⟩:=Dl.ag e
 have hm:=jX hk
 have hq:=List.find?_some hk
 have hi:=List.mem_range.mp hm
 rw[qR,zJ] at hq
 have a:=Ly h ho false hi
 have b:=pb h (pb h ho false) true k
 exact⟨hi,b,by simp only;omega⟩
def JZ(c:List Int):Nat:=(c.map Int.toNat).sum
theorem BY:∀ {c:List Int}{k:Nat}{v:Int},0<=v->v < c.getD k 0->JZ (c.set k v) < JZ c
 | [],k,v,h0,h1=>by simp at h1;omega
 | x::c,0,v,h0,h1=>by
  simp at h1
  simp only[JZ,yV,zI,List.sum_cons]
  omega
 | x::c,k+1,v,h0,h1=>by
  have:=BY (c:=c) (k:=k) h0 (by simpa using h1)
  simp only[JZ,yW,zI,List.sum_cons] at this ⊢
  omega
theorem IP{G T:List Pl}{W:List Wy}(h:Wd G T W):Off (yy W):=fun i=>by
 have:=h.lim i
 by_cases hi:i < W.length
 ·simpa [yy,aS,zG,hi] using this
 ·rw[zj (by rw[CV];omega)]
  exact xZ 0
theorem CP{c:List Int}(h:Off c){k:Nat}{v:Int}(hv:0<=v):Off (c.set k v):=fun i=>by
 rw[fK]
 split
 ·exact hv
 ·exact h i
theorem AK(a:List Int):SeqAt.shaped (av a)=true :=
 (ik.tup (b:=a.length) (k:=0) (by simp) fun x hx=>by obtain⟨i,_,rfl⟩:=List.mem_map.mp hx;exact lF _).shaped (by decide)
theorem y0(a b:List Int):PyData.eqv (av a) (av b)=decide (a=b):=by
 rw[av,av,PyData.eqv,qb]
theorem eM{f:Dl.Env->Option D}{ρ:Dl.Env}{b:Bool}(h:f ρ=some (.bool b)):fB f ρ=some b:=by
 simp only[fB,h,zA,gB]
theorem jh{t:Dl.Env->Option Bool}{ρ:Dl.Env}{b:Bool}(h:t ρ=some b):cu t ρ=some (!b):=by
 simp only[cu,h,zB]
theorem Md{t u:Dl.Env->Option Bool}{ρ:Dl.Env}(h:t ρ=some false)(h2:u ρ=some false):pM t u ρ=some false:=by
 simp only[pM,h,zA,h2]
theorem FV(a b:List Int):dD (av a) (av b)=some (.bool (!decide (a=b))):=by
 simp only[dD,LW,AK,jO,xH,y0,zB]
theorem bp{i:Nat}{fz:List Nat}{f:Dl.Env->Option D}{ρ:aq}{d:D}(hA:f (aW ρ)=some d)(hF:f (cJ ρ)=some d)(hh:hand fz 0 ρ=ρ):Dl.ba i fz f ρ=some (.nx (ρ.set i (.val d))):=by
 cases hs:Dl.oZ d with
 | true=>exact lz hA hs
 | false=>exact AH hh hA hF hs (.inr rfl)
theorem FU{i:Nat}{fz:List Nat}{f:Dl.Env->Option D}{ρ:aq}{d:D}{ds:List D}(hA:f (aW ρ)=some d)(hF:f (cJ ρ)=some d)(hh:hand fz 0 ρ=ρ)(ho:ρ[i]?=some (.own ds))(hl:ds.length < 4000):lL i fz f ρ=some (.nx (ρ.set i (.own (ds++[d])))):=by
 have hz:ds.length < sizeLine:=zP hl (by decide)
 have hi:ki fz f ρ=some (d,ρ):=by
  unfold ki
  rw[hA,zA,hh,hF]
  cases Dl.oZ d<;>rfl
 simp only[lL,hi,zA,oi,ho,hz,xH,zB]
theorem dH{G T:List Pl}{W:List Wy}(h:Wd G T W):az [aX G T W]=some .none:=by
 have hw:aY [aX G T W]=some (.bool true):=by rw[mF h.fit (by decide),h.wok]
 have hc:(cu (fB (ah 1 aY (aa (ae 0) af)))) (aW [.val (aX G T W)])=some false:=jh (eM (call_of hw rfl rfl))
 have:dF [.val (aX G T W)]=some (.nx [.val (aX G T W)]):=by
  unfold dF
  rw[bC hc]
 show (dF [.val (aX G T W)]).map _=_
 rw[this]
 rfl
theorem fg{a b:Int}{i:Int}(h1:a<=i)(h2:i<=b):aF [.int i,.int a,.int b]=some .none:=by
 have hw:bf [.int i,.int a,.int b]=some (.bool true):=by rw[eX rfl];simp[whole,h1,h2]
 have hc:(cu (fB (ah 3 bf (aa (ae 0) (aa (ae 1) (aa (ae 2) af)))))) (aW [.val (.int i),.val (.int a),.val (.int b)])=some false:=jh (eM (call_of hw rfl rfl))
 have:ck [.val (.int i),.val (.int a),.val (.int b)]=some (.nx [.val (.int i),.val (.int a),.val (.int b)]):=by
  unfold ck
  rw[bC hc]
 show (ck [.val (.int i),.val (.int a),.val (.int b)]).map _=_
 rw[this]
 rfl
theorem di{n i:Int}(h1:0<=i)(h2:i<=n - 1):ao [.int i,.int n]=some .none:=by
 have:bQ [.val (.int i),.val (.int n)]=some (.nx [.val (.int i),.val (.int n)]):=by
  unfold bQ
  exact cK (call_of (fg h1 h2) (cons_of rfl (cons_of rfl (cons_of (ax (sub_int n 1) rfl rfl) rfl))) rfl)
 show (bQ [.val (.int i),.val (.int n)]).map _=_
 rw[this]
 rfl
theorem ni(b:Bool):dv [.int (sI b)]=some .none:=by
 have:d9 [.val (.int (sI b))]=some (.nx [.val (.int (sI b))]):=by
  unfold d9
  exact cK (call_of (di (n:=2) (i:=sI b) (by cases b<;>decide) (by cases b<;>decide)) rfl rfl)
 show (d9 [.val (.int (sI b))]).map _=_
 rw[this]
 rfl
abbrev Sp:=List (Nat×Int)×List Int
def QK(G T:List Pl)(W:List Wy)(s:Sp):Bool:=(HM G T W s.2).isSome
def spS(G T:List Pl)(W:List Wy)(s:Sp):Sp:=match HM G T W s.2 with|some p=>(s.1++[p],s.2.set p.1 p.2)|none=>s
def low(c:List Int)(p:Nat×Int):List Int:=c.set p.1 p.2
structure Oz(W:List Wy)(s:Sp):Prop where
 len:s.2.length=W.length
 off:Off s.2
 eq:s.2=s.1.foldl low (yy W)
 bd:s.1.length+JZ s.2<=JZ (yy W)
 mem:∀p∈s.1,p.1 < W.length
theorem Oz.start{G T:List Pl}{W:List Wy}(h:Wd G T W):Oz W ([],yy W):=⟨CV W,IP h,rfl,by simp,fun p hp=>by cases hp⟩
theorem Me{G T:List Pl}{W:List Wy}{s:Sp}{p:Nat×Int}(e:HM G T W s.2=some p):spS G T W s=(s.1++[p],s.2.set p.1 p.2):=by
 unfold spS
 rw[e]
theorem Oz.step{G T:List Pl}{W:List Wy}(h:Wd G T W){s:Sp}(i:Oz W s){p:Nat×Int}(e:HM G T W s.2=some p):Oz W (spS G T W s)/\JZ (spS G T W s).2 < JZ s.2:=by
 obtain⟨h1,h2,h3⟩:=Kj h i.off e
 have hm:=BY h2 h3
 rw[Me e]
 refine⟨⟨by simp[i.len],CP i.off h2,?_,?_,fun q hq=>?_⟩,hm⟩
 ·rw[vD,<- i.eq]
  rfl
 ·have:=i.bd
  simp only[zN,xC]
  omega
 ·rcases List.mem_append.mp hq with z|z
  ·exact i.mem q z
  ·rw[yJ] at z
   rw[z]
   exact h1
def fin(G T:List Pl)(W:List Wy):Sp:=lp (QK G T W) (spS G T W) Rf.turns ([],yy W)
def Qt(w:Wy):Wy:=(w.2.1,w.1,w.2.2)
structure Ord(W:List Wy)(π:List Nat):Prop where
 perm:π.Perm (List.range W.length)
 up:π.Pairwise fun i j=>(aS W i).2.1 < (aS W j).2.1\/((aS W i).2.1=(aS W j).2.1/\(aS W i).1 < (aS W j).1)
def Kx(W:List Wy)(π:List Nat):List Wy:=π.map fun i=>Qt (aS W i)
section
variable {W:List Wy}{π π':List Nat}{P:List Int}{G T:List Pl}
theorem Ord.len(o:Ord W π):π.length=W.length:=by rw[o.perm.length_eq,zR]
theorem Ord.lt(o:Ord W π){k:Nat}(hk:k < W.length):π.getD k 0 < W.length:=by
 have h:k < π.length:=by rw[o.len];exact hk
 have:=o.perm.mem_iff.mp (qA h)
 rw[zG,zK h]
 simpa using this
theorem Ord.ex(o:Ord W π){i:Nat}(hi:i < W.length):∃k,k < W.length/\π.getD k 0=i:=by
 have:i∈π:=o.perm.mem_iff.mpr (by simpa using hi)
 obtain⟨k,hk,e⟩:=qQ this
 exact⟨k,by rw[<- o.len];exact hk,by rw[zG,zK hk];exact e⟩
theorem HY(o:Ord W π):(Kx W π).length=W.length:=by simp[Kx,o.len]
theorem EO(o:Ord W π){k:Nat}(hk:k < W.length):aS (Kx W π) k=Qt (aS W (π.getD k 0)):=by
 have h:k < π.length:=by rw[o.len];exact hk
 simp[aS,Kx,h,zG]
theorem Ord.ris(o:Ord W π):vx (Kx W π):=by
 unfold vx Kx
 rw[jE]
 exact o.up
theorem LB(h:vx W){i j:Nat}(hi:i < W.length)(hj:j < W.length)(e:(aS W i).1 < (aS W j).1\/((aS W i).1=(aS W j).1/\(aS W i).2.1 < (aS W j).2.1)):i < j:=by
 rcases Nat.lt_or_ge i j with q|q
 ·exact q
 ·exfalso
  rcases Nat.eq_or_lt_of_le q with q|q
  ·subst q;omega
  ·have:=List.pairwise_iff_getElem.mp h j i hj hi q
   rw[gQ hi,gQ hj] at this
   omega
theorem BL{l:List Nat}{n:Nat}(p:l.Perm (List.range n))(h:l.Pairwise (· < ·)):l=List.range n:=by
 refine lR (fun i=>((i:Nat):Int)) p (h.imp fun {a b} q=>by omega) (List.pairwise_lt_range.imp fun {a b} q=>by omega)
theorem map_getD(l:List Nat):(List.range l.length).map (fun k=>l.getD k 0)=l:=by
 apply jH
 ·simp
 ·intro i h1 h2
  simp[h2]
theorem Ord.back(h:vx W)(o:Ord W π)(o':Ord (Kx W π) π'):π'.map (fun k=>π.getD k 0)=List.range W.length:=by
 have hl:(Kx W π).length=W.length:=HY o
 refine BL ?_ ?_
 ·have:=(o'.perm.map fun k=>π.getD k 0)
  rw[hl,<- o.len,map_getD] at this
  exact this.trans o.perm
 ·rw[jE]
  refine o'.up.imp_of_mem fun {i j} hi hj q=>?_
  have hi':i < W.length:=by have:=o'.perm.mem_iff.mp hi;rw[hl] at this;simpa using this
  have hj':j < W.length:=by have:=o'.perm.mem_iff.mp hj;rw[hl] at this;simpa using this
  rw[EO o hi',EO o hj'] at q
  exact LB h (o.lt hi') (o.lt hj') q
def OF(b:Bool)(W:List Wy)(P:List Int)(p:Int):Int:=((own b W p).map fun i=>P.getD i 0).sum
end
def Ll(L:List Int)(x:Int):Nat:=L.findIdx fun o=>decide (o=x)
section
variable {W:List Wy}{π π':List Nat}{P:List Int}{G T:List Pl}
theorem Wd.end_pl(h:Wd G T W)(b:Bool){k:Nat}(hk:k < W.length):0<=bS b (aS W k)/\(bS b (aS W k)).toNat < (aR b G T).length/\((bS b (aS W k)).toNat:Int)=bS b (aS W k):=by
 have:=h.wr (aS W k) (by rw[<- gQ hk];exact qA _)
 cases b
 ·simp only[bS,aR,yO,qP];omega
 ·simp only[bS,aR,xH];omega
structure Pn(G T:List Pl)(W:List Wy)(P:List Int):Prop where
 len:P.length=W.length
 bd:∀k,k < W.length->0<=P.getD k 0/\P.getD k 0<=(aS W k).2.2
 am:∀ (b:Bool) (i:Nat),i < (aR b G T).length->OF b W P i<=(bc b G T i).1
end
section
variable {W:List Wy}{G T:List Pl}{off:List Int}
theorem Cy(h:Wd G T W)(b:Bool):∀ (n:Nat),n<=(aR b G T).length ->
  ((List.range n).foldl (Cd b G T W off) (List.replicate W.length 0)).length=W.length/\∀k,k < W.length ->
   ((List.range n).foldl (Cd b G T W off) (List.replicate W.length 0)).getD k 0=if bS b (aS W k) < n then (Eu W off (bc b G T (bS b (aS W k)).toNat).1 (A0 b W (bS b (aS W k)).toNat (bc b G T (bS b (aS W k)).toNat).2)).getD k 0 else 0
 | 0,_=>by
  refine⟨by simp,fun k hk=>?_⟩
  obtain⟨h1,_,_⟩:=h.end_pl b hk
  rw[yN (by omega)]
  simp[zG,hk]
 | n+1,hn=>by
  obtain⟨h1,h2⟩:=Cy h b n (by omega)
  rw[vS,vD,yI,List.foldl_nil]
  generalize (List.range n).foldl (Cd b G T W off) (List.replicate W.length 0)=s at h1 h2
  refine⟨vi h1,fun k hk=>?_⟩
  have hz:(Cd b G T W off s n).getD k 0=s.getD k 0+(Eu W off (bc b G T n).1 (A0 b W n (bc b G T n).2)).getD k 0:=w8 (by omega) (by rw[vn];exact hk)
  rw[hz,h2 k hk]
  obtain⟨g1,_,_⟩:=h.end_pl b hk
  have e:=cR (b:=b) (G:=G) (T:=T) (i:=n) (by omega)
  by_cases he:bS b (aS W k)=n
  ·have hn':(bS b (aS W k)).toNat=n:=by omega
   rw[yN (by omega),yL (by omega),hn']
   omega
  ·have hni:k∉A0 b W n (bc b G T n).2:=fun z=>he (mV.mp ((pQ h e).mem_iff.mp z)).2
   rw[Ck hni]
   by_cases hlt:bS b (aS W k) < n
   ·rw[yL hlt,yL (by omega)];omega
   ·rw[yN hlt,yN (by omega)];rfl
theorem ME(h:Wd G T W)(b:Bool){k:Nat}(hk:k < W.length):(gh b G T W off).getD k 0=(Eu W off (bc b G T (bS b (aS W k)).toNat).1 (A0 b W (bS b (aS W k)).toNat (bc b G T (bS b (aS W k)).toNat).2)).getD k 0:=by
 have:=(Cy (off:=off) h b _ (yM _)).2 k hk
 obtain⟨_,h2,h3⟩:=h.end_pl b hk
 rw[yL (by omega)] at this
 exact this
end
def Mf(G T:List Pl)(W:List Wy)(P:List Int):Bool :=
 ((List.range G.length).all fun i=>decide (OF false W P i<=(bc false G T i).1))&&((List.range T.length).all fun i=>decide (OF true W P i<=(bc true G T i).1))
def zs(n:Nat):List Int:=List.replicate n 0
section
variable {W:List Wy}{G T:List Pl}{d:Nat->Int}
theorem F0{P:List Int}:Mf G T W P=true↔∀ (b:Bool) (i:Nat),i < (aR b G T).length->OF b W P i<=(bc b G T i).1:=by
 unfold Mf
 rw[zF,xG,xG]
 constructor
 ·rintro⟨h1,h2⟩ b i hi
  cases b
  ·exact yQ (h1 i (by simpa [aR] using hi))
  ·exact yQ (h2 i (by simpa [aR] using hi))
 ·intro h
  exact⟨fun i hi=>zZ (h false i (by simpa [aR] using hi)),fun i hi=>zZ (h true i (by simpa [aR] using hi))⟩
theorem Pn.fit{P:List Int}(p:Pn G T W P):Mf G T W P=true:=F0.mpr p.am
end
theorem nV{g:List D->Option D}{f:Dl.Env->Option D}{ρ:Dl.Env}{d:D}(h:f ρ=some d):bR g (aa f af) ρ=g [d]:=by
 simp only[bR,aa,af,h,zB,zA]
theorem gw{α:Type}{k:α->D}{f:Dl.Env->Option D}{ρ:Dl.Env}{l:List α}(h:f ρ=some (.tuple (l.map k))):bR bz (aa f af) ρ=some (nD l.length):=by
 rw[nV h,Jl,zD]
theorem vq{W:List Wy}{k:Nat}(hk:k < W.length):aS W k∈W:=gQ hk ▸ qA hk
section
variable {G T:List Pl}{W:List Wy}{P:List Int}
end
theorem tup_is{fs:Dl.Env->Option (List D)}{ρ:Dl.Env}{ds:List D}(h:fs ρ=some ds)(hl:ds.length<=1000):aA fs ρ=some (.tuple ds):=by
 simp only[aA,h,zA,cN (show ds.length<=4000 by omega),zB]
section
variable {G T:List Pl}{W:List Wy}{P:List Int}
theorem tV{cs:List Nat}{fi:Dl.Env->Option (List D)}{te:Dl.Env->Option D}{ρ:Dl.Env}{is:List Nat}{f:Nat->D}(hfi:fi ρ=some (is.map nD))(hl:is.length<=1000)(hh:∀i∈is,te (some (nD i)::cs.map fun j=>(ρ[j]?).getD none)=some (f i)):aN 1 cs fi (fG 0) (fun _=>some true) te ρ=some (is.map f):=by
 rw[dy (h:=fun d=>f (mC d).toNat) hfi (by rw[zD];omega) fun d hd=>?_]
 ·rw[zM]
  refine jC some (yH fun i _=>?_)
  simp[mC]
 ·obtain⟨i,hi,rfl⟩:=List.mem_map.mp hd
  rw[hh i hi]
  simp[mC]
end
section
variable {G T:List Pl}{W:List Wy}{P:List Int}
end
theorem wg{tgt:aq->D->Option aq}{gb:aq->Option Out}(f:Nat->D)(R:Nat->aq->Prop):∀ (n k:Nat) (ρ:aq),
  (∀j ρ,k<=j->j < k+n->R j ρ->∃ρ1 ρ2,tgt ρ (f j)=some ρ1/\gb ρ1=some (.nx ρ2)/\R (j+1) ρ2)->R k ρ->∃ρ',fU tgt gb ((List.range' k n).map f) ρ=some (.nx ρ')/\R (k+n) ρ'
 | 0,k,ρ,_,h=>⟨ρ,rfl,h⟩
 | n+1,k,ρ,hh,h=>by
  obtain⟨ρ1,ρ2,e1,e2,h2⟩:=hh k ρ (yM _) (by omega) h
  obtain⟨ρ',e3,h3⟩:=wg f R n (k+1) ρ2 (fun j ρ a b=>hh j ρ (by omega) (by omega)) h2
  refine⟨ρ',?_,by rw[show k+(n+1)=k+1+n by omega];exact h3⟩
  rw[vI,zI,fU,e1,zA,e2]
  exact e3
section
variable {G T:List Pl}{W:List Wy}{P:List Int}
end
section
variable {ns:List Int}{G T:List Pl}{W:List Wy}{at':Int}
theorem JF{a b:List Int}(h:a.length+b.length<=1000):Dl.aJ (av a) (av b)=some (av (a++b)):=by
 unfold av
 rw[dO (by simp;omega),jA]
end
section
variable {G T:List Pl}{W:List Wy}
theorem ka:∀ {l:List D},(∀d∈l,PyData.eqv d d=true)->PyData.eqvAll l l=true
 | [],_=>by simp[PyData.eqvAll]
 | d::l,h=>by
  rw[PyData.eqvAll,h d zE,ka fun x hx=>h x (zC _ hx)]
  rfl
theorem lC{l:List D}(h:∀d∈l,PyData.eqv d d=true):PyData.eqv (.tuple l) (.tuple l)=true:=by
 rw[PyData.eqv,ka h]
theorem AE(a:List Int):PyData.eqv (av a) (av a)=true:=by rw[y0];simp
theorem EF(a:Int):PyData.eqv (.int a) (.int a)=true:=by
 have:=AE [a]
 rw[av,PyData.eqv,zI,yU,PyData.eqvAll] at this
 simp only[zF] at this
 exact this.1
theorem BU(p:Pl):PyData.eqv (aD p) (aD p)=true:=lC fun d hd=>by
 rcases List.mem_cons.mp hd with rfl|hd
 ·exact EF _
 ·rw[yJ] at hd
  subst hd
  exact AE _
theorem IL(w:Wy):PyData.eqv (aE w) (aE w)=true:=AE [w.1,w.2.1,w.2.2]
theorem LK(G T:List Pl)(W:List Wy):PyData.eqv (aX G T W) (aX G T W)=true:=lC fun d hd=>by
 rcases List.mem_cons.mp hd with rfl|hd
 ·exact lC fun d hd=>by obtain⟨p,_,rfl⟩:=List.mem_map.mp hd;exact BU p
 rcases List.mem_cons.mp hd with rfl|hd
 ·exact lC fun d hd=>by obtain⟨p,_,rfl⟩:=List.mem_map.mp hd;exact BU p
 ·rw[yJ] at hd
  subst hd
  exact lC fun d hd=>by obtain⟨p,_,rfl⟩:=List.mem_map.mp hd;exact IL p
theorem nh(h:Wd G T W):dD (aX G T W) (aX G T W)=some (.bool false):=by
 have hs:SeqAt.shaped (aX G T W)=true:=h.fit.shaped (by decide)
 simp only[dD,LW,hs,jO,xH,LK,zB,xY]
theorem j6(h:Wd G T W):aY [aX G T W]=some (.bool true):=by rw[mF h.fit (by decide),h.wok]
end
section
variable {W:List Wy}{G T:List Pl}{P off:List Int}
end
def sm(l:List Nat)(f:Nat->Int):Int:=(l.map f).sum
theorem gO(q:Nat)(l:List Nat)(f:Nat->Int):sm (q::l) f=f q+sm l f:=by simp[sm]
theorem uq(q:Nat)(f:Nat->Int):sm [q] f=f q:=by simp[sm]
theorem kr:∀ {l:List Nat}{f g:Nat->Int},(∀q∈l,f q=g q)->sm l f=sm l g
 | [],_,_,_=>rfl
 | q::l,f,g,h=>by rw[gO,gO,h q zE,kr fun x hx=>h x (zC _ hx)]
theorem EJ:∀ {l:List Nat}{f g:Nat->Int},(∀q∈l,f q<=g q)->sm l f<=sm l g
 | [],_,_,_=>xZ _
 | q::l,f,g,h=>by
  have h1:=h q zE
  have h2:=EJ (l:=l) fun x hx=>h x (zC _ hx)
  rw[gO,gO]
  omega
theorem Na{l:List Nat}{f:Nat->Int}(h:∀q∈l,0<=f q):0<=sm l f:=by
 have:sm l (fun _=>0)=0:=by induction l with
  | nil=>rfl
  | cons q l ih=>rw[gO,ih fun x hx=>h x (zC _ hx)];rfl
 rw[<- this]
 exact EJ h
def ch(m:Nat->Int):Int->List Nat->Nat->Int
 | _,[],_=>0
 | a,q::r,k=>if k=q then min (m q) a else ch m (a - min (m q) a) r k
theorem cD(m:Nat->Int)(a:Int)(q:Nat)(r:List Nat):ch m a (q::r) q=min (m q) a:=by simp[ch]
theorem cF{m:Nat->Int}{a:Int}{q k:Nat}{r:List Nat}(h:k≠q):ch m a (q::r) k=ch m (a - min (m q) a) r k:=by simp[ch,h]
theorem KD{m:Nat->Int}:∀ {a:Int}{l:List Nat},(∀q∈l,0<=m q)->0<=a->∀k,0<=ch m a l k/\ch m a l k<=a/\(k∈l->ch m a l k<=m k)
 | a,[],_,ha,k=>⟨xZ _,ha,fun h=>by cases h⟩
 | a,q::r,hm,ha,k=>by
  have h0:=hm q zE
  by_cases e:k=q
  ·subst e
   rw[cD]
   exact⟨by omega,by omega,fun _=>by omega⟩
  ·rw[cF e]
   obtain⟨h1,h2,h3⟩:=KD (m:=m) (a:=a - min (m q) a) (l:=r) (fun x hx=>hm x (zC _ hx)) (by omega) k
   refine⟨h1,by omega,fun hk=>?_⟩
   rcases List.mem_cons.mp hk with z|z
   ·exact absurd z e
   ·exact h3 z
theorem Co{m:Nat->Int}:∀ {a a':Int}{l:List Nat}{k:Nat},a<=a'->ch m a l k<=ch m a' l k
 | _,_,[],_,_=>xZ _
 | a,a',q::r,k,h=>by
  by_cases e:k=q
  ·subst e
   rw[cD,cD]
   omega
  ·rw[cF e,cF e]
   exact Co (by omega)
theorem rE{m m':Nat->Int}:∀ {a:Int}{l:List Nat},(∀q∈l,m q=m' q)->∀k,ch m a l k=ch m' a l k
 | _,[],_,_=>rfl
 | a,q::r,h,k=>by
  have h0:=h q zE
  by_cases e:k=q
  ·subst e
   rw[cD,cD,h0]
  ·rw[cF e,cF e,h0]
   exact rE (fun x hx=>h x (zC _ hx)) k
def up:List Nat->Nat->List Nat
 | [],_=>[]
 | q::r,k=>if k=q then [q] else q::up r k
theorem uQ(q:Nat)(r:List Nat):up (q::r) q=[q]:=by simp[up]
theorem wc{q k:Nat}{r:List Nat}(h:k≠q):up (q::r) k=q::up r k:=by simp[up,h]
theorem mG:∀ {l:List Nat}{k q:Nat},q∈up l k->q∈l
 | [],_,_,h=>by cases h
 | x::l,k,q,h=>by
  by_cases e:k=x
  ·subst e
   rw[uQ,yJ] at h
   exact h ▸ zE
  ·rw[wc e] at h
   rcases List.mem_cons.mp h with z|z
   ·exact z ▸ zE
   ·exact zC _ (mG z)
theorem Ci{m:Nat->Int}:∀ {a:Int}{l:List Nat}{k:Nat},l.Nodup->k∈l->ch m a l k < m k->sm (up l k) (ch m a l)=a
 | a,q::r,k,hn,hk,h=>by
  rw[kU] at hn
  by_cases e:k=q
  ·subst e
   rw[cD] at h
   rw[uQ,uq,cD]
   omega
  ·rw[cF e] at h
   have hk':k∈r:=by
    rcases List.mem_cons.mp hk with z|z
    ·exact absurd z e
    ·exact z
   have ih:=Ci hn.2 hk' h
   rw[wc e,gO,cD,kr (g:=ch m (a - min (m q) a) r) fun x hx=>cF fun z=>hn.1 (z ▸ mG hx),ih]
   omega
theorem Kw{m:Nat->Int}:∀ {a:Int}{l:List Nat}{k:Nat},l.Nodup->(∀x∈l,0<=m x)->0<=a->k∈l->sm (up l k) (ch m a l)=min a (sm (up l k) m)
 | a,q::r,k,hn,hm,ha,hk=>by
  rw[kU] at hn
  have h0:=hm q zE
  have hr:∀y∈r,0<=m y:=fun y hy=>hm y (zC _ hy)
  by_cases e:k=q
  ·subst e
   rw[uQ,uq,uq,cD]
   omega
  ·have hk':k∈r:=by
    rcases List.mem_cons.mp hk with z|z
    ·exact absurd z e
    ·exact z
   have ih:=Kw (m:=m) (a:=a - min (m q) a) hn.2 hr (by omega) hk'
   have hs:=Na (l:=up r k) fun y hy=>hr y (mG hy)
   rw[wc e,gO,gO,cD,kr (g:=ch m (a - min (m q) a) r) fun x hx=>cF fun z=>hn.1 (z ▸ mG hx),ih]
   omega
theorem Gr{m m':Nat->Int}{p:Nat}:∀ {a:Int}{l:List Nat},l.Nodup->(∀x∈l,x≠p->m' x=m x)->m' p<=ch m a l p->(∀k∈l,k≠p->ch m a l k<=ch m' a l k)/\(p∈l->ch m' a l p=m' p)
 | _,[],_,_,_=>⟨fun _ h=>absurd h yE,fun h=>absurd h yE⟩
 | a,q::r,hn,h,hp=>by
  rw[kU] at hn
  by_cases e:q=p
  ·subst e
   rw[cD] at hp
   have hs:∀x∈r,m' x=m x:=fun x hx=>h x (zC _ hx) fun z=>hn.1 (z ▸ hx)
   refine⟨fun k hk hne=>?_,fun _=>?_⟩
   ·rw[cF hne,cF hne,rE (m:=m') (m':=m) hs]
    exact Co (by omega)
   ·rw[cD];omega
  ·have hq:=h q zE e
   rw[cF (jM e)] at hp
   obtain⟨i1,i2⟩:=Gr (m:=m) (m':=m') (p:=p) (a:=a - min (m q) a) hn.2 (fun x hx=>h x (zC _ hx)) hp
   refine⟨fun k hk hne=>?_,fun hk=>?_⟩
   ·by_cases e2:k=q
    ·subst e2
     rw[cD,cD,hq]
     exact xZ _
    ·rw[cF e2,cF e2,hq]
     rcases List.mem_cons.mp hk with z|z
     ·exact absurd z e2
     ·exact i1 k z hne
   ·rw[cF (jM e),hq]
    rcases List.mem_cons.mp hk with z|z
    ·exact absurd z.symm e
    ·exact i2 z
def aP(b:Bool)(W:List Wy)(k:Nat):Nat:=(bS b (aS W k)).toNat
def lst(b:Bool)(G T:List Pl)(W:List Wy)(i:Nat):List Nat:=A0 b W i (bc b G T i).2
def amt(b:Bool)(G T:List Pl)(i:Nat):Int:=(bc b G T i).1
def mm(W:List Wy)(off:List Int)(q:Nat):Int:=min (off.getD q 0) (aS W q).2.2
def vl(P:List Int)(q:Nat):Int:=P.getD q 0
section
variable {G T:List Pl}{W:List Wy}{P X c off:List Int}{b:Bool}{i k q:Nat}
theorem eH(h:Wd G T W)(b:Bool)(hk:k < W.length):aP b W k < (aR b G T).length:=(h.end_pl b hk).2.1
theorem lb(h:Wd G T W)(hi:i < (aR b G T).length):(lst b G T W i).Perm (own b W i):=pQ h (cR hi)
theorem iC(h:Wd G T W)(hi:i < (aR b G T).length):(lst b G T W i).Nodup:=(lb h hi).nodup_iff.mpr (List.nodup_range.filter _)
theorem nF(h:Wd G T W)(hi:i < (aR b G T).length):q∈lst b G T W i↔q < W.length/\aP b W q=i:=by
 rw[(lb h hi).mem_iff,mV]
 constructor
 ·rintro⟨h1,h2⟩
  exact⟨h1,by unfold aP;rw[h2];simp⟩
 ·rintro⟨h1,h2⟩
  have:=(h.end_pl b h1).2.2
  unfold aP at h2
  rw[h2] at this
  exact⟨h1,this.symm⟩
theorem gc(h:Wd G T W)(b:Bool)(hk:k < W.length):k∈lst b G T W (aP b W k):=(nF h (eH h b hk)).mpr ⟨hk,rfl⟩
theorem J8(h:Wd G T W)(ho:Off off)(q:Nat):0<=mm W off q:=by
 have h1:=ho q
 have h2:=h.lim q
 unfold mm
 omega
theorem Gf:∀ (is:List Nat) (a:Int) (l:List Int),is.Nodup->(∀i∈is,i < l.length)->∀k,(is.foldl (HI W off) (a,l)).2.getD k 0=if k∈is then ch (mm W off) a is k else l.getD k 0
 | [],a,l,_,_,k=>by simp
 | q::is,a,l,hn,hl,k=>by
  rw[kU] at hn
  have ih:=Gf is (a - cV W off a q) (l.set q (cV W off a q)) hn.2 (fun i hi=>by rw[yB];exact hl i (zC _ hi)) k
  rw[yI]
  show (is.foldl (HI W off) (a - cV W off a q,l.set q (cV W off a q))).2.getD k 0=_
  rw[ih]
  have hq:=hl q zE
  by_cases e:k=q
  ·subst e
   rw[yN hn.1,yL zE,cD,fK,yL ⟨rfl,hq⟩]
   rfl
  ·rw[cF e]
   by_cases hk:k∈is
   ·rw[yL hk,yL (zC _ hk)]
    rfl
   ·rw[yN hk,yN (by rw[zQ,not_or];exact⟨e,hk⟩),fK,yN (fun z=>e z.1.symm)]
theorem n6(h:Wd G T W)(b:Bool)(off:List Int)(hk:k < W.length):(gh b G T W off).getD k 0=ch (mm W off) (amt b G T (aP b W k)) (lst b G T W (aP b W k)) k:=by
 have hi:=eH h b hk
 rw[ME h b hk]
 show (Eu W off (amt b G T (aP b W k)) (lst b G T W (aP b W k))).getD k 0=_
 unfold Eu
 rw[Gf _ _ _ (iC h hi) (fun j hj=>by rw[xM];exact ((nF h hi).mp hj).1),yL (gc h b hk)]
theorem ES(h:Wd G T W)(b:Bool)(i:Nat):0<=amt b G T i:=h.amt b i
def Fl(b:Bool)(G T:List Pl)(W:List Wy)(P:List Int)(k:Nat):Prop:=sm (up (lst b G T W (aP b W k)) k) (vl P)=amt b G T (aP b W k)
theorem B0(e:HM G T W c=some (k,q')):k < W.length/\q'=(wy G T W c).getD k 0/\(wy G T W c).getD k 0 < (gh false G T W c).getD k 0:=by
 unfold HM at e
 obtain⟨j,hj,e2⟩:=Dl.ag e
 cases e2
 have hm:=jX hj
 have hq:=List.find?_some hj
 rw[qR,zJ] at hq
 exact⟨List.mem_range.mp hm,rfl,hq⟩
end
section
variable {G T:List Pl}{W:List Wy}{P X c off:List Int}{b:Bool}{i k q:Nat}
theorem K8(h:Wd G T W)(hk:k < W.length)(hq:q∈lst b G T W (aP b W k)):q < W.length/\aP b W q=aP b W k:=(nF h (eH h b hk)).mp hq
theorem AF(h:Wd G T W)(hi:i < (aR b G T).length)(hq:q∈lst b G T W i):vl (gh b G T W off) q=ch (mm W off) (amt b G T i) (lst b G T W i) q:=by
 obtain⟨h1,h2⟩:=(nF h hi).mp hq
 have:=n6 h b off h1
 rw[h2] at this
 exact this
theorem Mr(h:Wd G T W)(ho:Off off)(b:Bool)(hk:k < W.length):sm (up (lst b G T W (aP b W k)) k) (vl (gh b G T W off))=min (amt b G T (aP b W k)) (sm (up (lst b G T W (aP b W k)) k) (mm W off)):=by
 have hi:=eH h b hk
 rw[kr fun q hq=>AF h hi (mG hq)]
 exact Kw (iC h hi) (fun q _=>J8 h ho q) (ES h b _) (gc h b hk)
theorem EY(h:Wd G T W)(b:Bool)(hk:k < W.length)(e:(gh b G T W off).getD k 0 < mm W off k):Fl b G T W (gh b G T W off) k:=by
 have hi:=eH h b hk
 rw[n6 h b off hk] at e
 unfold Fl
 rw[kr fun q hq=>AF h hi (mG hq)]
 exact Ci (iC h hi) (gc h b hk) e
theorem Fo(h:Wd G T W)(ho:Off off)(b:Bool)(hk:k < W.length):0<=(gh b G T W off).getD k 0/\(gh b G T W off).getD k 0<=mm W off k:=by
 have hi:=eH h b hk
 rw[n6 h b off hk]
 have:=KD (m:=mm W off) (a:=amt b G T (aP b W k)) (l:=lst b G T W (aP b W k)) (fun q _=>J8 h ho q) (ES h b _) k
 exact⟨this.1,this.2.2 (gc h b hk)⟩
end
section
variable {G T:List Pl}{W:List Wy}{P X c off:List Int}{b:Bool}{i k q:Nat}{v:Int}
theorem Cj(h:Wd G T W)(ho:Off c)(hk:k < W.length):0<=(wy G T W c).getD k 0/\(wy G T W c).getD k 0<=(gh false G T W c).getD k 0/\(gh false G T W c).getD k 0<=c.getD k 0/\(gh false G T W c).getD k 0<=(aS W k).2.2/\mm W (gh false G T W c) k=(gh false G T W c).getD k 0:=by
 have h1:=Fo h ho false hk
 have h2:=Fo h (pb h ho false) true hk
 change 0<=(wy G T W c).getD k 0/\(wy G T W c).getD k 0<=_ at h2
 unfold mm at h1 h2 ⊢
 omega
def Jn(G T:List Pl)(W:List Wy)(c:List Int):Prop:=∀k,k < W.length->c.getD k 0 < (aS W k).2.2->Fl true G T W (wy G T W c) k
theorem MF(h:Wd G T W)(ho:Off c)(hl:c.length=W.length)(e:HM G T W c=some (k,v))(hq:q < W.length):(wy G T W c).getD q 0<=(gh false G T W (c.set k v)).getD q 0:=by
 obtain⟨hk,rfl,hlt⟩:=B0 e
 obtain⟨b0,b1,b2,b3,b4⟩:=Cj h ho hk
 obtain⟨d0,d1,d2,d3,d4⟩:=Cj h ho hq
 have hi:=eH h false hq
 have hm:∀x,x≠k->mm W (c.set k ((wy G T W c).getD k 0)) x=mm W c x:=fun x hx=>by
  unfold mm
  rw[fK,yN (fun z=>hx z.1.symm)]
 have hmk:mm W (c.set k ((wy G T W c).getD k 0)) k=(wy G T W c).getD k 0:=by
  unfold mm
  rw[fK,yL ⟨rfl,by rw[hl];exact hk⟩]
  omega
 rw[n6 h false _ hq]
 by_cases z:aP false W q=aP false W k
 ·have hkL:k∈lst false G T W (aP false W q):=by rw[z];exact gc h false hk
  have hA:vl (gh false G T W c) k=ch (mm W c) (amt false G T (aP false W q)) (lst false G T W (aP false W q)) k:=AF h hi hkL
  unfold vl at hA
  obtain⟨l1,l2⟩:=Gr (m:=mm W c) (m':=mm W (c.set k ((wy G T W c).getD k 0))) (p:=k) (a:=amt false G T (aP false W q)) (l:=lst false G T W (aP false W q)) (iC h hi) (fun x _ hx=>hm x hx) (by rw[hmk,<- hA];exact b1)
  by_cases y:q=k
  ·subst y
   rw[l2 hkL,hmk]
   exact xZ _
  ·have:=l1 q (gc h false hq) y
   rw[<- n6 h false c hq] at this
   omega
 ·rw[rE (m:=mm W (c.set k ((wy G T W c).getD k 0))) (m':=mm W c) fun x hx=>hm x fun w=>by
   subst w
   exact z ((nF h hi).mp hx).2.symm]
  rw[<- n6 h false c hq]
  exact d1
theorem Jn.step(h:Wd G T W)(ho:Off c)(hl:c.length=W.length)(j:Jn G T W c)(e:HM G T W c=some (k,v)):Jn G T W (c.set k v):=fun q hq hlim=>by
 have ho':Off (c.set k v):=CP ho (Kj h ho e).2.1
 have fq:Fl true G T W (wy G T W c) q:=by
  obtain⟨hk,rfl,hlt⟩:=B0 e
  by_cases z:q=k
  ·subst z
   exact EY h true hq (by rw[(Cj h ho hq).2.2.2.2];exact hlt)
  ·rw[fK,yN (fun w=>z w.1.symm)] at hlim
   exact j q hq hlim
 have hu:=Mr h (pb h ho' false) true hq
 change sm _ (vl (wy G T W (c.set k v)))=_ at hu
 unfold Fl at fq ⊢
 have hs:sm (up (lst true G T W (aP true W q)) q) (vl (wy G T W c))<=sm (up (lst true G T W (aP true W q)) q) (mm W (gh false G T W (c.set k v))):=EJ fun x hx=>by
  have hx':=(K8 h hq (mG hx)).1
  have h1:=MF h ho hl e hx'
  have h2:=Cj h ho hx'
  unfold vl mm
  omega
 rw[hu]
 omega
end
section
variable {G T:List Pl}{W:List Wy}{P X c off:List Int}{b:Bool}{i k q:Nat}{π:List Nat}
end
section
variable {G T:List Pl}{W:List Wy}{P X:List Int}{b:Bool}{i:Nat}
end
theorem iO{f:Dl.Env->Option (List D)}{ρ:Dl.Env}{ds:List D}(h:f ρ=some ds):dM f ρ=some (.list ds):=by
 simp only[dM,h,zB]
theorem o4{f:Dl.Env->Option D}{ρ:Dl.Env}{ds:List D}(h:f ρ=some (.tuple ds)):bO f ρ=some ds:=by
 simp only[bO,h,zA,iG]
theorem JJ{f:Dl.Env->Option D}{ρ:Dl.Env}{ds:List D}(h:f ρ=some (.list ds)):bO f ρ=some ds:=by
 simp only[bO,h,zA,iG]
theorem mi{fs:Dl.Env->Option (List D)}{ρ:Dl.Env}{ds:List D}(h:fs ρ=some ds)(hl:ds.length<=1000):cQ fs ρ=some ds:=by
 simp only[cQ,h,zA,cN (show ds.length<=4000 by omega)]
theorem As{ρ:Dl.Env}{f g:Dl.Env->Option D}{G T:List Pl}{W:List Wy}{b:Bool}(hf:f ρ=some (aX G T W))(hg:g ρ=some (.int (sI b))):(aa (bR bz (aa (f2 aC f g) af)) af) ρ=some [nD (aR b G T).length] :=
 cons_of (gw (l:=aR b G T) (k:=aD) (ax (dw b G T W) hf hg)) rfl
section
variable {G T:List Pl}{W:List Wy}{P X:List Int}
end
section
variable {G T:List Pl}{W:List Wy}{P X c:List Int}{b:Bool}{k:Nat}
end
structure Wk(G T G' T':List Pl):Prop where
 len:∀b,(aR b G' T').length=(aR b G T).length
 lik:∀b i,(bc b G' T' i).2=(bc b G T i).2
 gv:∀i,amt false G' T' i<=amt false G T i
 tk:∀i,amt true G T i<=amt true G' T' i
section
variable {G T G' T':List Pl}{W:List Wy}{P X c:List Int}{b:Bool}{i k q:Nat}{v:Int}
theorem Wk.lst(w:Wk G T G' T')(b:Bool)(i:Nat):lst b G' T' W i=lst b G T W i:=by unfold Wm.lst;rw[w.lik]
end
def sA(L:List Pl)(i:Nat)(a:Int):List Pl:=L.set i (a,(L.getD i (0,[])).2)
theorem nW(L:List Pl)(i:Nat)(a:Int):(sA L i a).length=L.length:=by simp[sA]
theorem BK{L:List Pl}{i:Nat}{a:Int}{k:Nat}{p:Pl}(h:(sA L i a)[k]?=some p):∃p',L[k]?=some p'/\p.2=p'.2/\(p.1=a\/p.1=p'.1):=by
 unfold sA at h
 by_cases e:i=k
 ·subst e
  have hl:i < L.length:=by
   have:=(List.getElem?_eq_some_iff.mp h).1
   simpa using this
  rw[vP hl] at h
  cases h
  exact⟨L[i],zK hl,by simp[hl],.inl rfl⟩
 ·rw[kR e] at h
  exact⟨p,h,rfl,.inr rfl⟩
section
variable {G T G' T':List Pl}{W:List Wy}{P X off:List Int}{b:Bool}{i j k:Nat}{a:Int}
theorem Gs{L:List Pl}{p:Pl}(ha:0<=a/\a<=9)(hL:∀p∈L,0<=p.1/\p.1<=9)(hp:p∈sA L i a):0<=p.1/\p.1<=9:=by
 obtain⟨k,hk,e⟩:=qQ hp
 obtain⟨p',h1,_,h2⟩:=BK (p:=p) (k:=k) (by rw[zK hk,e])
 rcases h2 with z|z
 ·rw[z];exact ha
 ·rw[z];exact hL p' (qB h1)
theorem Wd.gA(h:Wd G T W)(ha:0<=a/\a<=9):Wd (sA G i a) T W where
 g1:=by rw[nW];exact h.g1
 g4:=by rw[nW];exact h.g4
 t1:=h.t1
 t4:=h.t4
 ga:=fun p hp=>Gs ha h.ga hp
 ta:=h.ta
 gl:=fun k p hp=>by
  obtain⟨p',h1,h2,_⟩:=BK hp
  rw[h2]
  exact h.gl k p' h1
 tl:=h.tl
 wr:=fun w hw=>by rw[nW];exact h.wr w hw
 wp:=h.wp
 wl:=h.wl
theorem Wd.tA(h:Wd G T W)(ha:0<=a/\a<=9):Wd G (sA T i a) W where
 g1:=h.g1
 g4:=h.g4
 t1:=by rw[nW];exact h.t1
 t4:=by rw[nW];exact h.t4
 ga:=h.ga
 ta:=fun p hp=>Gs ha h.ta hp
 gl:=h.gl
 tl:=fun k p hp=>by
  obtain⟨p',h1,h2,_⟩:=BK hp
  rw[h2]
  exact h.tl k p' h1
 wr:=fun w hw=>by rw[nW];exact h.wr w hw
 wp:=h.wp
 wl:=h.wl
theorem dZ{ds:List D}{d:D}(h:i < ds.length)(hl:ds.length<=1000):cM [.tuple ds,nD i,d]=some (.tuple (ds.set i d)):=by
 have e:(ds.take i++[d])++ds.drop (i+1)=ds.set i d:=by
  rw[List.set_eq_take_append_cons_drop,yL h]
  simp
 refine bA ?_
 show iK [.val (.tuple ds),.val (nD i),.val d]=_
 unfold iK
 refine dq (ax (a:=.tuple (ds.take i++[d])) (b:=.tuple (ds.drop (i+1))) ?_ (ax (a:=.tuple (ds.take i)) (b:=.tuple [d]) (dO ?_) (vy rfl rfl) (pI rfl)) (uB rfl (ax (dG _ _) rfl rfl)))
 ·rw[dO,e]
  rw[e,yB]
  omega
 ·simp
  omega
def Oe(b:Bool)(G T:List Pl)(W:List Wy)(i:Nat)(a:Int):D:=match b with|false=>aX (sA G i a) T W|true=>aX G (sA T i a) W
theorem Bb(h:Wd G T W)(hi:i < (aR b G T).length):dR [aX G T W,.int (sI b),nD i,.int a,av (bc b G T i).2]=some (Oe b G T W i a):=by
 have hl:=h.pl b
 have e1:=dZ (ds:=(aR b G T).map aD) (d:=aD (a,(bc b G T i).2)) (i:=i) (by rw[zD];exact hi) (by rw[zD];omega)
 rw[<- List.map_set] at e1
 have e2:=dZ (ds:=[.tuple (G.map aD),.tuple (T.map aD),.tuple (W.map aE)]) (d:=.tuple (((aR b G T).set i (a,(bc b G T i).2)).map aD)) (i:=(sI b).toNat) (show (sI b).toNat < 3 by cases b<;>decide) (show 3<=1000 by decide)
 refine bA ?_
 show eY [.val (aX G T W),.val (.int (sI b)),.val (nD i),.val (.int a),.val (av (bc b G T i).2)]=_
 unfold eY
 refine dq (call_of (ds:=[aX G T W,.int (sI b),.tuple (((aR b G T).set i (a,(bc b G T i).2)).map aD)]) ?_ (cons_of rfl (cons_of rfl (cons_of (call_of e1 (cons_of (ax (dw b G T W) rfl rfl) (cons_of rfl (cons_of (tup_is (ds:=[.int a,av (bc b G T i).2]) rfl (by simp)) rfl))) rfl) rfl))) rfl)
 rw[show PyData.int (sI b)=nD (sI b).toNat by cases b<;>rfl]
 refine Eq.trans e2 ?_
 cases b<;>rfl
theorem eh(h:Wd G T W)(b:Bool)(hi:i < (aR b G T).length):aH [aX G T W,.int (sI b),nD i]=some .none:=by
 have:dI [.val (aX G T W),.val (.int (sI b)),.val (nD i)]=some (.nx [.val (aX G T W),.val (.int (sI b)),.val (nD i)]):=by
  unfold dI
  refine (ar (cK (call_of (ni b) rfl rfl))).trans ?_
  exact cK (call_of (di (n:=((aR b G T).length:Nat)) (i:=(i:Nat)) (by omega) (by omega)) (cons_of rfl (cons_of (gw (l:=aR b G T) (k:=aD) (ax (dw b G T W) rfl rfl)) rfl)) rfl)
 show (dI [.val (aX G T W),.val (.int (sI b)),.val (nD i)]).map _=_
 rw[this]
 rfl
theorem rW(h:Wd G T W)(hi:i < (aR b G T).length)(ha:0<=a/\a<=9):bw [aX G T W,.int (sI b),nD i,.int a]=some (Oe b G T W i a):=by
 refine bA ?_
 show fv [.val (aX G T W),.val (.int (sI b)),.val (nD i),.val (.int a)]=_
 unfold fv
 refine (ar (cK (call_of (dH h) rfl rfl))).trans ?_
 refine (ar (cK (call_of (eh h b hi) rfl rfl))).trans ?_
 refine (ar (cK (call_of (fg ha.1 ha.2) rfl rfl))).trans ?_
 exact dq (call_of (Bb h hi) (cons_of rfl (cons_of rfl (cons_of rfl (cons_of rfl (cons_of (ax (a:=aD (bc b G T i)) (b:=.int 1) rfl (ax (gD (cR hi)) (ax (dw b G T W) rfl rfl) rfl) rfl) rfl))))) rfl)
end
section
variable {G T:List Pl}{W:List Wy}{P X:List Int}
def wB:aq->Option Out:=(Al 3 [2,4] (aN 1 [4] (cg (aa (f2 Dl.aJ (f2 aC (ae 2) (fC (.int 2))) (fC (.int 1))) af)) (fG 0) (fun _=>some true) (f2 Dl.aJ (ae 1) (aA (aa (ae 0) af)))))
def ext(l:Int)(r:List Int):List (List Int):=(List.range (l+1).toNat).map fun m=>r++[((m:Nat):Int)]
theorem F3{d:D}{x1:Slot}{w:Wy}{acc:List (List Int)}{r:List Int}(hl:0<=w.2.2/\w.2.2<=9)(hr:r.length<=100)(ha:acc.length<=7000):wB [.val d,x1,.val (aE w),.own (acc.map av),.val (av r)]=some (.nx [.val d,x1,.val (aE w),.own ((acc++ext w.2.2 r).map av),.val (av r)]):=by
 have c:aN 1 [4] (cg (aa (f2 Dl.aJ (f2 aC (ae 2) (fC (.int 2))) (fC (.int 1))) af)) (fG 0) (fun _=>some true) (f2 Dl.aJ (ae 1) (aA (aa (ae 0) af))) (cJ [.val d,x1,.val (aE w),.own (acc.map av),.val (av r)])=some ((List.range (w.2.2+1).toNat).map fun m=>av (r++[((m:Nat):Int)])):=by
  refine tV (BI (n:=(w.2.2+1).toNat) (cons_of ?_ rfl) (by omega)) (by rw[zR];omega) fun m _=>ax (JF (a:=r) (b:=[((m:Nat):Int)]) (by simp;omega)) rfl (pI rfl)
  rw[show nD (w.2.2+1).toNat=.int (w.2.2+1) by show PyData.int _=_;congr 1;omega]
  exact ax (dG w.2.2 1) (ax (IV w) rfl rfl) rfl
 have hh:hand [2,4] 0 [Slot.val d,x1,.val (aE w),.own (acc.map av),.val (av r)]=[Slot.val d,x1,.val (aE w),.own (acc.map av),.val (av r)]:=rfl
 have hz:(acc.map av).length+((List.range (w.2.2+1).toNat).map fun m=>av (r++[((m:Nat):Int)])).length<=sizeLine:=by
  rw[zD,zD,zR]
  exact yC (show acc.length+(w.2.2+1).toNat<=8000 by omega) (by decide)
 have e:(acc++ext w.2.2 r).map av=acc.map av++(List.range (w.2.2+1).toNat).map fun m=>av (r++[((m:Nat):Int)]):=by
  rw[jA,ext,zM]
  rfl
 unfold wB Al
 rw[hh,c,zA,e]
 simp only[oi,yY,xQ,hz,xH,zB,zA]
 rfl
theorem qp{α:Type}{tt:Dl.Env->Option Bool}{te:Dl.Env->Option D}{r:List (Option D)}{g f:α->D}{q:α->Bool}:∀ (l:List α),(∀x∈l,tt (some (g x)::r)=some (q x)/\(q x=true->te (some (g x)::r)=some (f x)))->gx (fG 0) tt te (none::r) (l.map g)=some ((l.filter q).map f)
 | [],_=>rfl
 | x::l,h=>by
  have ih:=qp (tt:=tt) (te:=te) (r:=r) (g:=g) (f:=f) (q:=q) l fun y hy=>h y (zC _ hy)
  obtain⟨h1,h2⟩:=h x zE
  have hg:fG 0 (none::r) (g x)=some (some (g x)::r):=rfl
  rw[zI,gx,hg,zA,h1,zA,jW]
  cases e:q x with
  | true =>
   rw[yL rfl,yL rfl,h2 e,zA,ih]
   rfl
  | false =>
   rw[yN (by simp),yN (by simp),ih]
theorem DL{α:Type}{cs:List Nat}{fi:Dl.Env->Option (List D)}{tt:Dl.Env->Option Bool}{te:Dl.Env->Option D}{ρ:Dl.Env}{l:List α}{g f:α->D}{q:α->Bool}(hfi:fi ρ=some (l.map g))(hl:l.length<=3000)(hh:∀x∈l,tt (some (g x)::cs.map fun j=>(ρ[j]?).getD none)=some (q x)/\(q x=true->te (some (g x)::cs.map fun j=>(ρ[j]?).getD none)=some (f x))):aN 1 cs fi (fG 0) tt te ρ=some ((l.filter q).map f):=by
 have:=qp l hh
 simp only[aN,hfi,zA,gJ,List.replicate,xF,xO,this]
 refine cN ?_
 rw[zD]
 refine yC (xP _ _) ?_
 omega
theorem oh{α:Type}{cs:List Nat}{fi:Dl.Env->Option (List D)}{tt:Dl.Env->Option Bool}{te:Dl.Env->Option D}{ρ:Dl.Env}{l:List α}{g f:α->D}{q:α->Bool}(hfi:fi ρ=some (l.map g))(hl:l.length<=1000)(hh:∀x∈l,tt (some (g x)::cs.map fun j=>(ρ[j]?).getD none)=some (q x)/\(q x=true->te (some (g x)::cs.map fun j=>(ρ[j]?).getD none)=some (f x))):aN 1 cs fi (fG 0) tt te ρ=some ((l.filter q).map f):=DL hfi (by omega) hh
end
section
variable {G T:List Pl}{W:List Wy}{P X:List Int}{b:Bool}{i k q:Nat}
end
section
variable {G T:List Pl}{W:List Wy}{P X:List Int}{b:Bool}{i k:Nat}
end
section
variable {G T:List Pl}{W:List Wy}{P X:List Int}
theorem C3{L:List Int}{x:Int}(h:x∈L):uJ (av L) (.int x)=some (nD (Ll L x)):=by
 show (intsOf (L.map PyData.int)).bind _=_
 rw[iR,zA,tQ h]
 rfl
theorem FT{L:List Int}{x:Int}(h:x∈L):Ll L x < L.length:=kL ⟨x,h,by simp⟩
abbrev sW(G T:List Pl)(W:List Wy)(P:List Int)(b:Bool)(j:Nat)(o:Int)(x y z:Slot):aq:=[.val (aX G T W),.val (av P),.val (.int (sI b)),.val (nD j),.val (.int o),x,y,z]
theorem xw{i j l:Nat}{fz:List Nat}{f:Dl.Env->Option D}{ρ:aq}{x y z:D}(hf:f (cJ ρ)=some (.tuple [x,y,z]))(hh:hand fz 0 ρ=ρ):jb i j l fz f ρ=some (.nx (((ρ.set i (.val x)).set j (.val y)).set l (.val z))):=by
 unfold jb
 rw[hh,hf,zA]
 show some (Out.nx ((((if _ then ρ else ρ).set i _).set j _).set l _))=_
 rw[ite_self]
end
def sh(k q:Nat):Nat:=if q < k then q else q+1
def nk(k:Nat):Nat->Bool:=fun q=>!decide (q=k)
def fL(L:List Pl)(i:Nat)(x:Int):List Pl:=L.set i ((L.getD i (0,[])).1,(L.getD i (0,[])).2.filter fun y=>!decide (y=x))
theorem MS(L:List Pl)(i:Nat)(x:Int):(fL L i x).length=L.length:=by simp[fL]
theorem Ni(L:List Pl)(i:Nat)(x:Int)(hi:i < L.length)(k:Nat):(fL L i x).getD k (0,[])=if k=i then ((L.getD i (0,[])).1,(L.getD i (0,[])).2.filter fun y=>!decide (y=x)) else L.getD k (0,[]):=by
 unfold fL
 by_cases e:k=i
 ·subst e;simp[hi]
 ·rw[yN e];simp[kR (jM e)]
section
variable {G T:List Pl}{W:List Wy}{P X:List Int}{b:Bool}{i k q:Nat}
def eG(G:List Pl)(W:List Wy)(k:Nat):List Pl:=fL G (aS W k).1.toNat (aS W k).2.1
def eT(T:List Pl)(W:List Wy)(k:Nat):List Pl:=fL T (aS W k).2.1.toNat (aS W k).1
theorem Dz(h:vx W):W.Nodup:=h.imp fun {a b} hab e=>by subst e;omega
theorem Gn(hk:k < W.length):(W.eraseIdx k).length=W.length - 1:=List.length_eraseIdx_of_lt hk
theorem nB{α:Type}[DecidableEq α]:∀ {l:List α}{k:Nat}{x:α},l.Nodup->l[k]?=some x->l.eraseIdx k=l.filter fun y=>!decide (y=x)
 | [],k,x,_,e=>by simp at e
 | a::l,0,x,hn,e=>by
  cases e
  rw[jW,yN (by simp),List.eraseIdx_zero,List.tail_cons]
  exact (List.filter_eq_self.mpr fun y hy=>by
   have:y≠a:=fun z=>(List.nodup_cons.mp hn).1 (z ▸ hy)
   simp[this]).symm
 | a::l,k+1,x,hn,e=>by
  have e':l[k]?=some x:=by simpa using e
  have:a≠x:=fun z=>(List.nodup_cons.mp hn).1 (z ▸ qB e')
  rw[jW,yL (by simp[this]),List.eraseIdx_cons_succ,nB (List.nodup_cons.mp hn).2 e']
theorem zh(h:vx W)(hk:k < W.length):W.eraseIdx k=W.filter fun x=>!decide (x=aS W k):=nB (Dz h) (uU hk)
theorem B3(L:List Pl)(n:Nat)(x:Int)(hn:n < L.length)(i:Nat):(fL L n x).getD i (0,[])=((L.getD i (0,[])).1,(L.getD i (0,[])).2.filter fun o=>!(decide (i=n)&&decide (o=x))):=by
 rw[Ni L n x hn]
 by_cases e:i=n
 ·rw[yL e]
  subst e
  simp only[jP,jL]
 ·rw[yN e,zY e]
  simp only[vZ,Bool.not_false]
  rw[List.filter_eq_self.mpr fun _ _=>rfl]
theorem Hi(h:Wd G T W)(hk:k < W.length)(b:Bool)(i:Nat):bc b (eG G W k) (eT T W k) i=((bc b G T i).1,(bc b G T i).2.filter fun o=>!(decide (i=aP b W k)&&decide (o=cT b (aS W k)))):=by
 have hp:=eH h b hk
 cases b
 ·exact B3 G _ _ hp i
 ·exact B3 T _ _ hp i
theorem kl(b:Bool):(aR b (eG G W k) (eT T W k)).length=(aR b G T).length:=by cases b<;>simp[aR,eG,eT,MS]
theorem OV(h:vx W)(hk:k < W.length)(b:Bool)(i:Int):((W.eraseIdx k).filter fun w=>decide (bS b w=i)).map (cT b)=(((W.filter fun w=>decide (bS b w=i)).map (cT b)).filter fun o=>!(decide (i=bS b (aS W k))&&decide (o=cT b (aS W k)))):=by
 rw[zh h hk,kF,List.filter_filter,List.filter_filter]
 refine jC _ (List.filter_congr fun x hx=>?_)
 obtain⟨j,hj,rfl⟩:=List.mem_iff_getElem.mp hx
 rw[gQ hj]
 by_cases e:bS b (aS W j)=i
 ·by_cases z:j=k
  ·subst z
   simp[e]
  ·have hne:¬ (bS b (aS W j)=bS b (aS W k)/\cT b (aS W j)=cT b (aS W k)):=fun y=>z (Au h hj hk y.1 y.2)
   have hw:aS W j≠aS W k:=fun y=>hne ⟨by rw[y],by rw[y]⟩
   simp only[hw,wR,Bool.not_false,e,jP,Bool.and_true,jL,Function.comp]
   rw[e] at hne
   by_cases y:i=bS b (aS W k)
   ·have:cT b (aS W j)≠cT b (aS W k):=fun u=>hne ⟨y,u⟩
    simp[this]
   ·simp[y]
 ·simp[e]
theorem Wd.less(h:Wd G T W)(hk:k < W.length):Wd (eG G W k) (eT T W k) (W.eraseIdx k):=by
 have hg:∀ (b:Bool) (i:Nat) (p:Pl),(aR b (eG G W k) (eT T W k))[i]?=some p->p.2.Perm (((W.eraseIdx k).filter fun w=>decide (bS b w=i)).map (cT b))/\0<=p.1/\p.1<=9:=fun b i p e=>by
  have hi:i < (aR b G T).length:=by
   have:=(List.getElem?_eq_some_iff.mp e).1
   rw[kl] at this
   exact this
  have hi':i < (aR b (eG G W k) (eT T W k)).length:=by rw[kl];exact hi
  have ep:=cR hi'
  rw[ep] at e
  cases e
  rw[Hi h hk,OV h.wp hk]
  have hq:decide (i=aP b W k)=decide (((i:Nat):Int)=bS b (aS W k)):=by
   have:=(h.end_pl b hk).2.2
   have hz:=(h.end_pl b hk).1
   unfold aP
   by_cases y:i=(bS b (aS W k)).toNat
   ·rw[zZ y,zZ (by omega)]
   ·rw[zY y,zY (by omega)]
  rw[hq]
  refine⟨?_,?_⟩
  ·refine List.Perm.filter _ ?_
   cases b
   ·exact h.gl i _ (cR (b:=false) hi)
   ·exact h.tl i _ (cR (b:=true) hi)
  ·cases b
   ·show 0<=(bc false G T i).1/\(bc false G T i).1<=9
    exact h.ga _ (qB (cR (b:=false) (G:=G) (T:=T) hi))
   ·show 0<=(bc true G T i).1/\(bc true G T i).1<=9
    exact h.ta _ (qB (cR (b:=true) (G:=G) (T:=T) hi))
 have hl0:=kl (G:=G) (T:=T) (W:=W) (k:=k) false
 have hl1:=kl (G:=G) (T:=T) (W:=W) (k:=k) true
 have hl0:(eG G W k).length=G.length:=hl0
 have hl1:(eT T W k).length=T.length:=hl1
 have hsub:(W.eraseIdx k).Sublist W:=List.eraseIdx_sublist ..
 refine⟨by rw[hl0];exact h.g1,by rw[hl0];exact h.g4,by rw[hl1];exact h.t1,by rw[hl1];exact h.t4,fun p hp=>?_,fun p hp=>?_,fun i p e=>(hg false i p e).1,fun i p e=>(hg true i p e).1,fun w hw=>?_,h.wp.sublist hsub,yC hsub.length_le h.wl⟩
 ·obtain⟨i,hi,rfl⟩:=List.mem_iff_getElem.mp hp
  exact (hg false i _ (zK hi)).2
 ·obtain⟨i,hi,rfl⟩:=List.mem_iff_getElem.mp hp
  exact (hg true i _ (zK hi)).2
 ·rw[hl0,hl1]
  exact h.wr w (hsub.mem hw)
def sL(W:List Wy)(k:Nat)(x:Int):List Wy:=W.set k ((aS W k).1,(aS W k).2.1,x)
theorem EH(W:List Wy)(k:Nat)(x:Int):(sL W k x).length=W.length:=by simp[sL]
theorem Ol(x:Int)(hk:k < W.length)(q:Nat):aS (sL W k x) q=if q=k then ((aS W k).1,(aS W k).2.1,x) else aS W q:=by
 unfold sL
 by_cases e:q=k
 ·subst e;simp[aS,hk]
 ·rw[yN e];simp[aS,kR (jM e)]
theorem MR{α:Type}(x:Int)(hk:k < W.length)(f:Wy->α)(hf:∀w y,f (w.1,w.2.1,y)=f w):(sL W k x).map f=W.map f:=by
 unfold sL
 rw[List.map_set,hf]
 refine jH (by simp) fun j h1 h2=>?_
 have hj:j < W.length:=by simpa using h2
 rw[List.getElem_set]
 split
 ·rename_i e;subst e;simp[gQ hk]
 ·rfl
theorem of_map(b:Bool)(i:Int):∀ {W V:List Wy},W.map (fun w=>(w.1,w.2.1))=V.map (fun w=>(w.1,w.2.1))->(W.filter fun w=>decide (bS b w=i)).map (cT b)=(V.filter fun w=>decide (bS b w=i)).map (cT b)
 | [],[],_=>rfl
 | [],_::_,e=>by cases e
 | _::_,[],e=>by cases e
 | w::W,v::V,e=>by
  simp only[zI,kW,Prod.mk.injEq] at e
  have e1:bS b w=bS b v:=by cases b<;>simp[bS,e.1]
  have e2:cT b w=cT b v:=by cases b<;>simp[cT,bS,e.1]
  have ih:=of_map b i (W:=W) (V:=V) e.2
  rw[jW,jW,e1]
  split
  ·rw[zI,zI,ih,e2]
  ·exact ih
theorem Wd.lim2(h:Wd G T W)(hk:k < W.length){x:Int}(hx:1<=x/\x<=9):Wd G T (sL W k x):=by
 have hm:=MR (W:=W) x hk (fun w=>(w.1,w.2.1)) fun _ _=>rfl
 refine⟨h.g1,h.g4,h.t1,h.t4,h.ga,h.ta,fun i p e=>?_,fun i p e=>?_,fun w hw=>?_,?_,by rw[EH];exact h.wl⟩
 ·have:=h.gl i p e
  rw[show Ay (sL W k x) i=Ay W i from of_map false i hm]
  exact this
 ·have:=h.tl i p e
  rw[show ofT (sL W k x) i=ofT W i from of_map true i hm]
  exact this
 ·obtain⟨j,hj,rfl⟩:=List.mem_iff_getElem.mp hw
  rw[gQ hj,Ol x hk]
  have hk':=h.wr _ (vq hk)
  split
  ·exact⟨hk'.1,hk'.2.1,hx⟩
  ·rename_i e
   rw[EH] at hj
   exact h.wr _ (vq hj)
 ·have h1:=h.wp
  have h2:(W.map fun w=>(w.1,w.2.1)).Pairwise fun a b=>a.1 < b.1\/(a.1=b.1/\a.2 < b.2):=List.pairwise_map.mpr h1
  rw[<- hm] at h2
  exact List.pairwise_map.mp h2
end
section
variable {G T:List Pl}{W V:List Wy}{P X L:List Int}{b:Bool}{i k q:Nat}{a:Int}
def OM(b:Bool)(G T:List Pl)(W:List Wy)(i:Nat)(p:Pl):D:=match b with|false=>aX (G.set i p) T W|true=>aX G (T.set i p) W
theorem zv(hl:(aR b G T).length<=1000)(hi:i < (aR b G T).length):dR [aX G T W,.int (sI b),nD i,.int a,av L]=some (OM b G T W i (a,L)):=by
 have e1:=dZ (ds:=(aR b G T).map aD) (d:=aD (a,L)) (i:=i) (by rw[zD];exact hi) (by rw[zD];omega)
 rw[<- List.map_set] at e1
 have e2:=dZ (ds:=[.tuple (G.map aD),.tuple (T.map aD),.tuple (W.map aE)]) (d:=.tuple (((aR b G T).set i (a,L)).map aD)) (i:=(sI b).toNat) (show (sI b).toNat < 3 by cases b<;>decide) (show 3<=1000 by decide)
 refine bA ?_
 show eY [.val (aX G T W),.val (.int (sI b)),.val (nD i),.val (.int a),.val (av L)]=_
 unfold eY
 refine dq (call_of (ds:=[aX G T W,.int (sI b),.tuple (((aR b G T).set i (a,L)).map aD)]) ?_ (cons_of rfl (cons_of rfl (cons_of (call_of e1 (cons_of (ax (dw b G T W) rfl rfl) (cons_of rfl (cons_of (tup_is (ds:=[.int a,av L]) rfl (by simp)) rfl))) rfl) rfl))) rfl)
 rw[show PyData.int (sI b)=nD (sI b).toNat by cases b<;>rfl]
 refine Eq.trans e2 ?_
 cases b<;>rfl
theorem iS(hl:(aR b G T).length<=1000)(hi:i < (aR b G T).length):bx [aX G T W,.int (sI b),nD i,av L]=some (OM b G T W i ((bc b G T i).1,L)):=by
 refine bA ?_
 show fR [.val (aX G T W),.val (.int (sI b)),.val (nD i),.val (av L)]=_
 unfold fR
 exact dq (call_of (zv hl hi) (cons_of rfl (cons_of rfl (cons_of rfl (cons_of (ax (a:=aD (bc b G T i)) (b:=.int 0) rfl (ax (gD (cR hi)) (ax (dw b G T W) rfl rfl) rfl) rfl) (cons_of rfl rfl))))) rfl)
theorem ke{d:D}(hd:bU [d]=some (.tuple (V.map aE))):bL [aX G T W,d]=some (aX G T V):=by
 refine bA ?_
 show gK [.val (aX G T W),.val d]=_
 unfold gK
 refine dq (call_of (ds:=[aX G T W,nD 2,.tuple (V.map aE)]) ?_ (cons_of rfl (cons_of rfl (cons_of ((nV rfl).trans hd) rfl))) rfl)
 exact dZ (ds:=[.tuple (G.map aD),.tuple (T.map aD),.tuple (W.map aE)]) (d:=.tuple (V.map aE)) (i:=2) (show 2 < 3 by decide) (show 3<=1000 by decide)
theorem oA(h:Wd G T W)(hk:k < W.length){fw fk:Dl.Env->Option D}{ρ:Dl.Env}(h1:fw ρ=some (aX G T W))(h2:fk ρ=some (nD k)):ah 2 ao (aa fk (aa (bR bz (aa (f2 aC fw (fC (.int 2))) af)) af)) ρ=some .none :=
 call_of (di (n:=(W.length:Nat)) (i:=(k:Nat)) (by omega) (by omega)) (cons_of h2 (cons_of (gw (l:=W) (k:=aE) (ax (fV G T W) h1 rfl)) rfl)) rfl
theorem vz(h:Wd G T W)(hk:k < W.length){x:Int}(hx:1<=x/\x<=9):bE [aX G T W,nD k,.int x]=some (aX G T (sL W k x)):=by
 have hw:=h.wl
 have e1:=dZ (ds:=W.map aE) (d:=aE ((aS W k).1,(aS W k).2.1,x)) (i:=k) (by rw[zD];exact hk) (by rw[zD];omega)
 rw[<- List.map_set] at e1
 refine bA ?_
 show fW [.val (aX G T W),.val (nD k),.val (.int x),.non]=_
 unfold fW
 refine (ar (cK (call_of (dH h) rfl rfl))).trans ?_
 refine (ar (cK (oA h hk rfl rfl))).trans ?_
 refine (ar (cK (call_of (fg hx.1 hx.2) rfl rfl))).trans ?_
 refine (ar (bp (ax (p5 hk) (ax (fV G T W) rfl rfl) rfl) (ax (p5 hk) (ax (fV G T W) rfl rfl) rfl) rfl)).trans ?_
 exact dq (call_of (ke (V:=sL W k x) (d:=.tuple ((sL W k x).map aE)) rfl) (cons_of rfl (cons_of (call_of e1 (cons_of (ax (fV G T W) rfl rfl) (cons_of rfl (cons_of (tup_is (ds:=[.int (aS W k).1,.int (aS W k).2.1,.int x]) rfl (by simp)) rfl))) rfl) rfl)) rfl)
theorem GW(v w:Wy):dD (aE v) (aE w)=some (.bool (!decide (v=w))):=by
 have e:=FV [v.1,v.2.1,v.2.2] [w.1,w.2.1,w.2.2]
 have:decide ([v.1,v.2.1,v.2.2]=[w.1,w.2.1,w.2.2])=decide (v=w):=by
  obtain⟨a,b,c⟩:=v
  obtain⟨d,e,f⟩:=w
  simp
 rw[this] at e
 exact e
theorem Av{tgt:aq->D->Option aq}{gb:aq->Option Out}{d:D}{ds:List D}{ρ ρ1 ρ2:aq}(h1:tgt ρ d=some ρ1)(h2:gb ρ1=some (.nx ρ2)):fU tgt gb (d::ds) ρ=fU tgt gb ds ρ2:=by rw[fU,h1,zA,h2];rfl
def P2:aq->Option Out:=(ay (Dl.ba 5 [0,2,4] (f2 aC (f2 aC (f2 aC (ae 0) (ae 4)) (f2 aC (ae 2) (ae 4))) (fC (.int 1)))) (Dl.ba 3 [2,3,4,5] (ah 4 bx (aa (ae 3) (aa (ae 4) (aa (f2 aC (ae 2) (ae 4)) (aa (bR bU (aa (dM (aN 1 [2,4] (bO (ae 5)) (fG 0) (fB (f2 dD (ae 0) (f2 aC (ae 1) (f2 Dl.lJ (fC (.int 1)) (ae 2))))) (ae 0))) af)) af)))))))
theorem CU(h:Wd G T W)(hk:k < W.length){G' T':List Pl}{V:List Wy}{d1:D}{x5:Slot}(hl:(aR b G' T').length=(aR b G T).length)(ha:(bc b G' T' (aP b W k)).1=(bc b G T (aP b W k)).1) :
  P2 [.val (aX G T W),.val d1,.val (aE (aS W k)),.val (aX G' T' V),.val (.int (sI b)),x5]=some (.nx [.val (aX G T W),.val d1,.val (aE (aS W k)),.val (OM b G' T' V (aP b W k) ((bc b G T (aP b W k)).1,(bc b G T (aP b W k)).2.filter fun o=>!decide (o=cT b (aS W k)))),.val (.int (sI b)),.val (av (bc b G T (aP b W k)).2)]):=by
 have hp:=eH h b hk
 have h4:=h.pl b
 obtain⟨z0,z1,z2⟩:=h.end_pl b hk
 have ee:∀ρ:Dl.Env,ae 2 ρ=some (aE (aS W k))->ae 4 ρ=some (.int (sI b))->f2 aC (ae 2) (ae 4) ρ=some (nD (aP b W k)):=fun ρ e2 e4=>ax ((C5 b _).trans (by rw[<- z2];rfl)) e2 e4
 have eo:∀ρ:Dl.Env,ae 0 ρ=some (aX G T W)->ae 2 ρ=some (aE (aS W k))->ae 4 ρ=some (.int (sI b))->f2 aC (f2 aC (f2 aC (ae 0) (ae 4)) (f2 aC (ae 2) (ae 4))) (fC (.int 1)) ρ=some (av (bc b G T (aP b W k)).2):=fun ρ e0 e2 e4=>ax (a:=aD (bc b G T (aP b W k))) (b:=.int 1) rfl (ax (gD (cR hp)) (ax (dw b G T W) e0 e4) (ee ρ e2 e4)) rfl
 have hn:(bc b G T (aP b W k)).2.length<=1000:=by
  have:=(lb h hp).length_eq
  have h2:(own b W (aP b W k)).length<=W.length:=by
   refine yC (xP _ _) ?_
   rw[zR]
   exact yM _
  have h3:(lst b G T W (aP b W k)).length=(bc b G T (aP b W k)).2.length:=by simp[lst,A0]
  have:=h.wl
  omega
 have ec:∀ρ:Dl.Env,ae 2 ρ=some (aE (aS W k))->ae 4 ρ=some (.int (sI b))->ae 5 ρ=some (av (bc b G T (aP b W k)).2)->bR bU (aa (dM (aN 1 [2,4] (bO (ae 5)) (fG 0) (fB (f2 dD (ae 0) (f2 aC (ae 1) (f2 Dl.lJ (fC (.int 1)) (ae 2))))) (ae 0))) af) ρ=some (av ((bc b G T (aP b W k)).2.filter fun o=>!decide (o=cT b (aS W k)))):=fun ρ e2 e4 e5=>by
  have e2':(ρ[2]?).getD none=some (aE (aS W k)):=e2
  have e4':(ρ[4]?).getD none=some (.int (sI b)):=e4
  have c:=oh (ρ:=ρ) (fi:=bO (ae 5)) (cs:=[2,4]) (tt:=(fB (f2 dD (ae 0) (f2 aC (ae 1) (f2 Dl.lJ (fC (.int 1)) (ae 2)))))) (te:=ae 0) (g:=PyData.int) (f:=PyData.int) (q:=fun o=>!decide (o=cT b (aS W k))) (l:=(bc b G T (aP b W k)).2) (o4 e5) hn fun x _=>by
   rw[zI,zI,yU,e2',e4']
   exact⟨eM (ax (zq _ _) rfl (ax (C5 (!b) _) rfl (ax (by rw[qy];cases b<;>rfl) rfl rfl))),fun _=>rfl⟩
  rw[nV (iO c)]
  rfl
 unfold P2
 refine (ar (bp (eo _ rfl rfl rfl) (eo _ rfl rfl rfl) rfl)).trans ?_
 have ew:=iS (b:=b) (G:=G') (T:=T') (W:=V) (i:=aP b W k) (L:=(bc b G T (aP b W k)).2.filter fun o=>!decide (o=cT b (aS W k))) (by rw[hl];omega) (by rw[hl];exact hp)
 rw[ha] at ew
 have el:∀ρ:Dl.Env,ae 3 ρ=some (aX G' T' V)->ae 2 ρ=some (aE (aS W k))->ae 4 ρ=some (.int (sI b))->ae 5 ρ=some (av (bc b G T (aP b W k)).2)->(ah 4 bx (aa (ae 3) (aa (ae 4) (aa (f2 aC (ae 2) (ae 4)) (aa (bR bU (aa (dM (aN 1 [2,4] (bO (ae 5)) (fG 0) (fB (f2 dD (ae 0) (f2 aC (ae 1) (f2 Dl.lJ (fC (.int 1)) (ae 2))))) (ae 0))) af)) af))))) ρ=some (OM b G' T' V (aP b W k) ((bc b G T (aP b W k)).1,(bc b G T (aP b W k)).2.filter fun o=>!decide (o=cT b (aS W k)))):=fun ρ e3 e2 e4 e5=>call_of ew (cons_of e3 (cons_of e4 (cons_of (ee ρ e2 e4) (cons_of (ec ρ e2 e4 e5) rfl)))) rfl
 exact bp (el _ rfl rfl rfl rfl) (el _ rfl rfl rfl rfl) rfl
theorem se(h:Wd G T W)(hk:k < W.length):bD [aX G T W,nD k]=some (aX (eG G W k) (eT T W k) (W.eraseIdx k)):=by
 have hw:=h.wl
 have ewl:∀ρ:Dl.Env,ae 0 ρ=some (aX G T W)->ae 2 ρ=some (aE (aS W k))->ah 2 bL (aa (ae 0) (aa (dM (aN 1 [2] (bO (f2 aC (ae 0) (fC (.int 2)))) (fG 0) (fB (f2 dD (ae 0) (ae 1))) (ae 0))) af)) ρ=some (aX G T (W.eraseIdx k)):=fun ρ e0 e2=>by
  have e2':(ρ[2]?).getD none=some (aE (aS W k)):=e2
  have c:=oh (ρ:=ρ) (fi:=bO (f2 aC (ae 0) (fC (.int 2)))) (cs:=[2]) (tt:=fB (f2 dD (ae 0) (ae 1))) (te:=ae 0) (g:=aE) (f:=aE) (q:=fun x=>!decide (x=aS W k)) (l:=W) (o4 (ax (fV G T W) e0 rfl)) (by omega) fun x _=>by
   rw[zI,yU,e2']
   exact⟨eM (ax (GW _ _) rfl rfl),fun _=>rfl⟩
  rw[zh h.wp hk]
  exact call_of (ke rfl) (cons_of e0 (cons_of (iO c) rfl)) rfl
 have r0:=CU (b:=false) h hk (G':=G) (T':=T) (V:=W.eraseIdx k) (d1:=nD k) (x5:=.non) rfl rfl
 have r1:=CU (b:=true) h hk (G':=eG G W k) (T':=T) (V:=W.eraseIdx k) (d1:=nD k) (x5:=.val (av (bc false G T (aP false W k)).2)) rfl rfl
 refine bA ?_
 show fy [.val (aX G T W),.val (nD k),.non,.non,.non,.non]=_
 unfold fy
 refine (ar (cK (call_of (dH h) rfl rfl))).trans ?_
 refine (ar (cK (oA h hk rfl rfl))).trans ?_
 refine (ar (bp (ax (p5 hk) (ax (fV G T W) rfl rfl) rfl) (ax (p5 hk) (ax (fV G T W) rfl rfl) rfl) rfl)).trans ?_
 refine (ar (bp (ewl _ rfl rfl) (ewl _ rfl rfl) rfl)).trans ?_
 have ef:fU (AX 4) P2 [.int (sI false),.int (sI true)] [.val (aX G T W),.val (nD k),.val (aE (aS W k)),.val (aX G T (W.eraseIdx k)),.non,.non]=some (.nx [.val (aX G T W),.val (nD k),.val (aE (aS W k)),.val (aX (eG G W k) (eT T W k) (W.eraseIdx k)),.val (.int (sI true)),.val (av (bc true G T (aP true W k)).2)]):=by
  rw[Av (ρ1:=[.val (aX G T W),.val (nD k),.val (aE (aS W k)),.val (aX G T (W.eraseIdx k)),.val (.int (sI false)),.non]) rfl r0,Av (ρ1:=[.val (aX G T W),.val (nD k),.val (aE (aS W k)),.val (aX (eG G W k) T (W.eraseIdx k)),.val (.int (sI true)),.val (av (bc false G T (aP false W k)).2)]) rfl r1]
  rfl
 refine (ar (wb (ds:=[.int (sI false),.int (sI true)]) ef (o4 (tup_is (ds:=[.int (sI false),.int (sI true)]) rfl (by simp))) rfl)).trans ?_
 exact dq rfl
end
section
variable {G T:List Pl}{W V:List Wy}{P X L:List Int}{b:Bool}{i k q n:Nat}{a x:Int}
theorem rA(hl:L.length<=1000):gC [av L,nD n,.int x]=some (av (L.take n++x::L.drop n)):=by
 refine bA ?_
 show ji [.val (av L),.val (nD n),.val (.int x)]=_
 unfold ji
 refine dq (ax (a:=.tuple ((L.map PyData.int).take n++[.int x])) (b:=.tuple ((L.map PyData.int).drop n)) ?_ (ax (a:=.tuple ((L.map PyData.int).take n)) (b:=.tuple [.int x]) (dO ?_) (vy rfl rfl) (pI rfl)) (uB rfl rfl))
 ·rw[dO]
  ·show some (PyData.tuple _)=some (.tuple _)
   rw[List.append_assoc,jA,List.map_take,zI,List.map_drop]
   rfl
  ·simp only[zN,jV,qH,zD,zL,xK]
   omega
 ·simp only[zN,jV,zD,zL,xK]
  omega
theorem qw:∀ {L:List Int}{x:Int},L.Nodup->x∈L->(L.filter fun y=>!decide (y=x)).take (L.findIdx fun o=>decide (o=x))++x::(L.filter fun y=>!decide (y=x)).drop (L.findIdx fun o=>decide (o=x))=L
 | [],x,_,h=>by cases h
 | o::L,x,hn,h=>by
  have hn':=List.nodup_cons.mp hn
  rw[vE,jW]
  by_cases e:o=x
  ·subst e
   rw[yN (by simp)]
   simp only[jP,cond_true,List.take_zero,List.drop_zero,xO]
   rw[List.filter_eq_self.mpr fun y hy=>by
    have:y≠o:=fun z=>hn'.1 (z ▸ hy)
    simp[this]]
  ·have hx:x∈L:=(List.mem_cons.mp h).resolve_left fun z=>e z.symm
   rw[yL (by simp[e])]
   simp only[e,wR,cond_false,List.take_succ_cons,List.drop_succ_cons,xF]
   rw[qw hn'.2 hx]
theorem o9(h:Wd G T W)(hk:k < W.length)(b:Bool):cT b (aS W k)∈(bc b G T (aP b W k)).2:=by
 have hs:=gc h b hk
 unfold lst A0 at hs
 obtain⟨o,ho,e⟩:=List.mem_map.mp hs
 have:=(Ia h (cR (eH h b hk)) ho).2.2
 rw[e] at this
 rw[this]
 exact ho
theorem sR(h:Wd G T W)(hi:i < (aR b G T).length):(bc b G T i).2.Nodup:=by
 have:=iC h hi
 unfold lst A0 at this
 exact List.Pairwise.of_map _ (fun a c hac e=>hac (by rw[e])) this
theorem pj(h:Wd G T W)(hi:i < (aR b G T).length):(bc b G T i).2.length<=16:=by
 have h1:=(lb h hi).length_eq
 have h2:(own b W i).length<=W.length:=by
  refine yC (xP _ _) ?_
  rw[zR]
  exact yM _
 have h3:(lst b G T W i).length=(bc b G T i).2.length:=by simp[lst,A0]
 have:=h.wl
 omega
theorem Cu(L:List Pl)(i:Nat)(x:Int)(hi:i < L.length):(fL L i x).set i ((L.getD i (0,[])).1,(L.getD i (0,[])).2)=L:=by
 unfold fL
 rw[List.set_set]
 refine jH (by simp) fun j h1 h2=>?_
 rw[List.getElem_set]
 split
 ·rename_i e;subst e;simp[hi]
 ·rfl
def sx(w:Wy):List Int:=[w.1,w.2.1,w.2.2]
theorem tK{α:Type}:∀ {l:List α}{k:Nat}{x:α},l[k]?=some x->l.Perm (l.eraseIdx k++[x])
 | [],k,x,e=>by simp at e
 | a::l,0,x,e=>by
  cases e
  rw[List.eraseIdx_zero,List.tail_cons]
  exact (List.perm_append_comm (l₁:=[_]) (l₂:=l))
 | a::l,k+1,x,e=>by
  rw[List.eraseIdx_cons_succ,xF]
  exact (tK (by simpa using e)).cons a
theorem Pb{a b:Wy}(h:a.1 < b.1\/(a.1=b.1/\a.2.1 < b.2.1)):lexLe (sx a) (sx b)=true:=by
 unfold lexLe sx
 rw[yP]
 show HT.lexLt _ _=false
 rw[HT.cL]
 rcases h with h|⟨h1,h2⟩
 ·rw[yN (by omega)]
  simp
  omega
 ·rw[yL h1.symm,HT.cL,yN (by omega)]
  simp
  omega
theorem IG(h:vx W)(hk:k < W.length):pR ((W.eraseIdx k++[aS W k]).map sx)=W.map sx:=by
 refine (BO ((tK (uU hk)).map sx) ?_).symm
 exact List.pairwise_map.mpr (h.imp fun hab=>Pb hab)
theorem AG(h:Wd G T W)(hk:k < W.length):du [.tuple ((W.eraseIdx k).map aE++[aE (aS W k)])]=some (W.map aE):=by
 have e:(W.eraseIdx k).map aE++[aE (aS W k)]=((W.eraseIdx k++[aS W k]).map sx).map av:=by
  rw[zM,jA]
  rfl
 have hw:=h.wl
 have hl:((W.eraseIdx k++[aS W k]).map sx).length < 64:=by
  rw[zD,zN,Gn hk,xC]
  omega
 have hne:∀r∈(W.eraseIdx k++[aS W k]).map sx,r≠[]:=fun r hr=>by
  obtain⟨w,_,rfl⟩:=List.mem_map.mp hr
  simp[sx]
 rw[e]
 simp only[du,oneOf,zA,mf hne,yL hl,IG h.wp hk]
 rw[zM]
 rfl
theorem AA(h:Wd G T W)(hk:k < W.length):bI [aX (eG G W k) (eT T W k) (W.eraseIdx k),nD (aP false W k),nD (aP true W k),.int (aS W k).2.2,nD ((bc false G T (aP false W k)).2.findIdx fun o=>decide (o=((aP true W k:Nat):Int))),nD ((bc true G T (aP true W k)).2.findIdx fun o=>decide (o=((aP false W k:Nat):Int)))]=some (aX G T W):=by
 have h':=h.less hk
 have hg:=eH h false hk
 have ht:=eH h true hk
 have hg':aP false W k < (aR false (eG G W k) (eT T W k)).length:=by rw[kl];exact hg
 have ht':aP true W k < (aR true (eG G W k) (eT T W k)).length:=by rw[kl];exact ht
 have eg:(aS W k).1=((aP false W k:Nat):Int):=(h.end_pl false hk).2.2.symm
 have et:(aS W k).2.1=((aP true W k:Nat):Int):=(h.end_pl true hk).2.2.symm
 have lim:=(h.wr _ (vq hk)).2.2
 have ea0:=Hi h hk false (aP false W k)
 have ea1:=Hi h hk true (aP true W k)
 rw[show cT false (aS W k)=((aP true W k:Nat):Int) from et] at ea0
 rw[show cT true (aS W k)=((aP false W k:Nat):Int) from eg] at ea1
 simp only[jP,jL] at ea0 ea1
 have m0:=o9 h hk false
 have m1:=o9 h hk true
 rw[show cT false (aS W k)=((aP true W k:Nat):Int) from et] at m0
 rw[show cT true (aS W k)=((aP false W k:Nat):Int) from eg] at m1
 have n0:=sR h hg
 have n1:=sR h ht
 have l0:=pj h hg
 have l1:=pj h ht
 have b0:=qw n0 m0
 have b1:=qw n1 m1
 have hd0:(bc false G T (aP false W k))=G.getD (aP false W k) (0,[]):=rfl
 have hd1:(bc true G T (aP true W k))=T.getD (aP true W k) (0,[]):=rfl
 have s0:=Cu G (aP false W k) (aS W k).2.1 hg
 have s1:=Cu T (aP true W k) (aS W k).1 ht
 rw[<- hd0] at s0
 rw[<- hd1] at s1
 have s0:(eG G W k).set (aP false W k) ((bc false G T (aP false W k)).1,(bc false G T (aP false W k)).2)=G:=s0
 have s1:(eT T W k).set (aP true W k) ((bc true G T (aP true W k)).1,(bc true G T (aP true W k)).2)=T:=s1
 have i0:=kL (xs:=(bc false G T (aP false W k)).2) (p:=fun o=>decide (o=((aP true W k:Nat):Int))) ⟨_,m0,by simp⟩
 have i1:=kL (xs:=(bc true G T (aP true W k)).2) (p:=fun o=>decide (o=((aP false W k:Nat):Int))) ⟨_,m1,by simp⟩
 have c0:=jC List.length b0
 have c1:=jC List.length b1
 rw[zN,zL,jV,qH] at c0 c1
 generalize (bc false G T (aP false W k)).2.findIdx (fun o=>decide (o=((aP true W k:Nat):Int)))=p0 at *
 generalize (bc true G T (aP true W k)).2.findIdx (fun o=>decide (o=((aP false W k:Nat):Int)))=p1 at *
 have f0:(bc false (eG G W k) (eT T W k) (aP false W k)).2=(bc false G T (aP false W k)).2.filter fun y=>!decide (y=((aP true W k:Nat):Int)):=by rw[ea0]
 have f1:(bc true (eG G W k) (eT T W k) (aP true W k)).2=(bc true G T (aP true W k)).2.filter fun y=>!decide (y=((aP false W k:Nat):Int)):=by rw[ea1]
 generalize hL0:((bc false G T (aP false W k)).2.filter fun y=>!decide (y=((aP true W k:Nat):Int)))=L0 at *
 generalize hL1:((bc true G T (aP true W k)).2.filter fun y=>!decide (y=((aP false W k:Nat):Int)))=L1 at *
 have ec:∀ (b:Bool) (j n:Nat) (ρ:Dl.Env),j < (aR b (eG G W k) (eT T W k)).length->ae 0 ρ=some (aX (eG G W k) (eT T W k) (W.eraseIdx k))->ae n ρ=some (nD j)->f2 aC (f2 aC (f2 aC (ae 0) (fC (.int (sI b)))) (ae n)) (fC (.int 1)) ρ=some (av (bc b (eG G W k) (eT T W k) j).2):=fun b j n ρ hj e0 en =>
  ax (a:=aD (bc b (eG G W k) (eT T W k) j)) (b:=.int 1) rfl (ax (gD (cR hj)) (ax (dw b _ _ _) e0 rfl) en) rfl
 have ec0:=fun (ρ:Dl.Env) e0 en=>(ec false (aP false W k) 1 ρ hg' e0 en)
 have ec1:=fun (ρ:Dl.Env) e0 en=>(ec true (aP true W k) 2 ρ ht' e0 en)
 rw[f0] at ec0
 rw[f1] at ec1
 have hin:pk (nD (aP true W k)) (av L0)=some (.bool false):=by
  refine (zi L0 _).trans ?_
  rw[zY]
  intro z
  rw[<- hL0] at z
  simp at z
 have hl0:L0.length<=16:=by omega
 have hl1:L1.length<=16:=by omega
 refine bA ?_
 show jd [.val (aX (eG G W k) (eT T W k) (W.eraseIdx k)),.val (nD (aP false W k)),.val (nD (aP true W k)),.val (.int (aS W k).2.2),.val (nD p0),.val (nD p1),.non,.non,.non]=_
 unfold jd
 refine (ar (cK (call_of (dH h') rfl rfl))).trans ?_
 refine (ar (cK (call_of (eh h' false hg') rfl rfl))).trans ?_
 refine (ar (cK (call_of (eh h' true ht') rfl rfl))).trans ?_
 refine (ar (cK (call_of (fg lim.1 lim.2) rfl rfl))).trans ?_
 refine (ar (bp (ec0 _ rfl rfl) (ec0 _ rfl rfl) rfl)).trans ?_
 refine (ar (bp (ec1 _ rfl rfl) (ec1 _ rfl rfl) rfl)).trans ?_
 refine (ar (cK (call_of (di (n:=((L0.length:Nat):Int)+1) (i:=(p0:Nat)) (by omega) (by omega)) (cons_of rfl (cons_of (ax (dG _ _) (gw (l:=L0) (k:=PyData.int) rfl) rfl) rfl)) rfl))).trans ?_
 refine (ar (cK (call_of (di (n:=((L1.length:Nat):Int)+1) (i:=(p1:Nat)) (by omega) (by omega)) (cons_of rfl (cons_of (ax (dG _ _) (gw (l:=L1) (k:=PyData.int) rfl) rfl) rfl)) rfl))).trans ?_
 refine (ar (bC (eM (ax hin rfl rfl)))).trans ?_
 have ew:∀ρ:Dl.Env,ae 0 ρ=some (aX (eG G W k) (eT T W k) (W.eraseIdx k))->ae 1 ρ=some (nD (aP false W k))->ae 2 ρ=some (nD (aP true W k))->ae 3 ρ=some (.int (aS W k).2.2)->(ah 2 bL (aa (ae 0) (aa (dM (kc du (aa (f2 aJ (f2 aC (ae 0) (fC (.int 2))) (aA (aa (aA (aa (ae 1) (aa (ae 2) (aa (ae 3) af)))) af))) af))) af))) ρ=some (aX (eG G W k) (eT T W k) W):=fun ρ e0 e1 e2 e3=>by
  have t3:aA (aa (aA (aa (ae 1) (aa (ae 2) (aa (ae 3) af)))) af) ρ=some (.tuple [aE (aS W k)]):=pI ((tup_is (cons_of e1 (cons_of e2 (cons_of e3 rfl))) (by simp)).trans (by
   show some (PyData.tuple [_,_,_])=some (.tuple [.int (aS W k).1,.int (aS W k).2.1,.int (aS W k).2.2])
   rw[eg,et]))
  refine call_of (ke (V:=W) (d:=.list (W.map aE)) rfl) (cons_of e0 (cons_of (iO ?_) rfl)) rfl
  have ga:Dl.aJ (.tuple ((W.eraseIdx k).map aE)) (.tuple [aE (aS W k)])=some (.tuple ((W.eraseIdx k).map aE++[aE (aS W k)])):=dO (by
   have:=h.wl
   rw[zN,zD,Gn hk,xC];omega)
  show ((aa _ af) ρ).bind du=_
  rw[cons_of (ax ga (ax (fV _ _ _) e0 rfl) t3) rfl]
  exact AG h hk
 refine (ar (bp (ew _ rfl rfl rfl rfl) (ew _ rfl rfl rfl rfl) rfl)).trans ?_
 have w0:=iS (b:=false) (G:=eG G W k) (T:=eT T W k) (W:=W) (i:=aP false W k) (L:=L0.take p0++((aP true W k:Nat):Int)::L0.drop p0) (by have:=h'.pl false;omega) hg'
 rw[b0,ea0] at w0
 have w0:bx [aX (eG G W k) (eT T W k) W,.int (sI false),nD (aP false W k),av (bc false G T (aP false W k)).2]=some (aX ((eG G W k).set (aP false W k) ((bc false G T (aP false W k)).1,(bc false G T (aP false W k)).2)) (eT T W k) W):=w0
 rw[s0] at w0
 have q0:=rA (L:=L0) (n:=p0) (x:=((aP true W k:Nat):Int)) (by omega)
 rw[b0] at q0
 refine (ar (bp (call_of w0 (cons_of rfl (cons_of rfl (cons_of rfl (cons_of (call_of q0 rfl rfl) rfl)))) rfl) (call_of w0 (cons_of rfl (cons_of rfl (cons_of rfl (cons_of (call_of q0 rfl rfl) rfl)))) rfl) rfl)).trans ?_
 have ht2:aP true W k < (aR true G (eT T W k)).length:=ht'
 have w1:=iS (b:=true) (G:=G) (T:=eT T W k) (W:=W) (i:=aP true W k) (L:=L1.take p1++((aP false W k:Nat):Int)::L1.drop p1) (by have:=h'.pl true;exact yC this (by decide)) ht2
 rw[b1,show bc true G (eT T W k) (aP true W k)=_ from ea1] at w1
 have w1:bx [aX G (eT T W k) W,.int (sI true),nD (aP true W k),av (bc true G T (aP true W k)).2]=some (aX G ((eT T W k).set (aP true W k) ((bc true G T (aP true W k)).1,(bc true G T (aP true W k)).2)) W):=w1
 rw[s1] at w1
 have q1:=rA (L:=L1) (n:=p1) (x:=((aP false W k:Nat):Int)) (by omega)
 rw[b1] at q1
 exact dq (call_of w1 (cons_of rfl (cons_of rfl (cons_of rfl (cons_of (call_of q1 rfl rfl) rfl)))) rfl)
end
section
variable {G T:List Pl}{W:List Wy}{P X Y:List Int}{b:Bool}{i k:Nat}
theorem iH{a c:List Int}(h:lexLt a c=false)(h2:lexLt c a=false):a=c:=qv (by unfold lexLe;rw[h2];rfl) (by unfold lexLe;rw[h];rfl)
end
section
open Ex
abbrev Pc:Str:="NoWorld"
abbrev J1:Str:="NoPlace"
structure iV(m:List D->Option D)(x:List D->Option Str)(ds:List D)(c:Str):Prop where
 n:m ds=none
 x:x ds=some c
structure yo(m:List D->Option D)(x:List D->Option Str)(ds:List D):Prop where
 n:m ds=some .none
 x:x ds=none
section
variable {m:List D->Option D}{x:List D->Option Str}{ds:List D}{c:Str}{n:Nat}{fs:Dl.Env->Option (List D)}{ρ:aq}
theorem yt(h:m ds=none){ρ:Dl.Env}(hf:fs ρ=some ds):ah n m fs ρ=none:=by
 unfold ah
 rw[hf,zA,h]
 simp
theorem Ow(h:x ds=some c){ρ:Dl.Env}(hf:fs ρ=some ds)(hn:ds.length=n):jn n x fs ρ=some c:=by
 unfold jn
 rw[hf,zA,yL hn,h]
theorem QF(h:x ds=none){ρ:Dl.Env}(hf:fs ρ=some ds):jn n x fs ρ=none:=by
 unfold jn
 rw[hf,zA,h]
 simp
theorem PJ{f:Dl.Env->Option D}(h:f (aW ρ)=none):bH f ρ=none:=by
 unfold bH
 rw[h]
 rfl
theorem iV.one(B:iV m x ds c)(hf:fs (aW ρ)=some ds)(hn:ds.length=n):bH (ah n m fs) ρ=none/\dc (jn n x fs) ρ=some c:=⟨PJ (yt B.n hf),Ow B.x hf hn⟩
theorem yo.one(B:yo m x ds)(hf:fs (aW ρ)=some ds)(hn:ds.length=n):bH (ah n m fs) ρ=some (.nx ρ)/\dc (jn n x fs) ρ=none:=⟨cK (call_of B.n hf hn),QF B.x hf⟩
theorem iV.head(B:iV m x ds c)(hf:fs (aW ρ)=some ds)(hn:ds.length=n){g:aq->Option Out}{xr:XS}:ay (bH (ah n m fs)) g ρ=none/\bT (dc (jn n x fs)) (bH (ah n m fs)) xr ρ=some c:=by
 obtain⟨a,b⟩:=B.one hf hn
 constructor
 ·unfold ay
  rw[a]
  rfl
 ·unfold bT
  rw[b]
theorem yo.tail(B:yo m x ds)(hf:fs (aW ρ)=some ds)(hn:ds.length=n){g:aq->Option Out}{xr:XS}:ay (bH (ah n m fs)) g ρ=g ρ/\bT (dc (jn n x fs)) (bH (ah n m fs)) xr ρ=xr ρ:=by
 obtain⟨a,b⟩:=B.one hf hn
 constructor
 ·exact ar a
 ·unfold bT p8
  rw[b,a]
  rfl
theorem runN{g:aq->Option Out}{n:Nat}(h:g (ds.map Slot.val++List.replicate (n - ds.length) .non)=none):b9 g n ds=none:=by
 unfold b9
 rw[h]
 rfl
theorem M7{t:Dl.Env->Option Bool}{xa xb:XS}(h:t (aW ρ)=some true):Et t xa xb ρ=xa ρ:=by
 unfold Et
 rw[h,zA,yL rfl]
theorem zg{t:Dl.Env->Option Bool}{xa xb:XS}(h:t (aW ρ)=some false):Et t xa xb ρ=xb ρ:=by
 unfold Et
 rw[h,zA,yN (by simp)]
end
section
variable {G T:List Pl}{W:List Wy}{P X:List Int}{b:Bool}{i:Nat}
theorem Iu{d:D}(h:aY [d]=some (.bool false)):iV az aL [d] Pc:=by
 have c:(cu (fB (ah 1 aY (aa (ae 0) af)))) (aW [.val d])=some true:=jh (b:=false) (eM (call_of h rfl rfl))
 exact⟨runN (fX c),M7 c⟩
theorem Mq(h:Wd G T W):yo az aL [aX G T W]:=⟨dH h,zg (jh (b:=true) (eM (call_of (j6 h) rfl rfl)))⟩
theorem JC{d:D}{a e:Int}(hd:ip d=true)(h:whole a e d=false):iV aF aK [d,.int a,.int e] J1:=by
 have c:(cu (fB (ah 3 bf (aa (ae 0) (aa (ae 1) (aa (ae 2) af)))))) (aW [.val d,.val (.int a),.val (.int e)])=some true:=jh (b:=false) (eM (call_of ((eX hd a e).trans (by rw[h])) rfl rfl))
 exact⟨runN (fX c),M7 c⟩
theorem Qk{d:D}{a e:Int}(hd:ip d=true)(h:whole a e d=true):yo aF aK [d,.int a,.int e]:=by
 have c:(cu (fB (ah 3 bf (aa (ae 0) (aa (ae 1) (aa (ae 2) af)))))) (aW [.val d,.val (.int a),.val (.int e)])=some false:=jh (b:=true) (eM (call_of ((eX hd a e).trans (by rw[h])) rfl rfl))
 refine⟨?_,zg c⟩
 show (ck [.val d,.val (.int a),.val (.int e)]).map _=_
 rw[show ck [.val d,.val (.int a),.val (.int e)]=some (.nx [.val d,.val (.int a),.val (.int e)]) from bC c]
 rfl
theorem DJ{d:D}{n:Int}(hd:ip d=true)(h:whole 0 (n - 1) d=false):iV ao au [d,.int n] J1 :=
 let z:=(JC hd h).one (ρ:=[.val d,.val (.int n)]) (fs:=aa (ae 0) (aa (fC (.int 0)) (aa (f2 Dl.lJ (ae 1) (fC (.int 1))) af))) (n:=3) rfl rfl
 ⟨runN z.1,z.2⟩
theorem okN{d:D}{n:Int}(hd:ip d=true)(h:whole 0 (n - 1) d=true):yo ao au [d,.int n]:=by
 have z:=(Qk hd h).one (ρ:=[.val d,.val (.int n)]) (fs:=aa (ae 0) (aa (fC (.int 0)) (aa (f2 Dl.lJ (ae 1) (fC (.int 1))) af))) (n:=3) rfl rfl
 refine⟨?_,z.2⟩
 show (bQ [.val d,.val (.int n)]).map _=_
 rw[show bQ [.val d,.val (.int n)]=_ from z.1]
 rfl
theorem KG(b:Bool):yo dv fT [.int (sI b)]:=by
 have hb:whole 0 (2 - 1) (.int (sI b))=true:=by cases b<;>rfl
 exact⟨ni b,((okN (n:=2) rfl hb).one (ρ:=[.val (.int (sI b))]) (fs:=aa (ae 0) (aa (fC (.int 2)) af)) (n:=2) rfl rfl).2⟩
theorem Ob(h:Wd G T W)(b:Bool){d:D}(hd:ip d=true)(hw:whole 0 ((aR b G T).length - 1) d=false):iV aH aZ [aX G T W,.int (sI b),d] J1:=by
 have z:=(DJ (n:=(aR b G T).length) hd hw).one (ρ:=[.val (aX G T W),.val (.int (sI b)),.val d]) (fs:=aa (ae 2) (aa (bR bz (aa (f2 aC (ae 0) (ae 1)) af)) af)) (n:=2) (cons_of rfl (As (b:=b) rfl rfl)) rfl
 have t:=(KG b).tail (ρ:=[.val (aX G T W),.val (.int (sI b)),.val d]) (fs:=aa (ae 1) af) (n:=1) rfl rfl (g:=bH (ah 2 ao (aa (ae 2) (aa (bR bz (aa (f2 aC (ae 0) (ae 1)) af)) af)))) (xr:=dc (jn 2 au (aa (ae 2) (aa (bR bz (aa (f2 aC (ae 0) (ae 1)) af)) af))))
 exact⟨runN (t.1.trans z.1),t.2.trans z.2⟩
theorem Cn{gb:aq->Option Out}{xg:XS}{fin:Str->Option D}{ρ:aq}{d:D}(h:gb ρ=some (.rt d)):Ar gb xg fin ρ=some (.rt d):=by
 unfold Ar
 rw[h]
theorem vp{gb:aq->Option Out}{xg:XS}{fin:Str->Option D}{ρ:aq}{c:Str}{d:D}(h:gb ρ=none)(h2:xg ρ=some c)(h3:fin c=some d):Ar gb xg fin ρ=some (.rt d):=by
 unfold Ar
 rw[h,h2]
 simp only[zA,h3,zB]
def cP(j:Int):D:=.tuple [.str "refused",.int j]
abbrev GK:List Str:=["NoWorld","NoPlan","NoPlace","TooMany","Nothing"]
theorem Fd{c:Str}{j:Nat}(h:GK.contains c=true)(hj:va (.bool true) (GK.map fun n=>.bool (c == n))=some j):my GK c=some (cP j):=by
 unfold my
 rw[yL h,hj]
 rfl
theorem Nr(b:Bool):PyData.eqv (.bool b) (.bool true)=b:=by cases b<;>simp[PyData.eqv]
theorem JL:my GK Pc=some (cP 0):=Fd (by decide +kernel) (by simp only[GK,zI,va,Nr,show (Pc == ("NoWorld":Str))=true by decide +kernel,xH])
theorem qu:my GK J1=some (cP 2):=Fd (by decide +kernel) (by simp only[GK,zI,va,Nr,show (J1 == ("NoWorld":Str))=false by decide +kernel,show (J1 == ("NoPlan":Str))=false by decide +kernel,show (J1 == ("NoPlace":Str))=true by decide +kernel,xH,yO,qP,zB])
theorem Iz(j:Int):PyData.eqv (cP j) (cP j)=true:=lC fun d hd=>by
 simp only[zQ,yE,xU] at hd
 rcases hd with rfl|rfl
 ·simp[PyData.eqv]
 ·exact EF j
theorem oI(j:Int):∀n:Nat,SeqAt.shaped (.list (List.replicate n (cP j)))=true:=fun n=>by
 have h:∀n:Nat,PyData.canLayAll0 (List.replicate n (cP j))=true/\PyData.depthAll (List.replicate n (cP j))<=2:=fun n=>by
  have hs:PyData.canLay0 (cP j)=true:=by simp[cP,PyData.canLay0,PyData.canLayAll0];decide +kernel
  have hd:PyData.depth (cP j)<=2:=by simp[cP,PyData.depth,PyData.depthAll]
  induction n with
  | zero=>exact⟨by simp[PyData.canLayAll0],by simp[PyData.depthAll]⟩
  | succ n ih=>exact⟨by simp[xE,PyData.canLayAll0,hs,ih.1],by simp only[xE,PyData.depthAll];omega⟩
 have:=h n
 unfold SeqAt.shaped
 rw[zF]
 exact⟨by simp[PyData.canLay0,this.1],by simp[PyData.depth];omega⟩
theorem zk(j:Int)(n:Nat):PyData.eqv (.list (List.replicate n (cP j))) (.list (List.replicate n (cP j)))=true:=by
 rw[PyData.eqv]
 exact ka fun d hd=>by rw[List.eq_of_mem_replicate hd];exact Iz j
theorem DN(j:Int)(n:Nat):cI (.list (List.replicate n (cP j))) (.list (List.replicate n (cP j)))=some (.bool true):=by simp only[cI,Ms,oI,jO,xH,zk,zB]
theorem Ej(j:Int)(n:Nat):dD (.list (List.replicate n (cP j))) (.list (List.replicate n (cP j)))=some (.bool false):=by simp only[dD,LW,oI,jO,xH,zk,zB];rfl
theorem ug{α:Type}(a:α):∀n:Nat,(List.replicate n [a]).flatten=List.replicate n a
 | 0=>rfl
 | n+1=>by rw[xE,qM,ug a n,xE];rfl
theorem Da{cs:List Nat}{fi:Dl.Env->Option (List D)}{te:Dl.Env->Option D}{ρ:Dl.Env}{is:List Nat}{j:Int}(hfi:fi ρ=some (is.map nD))(hl:is.length<=1000)(hh:∀i∈is,te (some (nD i)::cs.map fun j=>(ρ[j]?).getD none)=some (cP j)):dM (aN 1 cs fi (fG 0) (fun _=>some true) te) ρ=some (.list (List.replicate is.length (cP j))):=by
 rw[iO (tV (f:=fun _=>cP j) hfi hl hh),List.map_const']
end
end
namespace K50M
open Ex
section
variable {G T:List Pl}{W:List Wy}{b:Bool}{i j k:Nat}{w s l d e:D}{c:Str}
theorem OE(h:Wd G T W)(b:Bool)(hi:i < (aR b G T).length):yo aH aZ [aX G T W,.int (sI b),nD i]:=by
 have hn:whole 0 (((aR b G T).length:Int) - 1) (nD i)=true:=by
  show (decide ((0:Int)<=((i:Nat):Int))&&decide (((i:Nat):Int)<=((aR b G T).length:Int) - 1))=true
  rw[zZ (by omega),zZ (by omega)]
  rfl
 have z:=(okN (n:=(aR b G T).length) rfl hn).one (ρ:=[.val (aX G T W),.val (.int (sI b)),.val (nD i)]) (fs:=aa (ae 2) (aa (bR bz (aa (f2 aC (ae 0) (ae 1)) af)) af)) (n:=2) (cons_of rfl (As (b:=b) rfl rfl)) rfl
 have t:=(KG b).tail (ρ:=[.val (aX G T W),.val (.int (sI b)),.val (nD i)]) (fs:=aa (ae 1) af) (n:=1) rfl rfl (g:=cU) (xr:=dc (jn 2 au (aa (ae 2) (aa (bR bz (aa (f2 aC (ae 0) (ae 1)) af)) af))))
 exact⟨eh h b hi,t.2.trans z.2⟩
theorem QI(hk:k < W.length):yo ao au [nD k,nD W.length]:=okN (n:=(W.length:Nat)) rfl (by
 show (decide ((0:Int)<=((k:Nat):Int))&&decide (((k:Nat):Int)<=((W.length:Nat):Int) - 1))=true
 rw[zZ (by omega),zZ (by omega)]
 rfl)
theorem OT{a m x:Int}(h1:a<=x)(h2:x<=m):yo aF aK [.int x,.int a,.int m]:=Qk rfl (by
 show (decide (a<=x)&&decide (x<=m))=true
 rw[zZ h1,zZ h2]
 rfl)
abbrev wl:Dl.Env->Option (List D):=aa (ae 1) (aa (bR bz (aa (f2 aC (ae 0) (fC (.int 2))) af)) af)
theorem Cp{ρ:aq}(h0:ae 0 (aW ρ)=some (aX G T W))(h1:ae 1 (aW ρ)=some l):wl (aW ρ)=some [l,nD W.length]:=cons_of h1 (cons_of (gw (l:=W) (k:=aE) (ax (fV G T W) h0 rfl)) rfl)
theorem O9{a:D}(B:iV az aL [w] c):iV bw bZ [w,a,l,d] c :=
 let z:=B.head (ρ:=[.val w,.val a,.val l,.val d]) (fs:=aa (ae 0) af) rfl rfl
 ⟨runN z.1,z.2⟩
theorem P6{a:D}(h:Wd G T W)(B:iV aH aZ [aX G T W,a,l] c):iV bw bZ [aX G T W,a,l,d] c:=by
 have t:=fun g xr=>(Mq h).tail (ρ:=[.val (aX G T W),.val a,.val l,.val d]) (fs:=aa (ae 0) af) (n:=1) rfl rfl (g:=g) (xr:=xr)
 have z:=fun g xr=>B.head (ρ:=[.val (aX G T W),.val a,.val l,.val d]) (fs:=aa (ae 0) (aa (ae 1) (aa (ae 2) af))) (n:=3) rfl rfl (g:=g) (xr:=xr)
 exact⟨runN ((t _ bY).1.trans (z _ bY).1),(t cU _).2.trans (z cU _).2⟩
theorem O0(h:Wd G T W)(hi:i < (aR b G T).length)(B:iV aF aK [d,.int 0,.int 9] c):iV bw bZ [aX G T W,.int (sI b),nD i,d] c:=by
 have t:=fun g xr=>(Mq h).tail (ρ:=[.val (aX G T W),.val (.int (sI b)),.val (nD i),.val d]) (fs:=aa (ae 0) af) (n:=1) rfl rfl (g:=g) (xr:=xr)
 have u:=fun g xr=>(OE h b hi).tail (ρ:=[.val (aX G T W),.val (.int (sI b)),.val (nD i),.val d]) (fs:=aa (ae 0) (aa (ae 1) (aa (ae 2) af))) (n:=3) rfl rfl (g:=g) (xr:=xr)
 have z:=fun g=>B.head (ρ:=[.val (aX G T W),.val (.int (sI b)),.val (nD i),.val d]) (fs:=aa (ae 3) (aa (fC (.int 0)) (aa (fC (.int 9)) af))) (n:=3) rfl rfl (g:=g) (xr:=bY)
 have z2:=B.one (ρ:=[.val (aX G T W),.val (.int (sI b)),.val (nD i),.val d]) (fs:=aa (ae 3) (aa (fC (.int 0)) (aa (fC (.int 9)) af))) (n:=3) rfl rfl
 exact⟨runN ((t _ bY).1.trans ((u _ bY).1.trans (z _).1)),(t cU _).2.trans ((u cU _).2.trans z2.2)⟩
theorem Pf{a:D}(B:iV az aL [w] c):iV bE cC [w,a,d] c :=
 let z:=B.head (ρ:=[.val w,.val a,.val d,.non]) (fs:=aa (ae 0) af) rfl rfl
 ⟨runN z.1,z.2⟩
theorem PM(h:Wd G T W)(B:iV ao au [l,nD W.length] c):iV bE cC [aX G T W,l,d] c:=by
 have t:=fun g xr=>(Mq h).tail (ρ:=[.val (aX G T W),.val l,.val d,.non]) (fs:=aa (ae 0) af) (n:=1) rfl rfl (g:=g) (xr:=xr)
 have z:=fun g xr=>B.head (ρ:=[.val (aX G T W),.val l,.val d,.non]) (fs:=wl) (n:=2) (Cp rfl rfl) rfl (g:=g) (xr:=xr)
 exact⟨runN ((t _ bY).1.trans (z _ bY).1),(t cU _).2.trans (z cU _).2⟩
theorem Pe(h:Wd G T W)(hk:k < W.length)(B:iV aF aK [d,.int 1,.int 9] c):iV bE cC [aX G T W,nD k,d] c:=by
 have t:=fun g xr=>(Mq h).tail (ρ:=[.val (aX G T W),.val (nD k),.val d,.non]) (fs:=aa (ae 0) af) (n:=1) rfl rfl (g:=g) (xr:=xr)
 have u:=fun g xr=>(QI hk).tail (ρ:=[.val (aX G T W),.val (nD k),.val d,.non]) (fs:=wl) (n:=2) (Cp rfl rfl) rfl (g:=g) (xr:=xr)
 have z:=fun g=>B.head (ρ:=[.val (aX G T W),.val (nD k),.val d,.non]) (fs:=aa (ae 2) (aa (fC (.int 1)) (aa (fC (.int 9)) af))) (n:=3) rfl rfl (g:=g) (xr:=bY)
 have z2:=B.one (ρ:=[.val (aX G T W),.val (nD k),.val d,.non]) (fs:=aa (ae 2) (aa (fC (.int 1)) (aa (fC (.int 9)) af))) (n:=3) rfl rfl
 exact⟨runN ((t _ bY).1.trans ((u _ bY).1.trans (z _).1)),(t cU _).2.trans ((u cU _).2.trans z2.2)⟩
theorem Pd{a:D}(B:iV az aL [w] c):iV bD cO [w,a] c :=
 let z:=B.head (ρ:=[.val w,.val a,.non,.non,.non,.non]) (fs:=aa (ae 0) af) rfl rfl
 ⟨runN z.1,z.2⟩
theorem Nm(h:Wd G T W)(B:iV ao au [l,nD W.length] c):iV bD cO [aX G T W,l] c:=by
 have t:=fun g xr=>(Mq h).tail (ρ:=[.val (aX G T W),.val l,.non,.non,.non,.non]) (fs:=aa (ae 0) af) (n:=1) rfl rfl (g:=g) (xr:=xr)
 have z:=fun g=>B.head (ρ:=[.val (aX G T W),.val l,.non,.non,.non,.non]) (fs:=wl) (n:=2) (Cp rfl rfl) rfl (g:=g) (xr:=bY)
 have z2:=B.one (ρ:=[.val (aX G T W),.val l,.non,.non,.non,.non]) (fs:=wl) (n:=2) (Cp rfl rfl) rfl
 exact⟨runN ((t _ bY).1.trans (z _).1),(t cU _).2.trans z2.2⟩
abbrev sV(w i j c d e:D)(x6 x7:Slot):aq:=[.val w,.val i,.val j,.val c,.val d,.val e,x6,x7,.non]
theorem PY{a f g:D}(B:iV az aL [w] c):iV bI b8 [w,a,f,g,d,e] c :=
 let z:=B.head (ρ:=sV w a f g d e .non .non) (fs:=aa (ae 0) af) rfl rfl
 ⟨runN z.1,z.2⟩
theorem Pu{f g:D}(h:Wd G T W)(hi:i < G.length)(B:iV aH aZ [aX G T W,.int 1,f] c):iV bI b8 [aX G T W,nD i,f,g,d,e] c:=by
 have t:=fun g' xr=>(Mq h).tail (ρ:=sV (aX G T W) (nD i) f g d e .non .non) (fs:=aa (ae 0) af) (n:=1) rfl rfl (g:=g') (xr:=xr)
 have u:=fun g' xr=>(OE h false (i:=i) hi).tail (ρ:=sV (aX G T W) (nD i) f g d e .non .non) (fs:=aa (ae 0) (aa (fC (.int 0)) (aa (ae 1) af))) (n:=3) rfl rfl (g:=g') (xr:=xr)
 have z:=fun g' xr=>B.head (ρ:=sV (aX G T W) (nD i) f g d e .non .non) (fs:=aa (ae 0) (aa (fC (.int 1)) (aa (ae 2) af))) (n:=3) rfl rfl (g:=g') (xr:=xr)
 exact⟨runN ((t _ bY).1.trans ((u _ bY).1.trans (z _ bY).1)),(t cU _).2.trans ((u cU _).2.trans (z cU _).2)⟩
theorem yx{g:D}(h:Wd G T W)(hi:i < G.length)(hj:j < T.length)(g':aq->Option Out)(xr:XS) :
  ay (bH (ah 1 az (aa (ae 0) af))) (ay (bH (ah 3 aH (aa (ae 0) (aa (fC (.int 0)) (aa (ae 1) af))))) (ay (bH (ah 3 aH (aa (ae 0) (aa (fC (.int 1)) (aa (ae 2) af))))) g')) (sV (aX G T W) (nD i) (nD j) g d e .non .non)=g' (sV (aX G T W) (nD i) (nD j) g d e .non .non) /\
  bT (dc (jn 1 aL (aa (ae 0) af))) (bH (ah 1 az (aa (ae 0) af))) (bT (dc (jn 3 aZ (aa (ae 0) (aa (fC (.int 0)) (aa (ae 1) af))))) (bH (ah 3 aH (aa (ae 0) (aa (fC (.int 0)) (aa (ae 1) af))))) (bT (dc (jn 3 aZ (aa (ae 0) (aa (fC (.int 1)) (aa (ae 2) af))))) (bH (ah 3 aH (aa (ae 0) (aa (fC (.int 1)) (aa (ae 2) af))))) xr)) (sV (aX G T W) (nD i) (nD j) g d e .non .non)=xr (sV (aX G T W) (nD i) (nD j) g d e .non .non):=by
 have t:=fun g' xr=>(Mq h).tail (ρ:=sV (aX G T W) (nD i) (nD j) g d e .non .non) (fs:=aa (ae 0) af) (n:=1) rfl rfl (g:=g') (xr:=xr)
 have u:=fun g' xr=>(OE h false (i:=i) hi).tail (ρ:=sV (aX G T W) (nD i) (nD j) g d e .non .non) (fs:=aa (ae 0) (aa (fC (.int 0)) (aa (ae 1) af))) (n:=3) rfl rfl (g:=g') (xr:=xr)
 have v:=fun g' xr=>(OE h true (i:=j) hj).tail (ρ:=sV (aX G T W) (nD i) (nD j) g d e .non .non) (fs:=aa (ae 0) (aa (fC (.int 1)) (aa (ae 2) af))) (n:=3) rfl rfl (g:=g') (xr:=xr)
 exact⟨(t _ bY).1.trans ((u _ bY).1.trans (v _ bY).1),(t cU _).2.trans ((u cU _).2.trans (v cU _).2)⟩
theorem P7{g:D}(h:Wd G T W)(hi:i < G.length)(hj:j < T.length)(B:iV aF aK [g,.int 1,.int 9] c):iV bI b8 [aX G T W,nD i,nD j,g,d,e] c:=by
 have z:=fun g' xr=>B.head (ρ:=sV (aX G T W) (nD i) (nD j) g d e .non .non) (fs:=aa (ae 3) (aa (fC (.int 1)) (aa (fC (.int 9)) af))) (n:=3) rfl rfl (g:=g') (xr:=xr)
 exact⟨runN ((yx h hi hj _ bY).1.trans (z _ bY).1),(yx h hi hj cU _).2.trans (z cU _).2⟩
theorem Np{g:aq->Option Out}{xr:XS}{ρ ρ':aq}(h:g ρ=some (.nx ρ')):p8 g xr ρ=xr ρ':=by
 unfold p8
 rw[h]
 rfl
abbrev l6:Dl.Env->Option (List D):=aa (ae 4) (aa (f2 Dl.aJ (bR bz (aa (ae 6) af)) (fC (.int 1))) af)
abbrev l7:Dl.Env->Option (List D):=aa (ae 5) (aa (f2 Dl.aJ (bR bz (aa (ae 7) af)) (fC (.int 1))) af)
abbrev sU(G T:List Pl)(W:List Wy)(i j:Nat)(x:Int)(d e:D):aq:=sV (aX G T W) (nD i) (nD j) (.int x) d e (.val (av (bc false G T i).2)) (.val (av (bc true G T j).2))
theorem DZ{x:Int}(h:Wd G T W)(hi:i < G.length)(hj:j < T.length)(hx:1<=x/\x<=9)(g':aq->Option Out)(xr:XS) :
  ay (bH (ah 3 aF (aa (ae 3) (aa (fC (.int 1)) (aa (fC (.int 9)) af))))) (ay (Dl.ba 6 [0,1] (f2 aC (f2 aC (f2 aC (ae 0) (fC (.int 0))) (ae 1)) (fC (.int 1)))) (ay (Dl.ba 7 [0,2] (f2 aC (f2 aC (f2 aC (ae 0) (fC (.int 1))) (ae 2)) (fC (.int 1)))) g')) (sV (aX G T W) (nD i) (nD j) (.int x) d e .non .non)=g' (sU G T W i j x d e) /\
  bT (dc (jn 3 aK (aa (ae 3) (aa (fC (.int 1)) (aa (fC (.int 9)) af))))) (bH (ah 3 aF (aa (ae 3) (aa (fC (.int 1)) (aa (fC (.int 9)) af))))) (p8 (Dl.ba 6 [0,1] (f2 aC (f2 aC (f2 aC (ae 0) (fC (.int 0))) (ae 1)) (fC (.int 1)))) (p8 (Dl.ba 7 [0,2] (f2 aC (f2 aC (f2 aC (ae 0) (fC (.int 1))) (ae 2)) (fC (.int 1)))) xr)) (sV (aX G T W) (nD i) (nD j) (.int x) d e .non .non)=xr (sU G T W i j x d e):=by
 have t:=fun g' xr=>(OT hx.1 hx.2).tail (ρ:=sV (aX G T W) (nD i) (nD j) (.int x) d e .non .non) (fs:=aa (ae 3) (aa (fC (.int 1)) (aa (fC (.int 9)) af))) (n:=3) rfl rfl (g:=g') (xr:=xr)
 have ei:aC (.tuple ((aR false G T).map aD)) (nD i)=some (aD (bc false G T i)):=gD (cR (b:=false) hi)
 have ej:aC (.tuple ((aR true G T).map aD)) (nD j)=some (aD (bc true G T j)):=gD (cR (b:=true) hj)
 have s6:Dl.ba 6 [0,1] (f2 aC (f2 aC (f2 aC (ae 0) (fC (.int 0))) (ae 1)) (fC (.int 1))) (sV (aX G T W) (nD i) (nD j) (.int x) d e .non .non)=some (.nx (sV (aX G T W) (nD i) (nD j) (.int x) d e (.val (av (bc false G T i).2)) .non)):=by
  have z:∀ρ:Dl.Env,ae 0 ρ=some (aX G T W)->ae 1 ρ=some (nD i)->f2 aC (f2 aC (f2 aC (ae 0) (fC (.int 0))) (ae 1)) (fC (.int 1)) ρ=some (av (bc false G T i).2):=fun ρ a c=>ax (a:=aD (bc false G T i)) (b:=.int 1) rfl (ax ei (ax (dw false G T W) a rfl) c) rfl
  exact bp (z _ rfl rfl) (z _ rfl rfl) rfl
 have s7:Dl.ba 7 [0,2] (f2 aC (f2 aC (f2 aC (ae 0) (fC (.int 1))) (ae 2)) (fC (.int 1))) (sV (aX G T W) (nD i) (nD j) (.int x) d e (.val (av (bc false G T i).2)) .non)=some (.nx (sU G T W i j x d e)):=by
  have z:∀ρ:Dl.Env,ae 0 ρ=some (aX G T W)->ae 2 ρ=some (nD j)->f2 aC (f2 aC (f2 aC (ae 0) (fC (.int 1))) (ae 2)) (fC (.int 1)) ρ=some (av (bc true G T j).2):=fun ρ a c=>ax (a:=aD (bc true G T j)) (b:=.int 1) rfl (ax ej (ax (dw true G T W) a rfl) c) rfl
  exact bp (z _ rfl rfl) (z _ rfl rfl) rfl
 exact⟨(t _ bY).1.trans ((ar s6).trans (ar s7)),(t cU _).2.trans ((Np s6).trans (Np s7))⟩
theorem GJ(x:Int):l6 (aW (sU G T W i j x d e))=some [d,.int (((bc false G T i).2.length:Nat)+1:Int)]:=cons_of rfl (cons_of (ax (dG _ _) (gw (l:=(bc false G T i).2) (k:=PyData.int) rfl) rfl) rfl)
theorem Kd(x:Int):l7 (aW (sU G T W i j x d e))=some [e,.int (((bc true G T j).2.length:Nat)+1:Int)]:=cons_of rfl (cons_of (ax (dG _ _) (gw (l:=(bc true G T j).2) (k:=PyData.int) rfl) rfl) rfl)
theorem PB{x:Int}(h:Wd G T W)(hi:i < G.length)(hj:j < T.length)(hx:1<=x/\x<=9)(B:iV ao au [d,.int (((bc false G T i).2.length:Nat)+1:Int)] c):iV bI b8 [aX G T W,nD i,nD j,.int x,d,e] c:=by
 have z:=fun g' xr=>B.head (ρ:=sU G T W i j x d e) (fs:=l6) (n:=2) (GJ x) rfl (g:=g') (xr:=xr)
 exact⟨runN ((yx h hi hj _ bY).1.trans ((DZ h hi hj hx _ bY).1.trans (z _ bY).1)),(yx h hi hj cU _).2.trans ((DZ h hi hj hx cU _).2.trans (z cU _).2)⟩
theorem Pi{x:Int}(h:Wd G T W)(hi:i < G.length)(hj:j < T.length)(hx:1<=x/\x<=9)(O:yo ao au [d,.int (((bc false G T i).2.length:Nat)+1:Int)])(B:iV ao au [e,.int (((bc true G T j).2.length:Nat)+1:Int)] c):iV bI b8 [aX G T W,nD i,nD j,.int x,d,e] c:=by
 have y:=fun g' xr=>O.tail (ρ:=sU G T W i j x d e) (fs:=l6) (n:=2) (GJ x) rfl (g:=g') (xr:=xr)
 have z:=fun g' xr=>B.head (ρ:=sU G T W i j x d e) (fs:=l7) (n:=2) (Kd x) rfl (g:=g') (xr:=xr)
 exact⟨runN ((yx h hi hj _ bY).1.trans ((DZ h hi hj hx _ bY).1.trans ((y _ bY).1.trans (z _ bY).1))),(yx h hi hj cU _).2.trans ((DZ h hi hj hx cU _).2.trans ((y cU _).2.trans (z cU _).2))⟩
theorem P5{x:Int}(h:Wd G T W)(hi:i < G.length)(hj:j < T.length)(hx:1<=x/\x<=9)(O:yo ao au [d,.int (((bc false G T i).2.length:Nat)+1:Int)])(O':yo ao au [e,.int (((bc true G T j).2.length:Nat)+1:Int)])(hin:((j:Nat):Int)∈(bc false G T i).2):iV bI b8 [aX G T W,nD i,nD j,.int x,d,e] J1:=by
 have y:=fun g' xr=>O.tail (ρ:=sU G T W i j x d e) (fs:=l6) (n:=2) (GJ x) rfl (g:=g') (xr:=xr)
 have z:=fun g' xr=>O'.tail (ρ:=sU G T W i j x d e) (fs:=l7) (n:=2) (Kd x) rfl (g:=g') (xr:=xr)
 have t:(fB (f2 pk (ae 2) (ae 6))) (aW (sU G T W i j x d e))=some true:=eM (ax ((zi (bc false G T i).2 ((j:Nat):Int)).trans (by rw[zZ hin])) rfl rfl)
 have n1:∀g',ay (iw (fB (f2 pk (ae 2) (ae 6))) KS cU) g' (sU G T W i j x d e)=none:=fun g'=>by
  unfold ay
  rw[show iw (fB (f2 pk (ae 2) (ae 6))) KS cU (sU G T W i j x d e)=none from fX t]
  rfl
 exact⟨runN ((yx h hi hj _ bY).1.trans ((DZ h hi hj hx _ bY).1.trans ((y _ bY).1.trans ((z _ bY).1.trans (n1 _))))),(yx h hi hj cU _).2.trans ((DZ h hi hj hx cU _).2.trans ((y cU _).2.trans ((z cU _).2.trans (M7 t))))⟩
theorem Jx{f:Dl.Env->Option D}{ρ:aq}(h:f (aW ρ)=none):bu f ρ=none:=by
 unfold bu
 rw[h]
 rfl
theorem Ey{xh xr:XS}{g:aq->Option Out}{ρ:aq}(h:xh ρ=some c):bT xh g xr ρ=some c:=by
 unfold bT
 rw[h]
theorem tP{xh xr:XS}{g:aq->Option Out}{ρ:aq}(h:xh ρ=none)(hg:g ρ=some (.nx ρ)):bT xh g xr ρ=xr ρ:=by
 unfold bT p8
 rw[h,hg]
 rfl
theorem Mb{g1 g2:aq->Option Out}{ρ:aq}(h:g1 ρ=none):ay g1 g2 ρ=none:=by
 unfold ay
 rw[h]
 rfl
abbrev env(k:Int)(w s:D):aq:=[.val (.int k),.val w,.val s,.non]
theorem teq(k j:Int):(fB (f2 cI (ae 0) (fC (.int j)))) (aW (env k w s))=some (decide (k=j)):=eM (ax (iD k j) rfl rfl)
theorem at_of{n:Int}{a:D}(k:Int)(h:aC s (.int n)=some a):f2 aC (ae 2) (fC (.int n)) (aW (env k w s))=some a:=ax h rfl rfl
abbrev a3:Dl.Env->Option (List D):=aa (ae 1) (aa (f2 aC (ae 2) (fC (.int 0))) (aa (f2 aC (ae 2) (fC (.int 1))) (aa (f2 aC (ae 2) (fC (.int 2))) af)))
abbrev a2:Dl.Env->Option (List D):=aa (ae 1) (aa (f2 aC (ae 2) (fC (.int 0))) (aa (f2 aC (ae 2) (fC (.int 1))) af))
abbrev a1:Dl.Env->Option (List D):=aa (ae 1) (aa (f2 aC (ae 2) (fC (.int 0))) af)
abbrev a5:Dl.Env->Option (List D):=aa (ae 1) (aa (f2 aC (ae 2) (fC (.int 0))) (aa (f2 aC (ae 2) (fC (.int 1))) (aa (f2 aC (ae 2) (fC (.int 2))) (aa (f2 aC (ae 2) (fC (.int 3))) (aa (f2 aC (ae 2) (fC (.int 4))) af)))))
theorem nU{ds:List D}{i:Nat}{d:D}(h:ds[i]?=some d):aC (.tuple ds) (nD i)=some d:=by
 have:=gD (f:=fun d:D=>d) (l:=ds) (i:=i) h
 rw[List.map_id'] at this
 exact this
theorem Ez{a f g:D}{r:List D}(k:Int):a3 (aW (env k w (.tuple (a::f::g::r))))=some [w,a,f,g]:=cons_of rfl (cons_of (at_of k (s:=.tuple (a::f::g::r)) (nU (i:=0) rfl)) (cons_of (at_of k (s:=.tuple (a::f::g::r)) (nU (i:=1) rfl)) (cons_of (at_of k (s:=.tuple (a::f::g::r)) (nU (i:=2) rfl)) rfl)))
theorem FJ{a f:D}{r:List D}(k:Int):a2 (aW (env k w (.tuple (a::f::r))))=some [w,a,f]:=cons_of rfl (cons_of (at_of k (s:=.tuple (a::f::r)) (nU (i:=0) rfl)) (cons_of (at_of k (s:=.tuple (a::f::r)) (nU (i:=1) rfl)) rfl))
theorem Hv{a:D}{r:List D}(k:Int):a1 (aW (env k w (.tuple (a::r))))=some [w,a]:=cons_of rfl (cons_of (at_of k (s:=.tuple (a::r)) (nU (i:=0) rfl)) rfl)
theorem Hz{a f g h i:D}(k:Int):a5 (aW (env k w (.tuple [a,f,g,h,i])))=some [w,a,f,g,h,i]:=rfl
theorem NY{a f g:D}{r:List D}(h:bw [w,a,f,g]=some d):ai [.int 0,w,.tuple (a::f::g::r)]=some d:=bA (Cn (ρ:=env 0 w _) (BJ ((fX (teq 0 0)).trans (dq (call_of h (Ez 0) rfl)))))
theorem Oq{a f:D}{r:List D}(h:bE [w,a,f]=some d):ai [.int 1,w,.tuple (a::f::r)]=some d:=bA (Cn (ρ:=env 1 w _) ((ar (bC (teq 1 0))).trans (BJ ((fX (teq 1 1)).trans (dq (call_of h (FJ 1) rfl))))))
theorem NU{a:D}{r:List D}(h:bD [w,a]=some d):ai [.int 2,w,.tuple (a::r)]=some d:=bA (Cn (ρ:=env 2 w _) ((ar (bC (teq 2 0))).trans ((ar (bC (teq 2 1))).trans (BJ ((fX (teq 2 2)).trans (dq (call_of h (Hv 2) rfl)))))))
theorem N7{a f g q i:D}(h:bI [w,a,f,g,q,i]=some d):ai [.int 3,w,.tuple [a,f,g,q,i]]=some d:=bA (Cn (ρ:=env 3 w _) ((ar (bC (teq 3 0))).trans ((ar (bC (teq 3 1))).trans ((ar (bC (teq 3 2))).trans (dq (call_of h (Hz 3) rfl))))))
theorem LA{a f g:D}{r:List D}(B:iV bw bZ [w,a,f,g] c)(hf:my GK c=some d):ai [.int 0,w,.tuple (a::f::g::r)]=some d:=bA (vp (ρ:=env 0 w _) (Mb ((fX (teq 0 0)).trans (Jx (yt B.n (Ez 0))))) (Ey ((M7 (teq 0 0)).trans (Ow B.x (Ez 0) rfl))) hf)
theorem KN{a f:D}{r:List D}(B:iV bE cC [w,a,f] c)(hf:my GK c=some d):ai [.int 1,w,.tuple (a::f::r)]=some d:=bA (vp (ρ:=env 1 w _) ((ar (bC (teq 1 0))).trans (Mb ((fX (teq 1 1)).trans (Jx (yt B.n (FJ 1)))))) ((tP (zg (teq 1 0)) (bC (teq 1 0))).trans (Ey ((M7 (teq 1 1)).trans (Ow B.x (FJ 1) rfl)))) hf)
theorem Mu{a:D}{r:List D}(B:iV bD cO [w,a] c)(hf:my GK c=some d):ai [.int 2,w,.tuple (a::r)]=some d:=bA (vp (ρ:=env 2 w _) ((ar (bC (teq 2 0))).trans ((ar (bC (teq 2 1))).trans (Mb ((fX (teq 2 2)).trans (Jx (yt B.n (Hv 2))))))) ((tP (zg (teq 2 0)) (bC (teq 2 0))).trans ((tP (zg (teq 2 1)) (bC (teq 2 1))).trans (Ey ((M7 (teq 2 2)).trans (Ow B.x (Hv 2) rfl))))) hf)
theorem Ep{a f g q i:D}(B:iV bI b8 [w,a,f,g,q,i] c)(hf:my GK c=some d):ai [.int 3,w,.tuple [a,f,g,q,i]]=some d:=bA (vp (ρ:=env 3 w _) ((ar (bC (teq 3 0))).trans ((ar (bC (teq 3 1))).trans ((ar (bC (teq 3 2))).trans (Jx (yt B.n (Hz 3)))))) ((tP (zg (teq 3 0)) (bC (teq 3 0))).trans ((tP (zg (teq 3 1)) (bC (teq 3 1))).trans ((tP (zg (teq 3 2)) (bC (teq 3 2))).trans (Ow B.x (Hz 3) rfl)))) hf)
end
section
variable {G T:List Pl}{W:List Wy}{b:Bool}{i j k:Nat}{w s l d e:D}{c:Str}{ds:List D}
theorem nA{r:D}(ha:i < ds.length)(hl:ds.length<=1000):aQ [.tuple ds,nD i,r]=some (.tuple (ds.set i r)):=by
 refine bA ?_
 show fu [.val (.tuple ds),.val (nD i),.val r]=_
 unfold fu
 rw[List.set_eq_take_append_cons_drop,yL ha]
 refine dq (ax (a:=.tuple (ds.take i++[r])) (b:=.tuple (ds.drop (i+1))) ((dO ?_).trans (by rw[List.append_assoc];rfl)) (ax (dO ?_) (vy rfl rfl) (pI rfl)) (uB rfl (ax (dG ((i:Nat):Int) 1) rfl rfl)))
 ·simp only[zN,jV,qH,zL,xK]
  omega
 ·simp only[zN,jV,zL,xK]
  omega
theorem Hy{p:Pl}{x:Int}(hl:p.2.length<=1000):bq [aD p,.int x]=some (aD (p.1,p.2.filter fun y=>!decide (y=x))):=by
 refine bA ?_
 show dQ [.val (aD p),.val (.int x)]=_
 unfold dQ
 have hs:bO (f2 aC (ae 0) (fC (.int 1))) (aW [.val (aD p),.val (.int x)])=some (p.2.map PyData.int):=o4 (ax (a:=aD p) (b:=.int 1) rfl rfl rfl)
 have c:=oh (cs:=[1]) (tt:=fB (f2 dD (ae 0) (ae 1))) (te:=ae 0) (g:=PyData.int) (f:=PyData.int) (q:=fun y=>!decide (y=x)) hs hl fun y hy=>⟨eM (ax (zq y x) rfl rfl),fun _=>rfl⟩
 exact dq (tup_is (cons_of (ax (a:=aD p) (b:=.int 0) rfl rfl rfl) (cons_of ((nV (iO c)).trans (Fe _)) rfl)) (by simp))
theorem J5(h:Wd G T W)(hi:i < (aR b G T).length):(bc b G T i).2.length<=W.length:=by
 have h1:=(lb h hi).length_eq
 have h2:(own b W i).length<=W.length:=by
  refine yC (xP _ _) ?_
  rw[zR]
  exact yM _
 have h3:(lst b G T W i).length=(bc b G T i).2.length:=by simp[lst,A0]
 omega
def yh:List D:=[.int (-1),.int 10,.bool true,.none,.str "1"]
theorem nY:∀d∈yh,ip d=true:=fun d hd=>by
 simp only[yh,zQ,yE,xU] at hd
 rcases hd with rfl|rfl|rfl|rfl|rfl<;>rfl
theorem i6{a m:Int}(ha:0<=a)(hm:m<=9):∀d∈yh,whole a m d=false:=fun d hd=>by
 simp only[yh,zQ,yE,xU] at hd
 rcases hd with rfl|rfl|rfl|rfl|rfl
 ·show (decide (a<=-1)&&_)=false
  rw[zY (by omega),vZ]
 ·show (_&&decide (10<=m))=false
  rw[zY (show ¬ (10:Int)<=m by omega),kY]
 ·rfl
 ·rfl
 ·rfl
theorem Ih{l:List D}{r:Int}(h0:0<=r)(h1:r < l.length):∃d∈l,aC (.list l) (.int r)=some d:=by
 obtain⟨n,rfl⟩:∃n:Nat,r=((n:Nat):Int):=⟨r.toNat,by omega⟩
 have hn:n < l.length:=by omega
 have:=Jv (f:=fun d:D=>d) (l:=l) (i:=n) (zK hn)
 rw[List.map_id'] at this
 exact⟨_,qA hn,this⟩
theorem Jr(h:Wd G T W):aY [.tuple [.tuple (G.map aD),.tuple (T.map aD)]]=some (.bool false):=by
 have hf:∀x∈[PyData.tuple (G.map aD),.tuple (T.map aD),.tuple (W.map aE)],ik 16 3 x:=by
  rcases h.fit with z|⟨xs,z,_,z2⟩
  ·exact z.elim
  ·rcases z with z|z
   ·cases z
   ·cases z
    exact z2
 have hfit:ik 16 4 (.tuple [.tuple (G.map aD),.tuple (T.map aD)]):=.tup (by simp) fun x hx=>hf x (by simp only[zQ,yE,xU] at hx ⊢;rcases hx with rfl|rfl<;>simp)
 rw[mF hfit (by decide)]
 rfl
theorem Gh(j:Int){n:Nat}(hn:n<=1000){f:Dl.Env->Option D}{ρ:Dl.Env}(hf:f ρ=some (nD n)):dM (oH (cQ (aa (aA (aa (fC (.str "refused")) (aa (fC (.int j)) af))) af)) f) ρ=some (.list (List.replicate n (cP j))):=by
 refine iO ?_
 have hr:cQ (aa (aA (aa (fC (.str "refused")) (aa (fC (.int j)) af))) af) ρ=some [cP j]:=mi (cons_of (tup_is rfl (by simp)) rfl) (by simp)
 have hg:Cz [cP j] (.int ((n:Nat):Int))=some (List.replicate n [cP j]).flatten:=by
  have:=FG (ds:=[cP j]) (k:=((n:Nat):Int)) (vt (by omega)) (by rw[xC,Nat.one_mul,yF];exact yC hn (by decide))
  rw[yF] at this
  exact this
 unfold oH
 rw[hr,zA,hf,zA,hg,ug]
theorem Lo{n:Nat}{fz:List Nat}{fk f:Dl.Env->Option D}{ρ:aq}(hA:f (aW ρ)=some d)(hF:f (cJ ρ)=some d)(hh:hand fz 0 ρ=ρ)(hk:fk (aW ρ)=some (nD k))(ho:ρ[n]?=some (.own ds))(hl:k < ds.length):D3 n fz fk f ρ=some (.nx (ρ.set n (.own (ds.set k d)))):=by
 have hx:HH ds.length ((k:Nat):Int)=some k:=by
  unfold HH
  rw[yL (Int.natCast_nonneg k),yL (by omega)]
  simp
 have:ki fz f ρ=some (d,ρ):=by
  unfold ki
  rw[hA,zA]
  split
  ·rfl
  ·rw[hh,hF]
   rfl
 simp only[D3,this,zA,hk,oi,ho,hx,zB]
theorem Lb{f:Dl.Env->Option D}{fl:Dl.Env->Option (List D)}{ρ:Dl.Env}{xs ys:List D}(h:f ρ=some (.list xs))(h2:fl ρ=some ys)(hl:(xs++ys).length<=4000):HL iq f (dM fl) ρ=some (xs++ys):=by
 unfold HL
 rw[h,zA,iO h2,zA]
 exact yL (show (xs++ys).length<=sizeLine from yC hl (by decide))
def ones(o:D)(g t:Nat)(lm:Int):List D:=[.tuple [nD g,nD t,.int lm,o,nD 0],.tuple [nD g,o,.int 1,nD 0,nD 0],.tuple [nD g,nD t,o,nD 0,nD 0],.tuple [nD g,nD t,.int 1,nD 0,o]]
abbrev st(s:D)(G T:List Pl)(W:List Wy)(o:D)(x6 x7 x8 x9 x10 x11 x12 x13 x14 x15 x16 x17 x18 x19:Slot):aq:=[.val s,.val (aX G T W),.val (.tuple (G.map aD)),.val (.tuple (T.map aD)),.val (.tuple (W.map aE)),.val o,x6,x7,x8,x9,x10,x11,x12,x13,x14,x15,x16,x17,x18,x19]
def aB:aq->Option Out:=(lL 10 [16,19] (ah 3 ai (aa (fC (.int 3)) (aa (ae 16) (aa (ae 19) af)))))
def wB:aq->Option Out:=(ay (jb 12 13 14 [4,11] (f2 aC (ae 4) (ae 11))) (ay (Dl.ba 15 [0] (f2 Dl.aJ (fC (.int 1)) (ah 3 ak (aa (ae 0) (aa (fC (.int 74)) (aa (fC (.int 9)) af)))))) (ay (iw (fB (f2 dD (ah 3 ai (aa (fC (.int 1)) (aa (ae 1) (aa (aA (aa (ae 11) (aa (ae 15) af))) af)))) (aA (aa (ae 2) (aa (ae 3) (aa (ah 3 aQ (aa (ae 4) (aa (ae 11) (aa (aA (aa (ae 12) (aa (ae 13) (aa (ae 15) af)))) af)))) af)))))) (bu (fC (.bool false))) cU) (ay (Dl.ba 16 [2,12,13] (aA (aa (ah 3 aQ (aa (ae 2) (aa (ae 12) (aa (ah 2 bq (aa (f2 aC (ae 2) (ae 12)) (aa (ae 13) af))) af)))) af))) (ay (Dl.ba 16 [3,12,13,16] (f2 Dl.aJ (ae 16) (aA (aa (ah 3 aQ (aa (ae 3) (aa (ae 13) (aa (ah 2 bq (aa (f2 aC (ae 3) (ae 13)) (aa (ae 12) af))) af)))) af)))) (ay (Dl.ba 16 [4,11,16] (f2 Dl.aJ (ae 16) (aA (aa (f2 Dl.aJ (gm dz (ae 4) gF (rQ (ae 11))) (gm dz (ae 4) (rQ (f2 Dl.aJ (ae 11) (fC (.int 1)))) gF)) af)))) (ay (iw (pM (fB (f2 dD (ah 3 ai (aa (fC (.int 2)) (aa (ae 1) (aa (aA (aa (ae 11) af)) af)))) (ae 16))) (cu (fB (ah 1 aY (aa (ae 16) af))))) (bu (fC (.bool false))) cU) (ay (Dl.ba 17 [2,3,12,13] (aA (aa (f2 uJ (f2 aC (f2 aC (ae 2) (ae 12)) (fC (.int 1))) (ae 13)) (aa (f2 uJ (f2 aC (f2 aC (ae 3) (ae 13)) (fC (.int 1))) (ae 12)) af)))) (ay (iw (fB (f2 dD (ah 3 ai (aa (fC (.int 3)) (aa (ae 16) (aa (f2 Dl.aJ (aA (aa (ae 12) (aa (ae 13) (aa (ae 14) af)))) (ae 17)) af)))) (ae 1))) (bu (fC (.bool false))) cU) (ay (br 10 [1,5,10,11,12,13,14,17] (HL iq (ae 10) (dM (cQ (aa (ah 3 ai (aa (fC (.int 3)) (aa (ae 1) (aa (f2 Dl.aJ (aA (aa (ae 12) (aa (ae 13) (aa (ae 14) af)))) (ae 17)) af)))) (aa (ah 3 ai (aa (fC (.int 1)) (aa (ae 1) (aa (aA (aa (ae 11) (aa (ae 5) af))) af)))) af)))))) (ay (br 18 [5,12,13,14] (cQ (aa (aA (aa (ae 12) (aa (ae 13) (aa (ae 14) (aa (ae 5) (aa (fC (.int 0)) af)))))) (aa (aA (aa (ae 12) (aa (ae 5) (aa (fC (.int 1)) (aa (fC (.int 0)) (aa (fC (.int 0)) af)))))) (aa (aA (aa (ae 12) (aa (ae 13) (aa (ae 5) (aa (fC (.int 0)) (aa (fC (.int 0)) af)))))) af))))) (hU [5,12,13,18] (bO (dM (HL iq (ae 18) (dM (cQ (aa (aA (aa (ae 12) (aa (ae 13) (aa (fC (.int 1)) (aa (fC (.int 0)) (aa (ae 5) af)))))) af)))))) (AX 19) aB))))))))))))
abbrev rf(n:Nat):List D:=List.replicate n (cP 2)
theorem Fm(n:Nat):rf n++[cP 2]=rf (n+1):=(List.replicate_succ' (n:=n) (a:=cP 2)).symm
theorem C8(n:Nat):rf n++[cP 2,cP 2]=rf (n+2):=by
 rw[show [cP 2,cP 2]=rf 2 from rfl]
 exact List.replicate_append_replicate
theorem F3{ns:List Int}(hl:ns.length<=63)(h:Wd G T W)(hw:W.length<=9){o:D}(ho:o∈yh)(hk:k < W.length){n:Nat}(hn:n<=100)(x6 x7 x8 x9 x12 x13 x14 x15 x16 x17 x18 x19:Slot) :
  ∃y12 y13 y14 y15 y16 y17 y18 y19,wB (st (cW ns) G T W o x6 x7 x8 x9 (.own (rf n)) (.val (nD k)) x12 x13 x14 x15 x16 x17 x18 x19)=some (.nx (st (cW ns) G T W o x6 x7 x8 x9 (.own (rf (n+6))) (.val (nD k)) y12 y13 y14 y15 y16 y17 y18 y19)):=by
 have hd74:=dC (ns:=ns) 74 9 hl (by omega)
 have h':=h.less hk
 have hg:=eH h false hk
 have ht:=eH h true hk
 have hg':aP false W k < (aR false (eG G W k) (eT T W k)).length:=by rw[kl];exact hg
 have ht':aP true W k < (aR true (eG G W k) (eT T W k)).length:=by rw[kl];exact ht
 have eg:(aS W k).1=((aP false W k:Nat):Int):=(h.end_pl false hk).2.2.symm
 have et:(aS W k).2.1=((aP true W k:Nat):Int):=(h.end_pl true hk).2.2.symm
 have lim:=(h.wr _ (vq hk)).2.2
 have hw':(W.eraseIdx k).length<=9:=by rw[Gn hk];omega
 have m0:=o9 h hk false
 have m1:=o9 h hk true
 rw[show cT false (aS W k)=((aP true W k:Nat):Int) from et] at m0
 rw[show cT true (aS W k)=((aP false W k:Nat):Int) from eg] at m1
 have ewy:=AA h hk
 have wI:=fun (O:yo ao au [nD (Ll (bc false G T (aP false W k)).2 ((aP true W k:Nat):Int)),.int (((bc false G T (aP false W k)).2.length:Nat)+1:Int)]) (O':yo ao au [nD (Ll (bc true G T (aP true W k)).2 ((aP false W k:Nat):Int)),.int (((bc true G T (aP true W k)).2.length:Nat)+1:Int)])=>P5 h hg ht lim O O' m0
 have okI:∀ {q r:Nat},q < r+1->yo ao au [nD q,.int ((r:Nat)+1:Int)]:=fun {q r} hq=>okN rfl (by
  show (decide ((0:Int)<=((q:Nat):Int))&&decide (((q:Nat):Int)<=((r:Nat)+1:Int) - 1))=true
  rw[zZ (by omega),zZ (by omega)]
  rfl)
 have wI:=wI (okI (jN (FT m0))) (okI (jN (FT m1)))
 have l0:=J5 h' hg'
 have l1:=J5 h' ht'
 have r1:=Ep (PB (d:=o) (e:=nD 0) h' hg' ht' lim (DJ (nY o ho) (i6 (by omega) (by omega) o ho))) qu
 have r2:=Ep (Pu (f:=o) (g:=.int 1) (d:=nD 0) (e:=nD 0) h' hg' (Ob h' true (nY o ho) (i6 (by omega) (by have:=h'.pl true;omega) o ho))) qu
 have r3:=Ep (P7 (g:=o) (d:=nD 0) (e:=nD 0) h' hg' ht' (JC (nY o ho) (i6 (by omega) (by omega) o ho))) qu
 have r4:=Ep (Pi (x:=1) (d:=nD 0) (e:=o) h' hg' ht' ⟨by omega,by omega⟩ (okI (by omega)) (DJ (nY o ho) (i6 (by omega) (by omega) o ho))) qu
 have hgl:=pj h hg
 have htl:=pj h ht
 have pG:=nA (ds:=G.map aD) (i:=aP false W k) (r:=aD ((bc false G T (aP false W k)).1,(bc false G T (aP false W k)).2.filter fun y=>!decide (y=((aP true W k:Nat):Int)))) (by rw[zD];exact hg) (by rw[zD];have:=h.g4;omega)
 have pT:=nA (ds:=T.map aD) (i:=aP true W k) (r:=aD ((bc true G T (aP true W k)).1,(bc true G T (aP true W k)).2.filter fun y=>!decide (y=((aP false W k:Nat):Int)))) (by rw[zD];exact ht) (by rw[zD];have:=h.t4;omega)
 have pW:=fun x=>nA (ds:=W.map aE) (i:=k) (r:=aE ((aS W k).1,(aS W k).2.1,x)) (by rw[zD];exact hk) (by rw[zD];omega)
 have sG:(G.map aD).set (aP false W k) (aD ((bc false G T (aP false W k)).1,(bc false G T (aP false W k)).2.filter fun y=>!decide (y=((aP true W k:Nat):Int))))=(eG G W k).map aD:=by
  rw[<- et,<- List.map_set]
  rfl
 have sT:(T.map aD).set (aP true W k) (aD ((bc true G T (aP true W k)).1,(bc true G T (aP true W k)).2.filter fun y=>!decide (y=((aP false W k:Nat):Int))))=(eT T W k).map aD:=by
  rw[<- eg,<- List.map_set]
  rfl
 have sW:∀x,(W.map aE).set k (aE ((aS W k).1,(aS W k).2.1,x))=(sL W k x).map aE:=fun x=>by
  rw[<- List.map_set]
  rfl
 rw[sG] at pG
 rw[sT] at pT
 have gG:=Hy (p:=bc false G T (aP false W k)) (x:=((aP true W k:Nat):Int)) (by omega)
 have gT:=Hy (p:=bc true G T (aP true W k)) (x:=((aP false W k:Nat):Int)) (by omega)
 have lmx:=KN (r:=[]) (Pe h hk (JC (d:=o) (nY o ho) (i6 (a:=1) (m:=9) (by omega) (by omega) o ho))) qu
 have hW3:∀x,aE ((aS W k).1,(aS W k).2.1,x)=.tuple [nD (aP false W k),nD (aP true W k),.int x]:=fun x=>by
  show PyData.tuple [.int (aS W k).1,.int (aS W k).2.1,.int x]=_
  rw[eg,et]
 have hwk:aC (.tuple (W.map aE)) (nD k)=some (.tuple [nD (aP false W k),nD (aP true W k),.int (aS W k).2.2]):=(p5 hk).trans (jC some (hW3 (aS W k).2.2))
 have eF:=vz (x:=1+dr ns 74 9) h hk (by omega)
 have hF:=h.lim2 (x:=1+dr ns 74 9) hk (by omega)
 have pW:=pW (1+dr ns 74 9)
 rw[sW,hW3] at pW
 have eE:=se h hk
 have eLG:aC (.tuple (G.map aD)) (nD (aP false W k))=some (aD (bc false G T (aP false W k))):=gD (cR (b:=false) hg)
 have eLT:aC (.tuple (T.map aD)) (nD (aP true W k))=some (aD (bc true G T (aP true W k))):=gD (cR (b:=true) ht)
 have OX:=C3 m0
 have ix1:=C3 m1
 generalize hQ0:Ll (bc false G T (aP false W k)).2 ((aP true W k:Nat):Int)=q0 at OX wI
 generalize hQ1:Ll (bc true G T (aP true W k)).2 ((aP false W k:Nat):Int)=q1 at ix1 wI
 unfold Ll at hQ0 hQ1
 rw[hQ0,hQ1] at ewy
 have tI:=Ep wI qu
 have tY:=N7 ewy
 have cE:(W.map aE).take k++(W.map aE).drop (k+1)=(W.eraseIdx k).map aE:=by
  rw[List.eraseIdx_eq_take_drop_succ,jA,List.map_take,List.map_drop]
 have lW:((W.map aE).take k++(W.map aE).drop (k+1)).length<=4000:=by
  rw[cE,zD]
  omega
 have e15:∀ρ:Dl.Env,ae 0 ρ=some (cW ns)->f2 Dl.aJ (fC (.int 1)) (ah 3 ak (aa (ae 0) (aa (fC (.int 74)) (aa (fC (.int 9)) af)))) ρ=some (.int (1+dr ns 74 9)):=fun ρ h0=>ax (dG 1 _) rfl (call_of hd74.1 (cons_of h0 rfl) rfl)
 clear sG sT sW hd74 eg et m0 m1 hQ0 hQ1
 generalize eG G W k=G' at *
 generalize eT T W k=T' at *
 generalize W.eraseIdx k=W' at *
 generalize bc false G T (aP false W k)=p0 at *
 generalize bc true G T (aP true W k)=p1 at *
 generalize aP false W k=g at *
 generalize aP true W k=t at *
 generalize (aS W k).2.2=lm at *
 generalize 1+dr ns 74 9=fr at *
 obtain⟨ρ',f,x19',rfl⟩:=wg (tgt:=AX 19) (gb:=aB) (fun j=>(ones o g t lm).getD j .none) (fun j ρ=>∃x19,ρ=st (cW ns) G T W o x6 x7 x8 x9 (.own (rf (n+2+j))) (.val (nD k)) (.val (nD g)) (.val (nD t)) (.val (.int lm)) (.val (.int fr)) (.val (aX G' T' W')) (.val (.tuple [nD q0,nD q1])) (.val (.list ((ones o g t lm).take 3))) x19) 4 0 (st (cW ns) G T W o x6 x7 x8 x9 (.own (rf (n+2))) (.val (nD k)) (.val (nD g)) (.val (nD t)) (.val (.int lm)) (.val (.int fr)) (.val (aX G' T' W')) (.val (.tuple [nD q0,nD q1])) (.val (.list ((ones o g t lm).take 3))) x19)
  (fun j ρ _ hj hρ=>by
   obtain⟨x,rfl⟩:=hρ
   have hr:ai [.int 3,aX G' T' W',(ones o g t lm).getD j .none]=some (cP 2):=by
    rcases (by omega:j=0\/j=1\/j=2\/j=3) with rfl|rfl|rfl|rfl
    ·exact r1
    ·exact r2
    ·exact r3
    ·exact r4
   generalize (ones o g t lm).getD j .none=one at hr
   refine⟨_,_,rfl,?_,.val one,rfl⟩
   refine (FU (ds:=rf (n+2+j)) (d:=cP 2) (call_of hr rfl rfl) (call_of hr rfl rfl) rfl rfl (by rw[xM];omega)).trans ?_
   rw[Fm]
   rfl) ⟨_,rfl⟩
 refine⟨.val (nD g),.val (nD t),.val (.int lm),.val (.int fr),.val (aX G' T' W'),.val (.tuple [nD q0,nD q1]),.val (.list ((ones o g t lm).take 3)),x19',?_⟩
 unfold wB
 refine (ar (xw (ax hwk rfl rfl) rfl)).trans ?_
 refine (ar (bp (e15 _ rfl) (e15 _ rfl) rfl)).trans ?_
 refine (ar (bC (eM (ax (nh hF) (call_of (Oq (r:=[]) eF) (cons_of rfl (cons_of rfl (cons_of (tup_is (ds:=[nD k,.int fr]) rfl (by simp)) rfl))) rfl) (tup_is (cons_of rfl (cons_of rfl (cons_of (call_of pW (cons_of rfl (cons_of rfl (cons_of (tup_is (ds:=[nD g,nD t,.int fr]) rfl (by simp)) rfl))) rfl) rfl))) (by simp)))))).trans ?_
 have eA:∀ρ:Dl.Env,ae 2 ρ=some (.tuple (G.map aD))->ae 12 ρ=some (nD g)->ae 13 ρ=some (nD t)->(aA (aa (ah 3 aQ (aa (ae 2) (aa (ae 12) (aa (ah 2 bq (aa (f2 aC (ae 2) (ae 12)) (aa (ae 13) af))) af)))) af)) ρ=some (.tuple [.tuple (G'.map aD)]):=fun ρ a b c=>pI (call_of pG (cons_of a (cons_of b (cons_of (call_of gG (cons_of (ax eLG a b) (cons_of c rfl)) rfl) rfl))) rfl)
 refine (ar (bp (eA _ rfl rfl rfl) (eA _ rfl rfl rfl) rfl)).trans ?_
 have eB:∀ρ:Dl.Env,ae 3 ρ=some (.tuple (T.map aD))->ae 12 ρ=some (nD g)->ae 13 ρ=some (nD t)->ae 16 ρ=some (.tuple [.tuple (G'.map aD)])->(f2 Dl.aJ (ae 16) (aA (aa (ah 3 aQ (aa (ae 3) (aa (ae 13) (aa (ah 2 bq (aa (f2 aC (ae 3) (ae 13)) (aa (ae 12) af))) af)))) af))) ρ=some (.tuple [.tuple (G'.map aD),.tuple (T'.map aD)]):=fun ρ a b c d=>ax (dO (xs:=[.tuple (G'.map aD)]) (ys:=[.tuple (T'.map aD)]) (by simp)) d (pI (call_of pT (cons_of a (cons_of c (cons_of (call_of gT (cons_of (ax eLT a c) (cons_of b rfl)) rfl) rfl))) rfl))
 refine (ar (bp (eB _ rfl rfl rfl rfl) (eB _ rfl rfl rfl rfl) rfl)).trans ?_
 have eC:∀ρ:Dl.Env,ae 4 ρ=some (.tuple (W.map aE))->ae 11 ρ=some (nD k)->ae 16 ρ=some (.tuple [.tuple (G'.map aD),.tuple (T'.map aD)])->(f2 Dl.aJ (ae 16) (aA (aa (f2 Dl.aJ (gm dz (ae 4) gF (rQ (ae 11))) (gm dz (ae 4) (rQ (f2 Dl.aJ (ae 11) (fC (.int 1)))) gF)) af))) ρ=some (aX G' T' W'):=fun ρ a b d=>by
  refine ax (dO (xs:=[.tuple (G'.map aD),.tuple (T'.map aD)]) (ys:=[.tuple (W'.map aE)]) (by simp)) d (pI ?_)
  rw[<- cE]
  exact ax (dO lW) (vy a b) (uB (k:=k+1) a (ax (dG ((k:Nat):Int) 1) b rfl))
 refine (ar (bp (eC _ rfl rfl rfl) (eC _ rfl rfl rfl) rfl)).trans ?_
 refine (ar (bC (Md (eM (ax (nh h') (call_of (NU (r:=[]) eE) (cons_of rfl (cons_of rfl (cons_of (pI rfl) rfl))) rfl) rfl)) (jh (b:=true) (eM (call_of (j6 h') rfl rfl)))))).trans ?_
 have eD:∀ρ:Dl.Env,ae 2 ρ=some (.tuple (G.map aD))->ae 3 ρ=some (.tuple (T.map aD))->ae 12 ρ=some (nD g)->ae 13 ρ=some (nD t)->(aA (aa (f2 uJ (f2 aC (f2 aC (ae 2) (ae 12)) (fC (.int 1))) (ae 13)) (aa (f2 uJ (f2 aC (f2 aC (ae 3) (ae 13)) (fC (.int 1))) (ae 12)) af))) ρ=some (.tuple [nD q0,nD q1]):=fun ρ a b c d=>tup_is (cons_of (ax OX (ax (a:=aD p0) (b:=.int 1) rfl (ax eLG a c) rfl) d) (cons_of (ax ix1 (ax (a:=aD p1) (b:=.int 1) rfl (ax eLT b d) rfl) c) rfl)) (by simp)
 refine (ar (bp (eD _ rfl rfl rfl rfl) (eD _ rfl rfl rfl rfl) rfl)).trans ?_
 have e5:∀ρ:Dl.Env,ae 12 ρ=some (nD g)->ae 13 ρ=some (nD t)->ae 14 ρ=some (.int lm)->ae 17 ρ=some (.tuple [nD q0,nD q1])->f2 Dl.aJ (aA (aa (ae 12) (aa (ae 13) (aa (ae 14) af)))) (ae 17) ρ=some (.tuple [nD g,nD t,.int lm,nD q0,nD q1]):=fun ρ a b c d=>ax (dO (xs:=[nD g,nD t,.int lm]) (ys:=[nD q0,nD q1]) (by simp)) (tup_is (cons_of a (cons_of b (cons_of c rfl))) (by simp)) d
 refine (ar (bC (eM (ax (nh h) (call_of tY (cons_of rfl (cons_of rfl (cons_of (e5 _ rfl rfl rfl rfl) rfl))) rfl) rfl)))).trans ?_
 refine (ar (uv (ρ':=st (cW ns) G T W o x6 x7 x8 x9 (.val (.list (rf n))) (.val (nD k)) (.val (nD g)) (.val (nD t)) (.val (.int lm)) (.val (.int fr)) (.val (aX G' T' W')) (.val (.tuple [nD q0,nD q1])) x18 x19) (ds:=rf (n+2)) rfl ?_)).trans ?_
 ·rw[<- C8]
  exact Lb rfl (mi (cons_of (call_of tI (cons_of rfl (cons_of rfl (cons_of (e5 _ rfl rfl rfl rfl) rfl))) rfl) (cons_of (call_of lmx (cons_of rfl (cons_of rfl (cons_of (tup_is (ds:=[nD k,o]) rfl (by simp)) rfl))) rfl) rfl)) (by simp)) (by rw[zN,xM];simp;omega)
 refine (ar (nM (ds:=(ones o g t lm).take 3) (mi (cons_of (tup_is (ds:=[nD g,nD t,.int lm,o,nD 0]) rfl (by simp)) (cons_of (tup_is (ds:=[nD g,o,.int 1,nD 0,nD 0]) rfl (by simp)) (cons_of (tup_is (ds:=[nD g,nD t,o,nD 0,nD 0]) rfl (by simp)) rfl))) (by simp[ones])) rfl)).trans ?_
 exact wb (ρ1:=st (cW ns) G T W o x6 x7 x8 x9 (.own (rf (n+2))) (.val (nD k)) (.val (nD g)) (.val (nD t)) (.val (.int lm)) (.val (.int fr)) (.val (aX G' T' W')) (.val (.tuple [nD q0,nD q1])) (.val (.list ((ones o g t lm).take 3))) x19) f (JJ (iO (Lb (xs:=(ones o g t lm).take 3) (ys:=[.tuple [nD g,nD t,.int 1,nD 0,o]]) rfl (mi (cons_of (tup_is rfl (by simp)) rfl) (by simp)) (by simp[ones])))) rfl
theorem main(ns:List Int)(hl:ns.length<=63):il [.list (ns.map PyData.int)]=some (.bool true):=by
 obtain⟨G,T,W,ew,h,few⟩:=zu (ns:=ns) (a:=0) (mo:=9) hl (by omega)
 have hw:W.length<=9:=by have:=few.wm;omega
 have hd70:=dC (ns:=ns) 70 5 hl (by omega)
 have hd71:=dC (ns:=ns) 71 2 hl (by omega)
 have hd73:=dC (ns:=ns) 73 10 hl (by omega)
 obtain⟨o,ho,eo⟩:=Ih (l:=yh) hd70.2.1 hd70.2.2
 obtain⟨b,eb⟩:∃b:Bool,dr ns 71 2=sI b:=by
  rcases (by omega:dr ns 71 2=0\/dr ns 71 2=1) with z|z
  ·exact⟨false,z⟩
  ·exact⟨true,z⟩
 have hpl:0 < (aR b G T).length:=by
  cases b
  ·exact h.g1
  ·exact h.t1
 have hd72:=dC (ns:=ns) 72 (((aR b G T).length:Nat):Int) hl (by omega)
 obtain⟨i,ei⟩:∃i:Nat,dr ns 72 (((aR b G T).length:Nat):Int)=((i:Nat):Int):=⟨(dr ns 72 (((aR b G T).length:Nat):Int)).toNat,by omega⟩
 have hi:i < (aR b G T).length:=by omega
 rw[eb] at hd71
 rw[ei] at hd72
 have ea:=rW (a:=dr ns 73 10) h hi (by omega)
 have hch:dD (Oe b G T W i (dr ns 73 10)) (Oe b G T W i (dr ns 73 10))=some (.bool false):=by
  cases b
  ·exact nh (h.gA (by omega))
  ·exact nh (h.tA (by omega))
 have on:=nY o ho
 have b1:=LA (r:=[]) (d:=cP 2) (f:=o) (g:=.int (dr ns 73 10)) (P6 h (Ob h b on (i6 (by omega) (by have:=h.pl b;omega) o ho))) qu
 have b2:=LA (r:=[]) (O0 h hi (JC on (i6 (a:=0) (m:=9) (by omega) (by omega) o ho))) qu
 have b3:=KN (r:=[]) (f:=.int 1) (PM h (DJ on (i6 (by omega) (by omega) o ho))) qu
 have b4:=Mu (r:=[]) (Nm h (DJ on (i6 (by omega) (by omega) o ho))) qu
 have b5:=Mu (r:=[]) (Nm h (DJ (d:=nD W.length) rfl (by
  show (decide ((0:Int)<=((W.length:Nat):Int))&&decide (((W.length:Nat):Int)<=((W.length:Nat):Int) - 1))=false
  rw[zY (show ¬ ((W.length:Nat):Int)<=((W.length:Nat):Int) - 1 by omega),kY]))) qu
 generalize dr ns 73 10=am at *
 have pA:=nA (ds:=(aR b G T).map aD) (i:=i) (r:=.tuple [.int am,av (bc b G T i).2]) (by rw[zD];exact hi) (by rw[zD];have:=h.pl b;omega)
 obtain⟨due,e9,edue,eln⟩:∃due:List D,([.tuple (G.map aD),.tuple (T.map aD),.tuple (W.map aE)]:List D).set (sI b).toNat (.tuple (((aR b G T).map aD).set i (.tuple [.int am,av (bc b G T i).2])))=due/\PyData.tuple due=Oe b G T W i am/\due.length=3:=by
  refine⟨_,rfl,?_,by simp⟩
  cases b
  ·show PyData.tuple [.tuple ((G.map aD).set i (aD (am,(G.getD i (0,[])).2))),_,_]=_
   rw[<- List.map_set]
   rfl
  ·show PyData.tuple [_,.tuple ((T.map aD).set i (aD (am,(T.getD i (0,[])).2))),_]=_
   rw[<- List.map_set]
   rfl
 obtain⟨ρ',f,x11,y12,y13,y14,y15,y16,y17,y18,y19,rfl⟩:=wg (tgt:=AX 11) (gb:=wB) nD (fun j ρ=>∃x11 y12 y13 y14 y15 y16 y17 y18 y19,ρ=st (cW ns) G T W o (.val (.int (sI b))) (.val (nD i)) (.val (.int am)) (.own due) (.own (rf (2+6 * j))) x11 y12 y13 y14 y15 y16 y17 y18 y19) W.length 0 (st (cW ns) G T W o (.val (.int (sI b))) (.val (nD i)) (.val (.int am)) (.own due) (.own (rf 2)) .non .non .non .non .non .non .non .non .non)
  (fun j ρ _ hj hρ=>by
   obtain⟨x11,y12,y13,y14,y15,y16,y17,y18,y19,rfl⟩:=hρ
   obtain⟨z12,z13,z14,z15,z16,z17,z18,z19,e⟩:=F3 hl h hw ho (k:=j) (by omega) (n:=2+6 * j) (by omega) (.val (.int (sI b))) (.val (nD i)) (.val (.int am)) (.own due) y12 y13 y14 y15 y16 y17 y18 y19
   exact⟨_,_,rfl,e,_,_,_,_,_,_,_,_,_,rfl⟩) ⟨_,_,_,_,_,_,_,_,_,rfl⟩
 rw[<- yG,jD] at f
 have hn:=Jr h
 refine bA ?_
 show (ay (Dl.ba 1 [0] (ah 3 bX (aa (ae 0) (aa (fC (.int 0)) (aa (fC (.int 9)) af))))) (ay (jb 2 3 4 [1] (ae 1)) (ay (Dl.ba 5 [0] (f2 aC (dM (cQ (aa (f1 FQ (fC (.int 1))) (aa (fC (.int 10)) (aa (fC (.bool true)) (aa (fC .none) (aa (fC (.str "1")) af))))))) (ah 3 ak (aa (ae 0) (aa (fC (.int 70)) (aa (fC (.int 5)) af)))))) (ay (Dl.ba 6 [0] (ah 3 ak (aa (ae 0) (aa (fC (.int 71)) (aa (fC (.int 2)) af))))) (ay (Dl.ba 7 [0,1,6] (ah 3 ak (aa (ae 0) (aa (fC (.int 72)) (aa (bR bz (aa (f2 aC (ae 1) (ae 6)) af)) af))))) (ay (Dl.ba 8 [0] (ah 3 ak (aa (ae 0) (aa (fC (.int 73)) (aa (fC (.int 10)) af))))) (ay (br 9 [1] (kc dB (aa (ae 1) af))) (ay (D3 9 [1,6,7,8] (ae 6) (ah 3 aQ (aa (f2 aC (ae 1) (ae 6)) (aa (ae 7) (aa (aA (aa (ae 8) (aa (f2 aC (f2 aC (f2 aC (ae 1) (ae 6)) (ae 7)) (fC (.int 1))) af))) af))))) (ay (iw (fB (f2 dD (ah 3 ai (aa (fC (.int 0)) (aa (ae 1) (aa (aA (aa (ae 6) (aa (ae 7) (aa (ae 8) af)))) af)))) (bR bU (aa (ae 9) af)))) (bu (fC (.bool false))) cU) (ay (br 10 [1,5,6,7,8] (cQ (aa (ah 3 ai (aa (fC (.int 0)) (aa (ae 1) (aa (aA (aa (ae 6) (aa (ae 5) (aa (ae 8) af)))) af)))) (aa (ah 3 ai (aa (fC (.int 0)) (aa (ae 1) (aa (aA (aa (ae 6) (aa (ae 7) (aa (ae 5) af)))) af)))) af)))) (ay (hU [4] (cg (aa (bR bz (aa (ae 4) af)) af)) (AX 11) wB) (ay (br 10 [1,5,10] (HL iq (ae 10) (dM (cQ (aa (ah 3 ai (aa (fC (.int 1)) (aa (ae 1) (aa (aA (aa (ae 5) (aa (fC (.int 1)) af))) af)))) (aa (ah 3 ai (aa (fC (.int 2)) (aa (ae 1) (aa (aA (aa (ae 5) af)) af)))) af)))))) (ay (lL 10 [1,4] (ah 3 ai (aa (fC (.int 2)) (aa (ae 1) (aa (aA (aa (bR bz (aa (ae 4) af)) af)) af))))) (ay (iw (fB (f2 dD (ae 10) (dM (oH (cQ (aa (aA (aa (fC (.str "refused")) (aa (fC (.int 2)) af))) af)) (bR bz (aa (ae 10) af)))))) (bu (fC (.bool false))) cU) (bu (f2 cI (dM (aN 1 [1] (cg (aa (fC (.int 4)) af)) (fG 0) (fun _=>some true) (ah 3 ai (aa (ae 0) (aa (gm dz (ae 1) gF (rQ (fC (.int 2)))) (aa (aA (aa (fC (.int 0)) (aa (fC (.int 0)) (aa (fC (.int 0)) (aa (fC (.int 0)) (aa (fC (.int 0)) af)))))) af)))))) (dM (oH (cQ (aa (aA (aa (fC (.str "refused")) (aa (fC (.int 0)) af))) af)) (fC (.int 4)))))))))))))))))))) [.val (cW ns),.non,.non,.non,.non,.non,.non,.non,.non,.non,.non,.non,.non,.non,.non,.non,.non,.non,.non,.non]=_
 refine (ar (bp (call_of ew rfl rfl) (call_of ew rfl rfl) rfl)).trans ?_
 refine (ar (xw (x:=.tuple (G.map aD)) (y:=.tuple (T.map aD)) (z:=.tuple (W.map aE)) rfl rfl)).trans ?_
 have e5:∀ρ:Dl.Env,ae 0 ρ=some (cW ns)->(f2 aC (dM (cQ (aa (f1 FQ (fC (.int 1))) (aa (fC (.int 10)) (aa (fC (.bool true)) (aa (fC .none) (aa (fC (.str "1")) af))))))) (ah 3 ak (aa (ae 0) (aa (fC (.int 70)) (aa (fC (.int 5)) af))))) ρ=some o:=fun ρ h0=>ax eo (iO (mi (ds:=yh) rfl (by simp[yh]))) (call_of hd70.1 (cons_of h0 rfl) rfl)
 refine (ar (bp (e5 _ rfl) (e5 _ rfl) rfl)).trans ?_
 refine (ar (bp (call_of hd71.1 rfl rfl) (call_of hd71.1 rfl rfl) rfl)).trans ?_
 have e7:∀ρ:Dl.Env,ae 0 ρ=some (cW ns)->ae 1 ρ=some (aX G T W)->ae 6 ρ=some (.int (sI b))->(ah 3 ak (aa (ae 0) (aa (fC (.int 72)) (aa (bR bz (aa (f2 aC (ae 1) (ae 6)) af)) af)))) ρ=some (nD i):=fun ρ h0 h1 h6=>call_of hd72.1 (cons_of h0 (cons_of rfl (cons_of (gw (l:=aR b G T) (k:=aD) (ax (dw b G T W) h1 h6)) rfl))) rfl
 refine (ar (bp (e7 _ rfl rfl rfl) (e7 _ rfl rfl rfl) rfl)).trans ?_
 refine (ar (bp (call_of hd73.1 rfl rfl) (call_of hd73.1 rfl rfl) rfl)).trans ?_
 refine (ar (nM (ds:=[.tuple (G.map aD),.tuple (T.map aD),.tuple (W.map aE)]) rfl rfl)).trans ?_
 have eP:∀ρ:Dl.Env,ae 1 ρ=some (aX G T W)->ae 6 ρ=some (.int (sI b))->ae 7 ρ=some (nD i)->ae 8 ρ=some (.int am)->(ah 3 aQ (aa (f2 aC (ae 1) (ae 6)) (aa (ae 7) (aa (aA (aa (ae 8) (aa (f2 aC (f2 aC (f2 aC (ae 1) (ae 6)) (ae 7)) (fC (.int 1))) af))) af)))) ρ=some (.tuple (((aR b G T).map aD).set i (.tuple [.int am,av (bc b G T i).2]))):=fun ρ a c d e=>call_of pA (cons_of (ax (dw b G T W) a c) (cons_of d (cons_of (tup_is (cons_of e (cons_of (ax (a:=aD (bc b G T i)) (b:=.int 1) rfl (ax (gD (cR hi)) (ax (dw b G T W) a c) d) rfl) rfl)) (by simp)) rfl))) rfl
 refine (ar (Lo (k:=(sI b).toNat) (ds:=[.tuple (G.map aD),.tuple (T.map aD),.tuple (W.map aE)]) (eP _ rfl rfl rfl rfl) (eP _ rfl rfl rfl rfl) rfl (by cases b<;>rfl) rfl (show (sI b).toNat < 3 by cases b<;>decide))).trans ?_
 rw[e9]
 refine (ar (bC (eM (ax hch (call_of (NY (r:=[]) ea) (cons_of rfl (cons_of rfl (cons_of (tup_is (ds:=[.int (sI b),nD i,.int am]) rfl (by simp)) rfl))) rfl) ((nV (d:=.list due) rfl).trans ((Fe due).trans (jC some edue))))))).trans ?_
 refine (ar (nM (ds:=rf 2) (mi (cons_of (call_of b1 (cons_of rfl (cons_of rfl (cons_of (tup_is (ds:=[.int (sI b),o,.int am]) rfl (by simp)) rfl))) rfl) (cons_of (call_of b2 (cons_of rfl (cons_of rfl (cons_of (tup_is (ds:=[.int (sI b),nD i,o]) rfl (by simp)) rfl))) rfl) rfl)) (by simp[rf])) rfl)).trans ?_
 refine (ar (wb f (BI (cons_of (gw (l:=W) (k:=aE) rfl) rfl) (by omega)) rfl)).trans ?_
 refine (ar (uv (ρ':=st (cW ns) G T W o (.val (.int (sI b))) (.val (nD i)) (.val (.int am)) (.own due) (.val (.list (rf (2+6 * W.length)))) x11 y12 y13 y14 y15 y16 y17 y18 y19) (ds:=rf (2+6 * W.length+2)) rfl ?_)).trans ?_
 ·rw[<- C8]
  exact Lb rfl (mi (cons_of (call_of b3 (cons_of rfl (cons_of rfl (cons_of (tup_is (ds:=[o,.int 1]) rfl (by simp)) rfl))) rfl) (cons_of (call_of b4 (cons_of rfl (cons_of rfl (cons_of (pI rfl) rfl))) rfl) rfl)) (by simp)) (by rw[zN,xM];simp;omega)
 have eL:∀ρ:Dl.Env,ae 1 ρ=some (aX G T W)->ae 4 ρ=some (.tuple (W.map aE))->(ah 3 ai (aa (fC (.int 2)) (aa (ae 1) (aa (aA (aa (bR bz (aa (ae 4) af)) af)) af)))) ρ=some (cP 2):=fun ρ a c=>call_of b5 (cons_of rfl (cons_of a (cons_of (pI (gw c)) rfl))) rfl
 refine (ar (FU (ds:=rf (2+6 * W.length+2)) (eL _ rfl rfl) (eL _ rfl rfl) rfl rfl (by rw[xM];omega))).trans ?_
 rw[Fm]
 have eR:∀ρ:Dl.Env,ae 10 ρ=some (.list (rf (2+6 * W.length+2+1)))->bR bz (aa (ae 10) af) ρ=some (nD (2+6 * W.length+2+1)):=fun ρ a=>(nV a).trans (by
  show some (PyData.int ((rf (2+6 * W.length+2+1)).length:Nat))=_
  rw[xM])
 refine (ar (bC (eM (ax (Ej 2 _) rfl (Gh 2 (by omega) (eR _ rfl)))))).trans ?_
 have ecut:∀ρ:Dl.Env,ae 1 ρ=some (aX G T W)->gm dz (ae 1) gF (rQ (fC (.int 2))) ρ=some (.tuple [.tuple (G.map aD),.tuple (T.map aD)]):=fun ρ h1=>by
  unfold gm
  rw[h1]
  rfl
 have e00:∀ρ:Dl.Env,aA (aa (fC (.int 0)) (aa (fC (.int 0)) (aa (fC (.int 0)) (aa (fC (.int 0)) (aa (fC (.int 0)) af))))) ρ=some (.tuple [.int 0,.int 0,.int 0,.int 0,.int 0]):=fun ρ=>rfl
 have c4:=Da (cs:=[1]) (fi:=cg (aa (fC (.int 4)) af)) (te:=ah 3 ai (aa (ae 0) (aa (gm dz (ae 1) gF (rQ (fC (.int 2)))) (aa (aA (aa (fC (.int 0)) (aa (fC (.int 0)) (aa (fC (.int 0)) (aa (fC (.int 0)) (aa (fC (.int 0)) af)))))) af)))) (ρ:=aW (st (cW ns) G T W o (.val (.int (sI b))) (.val (nD i)) (.val (.int am)) (.own due) (.own (rf (2+6 * W.length+2+1))) x11 y12 y13 y14 y15 y16 y17 y18 y19)) (is:=List.range 4) (j:=0) (BI (n:=4) rfl (by omega)) (by simp) fun k hk=>by
  have hk:k < 4:=by simpa using hk
  rcases (by omega:k=0\/k=1\/k=2\/k=3) with rfl|rfl|rfl|rfl
  ·exact call_of (LA (O9 (Iu hn)) JL) (cons_of rfl (cons_of (ecut _ rfl) (cons_of (e00 _) rfl))) rfl
  ·exact call_of (KN (Pf (Iu hn)) JL) (cons_of rfl (cons_of (ecut _ rfl) (cons_of (e00 _) rfl))) rfl
  ·exact call_of (Mu (Pd (Iu hn)) JL) (cons_of rfl (cons_of (ecut _ rfl) (cons_of (e00 _) rfl))) rfl
  ·exact call_of (Ep (PY (Iu hn)) JL) (cons_of rfl (cons_of (ecut _ rfl) (cons_of (e00 _) rfl))) rfl
 rw[zR] at c4
 exact dq (ax (DN 0 4) c4 (Gh 0 (by omega) rfl))
end
end K50M
end Wm
namespace K50
open PySem L2 Dl PySem.Spec PyProof.Rows Pg Hd PySem.W
theorem main(ns:List Int)(h:ns.length<=63):il [.list (ns.map PyData.int)]=some (.bool true):=Wm.K50M.main ns h
theorem ins(P:Params){h:Heap}{mg:Str->Option Value}(X:(Kf P).In h)(G:h.Ns mainGlobals mg):cf (Kf P) mg:=⟨bj.mg (f3 94 93 mH) X G,bj.mg (f2 101 100 mH) X G,bj.mg (f3 108 107 mH) X G,bj.mg (f2 113 112 mH) X G,bj.mg (f2 120 119 mH) X G,bj.mg (f3 127 126 mH) X G,bj.mg (f3 132 131 mH) X G,bj.mg (f1 137 136 mH) X G,bj.mg (f1 142 141 mH) X G,bj.mg (f1 149 148 mH) X G,bj.mg (f3 156 155 mH) X G,bj.mg (f2 163 162 mH) X G,bj.mg (f1 170 169 mH) X G,bj.mg (f3 177 176 mH) X G,bj.mg (f3 184 183 mH) X G,bj.mg (f5 191 190 Aw) X G,bj.mg (f4 198 197 Aw) X G,bj.mg (f2 205 204 Aw) X G,bj.mg (f4 212 211 Aw) X G,bj.mg (f3 219 218 Aw) X G,bj.mg (f2 224 223 Aw) X G,bj.mg (f3 231 230 Aw) X G,bj.mg (f6 238 237 Aw) X G,bj.mg (f2 245 244 ui) X G,bj.mg (f3 252 251 ui) X G,bj.mg (f3 259 258 ui) X G,bj.mg (f3 264 263 ui) X G,bj.mg (f1 271 270 ui) X G,bj.mg (f3 278 277 ui) X G,bj.mg (f3 285 284 ui) X G,bj.mg (f2 290 289 ui) X G,bj.mg (f3 297 296 ui) X G,bj.mg (f1 302 301 ui) X G,⟨289,mg_of X G (by kernel_rfl)⟩,⟨291,mg_of X G (by kernel_rfl)⟩,Ex.JD X G (by kernel_rfl),fun x hx=>mg_none_of X G (Dl.LJ (by kernel_rfl) x hx)⟩
theorem OQ(w:World):nG (Kf w.params) []=true:=by kernel_rfl
end K50
open PySem PySem.W PyProof.Rows
theorem PySem.Challenge.cw_stillflow_k50_changes_holds : PySem.Challenge.rw_stillflow_k50_changes.Holds := by
 refine holds_law K50.P4 fun k1=>?_
 refine holds_open (XP:=XL K50.vw []) (YP:=K50.hk.says) K50.left K50.hk.of K50.hk.keeps (fun s e=>xl_of s (Bool.and_eq_true_iff.mp e).1) XL.keeps (by rfl) (by rfl) (by rfl) (fun s e=>recFacts_of (Bool.and_eq_true_iff.mp e).2) (by rfl) k1 (by decide +kernel) ⟨rfl,rfl,rfl,rfl,rfl,by decide +kernel⟩ ?hw ?hc
 case hw=>w_witness2
 case hc=>exact K50.walk (l:=PySem.Challenge.rw_stillflow_k50_changes) (K:=K50.Kf) (ts:=[]) rfl rfl rfl (fun w h Y=>⟨Y.1,Y.2⟩) K50.OQ (fun w=>K50.ins w.params) K50.main
