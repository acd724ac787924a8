import PyProof.Rows.All
import Wide.All
import OpenK.AllK
import Wide.FinOn
import PyProof.EqAt
import PyProof.EqKinds
import PyProof.TupleCall
import Lean
import PyProof.Draws
import PyProof.ListRange
import KE.KIsAll
import PySem.Challenge.RW_stillflow_k23_whole_single
set_option Elab.async false
set_option linter.all false
set_option maxRecDepth 100000
set_option maxHeartbeats 4000000
abbrev _root_.zC:=@Option.bind_some
abbrev _root_.zD:=@Option.map_some
abbrev _root_.zE:=@List.mem_cons_of_mem
abbrev _root_.zF:=@List.length_map
abbrev _root_.zH:=@List.mem_cons_self
abbrev _root_.zI:=@Bool.and_eq_true
abbrev _root_.zJ:=@List.getD_eq_getElem?_getD
abbrev _root_.zK:=@List.size_toArray
abbrev _root_.zL:=@List.map_cons
abbrev _root_.zM:=@decide_eq_true_eq
abbrev _root_.zN:=@List.getElem?_eq_getElem
abbrev _root_.zO:=@List.length_cons
abbrev _root_.zP:=@List.map_map
abbrev _root_.zQ:=@List.length_append
abbrev _root_.zR:=@List.getElem?_map
abbrev _root_.zS:=@Nat.lt_of_lt_of_le
abbrev _root_.zT:=@List.mem_cons
abbrev _root_.zU:=@List.length_range
abbrev _root_.zV:=@List.getElem?_eq_some_iff
abbrev _root_.zW:=@PySem.Heap.get?_push_of_some
abbrev _root_.zX:=@PySem.wpAny_bind
abbrev _root_.zY:=@PySem.wpAny_pure
abbrev _root_.zZ:=@PySem.Heap.get?_push_size
abbrev _root_.yA:=@PySem.Heap.lt_size
abbrev _root_.yB:=@decide_eq_false
abbrev _root_.yC:=@decide_eq_true
abbrev _root_.yD:=@List.lookup_cons
abbrev _root_.yE:=@List.length_set
abbrev _root_.yF:=@Nat.le_trans
abbrev _root_.yG:=@List.mem_append_right
abbrev _root_.yH:=@List.not_mem_nil
abbrev _root_.yI:=@Int.toNat_natCast
abbrev _root_.yJ:=@List.range_eq_range'
abbrev _root_.yK:=@List.map_congr_left
abbrev _root_.yL:=@List.foldl_cons
abbrev _root_.yM:=@List.mem_singleton
abbrev _root_.yN:=@Option.some.injEq
abbrev _root_.yO:=@if_pos
abbrev _root_.yP:=@Nat.le_refl
abbrev _root_.yQ:=@if_neg
abbrev _root_.yR:=@Bool.false_eq_true
abbrev _root_.yS:=@Bool.not_eq_true'
abbrev _root_.yT:=@of_decide_eq_true
abbrev _root_.yU:=@Nat.ne_of_lt
abbrev _root_.yV:=@List.getElem?_append_left
abbrev _root_.yW:=@List.getElem?_append_right
abbrev _root_.yX:=@List.map_nil
abbrev _root_.yY:=@List.set_cons_zero
abbrev _root_.yZ:=@List.set_cons_succ
abbrev _root_.xA:=@List.getElem?_replicate
abbrev _root_.xB:=@List.getElem?_cons_succ
abbrev _root_.xC:=@Bool.false_ne_true
abbrev _root_.xD:=@PySem.wpAny_mono
abbrev _root_.xE:=@decide_eq_false_iff_not
abbrev _root_.xF:=@List.length_singleton
abbrev _root_.xG:=@Option.some.inj
abbrev _root_.xH:=@List.replicate_succ
abbrev _root_.xI:=@List.cons_append
abbrev _root_.xJ:=@List.all_eq_true
abbrev _root_.xK:=@if_true
abbrev _root_.xM:=@List.getElem?_set
abbrev _root_.xN:=@PySem.Heap.size_push
abbrev _root_.xO:=@List.length_nil
abbrev _root_.xP:=@List.length_replicate
abbrev _root_.xQ:=@PySem.Heap.get?_update_other
abbrev _root_.xR:=@List.nil_append
abbrev _root_.xS:=@List.length_filter_le
abbrev _root_.xU:=@List.getElem?_cons_zero
abbrev _root_.xV:=@PySem.wpAny_pyIter_tuple
abbrev _root_.xW:=@List.all_cons
abbrev _root_.xX:=@or_false
abbrev _root_.xY:=@Nat.zero_le
abbrev _root_.xZ:=@PySem.wpAny_truthy_bool
abbrev _root_.qA:=@PySem.wpAny_holding
abbrev _root_.qB:=@Bool.not_true
abbrev _root_.qC:=@Int.le_refl
abbrev _root_.qD:=@List.getElem_mem
abbrev _root_.qE:=@List.mem_of_getElem?
abbrev _root_.qF:=@PySem.wpAny_callSpecial?_slot
abbrev _root_.qG:=@Array.getD_eq_getD_getElem?
abbrev _root_.qH:=@Nat.lt_irrefl
abbrev _root_.qJ:=@List.append_nil
abbrev _root_.qK:=@Option.getD_some
abbrev _root_.qL:=@List.length_drop
abbrev _root_.qM:=@List.mem_append_left
abbrev _root_.qN:=@PySem.wpAny_pyIter_list
abbrev _root_.qP:=@PySem.wpAny_newObj_type
abbrev _root_.qQ:=@List.flatten_cons
abbrev _root_.qS:=@PySem.F.plainAttrs_list
abbrev _root_.qT:=@if_false
abbrev _root_.qU:=@List.getElem_of_mem
abbrev _root_.qV:=@PyProof.Rows.callWith_type1
abbrev _root_.qX:=@PySem.wpAny_field
abbrev _root_.qY:=@PySem.sizeLine_eq
abbrev _root_.qZ:=@PySem.wpAny_call_entry
abbrev _root_.jA:=@PySem.call_meets
abbrev _root_.jB:=@PySem.wpAny_Call_Name_kw
abbrev _root_.jC:=@Nat.lt_of_le_of_lt
abbrev _root_.jD:=@List.map_append
abbrev _root_.jE:=@Bool.or_eq_true
abbrev _root_.jF:=@congrArg
abbrev _root_.jG:=@Nat.zero_add
abbrev _root_.jH:=@List.pairwise_map
abbrev _root_.jI:=@PyProof.Rows.slot_tuple_getitem
abbrev _root_.jJ:=@List.filterMap_cons
abbrev _root_.jK:=@List.ext_getElem
abbrev _root_.jL:=@Nat.ne_of_gt
abbrev _root_.jM:=@PySem.wpAny_passesOwn
abbrev _root_.jN:=@Bool.true_and
abbrev _root_.jO:=@List.getElem?_eq_none
abbrev _root_.jP:=@Ne.symm
abbrev _root_.jQ:=@Nat.lt_succ_of_lt
abbrev _root_.jR:=@and_self
abbrev _root_.jS:=@decide_true
abbrev _root_.jT:=@PySem.F.slot_tuple_iterator_next
abbrev _root_.jU:=@PySem.codeAny_mono
abbrev _root_.jV:=@Nat.le_of_lt
abbrev _root_.jW:=@Int.le_trans
abbrev _root_.jX:=@Nat.le_add_right
abbrev _root_.jY:=@List.length_take
abbrev _root_.jZ:=@List.filter_cons
abbrev _root_.kA:=@List.mem_of_find?_eq_some
abbrev _root_.kC:=@Array.getElem?_eq_getElem
abbrev _root_.kE:=@PySem.mem_of_lookup
abbrev _root_.kF:=@PyProof.Rows.listUpdate_at
abbrev _root_.kG:=@List.sum_cons
abbrev _root_.kH:=@PyProof.Rows.get?_update_seq
abbrev _root_.kJ:=@PySem.codeAny_builtin
abbrev _root_.kK:=@List.filter_map
abbrev _root_.kL:=@PySem.wpAny_seqItems
abbrev _root_.kM:=@List.take_of_length_le
abbrev _root_.kN:=@List.findIdx_lt_length_of_exists
abbrev _root_.kO:=@Option.getD_none
abbrev _root_.kP:=@Nat.lt_succ_self
abbrev _root_.kR:=@PySem.wpAny_newList
abbrev _root_.kU:=@PySem.wpAny_attempt
abbrev _root_.kW:=@List.getElem?_set_ne
abbrev _root_.kX:=@List.nodup_cons
abbrev _root_.kY:=@List.cons.injEq
abbrev _root_.kZ:=@PySem.wpAny_setField_rec
abbrev _root_.vA:=@Int.emod_lt_of_pos
abbrev _root_.vB:=@List.drop_eq_getElem_cons
abbrev _root_.vC:=@List.foldl_append
abbrev _root_.vD:=@List.findIdx_cons
abbrev _root_.vE:=@PySem.wpAny_standAt
abbrev _root_.vF:=@List.any_cons
abbrev _root_.vG:=@PySem.F.args_tuple_add_2
abbrev _root_.vH:=@List.range'_succ
abbrev _root_.vI:=@PySem.F.entry_tuple_add
abbrev _root_.vJ:=@List.pairwise_singleton
abbrev _root_.vK:=@Int.eq_ofNat_of_zero_le
abbrev _root_.vL:=@PyProof.Rows.listItems_at
abbrev _root_.vM:=@PySem.F.slot_tuple_add
abbrev _root_.vN:=@List.getElem?_set_self
abbrev _root_.vO:=@PySem.wpAny_execs_nil
abbrev _root_.vP:=@Nat.not_lt_zero
abbrev _root_.vQ:=@List.range_succ
abbrev _root_.vR:=@List.of_mem_zip
abbrev _root_.vS:=@List.find?_some
abbrev _root_.vT:=@Int.emod_nonneg
abbrev _root_.vU:=@PySem.F.slot_zip_next
abbrev _root_.vV:=@PySem.F.slot_int_rmul
abbrev _root_.vW:=@List.getElem?_toArray
abbrev _root_.vX:=@Nat.mul_le_mul
abbrev _root_.vY:=@PyProof.Rows.IntsAre.length
abbrev _root_.vZ:=@Bool.false_and
abbrev _root_.wA:=@List.getD_cons_zero
abbrev _root_.wC:=@List.getD_cons_succ
abbrev _root_.wD:=@Array.length_toList
abbrev _root_.wF:=@PySem.wpAny_rule
abbrev _root_.wG:=@PySem.typeIs_int
abbrev _root_.wH:=@of_decide_eq_false
abbrev _root_.wI:=@Option.isNone_none
abbrev _root_.wJ:=@PySem.F.args_tuple_mul_2
abbrev _root_.wK:=@PySem.wpAny_typeOf
abbrev _root_.wL:=@decide_false
abbrev _root_.wM:=@PySem.concat_meets
abbrev _root_.wN:=@Nat.lt_trans
abbrev _root_.wQ:=@List.any_map
abbrev _root_.wR:=@PySem.wpAny_pyIter_enum
abbrev _root_.wU:=@List.take_add_one
abbrev _root_.wV:=@List.nodup_append
abbrev _root_.wW:=@Function.comp_def
abbrev _root_.wX:=@PySem.F.entry_tuple_mul
local macro_rules|`(def $i:declId $s:optDeclSig $v:declVal)=>`(noncomputable def $i:declId $s:optDeclSig $v:declVal)
local macro_rules|`(abbrev $i:declId $s:optDeclSig $v:declVal)=>`(noncomputable abbrev $i:declId $s:optDeclSig $v:declVal)
namespace L2
open PySem
def fP(s:Stmt):Arguments:=match s with
 | .FunctionDef _ a _ _ _ _ _ _ _ _=>a
 | _=>{ posonlyargs:=[],args:=[],vararg:=none,kwonlyargs:=[],kw_defaults:=[],kwarg:=none,defaults:=[] }
def bY(s:Stmt):List Stmt:=match s with
 | .FunctionDef _ _ b _ _ _ _ _ _ _=>b
 | _=>[]
def aI(s:Stmt):Scope:=match s with
 | .FunctionDef _ _ _ _ _ _ sc _ _ _=>sc
 | _=>{ kind:=.function,names:=[],isGenerator:=false,isCoroutine:=false }
end L2
namespace Hd
open PySem L2 PySem.Spec PyProof.Rows
def en(P:Params)(x:String)(t:Nat)(v:Value):DictEntry:=⟨PyData.keyHash P (Str.ofString x),.str (Str.ofString x) t,v⟩
def fo(x:Str)(st:Stmt)(pm:Value)(c:Addr):Obj:=⟨.type "function",none,.func (W.fnOf x x (fP st) (bY st) (aI st) .none .none .none pm none (.ref c) .none),#[]⟩
def co(vs:List Value):Obj:=⟨.type "code",none,.fields vs.toArray,#[]⟩
def Kz(n:Nat):Value:=if n=0 then .none else .ref n
def eI(x:Str)(t l n a b c d e f u:Nat):Obj:=co [.str x t,.str x (t+1),.str "/claim/cut.py" (t+2),.int l 0,.int n 0,.int 0 0,.int 0 0,.int 3 0,Kz a,.bool true,.int 181 0,Kz b,Kz c,Kz d,Kz e,Kz f,.int u 0,.int l 0,.str "/claim/cut.py" (u+1)]
theorem JO{S A B C D E F J O:Type}{x:Option S}{f:S->A×B×C×D×E×F×J}{o:S->O}{g:A×B×C×D×E×F×J}{v:O}(h0:x.map (fun s=>(f s).1)=some g.1)(h1:x.map (fun s=>(f s).2.1)=some g.2.1)(h2:x.map (fun s=>(f s).2.2.1)=some g.2.2.1)(h3:x.map (fun s=>((f s).2.2.2.1,(f s).2.2.2.2.1))=some (g.2.2.2.1,g.2.2.2.2.1))(h4:x.map (fun s=>(f s).2.2.2.2.2.1)=some g.2.2.2.2.2.1)(h5:x.map (fun s=>(f s).2.2.2.2.2.2)=some g.2.2.2.2.2.2)(h6:x.map o=some v):x.map (fun s=>(f s,o s))=some (g,v):=by
 obtain⟨a,b,c,d,e,i,j⟩:=g
 cases x with
 | none=>cases h0
 | some s =>
  simp only[zD,yN,Prod.mk.injEq] at h0 h1 h2 h3 h4 h5 h6 ⊢
  refine⟨?_,h6⟩
  generalize f s=t at *
  obtain⟨a',b',c',d',e',i',j'⟩:=t
  dsimp only at *
  obtain⟨h3,h3'⟩:=h3
  subst h0 h1 h2 h3 h3' h4 h5
  rfl
end Hd
namespace K23
open PySem L2 PySem.Spec PyProof.Rows Hd PySem.W
abbrev top(i:Nat):Stmt:=PySem.Challenge.pw_stillflow_k23_whole_single.main.body.getD i (.Pass ⟨0,0,0,0⟩)
def vw:Program:=W.view PySem.Challenge.pw_stillflow_k23_whole_single [1,2,3,4,6,7,8,9,10,11,12,13,14,15,16,17,18,19,20,21,22,23,24,25,26,27,28,29,31,32,33,34,35,36,37,38,39,41,42,43,44,45,46,47,48,50,52,53,55,56,57,58,59,60,61,62,63]
def fR:Value:=(.str "stillflow.worlds" 255)
def tT:Value:=(.str "stillflow.flows" 423)
def we:Value:=(.str "stillflow.finding" 493)
def Np:Value:=(.str "stillflow.listing" 564)
def L5:Value:=(.str "stillflow.changes" 573)
def tV:Value:=(.str "law_stillflow_k23_whole_single" 596)
def Kf(P:Params):W.Frag:=[(3,⟨.type "dict",none,.dict #[en P "__name__" 165 (.str "law_stillflow_k23_whole_single" 596),en P "__doc__" 166 .none,en P "__package__" 167 .none,en P "__loader__" 168 (.builtin "__main__.__loader__#opaque"),en P "__spec__" 169 .none,en P "__annotations__" 170 (.ref 6),en P "__builtins__" 171 (.ref 4),en P "__file__" 173 (.str "/claim/cut.py" 172),en P "__cached__" 174 .none,en P "FlowError" 206 (.ref 24),en P "NoWorld" 222 (.ref 37),en P "NoPlan" 238 (.ref 49),en P "NoPlace" 254 (.ref 61),en P "MOST_PLACES" 258 (.int 4 257),en P "MOST" 260 (.int 9 259),en P "is_whole" 269 (.ref 70),en P "is_number" 277 (.ref 77),en P "is_long" 286 (.ref 84),en P "are_likes" 292 (.ref 89),en P "is_end" 300 (.ref 96),en P "is_way" 309 (.ref 103),en P "are_parts" 315 (.ref 108),en P "liked_pairs" 321 (.ref 113),en P "is_world" 327 (.ref 118),en P "through" 333 (.ref 123),en P "keeps_amounts" 339 (.ref 128),en P "is_plan" 345 (.ref 133),en P "check_world" 352 (.ref 140),en P "check_plan" 360 (.ref 147),en P "check_whole" 369 (.ref 154),en P "check_number" 377 (.ref 161),en P "check_side" 384 (.ref 168),en P "check_place" 393 (.ref 175),en P "replaced" 402 (.ref 182),en P "turned_order" 410 (.ref 189),en P "turned" 416 (.ref 194),en P "turned_plan" 422 (.ref 199),en P "ways_of" 430 (.ref 204),en P "chosen_by" 436 (.ref 209),en P "choice" 446 (.ref 216),en P "wants_more" 452 (.ref 221),en P "why_kept" 461 (.ref 228),en P "first_leaving" 470 (.ref 235),en P "is_still" 478 (.ref 242),en P "leaving" 484 (.ref 247),en P "rests" 492 (.ref 254),en P "chosen_by_all" 500 (.ref 259),en P "limits" 506 (.ref 264),en P "lowered" 515 (.ref 271),en P "refused" 527 (.ref 278),en P "steps" 537 (.ref 285),en P "capped" 548 (.ref 292),en P "givers_best" 555 (.ref 299),en P "takers_best" 563 (.ref 306),en P "is_single" 572 (.ref 313),en P "with_end" 585 (.ref 320),en P "with_amount" 595 (.ref 327),en P "_law_cell" 605 (.ref 334),en P "_law_drawn" 615 (.ref 341),en P "_law_orders" 630 (.ref 348),en P "_law_world" 636 (.ref 353),en P "_law_used" 642 (.ref 358),en P "_law_fits" 653 (.ref 365),en P "_law_plans" 659 (.ref 370),en P "_law_plan" 673 (.ref 377),en P "law" 679 (.ref 382)] 66,#[]⟩),
 (69,eI "is_whole" 261 13 3 64 65 0 66 67 68 267),
 (70,fo "is_whole" (top 8) fR 69),
 (76,eI "is_number" 270 17 2 71 72 0 73 74 75 275),
 (77,fo "is_number" (top 9) fR 76),
 (83,eI "is_long" 278 19 3 78 79 0 80 81 82 284),
 (84,fo "is_long" (top 10) fR 83),
 (88,eI "are_likes" 287 21 2 85 86 0 0 0 87 290),
 (89,fo "are_likes" (top 11) fR 88),
 (95,eI "is_end" 293 27 2 90 91 0 92 93 94 298),
 (96,fo "is_end" (top 12) fR 95),
 (102,eI "is_way" 301 29 3 97 98 0 99 100 101 307),
 (103,fo "is_way" (top 13) fR 102),
 (107,eI "are_parts" 310 33 3 104 105 0 0 0 106 313),
 (108,fo "are_parts" (top 14) fR 107),
 (112,eI "liked_pairs" 316 41 1 109 110 0 0 0 111 319),
 (113,fo "liked_pairs" (top 15) fR 112),
 (117,eI "is_world" 322 46 1 114 115 0 0 0 116 325),
 (118,fo "is_world" (top 16) fR 117),
 (122,eI "through" 328 53 4 119 120 0 0 0 121 331),
 (123,fo "through" (top 17) fR 122),
 (127,eI "keeps_amounts" 334 55 3 124 125 0 0 0 126 337),
 (128,fo "keeps_amounts" (top 18) fR 127),
 (132,eI "is_plan" 340 57 2 129 130 0 0 0 131 343),
 (133,fo "is_plan" (top 19) fR 132),
 (139,eI "check_world" 346 64 1 134 135 0 136 137 138 350),
 (140,fo "check_world" (top 20) fR 139),
 (146,eI "check_plan" 353 67 2 141 142 0 143 144 145 358),
 (147,fo "check_plan" (top 21) fR 146),
 (153,eI "check_whole" 361 71 3 148 149 0 150 151 152 367),
 (154,fo "check_whole" (top 22) fR 153),
 (160,eI "check_number" 370 74 2 155 156 0 157 158 159 375),
 (161,fo "check_number" (top 23) fR 160),
 (167,eI "check_side" 378 76 1 162 163 0 164 165 166 382),
 (168,fo "check_side" (top 24) fR 167),
 (174,eI "check_place" 385 78 3 169 170 0 171 172 173 391),
 (175,fo "check_place" (top 25) fR 174),
 (181,eI "replaced" 394 81 3 176 177 0 178 179 180 400),
 (182,fo "replaced" (top 26) fR 181),
 (188,eI "turned_order" 403 83 1 183 184 0 185 186 187 408),
 (189,fo "turned_order" (top 27) fR 188),
 (193,eI "turned" 411 86 1 190 191 0 0 0 192 414),
 (194,fo "turned" (top 28) fR 193),
 (198,eI "turned_plan" 417 90 2 195 196 0 0 0 197 420),
 (199,fo "turned_plan" (top 29) fR 198),
 (203,eI "ways_of" 425 94 3 200 201 0 0 0 202 428),
 (204,fo "ways_of" (top 31) tT 203),
 (208,eI "chosen_by" 431 99 4 205 206 0 0 0 207 434),
 (209,fo "chosen_by" (top 32) tT 208),
 (215,eI "choice" 437 106 4 210 211 0 212 213 214 444),
 (216,fo "choice" (top 33) tT 215),
 (220,eI "wants_more" 447 110 4 217 218 0 0 0 219 450),
 (221,fo "wants_more" (top 34) tT 220),
 (227,eI "why_kept" 453 117 3 222 223 0 224 225 226 459),
 (228,fo "why_kept" (top 35) tT 227),
 (234,eI "first_leaving" 462 125 2 229 230 0 231 232 233 468),
 (235,fo "first_leaving" (top 36) tT 234),
 (241,eI "is_still" 471 130 2 236 237 0 238 239 240 476),
 (242,fo "is_still" (top 37) tT 241),
 (246,eI "leaving" 479 132 2 243 244 0 0 0 245 482),
 (247,fo "leaving" (top 38) tT 246),
 (253,eI "rests" 485 135 2 248 249 0 250 251 252 490),
 (254,fo "rests" (top 39) tT 253),
 (258,eI "chosen_by_all" 495 139 3 255 256 0 0 0 257 498),
 (259,fo "chosen_by_all" (top 41) we 258),
 (263,eI "limits" 501 145 1 260 261 0 0 0 262 504),
 (264,fo "limits" (top 42) we 263),
 (270,eI "lowered" 507 147 3 265 266 0 267 268 269 513),
 (271,fo "lowered" (top 43) we 270),
 (277,eI "refused" 516 149 2 272 273 0 274 275 276 525),
 (278,fo "refused" (top 44) we 277),
 (284,eI "steps" 528 156 1 279 280 0 281 282 283 535),
 (285,fo "steps" (top 45) we 284),
 (291,eI "capped" 538 165 2 286 287 0 288 289 290 546),
 (292,fo "capped" (top 46) we 291),
 (298,eI "givers_best" 549 170 1 293 294 0 295 296 297 553),
 (299,fo "givers_best" (top 47) we 298),
 (305,eI "takers_best" 556 173 1 300 301 0 302 303 304 561),
 (306,fo "takers_best" (top 48) we 305),
 (312,eI "is_single" 566 177 1 307 308 0 309 310 311 570),
 (313,fo "is_single" (top 50) Np 312),
 (319,eI "with_end" 575 180 5 314 315 0 316 317 318 583),
 (320,fo "with_end" (top 52) L5 319),
 (326,eI "with_amount" 586 182 4 321 322 0 323 324 325 593),
 (327,fo "with_amount" (top 53) L5 326),
 (333,eI "_law_cell" 598 188 2 328 329 0 330 331 332 603),
 (334,fo "_law_cell" (top 55) tV 333),
 (340,eI "_law_drawn" 606 192 3 335 336 0 337 338 339 613),
 (341,fo "_law_drawn" (top 56) tV 340),
 (347,eI "_law_orders" 616 196 3 342 343 0 344 345 346 628),
 (348,fo "_law_orders" (top 57) tV 347),
 (352,eI "_law_world" 631 204 3 349 350 0 0 0 351 634),
 (353,fo "_law_world" (top 58) tV 352),
 (357,eI "_law_used" 637 220 4 354 355 0 0 0 356 640),
 (358,fo "_law_used" (top 59) tV 357),
 (364,eI "_law_fits" 643 222 2 359 360 0 361 362 363 651),
 (365,fo "_law_fits" (top 60) tV 364),
 (369,eI "_law_plans" 654 228 1 366 367 0 0 0 368 657),
 (370,fo "_law_plans" (top 61) tV 369),
 (376,eI "_law_plan" 660 236 3 371 372 0 373 374 375 671),
 (377,fo "_law_plan" (top 62) tV 376),
 (381,eI "law" 674 243 1 378 379 0 0 0 380 677),
 (382,fo "law" (top 63) tV 381)]
def hk:W.Hook:=W.kmHook Kf [3,69,70,76,77,83,84,88,89,95,96,102,103,107,108,112,113,117,118,122,123,127,128,132,133,139,140,146,147,153,154,160,161,167,168,174,175,181,182,188,189,193,194,198,199,203,204,208,209,215,216,220,221,227,228,234,235,241,242,246,247,253,254,258,259,263,264,270,271,277,278,284,285,291,292,298,299,305,306,312,313,319,320,326,327,333,334,340,341,347,348,352,353,357,358,364,365,369,370,376,377,381,382] (fun _=>rfl) [184,201]
abbrev rn(w:World):=openEnds treeTable PySem.Challenge.pw_stillflow_k23_whole_single w 6000
abbrev sn(s:Shared):=openSeen vw [] (importedModules PySem.Challenge.pw_stillflow_k23_whole_single.main.body) (fun s=>xlAt vw [] s&&recOk [] s) true s
abbrev gd:=openGood vw []
theorem Ny(w:World):(rn w).map (fun s=>(sn s).1)=some (gd.1):=by kernel_rfl
theorem NG(w:World):(rn w).map (fun s=>(sn s).2.1)=some (gd.2.1):=by kernel_rfl
theorem NL(w:World):(rn w).map (fun s=>(sn s).2.2.1)=some (gd.2.2.1):=by kernel_rfl
theorem NN(w:World):(rn w).map (fun s=>((sn s).2.2.2.1,(sn s).2.2.2.2.1))=some ((gd.2.2.2.1,gd.2.2.2.2.1)):=by kernel_rfl
theorem NA(w:World):(rn w).map (fun s=>(sn s).2.2.2.2.2.1)=some (gd.2.2.2.2.2.1):=by kernel_rfl
theorem NO(w:World):(rn w).map (fun s=>(sn s).2.2.2.2.2.2)=some (gd.2.2.2.2.2.2):=by kernel_rfl
theorem NX(w:World):(rn w).map (fun s=>hk.obs s)=some (hk.val w):=by kernel_rfl
theorem left:LeftO PySem.Challenge.pw_stillflow_k23_whole_single vw [] (fun s=>xlAt vw [] s&&recOk [] s) hk.obs hk.val 6000:=fun w=>JO (Ny w) (NG w) (NL w) (NN w) (NA w) (NO w) (NX w)
theorem Mw:PySem.Challenge.rw_stillflow_k23_whole_single.wellSaid=true:=by kernel_rfl
end K23
namespace L2
open PySem PySem.Spec PyProof.Rows
abbrev wc:=Sum Int Str
def HL:wc->Value->Bool
 | .inl k,v=>Value.isInt k v
 | .inr x,v=>Value.isStrOf x v
def Ng(w:World):wc->Int
 | .inl k=>hashInt k
 | .inr x=>hashStr w x
theorem bE:∀ {k:wc}{v:Value},HL k v=true->(∃i t,k=Sum.inl i/\v=Value.int i t)\/(∃x t,k=Sum.inr x/\v=Value.str x t)
 | .inl i,v,h=>by
  obtain⟨t,e⟩:=Value.isInt_shape (k:=i) (v:=v) h
  exact .inl ⟨i,t,rfl,e⟩
 | .inr x,v,h=>by
  obtain⟨t,e⟩:=Value.isStrOf_shape (x:=x) (v:=v) h
  exact .inr ⟨x,t,rfl,e⟩
theorem Kd(a b:Int):decide ((Sum.inl a:wc)=Sum.inl b)=(a == b):=by
 by_cases e:a=b
 ·subst e;simp
 ·have h:¬ (Sum.inl a:wc)=Sum.inl b:=fun q=>e (Sum.inl.inj q)
  rw[yB h]
  exact (beq_eq_false_iff_ne.mpr e).symm
theorem Kg(a b:Str):decide ((Sum.inr a:wc)=Sum.inr b)=decide (a=b):=by
 by_cases e:a=b
 ·subst e;simp
 ·have h:¬ (Sum.inr a:wc)=Sum.inr b:=fun q=>e (Sum.inr.inj q)
  rw[yB h,yB e]
theorem IT(a:Int)(b:Str):decide ((Sum.inl a:wc)=Sum.inr b)=false:=yB (fun q=>nomatch q)
theorem IZ(a:Str)(b:Int):decide ((Sum.inr a:wc)=Sum.inl b)=false:=yB (fun q=>nomatch q)
def Ap(prog:Program)(w:World):PySem.KeyKind prog w wc where
 is:=HL
 hash:=Ng w
 inj:=fun v a b ha hb=>by
  rcases bE ha with ⟨i,t,rfl,rfl⟩|⟨x,t,rfl,rfl⟩
  ·rcases bE hb with ⟨j,u,rfl,e⟩|⟨y,u,rfl,e⟩
   ·injection e with e1 _;rw[e1]
   ·exact nomatch e
  ·rcases bE hb with ⟨j,u,rfl,e⟩|⟨y,u,rfl,e⟩
   ·exact nomatch e
   ·injection e with e1 _;rw[e1]
 byValue:=fun k v h=>by
  rcases bE h with ⟨i,t,rfl,rfl⟩|⟨x,t,rfl,rfl⟩<;>rfl
 pyHash:=fun hv h=>by
  rcases bE hv with ⟨i,t,rfl,rfl⟩|⟨x,t,rfl,rfl⟩
  ·exact wpAny_pyHash_int h
  ·exact wpAny_pyHash_str h
 eqBool:=fun hu hv h=>by
  rcases bE hu with ⟨i,t,rfl,rfl⟩|⟨x,t,rfl,rfl⟩
  ·rcases bE hv with ⟨j,u,rfl,rfl⟩|⟨y,u,rfl,rfl⟩
   ·rw[Kd] at h;exact wpAny_eqBool_int h
   ·rw[IT] at h;exact SeqAt.EqAt.int_str i t y u _ _ _ _ h
  ·rcases bE hv with ⟨j,u,rfl,rfl⟩|⟨y,u,rfl,rfl⟩
   ·rw[IZ] at h;exact SeqAt.EqAt.str_int x t j u _ _ _ _ h
   ·rw[Kg] at h;exact wpAny_eqBool_str h
 «strs»:=fun k x t v h=>by
  rcases bE h with ⟨i,u,rfl,e⟩|⟨y,u,rfl,e⟩
  ·exact nomatch e
  ·injection e with e1 _
   subst e1
   cases v<;>rfl
inductive V where
 | non|bl (b:Bool)|int (i:Int)|str (x:Str)|byt (b:Array UInt8)|flt (b:UInt64)|ref (a:Addr)|ty (n:String)
 deriving DecidableEq
def RelV:V->Value->Prop
 | .non,u=>u=Value.none
 | .bl b,u=>u=Value.bool b
 | .int i,u=>∃t,u=Value.int i t
 | .str x,u=>∃t,u=Value.str x t
 | .byt b,u=>∃t,u=Value.bytes b t
 | .flt b,u=>∃t,u=Value.float b t
 | .ref a,u=>u=Value.ref a
 | .ty n,u=>u=Value.type n
abbrev aG:List V->List Value->Prop:=Paired RelV
theorem aG.length(r:aG xs us):xs.length=us.length:=Paired.length r
theorem aG.get:∀ {xs:List V}{us:List Value}{i:Nat}{x:V},aG xs us->xs[i]?=some x->∃u,us[i]?=some u/\RelV x u
 | _,_,_,_,.nil,e=>by simp at e
 | _,_,0,_,.cons r _,e=>by simp at e;subst e;exact⟨_,rfl,r⟩
 | _,_,i+1,x,.cons _ t,e=>by
  obtain⟨u,h1,h2⟩:=aG.get (i:=i) (x:=x) t (by simpa using e)
  exact⟨u,by simpa using h1,h2⟩
theorem aG.set(r:RelV x u):∀ {xs:List V}{us:List Value}(i:Nat),aG xs us->aG (xs.set i x) (us.set i u)
 | _,_,_,.nil=>.nil
 | _,_,0,.cons _ t=>.cons r t
 | _,_,i+1,.cons q t=>.cons q (aG.set r i t)
theorem aG.append:∀ {xs ys:List V}{us ws:List Value},aG xs us->aG ys ws->aG (xs++ys) (us++ws)
 | _,_,_,_,.nil,s=>s
 | _,_,_,_,.cons r t,s=>.cons r (aG.append t s)
theorem aG.take:∀ {xs:List V}{us:List Value}(n:Nat),aG xs us->aG (xs.take n) (us.take n)
 | _,_,0,_=>.nil
 | _,_,_+1,.nil=>.nil
 | _,_,n+1,.cons r t=>.cons r (aG.take n t)
theorem aG.drop:∀ {xs:List V}{us:List Value}(n:Nat),aG xs us->aG (xs.drop n) (us.drop n)
 | _,_,0,r=>r
 | _,_,_+1,.nil=>.nil
 | _,_,n+1,.cons _ t=>aG.drop n t
def LV:Option V->Option Value->Prop
 | some v,some u=>RelV v u
 | none,none=>True
 | _,_=>False
def KV:List (κ×V)->List (κ×Value)->Prop:=Paired fun (p:κ×V) (q:κ×Value)=>p.1=q.1/\RelV p.2 q.2
def kV:wc->V
 | .inl i=>.int i
 | .inr x=>.str x
inductive HO where
  | lst (xs:List V)
  | tup (xs:List V)
  | dK (kvs:List (wc×V))|dT (kvs:List (List wc×V))
  | set (S:Int->Bool) (n:Nat)
  | ins (C dx:Addr) (fs:List (Str×V))
  | own (x:Addr)
  | xd (fs:List (Str×V))
  | met (f x:Addr)
  | rng (lo hi:Int)
  | frz (o:Obj) (u:HO)
  | tab (q:Str)
 | cod (q:Str)
  | ext (φ:Heap->Prop)
abbrev Hp:=Addr->Option HO
def upd(H:Hp)(a:Addr)(o:HO):Hp:=fun b=>if b=a then some o else H b
theorem aE:upd H a o a=some o:=by unfold upd;rw[yO rfl]
theorem az(h:b≠a):upd H a o b=H b:=by unfold upd;rw[yQ h]
theorem aH{H:Hp}{a b:Addr}{o:HO}(h:H a=some o)(h':H b=none):a≠b:=by
 intro e;subst e;rw[h] at h';cases h'
def oD(h:Heap)(a:Addr)(its:Array Value):Prop:=IsTup h a its/\∃o,h.get? a=some o/\o.dict=none
theorem oD.new(h:Heap)(its:Array Value):oD (h.push { cls:=.type "tuple",data:=.seq its }) h.objs.size its:=⟨IsTup.new _ _,_,zZ _ rfl,rfl⟩
section
variable (P:Program) (w:World)
def ef(H:Hp)(h:Heap)(a:Addr):HO->Prop
 | .lst xs=>xs.length<=sizeLine/\∃ (its:List Value) (n:Nat),aG xs its/\h.get? a=some { cls:=.type "list",data:=.seq its.toArray n }
 | .tup xs=>xs.length<=sizeLine/\∃its:List Value,aG xs its/\oD h a its.toArray
 | .dK kvs=>kvs.length<=sizeLine/\(a == sysModules)=false/\∃vs,KV kvs vs/\h.DictOf (Ap P w) a vs
 | .dT kvs=>kvs.length<=sizeLine/\(a == sysModules)=false/\∃xs:List (List wc×Addr×Value),
   Paired (fun (p:List wc×V) (q:List wc×Addr×Value)=>p.1=q.1/\H q.2.1=some (.tup (p.1.map kV))/\RelV p.2 q.2.2) kvs xs /\
   ∃o es ep,h.get? a=some o/\o.ExactDict/\o.data=.dict es ep/\es.toList=xs.map (entryOfKey (tupleKind (Ap P w)))/\(xs.map (·.1)).Nodup
 | .set S n=>h.SetOf (intKind P w) a S n
 | .ins C dx fs=>H dx=some (.own a)/\fs.length<=1000/\dx≠a/\h.get? a=some (W.instObj C dx) /\
   ∃mA,h.Ns1 dx mA/\(∀f,LV (fs.lookup f) (mA f))/\PySem.Within mA (fs.map (·.1))
 | .own _=>∃o,h.get? a=some o
 | .xd fs=>∃mA,h.Ns1 a mA/\∀f,LV (fs.lookup f) (mA f)
 | .rng lo hi=>∃t u v,h.get? a=some { cls:=.type "range",data:=.fields #[.int lo t,.int hi u,.int 1 v] }
 | .frz o u=>h.get? a=some o/\ef H h a u
 | .tab q=>∃ps:Array Value,h.get? a=some { cls:=.none,data:=.fields ps }/\TriplesOk ps.toList/\∀pos v,codeAmong pos ps.toList=some v->∃c,v=.ref c/\H c=some (.cod q)
 | .cod q=>h.CodeRec (.ref a) q
 | .met f x=>h.get? a=some (W.methodObj (.ref f) (.ref x))
 | .ext φ=>φ h/\(∃o,h.get? a=some o)/\∀h1 h2:Heap,φ h1->(∀o,h1.get? a=some o->h2.get? a=some o)->φ h2
def n5(H:Hp)(h:Heap):Prop:=∀a o,H a=some o->ef P w H h a o
end
section
theorem ef.lt(x:ef P w H h a o):a < h.objs.size:=by
 cases o with
 | lst xs=>obtain⟨_,_,_,_,e⟩:=x;exact yA e
 | tup xs=>obtain⟨_,_,_,p⟩:=x;exact p.1.lt
 | dK kvs=>obtain⟨_,_,_,_,o,_,_,e,_⟩:=x;exact yA e
 | dT kvs=>obtain⟨_,_,_,_,o,_,_,e,_⟩:=x;exact yA e
 | set S n=>obtain⟨o,_,_,_,e,_⟩:=x;exact yA e
 | ins C dx fs=>obtain⟨_,_,_,e,_⟩:=x;exact yA e
 | own y=>obtain⟨_,e⟩:=x;exact yA e
 | xd fs=>obtain⟨_,⟨_,_,_,e,_⟩,_⟩:=x;exact yA e
 | rng lo hi=>obtain⟨_,_,_,e⟩:=x;exact yA e
 | frz ob u=>obtain⟨e,_⟩:=x;exact yA e
 | tab q=>obtain⟨_,e,_⟩:=x;exact yA e
 | cod q=>obtain⟨_,_,_,_,e0,e,_⟩:=x;cases e0;exact yA e
 | met f y=>exact yA (show h.get? a=some _ from x)
 | ext φ=>obtain⟨_,⟨_,e⟩,_⟩:=x;exact yA e
theorem Paired.mapP:∀ {l₁:List α}{l₂:List β},Paired F l₁ l₂->(∀a b,F a b->G a b)->Paired G l₁ l₂
 | _,_,.nil,_=>.nil
 | _,_,.cons r t,f=>.cons (f _ _ r) (Paired.mapP t f)
def Nv:HO->Prop
 | .tup _=>True
 | .cod _=>True
 | _=>False
theorem ef.stay(x:ef P w H h a o)(k:∀b u,(b=a\/H b=some (.own a))->h.get? b=some u->h'.get? b=some u)
  (ho:∀b,H b=some (.own a)->H' b=some (.own a)) (ht:∀b u,H b=some u->Nv u->H' b=some u):ef P w H' h' a o:=by
 induction o with
 | lst xs=>obtain⟨z,its,n,r,e⟩:=x;exact⟨z,its,n,r,k _ _ (.inl rfl) e⟩
 | tup xs=>obtain⟨z,its,r,⟨ob,e,c⟩,o2,e2,d2⟩:=x;exact⟨z,its,r,⟨ob,k _ _ (.inl rfl) e,c⟩,o2,k _ _ (.inl rfl) e2,d2⟩
 | dK kvs=>obtain⟨z,y,vs,r,ob,es,ep,e,c⟩:=x;exact⟨z,y,vs,r,ob,es,ep,k _ _ (.inl rfl) e,c⟩
 | dT kvs =>
  obtain⟨z,y,xs,r,ob,es,ep,e,c⟩:=x
  exact⟨z,y,xs,Paired.mapP r fun p q z=>⟨z.1,ht _ _ z.2.1 trivial,z.2.2⟩,ob,es,ep,k _ _ (.inl rfl) e,c⟩
 | set S n=>obtain⟨ob,es,ep,t,e,c⟩:=x;exact⟨ob,es,ep,t,k _ _ (.inl rfl) e,c⟩
 | ins C dx fs =>
  obtain⟨d,z,ne,e,mA,⟨od,es,ep,e2,c⟩,r⟩:=x
  exact⟨ho _ d,z,ne,k _ _ (.inl rfl) e,mA,⟨od,es,ep,k _ _ (.inr d) e2,c⟩,r⟩
 | own y=>obtain⟨ob,e⟩:=x;exact⟨ob,k _ _ (.inl rfl) e⟩
 | xd fs=>obtain⟨mA,⟨od,es,ep,e,c⟩,r⟩:=x;exact⟨mA,⟨od,es,ep,k _ _ (.inl rfl) e,c⟩,r⟩
 | rng lo hi=>obtain⟨t,u,v,e⟩:=x;exact⟨t,u,v,k _ _ (.inl rfl) e⟩
 | frz ob u ih=>obtain⟨e,q⟩:=x;exact⟨k _ _ (.inl rfl) e,ih q⟩
 | tab q=>obtain⟨ps,e,t,c⟩:=x;exact⟨ps,k a _ (.inl rfl) e,t,fun pos v z=>let ⟨c0,z1,z2⟩:=c pos v z;⟨c0,z1,ht _ _ z2 trivial⟩⟩
 | cod q=>obtain⟨c,oc,vs,t,e0,e,r⟩:=x;cases e0;exact⟨_,oc,vs,t,rfl,k _ _ (.inl rfl) e,r⟩
 | met f y =>
  have e:h.get? a=some (W.methodObj (.ref f) (.ref y)):=x
  show h'.get? a=some (W.methodObj (.ref f) (.ref y))
  exact k a _ (.inl rfl) e
 | ext φ=>obtain⟨p,⟨o,e⟩,st⟩:=x;exact⟨st _ _ p fun o q=>k _ _ (.inl rfl) q,⟨o,k _ _ (.inl rfl) e⟩,st⟩
theorem n5.lt(x:n5 P w H h)(e:H a=some o):a < h.objs.size:=(x a o e).lt
theorem n5.fresh(x:n5 P w H h)(e:h.objs.size<=a):H a=none:=by
 cases q:H a with
 | none=>rfl
 | some u=>exact absurd (zS (x.lt q) e) (qH _)
theorem n5.kept(x:n5 P w H h)(k:∀b u,h.get? b=some u->h'.get? b=some u):n5 P w H h':=fun a o e =>
 (x a o e).stay (fun b u _ q=>k b u q) (fun _ q=>q) fun _ _ q _=>q
theorem n5.laid(x:n5 P w H h)(k:∀b u,h.get? b=some u->h'.get? b=some u)(hp:h.objs.size<=a)(new:ef P w (upd H a o) h' a o):n5 P w (upd H a o) h':=fun b u e=>by
 have hn:=x.fresh hp
 by_cases hb:b=a
 ·subst hb;rw[aE] at e;cases e;exact new
 ·rw[az hb] at e
  exact (x b u e).stay (fun c v _ q=>k c v q) (fun c q=>by rw[az (aH q hn)];exact q) fun c xs q _=>by rw[az (aH q hn)];exact q
end
def Rd(H:Hp)(a:Addr)(u:HO):Prop:=H a=some u\/∃o,H a=some (.frz o u)
theorem Rd.ok(r:Rd H a u)(x:n5 P w H h):ef P w H h a u:=by
 rcases r with r|⟨o,r⟩
 ·exact x a u r
 ·obtain⟨_,q⟩:=x a _ r
  exact q
def La:Option HO->Prop
 | some (.lst _)=>True
 | some (.dK _)=>True
 | some (.dT _)=>True
 | some (.set _ _)=>True
 | some (.ins _ _ _)=>True
 | some (.ext _)=>True
 | _=>False
section
theorem n5.write(ok:n5 P w H h)(mu:La (H x))(he:e=x\/H e=some (.own x))(k:∀b u,b≠e->h.get? b=some u->h'.get? b=some u)(heo:∃u,h'.get? e=some u)
  (new:ef P w (upd H x o') h' x o'):n5 P w (upd H x o') h':=fun b u q=>by
 have nown:∀c y,H c=some (.own y)->c≠x:=fun c y r z=>by subst z;rw[r] at mu;exact mu
 have ntup:∀c u,H c=some u->Nv u->c≠x:=fun c u r hr z=>by subst z;rw[r] at mu;cases u<;>first|exact mu|exact hr
 by_cases hb:b=x
 ·subst hb;rw[aE] at q;cases q;exact new
 ·rw[az hb] at q
  by_cases hbe:b=e
  ·have q':H b=some (.own x):=by
    rcases he with z|z
    ·exact absurd (hbe.trans z) hb
    ·rw[hbe];exact z
   rw[q] at q';cases q'
   obtain⟨v,hv⟩:=heo
   exact⟨v,by rw[hbe];exact hv⟩
  ·refine (ok b u q).stay (fun c v hc r=>k c v ?_ r) (fun c r=>by rw[az (nown c b r)];exact r) fun c xs r hr=>by rw[az (ntup c xs r hr)];exact r
   rcases hc with rfl|hc
   ·exact hbe
   ·rintro rfl
    rcases he with z|z
    ·exact nown c b hc z
    ·rw[hc] at z;cases z;exact hb rfl
end
def L9:HO->Prop
 | .tab _=>True
 | .cod _=>True
 | _=>False
theorem L9.not_mut(h:L9 u):¬ La (some u):=by cases u<;>first|exact fun z=>z|exact h.elim
structure HH(H H':Hp)(h h':Heap):Prop where
 st:∀b u,H b=some u->L9 u->H' b=some u
 gr:∀b q ps,H b=some (.tab q)->h.get? b=some { cls:=.none,data:=.fields ps }->∃more:Array Value,h'.get? b=some { cls:=.none,data:=.fields (ps++more) }
theorem HH.kept(k:∀b u,(∃q,H b=some (.tab q))->h.get? b=some u->h'.get? b=some u)(st:∀b u,H b=some u->L9 u->H' b=some u):HH H H' h h' :=
 ⟨st,fun b q ps e z=>⟨#[],by rw[Array.append_empty];exact k b _ ⟨q,e⟩ z⟩⟩
theorem HH.trans(a:HH H H1 h h1)(b:HH H1 H2 h1 h2):HH H H2 h h2 :=
 ⟨fun c u q t=>b.st c u (a.st c u q t) t,fun c q ps e z=>by
  obtain⟨m1,z1⟩:=a.gr c q ps e z
  obtain⟨m2,z2⟩:=b.gr c q _ (a.st c _ e trivial) z1
  exact⟨m1++m2,by rw[z2,Array.append_assoc]⟩⟩
structure Un(fs ex:List Addr)(H H':Hp)(h h':Heap):Prop where
 keep:∀b o,h.get? b=some o->H b=none->b∉fs->b∉ex->h'.get? b=some o
 slot:∀b o,h.get? b=some o->H b=none->b∈fs->b∉ex->∃sl,h'.get? b=some { o with slots:=sl }
 free:∀b o,h.get? b=some o->H b=none->b∉ex->H' b=none
 there:∀b o,h.get? b=some o->b∉ex->∃o',h'.get? b=some o'
 tups:∀b xs,H b=some (.tup xs)->H' b=some (.tup xs)
 frzs:∀b o u,H b=some (.frz o u)->H' b=some (.frz o u)
 tbls:HH H H' h h'
section
theorem Un.any(u:Un fs ex H H1 h h1)(q:h.get? b=some ob)(n:H b=none)(hx:b∉ex):∃sl,h1.get? b=some { ob with slots:=sl }:=by
 by_cases hb:b∈fs
 ·exact u.slot b ob q n hb hx
 ·exact⟨ob.slots,u.keep b ob q n hb hx⟩
theorem Un.kept(k:∀b u,h.get? b=some u->h'.get? b=some u):Un fs ex H H h h' :=
 ⟨fun b ob q _ _ _=>k b ob q,fun b ob q _ _ _=>⟨ob.slots,k b ob q⟩,fun _ _ _ n _=>n,fun b ob q _=>⟨ob,k b ob q⟩,fun _ _ q=>q,fun _ _ _ q=>q,.kept (fun b u _ e=>k b u e) fun _ _ e _=>e⟩
theorem Un.refl:Un fs ex H H h h:=Un.kept fun _ _ q=>q
theorem Un.laid(k:∀b u,h.get? b=some u->h'.get? b=some u)(hp:h.objs.size<=a)(hn:H a=none):Un fs ex H (upd H a o) h h' where
 keep:=fun b u q _ _ _=>k b u q
 slot:=fun b u q _ _ _=>⟨u.slots,k b u q⟩
 free:=fun b u q n _=>by rw[az (yU (zS (yA q) hp))];exact n
 there:=fun b u q _=>⟨u,k b u q⟩
 tups:=fun b xs q=>by rw[az (aH q hn)];exact q
 frzs:=fun b u xs q=>by rw[az (aH q hn)];exact q
 tbls:=.kept (fun b u _ e=>k b u e) fun b u q _=>by rw[az (aH q hn)];exact q
theorem Un.write(mu:La (H x))(he:e=x\/H e=some (.own x))(k:∀b u,b≠e->h.get? b=some u->h'.get? b=some u)(heo:∃u,h'.get? e=some u):Un fs ex H (upd H x o) h h':=by
 have hx:∀b,H b=none->b≠x:=fun b n z=>by subst z;rw[n] at mu;exact mu
 have hb:∀b,H b=none->b≠e:=fun b n z=>by
  subst z
  rcases he with r|r
  ·exact hx b n r
  ·rw[n] at r;cases r
 have hm:∀b u,H b=some u->¬ La (some u)->b≠x:=fun b u q nm z=>by subst z;rw[q] at mu;exact nm mu
 refine⟨fun b u q n _ _=>k b u (hb b n) q,fun b u q n _ _=>⟨u.slots,k b u (hb b n) q⟩,fun b u q n _=>by rw[az (hx b n)];exact n,fun b u q _=>?_,
  fun b xs q=>by rw[az (hm b _ q fun z=>z)];exact q,fun b u xs q=>by rw[az (hm b _ q fun z=>z)];exact q,.kept (fun b u z e=>k b u (fun r=>by subst r;rcases he with r|r<;>first|(subst r;rcases z with ⟨q,z⟩;rw[z] at mu;exact mu)|(rcases z with ⟨q,z⟩;rw[z] at r;cases r)) e) fun b u q nm=>by rw[az (hm b _ q (nm.not_mut))];exact q⟩
 by_cases hbe:b=e
 ·subst hbe;exact heo
 ·exact⟨u,k b u hbe q⟩
end
def Ma(h:Heap)(H:Hp):List Addr:=(List.range h.objs.size).filter fun a=>(H a).isSome
def sJ(h:Heap)(H:Hp):Heap:=W.hideAll h (Ma h H)
theorem A2(h:Heap)(H:Hp):(sJ h H).objs.size=h.objs.size:=W.hideAll_size _ _
theorem DK(e:h.get? b=some o)(n:H b=none):(sJ h H).get? b=some o :=
 W.hideAll_get _ e fun hm=>by
  have q:(H b).isSome=true:=(List.mem_filter.mp hm).2
  rw[n] at q;simp at q
theorem Hl(e:(sJ h H).get? b=some o):h.get? b=some o/\H b=none:=by
 have e':h.get? b=some o:=W.of_hideAll (Ma h H) e
 refine⟨e',?_⟩
 cases q:H b with
 | none=>rfl
 | some x =>
  have hm:b∈Ma h H:=List.mem_filter.mpr ⟨List.mem_range.mpr (yA e'),by simp[q]⟩
  have z:(sJ h H).get? b=none:=W.hideAll_none (Ma h H) hm
  rw[z] at e;cases e
def L8(mg:Str->Option Value)(base:Heap):Prop:=∃bm o,mg "__builtins__"=some (.ref bm)/\bm≠builtinsNs/\bm≠mainGlobals/\base.get? bm=some o/\o.cls=.type "module"/\o.dict=some builtinsNs/\o.data=.plain
structure Mod(K:W.Frag)(mg:Str->Option Value)(base:Heap):Prop where
 kin:K.In base
 glob:base.Ns mainGlobals mg
 blt:∃mb,base.Ns builtinsNs mb/\∀x:Str,x≠"__name__"->mb x=bootBuiltins x
 nolimit:base.NoLimit
 bmd:L8 mg base
structure Cx where
 prog:Program
 w:World
 K:W.Frag
 mg:Str->Option Value
 base:Heap
 A:Around
 N:List Str
 s₀:Shared
 H₀:Hp
 env:Env
 outer:List Env
 stack:List Env
 ex:List Addr
 fn:Str->Bool
 calm:Bool
 pn:List (Addr×Obj)
 xe:Value->Shared->Prop
def CY(l:List Env):List Addr:=l.filterMap (·.frame)
abbrev Cx.fs(X:Cx):List Addr:=CY X.outer
def Fn(sc:Scope)(x:Str):Prop:=sc.names.lookup x=some .local \/ sc.names.lookup x=some .cell\/sc.names.lookup x=some .free
def Loc(sc:Scope)(x:Str):Prop:=sc.names.lookup x=some .local \/ sc.names.lookup x=some .cell
def Look(env:Env)(h:Heap)(m:Str->Option Value)(x:Str)(u:Value):Prop :=
 (env.kindOf x=some .local /\ m x=some u)\/((env.kindOf x=some .cell\/env.kindOf x=some .free)/\∃c,env.cells.lookup x=some c/\h.IsCell c (some u))
structure Cx.Ok(X:Cx):Prop where
 mod:Mod X.K X.mg X.base
 kind:X.env.scope.kind=.function
 glob:X.env.globals=mainGlobals
 blt:X.env.builtins=builtinsNs
 above:X.s₀.heap.objs.size<=X.env.locals
 inj:∀x y c,X.env.cells.lookup x=some c->X.env.cells.lookup y=some c->x=y
 has:∀x,(X.env.kindOf x=some .cell\/X.env.kindOf x=some .free)->∃c,X.env.cells.lookup x=some c
 cab:∀x c,X.fn x=true->X.env.cells.lookup x=some c->X.s₀.heap.objs.size<=c
 hd:X.calm=true->X.A.handled=none
 frames:X.A.frames=some X.stack
 stk:X.stack=X.outer\/(X.stack=X.env::X.outer/\X.env.frame=some X.env.locals)
 exf:∀b∈X.ex,b≠X.env.locals/\∀x c,X.env.cells.lookup x=some c->c≠b
 bs:∀b o,X.base.get? b=some o->X.s₀.heap.get? b=some o/\X.H₀ b=none
 bsz:X.base.objs.size<=X.s₀.heap.objs.size
 noex:∀b o,X.base.get? b=some o->b∉X.ex
 exfs:∀b∈X.ex,b∉X.fs
 funs:X.s₀.heap.FunFrames X.base X.outer
 frf:∀b∈X.fs,X.H₀ b=none
structure Inv(X:Cx)(pins:List (Addr×Obj))(σ:List (Option V))(H:Hp)(s:Shared):Prop where
 ok:X.Ok
 os:s.os=X.s₀.os
 bare:AllBare s.gens
 base:Un X.fs X.ex X.H₀ H X.s₀.heap s.heap
 loc:∃m,s.heap.Ns X.env.locals m/\∀ (i:Nat) (x:Str) (v:V),X.N[i]?=some x->σ[i]?=some (some v)->Fn X.env.scope x->∃u,RelV v u/\Look X.env s.heap m x u
 cell:∀x c,X.env.cells.lookup x=some c->∃v,s.heap.IsCell c v
 free:H X.env.locals=none
 freeC:∀x c,X.env.cells.lookup x=some c->H c=none
 pin:∀p∈X.pn++pins,s.heap.get? p.1=some p.2/\H p.1=none/\p.1≠X.env.locals/\p.1∉X.fs/\∀v,p.2.data≠.cell v
 hok:n5 X.prog X.w H s.heap
 len:σ.length=X.N.length
section
theorem Cx.Ok.nofr{X:Cx}(ok:X.Ok)(e:X.base.get? b=some o):b∉X.fs:=fun hb=>by
 have:=(ok.funs.mem hb).1
 rw[e] at this;cases this
theorem Inv.bs{X:Cx}{s:Shared}(I:Inv X pins σ H s):∀b o,X.base.get? b=some o->s.heap.get? b=some o/\H b=none:=fun b o e =>
 ⟨I.base.keep b o (I.ok.bs b o e).1 (I.ok.bs b o e).2 (I.ok.nofr e) (I.ok.noex b o e),I.base.free b o (I.ok.bs b o e).1 (I.ok.bs b o e).2 (I.ok.noex b o e)⟩
theorem Inv.bk(I:Inv X pins σ H s):∀b o,X.base.get? b=some o->s.heap.get? b=some o:=fun b o e=>(I.bs b o e).1
theorem Inv.mod(I:Inv X pins σ H s):Mod X.K X.mg X.base:=I.ok.mod
theorem Inv.kIn(I:Inv X pins σ H s):X.K.In s.heap:=I.ok.mod.kin.keeps I.bk
theorem Inv.nolimit(I:Inv X pins σ H s):s.heap.NoLimit:=I.ok.mod.nolimit.keeps I.bk
theorem Inv.lt(I:Inv X pins σ H s):X.env.locals < s.heap.objs.size:=let ⟨_,hn,_⟩:=I.loc;hn.lt
theorem Inv.sz(I:Inv X pins σ H s):X.s₀.heap.objs.size<=s.heap.objs.size:=yF I.ok.above (jV I.lt)
theorem Inv.nofs(I:Inv X pins σ H s)(h:s.heap.objs.size<=a):a∉X.fs:=fun hb=>by
 obtain⟨_,o,ho,_⟩:=I.ok.funs.mem hb
 exact absurd (zS (yA ho) (yF I.sz h)) (qH _)
theorem Inv.cne(I:Inv X pins σ H s):∀x c,X.env.cells.lookup x=some c->c≠X.env.locals:=fun x c e z=>by
 obtain⟨v,o,ho,hd⟩:=I.cell x c e
 obtain⟨m,⟨o',es,ep,ho',hd',_⟩,_⟩:=I.loc
 rw[z,ho'] at ho;cases ho;rw[hd'] at hd;cases hd
theorem Inv.funs(I:Inv X pins σ H s):s.heap.FunFrames X.base X.outer:=by
 have all:∀ (l:List Env),(∀b∈CY l,b∈X.fs)->X.s₀.heap.FunFrames X.base l->s.heap.FunFrames X.base l:=by
  intro l
  induction l with
  | nil=>intro _ _;trivial
  | cons env r ih =>
   intro hs hl
   obtain⟨hk,⟨L,o,hf,hn,ho,hd⟩,hr⟩:=hl
   have hL:L∈X.fs:=hs L (by unfold CY;rw[jJ,hf];exact zH)
   obtain⟨sl,e⟩:=I.base.slot L o ho (I.ok.frf L hL) hL fun z=>I.ok.exfs L z hL
   exact⟨hk,⟨L,_,hf,hn,e,hd⟩,ih (fun b hb=>hs b (by unfold CY;rw[jJ,hf];exact zE _ hb)) hr⟩
 exact all X.outer (fun _ hb=>hb) I.ok.funs
theorem Inv.stack(I:Inv X pins σ H s):s.heap.FunFrames X.base X.stack:=by
 rcases I.ok.stk with e|⟨e,hf⟩
 ·rw[e];exact I.funs
 ·rw[e]
  obtain⟨m,hn,_⟩:=I.loc
  refine .cons (by rw[I.ok.kind];decide) hf hn ?_ I.funs
  exact Heap.get?_none_of_le (yF I.ok.bsz I.ok.above)
theorem Inv.stkSub(I:Inv X pins σ H s):∀b∈CY X.stack,b∈X.env.locals::X.fs:=fun b hb=>by
 rcases I.ok.stk with e|⟨e,hf⟩
 ·rw[e] at hb;exact zE _ hb
 ·rw[e] at hb
  unfold CY at hb
  rw[jJ,hf] at hb
  exact hb
theorem Inv.stkFree(I:Inv X pins σ H s):∀b∈CY X.stack,H b=none:=fun b hb=>by
 rcases List.mem_cons.mp (I.stkSub b hb) with e|hb
 ·rw[e];exact I.free
 ·obtain⟨_,o,ho,_⟩:=I.ok.funs.mem hb
  exact I.base.free b o ho (I.ok.frf b hb) fun z=>I.ok.exfs b z hb
theorem Inv.step{g':Array GenState}{t':Nat}{d':Drawn}{ch:List Addr}(I:Inv X pins σ H s)
  (hch:∀b∈ch,(b∈X.ex\/X.s₀.heap.objs.size<=b)/\b≠X.env.locals/\(∀x c,X.env.cells.lookup x=some c->c≠b)/\∀p∈X.pn++pins,p.1≠b)
  (keep:∀b o,b≠X.env.locals->b∉X.fs->b∉ch->s.heap.get? b=some o->H b=none->h'.get? b=some o)
  (slot:∀b o,b≠X.env.locals->b∈X.fs->b∉ch->s.heap.get? b=some o->H b=none->∃sl,h'.get? b=some { o with slots:=sl }) (free:∀b o,b∉ch->s.heap.get? b=some o->H b=none->H' b=none)
  (there:∀b o,b∉ch->s.heap.get? b=some o->∃o',h'.get? b=some o')
  (tups:∀b xs,H b=some (.tup xs)->H' b=some (.tup xs)) (frzs:∀b o u,H b=some (.frz o u)->H' b=some (.frz o u)) (tbls:HH H H' s.heap h')
  (ns:∀m,s.heap.Ns X.env.locals m->h'.Ns X.env.locals m) (hok:n5 X.prog X.w H' h') (hg:AllBare g') :
  Inv X pins σ H' { s with heap:=h',gens:=g',drawn:=d',toks:=t' }:=by
 have neL:∀b o,X.s₀.heap.get? b=some o->b≠X.env.locals:=fun b o e=>yU (zS (yA e) I.ok.above)
 have neC:∀b o,X.s₀.heap.get? b=some o->b∉X.ex->b∉ch:=fun b o e hx hb=>by
  rcases (hch b hb).1 with z|z
  ·exact hx z
  ·exact absurd (zS (yA e) z) (qH _)
 have cellK:∀x c,X.env.cells.lookup x=some c->∀v,s.heap.IsCell c v->h'.IsCell c v:=fun x c e v ⟨o,ho,hd⟩=>by
  have nch:c∉ch:=fun z=>(hch c z).2.2.1 x c e rfl
  by_cases hc:c∈X.fs
  ·obtain⟨sl,q⟩:=slot c o (I.cne x c e) hc nch ho (I.freeC x c e)
   exact⟨_,q,hd⟩
  ·exact⟨o,keep c o (I.cne x c e) hc nch ho (I.freeC x c e),hd⟩
 refine⟨I.ok,I.os,hg,⟨fun b o e n hb hx=>?_,fun b o e n hb hx=>?_,fun b o e n hx=>?_,fun b o e hx=>?_,fun b xs e=>tups b xs (I.base.tups b xs e),fun b o xs e=>frzs b o xs (I.base.frzs b o xs e),I.base.tbls.trans tbls⟩,?_,fun x c e=>?_,?_,fun x c e=>?_,fun p hp=>?_,hok,I.len⟩
 ·exact keep b o (neL b o e) hb (neC b o e hx) (I.base.keep b o e n hb hx) (I.base.free b o e n hx)
 ·obtain⟨sl,e1⟩:=I.base.slot b o e n hb hx
  obtain⟨sl',e2⟩:=slot b _ (neL b o e) hb (neC b o e hx) e1 (I.base.free b o e n hx)
  exact⟨sl',e2⟩
 ·obtain⟨o',e1⟩:=I.base.there b o e hx
  exact free b o' (neC b o e hx) e1 (I.base.free b o e n hx)
 ·obtain⟨o',e1⟩:=I.base.there b o e hx
  exact there b o' (neC b o e hx) e1
 ·obtain⟨m,hn,hl⟩:=I.loc
  refine⟨m,ns m hn,fun i x v e1 e2 e3=>?_⟩
  obtain⟨u,r,l⟩:=hl i x v e1 e2 e3
  refine⟨u,r,?_⟩
  rcases l with l|⟨k,c,e,z⟩
  ·exact .inl l
  ·exact .inr ⟨k,c,e,cellK x c e _ z⟩
 ·obtain⟨v,z⟩:=I.cell x c e
  exact⟨v,cellK x c e v z⟩
 ·obtain⟨m,⟨o,_,_,ho,_⟩,_⟩:=I.loc
  exact free _ o (fun z=>(hch _ z).2.1 rfl) ho I.free
 ·obtain⟨v,o,ho,hd⟩:=I.cell x c e
  exact free c o (fun z=>(hch c z).2.2.1 x c e rfl) ho (I.freeC x c e)
 ·obtain⟨e,n,ne,nf,d⟩:=I.pin p hp
  have nch:p.1∉ch:=fun z=>(hch p.1 z).2.2.2 p hp rfl
  exact⟨keep p.1 p.2 ne nf nch e n,free p.1 p.2 nch e n,ne,nf,d⟩
theorem Inv.un{t':Nat}(I:Inv X pins σ H s)(u:Un X.fs [] H H' s.heap h')(hok:n5 X.prog X.w H' h'):Inv X pins σ H' { s with heap:=h',toks:=t' }:=by
 obtain⟨m,⟨o,es,ep,ho,r⟩,_⟩:=id I.loc
 obtain⟨sl,hL⟩:=u.any ho I.free (by simp)
 exact I.step (g':=s.gens) (d':=s.drawn) (ch:=[]) (fun _ z=>nomatch z) (fun b o _ hb _ e n=>u.keep b o e n hb (by simp)) (fun b o _ hb _ e n=>u.slot b o e n hb (by simp)) (fun b o _ e n=>u.free b o e n (by simp)) (fun b o _ e=>u.there b o e (by simp)) u.tups u.frzs u.tbls (fun m' hm=>by
  obtain⟨o',es',ep',ho',r'⟩:=hm
  rw[ho] at ho';cases ho'
  exact⟨_,es',ep',hL,r'⟩) hok I.bare
theorem Inv.call{t':Nat}{d':Drawn}{ch:List Addr}(I:Inv X pins σ H s)(u:Un (CY X.stack) ch H H' s.heap h')(hok:n5 X.prog X.w H' h')(hg:AllBare g')
  (hch:∀b∈ch,(b∈X.ex\/X.s₀.heap.objs.size<=b)/\b≠X.env.locals/\(∀x c,X.env.cells.lookup x=some c->c≠b)/\∀p∈X.pn++pins,p.1≠b) :
  Inv X pins σ H' { s with heap:=h',gens:=g',drawn:=d',toks:=t' }:=by
 obtain⟨m,⟨o,es,ep,ho,r⟩,_⟩:=id I.loc
 obtain⟨sl,hL⟩:=u.any ho I.free fun z=>(hch _ z).2.1 rfl
 exact I.step (ch:=ch) hch (fun b o hL hb hc e n=>u.keep b o e n (fun z=>(List.mem_cons.mp (I.stkSub b z)).elim hL hb) hc) (fun b o _ _ hc e n=>u.any e n hc) (fun b o hc e n=>u.free b o e n hc) (fun b o hc e=>u.there b o e hc) u.tups u.frzs u.tbls (fun m' hm=>by
  obtain⟨o',es',ep',ho',r'⟩:=hm
  rw[ho] at ho';cases ho'
  exact⟨_,es',ep',hL,r'⟩) hok hg
theorem Inv.turned{t':Nat}(I:Inv X pins σ H s)(k:∀b o,b≠it->s.heap.get? b=some o->h'.get? b=some o)(hn:H it=none)(hL:it≠X.env.locals)
  (h1:it∈X.ex\/X.s₀.heap.objs.size<=it) (h2:∀x c,X.env.cells.lookup x=some c->c≠it) (h3:∀p∈X.pn++pins,p.1≠it):Inv X pins σ H { s with heap:=h',toks:=t' }:=by
 have nit:∀b u,H b=some u->b≠it:=fun b u e z=>by rw[z,hn] at e;cases e
 refine I.step (g':=s.gens) (d':=s.drawn) (ch:=[it]) (fun b hb=>?_) (fun b o _ _ hc e _=>k b o (fun z=>hc (by simp[z])) e) (fun b o _ _ hc e _=>⟨o.slots,k b o (fun z=>hc (by simp[z])) e⟩) (fun _ _ _ _ n=>n)
  (fun b o hc e=>⟨o,k b o (fun z=>hc (by simp[z])) e⟩) (fun _ _ e=>e) (fun _ _ _ e=>e) (.kept (fun b u z e=>k b u (fun r=>by subst r;rcases z with ⟨q,z⟩;rw[hn] at z;cases z) e) fun _ _ e _=>e) (fun m hm=>?_) (fun b u e=>?_) I.bare
 ·have e:b=it:=by simpa using hb
  subst e
  exact⟨h1,hL,h2,h3⟩
 ·obtain⟨o,es,ep,ho,r⟩:=hm
  exact⟨o,es,ep,k _ o (jP hL) ho,r⟩
 ·refine (I.hok b u e).stay (fun c v hc q=>k c v ?_ q) (fun _ q=>q) fun _ _ q _=>q
  rcases hc with z|z
  ·rw[z];exact nit b u e
  ·exact nit c _ z
theorem Inv.tok(I:Inv X pins σ H s)(t:Nat):Inv X pins σ H { s with toks:=t }:=I.un (h':=s.heap) (t':=t) Un.refl I.hok
theorem Inv.kept{t':Nat}(I:Inv X pins σ H s)(k:∀b u,s.heap.get? b=some u->h'.get? b=some u):Inv X pins σ H { s with heap:=h',toks:=t' }:=I.un (Un.kept k) (I.hok.kept k)
theorem Inv.laid{t':Nat}(I:Inv X pins σ H s)(k:∀b u,s.heap.get? b=some u->h'.get? b=some u)(hp:s.heap.objs.size<=a)(new:ef X.prog X.w (upd H a o) h' a o) :
  Inv X pins σ (upd H a o) { s with heap:=h',toks:=t' }:=I.un (Un.laid k hp (I.hok.fresh hp)) (I.hok.laid k hp new)
theorem Inv.write{t':Nat}(I:Inv X pins σ H s)(mu:La (H x))(he:e=x\/H e=some (.own x))(k:∀b u,b≠e->s.heap.get? b=some u->h'.get? b=some u)(heo:∃u,h'.get? e=some u)
  (new:ef X.prog X.w (upd H x o) h' x o):Inv X pins σ (upd H x o) { s with heap:=h',toks:=t' }:=I.un (Un.write mu he k heo) (I.hok.write mu he k heo new)
theorem Inv.pins_of(I:Inv X pins σ H s)(h:∀p∈pins',s.heap.get? p.1=some p.2/\H p.1=none/\p.1≠X.env.locals/\p.1∉X.fs/\∀v,p.2.data≠.cell v):Inv X pins' σ H s :=
 ⟨I.ok,I.os,I.bare,I.base,I.loc,I.cell,I.free,I.freeC,fun p hp=>(List.mem_append.mp hp).elim (fun z=>I.pin p (qM _ z)) (h p),I.hok,I.len⟩
theorem ue{N:List Str}(hN:N.Nodup){i j:Nat}(a:N[i]?=some x)(b:N[j]?=some x):i=j:=by
 obtain⟨h1,e1⟩:=List.getElem?_eq_some_iff.mp a
 obtain⟨h2,e2⟩:=List.getElem?_eq_some_iff.mp b
 exact (List.getElem_inj hN).mp (e1.trans e2.symm)
theorem rG{M:Model}{A:Around}{E:Value->Shared->Prop}{i:Nat}{Q:Unit->Shared->Prop}(I:Inv X pins σ H s)(hN:X.N.Nodup)(hi:X.N[i]?=some x)(hx:Loc X.env.scope x)(r:RelV v u)
  (h:∀s',Inv X pins (σ.set i (some v)) H s'->(∃a,Heap.SameBut a s.heap s'.heap/\(a=X.env.locals\/X.env.cells.lookup x=some a))->Q () s') (hf:X.fn x=true\/X.env.scope.names.lookup x=some .local:=by first|exact .inl rfl|exact .inr rfl|assumption):wpAny M A (storeName X.env x u) Q E s:=by
 obtain⟨m,hn,hl⟩:=id I.loc
 have hcls:(X.env.scope.kind == .class||(X.env.scope.kind == .module&&X.env.locals != X.env.globals))=false:=by rw[I.ok.kind];rfl
 have hiσ:i < σ.length:=by rw[I.len];exact (List.getElem?_eq_some_iff.mp hi).1
 have cne:=I.cne
 have tracked:∀ {a:Addr}{h':Heap},(∃o,s.heap.get? a=some o/\H a=none)->Heap.SameBut a s.heap h'->n5 X.prog X.w H h':=fun {a h'} ha hs b ob e=>by
  obtain⟨_,_,hfree⟩:=ha
  refine (I.hok b ob e).stay (fun c w' hc q=>(hs.2 c ?_).trans q) (fun _ q=>q) fun _ _ q _=>q
  rintro rfl
  rcases hc with rfl|hc
  ·rw[hfree] at e;cases e
  ·rw[hfree] at hc;cases hc
 rcases hx with hk|hk
 ·refine wpAny_storeName_local hk hn (fun h' hn' hs=>?_) hcls
  obtain⟨oL,_,_,hoL,_⟩:=id hn
  refine h _ ⟨I.ok,I.os,I.bare,⟨fun b o e n hb hx=>?_,fun b o e n hb hx=>?_,I.base.free,fun b o e hx=>?_,I.base.tups,I.base.frzs,I.base.tbls.trans (.kept (fun b u z e=>(hs.2 b (fun r=>by rcases z with ⟨q,z⟩;rw[r,I.free] at z;cases z)).trans e) fun _ _ e _=>e)⟩,⟨_,hn',fun j y v' e1 e2 e3=>?_⟩,fun y c e=>?_,I.free,I.freeC,fun p hp=>?_,tracked ⟨oL,hoL,I.free⟩ hs,by simpa using I.len⟩ ⟨_,hs,.inl rfl⟩
  ·exact (hs.2 b (yU (zS (yA e) I.ok.above))).trans (I.base.keep b o e n hb hx)
  ·obtain⟨sl,e1⟩:=I.base.slot b o e n hb hx
   exact⟨sl,(hs.2 b (yU (zS (yA e) I.ok.above))).trans e1⟩
  ·obtain⟨o',e1⟩:=I.base.there b o e hx
   exact⟨o',(hs.2 b (yU (zS (yA e) I.ok.above))).trans e1⟩
  ·by_cases hj:j=i
   ·subst hj
    rw[hi] at e1;cases e1
    rw[vN hiσ] at e2
    cases e2
    exact⟨u,r,.inl ⟨hk,by simp⟩⟩
   ·rw[kW (jP hj)] at e2
    obtain⟨u',r',q⟩:=hl j y v' e1 e2 e3
    refine⟨u',r',?_⟩
    rcases q with ⟨k,e⟩|⟨k,c,e,z⟩
    ·refine .inl ⟨k,?_⟩
     have:y≠x:=fun e=>hj (ue hN e1 (e ▸ hi))
     simp[this,e]
    ·exact .inr ⟨k,c,e,z.sameBut hs (cne y c e)⟩
  ·obtain⟨w',z⟩:=I.cell y c e
   exact⟨w',z.sameBut hs (cne y c e)⟩
  ·obtain⟨e,n,ne,nf,d⟩:=I.pin p hp
   exact⟨(hs.2 p.1 ne).trans e,n,ne,nf,d⟩
 ·have hfn:X.fn x=true:=by
   rcases hf with z|z
   ·exact z
   ·rw[z] at hk;cases hk
  obtain⟨c,hc⟩:=I.ok.has x (.inl hk)
  obtain⟨w',z⟩:=I.cell x c hc
  refine wpAny_storeName_cell I.ok.kind hk hc z (fun h' hc' hs=>?_)
  obtain⟨oc,hoc,hocd⟩:=id z
  refine h { s with heap:=h' } ⟨I.ok,I.os,I.bare,⟨fun b o e n hb hx=>?_,fun b o e n hb hx=>?_,I.base.free,fun b o e hx=>?_,I.base.tups,I.base.frzs,I.base.tbls.trans (.kept (fun b u z e=>(hs.2 b (fun r=>by rcases z with ⟨q,z⟩;rw[r,I.freeC x c hc] at z;cases z)).trans e) fun _ _ e _=>e)⟩,⟨m,hn.sameBut hs (jP (cne x c hc)),fun j y v' e1 e2 e3=>?_⟩,fun y c' e=>?_,I.free,I.freeC,fun p hp=>?_,tracked ⟨oc,hoc,I.freeC x c hc⟩ hs,by simpa using I.len⟩ ⟨c,hs,.inr hc⟩
  ·exact (hs.2 b (yU (zS (yA e) (I.ok.cab x c hfn hc)))).trans (I.base.keep b o e n hb hx)
  ·obtain⟨sl,e1⟩:=I.base.slot b o e n hb hx
   exact⟨sl,(hs.2 b (yU (zS (yA e) (I.ok.cab x c hfn hc)))).trans e1⟩
  ·obtain⟨o',e1⟩:=I.base.there b o e hx
   exact⟨o',(hs.2 b (yU (zS (yA e) (I.ok.cab x c hfn hc)))).trans e1⟩
  ·by_cases hj:j=i
   ·subst hj
    rw[hi] at e1;cases e1
    rw[vN hiσ] at e2
    cases e2
    exact⟨u,r,.inr ⟨.inl hk,c,hc,hc'⟩⟩
   ·rw[kW (jP hj)] at e2
    obtain⟨u',r',q⟩:=hl j y v' e1 e2 e3
    refine⟨u',r',?_⟩
    rcases q with q|⟨k,c',e,z'⟩
    ·exact .inl q
    ·refine .inr ⟨k,c',e,z'.sameBut hs ?_⟩
     rintro rfl
     exact hj (ue hN e1 (I.ok.inj _ _ _ e hc ▸ hi))
  ·by_cases hcc:c'=c
   ·subst hcc;exact⟨_,hc'⟩
   ·obtain⟨w2,z2⟩:=I.cell y c' e
    exact⟨w2,z2.sameBut hs hcc⟩
  ·obtain⟨e,n,ne,nf,d⟩:=I.pin p hp
   refine⟨(hs.2 p.1 ?_).trans e,n,ne,nf,d⟩
   intro q
   rw[q,hoc] at e
   have q':oc=p.2:=xG e
   exact d w' (by rw[<- q'];exact hocd)
theorem uU{M:Model}{A:Around}{E:Value->Shared->Prop}(I:Inv X pins σ H s)(hN:X.N.Nodup)(hi:X.N[i]?=some x)(hx:Loc X.env.scope x)(r:RelV v u)
  (h:∀s',Inv X pins (σ.set i (some v)) H s'->Q () s') (hf:X.fn x=true\/X.env.scope.names.lookup x=some .local:=by first|exact .inl rfl|exact .inr rfl|assumption):wpAny M A (storeName X.env x u) Q E s :=
 rG I hN hi hx r (fun s' I' _=>h s' I') hf
theorem Inv.call'{ch:List Addr}(I:Inv X pins σ H s)(ho:s'.os=s.os)(u:Un (CY X.stack) ch H H' s.heap s'.heap)(hok:n5 X.prog X.w H' s'.heap)(hg:AllBare s'.gens)
  (hch:∀b∈ch,(b∈X.ex\/X.s₀.heap.objs.size<=b)/\b≠X.env.locals/\(∀x c,X.env.cells.lookup x=some c->c≠b)/\∀p∈X.pn++pins,p.1≠b):Inv X pins σ H' s':=by
 obtain⟨h',g',d',t',o'⟩:=s'
 have e:o'=s.os:=ho
 subst e
 exact I.call (g':=g') (t':=t') (d':=d') u hok hg hch
end
abbrev XK:=Value->Option Addr->Hp->Prop
abbrev St:=List (Option V)
abbrev VK:=V->Hp->Prop
abbrev TE:=St->Hp->VK->Prop
abbrev TT:=St->Hp->(Bool->Hp->Prop)->Prop
abbrev TA:=St->Hp->(List V->Hp->Prop)->Prop
structure Ends where
 nx:St->Hp->Prop
 rt:VK
 bk:St->Hp->Prop:=fun _ _=>False
 ct:St->Hp->Prop:=fun _ _=>False
abbrev TS:=Ends->St->Hp->Prop
def EP(X:Cx)(pins:List (Addr×Obj))(σ:St)(Q:VK)(u:Value)(s':Shared):Prop:=∃v H',Inv X pins σ H' s'/\RelV v u/\Q v H'
def TP(X:Cx)(pins:List (Addr×Obj))(σ:St)(Q:Bool->Hp->Prop)(b:Bool)(s':Shared):Prop:=∃H',Inv X pins σ H' s'/\Q b H'
def AP(X:Cx)(pins:List (Addr×Obj))(σ:St)(Q:List V->Hp->Prop)(us:List Value)(s':Shared):Prop:=∃vs H',Inv X pins σ H' s'/\aG vs us/\Q vs H'
def SP(X:Cx)(pins:List (Addr×Obj))(D:Ends)(f:Flow)(s':Shared):Prop :=
 match f with
 | .next=>∃σ' H',Inv X pins σ' H' s'/\D.nx σ' H'
 | .brk=>∃σ' H',Inv X pins σ' H' s'/\D.bk σ' H'
 | .cont=>∃σ' H',Inv X pins σ' H' s'/\D.ct σ' H'
 | .ret u=>∃v σ' H',Inv X pins σ' H' s'/\RelV v u/\D.rt v H'
def PE(X:Cx)(e:Expr)(t:TE):Prop :=
 ∀ (pins:List (Addr×Obj)) (s:Shared) (σ:St) (H:Hp) (Q:VK),Inv X pins σ H s->t σ H Q->wpAny (model X.prog X.w) X.A (eval e X.env) (EP X pins σ Q) X.xe s
def PT(X:Cx)(e:Expr)(t:TT):Prop :=
 ∀ (pins:List (Addr×Obj)) (s:Shared) (σ:St) (H:Hp) (Q:Bool->Hp->Prop),Inv X pins σ H s->t σ H Q->wpAny (model X.prog X.w) X.A (isTrue e X.env (eval e X.env)) (TP X pins σ Q) X.xe s
def PW(X:Cx)(e:Expr)(t:TT):Prop :=
 ∀ (whole:Sem Value) (pins:List (Addr×Obj)) (s:Shared) (σ:St) (H:Hp) (Q:Bool->Hp->Prop),Inv X pins σ H s->t σ H Q->wpAny (model X.prog X.w) X.A (isTrue e X.env whole) (TP X pins σ Q) X.xe s
theorem PW.pt(h:PW X e t):PT X e t:=h _
def PA(X:Cx)(es:List Expr)(t:TA):Prop :=
 ∀ (pos:Pos) (pins:List (Addr×Obj)) (s:Shared) (σ:St) (H:Hp) (Q:List V->Hp->Prop),Inv X pins σ H s->t σ H Q->wpAny (model X.prog X.w) X.A (spliced (backTo pos (starEach es X.env))) (AP X pins σ Q) X.xe s
def PS(X:Cx)(st:Stmt)(t:TS):Prop :=
 ∀ (pins:List (Addr×Obj)) (s:Shared) (σ:St) (H:Hp) (D:Ends),Inv X pins σ H s->t D σ H->wpAny (model X.prog X.w) X.A (exec st X.env) (SP X pins D) X.xe s
def yu(X:Cx)(st:List Stmt)(t:TS):Prop :=
 ∀ (pins:List (Addr×Obj)) (s:Shared) (σ:St) (H:Hp) (D:Ends),Inv X pins σ H s->t D σ H->wpAny (model X.prog X.w) X.A (execs st X.env) (SP X pins D) X.xe s
theorem bZ(h:wpAny M A t Q E s)(hQ:∀a s,Q a s->Q' a s):wpAny M A t Q' E s:=xD h hQ fun _ _ x=>x
section
def M8(i:Nat):TE:=fun σ H Q=>∃v,σ[i]?=some (some v)/\Q v H
def tC(v:V):TE:=fun _ H Q=>Q v H
theorem mO(hN:X.N[i]?=some x)(hv:Fn X.env.scope x)(hd:(x == ("__debug__":Str))=false:=by decide)(hcd:(x == ("__classdict__":Str))=false:=by decide):PE X (.Name x pos) (M8 i):=by
 intro pins s σ H Q I h
 obtain⟨v,e,h⟩:=h
 obtain⟨m,hn,hl⟩:=I.loc
 obtain⟨u,r,l⟩:=hl i x v hN e hv
 have fin:EP X pins σ Q u s:=⟨v,H,I,r,h⟩
 rcases l with ⟨hk,hm⟩|⟨hk,c,hc,hcell⟩
 ·exact wpAny_Name (wpAny_loadName_local I.ok.kind hk hn hm fin) hd
 ·rcases hk with hk|hk
  ·exact wpAny_Name (wpAny_loadName_cell I.ok.kind hk hc hcell fin) hd
  ·exact wpAny_Name (wpAny_loadName_free I.ok.kind hk hc hcell fin hcd) hd
theorem Kh{i j pos}:PE X (.Constant (.int i) j pos) (tC (.int i)):=fun _ _ _ H _ I h=>wpAny_Constant_int ⟨.int i,H,I.tok _,⟨_,rfl⟩,h⟩
theorem Lp{b j pos}:PE X (.Constant (.bool b) j pos) (tC (.bl b)):=fun _ _ _ H _ I h=>Constant_bool ⟨.bl b,H,I,rfl,h⟩
theorem JL{j pos}:PE X (.Constant .none j pos) (tC .non):=fun _ _ _ H _ I h=>Constant_none ⟨.non,H,I,rfl,h⟩
theorem Jv{x j pos}:PE X (.Constant (.str x) j pos) (tC (.str x)):=fun _ _ _ H _ I h=>Calls.Constant_str ⟨.str x,H,I.tok _,⟨_,rfl⟩,h⟩
def Gl(X:Cx)(x:Str):Prop:=X.env.kindOf x=some .globalImplicit
theorem AZ{E:Value->Shared->Prop}{pos:Pos}(I:Inv X pins σ H s)(hg:Gl X x)(hm:X.mg x=some u)(h:Q u s)
  (hd:(x == ("__debug__":Str))=false:=by decide):wpAny (model X.prog X.w) X.A (eval (.Name x pos) X.env) Q E s :=
 Calls.Name_function_global I.ok.kind hg (Calls.loadGlobal_global (by rw[I.ok.glob];exact I.mod.glob.keeps I.bk) hm h) hd
theorem iu{E:Value->Shared->Prop}{pos:Pos}(I:Inv X pins σ H s)(hg:Gl X x)(hm:X.mg x=none)(hv:bootBuiltins x=some u)(h:Q u s)
  (hn:x≠"__name__":=by decide) (hd:(x == ("__debug__":Str))=false:=by decide):wpAny (model X.prog X.w) X.A (eval (.Name x pos) X.env) Q E s:=by
 obtain⟨mb,h1,h2⟩:=I.mod.blt
 exact Calls.Name_function_global I.ok.kind hg (Calls.loadGlobal_builtin (by rw[I.ok.glob];exact I.mod.glob.keeps I.bk) hm (by rw[I.ok.blt];exact h1.keeps I.bk) ((h2 x hn).trans hv) h) hd
theorem Gw(hg:Gl X x)(hm:X.mg x=some u)(r:RelV v u)(hd:(x == ("__debug__":Str))=false:=by decide):PE X (.Name x pos) (tC v) :=
 fun _ _ _ H _ I h=>AZ I hg hm ⟨v,H,I,r,h⟩ hd
theorem F5(hg:Gl X x)(hm:X.mg x=none)(hv:bootBuiltins x=some u)(r:RelV v u)(hn:x≠"__name__":=by decide)(hd:(x == ("__debug__":Str))=false:=by decide):PE X (.Name x pos) (tC v) :=
 fun _ _ _ H _ I h=>iu I hg hm hv ⟨v,H,I,r,h⟩ hn hd
def tB(t:TE):TT:=fun σ H Q=>t σ H fun x H1=>∃c,x=.bl c/\Q c H1
theorem J2(h:PE X e t)(he:∀whole,isTrue e X.env whole=(do let v <- whole;standAt e.pos;holding [v] (truthy v)):=by intro _;rfl):PT X e (tB t):=by
 intro pins s σ H Q I hw
 refine isTrue_plain (bZ (h pins s σ H _ I hw) fun v s1 ⟨x,H1,I1,r1,q1⟩=>?_) (he _)
 obtain⟨d,rfl,q⟩:=q1
 cases r1
 exact xZ ⟨H1,I1,q⟩
variable {rest:List Expr}
def Mg(t u:TT):TT:=fun σ H Q=>t σ H fun c H1=>if c=true then u σ H1 Q else Q false H1
def NB(t u:TT):TT:=fun σ H Q=>t σ H fun c H1=>if c=true then Q true H1 else u σ H1 Q
def M9(t:TT):TT:=fun σ H Q=>t σ H fun c H1=>Q (!c) H1
theorem Gp(ha:PT X a tA):PW X (.BoolOp .And [a] pos) tA:=by
 intro wh pins s σ H Q I h
 refine isTrue_and (bZ (ha pins s σ H Q I h) fun c s1 e=>?_)
 cases c with
 | true=>exact isTrue_and_nil e
 | false=>exact e
theorem Jq(ha:PT X a tA):PW X (.BoolOp .Or [a] pos) tA:=by
 intro wh pins s σ H Q I h
 refine isTrue_or (bZ (ha pins s σ H Q I h) fun c s1 e=>?_)
 cases c with
 | false=>exact isTrue_or_nil e
 | true=>exact e
theorem Jp(ha:PT X a tA)(hb:PW X (.BoolOp .And (b::rest) pos) tB'):PW X (.BoolOp .And (a::b::rest) pos) (Mg tA tB'):=by
 intro wh pins s σ H Q I h
 refine isTrue_and (bZ (ha pins s σ H _ I h) fun c s1 ⟨H1,I1,q1⟩=>?_)
 cases c with
 | true=>exact hb wh pins s1 σ H1 Q I1 q1
 | false=>exact⟨H1,I1,q1⟩
theorem Lq(ha:PT X a tA)(hb:PW X (.BoolOp .Or (b::rest) pos) tB'):PW X (.BoolOp .Or (a::b::rest) pos) (NB tA tB'):=by
 intro wh pins s σ H Q I h
 refine isTrue_or (bZ (ha pins s σ H _ I h) fun c s1 ⟨H1,I1,q1⟩=>?_)
 cases c with
 | true=>exact⟨H1,I1,q1⟩
 | false=>exact hb wh pins s1 σ H1 Q I1 q1
theorem IK(ha:PT X a tA):PT X (.UnaryOp .Not a pos) (M9 tA):=by
 intro pins s σ H Q I h
 exact isTrue_not (ha pins s σ H (fun c H1=>Q (!c) H1) I h)
def K1(ta tb:TE):TE:=fun σ H Q=>ta σ H fun x H1=>∃c,x=.bl c/\if c=true then tb σ H1 Q else Q (.bl false) H1
def M0(ta tb:TE):TE:=fun σ H Q=>ta σ H fun x H1=>∃c,x=.bl c/\if c=true then Q (.bl true) H1 else tb σ H1 Q
theorem Jc{op}(h:PE X a t):PE X (.BoolOp op [a] pos) t:=fun pins s σ H Q I hw=>BoolOp_one (h pins s σ H Q I hw)
theorem Ib(ha:PE X a ta)(hb:PE X (.BoolOp .And (b::rest) pos) tb):PE X (.BoolOp .And (a::b::rest) pos) (K1 ta tb):=by
 intro pins s σ H Q I h
 refine BoolOp_and (bZ (ha pins s σ H _ I h) fun v s1 ⟨x,H1,I1,r1,q1⟩=>?_)
 obtain⟨c,rfl,q1⟩:=q1
 cases r1
 refine xZ ?_
 cases c with
 | true=>exact hb pins s1 σ H1 Q I1 q1
 | false=>exact⟨.bl false,H1,I1,rfl,q1⟩
theorem D9(ha:PE X a ta)(hb:PE X (.BoolOp .Or (b::rest) pos) tb):PE X (.BoolOp .Or (a::b::rest) pos) (M0 ta tb):=by
 intro pins s σ H Q I h
 refine BoolOp_or (bZ (ha pins s σ H _ I h) fun v s1 ⟨x,H1,I1,r1,q1⟩=>?_)
 obtain⟨c,rfl,q1⟩:=q1
 cases r1
 refine xZ ?_
 cases c with
 | false=>exact hb pins s1 σ H1 Q I1 q1
 | true=>exact⟨.bl true,H1,I1,rfl,q1⟩
def NP(t:TT)(ta tb:TE):TE:=fun σ H Q=>t σ H fun c H1=>if c=true then ta σ H1 Q else tb σ H1 Q
theorem Dz(hc:PT X c tA)(ha:PE X a ta)(hb:PE X b tb):PE X (.IfExp c a b pos) (NP tA ta tb):=by
 intro pins s σ H Q I h
 refine wpAny_IfExp (bZ (hc pins s σ H _ I h) fun d s1 ⟨H1,I1,q1⟩=>?_)
 cases d with
 | true=>exact ha pins s1 σ H1 Q I1 q1
 | false=>exact hb pins s1 σ H1 Q I1 q1
end
def eK(K:W.Frag)(H:Hp)(a:Addr)(xs:List V):Prop :=
 Rd H a (.lst xs) \/
  ∃ (o:Obj) (its:Array Value) (n:Nat),K.lookup a=some o/\o.cls=.type "list"/\o.dict=none/\o.data=.seq its n/\its.size<=sizeLine/\aG xs its.toList
def gw(K:W.Frag)(H:Hp)(a:Addr)(xs:List V):Prop :=
 Rd H a (.tup xs) \/
  ∃ (o:Obj) (its:Array Value) (n:Nat),K.lookup a=some o/\o.cls=.type "tuple"/\o.dict=none/\o.data=.seq its n/\its.size<=sizeLine/\aG xs its.toList
def Nj:Value->Option V
 | .none=>some .non
 | .bool b=>some (.bl b)
 | .int i _=>some (.int i)
 | .str x _=>some (.str x)
 | .bytes b _=>some (.byt b)
 | .float b _=>some (.flt b)
 | .ref a=>some (.ref a)
 | .type n=>some (.ty n)
 | _=>none
theorem RelV.abs(r:RelV x u):Nj u=some x:=by
 cases x with
 | non=>cases r;rfl
 | bl _=>cases r;rfl
 | int _=>obtain⟨t,rfl⟩:=r;rfl
 | str _=>obtain⟨t,rfl⟩:=r;rfl
 | byt _=>obtain⟨t,rfl⟩:=r;rfl
 | flt _=>obtain⟨t,rfl⟩:=r;rfl
 | ref _=>cases r;rfl
 | ty _=>cases r;rfl
theorem RelV.inj(r:RelV x u)(q:RelV y u):x=y:=xG (r.abs.symm.trans q.abs)
theorem aG.inj:∀ {xs ys:List V}{us:List Value},aG xs us->aG ys us->xs=ys
 | _,_,_,.nil,.nil=>rfl
 | _,_,_,.cons r t,.cons r' t'=>by rw[r.inj r',aG.inj t t']
section
theorem eK.of{K:W.Frag}(h:H a=some (.lst xs)):eK K H a xs:=.inl (.inl h)
theorem Inv.list(I:Inv X pins σ H s)(h:eK X.K H a xs):∃its:List Value,aG xs its/\PlainL s.heap a its.toArray/\xs.length<=sizeLine:=by
 rcases h with h|⟨o,its,n,hk,hc,hd,hs,hz,r⟩
 ·obtain⟨z,its,n,r,e⟩:=h.ok I.hok
  exact⟨its,r,⟨_,n,e,rfl,rfl,rfl⟩,z⟩
 ·refine⟨its.toList,r,⟨o,n,I.kIn a o hk,hc,hd,by simpa using hs⟩,?_⟩
  have e:=r.length
  simp only[wD] at e
  omega
theorem Inv.tuple(I:Inv X pins σ H s)(h:gw X.K H a xs):∃its:List Value,aG xs its/\IsTup s.heap a its.toArray/\xs.length<=sizeLine:=by
 rcases h with h|⟨o,its,n,hk,hc,_,hs,hz,r⟩
 ·obtain⟨z,its,r,p⟩:=h.ok I.hok
  exact⟨its,r,p.1,z⟩
 ·refine⟨its.toList,r,⟨o,I.kIn a o hk,hc,n,by simpa using hs⟩,?_⟩
  have e:=r.length
  simp only[wD] at e
  omega
theorem Inv.list_inj(I:Inv X pins σ H s)(h:eK X.K H a xs)(h':eK X.K H a ys):xs=ys:=by
 obtain⟨its,r,⟨o,n,e,_,_,d⟩,_⟩:=I.list h
 obtain⟨its',r',⟨o',n',e',_,_,d'⟩,_⟩:=I.list h'
 rw[e] at e';cases e'
 rw[d] at d'
 injection d' with d1 _
 have:its=its':=by simpa using jF Array.toList d1
 subst this
 exact r.inj r'
theorem Inv.tuple_inj(I:Inv X pins σ H s)(h:gw X.K H a xs)(h':gw X.K H a ys):xs=ys:=by
 obtain⟨its,r,⟨o,e,_,n,d⟩,_⟩:=I.tuple h
 obtain⟨its',r',⟨o',e',_,n',d'⟩,_⟩:=I.tuple h'
 rw[e] at e';cases e'
 rw[d] at d'
 injection d' with d1 _
 have:its=its':=by simpa using jF Array.toList d1
 subst this
 exact r.inj r'
end
abbrev Cx.wish(X:Cx)(E:Value->Shared->Prop):Cx:={ X with xe:=E }
abbrev Cx.nox(X:Cx):Cx:=X.wish fun _ _=>False
theorem Cx.Ok.wish{X:Cx}(ok:X.Ok)(E:Value->Shared->Prop):(X.wish E).Ok :=
 ⟨ok.mod,ok.kind,ok.glob,ok.blt,ok.above,ok.inj,ok.has,ok.cab,ok.hd,ok.frames,ok.stk,ok.exf,ok.bs,ok.bsz,ok.noex,ok.exfs,ok.funs,ok.frf⟩
theorem Cx.Ok.unwish{X:Cx}{E:Value->Shared->Prop}(ok:(X.wish E).Ok):X.Ok :=
 ⟨ok.mod,ok.kind,ok.glob,ok.blt,ok.above,ok.inj,ok.has,ok.cab,ok.hd,ok.frames,ok.stk,ok.exf,ok.bs,ok.bsz,ok.noex,ok.exfs,ok.funs,ok.frf⟩
section
theorem Inv.wish(I:Inv X pins σ H s)(E:Value->Shared->Prop):Inv (X.wish E) pins σ H s:=⟨I.ok.wish E,I.os,I.bare,I.base,I.loc,I.cell,I.free,I.freeC,I.pin,I.hok,I.len⟩
theorem Inv.unwish(I:Inv (X.wish E) pins σ H s):Inv X pins σ H s:=⟨I.ok.unwish,I.os,I.bare,I.base,I.loc,I.cell,I.free,I.freeC,I.pin,I.hok,I.len⟩
theorem SP.unwish{D:Ends}(h:SP (X.wish E) pins D f s'):SP X pins D f s':=by
 cases f with
 | next=>obtain⟨σ',H',I,q⟩:=h;exact⟨σ',H',I.unwish,q⟩
 | brk=>obtain⟨σ',H',I,q⟩:=h;exact⟨σ',H',I.unwish,q⟩
 | cont=>obtain⟨σ',H',I,q⟩:=h;exact⟨σ',H',I.unwish,q⟩
 | ret u=>obtain⟨v,σ',H',I,r,q⟩:=h;exact⟨v,σ',H',I.unwish,r,q⟩
theorem yu.nox{st:List Stmt}(h:yu X.nox st t):yu X st t:=fun pins s σ H D I hw =>
 xD (h pins s σ H D (I.wish _) hw) (fun _ _ q=>q.unwish) fun _ _ z=>False.elim z
end
section
variable {st:Stmt}{rest:List Stmt}
def Dq:TS:=fun D σ H=>D.nx σ H
def Mv(t u:TS):TS:=fun D σ H=>t { D with nx:=u D } σ H
theorem Fu:yu X [] Dq:=fun _ _ σ H _ I h=>vO ⟨σ,H,I,h⟩
theorem Cu(h1:PS X st t)(h2:yu X rest u):yu X (st::rest) (Mv t u):=by
 intro pins s σ H D I h
 refine wpAny_execs_cons (bZ (h1 pins s σ H { D with nx:=u D } I h) fun f s1 q=>?_)
 cases f with
 | next =>
  obtain⟨σ',H',I',q⟩:=q
  exact h2 pins s1 σ' H' D I' q
 | ret v=>exact q
 | brk=>exact q
 | cont=>exact q
theorem Ft(h1:PS X st t):yu X [st] t:=by
 intro pins s σ H D I h
 refine wpAny_execs_cons (bZ (h1 pins s σ H D I h) fun f s1 q=>?_)
 cases f with
 | next=>exact vO q
 | ret v=>exact q
 | brk=>exact q
 | cont=>exact q
theorem Fz:PS X (.Pass pos) Dq:=fun _ _ σ H _ I h=>wpAny_Pass ⟨σ,H,I,h⟩
theorem Inv.quiet(I:Inv X pins σ H s):interactive X.env=false:=by simp[interactive,I.ok.kind]
theorem J8{x j pos pos'}:PS X (.Expr (.Constant (.str x) j pos) pos') Dq:=fun _ s σ H _ I h=>wpAny_Expr (Calls.Constant_str (show SP X _ _ .next { s with toks:=s.toks+1 } from ⟨σ,H,I.tok _,h⟩)) I.quiet
def Ll(te:TE):TS:=fun D σ H=>te σ H fun _ H1=>D.nx σ H1
theorem n9(he:PE X e te)(hs:swapsWith e none pos.line X.env=pure false:=by rfl):PS X (.Expr e pos) (Ll te):=by
 intro pins s σ H D I h
 exact wpAny_Expr_any (bZ (he pins s σ H _ I h) fun v s1 ⟨x,H1,I1,r1,q1⟩=>⟨σ,H1,I1,q1⟩) I.quiet hs
def ML(te:TE):TS:=fun D σ H=>te σ H D.rt
theorem IP(he:PE X e te):PS X (.Return (some e) pos) (ML te):=by
 intro pins s σ H D I h
 exact wpAny_Return_some (bZ (he pins s σ H _ I h) fun v s1 ⟨x,H1,I1,r1,q1⟩=>⟨x,σ,H1,I1,r1,q1⟩)
def Na(c:TT)(t u:TS):TS:=fun D σ H=>c σ H fun b H1=>if b=true then t D σ H1 else u D σ H1
theorem LK(hc:PT X c tc)(ha:yu X a t)(hb:yu X b u):PS X (.If c a b pos) (Na tc t u):=by
 intro pins s σ H D I h
 refine wpAny_If (bZ (hc pins s σ H _ I h) fun d s1 ⟨H1,I1,q1⟩=>?_)
 cases d with
 | true=>exact ha pins s1 σ H1 D I1 q1
 | false=>exact hb pins s1 σ H1 D I1 q1
end
abbrev TG:=V->St->Hp->(St->Hp->Prop)->Prop
abbrev Lz:=List V->St->Hp->(St->Hp->Prop)->Prop
def PG(X:Cx)(target:Expr)(t:TG):Prop :=
 ∀ (pins:List (Addr×Obj)) (s:Shared) (σ:St) (H:Hp) (v:V) (u:Value) (Q:St->Hp->Prop),Inv X pins σ H s->RelV v u->t v σ H Q ->
  wpAny (model X.prog X.w) X.A (assign target X.env u) (fun _ s'=>∃σ' H',Inv X pins σ' H' s'/\Q σ' H') X.xe s
def LZ(X:Cx)(ts:List Expr)(t:Lz):Prop :=
 ∀ (pins:List (Addr×Obj)) (s:Shared) (σ:St) (H:Hp) (vs:List V) (us:List Value) (Q:St->Hp->Prop),Inv X pins σ H s->aG vs us->t vs σ H Q ->
  wpAny (model X.prog X.w) X.A (assignInOrder ((assignEach ts X.env).map (·.2)) us) (fun _ s'=>∃σ' H',Inv X pins σ' H' s'/\Q σ' H') X.xe s
abbrev Ly:=V->V->V->Hp->(Hp->Prop)->Prop
def LB(X:Cx)(t:Ly):Prop :=
 ∀ (pins:List (Addr×Obj)) (s:Shared) (σ:St) (H:Hp) (o i v:V) (ov iv u:Value) (Q:Hp->Prop),Inv X pins σ H s->RelV o ov->RelV i iv->RelV v u->t o i v H Q ->
  wpAny (model X.prog X.w) X.A (setItem ov iv u) (fun _ s'=>∃H',Inv X pins σ H' s'/\Q H') X.xe s
section
def qh(i:Nat):TG:=fun v σ H Q=>Q (σ.set i (some v)) H
theorem cP(hN:X.N.Nodup)(hi:X.N[i]?=some x)(hx:Loc X.env.scope x)(hf:X.fn x=true\/X.env.scope.names.lookup x=some .local:=by first|exact .inl rfl|exact .inr rfl|assumption):PG X (.Name x pos) (qh i):=by
 intro pins s σ H v u Q I r h
 exact wpAny_assign_Name (uU I hN hi hx r (fun s' I'=>⟨_,H,I',h⟩) hf)
def MB:Lz:=fun vs σ H Q=>vs=[]/\Q σ H
def Ld(t:TG)(u:Lz):Lz:=fun vs σ H Q=>∃v r,vs=v::r/\t v σ H fun σ' H'=>u r σ' H' Q
theorem oh:LZ X [] MB:=by
 intro pins s σ H vs us Q I r h
 obtain⟨e,h⟩:=h
 subst e
 cases r
 exact assignInOrder_nil ⟨σ,H,I,h⟩
theorem cL(h1:PG X e t)(h2:LZ X es u)
  (hs:(assignEach (e::es) X.env).map (·.2)=assign e X.env::(assignEach es X.env).map (·.2):=by rfl):LZ X (e::es) (Ld t u):=by
 intro pins s σ H vs us Q I r h
 obtain⟨v,vr,e1,h⟩:=h
 subst e1
 cases r with
 | cons r rr =>
  rw[hs]
  refine assignInOrder_cons (bZ (h1 pins s σ H _ _ _ I r h) fun _ s1 ⟨σ1,H1,I1,q1⟩=>?_)
  exact h2 pins s1 σ1 H1 _ _ Q I1 rr q1
def M3(K:W.Frag)(n:Nat)(t:Lz):TG:=fun v σ H Q=>∃a xs,v=.ref a/\gw K H a xs/\xs.length=n/\t xs σ H Q
theorem sV{k:Nat}(hc:X.calm=true)(h:LZ X es t)
  (hn:(assignEach es X.env).length=n:=by rfl) (hst:(assignEach es X.env).findIdx? (·.1)=none:=by rfl):PG X (.Tuple es k pos) (M3 X.K n t):=by
 intro pins s σ H v u Q I r hw
 obtain⟨a,xs,e1,hq,hl,hw⟩:=hw
 subst e1
 cases r
 obtain⟨its,rv,ht,hz⟩:=I.tuple hq
 refine assign_Tuple_tuple (I.ok.hd hc) ht (by simp[hn,<- hl,rv.length]) hst fun h' hx=>?_
 have I1:Inv X pins σ H { s with heap:=h' }:=I.kept (t':=s.toks) fun b o e=>hx b o (yU (yA e)) e
 exact h pins _ σ H xs _ Q I1 (by simpa using rv) hw
def dv(to ti:TE)(t:Ly):TG:=fun v σ H Q=>to σ H fun o H1=>ti σ H1 fun i H2=>t o i v H2 fun H3=>Q σ H3
theorem Ci(ho:PE X o to)(hi:PE X i ti)(hs:LB X t)
  (ha:∀v,assign (.Subscript o i pos) X.env v=(do
   let ov <- holding [v] (eval o X.env)
   let iv <- holding [v,ov] (eval i X.env)
   standAt pos
   holding [v,ov,iv] (setItem ov iv v)
   release [v,ov,iv] []):=by intro _;rfl):PG X (.Subscript o i pos) (dv to ti t):=by
 intro pins s σ H v u Q I r h
 rw[ha]
 refine zX (qA (bZ (ho pins s σ H _ I h) fun ov s1 ⟨x,H1,I1,r1,q1⟩=>?_))
 refine zX (qA (bZ (hi pins s1 σ H1 _ I1 q1) fun iv s2 ⟨y,H2,I2,r2,q2⟩=>?_))
 refine zX (vE (zX (qA (bZ (hs pins s2 σ H2 x y v ov iv u _ I2 r1 r2 r q2) fun _ s3 ⟨H3,I3,q3⟩=>?_))))
 exact wpAny_release ⟨σ,H3,I3,q3⟩
def Bi(te:TE)(g:TG):TS:=fun D σ H=>te σ H fun x H1=>g x σ H1 D.nx
theorem xr(he:PE X e te)(hg:PG X tg g)(hs:swapsWithSole [tg] e pos.line X.env=pure false:=by rfl)(hw:swappedStores [tg] e X.env=pure none:=by rfl)
  (h1:(assignEach [tg] X.env).map (·.2)=[assign tg X.env]:=by rfl):PS X (.Assign [tg] e pos) (Bi te g):=by
 intro pins s σ H D I h
 refine wpAny_Assign_stores (bZ (he pins s σ H _ I h) fun v s1 ⟨x,H1,I1,r1,q1⟩=>?_) hs hw
 rw[h1]
 exact bZ (hg pins s1 σ H1 x v _ I1 r1 q1) fun _ s2 q=>q
theorem tE(hN:X.N.Nodup)(hi:X.N[i]?=some x)(hx:Loc X.env.scope x)(he:PE X e te)(hs:swapsWith e (some (.Name x pos')) pos.line X.env=pure false:=by rfl)(hf:X.fn x=true\/X.env.scope.names.lookup x=some .local:=by first|exact .inl rfl|exact .inr rfl|assumption) :
  PS X (.Assign [.Name x pos'] e pos) (Bi te (qh i)):=by
 intro pins s σ H D I h
 refine wpAny_Assign_Name (bZ (he pins s σ H _ I h) fun v s1 ⟨y,H1,I1,r1,q1⟩=>?_) hs
 exact uU I1 hN hi hx r1 (fun s2 I2=>⟨_,H1,I2,q1⟩) hf
end
section
def IX(c:TT)(tb:TS):TS:=fun D σ H=>∃W:Nat->St->Hp->Prop,(∃m,W m σ H)/\∀m σ H,W m σ H ->
 c σ H fun b H1=>if b=true then ∃N:St->Hp->Prop,(∀σ' H',N σ' H'->∃m',m' < m/\W m' σ' H')/\tb { D with nx:=N,ct:=N,bk:=D.nx } σ H1 else D.nx σ H1
theorem EI(hp:PassesOwn (model X.prog X.w) X.A X.env X.xe)(hc:PT X c tc)(hb:yu X body tb):PS X (.While c body [] pos) (IX tc tb):=by
 intro pins s σ H D I h
 obtain⟨W,⟨m0,w0⟩,turn⟩:=h
 refine wpAny_While (codeAny_whileLoop (fun n s'=>∃σ' H',Inv X pins σ' H' s'/\W n σ' H') ?_ m0 ⟨σ,H,I,w0⟩)
 rintro n s1 ⟨σ1,H1,I1,w1⟩
 refine jM hp (bZ (hc pins s1 σ1 H1 _ I1 (turn n σ1 H1 w1)) fun b s2 ⟨H2,I2,q2⟩=>?_)
 cases b with
 | true =>
  obtain⟨N,hN,q2⟩:=q2
  rw[yO rfl]
  refine jM hp (bZ (hb pins s2 σ1 H2 _ I2 q2) fun f s3 q3=>?_)
  cases f with
  | next =>
   obtain⟨σ3,H3,I3,n3⟩:=q3
   obtain⟨m',hm,w3⟩:=hN σ3 H3 n3
   exact⟨m',hm,σ3,H3,I3,w3⟩
  | cont =>
   obtain⟨σ3,H3,I3,n3⟩:=q3
   obtain⟨m',hm,w3⟩:=hN σ3 H3 n3
   exact⟨m',hm,σ3,H3,I3,w3⟩
  | brk=>exact q3
  | ret v=>exact q3
 | false =>
  rw[yQ xC]
  exact vO ⟨σ1,H2,I2,q2⟩
end
structure It where
 go:Nat->Hp->Prop
 yld:Nat->Hp->V->Hp->Prop
 stop:Nat->Hp->Prop
def b8(X:Cx)(pins:List (Addr×Obj))(H:Hp)(b:Addr):Prop :=
 H b=none/\b≠X.env.locals/\b∉X.fs/\(b∈X.ex\/X.s₀.heap.objs.size<=b)/\(∀x c,X.env.cells.lookup x=some c->c≠b)/\∀p∈X.pn++pins,p.1≠b
theorem Inv.fpOk(I:Inv X pins σ H s)(hb:s.heap.objs.size<=b)(hn:H' b=none):b8 X pins H' b:=by
 refine⟨hn,jL (zS I.lt hb),I.nofs hb,.inr (yF I.sz hb),fun x c e z=>?_,fun p hp z=>?_⟩
 ·obtain⟨v,q⟩:=I.cell x c e
  exact absurd (zS q.lt (by rw[z];exact hb)) (qH _)
 ·exact absurd (zS (yA (I.pin p hp).1) (by rw[z];exact hb)) (qH _)
structure Turn(P:Program)(w:World)(K:W.Frag)(tg:Expr)(J:It)(fp:List Addr)(it:Addr)(tn:Nat->Heap->Prop):Prop where
 mem:it∈fp
 obj:∀i h,tn i h->∀b∈fp,∃o,h.get? b=some o/\∀v,o.data≠.cell v
 keep:∀i h h',tn i h->(∀b∈fp,∀o,h.get? b=some o->h'.get? b=some o)->tn i h'
 item:∀ (X:Cx),X.prog=P->X.w=w->X.K=K->X.calm=true->∀ (i:Nat) (pins:List (Addr×Obj)) (s:Shared) (σ:St) (H:Hp) (E:Value->Shared->Prop),Inv X pins σ H s->(∀b∈fp,b8 X pins H b)->tn i s.heap->J.go i H ->
  wpAny (model P w) X.A (pyNext (.ref it)) (fun r s1=>∃u,r=some u /\
   wpAny (model P w) X.A (letOwnedTupleGo tg (.ref it) u) (fun _ s2=>∃x H',Inv X pins σ H' s2/\RelV x u/\J.yld i H x H'/\tn (i+1) s2.heap/\∀b∈fp,H' b=none) E s1) E s
 done:∀ (X:Cx),X.prog=P->X.w=w->X.K=K->X.calm=true->∀ (i:Nat) (pins:List (Addr×Obj)) (s:Shared) (σ:St) (H:Hp) (E:Value->Shared->Prop),Inv X pins σ H s->(∀b∈fp,b8 X pins H b)->tn i s.heap->J.stop i H ->
  wpAny (model P w) X.A (pyNext (.ref it)) (fun r s1=>r=none/\Inv X pins σ H s1) E s
 self:∀ (A:Around) (i:Nat) (s:Shared) (Q:Value->Shared->Prop) (E:Value->Shared->Prop),tn i s.heap->Q (.ref it) s->wpAny (model P w) A (pyIter (.ref it)) Q E s
abbrev TI:=St->Hp->(It->Hp->Prop)->Prop
def Nl(X:Cx)(pins:List (Addr×Obj))(σ:St)(tg:Expr)(R:It->Hp->Prop)(itv:Value)(s2:Shared):Prop :=
 ∃ (it:Addr) (fp:List Addr) (tn:Nat->Heap->Prop) (J:It) (H':Hp),itv=.ref it/\Inv X pins σ H' s2/\Turn X.prog X.w X.K tg J fp it tn/\tn 0 s2.heap/\(∀b∈fp,b8 X pins H' b)/\R J H'
def PI(X:Cx)(tg iter:Expr)(wi:TI):Prop :=
 ∀ (pins:List (Addr×Obj)) (s:Shared) (σ:St) (H:Hp) (R:It->Hp->Prop),Inv X pins σ H s->wi σ H R ->
  wpAny (model X.prog X.w) X.A (eval iter X.env) (fun v s1=>wpAny (model X.prog X.w) X.A (pyIter v) (Nl X pins σ tg R) X.xe s1) X.xe s
theorem CD(ho:s.heap.get? it=some o)(hc:o.cls=.type n)(hd:o.data=.fields vs)
  (hn:["enumerate","zip","dict_itemiterator","dict_reverseitemiterator","odict_iterator","itertools.zip_longest","itertools.pairwise"].contains n=false) (hQ:Q () s):wpAny M A (letOwnedTupleGo tg (.ref it) u) Q E s:=by
 unfold letOwnedTupleGo
 cases tg<;>first
  | exact zY hQ
  | (cases u<;>first
    | exact zY hQ
    | (refine zX (wpAny_load ho ?_)
       rw[hc,hd]
       show wpAny M A (if (["enumerate","zip","dict_itemiterator","dict_reverseitemiterator","odict_iterator","itertools.zip_longest","itertools.pairwise"].contains n&&vs[0]? == some (rawInt _))=true then _ else _) Q E s
       rw[yQ (by intro h;rw[hn,vZ] at h;cases h)]
       exact zY hQ))
def Ms(K:W.Frag)(a:Addr):It :=
 ⟨fun i H=>∃xs x,eK K H a xs/\xs[i]?=some x,fun i H x H'=>H'=H/\∀xs,eK K H a xs->xs[i]?=some x,fun i H=>∃xs,eK K H a xs/\xs.length<=i⟩
def MX(K:W.Frag)(a:Addr):It :=
 ⟨fun i H=>∃xs x,gw K H a xs/\xs[i]?=some x,fun i H x H'=>H'=H/\∀xs,gw K H a xs->xs[i]?=some x,fun i H=>∃xs,gw K H a xs/\xs.length<=i⟩
def L4(lo:Int)(n:Nat):It:=⟨fun i _=>i < n,fun i H x H'=>H'=H/\x=.int (lo+i),fun i _=>n<=i⟩
theorem BK{K:W.Frag}(a it:Addr):Turn P w K tg (Ms K a) [it] it (fun i h=>h.IsListIter it a i) where
 mem:=by simp
 obj:=fun i h st b hb=>by
  have e:b=it:=by simpa using hb
  subst e
  obtain⟨o,e,c,d⟩:=st
  exact⟨o,e,fun v z=>by rw[d] at z;cases z⟩
 keep:=fun i h h' st k=>st.at fun o e=>k it (by simp) o e
 item:=by
  intro X hP hw hK hc i pins s σ H E I hf st hg
  subst hP hw hK
  obtain⟨xs,x,hq,hx⟩:=hg
  obtain⟨its,rv,p,hz⟩:=I.list hq
  obtain⟨u,hu,ru⟩:=rv.get hx
  obtain⟨f0,f1,f2,f3,f4,f5⟩:=hf it (by simp)
  refine wpAny_pyNext_list_item st p.isList (x:=u) (by simpa using hu) fun h' st' sb=>?_
  have I1:Inv X pins σ H { s with heap:=h' }:=I.turned (t':=s.toks) (fun b o hb e=>(sb.2 b hb).trans e) f0 f1 f3 f4 f5
  obtain⟨o,e,c,d⟩:=id st'
  exact⟨u,rfl,CD (s:={ s with heap:=h' }) e c d (by decide) ⟨x,H,I1,ru,⟨rfl,fun ys hy=>by rw[I.list_inj hy hq];exact hx⟩,st',fun b hb=>(hf b hb).1⟩⟩
 done:=by
  intro X hP hw hK hc i pins s σ H E I hf st hg
  subst hP hw hK
  obtain⟨xs,hq,hx⟩:=hg
  obtain⟨its,rv,p,hz⟩:=I.list hq
  obtain⟨f0,f1,f2,f3,f4,f5⟩:=hf it (by simp)
  have hl:=rv.length
  exact wpAny_pyNext_list_end (I.ok.hd hc) st p.isList (by simp;omega) fun h' eb=>⟨rfl,I.turned (t':=s.toks) (fun b o hb e=>eb b o hb e) f0 f1 f3 f4 f5⟩
 self:=fun _ _ _ _ _ st h=>wpAny_pyIter_listiter st h
theorem yt{K:W.Frag}(a it:Addr):Turn P w K tg (MX K a) [it] it (fun i h=>h.IsTupleIter it a i) where
 mem:=by simp
 obj:=fun i h st b hb=>by
  have e:b=it:=by simpa using hb
  subst e
  obtain⟨o,e,c,d⟩:=st
  exact⟨o,e,fun v z=>by rw[d] at z;cases z⟩
 keep:=fun i h h' st k=>st.at fun o e=>k it (by simp) o e
 item:=by
  intro X hP hw hK hc i pins s σ H E I hf st hg
  subst hP hw hK
  obtain⟨xs,x,hq,hx⟩:=hg
  obtain⟨its,rv,p,hz⟩:=I.tuple hq
  obtain⟨u,hu,ru⟩:=rv.get hx
  obtain⟨f0,f1,f2,f3,f4,f5⟩:=hf it (by simp)
  refine wpAny_pyNext_tuple_item st (show s.heap.IsTuple a its.toArray from p) (x:=u) (by simpa using hu) fun h' st' sb=>?_
  have I1:Inv X pins σ H { s with heap:=h' }:=I.turned (t':=s.toks) (fun b o hb e=>(sb.2 b hb).trans e) f0 f1 f3 f4 f5
  obtain⟨o,e,c,d⟩:=id st'
  exact⟨u,rfl,CD (s:={ s with heap:=h' }) e c d (by decide) ⟨x,H,I1,ru,⟨rfl,fun ys hy=>by rw[I.tuple_inj hy hq];exact hx⟩,st',fun b hb=>(hf b hb).1⟩⟩
 done:=by
  intro X hP hw hK hc i pins s σ H E I hf st hg
  subst hP hw hK
  obtain⟨xs,hq,hx⟩:=hg
  obtain⟨its,rv,p,hz⟩:=I.tuple hq
  obtain⟨f0,f1,f2,f3,f4,f5⟩:=hf it (by simp)
  have hl:=rv.length
  exact wpAny_pyNext_tuple_end (I.ok.hd hc) st (show s.heap.IsTuple a its.toArray from p) (by simp;omega) fun h' eb=>⟨rfl,I.turned (t':=s.toks) (fun b o hb e=>eb b o hb e) f0 f1 f3 f4 f5⟩
 self:=fun _ _ _ _ _ st h=>wpAny_pyIter_tupleiter st h
theorem xl{K:W.Frag}(it:Addr)(lo:Int)(n:Nat):Turn P w K tg (L4 lo n) [it] it (fun i h=>IsRangeIter h it (lo+(i:Nat) * 1) ((n:Int) - (i:Nat)) 1) where
 mem:=by simp
 obj:=fun i h st b hb=>by
  have e:b=it:=by simpa using hb
  subst e
  exact⟨_,st,fun v z=>by
   have z':Data.fields _=Data.cell v:=z
   cases z'⟩
 keep:=fun i h h' st k=>k it (by simp) _ st
 item:=by
  intro X hP hw hK hc i pins s σ H E I hf st hg
  subst hP hw hK
  obtain⟨f0,f1,f2,f3,f4,f5⟩:=hf it (by simp)
  have W:=Walks.range (prog:=X.prog) (w:=X.w) (I.ok.hd hc) it lo 1 n
  refine W.item i s _ _ hg st fun v h' tk hv st' kk=>?_
  obtain⟨t,rfl⟩:=hv
  have I1:Inv X pins σ H { s with heap:=h',toks:=tk }:=I.turned (fun b o hb e=>kk b o (by simpa using hb) e) f0 f1 f3 f4 f5
  refine⟨_,rfl,CD (s:={ s with heap:=h',toks:=tk }) (n:="range_iterator") st' rfl rfl (by decide) ⟨.int (lo+i),H,I1,⟨t,?_⟩,⟨rfl,rfl⟩,st',fun b hb=>(hf b hb).1⟩⟩
  rw[Int.mul_one]
 done:=by
  intro X hP hw hK hc i pins s σ H E I hf st hg
  subst hP hw hK
  obtain⟨f0,f1,f2,f3,f4,f5⟩:=hf it (by simp)
  exact wpAny_pyNext_range_end (I.ok.hd hc) st (by have:n<=i:=hg;omega) fun h' eb=>⟨rfl,I.turned (t':=s.toks) (fun b o hb e=>eb b o hb e) f0 f1 f3 f4 f5⟩
 self:=fun _ _ _ _ _ st h=>wpAny_pyIter_rangeiter st h
section
theorem Cv{lo:Int}{t u v:Tok}{tk:Nat}(I:Inv X pins σ H s)(h1:-(2 ^ 62)<=lo)(h2:lo < 2 ^ 62)(h3:-(2 ^ 62)<=hi)(h4:hi < 2 ^ 62)
  (q:R (L4 lo (hi - lo).toNat) H):wpAny (model X.prog X.w) X.A (pyIter (.ref s.heap.objs.size)) (Nl X pins σ tg R) E { s with heap:=s.heap.push { cls:=.type "range",data:=.fields #[.int lo t,.int hi u,.int 1 v] },toks:=tk }:=by
 refine wpAny_pyIter_range (IsRange.new ..) (small_one h1 h2 h3 h4) ?_
 have I1:Inv X pins σ H { s with heap:=s.heap.push { cls:=.type "range",data:=.fields #[.int lo t,.int hi u,.int 1 v] },toks:=tk }:=I.kept fun b o e=>zW _ e
 refine⟨(s.heap.push { cls:=.type "range",data:=.fields #[.int lo t,.int hi u,.int 1 v] }).objs.size,[(s.heap.push { cls:=.type "range",data:=.fields #[.int lo t,.int hi u,.int 1 v] }).objs.size],_,_,H,rfl,
  I1.kept (t':=tk) fun b o e=>zW _ e,xl _ lo (hi - lo).toNat,?_,fun b hb=>?_,q⟩
 ·have e1:lo+((0:Nat):Int) * 1=lo:=by simp
  have e2:(((hi - lo).toNat:Nat):Int) - ((0:Nat):Int)=Builtin.Range.rangeSize lo hi 1:=by rw[rangeSize_one];split<;>omega
  show IsRangeIter _ _ (lo+((0:Nat):Int) * 1) ((((hi - lo).toNat:Nat):Int) - ((0:Nat):Int)) 1
  rw[e1,e2]
  exact zZ _ rfl
 ·have e:b=(s.heap.push { cls:=.type "range",data:=.fields #[.int lo t,.int hi u,.int 1 v] }).objs.size:=by simpa using hb
  subst e
  exact I1.fpOk (yP _) (I1.hok.fresh (yP _))
def KP(ta:TA):TI:=fun σ H R=>ta σ H fun vs H1=>∃j:Int,vs=[.int j]/\-(2 ^ 62)<=j/\j < 2 ^ 62/\R (L4 0 j.toNat) H1
theorem B7(hg:Gl X "range")(hm:X.mg "range"=none)(ha:PA X [a] ta)(hs:starEach [a] X.env=[(false,eval a X.env)]:=by rfl):PI X tg (.Call (.Name "range" p) [a] [] pos) (KP ta):=by
 intro pins s σ H R I h
 refine Call_ (iu I hg hm boot_range (qV (bZ (ha pos pins s σ H _ I h) fun us s1 ⟨vs,H1,I1,r1,q1⟩=>?_) hs rfl))
 obtain⟨j,e,q1,q2,q⟩:=q1
 subst e
 cases r1 with
 | cons r rr =>
  cases rr
  obtain⟨t,rfl⟩:=r
  exact call_range_1 (Cv I1 (by omega) (by omega) q1 q2 (by simpa using q))
def M6(wi:TI)(g:TG)(tb:TS):TS:=fun D σ H=>wi σ H fun J H1=>∃W:Nat->Nat->St->Hp->Prop,(∃m,W 0 m σ H1)/\∀i m σ H,W i m σ H ->
 (J.stop i H/\D.nx σ H)\/(J.go i H/\∃N:St->Hp->Prop,(∀σ' H',N σ' H'->∃m',m' < m/\W (i+1) m' σ' H')/\∀x H',J.yld i H x H'->g x σ H' fun σ2 H2=>tb { D with nx:=N,ct:=N,bk:=D.nx } σ2 H2)
def m5(fp:List Addr)(h:Heap):List (Addr×Obj):=fp.filterMap fun b=>(h.get? b).map fun o=>(b,o)
theorem cT(hb:b∈fp)(e:h.get? b=some o):(b,o)∈m5 fp h:=List.mem_filterMap.mpr ⟨b,hb,by rw[e];rfl⟩
theorem BA(hp:p∈m5 fp h):p.1∈fp/\h.get? p.1=some p.2:=by
 obtain⟨b,hb,e⟩:=List.mem_filterMap.mp hp
 cases q:h.get? b with
 | none=>rw[q] at e;cases e
 | some o =>
  rw[q] at e
  have e':(b,o)=p:=xG e
  subst e'
  exact⟨hb,q⟩
theorem Inv.pinned(I:Inv X pins σ H s)(hf:∀b∈fp,b8 X pins H b)(ho:∀b∈fp,∃o,s.heap.get? b=some o/\∀v,o.data≠.cell v):Inv X (pins++m5 fp s.heap) σ H s :=
 I.pins_of fun p hp=>(List.mem_append.mp hp).elim (fun z=>I.pin p (yG _ z)) fun z=>by
  obtain⟨hb,e⟩:=BA z
  obtain⟨f0,f1,f2,_⟩:=hf p.1 hb
  obtain⟨o,e',d⟩:=ho p.1 hb
  rw[e] at e';cases e'
  exact⟨e,f0,f1,f2,d⟩
theorem Inv.unpinned(I:Inv X (pins++pl) σ H s):Inv X pins σ H s:=I.pins_of fun p hp=>I.pin p (yG _ (qM _ hp))
theorem Jz{pos:Pos}(hp:PassesOwn (model X.prog X.w) X.A X.env X.xe)(hc:X.calm=true)(hi:PI X tg iter wi)(hg:PG X tg g)(hb:yu X body tb)
  (hs:∀x,foldedSetIterable iter X.env x=pure x:=by intro _;rfl):PS X (.For tg iter body [] pos) (M6 wi g tb):=by
 intro pins s σ H D I h
 refine wpAny_For (bZ (hi pins s σ H _ I h) fun v s1 h1=>bZ h1 fun itv s2 h2=>?_) hs
 obtain⟨it,fp,tn,J,H2,e,I2,T,st2,f2,W,⟨m0,w0⟩,turn⟩:=h2
 subst e
 have stat:∀ {H':Hp},(∀b∈fp,H' b=none)->∀b∈fp,b8 X pins H' b:=fun hn b hb=>⟨hn b hb,(f2 b hb).2⟩
 refine codeAny_forLoop_any (fun n s'=>∃i σ' H',Inv X pins σ' H' s'/\tn i s'.heap/\(∀b∈fp,H' b=none)/\W i n σ' H') ?_ m0 ⟨0,σ,H2,I2,st2,fun b hb=>(f2 b hb).1,w0⟩
 rintro n s3 ⟨i,σ3,H3,I3,st3,fr3,w3⟩
 rcases turn i n σ3 H3 w3 with ⟨stop,qn⟩|⟨go,N,hN,step⟩
 ·refine jM hp (bZ (T.done X rfl rfl rfl hc i pins s3 σ3 H3 X.xe I3 (stat fr3) st3 stop) fun r s4 ⟨hr,I4⟩=>?_)
  subst hr
  exact vO ⟨σ3,H3,I4,qn⟩
 ·refine jM hp (bZ (T.item X rfl rfl rfl hc i pins s3 σ3 H3 X.xe I3 (stat fr3) st3 go) fun r s4 ⟨u,hr,h4⟩=>?_)
  subst hr
  refine jM hp (bZ h4 fun _ s5 ⟨x,H5,I5,r5,y5,st5,fr5⟩=>?_)
  have I5':=I5.pinned (stat fr5) (T.obj _ _ st5)
  refine jM hp (bZ (hg _ s5 σ3 H5 x u _ I5' r5 (step x H5 y5)) fun _ s6 ⟨σ6,H6,I6,q6⟩=>?_)
  refine jM hp (bZ (hb _ s6 σ6 H6 _ I6 q6) fun f s7 q7=>?_)
  have again:∀ {σ7:St}{H7:Hp},Inv X (pins++m5 fp s5.heap) σ7 H7 s7->N σ7 H7->∃m,m < n/\∃i σ' H',Inv X pins σ' H' s7/\tn i s7.heap/\(∀b∈fp,H' b=none)/\W i m σ' H':=fun {σ7 H7} I7 n7=>by
   obtain⟨m',hm,w7⟩:=hN σ7 H7 n7
   refine⟨m',hm,i+1,σ7,H7,I7.unpinned,T.keep _ _ _ st5 fun b hb o e=>(I7.pin (b,o) (yG _ (yG _ (cT hb e)))).1,fun b hb=>?_,w7⟩
   obtain⟨o,e,d⟩:=T.obj _ _ st5 b hb
   exact (I7.pin (b,o) (yG _ (yG _ (cT hb e)))).2.1
  cases f with
  | next=>obtain⟨σ7,H7,I7,n7⟩:=q7;exact again I7 n7
  | cont=>obtain⟨σ7,H7,I7,n7⟩:=q7;exact again I7 n7
  | brk=>obtain⟨σ7,H7,I7,q7⟩:=q7;exact⟨σ7,H7,I7.unpinned,q7⟩
  | ret v=>obtain⟨x7,σ7,H7,I7,r7,q7⟩:=q7;exact⟨x7,σ7,H7,I7.unpinned,r7,q7⟩
end
abbrev R2:=V->V->Hp->VK->Prop
def il(X:Cx)(f:Value->Value->Sem Value)(r:R2):Prop :=
 ∀ (pins:List (Addr×Obj)) (s:Shared) (σ:St) (H:Hp) (x y:V) (v u:Value) (Q:VK),Inv X pins σ H s->RelV x v->RelV y u->r x y H Q ->
  wpAny (model X.prog X.w) X.A (f v u) (EP X pins σ Q) X.xe s
def Nh(X:Cx)(f:Value->Sem Value)(r:V->Hp->VK->Prop):Prop :=
 ∀ (pins:List (Addr×Obj)) (s:Shared) (σ:St) (H:Hp) (x:V) (v:Value) (Q:VK),Inv X pins σ H s->RelV x v->r x H Q ->
  wpAny (model X.prog X.w) X.A (f v) (EP X pins σ Q) X.xe s
def dy(X:Cx)(f:Value)(r:List V->Hp->VK->Prop):Prop :=
 ∀ (pins:List (Addr×Obj)) (s:Shared) (σ:St) (H:Hp) (xs:List V) (us:List Value) (Q:VK),Inv X pins σ H s->aG xs us->r xs H Q ->
  wpAny (model X.prog X.w) X.A (call f us) (EP X pins σ Q) X.xe s
def KY(r:R2)(ta tb:TE):TE:=fun σ H Q=>ta σ H fun x H1=>tb σ H1 fun y H2=>r x y H2 Q
def NW(r:V->Hp->VK->Prop)(ta:TE):TE:=fun σ H Q=>ta σ H fun x H1=>r x H1 Q
def rI(C:Int->Int->Prop)(g:Int->Int->V):R2:=fun x y H Q=>∃i j,x=.int i/\y=.int j/\C i j/\Q (g i j) H
def Fm(g:Int->Int->V):R2:=fun x y H Q=>∃i j,x=.int i/\y=.int j/\Q (g i j) H
def rU(g:Int->V):V->Hp->VK->Prop:=fun x H Q=>∃i,x=.int i/\Q (g i) H
section
theorem Kb(ha:PE X a ta)(hb:PE X b tb){pins:List (Addr×Obj)}{σ:St}{R:V->V->Hp->Prop}(I:Inv X pins σ H s)
  (h:ta σ H fun x H1=>tb σ H1 fun y H2=>R x y H2) {Q:Value->Shared->Prop}{f:Value->Value->Sem Value}
  (hf:∀v u s2 x y H2,Inv X pins σ H2 s2->RelV x v->RelV y u->R x y H2->wpAny (model X.prog X.w) X.A (f v u) Q X.xe s2) :
  wpAny (model X.prog X.w) X.A (eval a X.env) (fun v s₁=>wpAny (model X.prog X.w) X.A (eval b X.env) (fun u s₂=>wpAny (model X.prog X.w) X.A (f v u) Q X.xe s₂) X.xe s₁) X.xe s:=by
 refine bZ (ha pins s σ H _ I h) fun v s1 ⟨x,H1,I1,r1,q1⟩=>?_
 refine bZ (hb pins s1 σ H1 _ I1 q1) fun u s2 ⟨y,H2,I2,r2,q2⟩=>?_
 exact hf v u s2 x y H2 I2 r1 r2 q2
theorem Cm(ho:il X (binaryOp op) r)(ha:PE X a ta)(hb:PE X b tb):PE X (.BinOp a op b pos) (KY r ta tb):=by
 intro pins s σ H Q I h
 exact wpAny_BinOp (Kb ha hb I h fun v u s2 x y H2 I2 rx ry q=>ho pins s2 σ H2 x y v u Q I2 rx ry q)
theorem LH(ho:Nh X (unaryOp op) r)(ha:PE X a ta):PE X (.UnaryOp op a pos) (NW r ta):=by
 intro pins s σ H Q I h
 exact UnaryOp_ (bZ (ha pins s σ H _ I h) fun v s1 ⟨x,H1,I1,r1,q1⟩=>ho pins s1 σ H1 x v Q I1 r1 q1)
theorem MY{f:Value->Value->Sem Value}{C:Int->Int->Prop}{g:Int->Int->Int}
  (rule:∀ (i j:Int) (t u:Tok) (s:Shared) (Q:Value->Shared->Prop) (E:Value->Shared->Prop),C i j->Q (.int (g i j) s.toks) { s with toks:=s.toks+1 }->wpAny (model X.prog X.w) X.A (f (.int i t) (.int j u)) Q E s) :
  il X f (rI C fun i j=>.int (g i j)):=by
 intro pins s σ H x y v u Q I rx ry h
 obtain⟨i,j,rfl,rfl,hc,q⟩:=h
 obtain⟨t,rfl⟩:=rx
 obtain⟨t',rfl⟩:=ry
 exact rule i j t t' s _ _ hc ⟨.int (g i j),H,I.tok _,⟨_,rfl⟩,q⟩
theorem Lf{f:Value->Value->Sem Value}{g:Int->Int->Int}
  (rule:∀ (i j:Int) (t u:Tok) (s:Shared) (Q:Value->Shared->Prop) (E:Value->Shared->Prop),Q (.int (g i j) s.toks) { s with toks:=s.toks+1 }->wpAny (model X.prog X.w) X.A (f (.int i t) (.int j u)) Q E s) :
  il X f (Fm fun i j=>.int (g i j)):=by
 intro pins s σ H x y v u Q I rx ry h
 obtain⟨i,j,rfl,rfl,q⟩:=h
 obtain⟨t,rfl⟩:=rx
 obtain⟨t',rfl⟩:=ry
 exact rule i j t t' s _ _ ⟨.int (g i j),H,I.tok _,⟨_,rfl⟩,q⟩
theorem Ku{f:Value->Value->Sem Value}{g:Int->Int->Bool}
  (rule:∀ (i j:Int) (t u:Tok) (s:Shared) (Q:Value->Shared->Prop) (E:Value->Shared->Prop),Q (.bool (g i j)) s->wpAny (model X.prog X.w) X.A (f (.int i t) (.int j u)) Q E s) :
  il X f (Fm fun i j=>.bl (g i j)):=by
 intro pins s σ H x y v u Q I rx ry h
 obtain⟨i,j,rfl,rfl,q⟩:=h
 obtain⟨t,rfl⟩:=rx
 obtain⟨t',rfl⟩:=ry
 exact rule i j t t' s _ _ ⟨.bl (g i j),H,I,rfl,q⟩
def FF(i j:Int):Prop:=0 < j/\j < 1073741824
def p9(i j:Int):Prop:=(-(2 ^ 64) < i/\i < 2 ^ 64)\/(-(2 ^ 64) < j/\j < 2 ^ 64)
theorem p9.ok(h:p9 i j):IntMulOk i j:=by
 rcases h with ⟨h1,h2⟩|⟨h1,h2⟩
 ·exact .of_left (intBits_le_64 h1 h2)
 ·exact .of_right (intBits_le_64 h1 h2)
theorem Jy:il X (binaryOp .Add) (Fm fun i j=>.int (i+j)):=Lf fun _ _ _ _ _ _ _ q=>add_int q
theorem Il:il X (binaryOp .Sub) (Fm fun i j=>.int (i - j)):=Lf fun _ _ _ _ _ _ _ q=>sub_int q
theorem Ig:il X (binaryOp .Mult) (rI p9 fun i j=>.int (i * j)):=MY fun _ _ _ _ _ _ _ hc q=>mul_int q hc.ok
theorem G8:il X (binaryOp .FloorDiv) (rI FF fun i j=>.int (i / j)):=MY fun i j _ _ _ _ _ hc q=>by
 have h1:(0:Int) < j:=hc.1
 have h2:j < 1073741824:=hc.2
 exact floordiv_int (by omega) (by rw[Int.fdiv_eq_ediv_of_nonneg i (by omega)];exact q) (.inl (PyProof.noPylong_small (by omega)))
theorem IC:il X (binaryOp .Mod) (rI (fun _ j=>0 < j) fun i j=>.int (i % j)):=MY fun i j _ _ _ _ _ hc q=>by
 have h1:(0:Int) < j:=hc
 exact mod_int' (by omega) (by rw[Int.fmod_eq_emod_of_nonneg i (by omega)];exact q)
theorem Nz{f:Value->Sem Value}{g:Int->Int}
  (rule:∀ (i:Int) (t:Tok) (s:Shared) (Q:Value->Shared->Prop) (E:Value->Shared->Prop),Q (.int (g i) s.toks) { s with toks:=s.toks+1 }->wpAny (model X.prog X.w) X.A (f (.int i t)) Q E s) :
  Nh X f (rU fun i=>.int (g i)):=by
 intro pins s σ H x v Q I rx h
 obtain⟨i,rfl,q⟩:=h
 obtain⟨t,rfl⟩:=rx
 exact rule i t s _ _ ⟨.int (g i),H,I.tok _,⟨_,rfl⟩,q⟩
theorem Jf:Nh X (unaryOp .USub) (rU fun i=>.int (-i)):=Nz fun _ _ _ _ _ q=>neg_int q
end
section
theorem Da(I:Inv X pins σ H s)(q:Q (.bl k) H)(e:k=k'):EP X pins σ Q (.bool k') s:=by
 subst e
 exact⟨.bl k,H,I,rfl,q⟩
theorem EC:il X (compareOp .Lt) (Fm fun i j=>.bl (decide (i < j))):=Ku fun _ _ _ _ _ _ _ q=>lt_int q
theorem Cp:il X (compareOp .LtE) (Fm fun i j=>.bl (decide (i<=j))):=Ku fun _ _ _ _ _ _ _ q=>le_int q
theorem Hz:il X (compareOp .Gt) (Fm fun i j=>.bl (decide (j < i))):=Ku fun _ _ _ _ _ _ _ q=>gt_int q
theorem Co:il X (compareOp .Is) (fun x y H Q=>y=.non/\Q (.bl (decide (x=.non))) H):=by
 intro pins s σ H x y v u Q I rx ry h
 obtain⟨rfl,q⟩:=h
 cases ry
 refine is_none_gen (Da I q ?_)
 cases x<;>first
  | (cases rx;rfl)
  | (obtain⟨t,rfl⟩:=rx;rfl)
theorem Ae:il X (compareOp .IsNot) (fun x y H Q=>y=.non/\Q (.bl (!decide (x=.non))) H):=by
 intro pins s σ H x y v u Q I rx ry h
 obtain⟨rfl,q⟩:=h
 cases ry
 refine isnot_none_gen (Da I q ?_)
 cases x<;>first
  | (cases rx;rfl)
  | (obtain⟨t,rfl⟩:=rx;rfl)
theorem il.or(h:il X f r)(h':il X f r'):il X f (fun x y H Q=>r x y H Q\/r' x y H Q):=by
 intro pins s σ H x y v u Q I rx ry q
 rcases q with q|q
 ·exact h pins s σ H x y v u Q I rx ry q
 ·exact h' pins s σ H x y v u Q I rx ry q
theorem dg(b:Expr)(h:op≠.In:=by decide)(h2:op≠.NotIn:=by decide):behindInMarks op b=false:=by
 have e1:(op == CmpOp.In)=false:=by cases op<;>first|rfl|exact absurd rfl h
 have e2:(op == CmpOp.NotIn)=false:=by cases op<;>first|rfl|exact absurd rfl h2
 cases b<;>simp[behindInMarks,e1,e2]
theorem GK(ho:il X (compareOp op) r)(ha:PE X a ta)(hb:PE X b tb)(hm:behindInMarks op b=false):PE X (.Compare a [op] [b] pos) (KY r ta tb):=by
 intro pins s σ H Q I h
 exact wpAny_Compare1 (Kb ha hb I h fun v u s2 x y H2 I2 rx ry q=>ho pins s2 σ H2 x y v u Q I2 rx ry q) hm
def HD(t:TE):TT:=fun σ H Q=>t σ H fun x H'=>∃k,x=.bl k/\Q k H'
theorem FV(ho:il X (compareOp op) r)(ha:PE X a ta)(hb:PE X b tb)(hm:behindInMarks op b=false):PT X (.Compare a [op] [b] pos) (HD (KY r ta tb)):=by
 intro pins s σ H Q I h
 refine wpAny_isTrue_Compare1 (bZ (ha pins s σ H _ I h) fun v s1 ⟨x,H1,I1,r1,q1⟩=>bZ (hb pins s1 σ H1 _ I1 q1) fun u s2 ⟨y,H2,I2,r2,q2⟩ =>
  bZ (ho pins s2 σ H2 x y v u _ I2 r1 r2 q2) fun c s3 ⟨z,H3,I3,r3,k,e,q3⟩=>?_) hm
 subst e
 cases r3
 exact xZ ⟨H3,I3,q3⟩
def xa(r r':R2)(ta tb tc:TE):TE:=fun σ H Q=>ta σ H fun x H1=>tb σ H1 fun y H2=>r x y H2 fun z H3=>∃k,z=.bl k /\
 (if k=true then tc σ H3 fun w' H4=>r' y w' H4 Q else Q (.bl false) H3)
theorem D8(ho:il X (compareOp op) r)(ho':il X (compareOp op') r')(ha:PE X a ta)(hb:PE X b tb)(hc:PE X c tc)
  (hm:lastMarks [op,op'] [b,c]=false:=by with_unfolding_all rfl):PE X (.Compare a [op,op'] [b,c] pos) (xa r r' ta tb tc):=by
 intro pins s σ H Q I h
 refine Compare_chain (bZ (ha pins s σ H _ I h) fun v s1 ⟨x,H1,I1,r1,q1⟩=>chain_link (bZ (hb pins s1 σ H1 _ I1 q1) fun u s2 ⟨y,H2,I2,r2,q2⟩ =>
  bZ (ho pins s2 σ H2 x y v u _ I2 r1 r2 q2) fun d s3 ⟨z,H3,I3,r3,k,e,q3⟩=>?_)) hm
 subst e
 cases r3
 refine xZ ?_
 cases k with
 | false=>exact ite_ff ⟨.bl false,H3,I3,rfl,q3⟩
 | true=>exact ite_tt (chain_last (bZ (hc pins s3 σ H3 _ I3 q3) fun w' s4 ⟨z',H4,I4,r4,q4⟩=>ho' pins s4 σ H4 y z' u w' Q I4 r2 r4 q4))
theorem Ed(ho:il X (compareOp op) r)(ho':il X (compareOp op') r')(ha:PE X a ta)(hb:PE X b tb)(hc:PE X c tc)
  (hm:lastMarks [op,op'] [b,c]=false:=by with_unfolding_all rfl):PT X (.Compare a [op,op'] [b,c] pos) (HD (xa r r' ta tb tc)):=by
 intro pins s σ H Q I h
 refine isTrue_chain (bZ (ha pins s σ H _ I h) fun v s1 ⟨x,H1,I1,r1,q1⟩=>test_link (bZ (hb pins s1 σ H1 _ I1 q1) fun u s2 ⟨y,H2,I2,r2,q2⟩ =>
  bZ (ho pins s2 σ H2 x y v u _ I2 r1 r2 q2) fun d s3 ⟨z,H3,I3,r3,k,e,q3⟩=>?_)) hm
 subst e
 cases r3
 refine xZ ?_
 cases k with
 | false =>
  obtain⟨k',e',q'⟩:=q3
  cases e'
  exact ite_ff ⟨H3,I3,q'⟩
 | true =>
  refine ite_tt (test_last (bZ (hc pins s3 σ H3 _ I3 q3) fun w' s4 ⟨z',H4,I4,r4,q4⟩=>bZ (ho' pins s4 σ H4 y z' u w' _ I4 r2 r4 q4) fun d' s5 ⟨z2,H5,I5,r5,k2,e2,q5⟩=>?_))
  subst e2
  cases r5
  exact xZ ⟨H5,I5,q5⟩
theorem o3:(sizeLine:Nat) < 2 ^ 63:=by rw[qY];decide
theorem vals1(r:aG [x] us):∃u,us=[u]/\RelV x u:=by
 cases r with
 | cons r1 r2=>cases r2;exact⟨_,rfl,r1⟩
theorem vals2(r:aG [x,y] us):∃u w',us=[u,w']/\RelV x u/\RelV y w':=by
 cases r with
 | cons r1 r2 =>
  cases r2 with
  | cons r3 r4=>cases r4;exact⟨_,_,rfl,r1,r3⟩
end
section
variable {K:W.Frag}
end
section
end
section
end
section
end
section
end
structure eD(k:Nat)(A:Around):Prop where
 hd:A.handled=none
 dp:A.depth+3 * k+5 < recursionLimit
 un:A.units+16 * k+200 < cLine
theorem eD.mono(r:eD k A)(h:j<=k):eD j A:=⟨r.hd,by have:=r.dp;omega,by have:=r.un;omega⟩
theorem eD.deeper(r:eD (k+1) A)(env:Env):eD k (A.deeper env) :=
 ⟨r.hd,by have:=r.dp;show A.depth+1+3 * k+5 < _;omega,by have:=r.un;show A.units+3+16 * k+200 < _;omega⟩
theorem eD.in1(r:eD (k+1) A):eD k A.in1 :=
 ⟨r.hd,by have:=r.dp;show A.depth+3 * k+5 < _;omega,by have:=r.un;show A.units+1+16 * k+200 < _;omega⟩
theorem eD.depth(r:eD k A):A.depth < recursionLimit:=by have:=r.dp;omega
theorem eD.units(r:eD k A):A.units+64 < cLine:=by have:=r.un;omega
def MA:TA:=fun _ H Q=>Q [] H
def K8(ta:TE)(tr:TA):TA:=fun σ H Q=>ta σ H fun x H1=>tr σ H1 fun xs H2=>Q (x::xs) H2
section
theorem gg:PA X [] MA:=fun _ _ _ _ H Q I h=>Calls.spliced_nil ⟨[],H,I,.nil,h⟩
theorem cB(ha:PE X e te)(hr:PA X es t)(hs:starEach (e::es) X.env=(false,eval e X.env)::starEach es X.env:=by rfl):PA X (e::es) (K8 te t):=by
 intro pos pins s σ H Q I h
 rw[hs]
 show wpAny _ _ (spliced ((false,eval e X.env)::backTo pos (starEach es X.env))) _ _ s
 refine Calls.spliced_cons (bZ (ha pins s σ H _ I h) fun u s1 ⟨x,H1,I1,r1,q1⟩=>?_)
 exact bZ (hr pos pins s1 σ H1 _ I1 q1) fun us s2 ⟨xs,H2,I2,r2,q2⟩=>⟨x::xs,H2,I2,.cons r1 r2,q2⟩
def MM(t:TA):TE:=fun σ H Q=>t σ H fun xs H1=>xs.length<=sizeLine/\∀p,H1 p=none->Q (.ref p) (upd H1 p (.tup xs))
def Mo(t:TA):TE:=fun σ H Q=>t σ H fun xs H1=>xs.length<=sizeLine/\∀p,H1 p=none->Q (.ref p) (upd H1 p (.lst xs))
theorem II{x1}(h:PA X es t):PE X (.Tuple es x1 pos) (MM t):=by
 intro pins s σ H Q I hq
 refine wpAny_Tuple_spliced (bZ (h pos pins s σ H _ I hq) fun us s1 ⟨xs,H1,I1,r,z,q⟩=>⟨by rw[<- r.length];exact z,?_⟩)
 have hf:H1 s1.heap.objs.size=none:=I1.hok.fresh (yP _)
 refine⟨.ref s1.heap.objs.size,upd H1 s1.heap.objs.size (.tup xs),I1.laid (t':=s1.toks) (fun b u e=>zW _ e) (yP _) ?_,rfl,q _ hf⟩
 exact⟨z,us,r,⟨_,zZ _ rfl,rfl,_,rfl⟩,_,zZ _ rfl,rfl⟩
theorem EK(h:PA X es t):PE X (.List es pos) (Mo t):=by
 intro pins s σ H Q I hq
 refine wpAny_List_spliced (bZ (h pos pins s σ H _ I hq) fun us s1 ⟨xs,H1,I1,r,z,q⟩=>⟨by rw[<- r.length];exact z,?_⟩)
 have hf:H1 s1.heap.objs.size=none:=I1.hok.fresh (yP _)
 refine⟨.ref s1.heap.objs.size,upd H1 s1.heap.objs.size (.lst xs),I1.laid (t':=s1.toks) (fun b u e=>zW _ e) (yP _) ?_,rfl,q _ hf⟩
 exact⟨z,us,0,r,zZ _ rfl⟩
end
abbrev Sp:=List V->Hp->VK->XK->Prop
abbrev Hs:=List Env->Hp->Shared->XK->Value->Shared->Prop
structure FS(P:Program)(w:World)(K:W.Frag)(mg:Str->Option Value)(base:Heap)(A:Around)(outer:List Env)(s:Shared)(H:Hp):Prop where
 frames:A.frames=some outer
 mod:Mod K mg base
 bs:∀b o,base.get? b=some o->s.heap.get? b=some o/\H b=none
 bsz:base.objs.size<=s.heap.objs.size
 funs:s.heap.FunFrames base outer
 frf:∀b∈CY outer,H b=none
 hok:n5 P w H s.heap
 bare:AllBare s.gens
def CE(outer:List Env)(P:Program)(w:World)(H:Hp)(s:Shared)(Q:VK)(u:Value)(s':Shared):Prop :=
 ∃v H',s'.os=s.os/\AllBare s'.gens/\Un (CY outer) [] H H' s.heap s'.heap/\n5 P w H' s'.heap/\RelV v u/\Q v H'
def CR(CX:Hs)(outer:List Env)(P:Program)(w:World)(H:Hp)(s:Shared)(Q:VK)(E:XK)(r:Result)(s':Shared):Prop :=
 match r with
 | .ok (.ret u)=>CE outer P w H s Q u s'
 | .ok _=>False
 | .error e=>CX outer H s E e s'
structure oW(P:Program)(w:World)(K:W.Frag)(mg:Str->Option Value)(base:Heap)(CX:Hs)(k:Nat)(f:Addr)(fd:FuncData)(ps:List Str)(sp:Sp):Prop where
 len:∀vs H Q E,sp vs H Q E->vs.length=ps.length
 run:∀ (A:Around) (outer:List Env) (s:Shared) (H:Hp) (args:Args) (us:List Value) (vs:List V) (Q:VK) (E:XK),eD k A->FS P w K mg base A outer s H->BindsTo s fd args (ps.zip us)->aG vs us->sp vs H Q E ->
  codeAny (model P w) A (.call (.ref f) args) (CR CX outer P w H s Q E) s
theorem oW.mono{K:W.Frag}(F:oW P w K mg base CX j f fd ps sp)(h:j<=k) :
  oW P w K mg base CX k f fd ps sp:=⟨F.len,fun A outer s H args us vs Q E hr=>F.run A outer s H args us vs Q E (hr.mono h)⟩
section
theorem Inv.env0(I:Inv X pins σ H s):FS X.prog X.w X.K X.mg X.base X.A X.stack s H :=
 ⟨I.ok.frames,I.ok.mod,I.bs,yF I.ok.bsz I.sz,I.stack,I.stkFree,I.hok,I.bare⟩
theorem Inv.after(I:Inv X pins σ H s)(h:CE X.stack X.prog X.w H s Q u s'):EP X pins σ Q u s':=by
 obtain⟨v,H',os,bare,un,hok,r,q⟩:=h
 obtain⟨hh,g,d,t,os'⟩:=s'
 obtain rfl:os'=s.os:=os
 exact⟨v,H',I.call (h':=hh) (g':=g) (d':=d) (t':=t) (ch:=[]) un hok bare (fun b z=>absurd z (by simp)),r,q⟩
end
def K3(sp:Sp)(dvs:List V)(E:XK)(t:TA):TE:=fun σ H Q=>t σ H fun vs H1=>sp (vs++dvs) H1 Q E
def Binds(K:W.Frag)(fd:FuncData)(ps:List Str)(ds:List Value):Prop :=
 ∀ (s:Shared) (us:List Value),K.In s.heap->(us++ds).length=ps.length->BindsTo s fd ⟨us,[]⟩ (ps.zip (us++ds))
theorem Binds.all{K:W.Frag}(h:∀us:List Value,us.length=ps.length->bindArgs fd ⟨us,[]⟩=pure (ps.zip us)):Binds K fd ps []:=fun s us _ hl=>by
 rw[qJ] at hl ⊢
 exact .of_eq (h us hl)
def yc(CX:Hs)(X:Cx)(E:XK):Prop:=∀ (pins:List (Addr×Obj)) (σ:St) (H:Hp) (s:Shared) (e:Value) (s':Shared),Inv X pins σ H s->CX X.stack H s E e s'->X.xe e s'
section
theorem Kt(F:oW X.prog X.w X.K X.mg X.base CX k f fd ps sp)(hr:eD k X.A)(hb:Binds X.K fd ps ds)(hd:aG dvs ds)(hx:yc CX X E)
  (I:Inv X pins σ H s) (r:aG vs us) (h:sp (vs++dvs) H Q E):wpAny (model X.prog X.w) X.A (call (.ref f) us) (EP X pins σ Q) X.xe s:=by
 have r2:aG (vs++dvs) (us++ds):=r.append hd
 have hl:(us++ds).length=ps.length:=by rw[<- r2.length];exact F.len _ _ _ _ h
 refine wpAny_call (jU (F.run X.A X.stack s H ⟨us,[]⟩ (us++ds) (vs++dvs) Q E hr I.env0 (hb s us I.kIn hl) r2 h) fun r s' hq=>?_)
 cases r with
 | error e=>exact hx pins σ H s e s' I hq
 | ok fl =>
  cases fl with
  | ret u=>exact I.after hq
  | next=>exact False.elim hq
  | brk=>exact False.elim hq
  | cont=>exact False.elim hq
theorem FI(F:oW X.prog X.w X.K X.mg X.base CX k f fd ps sp)(hr:eD k X.A)(hg:Gl X x)(hm:X.mg x=some (.ref f))(hk:W.keepIn X.K (.ref f)=true)(hb:Binds X.K fd ps ds)(hd:aG dvs ds)(hx:yc CX X E)
  (ha:PA X (e::es) t) (hdb:(x == ("__debug__":Str))=false:=by decide) (he:starEach (e::es) X.env=(false,eval e X.env)::starEach es X.env:=by rfl) (hpl:(backTo pos (starEach es X.env)).any (·.1)=false:=by rfl) :
  PE X (.Call (.Name x p) (e::es) [] pos) (K3 sp dvs E t):=by
 intro pins s σ H Q I h
 refine jB (AZ I hg hm ?_ hdb)
 refine W.callWith_K (h₀:=X.base) I.ok.mod.kin hk (bZ (ha pos pins s σ H _ I h) fun us s1 ⟨vs,H1,I1,r,q⟩=>⟨I1.kIn,?_⟩) he hpl
 exact Kt F hr hb hd hx I1 r q
end
section
end
structure dZ(N P:List Str)(sc:Scope):Prop where
 kind:sc.kind=.function
 co:sc.isCoroutine=false
 gen:sc.isGenerator=false
 nd:N.Nodup
 pre:N.take P.length=P
 par:∀x∈P,sc.names.lookup x=some .local \/ sc.names.lookup x=some .cell
 nofree:∀y∈sc.names,y.2≠.free
theorem rD{kindOf:Str->Option NameKind}:∀ {binds:List (Str×Value)}{m:Str->Option Value},(∀v,(x,v)∉binds)->bindL kindOf binds m x=m x
 | [],_,_=>rfl
 | (n,v)::r,m,h=>by
  unfold bindL
  rw[rD fun w hw=>h w (zE _ hw)]
  split
  ·have:x≠n:=by rintro rfl;exact h v zH
   simp[this]
  ·rfl
theorem rT{kindOf:Str->Option NameKind}:∀ {binds:List (Str×Value)}{m:Str->Option Value},(∀v,(x,v)∉binds)->bindC kindOf binds m x=m x
 | [],_,_=>rfl
 | (n,v)::r,m,h=>by
  unfold bindC
  rw[rT fun w hw=>h w (zE _ hw)]
  split
  ·rfl
  ·have:x≠n:=by rintro rfl;exact h v zH
   simp[this]
theorem qr{kindOf:Str->Option NameKind}:∀ {P:List Str}{vs:List Value}{i:Nat}{m:Str->Option Value},P.Nodup->P[i]?=some x->vs[i]?=some v->kindOf x=some .local ->
  bindL kindOf (P.zip vs) m x=some v
 | [],_,_,_,_,h,_,_=>by simp at h
 | _::_,[],_,_,_,_,h,_=>by simp at h
 | p::P,w::vs,0,m,nd,h1,h2,hk=>by
  simp at h1 h2;subst h1;subst h2
  show bindL kindOf ((p,w)::P.zip vs) m p=_
  unfold bindL
  rw[rD fun v hv=>(List.nodup_cons.mp nd).1 (vR hv).1,yO hk]
  simp
 | p::P,w::vs,i+1,m,nd,h1,h2,hk=>by
  show bindL kindOf ((p,w)::P.zip vs) m x=_
  unfold bindL
  exact qr (i:=i) (List.nodup_cons.mp nd).2 (by simpa using h1) (by simpa using h2) hk
theorem rR{kindOf:Str->Option NameKind}:∀ {P:List Str}{vs:List Value}{i:Nat}{m:Str->Option Value},P.Nodup->P[i]?=some x->vs[i]?=some v->kindOf x≠some .local ->
  bindC kindOf (P.zip vs) m x=some v
 | [],_,_,_,_,h,_,_=>by simp at h
 | _::_,[],_,_,_,_,h,_=>by simp at h
 | p::P,w::vs,0,m,nd,h1,h2,hk=>by
  simp at h1 h2;subst h1;subst h2
  show bindC kindOf ((p,w)::P.zip vs) m p=_
  unfold bindC
  rw[rT fun v hv=>(List.nodup_cons.mp nd).1 (vR hv).1,yQ hk]
  simp
 | p::P,w::vs,i+1,m,nd,h1,h2,hk=>by
  show bindC kindOf ((p,w)::P.zip vs) m x=_
  unfold bindC
  exact rR (i:=i) (List.nodup_cons.mp nd).2 (by simpa using h1) (by simpa using h2) hk
def start(N:List Str)(vs:List V):St:=vs.map some++List.replicate (N.length - vs.length) none
def BC(CX:Hs)(P:Program)(w:World)(K:W.Frag)(mg:Str->Option Value)(base:Heap)(N:List Str)(qual:Str)(scope:Scope)(f:Addr)(cd:Value)(A:Around)(outer:List Env)(s:Shared)(H:Hp)(E:XK):Cx where
 prog:=P
 w:=w
 K:=K
 mg:=mg
 base:=base
 A:=A.deeper (envOfC qual scope s.heap.objs.size f cd)
 N:=N
 s₀:=s
 H₀:=H
 env:=envOfC qual scope s.heap.objs.size f cd
 outer:=outer
 stack:=envOfC qual scope s.heap.objs.size f cd::outer
 ex:=[]
 calm:=true
 fn:=fun _=>true
 pn:=[]
 xe:=fun e s'=>wpAny (model P w) (A.deeper (envOfC qual scope s.heap.objs.size f cd)) (leaving (envOfC qual scope s.heap.objs.size f cd) e) (fun _ s''=>CX outer H s E e s'') (fun e' s''=>CX outer H s E e' s'') s'
theorem oK{sc:Scope}{n:Nat}(h:sc.names.lookup x=some .cell):∃c,(cellsFrom n sc.names []).lookup x=some c:=by
 have q:=W.cellsFrom_some sc.names n [] (.inl h)
 exact Option.isSome_iff_exists.mp q
theorem BE{CX:Hs}{K:W.Frag}{mg:Str->Option Value}{ps:List Str}{scope:Scope}{cd:Value}{A:Around}{outer:List Env}{s:Shared}{E:XK}{us:List Value}{vs:List V}
  (S:dZ N ps scope) (hd:A.handled=none) (e0:FS P w K mg base A outer s H) (hl:vs.length=ps.length) (r:aG vs us)
  (x:InCallC s s.heap.objs.size (bindL (envOfC qual scope s.heap.objs.size f cd).kindOf (ps.zip us) fun _=>none) (cellsFrom (s.heap.objs.size+1) scope.names []) (bindC (envOfC qual scope s.heap.objs.size f cd).kindOf (ps.zip us) fun _=>none) s1) :
  Inv (BC CX P w K mg base N qual scope f cd A outer s H E) [] (start N vs) H s1:=by
 have hpl:ps.length<=N.length:=by have:=jF List.length S.pre;rw[jY] at this;omega
 obtain⟨h1,tk,rfl,hk⟩:=x.done
 have noA:∀b:Addr,b∉(BC CX P w K mg base N qual scope f cd A outer s H E).ex:=fun b z=>absurd (show b∈([]:List Addr) from z) (by simp)
 refine⟨⟨e0.mod,S.kind,rfl,rfl,yP _,fun y z c h1 h2=>?_,fun y hy=>?_,fun y c _ h=>?_,fun _=>hd,Around.frames_deeper e0.frames,.inr ⟨rfl,rfl⟩,fun b z=>absurd z (noA b),e0.bs,e0.bsz,fun b _ _=>noA b,fun b z=>absurd z (noA b),e0.funs,e0.frf⟩,
  rfl,e0.bare,Un.kept hk,⟨_,x.toInCall.ns,fun i y v h1 h2 h3=>?_⟩,fun y c h=>⟨_,x.cell y c h⟩,e0.hok.fresh (yP _),fun y c h=>?_,fun p hp=>absurd (show p∈([]:List (Addr×Obj)) from hp) (by simp),e0.hok.kept hk,?_⟩
 ·exact name_of_addr x.apart (kE h1) (kE h2)
 ·have hy:scope.names.lookup y=some .cell\/scope.names.lookup y=some .free:=hy
  rcases hy with hy|hy
  ·exact oK hy
  ·exact absurd rfl (S.nofree _ (kE hy))
 ·exact jV (x.above y c (kE h))
 ·have hi:i < vs.length:=by
   unfold start at h2
   by_cases hi:i < vs.length
   ·exact hi
   ·rw[yW (by simpa using hi)] at h2
    rw[xA] at h2
    split at h2<;>cases h2
  have ha:vs[i]?=some v:=by
   unfold start at h2
   rw[yV (by simpa using hi),zR] at h2
   cases e:vs[i]? with
   | none=>rw[e] at h2;cases h2
   | some a=>rw[e] at h2;cases h2;rfl
  obtain⟨u,hu,rv⟩:=r.get ha
  have hp:ps[i]?=some y:=by
   rw[<- S.pre,List.getElem?_take_of_lt (by omega)];exact h1
  have ndP:ps.Nodup:=by rw[<- S.pre];exact S.nd.sublist (List.take_sublist _ _)
  refine⟨u,rv,?_⟩
  rcases S.par y (qE hp) with k|k
  ·exact .inl ⟨k,qr ndP hp hu k⟩
  ·obtain⟨c,e⟩:=oK (n:=s.heap.objs.size+1) k
   refine .inr ⟨.inl k,c,e,?_⟩
   have q:=x.cell y c e
   rw[rR ndP hp hu (by show scope.names.lookup y≠_;rw[k];decide)] at q
   exact q
 ·exact e0.hok.fresh (jV (x.above y c (kE h)))
 ·unfold start
  show _=N.length
  rw[zQ,zF,xP]
  omega
theorem KD{K:W.Frag}{kV:Value}
  {osl:Array (Option Value)}{N ps:List Str}{sp:Sp}(lk:K.lookup f=some ⟨oc,od,.func (W.fnOf name qual params body scope dV kV doc pm an cdv ct),osl⟩) (hcd:W.codeIn K cdv qual=true) (S:dZ N ps scope)
  (len:∀vs H Q E,sp vs H Q E->vs.length=ps.length)
  (hbody:∀ (A:Around) (outer:List Env) (s:Shared) (H:Hp) (vs:List V) (Q:VK) (E:XK),eD k (A.deeper (envOfC qual scope s.heap.objs.size f cdv))->sp vs H Q E ->
   ∃t,yu (BC CX P w K mg base N qual scope f cdv A outer s H E) body t/\t { nx:=fun _ H'=>Q .non H',rt:=Q } (start N vs) H) :
  oW P w K mg base CX (k+1) f (W.fnOf name qual params body scope dV kV doc pm an cdv ct) ps sp:=by
 refine⟨len,fun A outer s H args us vs Q E hr e0 hb r hsp=>?_⟩
 have hl:=len _ _ _ _ hsp
 have KX:K.In s.heap:=e0.mod.kin.keeps fun b o e=>(e0.bs b o e).1
 have lim:s.heap.NoLimit:=e0.mod.nolimit.keeps fun b o e=>(e0.bs b o e).1
 have hkind:∀y∈ps.zip us,scope.names.lookup y.1=some .local \/ (scope.names.lookup y.1=some .cell/\((cellsFrom (s.heap.objs.size+1) scope.names []).lookup y.1).isSome=true):=fun ⟨n,v⟩ hy=>by
  rcases S.par n (vR hy).1 with q|q
  ·exact .inl q
  ·exact .inr ⟨q,W.cellsFrom_some _ _ _ (.inl q)⟩
 refine codeAny_call_function hr.depth (KX _ _ lk) rfl S.co S.gen rfl (W.codeRec_of KX hcd) (hb _ _ _ _ ?_)
 refine wpAny_newFunctionEnv_cells S.kind hkind fun env he s1 x=>?_
 subst he
 refine⟨lim.keeps x.toInCall.keep,codeAny_func ?_⟩
 obtain⟨t,ht,hq⟩:=hbody A outer s H vs Q E (hr.deeper _) hsp
 have I:Inv (BC CX P w K mg base N qual scope f cdv A outer s H E) [] (start N vs) H s1:=BE S hr.hd e0 hl r x
 refine xD (ht [] s1 (start N vs) H _ I hq) (fun fl s' hs=>?_) fun e s' hs=>hs
 have fin:∀ {σ':St}{H':Hp}{v:V}{u:Value},Inv (BC CX P w K mg base N qual scope f cdv A outer s H E) [] σ' H' s'->RelV v u->Q v H'->CE outer P w H s Q u s' :=
  fun {σ' H' v u} J rv q=>⟨v,H',J.os,J.bare,J.base,J.hok,rv,q⟩
 cases fl with
 | ret u =>
  obtain⟨v,σ',H',J,rv,q⟩:=hs
  exact fin J rv q
 | next =>
  obtain⟨σ',H',J,q⟩:=hs
  exact fin (v:=V.non) (u:=Value.none) J rfl q
 | brk =>
  obtain⟨_,_,_,q⟩:=hs
  exact False.elim q
 | cont =>
  obtain⟨_,_,_,q⟩:=hs
  exact False.elim q
section
variable {id T:String}
def Mb(r:List V->Hp->VK->Prop)(t:TA):TE:=fun σ H Q=>t σ H fun vs H1=>r vs H1 Q
theorem ml(hc:dy X (.builtin id) r)(hg:Gl X x)(hm:X.mg x=none)(hv:bootBuiltins x=some (.builtin id))(ha:PA X (e::es) t)(hn:x≠"__name__":=by decide)(hdb:(x == ("__debug__":Str))=false:=by decide)
  (he:starEach (e::es) X.env=(false,eval e X.env)::starEach es X.env:=by rfl) (hpl:(backTo pos (starEach es X.env)).any (·.1)=false:=by rfl):PE X (.Call (.Name x p) (e::es) [] pos) (Mb r t):=by
 intro pins s σ H Q I h
 refine jB (iu I hg hm hv ?_ hn hdb)
 exact PyProof.Rows.callWith_builtin1 (bZ (ha pos pins s σ H _ I h) fun us s1 ⟨vs,H1,I1,r1,q1⟩=>hc pins s1 σ H1 vs us Q I1 r1 q1) he hpl
theorem mZ(hc:dy X (.type T) r)(hg:Gl X x)(hm:X.mg x=none)(hv:bootBuiltins x=some (.type T))(ha:PA X (e::es) t)(hn:x≠"__name__":=by decide)(hdb:(x == ("__debug__":Str))=false:=by decide)
  (he:starEach (e::es) X.env=(false,eval e X.env)::starEach es X.env:=by rfl) (hpl:(backTo pos (starEach es X.env)).any (·.1)=false:=by rfl):PE X (.Call (.Name x p) (e::es) [] pos) (Mb r t):=by
 intro pins s σ H Q I h
 refine jB (iu I hg hm hv ?_ hn hdb)
 exact qV (bZ (ha pos pins s σ H _ I h) fun us s1 ⟨vs,H1,I1,r1,q1⟩=>hc pins s1 σ H1 vs us Q I1 r1 q1) he hpl
end
end L2
namespace HT
open PySem PyProof.Rows
def lexLt:List Int->List Int->Bool
 | [],[]=>false
 | [],_::_=>true
 | _::_,[]=>false
 | x::xs,y::ys=>if x=y then lexLt xs ys else decide (x < y)
theorem dF(x y:Int)(xs ys:List Int):lexLt (x::xs) (y::ys)=if x=y then lexLt xs ys else decide (x < y):=rfl
section
open PySem.SeqAt
open PySem.AutoSeq1 (wpAny_loadPart')
open PySem.MeetsSeq PySem.MeetsSeq2 PySem.MeetsSeq3
end
section
theorem Gn(ht:IsTup s.heap t vs.toArray)(hb:IsTup s.heap b ws.toArray)(hv:vs≠[])
  (h1:ws=[]->Q (.ref t) s) (h2:ws≠[]->Q (.ref s.heap.objs.size) { s with heap:=s.heap.push { cls:=.type "tuple",data:=.seq (vs++ws).toArray } })
  (hsz:vs.length+ws.length<=sizeLine):wpAny (model prog w) A (binaryOp .Add (.ref t) (.ref b)) Q E s:=by
 obtain⟨⟨cls,dd,data,sl⟩,ho,hc,n,hd⟩:=id ht
 obtain⟨⟨cls2,dd2,data2,sl2⟩,ho2,hc2,n2,hd2⟩:=id hb
 simp only at hc hd hc2 hd2
 subst hc hd hc2 hd2
 have e:vs.toArray++ws.toArray=(vs++ws).toArray:=by simp
 by_cases hw:ws=[]
 ·exact wM ⟨_,ho,rfl⟩ ⟨_,ho2,rfl⟩ noFill_tuple_add seq_tuple_add vM vI (vG _ _)
   (tuple_addW1 t b vs.toArray ws.toArray n n2 dd dd2 sl sl2 (by simpa using hv) (by simp[hw])) ⟨ho,ho2,h1 hw⟩
 ·refine wM ⟨_,ho,rfl⟩ ⟨_,ho2,rfl⟩ noFill_tuple_add seq_tuple_add vM vI (vG _ _)
   (tuple_addW2 t b vs.toArray ws.toArray n n2 dd dd2 sl sl2 (by simpa using hv) (by simpa using hw) (by rw[zK,zK];exact hsz)) ⟨ho,ho2,?_⟩
  rw[e]
  exact h2 hw
def cW(n d:Nat):Option Int->Nat
 | none=>d
 | some v=>if v < 0 then (v+(n:Int)).toNat else min v.toNat n
theorem uw(n d:Nat):cW n d none=d:=rfl
theorem Ak(n d k:Nat):cW n d (some (k:Int))=min k n:=by
 show (if (k:Int) < 0 then ((k:Int)+(n:Int)).toNat else min (k:Int).toNat n)=min k n
 rw[yQ (by omega),yI]
theorem Jo(n d:Nat)(hd:d<=n)(o:Option Int):cW n d o<=n:=by
 cases o with
 | none=>exact hd
 | some v =>
  show (if v < 0 then (v+(n:Int)).toNat else min v.toNat n)<=n
  by_cases hv:v < 0
  ·rw[yO hv];omega
  ·rw[yQ hv];exact Nat.min_le_right _ _
theorem zm(v:Int)(n d:Nat):(if v < 0 then max (v+(n:Int)) 0 else min v (n:Int))=((cW n d (some v):Nat):Int):=by
 show (if v < 0 then max (v+(n:Int)) 0 else min v (n:Int))=(((if v < 0 then (v+(n:Int)).toNat else min v.toNat n):Nat):Int)
 by_cases hv:v < 0
 ·simp only[yO hv];omega
 ·simp only[yQ hv];omega
theorem xi(lo hi:Option Int)(n:Nat):Builtin.Slice.sliceAdjust lo hi 1 (n:Int)=(((cW n 0 lo:Nat):Int),((cW n n hi:Nat):Int)):=by
 have h1:¬ ((1:Int) < 0):=by omega
 unfold Builtin.Slice.sliceAdjust
 simp only[h1,qT]
 refine Prod.ext ?_ ?_
 ·cases lo with
  | none=>rfl
  | some v=>exact zm v n 0
 ·cases hi with
  | none=>rfl
  | some v=>exact zm v n n
theorem yk(i j:Nat):Builtin.Slice.slicePlaces (i:Int) (j:Int) 1=j - i:=by
 unfold Builtin.Slice.slicePlaces
 have h1:(1:Int) > 0:=by omega
 simp only[h1,xK,Int.ediv_one]
 split<;>omega
theorem pJ(p:IsPart v o)(h:Q o s):wpAny (model prog w) A (Builtin.Slice.slicePartIndex v) Q E s:=by
 cases p with
 | none=>exact slicePart_none h
 | int i t=>exact slicePart_int h
theorem gP{vl:Value}{lo hi:Option Int}{n:Nat}{Q:Int×Int×Nat->Shared->Prop}(hs:s.heap.IsSliceOf sl vl vu .none)(pl:IsPart vl lo)(pu:IsPart vu hi)
  (h:Q (((cW n 0 lo:Nat):Int),1,cW n n hi - cW n 0 lo) s):wpAny (model prog w) A (Builtin.Slice.sliceApplied (.ref sl) (pure (n:Int))) Q E s:=by
 obtain⟨os,hos,hcs,hds⟩:=id hs
 unfold Builtin.Slice.sliceApplied Builtin.Slice.sliceFields
 refine zX (zX (qX hos hds (x:=vl) rfl (zX (qX hos hds (x:=vu) rfl (zX (qX hos hds (x:=.none) rfl (zY ?_)))))))
 refine zX (slicePart_none ?_)
 show wpAny _ _ (if ((1:Int) == 0)=true then _ else _) _ _ s
 rw[yQ (by decide)]
 refine zX (pJ pl (zX (pJ pu (zX (zY ?_)))))
 show wpAny _ _ (match Builtin.Slice.sliceAdjust lo hi 1 (n:Int) with|(lo,hi)=>pure (lo,(1:Int),Builtin.Slice.slicePlaces lo hi 1)) _ _ s
 rw[xi lo hi n]
 show wpAny _ _ (pure (((cW n 0 lo:Nat):Int),(1:Int),Builtin.Slice.slicePlaces ((cW n 0 lo:Nat):Int) ((cW n n hi:Nat):Int) 1)) _ _ s
 rw[yk]
 exact zY h
theorem D5(xs:Array Value)(i k:Nat):((List.range k).filterMap fun (m:Nat)=>xs[((i:Int)+(m:Int) * 1).toNat]?).toArray=((xs.toList.drop i).take k).toArray:=by
 have e:(fun (m:Nat)=>xs[((i:Int)+(m:Int) * 1).toNat]?)=fun m=>xs[i+m]?:=by
  funext m
  have:((i:Int)+(m:Int) * 1).toNat=i+m:=by omega
  rw[this]
 rw[e]
 have:=pick_run xs i k
 rw[List.filterMap_map] at this
 have e2:((fun x=>xs[x]?) ∘ fun x=>i+x)=fun m=>xs[i+m]?:=rfl
 rw[e2] at this
 rw[this]
theorem lX{items:Array Value}{vl:Value}{lo:Option Int}(ht:IsTup s.heap t items)(hs:s.heap.IsSliceOf sl vl vu .none)(pl:IsPart vl lo)(pu:IsPart vu hi)
  (hw:¬ (cW items.size 0 lo=0/\cW items.size items.size hi=items.size))
  (h:Q (.ref s.heap.objs.size) { s with heap:=s.heap.push { cls:=.type "tuple",data:=.seq ((items.toList.drop (cW items.size 0 lo)).take (cW items.size items.size hi - cW items.size 0 lo)).toArray } })
  (hsz:items.size<=sizeLine):wpAny (model prog w) A (getItem (.ref t) (.ref sl)) Q E s:=by
 have htake:sizeOk (.seq ((items.toList.drop (cW items.size 0 lo)).take (cW items.size items.size hi - cW items.size 0 lo)).toArray):=by
  show ((items.toList.drop (cW items.size 0 lo)).take (cW items.size items.size hi - cW items.size 0 lo)).toArray.size<=sizeLine
  rw[zK,jY,qL,wD]
  omega
 have hj:cW items.size items.size hi<=items.size:=Jo _ _ (yP _) hi
 obtain⟨os,hos,hcs,hds⟩:=id hs
 have hTs:s.TypeIs (.ref sl) "slice":=⟨os,hos,hcs⟩
 unfold getItem
 try with_reducible refine qA ?_
 first|refine zX (zY ?_)|skip
 refine zX (wpAny_sequenceKey ht.typeIs (by decide) ?_)
 refine zX (qF (name:=Str.ofString "__getitem__") ht.typeIs jI
  (qZ jI ht.typeIs entry_tuple_getitem ?_ (args_tuple_getitem _ _)))
 show wpAny _ _ (Builtin.Tuple.tupleItemsOf (.ref t) >>= _) _ _ s
 refine zX (tupleItemsOf_ ht ?_)
 refine zX (wK hTs ?_)
 rw[yO (by decide)]
 refine zX (gP hs pl pu ?_)
 have hno:¬ ((((cW items.size 0 lo:Nat):Int) == 0&&(1:Int) == 1&&(cW items.size items.size hi - cW items.size 0 lo) == items.size)=true):=by
  intro q
  rw[zI,zI] at q
  have q1:((cW items.size 0 lo:Nat):Int)=0:=eq_of_beq q.1.1
  have q2:cW items.size items.size hi - cW items.size 0 lo=items.size:=eq_of_beq q.2
  exact hw ⟨by omega,by omega⟩
 show wpAny _ _ (if (((cW items.size 0 lo:Nat):Int) == 0&&(1:Int) == 1&&(cW items.size items.size hi - cW items.size 0 lo) == items.size)=true then _ else _) _ _ s
 rw[yQ hno,D5]
 first
  | exact zX (m:=Builtin.Tuple.tupleExact _) (qP (zY ⟨_,rfl,zY h⟩) htake)
  | exact zX (m:=Builtin.Tuple.tupleExact _) (qP (zX (zY (zY ⟨_,rfl,zY h⟩))) htake)
  | exact zX (zX (m:=Builtin.Tuple.tupleExact _) (qP (zY (zY ⟨_,rfl,zY h⟩)) htake))
  | exact zX (zX (m:=Builtin.Tuple.tupleExact _) (qP (zY ⟨_,rfl,zY h⟩) htake))
end
end HT
namespace L2
open PySem PySem.Spec PyProof.Rows
abbrev TO:=St->Hp->(Option Int->Hp->Prop)->Prop
def PO(X:Cx)(e:Option Expr)(t:TO):Prop :=
 ∀ (pins:List (Addr×Obj)) (s:Shared) (σ:St) (H:Hp) (Q:Option Int->Hp->Prop),Inv X pins σ H s->t σ H Q ->
  wpAny (model X.prog X.w) X.A (evalPart e X.env) (fun u s'=>∃o H',Inv X pins σ H' s'/\IsPart u o/\Q o H') X.xe s
def GP:TO:=fun _ H Q=>Q none H
def K5(t:TE):TO:=fun σ H Q=>t σ H fun x H1=>∃i,x=.int i/\Q (some i) H1
theorem intsAre_of:∀ {us:List Value},aG (ns.map V.int) us->IntsAre us ns:=by
 induction ns with
 | nil=>intro us r;rw[yX] at r;cases r;exact .nil
 | cons n ns ih =>
  intro us r
  rw[zL] at r
  cases r with
  | cons r1 r2 =>
   obtain⟨t,e⟩:=r1
   subst e
   exact .cons n t (ih r2)
section
variable {lo hi:Option Expr}
theorem F1:PO X none GP:=by
 intro pins s σ H Q I h
 rw[evalPart_none]
 exact zY ⟨none,H,I,.none,h⟩
theorem Gm(h:PE X e te):PO X (some e) (K5 te):=by
 intro pins s σ H Q I hw
 rw[evalPart_some]
 refine bZ (h pins s σ H _ I hw) fun u s1 ⟨x,H1,I1,r1,q1⟩=>?_
 obtain⟨i,rfl,q⟩:=q1
 obtain⟨t,rfl⟩:=r1
 exact⟨some i,H1,I1,.int i t,q⟩
def HB(X:Cx)(r:V->Option Int->Option Int->Hp->VK->Prop):Prop :=
 ∀ (pins:List (Addr×Obj)) (s:Shared) (σ:St) (H:Hp) (x:V) (v vl vu:Value) (lo hi:Option Int) (sl:Addr) (Q:VK),Inv X pins σ H s->RelV x v->s.heap.IsSliceOf sl vl vu .none->IsPart vl lo->IsPart vu hi->r x lo hi H Q ->
  ∃T id,typeLookup (.type T) "__getitem__"=pure (some (.builtin id))/\s.TypeIs v T/\wpAny (model X.prog X.w) X.A (getItem v (.ref sl)) (EP X pins σ Q) X.xe s
theorem HB.or(h:HB X r)(h':HB X r'):HB X (fun x lo hi H Q=>r x lo hi H Q\/r' x lo hi H Q):=by
 intro pins s σ H x v vl vu lo hi sl Q I rx hs pl pu q
 rcases q with q|q
 ·exact h pins s σ H x v vl vu lo hi sl Q I rx hs pl pu q
 ·exact h' pins s σ H x v vl vu lo hi sl Q I rx hs pl pu q
def NU(r:V->Option Int->Option Int->Hp->VK->Prop)(te:TE)(tl th:TO):TE:=fun σ H Q=>te σ H fun x H1=>tl σ H1 fun l H2=>th σ H2 fun u H3=>r x l u H3 Q
theorem DR(hr:HB X r)(he:PE X e te)(hl:PO X lo tl)(hu:PO X hi th):PE X (.Subscript e (.Slice lo hi none p2) pos) (NU r te tl th):=by
 intro pins s σ H Q I h
 refine Subscript_ (bZ (he pins s σ H _ I h) fun v s1 ⟨x,H1,I1,r1,q1⟩=>?_)
 refine wpAny_Slice (bZ (hl pins s1 σ H1 _ I1 q1) fun vl s2 ⟨l,H2,I2,pl,q2⟩=>bZ (hu pins s2 σ H2 _ I2 q2) fun vu s3 ⟨u,H3,I3,pu,q3⟩=>?_)
 rw[evalPart_none]
 refine zY ?_
 have I4:Inv X pins σ H3 { s3 with heap:=s3.heap.push { cls:=.type "slice",data:=.fields #[vl,vu,.none] } }:=I3.kept (t':=s3.toks) fun b ob q=>zW _ q
 obtain⟨T,id,hT,ht,hg⟩:=hr pins { s3 with heap:=s3.heap.push { cls:=.type "slice",data:=.fields #[vl,vu,.none] } } σ H3 x v vl vu l u s3.heap.objs.size Q I4 r1 (Heap.IsSliceOf.new ..) pl pu q3
 show wpAny (model X.prog X.w) X.A (subscriptTail e (.Slice lo hi none p2) v (.ref s3.heap.objs.size)) (EP X pins σ Q) X.xe { s3 with heap:=s3.heap.push { cls:=.type "slice",data:=.fields #[vl,vu,.none] } }
 exact tail_any (ops:=[.ref s3.heap.objs.size,v]) ht hT hg (by with_unfolding_all rfl)
def Fx(xs:List V)(lo hi:Option Int):List V:=(xs.drop (HT.cW xs.length 0 lo)).take (HT.cW xs.length xs.length hi - HT.cW xs.length 0 lo)
theorem uf(xs:List V)(lo hi:Option Int):(Fx xs lo hi).length<=xs.length:=by
 unfold Fx
 rw[jY,qL]
 omega
def M1(K:W.Frag):V->Option Int->Option Int->Hp->VK->Prop:=fun x lo hi H Q=>∃a xs,x=.ref a/\gw K H a xs /\
 ¬ (HT.cW xs.length 0 lo=0/\HT.cW xs.length xs.length hi=xs.length)/\∀p,H p=none->Q (.ref p) (upd H p (.tup (Fx xs lo hi)))
theorem Ji:HB X (M1 X.K):=by
 intro pins s σ H x v vl vu lo hi sl Q I rx hs pl pu h
 obtain⟨a,xs,rfl,hx,hw,q⟩:=h
 cases rx
 obtain⟨its,r,ht,hz⟩:=I.tuple hx
 have hlen:its.toArray.size=xs.length:=by rw[zK];exact r.length.symm
 refine⟨"tuple",_,PyProof.Rows.slot_tuple_getitem.lookup,ht.typeIs,?_⟩
 refine HT.lX ht hs pl pu (by rw[hlen];exact hw) ?_ (by rw[hlen];exact hz)
 rw[hlen]
 refine⟨.ref s.heap.objs.size,_,I.laid (t':=s.toks) (o:=.tup (Fx xs lo hi)) (fun b ob q=>zW _ q) (yP _) ?_,rfl,q _ (I.hok.fresh (yP _))⟩
 exact⟨yF (uf xs lo hi) hz,_,(r.drop (HT.cW xs.length 0 lo)).take (HT.cW xs.length xs.length hi - HT.cW xs.length 0 lo),oD.new _ _⟩
def K6(K:W.Frag):R2:=fun x y H Q=>∃a b xs ys,x=.ref a/\y=.ref b/\gw K H a xs/\gw K H b ys/\xs≠[]/\xs.length+ys.length<=sizeLine /\
 (ys=[]->Q (.ref a) H)/\(ys≠[]->∀p,H p=none->Q (.ref p) (upd H p (.tup (xs++ys))))
theorem aG.nil_iff(r:aG xs us):us=[]↔xs=[]:=by
 cases r with
 | nil=>simp
 | cons _ _=>simp
theorem FR:il X (binaryOp .Add) (K6 X.K):=by
 intro pins s σ H x y v u Q I rx ry h
 obtain⟨a,b,xs,ys,rfl,rfl,ha,hb,hx,hz,q1,q2⟩:=h
 cases rx
 cases ry
 obtain⟨its,r1,p1,_⟩:=I.tuple ha
 obtain⟨its2,r2,p2,_⟩:=I.tuple hb
 refine HT.Gn p1 p2 (fun z=>hx (r1.nil_iff.mp z)) (fun z=>⟨.ref a,H,I,rfl,q1 (r2.nil_iff.mp z)⟩) (fun z=>?_) (by rw[<- r1.length,<- r2.length];exact hz)
 refine⟨.ref s.heap.objs.size,_,I.laid (t':=s.toks) (o:=.tup (xs++ys)) (fun b ob q=>zW _ q) (yP _) ?_,rfl,q2 (fun w=>z (r2.nil_iff.mpr w)) _ (I.hok.fresh (yP _))⟩
 exact⟨by rw[zQ];exact hz,_,r1.append r2,oD.new _ _⟩
end
def wa(n:Nat)(i:Int):Option Nat:=if 0<=i then (if i < n then some i.toNat else none) else if -(n:Int)<=i then some (i+n).toNat else none
def pY(xs:List α)(i:Int):Option α:=(wa xs.length i).bind fun j=>xs[j]?
theorem z6(h:wa n i=some j):seqIndex? i n=some j/\j < n/\-(n:Int)<=i/\i < n:=by
 unfold wa at h
 by_cases h0:0<=i
 ·rw[yO h0] at h
  by_cases h1:i < n
  ·rw[yO h1] at h
   have e:i.toNat=j:=xG h
   exact⟨by rw[seqIndex_of h0 h1,e],by omega,by omega,h1⟩
  ·rw[yQ h1] at h;cases h
 ·rw[yQ h0] at h
  by_cases h1:-(n:Int)<=i
  ·rw[yO h1] at h
   have e:(i+n).toNat=j:=xG h
   exact⟨by rw[seqIndex_neg (by omega) h1,e],by omega,h1,by omega⟩
  ·rw[yQ h1] at h;cases h
theorem sg(h:pY xs i=some v):∃j,seqIndex? i xs.length=some j/\xs[j]?=some v/\j < xs.length/\-(xs.length:Int)<=i/\i < xs.length:=by
 unfold pY at h
 cases e:wa xs.length i with
 | none=>rw[e] at h;cases h
 | some j =>
  rw[e] at h
  obtain⟨h1,h2,h3,h4⟩:=z6 e
  exact⟨j,h1,h,h2,h3,h4⟩
theorem sW{α:Type}{xs:List α}{j:Nat}{v:α}(h:xs[j]?=some v):pY xs (j:Int)=some v:=by
 have hj:j < xs.length:=(List.getElem?_eq_some_iff.mp h).1
 have e:wa xs.length (j:Int)=some j:=by
  unfold wa
  rw[yO (by omega),yO (by omega)];simp
 unfold pY;rw[e];exact h
def n8(b:Expr):Prop:=∀o i,subscripted b false o i=operate [o,i] (getItem o i)
def E9(X:Cx)(r:R2):Prop :=
 ∀ (value slice:Expr) (pins:List (Addr×Obj)) (s:Shared) (σ:St) (H:Hp) (x y:V) (v u:Value) (Q:VK),Inv X pins σ H s->RelV x v->RelV y u->r x y H Q ->
  subscripted slice false v u=operate [v,u] (getItem v u)->wpAny (model X.prog X.w) X.A (subscriptTail value slice v u) (EP X pins σ Q) X.xe s
def Nx(X:Cx)(id:String)(r:V->List V->Hp->VK->Prop):Prop :=
 ∀ (pins:List (Addr×Obj)) (s:Shared) (σ:St) (H:Hp) (x:V) (xs:List V) (v:Value) (us:List Value) (Q:VK),Inv X pins σ H s->RelV x v->aG xs us->r x xs H Q ->
  wpAny (model X.prog X.w) X.A (call (.builtin id) (v::us)) (EP X pins σ Q) X.xe s
section
theorem E9.or(h:E9 X r)(h':E9 X r'):E9 X (fun x y H Q=>r x y H Q\/r' x y H Q):=by
 intro value slice pins s σ H x y v u Q I rx ry q hs
 rcases q with q|q
 ·exact h value slice pins s σ H x y v u Q I rx ry q hs
 ·exact h' value slice pins s σ H x y v u Q I rx ry q hs
theorem HA(hr:E9 X r)(ha:PE X a ta)(hb:PE X b tb)(hs:n8 b):PE X (.Subscript a b pos) (KY r ta tb):=by
 intro pins s σ H Q I h
 exact Subscript_ (Kb ha hb I h fun v u s2 x y H2 I2 rx ry q=>hr a b pins s2 σ H2 x y v u Q I2 rx ry q (hs _ _))
def Lv(K:W.Frag):R2:=fun x y H Q=>∃p xs i v,x=.ref p/\y=.int i/\eK K H p xs/\pY xs i=some v/\Q v H
def KE(K:W.Frag):R2:=fun x y H Q=>∃p xs i v,x=.ref p/\y=.int i/\gw K H p xs/\pY xs i=some v/\Q v H
def KM:R2:=fun x y H Q=>∃z i c,x=.str z/\y=.int i/\z.length<=sizeLine/\pY z.cps.toList i=some c/\Q (.str ⟨#[c]⟩) H
theorem F4:E9 X (Lv X.K):=by
 intro value slice pins s σ H x y v u Q I rx ry h hs
 obtain⟨p,xs,i,z,rfl,rfl,hq,he,q⟩:=h
 cases rx
 obtain⟨t,rfl⟩:=ry
 obtain⟨its,r,pl,hz⟩:=I.list hq
 obtain⟨j,h1,h2,h3,h4,h5⟩:=sg he
 obtain⟨w,ew,rw'⟩:=r.get h2
 have hl:=r.length
 have hn:=o3
 have fin:EP X pins σ Q w s:=⟨z,H,I,rw',q⟩
 by_cases h0:0<=i
 ·have hj:i.toNat=j:=by
   rw[seqIndex_of h0 h5] at h1
   exact xG h1
  exact item_listR pl.isList h0 (by omega) (by rw[hj];simpa using ew) fin hs
 ·have hj:(i+(its.toArray.size:Int)).toNat=j:=by
   rw[seqIndex_neg (by omega) h4] at h1
   rw[zK,<- hl]
   exact xG h1
  exact subscriptTail_builtinR (x:=w) pl.isList.typeIs slot_list_getitem.lookup
   (wpAny_getItem_list_neg (Q:=fun r s'=>r=w/\EP X pins σ Q r s') pl.isList (by omega) (by rw[zK]<;>omega) (by omega) (by rw[hj];simpa using ew) ⟨rfl,fin⟩) hs
theorem pj:E9 X (KE X.K):=by
 intro value slice pins s σ H x y v u Q I rx ry h hs
 obtain⟨p,xs,i,z,rfl,rfl,hq,he,q⟩:=h
 cases rx
 obtain⟨t,rfl⟩:=ry
 obtain⟨its,r,pl,hz⟩:=I.tuple hq
 obtain⟨j,h1,h2,h3,h4,h5⟩:=sg he
 obtain⟨w,ew,rw'⟩:=r.get h2
 have hl:=r.length
 have hn:=o3
 have fin:EP X pins σ Q w s:=⟨z,H,I,rw',q⟩
 exact subscriptTail_builtinR (x:=w) pl.typeIs slot_tuple_getitem.lookup
  (getItem_tuple (j:=j) (Q:=fun r s'=>r=w/\EP X pins σ Q r s') pl (by omega) (by omega) (by rw[zK,<- hl];exact h1) (by simpa using ew) ⟨rfl,fin⟩) hs
theorem Jx:E9 X KM:=by
 intro value slice pins s σ H x y v u Q I rx ry h hs
 obtain⟨z,i,c,rfl,rfl,hz,he,q⟩:=h
 obtain⟨t,rfl⟩:=rx
 obtain⟨t',rfl⟩:=ry
 obtain⟨j,h1,h2,h3,h4,h5⟩:=sg he
 have hl:z.cps.toList.length=z.length:=by simp[Str.length]
 rw[hl] at h1 h4 h5
 have hn:=o3
 exact tail_any (typeIs_str s z t) slot_str_getitem.lookup (getItem_str (c:=c) (by
  have e1:decide (i < -(2 ^ 63:Int))=false:=yB (by omega)
  have e2:decide (i >= 2 ^ 63)=false:=yB (by omega)
  rw[e1,e2,Bool.or_false]) (by rw[h1];simpa using h2) ⟨.str ⟨#[c]⟩,H,I.tok _,⟨_,rfl⟩,q⟩) hs
def Nt(K:W.Frag):R2:=fun x y H Q=>Lv K x y H Q\/KE K x y H Q\/KM x y H Q
theorem EF:E9 X (Nt X.K):=F4.or (pj.or Jx)
theorem xc(its:List Value)(n j:Nat)(u:Value):Obj.mapSeq (·.setIfInBounds j u) { cls:=.type "list",data:=.seq its.toArray n }={ cls:=.type "list",data:=.seq (its.set j u).toArray n }:=by
 simp[Obj.mapSeq]
theorem Inv.lst(I:Inv X pins σ H s)(h:H p=some (.lst xs)) :
  ∃ (its:List Value) (n:Nat),aG xs its/\s.heap.get? p=some { cls:=.type "list",data:=.seq its.toArray n }/\xs.length<=sizeLine:=by
 obtain⟨z,its,n,r,e⟩:=I.hok p _ h
 exact⟨its,n,r,e,z⟩
theorem Inv.lstUpd{ys:List V}{its its':List Value}{n n':Nat}{f:Obj->Obj}(I:Inv X pins σ H s)(h:H p=some (.lst xs))
  (ho:s.heap.get? p=some { cls:=.type "list",data:=.seq its.toArray n }) (hf:f { cls:=.type "list",data:=.seq its.toArray n }={ cls:=.type "list",data:=.seq its'.toArray n' }) (r:aG ys its') (hz:ys.length<=sizeLine) (t:Nat) :
  Inv X pins σ (upd H p (.lst ys)) { s with heap:=s.heap.update p f,toks:=t }:=by
 have e:(s.heap.update p f).get? p=some { cls:=.type "list",data:=.seq its'.toArray n' }:=by
  rw[Heap.get?_update_self f ho (by rw[hf]<;>rfl),hf]
 refine I.write (x:=p) (e:=p) (by rw[h];trivial) (.inl rfl) (fun b u hb q=>(xQ _ _ (jP hb)).trans q) ⟨_,e⟩ ?_
 exact⟨hz,its',n',r,e⟩
def KU:V->V->V->Hp->(Hp->Prop)->Prop:=fun o i v H Q=>∃p xs k j,o=.ref p/\i=.int k/\H p=some (.lst xs)/\wa xs.length k=some j/\Q (upd H p (.lst (xs.set j v)))
theorem set_list:LB X KU:=by
 intro pins s σ H o i v ov iv u Q I ro ri rv h
 obtain⟨p,xs,k,j,rfl,rfl,hp,hj,q⟩:=h
 cases ro
 obtain⟨t,rfl⟩:=ri
 obtain⟨its,n,r,ho,hz⟩:=I.lst hp
 obtain⟨h1,h2,h3,h4⟩:=z6 hj
 have hl:=r.length
 have hn:=o3
 have I':Inv X pins σ (upd H p (.lst (xs.set j v))) { s with heap:=s.heap.update p (Obj.mapSeq (·.setIfInBounds j u)) } :=
  I.lstUpd hp ho (xc its n j u) (r.set rv j) (by rw[yE];exact hz) s.toks
 by_cases h0:0<=k
 ·have hk:k.toNat=j:=by
   rw[seqIndex_of h0 h4] at h1
   exact xG h1
  exact W.ki_setAt ho h0 (by omega) (by rw[zK,<- hl];exact h4) (by rw[hk];exact⟨_,I',q⟩)
 ·have hk:(k+(its.toArray.size:Int)).toNat=j:=by
   rw[seqIndex_neg (by omega) h3] at h1
   rw[zK,<- hl]
   exact xG h1
  exact W.ki_setBack ho (by omega) (by rw[zK,<- hl];exact h3) (by omega) (by rw[hk];exact⟨_,I',q⟩)
theorem sx:dy X (.builtin "len") (fun xs H Q=>∃p ys,xs=[.ref p]/\(eK X.K H p ys\/gw X.K H p ys)/\Q (.int ys.length) H):=by
 intro pins s σ H xs us Q I r h
 obtain⟨p,ys,rfl,hq,q⟩:=h
 obtain⟨u,rfl,rx⟩:=vals1 r
 cases rx
 have hn:=o3
 rcases hq with hq|hq
 ·obtain⟨its,r',pl,hz⟩:=I.list hq
  have hlen:=r'.length
  exact Calls.call_len_list pl.isList (by simp only[zK]<;>omega) ⟨.int ys.length,H,I.tok _,⟨s.toks+1,by rw[zK,hlen]⟩,q⟩
 ·obtain⟨its,r',pl,hz⟩:=I.tuple hq
  have hlen:=r'.length
  exact len_tuple pl (by simp only[zK]<;>omega) ⟨.int ys.length,H,I.tok _,⟨s.toks+1,by rw[zK,hlen]⟩,q⟩
theorem tN:dy X (.type "list") (fun xs H Q=>∃p ys,xs=[.ref p]/\(eK X.K H p ys\/gw X.K H p ys)/\∀l,H l=none->Q (.ref l) (upd H l (.lst ys))):=by
 intro pins s σ H xs us Q I r h
 obtain⟨p,ys,rfl,hq,q⟩:=h
 obtain⟨u,rfl,rx⟩:=vals1 r
 cases rx
 have fin:∀ (its:List Value),aG ys its->ys.length<=sizeLine->∀ (h':Heap) (c':Nat),(∀b o',s.heap.get? b=some o'->h'.get? b=some o') ->
   h'.get? s.heap.objs.size=some { cls:=.type "list",dict:=none,data:=.seq its.toArray c',slots:=#[] }->EP X pins σ Q (.ref s.heap.objs.size) { s with heap:=h' }:=fun its r' hz h' c' kp e =>
  ⟨.ref s.heap.objs.size,_,I.laid (t':=s.toks) kp (yP _) (show ef X.prog X.w _ h' _ (.lst ys) from ⟨hz,its,c',r',e⟩),rfl,q _ (I.hok.fresh (yP _))⟩
 rcases hq with hq|hq
 ·obtain⟨its,r',pl,hz⟩:=I.list hq
  have hlen:=r'.length
  obtain⟨o,ho,hc,n,hd⟩:=pl.isList
  exact call_list_seq p (.inl rfl) ho hc hd (fun h' c' kp e=>fin its r' hz h' c' kp e) (by simp only[zK]<;>omega)
 ·obtain⟨its,r',pl,hz⟩:=I.tuple hq
  have hlen:=r'.length
  obtain⟨o,ho,hc,n,hd⟩:=pl
  exact call_list_seq p (.inr rfl) ho hc hd (fun h' c' kp e=>fin its r' hz h' c' kp e) (by simp only[zK]<;>omega)
theorem qc:dy X (.type "tuple") (fun xs H Q=>∃p ys,xs=[.ref p]/\((eK X.K H p ys/\∀l,H l=none->Q (.ref l) (upd H l (.tup ys)))\/(gw X.K H p ys/\Q (.ref p) H))):=by
 intro pins s σ H xs us Q I r h
 obtain⟨p,ys,rfl,h⟩:=h
 obtain⟨u,rfl,rx⟩:=vals1 r
 cases rx
 rcases h with ⟨hq,q⟩|⟨hq,q⟩
 ·obtain⟨its,r',pl,hz⟩:=I.list hq
  have hlen:=r'.length
  refine call_tuple_list pl.isList (fun h' kp=>?_) (by simp only[zK]<;>omega)
  have I1:Inv X pins σ H { s with heap:=h' }:=I.kept (t':=s.toks) kp
  have I2:Inv X pins σ (upd H h'.objs.size (.tup ys)) { s with heap:=h'.push { cls:=.type "tuple",data:=.seq its.toArray } } :=
   I1.laid (t':=s.toks) (fun b o e=>zW _ e) (yP _) (show ef X.prog X.w _ _ _ (.tup ys) from ⟨hz,its,r',oD.new _ _⟩)
  exact⟨.ref h'.objs.size,_,I2,rfl,q _ (I1.hok.fresh (yP _))⟩
 ·obtain⟨its,r',pl,hz⟩:=I.tuple hq
  exact call_tuple_same pl ⟨.ref p,H,I,rfl,q⟩
def Nw(K:W.Frag)(T:String)(x:V)(H:Hp):Prop:=match x with
 | .str _=>T="str"
 | .int _=>T="int"
 | .ref p=>(T="list"/\∃xs,eK K H p xs)\/(T="tuple"/\∃xs,gw K H p xs) \/
   (T="dict"/\((∃kvs,H p=some (.dK kvs))\/∃kvs,H p=some (.dT kvs)))\/(T="set"/\∃S n,H p=some (.set S n))
 | _=>False
theorem I0(I:Inv X pins σ H s)(r:RelV x v)(ty:Nw X.K T x H) :
  s.TypeIs v T/\∀a,v=.ref a->∃ob,s.heap.get? a=some ob/\ob.dict=none:=by
 cases x with
 | str z =>
  obtain⟨t,rfl⟩:=r
  cases (show T="str" from ty)
  exact⟨typeIs_str s z t,fun _ e=>nomatch e⟩
 | int i =>
  obtain⟨t,rfl⟩:=r
  cases (show T="int" from ty)
  exact⟨wG s i t,fun _ e=>nomatch e⟩
 | ref p =>
  cases r
  rcases ty with ⟨rfl,xs,hq⟩|⟨rfl,xs,hq⟩|⟨rfl,hk⟩|⟨rfl,S,n,hk⟩
  ·obtain⟨its,_,pl,_⟩:=I.list hq
   refine⟨pl.isList.typeIs,fun a e=>?_⟩
   cases e
   obtain⟨o,n,e,c,hd,_⟩:=pl
   exact⟨o,e,hd⟩
  ·rcases hq with hq|⟨o,its,n,hk,hc,hd,_⟩
   ·obtain⟨_,_,_,⟨o,e1,e2,_⟩,o2,e3,e4⟩:=hq.ok I.hok
    exact⟨⟨o,e1,e2⟩,fun a e=>by cases e;exact⟨o2,e3,e4⟩⟩
   ·exact⟨⟨o,I.kIn p o hk,hc⟩,fun a e=>by cases e;exact⟨o,I.kIn _ o hk,hd⟩⟩
  ·have z:∃o,s.heap.get? p=some o/\o.ExactDict:=by
    rcases hk with ⟨kvs,hk⟩|⟨kvs,hk⟩
    ·obtain⟨_,_,_,_,o,_,_,e,ex,_⟩:=I.hok p _ hk
     exact⟨o,e,ex⟩
    ·obtain⟨_,_,_,_,o,_,_,e,ex,_⟩:=I.hok p _ hk
     exact⟨o,e,ex⟩
   obtain⟨o,e,ex⟩:=z
   refine⟨⟨o,e,ex.1⟩,fun a e2=>?_⟩
   cases e2
   exact⟨o,e,ex.2.1⟩
  ·obtain⟨o,_,_,_,e,ex,_⟩:=I.hok p _ hk
   refine⟨⟨o,e,ex.1⟩,fun a e2=>?_⟩
   cases e2
   exact⟨o,e,ex.2.1⟩
 | _=>exact False.elim ty
def NH(K:W.Frag)(T:String)(r:V->List V->Hp->VK->Prop)(to:TE)(t:TA):TE:=fun σ H Q=>to σ H fun x H1=>Nw K T x H1/\t σ H1 fun xs H2=>r x xs H2 Q
variable {T id:String}
theorem u9(pa:PlainAttrs T)(slot:Slot T name id)(hty:typeOf (.builtin id)=pure (.type "method_descriptor"))(hm:Nx X id r)(ho:PE X o to)(ha:PA X (e::es) t)
  (hbase:attributeBase o name X.env (eval o X.env)=eval o X.env:=by rfl)
  (hfew:((backTo cpos (starEach (e::es) X.env)).all (fun x=>!x.1)&&(backToKw cpos (keywordEach [] X.env)).all (fun x=>x.1.isSome)
   &&decide ((e::es).length+([]:List Keyword).length+(if ([]:List Keyword).isEmpty then 0 else 1) < 30))=true:=by rfl)
  (hline:(apos.endLine == cpos.line)=true:=by rfl) (hs:starEach (e::es) X.env=(false,eval e X.env)::starEach es X.env:=by rfl) (hplain:(backTo cpos (starEach es X.env)).any (·.1)=false:=by rfl) :
  PE X (.Call (.Attribute o name apos) (e::es) [] cpos) (NH X.K T r to t):=by
 intro pins s σ H Q I h
 refine wpAny_Call_method_late hbase hfew hline rfl (bZ (ho pins s σ H _ I h) fun v s1 ⟨x,H1,I1,r1,ty,q1⟩=>?_)
 obtain⟨h1,h2⟩:=I0 I1 r1 ty
 refine⟨T,id,pa,slot,hty,h1,h2,?_⟩
 have hA:=ha cpos pins s1 σ H1 _ I1 q1
 rw[hs] at hA ⊢
 refine Calls.callWith_builtin (by show (false||(backTo cpos (starEach es X.env)).any (·.1))=false;rw[hplain]<;>rfl) (Calls.evalArgs_plain ?_)
 exact bZ hA fun us s2 ⟨vs,H2,I2,r2,q2⟩=>hm pins s2 σ H2 x vs v us Q I2 r1 r2 q2
/- xs.append(e),list.index on a module's tuple .. are Nx facts of 06m -/
end
def LW(X:Cx)(id:String)(r:V->List V->Hp->VK->Prop):Prop :=
 ∀ (pins:List (Addr×Obj)) (s:Shared) (σ:St) (H:Hp) (x:V) (xs:List V) (v:Value) (us:List Value) (Q:VK),Inv X pins σ H s->RelV x v->aG xs us->r x xs H Q ->
  wpAny (model X.prog X.w) X.A (call (.builtin id) (v::us)) (EP X pins σ Q) X.xe s
theorem aG.one:∀ {x:V}{us:List Value},aG [x] us->∃u,us=[u]/\RelV x u
 | _,_,.cons r .nil=>⟨_,rfl,r⟩
theorem aG.two:∀ {x y:V}{us:List Value},aG [x,y] us->∃u v,us=[u,v]/\RelV x u/\RelV y v
 | _,_,_,.cons r (.cons q .nil)=>⟨_,_,rfl,r,q⟩
theorem aG.rep(h:aG xs us):∀k:Nat,aG (List.replicate k xs).flatten (List.replicate k us).flatten
 | 0=>.nil
 | k+1=>by
  rw[xH,xH,qQ,qQ]
  exact aG.append h (aG.rep h k)
theorem foldl_rep(its:List Value):∀ (k:Nat) (acc:List Value),
  List.foldl (fun x1 x2=>x1++x2) acc.toArray (List.replicate k its.toArray)=(acc++(List.replicate k its).flatten).toArray
 | 0,acc=>by simp
 | k+1,acc=>by
  have e:acc.toArray++its.toArray=(acc++its).toArray:=by simp
  have e2:(acc++its)++(List.replicate k its).flatten=acc++(List.replicate (k+1) its).flatten:=by
   rw[xH,qQ,List.append_assoc]
  rw[<- e2,<- foldl_rep its k (acc++its),<- e,xH,yL]
section
variable {xs ys zs:List V}
theorem Inv.lset{its its':List Value}{n:Nat}{f:Array Value->Array Value}{t':Nat}(I:Inv X pins σ H s)(hH:H l=some (.lst xs))
  (e:s.heap.get? l=some { cls:=.type "list",data:=.seq its.toArray n }) (hf:f its.toArray=its'.toArray) (hv:aG ys its') (hz:ys.length<=sizeLine) :
  Inv X pins σ (upd H l (.lst ys)) { s with heap:=s.heap.update l (Obj.mapSeq f),toks:=t' }:=by
 have q:=PySem.IsL.update e f
 rw[hf] at q
 refine I.write (x:=l) (e:=l) (by rw[hH];exact trivial) (.inl rfl) (fun b' u hb hu=>(xQ s.heap (Obj.mapSeq f) (jP hb)).trans hu) ⟨_,q⟩ ?_
 exact⟨hz,its',_,hv,q⟩
theorem Inv.lnew{t':Nat}(I:Inv X pins σ H s)(hv:aG ys its)(hz:ys.length<=sizeLine) :
  Inv X pins σ (upd H s.heap.objs.size (.lst ys)) { s with heap:=s.heap.push { cls:=.type "list",data:=.seq its.toArray },toks:=t' } :=
 I.laid (fun _ _ q=>zW _ q) (yP _) ⟨hz,its,0,hv,zZ _ rfl⟩
theorem Inv.fresh(I:Inv X pins σ H s):H s.heap.objs.size=none:=I.hok.fresh (yP _)
theorem Inv.lstM(I:Inv X pins σ H s)(hH:H l=some (.lst xs)):xs.length<=sizeLine/\∃ (its:List Value) (n:Nat),aG xs its/\xs.length=its.length/\s.heap.get? l=some { cls:=.type "list",data:=.seq its.toArray n }:=by
 obtain⟨z,its,n,r,e⟩:=I.hok l _ hH
 exact⟨z,its,n,r,r.length,e⟩
theorem u3(h:n<=sizeLine):Builtin.List.listTooLong n=false:=by
 unfold Builtin.List.listTooLong
 exact yB (by omega)
end
section
def Gj:V->List V->Hp->VK->Prop:=fun x vs H Q=>∃l xs y,x=.ref l/\vs=[y]/\H l=some (.lst xs)/\xs.length < sizeLine/\Q .non (upd H l (.lst (xs++[y])))
theorem rC:LW X "list.append" Gj:=by
 intro pins s σ H x vs v us Q I rx rv h
 obtain⟨l,xs,y,rfl,rfl,hH,hz,q⟩:=h
 cases rx
 obtain⟨u,rfl,ru⟩:=rv.one
 obtain⟨z,its,n,r,hl,e⟩:=I.lstM hH
 refine jA F.slot_list_append ⟨_,e,rfl⟩ F.entry_list_append (F.args_list_append_2 _ _) (PySem.list_append l its.toArray n u (by rw[zK];omega)) ⟨e,?_⟩
 refine⟨.non,_,I.lset (its':=its++[u]) hH e (by simp) (r.append (.cons ru .nil)) ?_,rfl,q⟩
 rw[zQ,xF]
 omega
def Hh:V->List V->Hp->VK->Prop:=fun x vs H Q=>∃l b xs zs,x=.ref l/\vs=[.ref b]/\H l=some (.lst xs)/\H b=some (.lst zs)/\xs.length+zs.length<=sizeLine/\Q .non (upd H l (.lst (xs++zs)))
theorem Bt:LW X "list.extend" Hh:=by
 intro pins s σ H x vs v us Q I rx rv h
 obtain⟨l,b,xs,zs,rfl,rfl,hH,hB,hz,q⟩:=h
 cases rx
 obtain⟨u,rfl,ru⟩:=rv.one
 cases ru
 obtain⟨z,its,n,r,hl,e⟩:=I.lstM hH
 obtain⟨z2,its2,n2,r2,hl2,e2⟩:=I.lstM hB
 have hsz:its.toArray.size+its2.toArray.size<=sizeLine:=by rw[zK,zK];omega
 have hlong:¬ (!its.toArray.isEmpty&&Builtin.List.listTooLong (its.toArray.size+its2.toArray.size))=true:=by
  rw[u3 hsz,Bool.and_false]
  exact xC
 refine jA F.slot_list_extend ⟨_,e,rfl⟩ F.entry_list_extend (F.args_list_extend_2 _ _)
  (AutoSeq1.list_extend_list_list_0 l its.toArray n b its2.toArray n2 hlong (by rw[zK];omega) (by omega)) ⟨e,e2,?_⟩
 refine⟨.non,_,I.lset (its':=its++its2) hH e (by simp) (r.append r2) ?_,rfl,q⟩
 rw[zQ]
 omega
def My:R2:=fun x y H Q=>∃l k xs,x=.ref l/\y=.int k/\H l=some (.lst xs)/\-(2 ^ 63)<=k/\k < 2 ^ 63/\xs.length * k.toNat<=sizeLine /\
 ∀p,H p=none->Q (.ref p) (upd H p (.lst (List.replicate k.toNat xs).flatten))
theorem len_rep(xs:List α)(k:Nat):(List.replicate k xs).flatten.length=k * xs.length:=by
 induction k with
 | zero=>simp
 | succ k ih=>rw[xH,qQ,zQ,ih,Nat.succ_mul,Nat.add_comm]
theorem IQ:il X (binaryOp .Mult) My:=by
 intro pins s σ H x y v u Q I rx ry h
 obtain⟨l,k,xs,rfl,rfl,hH,h1,h2,hz,q⟩:=h
 cases rx
 obtain⟨t,rfl⟩:=ry
 obtain⟨z,its,n,r,hl,e⟩:=I.lstM hH
 have hlen:its.toArray.size * k.toNat<=sizeLine:=by rw[zK,<- hl];exact hz
 have hcap:¬ its.toArray.size * k.toNat > (2 ^ 63 - 1) / 8:=by
  have:(sizeLine:Nat)<=(2 ^ 63 - 1) / 8:=by decide
  omega
 have hfit:¬ (!Builtin.List.listFitsIndex k)=true:=by
  rw[fitsIndex_both h1 h2]
  exact xC
 have hlong:¬ Builtin.List.listTooLong (its.toArray.size * k.toNat)=true:=by
  rw[u3 hlen]
  exact xC
 have hnew:List.foldl (fun x1 x2=>x1++x2) #[] (List.replicate (if its.toArray.isEmpty=true then 0 else k.toNat) its.toArray)=(List.replicate k.toNat its).flatten.toArray:=by
  have f0:∀m:Nat,List.foldl (fun x1 x2=>x1++x2) #[] (List.replicate m its.toArray)=(List.replicate m its).flatten.toArray:=fun m=>by
   have:=foldl_rep its m []
   rw[xR] at this
   exact this
  rw[f0]
  cases its with
  | nil=>simp
  | cons a r'=>rw[yQ (by simp)]
 refine wpAny_binaryOp_repeat_ref (T:="list") (U:="int") (by decide) ⟨_,e,rfl⟩ (fun s'=>wG s' k t) noFill_list_mul F.fills_int_mul vV repeat_list F.slot_int_index.lookup
  (jA vV (wG s k t) F.entry_int_rmul (F.args_int_rmul_2 _ _) (int___rmul___int_list k t l its.toArray n)
   ⟨e,rfl,⟨_,e,rfl⟩,jA F.slot_list_mul ⟨_,e,rfl⟩ F.entry_list_mul (F.args_list_mul_2 _ _) (AutoListH.list___mul___list_int_3 l its.toArray n k t hfit hcap hlong) ⟨e,?_⟩⟩)
 rw[hnew]
 exact⟨.ref _,_,I.lnew (t':=s.toks) (r.rep k.toNat) (by rw[len_rep,Nat.mul_comm];exact hz),rfl,q _ I.fresh⟩
end
section
end
section
end
end L2
namespace Att
open PySem PySem.W PySem.Calls PyProof.Rows
theorem ints_of_wellAll:∀ (ns:List Int) (vs:List Value),WellAll P h vs (ns.map WData.int)->IntsAre vs ns:=by
 intro ns
 induction ns with
 | nil =>
  intro vs w
  rw[yX] at w
  cases w
  exact .nil
 | cons n ns ih =>
  intro vs w
  rw[zL] at w
  cases w with
  | cons a b =>
   cases a
   exact .cons _ _ (ih _ b)
theorem script_of{l:OpenLaw}{n:Nat}(hn:l.most=some n){P:Params}{h:Heap}{args:List WData}{vals:List Value}
  (hpre:l.row.toRowW.claim.pre args=true) (hwl:WellAll P h vals args) :
  ∃a vs ns,vals=[Value.ref a]/\args=[WData.list (ns.map WData.int)]/\h.get? a=some { cls:=.type "list",data:=.seq vs.toArray }/\IntsAre vs ns/\ns.length<=n:=by
 have hsh:WShape.hasAll [] args [.list .int]=true:=(pre_splitW hpre).1
 have hc:l.pre.holds [] { args:=args }=true:=(pre_splitW hpre).2
 obtain⟨d,r,rfl,h1,h2⟩:=hasAllW_cons hsh
 obtain rfl:=hasAllW_nil h2
 obtain⟨xs,rfl,h3⟩:=hasW_list h1
 obtain⟨ns,rfl⟩:=items_int h3
 have hlen:ns.length<=n:=by
  unfold OpenLaw.pre at hc
  have h4:(WTm.not (.lt (.lit (.int (n:Int))) (.len (.arg 0)))).holds [] { args:=[.list (ns.map .int)] }=true:=by
   have h4:=(holds_andW hc).1
   rw[hn] at h4
   exact h4
  have h5:=condW_of h4 (w_not (w_lt w_lit (w_len_list (w_arg rfl))))
  rw[zF] at h5
  refine Nat.le_of_not_lt fun q=>?_
  have q':(n:Int) < ((ns.length:Nat):Int):=by omega
  first
   | (rw[yC q'] at h5;exact absurd h5 (by decide))
   | (simp at h5;omega)
 cases hwl with
 | cons w1 w2 =>
  cases w2
  cases w1 with
  | list ho hall=>exact⟨_,_,ns,rfl,rfl,ho,ints_of_wellAll ns _ hall,hlen⟩
theorem post_true(l:OpenLaw)(args:List WData):l.row.toRowW.claim.post args (.bool true) args=true :=
 postW_of (r:=l.row.toRowW) (X:=(true == true))
  (show WShape.has [] (.bool true) .bool=true by first|rfl|decide|simp[WShape.has,WShape.arms,WShape.armsAll])
  (show (WTm.eq .res (.lit (.bool true))).value [] { args:=args,res:=some (.bool true),after:=args }=some (.bool (true == true)) from w_eq_bool (w_res rfl) w_lit) rfl
theorem attach_call{l:OpenLaw}{n:Nat}{q:Program}{loose:List Str}{XP:(Str->Option Value)->Heap->Prop}{YP:World->Heap->Prop}{d:DefRec}
  (hn:l.most=some n) (hdf:d.params.defaults=[])
  (call:∀ (w:World) (s₀ s₁:Shared) (mg mb:Str->Option Value) (fa:Addr) (o:Obj) (pm cd doc:Value) (a:Addr) (vs:List Value) (ns:List Int),
   Ground q loose [] XP w s₀ mg mb s₁.heap->YP w s₁.heap ->
   s₁.heap.get? fa=some o->o.data=.func (docDef d.name d.params d.body d.scope pm cd doc)->s₁.heap.CodeRec cd d.name->mg d.name=some (.ref fa) ->
   s₁.heap.get? a=some { cls:=.type "list",data:=.seq vs.toArray }->IntsAre vs ns->ns.length<=n->s₁.gens=#[] ->
   codeAny (model l.prog w) callerA (.call (.ref fa) ⟨[.ref a],[]⟩) (fun r s'=>r=.ok (.ret (.bool true))/\OldK s₁.heap s'.heap/\s'.os=s₁.os/\AllBare s'.gens) s₁) :
  WalkO q loose XP YP l.row.toRowW d [] (fun f vs=>PySem.call f vs):=by
 intro w s₀ s₁ mg mb G Y fa o pm cd doc dV kV ho hd hcd hD hmg hg args vals as hpre hlay hrd hwl hlo
 obtain rfl:dV=.none:=Dflts.none hD hdf
 obtain rfl:kV=.none:=Dflts.noKw hD
 obtain⟨a,vs,ns,rfl,rfl,hobj,hints,hlen⟩:=script_of hn hpre hwl
 refine enter_call (jU (call w s₀ s₁ mg mb fa o pm cd doc a vs ns G Y ho (fd_plain hd) hcd hmg hobj hints hlen hg) fun r s' hq=>?_)
 obtain⟨rfl,h2,h3,h4⟩:=hq
 exact⟨.inl ⟨.bool true,.bool true,[],rfl,fun _=>rfl,.bool true,post_true l _,fun _=>⟨List.Pairwise.nil,fun _ hm=>(nomatch hm)⟩⟩,h2,h3,h4⟩
section
variable {K:Frag}
end
end Att
namespace L2
open PySem PySem.Spec PyProof.Rows
theorem qf:∀ {vs:List Value}{ns:List Int},IntsAre vs ns->aG (ns.map V.int) vs
 | _,_,.nil=>.nil
 | _,_,.cons n t h=>.cons ⟨t,rfl⟩ (qf h)
abbrev Ky:Hs:=fun _ _ _ _ _ _=>False
abbrev E0:XK:=fun _ _ _=>False
theorem Lk:yc Ky X E0:=fun _ _ _ _ _ _ _ h=>h.elim
structure FN(K:W.Frag)(x qual:Str)(st:Stmt)(f:Addr)(fd:FuncData):Prop where
 ex:∃ (oc:Value) (od:Option Addr) (kV doc pm:Value) (an:Option Addr) (cdv ct:Value) (osl:Array (Option Value)),
  fd=W.fnOf x qual (fP st) (bY st) (aI st) .none kV doc pm an cdv ct/\K.lookup f=some ⟨oc,od,.func fd,osl⟩/\W.codeIn K cdv qual=true
 kp:W.keepIn K (.ref f)=true
section
variable {K:W.Frag}
theorem FN.binds{st:Stmt}(F:FN K x qual st f fd)
  (h:∀ (kV doc pm:Value) (an:Option Addr) (cdv ct:Value) (us:List Value),us.length=ps.length->bindArgs (W.fnOf x qual (fP st) (bY st) (aI st) .none kV doc pm an cdv ct) ⟨us,[]⟩=pure (ps.zip us)):Binds K fd ps []:=by
 obtain⟨oc,od,kV,doc,pm,an,cdv,ct,osl,rfl,lk,hcd⟩:=F.ex
 exact .all (h kV doc pm an cdv ct)
theorem sZ{st:Stmt}{kV:Value}(l:K.lookup f=some ⟨oc,od,.func (W.fnOf x qual (fP st) (bY st) (aI st) .none kV doc pm an cdv ct),osl⟩)
  (c:W.codeIn K cdv qual=true) (k:W.keepIn K (.ref f)=true):FN K x qual st f (W.fnOf x qual (fP st) (bY st) (aI st) .none kV doc pm an cdv ct):=⟨⟨oc,od,kV,doc,pm,an,cdv,ct,osl,rfl,l,c⟩,k⟩
end
section
end
theorem uo{A B:Prop}(h:B):if false=true then A else B:=by
 rw[yQ xC]
 exact h
theorem uR{A B:Prop}(h:A):if true=true then A else B:=by
 rw[yO rfl]
 exact h
def aP(H H':Hp):Prop:=∀b o,H b=some o->H' b=some o
theorem aP.refl(H:Hp):aP H H:=fun _ _ h=>h
theorem aP.trans(a:aP H H1)(b:aP H1 H2):aP H H2:=fun c o h=>b c o (a c o h)
theorem aP.free(e:aP H H')(h:H' l=Option.none):H l=Option.none:=by
 cases q:H l with
 | none=>rfl
 | some o =>
  rw[e l o q] at h
  cases h
theorem aP.seq{K:W.Frag}(e:aP H H')(h:eK K H a xs):eK K H' a xs:=by
 rcases h with (h|⟨o,h⟩)|h
 ·exact .inl (.inl (e _ _ h))
 ·exact .inl (.inr ⟨o,e _ _ h⟩)
 ·exact .inr h
theorem bH:∀ (names:List (Str×NameKind)) (n:Nat) (acc:List (Str×Addr)),cellsFrom n names acc=cellsFrom n names []++acc
 | [],_,_=>rfl
 | (name,kind)::r,n,acc=>by
  unfold cellsFrom
  split
  ·rw[bH r (n+1) ((name,n)::acc),bH r (n+1) [(name,n)]]
   simp
  ·exact bH r n acc
theorem iC:∀ {l m:List (Str×α)},(l++m).lookup x=some c->l.lookup x=some c\/(l.lookup x=none/\m.lookup x=some c)
 | [],_,h=>.inr ⟨rfl,h⟩
 | (k,v)::r,m,h=>by
  have ih:=@iC α x c r m
  rw[xI,yD] at h
  rw[yD]
  cases e:x == k with
  | true=>rw[e] at h;exact .inl h
  | false=>rw[e] at h;exact ih h
theorem iE:∀ {l m:List (Str×α)},l.lookup x=some c->(l++m).lookup x=some c
 | [],_,h=>by cases h
 | (k,v)::r,m,h=>by
  have ih:=@iE α x c r m
  rw[yD] at h
  rw[xI,yD]
  cases e:x == k with
  | true=>rw[e] at h;exact h
  | false=>rw[e] at h;exact ih h
theorem gH:∀ {l m:List (Str×α)},l.lookup x=none->(l++m).lookup x=m.lookup x
 | [],_,_=>rfl
 | (k,v)::r,m,h=>by
  have ih:=@gH α x r m
  rw[yD] at h
  rw[xI,yD]
  cases e:x == k with
  | true=>rw[e] at h;cases h
  | false=>rw[e] at h;exact ih h
theorem fx:∀ (names:List (Str×NameKind)) (n:Nat) (x:Str) (c:Addr),(x,c)∈cellsFrom n names []->(x,NameKind.cell)∈names
 | [],_,_,_,h=>by cases h
 | (name,kind)::r,n,x,c,h=>by
  unfold cellsFrom at h
  split at h
  ·rename_i hk
   rw[bH] at h
   rcases List.mem_append.mp h with h|h
   ·exact zE _ (fx r _ x c h)
   ·have:(x,c)=(name,n):=by simpa using h
    cases this
    have:kind=.cell:=by simpa using hk
    subst this
    exact zH
  ·exact zE _ (fx r n x c h)
def dC(env:Env):List (Str×NameKind)->List (Str×Addr)->List (Str×Addr)
 | [],acc=>acc
 | (n,k)::r,acc=>if k == .free then dC env r ((n,(env.cells.lookup n).getD 0)::acc) else dC env r acc
theorem k3(env:Env):∀ (names:List (Str×NameKind)) (acc:List (Str×Addr)),(∀x∈names,x.2=.free->∃c,env.cells.lookup x.1=some c) ->
  (forIn names acc (fun (p:Str×NameKind) (cs:List (Str×Addr))=>(if p.2 == .free then (do let a <- cellOf env p.1;pure (.yield ((p.1,a)::cs))) else pure (.yield cs):Sem (ForInStep (List (Str×Addr))))))=pure (dC env names acc)
 | [],acc,_=>rfl
 | (n,k)::r,acc,h=>by
  rw[List.forIn_cons]
  have hr:=fun x hx=>h x (zE _ hx)
  unfold dC
  by_cases hk:k=.free
  ·obtain⟨c,hc⟩:=h (n,k) zH hk
   subst hk
   have e1:cellOf env n=pure c:=by
    have hc':env.cells.lookup n=some c:=hc
    unfold cellOf;rw[hc']
   have hc':env.cells.lookup n=some c:=hc
   simp only[beq_self_eq_true,xK,e1,pure_bind,hc',qK]
   exact k3 env r _ hr
  ·have hb:(k == NameKind.free)=false:=by simpa using hk
   simp only[hb,yR,qT,pure_bind]
   exact k3 env r _ hr
theorem lg{env:Env}(h:∀x∈scope.names,x.2=.free->∃c,env.cells.lookup x.1=some c):closureFor scope env=pure (dC env scope.names []):=by
 have:=k3 env scope.names [] h
 unfold closureFor
 exact (bind_pure _).trans this
theorem jn{env:Env}:∀ {names:List (Str×NameKind)}{acc:List (Str×Addr)},(∀x∈names,x.2=.free->∃c,env.cells.lookup x.1=some c)->(∀x c,(x,c)∈acc->env.cells.lookup x=some c) ->
  ∀x c,(x,c)∈dC env names acc->env.cells.lookup x=some c
 | [],acc,_,ha,x,c,hm=>ha x c hm
 | (n,k)::r,acc,h,ha,x,c,hm=>by
  unfold dC at hm
  have hr:=fun x hx=>h x (zE _ hx)
  split at hm
  ·rename_i hk
   have hk':k=.free:=by simpa using hk
   obtain⟨c',hc⟩:=h (n,k) zH hk'
   have hc:env.cells.lookup n=some c':=hc
   refine jn hr (fun y d hy=>?_) x c hm
   rcases List.mem_cons.mp hy with e|hy
   ·cases e;rw[hc];rfl
   ·exact ha y d hy
  ·exact jn hr ha x c hm
theorem eW{env:Env}:∀ {names:List (Str×NameKind)}{acc:List (Str×Addr)}{x:Str},(names.lookup x=some .free\/∃c,acc.lookup x=some c)->∃c,(dC env names acc).lookup x=some c
 | [],acc,x,h=>by
  rcases h with h|h
  ·cases h
  ·exact h
 | (n,k)::r,acc,x,h=>by
  unfold dC
  split
  ·rename_i hk
   refine eW ?_
   rcases h with h|⟨c,h⟩
   ·rw[yD] at h
    cases e:x == n with
    | true=>exact .inr ⟨_,by rw[yD,e]⟩
    | false=>rw[e] at h;exact .inl h
   ·refine .inr ?_
    rw[yD]
    cases e:x == n with
    | true=>exact⟨_,rfl⟩
    | false=>exact⟨c,h⟩
  ·rename_i hk
   refine eW ?_
   rcases h with h|h
   ·rw[yD] at h
    cases e:x == n with
    | true =>
     rw[e] at h
     cases h
     exact absurd rfl hk
    | false=>rw[e] at h;exact .inl h
   ·exact .inr h
theorem lY{env:Env}:∀ {names:List (Str×NameKind)}{x:Str}{k:NameKind},names.lookup x=some k ->
  (names.map fun (n,k)=>if (k == NameKind.free&&env.scope.kind == .function&&env.kindOf n == some .cell) then (n,NameKind.cell) else (n,k)).lookup x=some (if (k == NameKind.free&&env.scope.kind == .function&&env.kindOf x == some .cell) then NameKind.cell else k)
 | [],_,_,h=>by cases h
 | (n,k)::r,x,k',h=>by
  have ih:=@lY env r x k'
  rw[zL]
  dsimp only
  cases hx:x == n with
  | true =>
   have e:x=n:=by simpa using hx
   subst e
   rw[yD,hx] at h
   cases h
   split<;>simp[yD, *]
  | false =>
   rw[yD,hx] at h
   have ih:=ih h
   split
   ·rw[yD,hx];exact ih
   ·rw[yD,hx];exact ih
theorem nK{env:Env}:∀ {names:List (Str×NameKind)}{x:Str},names.lookup x=none ->
  (names.map fun (n,k)=>if (k == NameKind.free&&env.scope.kind == .function&&env.kindOf n == some .cell) then (n,NameKind.cell) else (n,k)).lookup x=none
 | [],_,h=>rfl
 | (n,k)::r,x,h=>by
  have ih:=@nK env r x
  rw[zL]
  dsimp only
  cases hx:x == n with
  | true=>rw[yD,hx] at h;cases h
  | false =>
   rw[yD,hx] at h
   split
   ·rw[yD,hx];exact ih h
   ·rw[yD,hx];exact ih h
def eA(X:Cx)(scope:Scope)(C:Addr):Env :=
 { scope:=relabel scope X.env,locals:=C,globals:=X.env.globals,cells:=cellsFrom (C+1) scope.names (dC X.env scope.names []),qual:=X.env.qual,func:=none,code:=X.env.code,frame:=X.env.frame,builtins:=X.env.builtins }
def aV(X:Cx)(scope:Scope)(N:List Str)(fp:List Addr)(s:Shared)(H:Hp):Cx :=
 { X with N:=N,s₀:=s,H₀:=H,env:=eA X scope s.heap.objs.size,outer:=X.stack,ex:=fp,fn:=fun x=>decide (scope.names.lookup x=some .cell),pn:=[],xe:=fun _ _=>False }
theorem xu{M:Model}{A:Around}{E:Value->Shared->Prop}{globals:Addr}{cl:List (Str×Addr)}{qual:Str}{env:Env}
  (hQ:∀h',h'.Ns s.heap.objs.size (fun _=>none)->(∀b o,s.heap.get? b=some o->h'.get? b=some o)->CellsOk h' (s.heap.objs.size+1) (cellsFrom (s.heap.objs.size+1) scope.names []) ->
   Q { scope:=scope,locals:=s.heap.objs.size,globals:=globals,cells:=cellsFrom (s.heap.objs.size+1) scope.names cl,qual:=qual,func:=none,code:=env.code,frame:=env.frame,builtins:=env.builtins } { s with heap:=h' }) :
  wpAny M A (newFunctionEnv scope globals cl [] qual none .none (some env)) Q E s:=by
 simp only[newFunctionEnv,Option.isSome_some,xK]
 refine zX (wpAny_alloc ?_)
 refine zX (wpAny_layCells _ (fun name kind cells=>by cases hkc:kind == NameKind.cell<;>simp[hkc]) _ _ _ _ ?_)
 have ok:=cellsFrom_ok scope.names (s.heap.push { cls:=.type "dict",data:=.dict #[] }) (s.heap.objs.size+1) [] ⟨fun _ _ hm=>(nomatch hm),List.Pairwise.nil⟩ (by rw[xN];exact yP _)
 rw[xN] at ok
 rw[show ({ s with heap:=s.heap.push { cls:=.type "dict",data:=.dict #[] } }:Shared).heap.objs.size=s.heap.objs.size+1 from xN ..]
 rw[List.forIn_nil]
 refine zX (zY (zY ?_))
 exact hQ _ ((Heap.Ns.new s.heap (.type "dict")).keeps (pushCells_keeps _ _)) (fun b o e=>pushCells_keeps _ _ b o (zW _ e)) ok
section
variable {X:Cx}{pins:List (Addr×Obj)}{σ σ':St}{H:Hp}{s:Shared}{fp:List Addr}{scope:Scope}{N:List Str}{h4:Heap}
theorem jb(ok:X.Ok)(hfree:∀x∈scope.names,x.2=.free->X.env.kindOf x.1=some .cell\/X.env.kindOf x.1=some .free):∀x∈scope.names,x.2=.free->∃c,X.env.cells.lookup x.1=some c :=
 fun x hx hk=>ok.has x.1 (hfree x hx hk)
theorem mR(h:scope.names.lookup x=some k):(eA X scope C).kindOf x=some k\/(k=.free/\(eA X scope C).kindOf x=some .cell):=by
 have q:=lY (env:=X.env) h
 have q':(eA X scope C).kindOf x=some (if (k == NameKind.free&&X.env.scope.kind == .function&&X.env.kindOf x == some .cell) then NameKind.cell else k):=q
 rw[q']
 split
 ·rename_i hc
  have:k=.free:=by
   simp only[zI,beq_iff_eq] at hc
   exact hc.1.1
  exact .inr ⟨this,rfl⟩
 ·exact .inl rfl
theorem kf(h:(eA X scope C).kindOf x=some k):scope.names.lookup x=some k\/(k=.cell/\scope.names.lookup x=some .free):=by
 cases e:scope.names.lookup x with
 | none =>
  have q:(eA X scope C).kindOf x=none:=nK (env:=X.env) e
  rw[q] at h;cases h
 | some k' =>
  rcases mR (X:=X) (C:=C) e with q|⟨q,q'⟩
  ·rw[q] at h;cases h;exact .inl rfl
  ·rw[q'] at h;cases h;subst q;exact .inr ⟨rfl,rfl⟩
theorem CF(I:Inv X pins σ H s)(hf:∀b∈fp,b8 X pins H b)(hfl:∀b∈fp,b < s.heap.objs.size)(hk:scope.kind=.function)
  (hfree:∀x∈scope.names,x.2=.free->X.env.kindOf x.1=some .cell\/X.env.kindOf x.1=some .free)
  (hns:h4.Ns s.heap.objs.size (fun _=>none)) (hkeep:∀b o,s.heap.get? b=some o->h4.get? b=some o) (hco:CellsOk h4 (s.heap.objs.size+1) (cellsFrom (s.heap.objs.size+1) scope.names []))
  (hdup:∀ {x:Str},(x,NameKind.cell)∈scope.names->(x,NameKind.free)∈scope.names->False) (hcap:∀ (i:Nat) (x:Str) (v:V),N[i]?=some x->σ'[i]?=some (some v)->scope.names.lookup x=some .free/\∃j:Nat,X.N[j]?=some x/\σ[j]?=some (some v)) (hlen:σ'.length=N.length) (t':Nat) :
  Inv (aV X scope N fp s H) [] σ' H { s with heap:=h4,toks:=t' }:=by
 have hcl:=jb I.ok hfree
 have clx:∀x c,(dC X.env scope.names []).lookup x=some c->X.env.cells.lookup x=some c:=fun x c e=>jn hcl (fun _ _ z=>by cases z) x c (mem_of_lookup e)
 have look:∀x c,(eA X scope s.heap.objs.size).cells.lookup x=some c->(x,c)∈cellsFrom (s.heap.objs.size+1) scope.names []\/X.env.cells.lookup x=some c:=fun x c e=>by
  have e:(cellsFrom (s.heap.objs.size+1) scope.names (dC X.env scope.names [])).lookup x=some c:=e
  rw[bH] at e
  rcases iC e with q|⟨_,q⟩
  ·exact .inl (mem_of_lookup q)
  ·exact .inr (clx x c q)
 have old:∀x c,X.env.cells.lookup x=some c->c < s.heap.objs.size:=fun x c e=>let ⟨_,q⟩:=I.cell x c e;q.lt
 have new:∀x c,(x,c)∈cellsFrom (s.heap.objs.size+1) scope.names []->s.heap.objs.size < c:=fun x c e=>(hco.empty x c e).2
 refine⟨⟨I.ok.mod,?_,I.ok.glob,I.ok.blt,yP _,?_,?_,?_,I.ok.hd,I.ok.frames,.inl rfl,?_,I.bs,yF I.ok.bsz I.sz,?_,?_,I.stack,I.stkFree⟩,rfl,I.bare,Un.kept hkeep,⟨_,hns,?_⟩,?_,I.hok.fresh (yP _),?_,
  fun p hp=>absurd (show p∈([]:List (Addr×Obj)) from hp) (by simp),I.hok.kept hkeep,hlen⟩
 ·show (relabel scope X.env).kind=_
  exact hk
 ·intro x y c e1 e2
  rcases look x c e1 with a|a<;>rcases look y c e2 with b|b
  ·exact name_of_addr hco.apart a b
  ·exact absurd (wN (new x c a) (old y c b)) (qH _)
  ·exact absurd (wN (new y c b) (old x c a)) (qH _)
  ·exact I.ok.inj x y c a b
 ·intro x hx
  show ∃c,(cellsFrom (s.heap.objs.size+1) scope.names (dC X.env scope.names [])).lookup x=some c
  refine Option.isSome_iff_exists.mp (W.cellsFrom_some _ _ _ ?_)
  rcases hx with hx|hx
  ·rcases kf hx with q|⟨_,q⟩
   ·exact .inl q
   ·exact .inr (Option.isSome_iff_exists.mpr (eW (.inl q)))
  ·rcases kf hx with q|⟨q,_⟩
   ·exact .inr (Option.isSome_iff_exists.mpr (eW (.inl q)))
   ·cases q
 ·intro x c hfn e
  have hfn:scope.names.lookup x=some .cell:=yT hfn
  have e:(cellsFrom (s.heap.objs.size+1) scope.names (dC X.env scope.names [])).lookup x=some c:=e
  obtain⟨c',hc'⟩:=oK (n:=s.heap.objs.size+1) hfn
  rw[bH,iE hc'] at e
  cases e
  exact jV (new x c (mem_of_lookup hc'))
 ·intro b hb
  refine⟨yU (hfl b hb),fun x c e z=>?_⟩
  rcases look x c e with a|a
  ·exact absurd (wN (new x c a) (by rw[z];exact hfl b hb)) (qH _)
  ·exact (hf b hb).2.2.2.2.1 x c a z
 ·intro b o e hb
  obtain⟨f0,f1,f2,f3,f4,f5⟩:=hf b hb
  rcases f3 with z|z
  ·exact I.ok.noex b o e z
  ·exact absurd (zS (yA (I.ok.bs b o e).1) z) (qH _)
 ·intro b hb hz
  obtain⟨f0,f1,f2,f3,f4,f5⟩:=hf b hb
  rcases List.mem_cons.mp (I.stkSub b hz) with z|z
  ·exact f1 z
  ·exact f2 z
 ·intro i x v e1 e2 e3
  obtain⟨hfr,j,hj,hv⟩:=hcap i x v e1 e2
  have hm:(x,NameKind.free)∈scope.names:=mem_of_lookup hfr
  obtain⟨m,hn,hl⟩:=I.loc
  have kx:=hfree _ hm rfl
  obtain⟨u,ru,lk⟩:=hl j x v hj hv (kx.elim (fun k=>.inr (.inl k)) fun k=>.inr (.inr k))
  refine⟨u,ru,.inr ⟨?_,?_⟩⟩
  ·rcases mR (X:=X) (C:=s.heap.objs.size) hfr with q|⟨_,q⟩
   ·exact .inr q
   ·exact .inl q
  ·rcases lk with ⟨k,_⟩|⟨_,c,ec,ic⟩
   ·have k:X.env.kindOf x=some .local:=k
    rcases kx with k'|k'<;>· rw[k] at k';cases k'
   ·obtain⟨c',hc'⟩:=eW (env:=X.env) (acc:=[]) (.inl hfr)
    have e':=clx x c' hc'
    rw[ec] at e'
    cases e'
    refine⟨c,?_,ic.keeps hkeep⟩
    show (cellsFrom (s.heap.objs.size+1) scope.names (dC X.env scope.names [])).lookup x=some c
    rw[bH]
    cases eo:(cellsFrom (s.heap.objs.size+1) scope.names []).lookup x with
    | none=>rw[gH eo];exact hc'
    | some d =>
     have hcm:=fx _ _ _ _ (mem_of_lookup eo)
     exact (hdup hcm hm).elim
 ·intro x c e
  rcases look x c e with a|a
  ·exact⟨_,(hco.empty x c a).1⟩
  ·obtain⟨v,q⟩:=I.cell x c a
   exact⟨v,q.keeps hkeep⟩
 ·intro x c e
  rcases look x c e with a|a
  ·exact I.hok.fresh (jV (new x c a))
  ·exact I.freeC x c a
end
abbrev uD(ifs:List Expr)(env:Env):Sem Bool:=forIn ifs true fun c r=>if r=true then do let ok <- isTrue c env (eval c env);pure (ForInStep.yield ok) else pure (ForInStep.yield r)
def KC(X:Cx)(ifs:List Expr)(t:TT):Prop :=
 ∀ (pins:List (Addr×Obj)) (s:Shared) (σ:St) (H:Hp) (Q:Bool->Hp->Prop),Inv X pins σ H s->t σ H Q->wpAny (model X.prog X.w) X.A (uD ifs X.env) (TP X pins σ Q) X.xe s
theorem FY:KC X [] (fun _ H Q=>Q true H):=fun _ _ _ H _ I h=>wpAny_tests_nil ⟨H,I,h⟩
theorem Ff(h:PT X c t):KC X [c] t:=fun pins s σ H Q I q=>wpAny_tests_one (h pins s σ H Q I q)
theorem sv{R:Result->Shared->Prop}{elt target iter:Expr}{ifs:List Expr}{scope:Scope}{pos:Pos}{acc:Value}{env:Env}(I:Nat->Shared->Prop)
  (turn:∀n s,I n s->wpAny (model prog w) A (pyNext it) (fun r s₁=>match r with
   | none=>R (.ok .next) s₁
   | some v=>wpAny (model prog w) A (letOwnedTupleGo target it v) (fun _ s₁'=>wpAny (model prog w) A (assign target env v) (fun _ s₂ =>
     wpAny (model prog w) A (uD ifs env) (fun ok s₃ =>
      if ok=true then wpAny (model prog w) A (eval elt env) (fun x s₄ =>
       wpAny (model prog w) A (call (.builtin "list.append") [acc,x]) (fun _ s₅=>∃m,m < n/\I m s₅) (fun _ _=>False) s₄) (fun _ _=>False) s₃
      else ∃m,m < n/\I m s₃) (fun _ _=>False) s₂) (fun _ _=>False) s₁') (fun _ _=>False) s₁) (fun _ _=>False) s)
  (n:Nat) (h:I n s) :
  codeAny (model prog w) A (.compLoop (.ListComp elt [⟨target,iter,ifs,0⟩] scope pos) 0 it acc env) R s:=by
 refine codeAny_loop rfl I (fun n s hI=>?_) n h
 show wpAny _ A ((compTurn (.ListComp elt [⟨target,iter,ifs,0⟩] scope pos) 0 it acc env).onRaise (fun x=>do noteFrame x env;theTreesLotGoes x)) _ _ s
 refine wpAny_noted ?_
 rw[compTurn_list]
 refine zX (vE (zX (xD (turn n s hI) (fun r s₁ h₁=>?_) fun _ _ h'=>h'.elim)))
 cases r with
 | none=>exact zY h₁
 | some v =>
  refine zX (xD h₁ (fun _ s₁' h₁'=>?_) fun _ _ h'=>h'.elim)
  refine zX (xD h₁' (fun _ s₂ h₂=>zX (xD h₂ (fun ok s₃ h₃=>?_) fun _ _ h'=>h'.elim)) fun _ _ h'=>h'.elim)
  cases ok with
  | false=>exact zY ⟨rfl,h₃⟩
  | true =>
   exact zX (zX (xD h₃ (fun x s₄ h₄=>zX (xD h₄ (fun _ s₅ h₅=>zY (zY ⟨rfl,h₅⟩)) fun _ _ h'=>h'.elim)) fun _ _ h'=>h'.elim))
def AU(X:Cx)(pins:List (Addr×Obj))(σ:St)(Q:VK)(acc:Value)(C:Addr)(r:Result)(s5:Shared):Prop :=
 ∃ (D:Addr) (H5:Hp) (m:Str->Option Value),acc=.ref D/\r=.ok .next/\Inv X pins σ H5 s5/\s5.heap.Ns C m/\b8 X pins H5 C/\Q (.ref D) H5
def Cr(J:It)(g:TG)(tt:TT)(te:TE)(D:Addr)(σ0:St)(H0:Hp)(Q:VK):Prop :=
 ∃W:Nat->Nat->St->Hp->Prop,(∃m,W 0 m σ0 H0)/\∀i m σ H,W i m σ H ->
  (J.stop i H/\Q (.ref D) H)\/(J.go i H/\∀x H',J.yld i H x H'->g x σ H' fun σ2 H2=>tt σ2 H2 fun b H3 =>
   if b=true then te σ2 H3 fun v H4=>∃ys,H4 D=some (.lst ys)/\ys.length < sizeLine/\∃m',m' < m/\W (i+1) m' σ2 (upd H4 D (.lst (ys++[v])))
   else ∃m',m' < m/\W (i+1) m' σ2 H3)
section
variable {X:Cx}{pins:List (Addr×Obj)}{σ σ':St}{H:Hp}{s:Shared}{scope:Scope}{N:List Str}
 {tg iter elt:Expr}{ifs:List Expr}{pos:Pos}{g:TG}{tt:TT}{te:TE}
theorem qo(hc:X.calm=true)(I:Inv X pins σ H s)(T:Turn X.prog X.w X.K tg J fp it tn)(st:tn 0 s.heap)(hf:∀b∈fp,b8 X pins H b)(hk:scope.kind=.function)
  (hfree:∀x∈scope.names,x.2=.free->X.env.kindOf x.1=some .cell\/X.env.kindOf x.1=some .free) (hdup:∀ {x:Str},(x,NameKind.cell)∈scope.names->(x,NameKind.free)∈scope.names->False)
  (hcap:∀ (i:Nat) (x:Str) (v:V),N[i]?=some x->σ'[i]?=some (some v)->scope.names.lookup x=some .free/\∃j:Nat,X.N[j]?=some x/\σ[j]?=some (some v)) (hlen:σ'.length=N.length)
  (hY:∀fp s H,PG (aV X scope N fp s H) tg g/\KC (aV X scope N fp s H) ifs tt/\PE (aV X scope N fp s H) elt te)
  (hrd:∀D,H D=none->Cr J g tt te D σ' (upd H D (.lst [])) Q) {E:Value->Shared->Prop} :
  wpAny (model X.prog X.w) X.A (newList []) (fun acc s₃=>wpAny (model X.prog X.w) X.A (newFunctionEnv scope X.env.globals (dC X.env scope.names []) [] X.env.qual none .none (some X.env)) (fun cenv s₄ =>
   codeAny (model X.prog X.w) X.A (.compStart (.ListComp elt [⟨tg,iter,ifs,0⟩] scope pos) 0 (.ref it) acc { cenv with scope:=relabel scope X.env }) (AU X pins σ Q acc cenv.locals) s₄) E s₃) E s:=by
 refine qP ?_
 have hfl:∀b∈fp,b < s.heap.objs.size:=fun b hb=>let ⟨o,e,_⟩:=T.obj _ _ st b hb;yA e
 have I3:=I.lnew (ys:=[]) (its:=[]) (t':=s.toks) .nil (xY _)
 have hD:H s.heap.objs.size=none:=I.fresh
 obtain⟨W,⟨m0,w0⟩,turn⟩:=hrd _ hD
 generalize e3:({ s with heap:=s.heap.push { cls:=.type "list",data:=.seq ([]:List Value).toArray },toks:=s.toks }:Shared)=s3 at I3
 have e3h:s3.heap=s.heap.push { cls:=.type "list",data:=.seq ([]:List Value).toArray }:=by rw[<- e3]
 generalize hH3:upd H s.heap.objs.size (.lst [])=H3 at I3 w0 turn
 have hlt:s.heap.objs.size < s3.heap.objs.size:=by rw[e3h,xN];exact kP _
 have hk3:∀b o,s.heap.get? b=some o->s3.heap.get? b=some o:=fun b o e=>by rw[e3h];exact zW _ e
 generalize s.heap.objs.size=D at *
 have f3:∀b∈fp,b8 X pins H3 b:=fun b hb=>by
  obtain⟨f0,f⟩:=hf b hb
  refine⟨?_,f⟩
  rw[<- hH3,az (yU (hfl b hb))]
  exact f0
 have st3:tn 0 s3.heap:=T.keep _ _ _ st fun b _ o e=>hk3 b o e
 refine xu fun h4 hns hkp hco=>?_
 dsimp only
 have I4:=CF (N:=N) (σ':=σ') (fp:=fp) I3 f3 (fun b hb=>wN (hfl b hb) hlt) hk hfree hns hkp hco hdup hcap hlen s3.toks
 have fC:∀H',H' s3.heap.objs.size=none->b8 X pins H' s3.heap.objs.size:=fun H' hn=>I3.fpOk (yP _) hn
 obtain⟨hg,htt,hte⟩:=hY fp s3 H3
 have efp:∀b∈fp,∀H':Hp,H' b=none->b8 (aV X scope N fp s3 H3) [] H' b:=fun b hb H' hn=>by
  refine⟨hn,(I4.ok.exf b hb).1,I4.ok.exfs b hb,.inl hb,(I4.ok.exf b hb).2,fun p hp=>?_⟩
  cases hp
 have loop:codeAny (model X.prog X.w) X.A (.compLoop (.ListComp elt [⟨tg,iter,ifs,0⟩] scope pos) 0 (.ref it) (.ref D) (eA X scope s3.heap.objs.size)) (AU X pins σ Q (.ref D) s3.heap.objs.size) { s3 with heap:=h4 }:=by
  refine sv (fun n s'=>∃i σ' H',Inv (aV X scope N fp s3 H3) [] σ' H' s'/\tn i s'.heap/\(∀b∈fp,H' b=none)/\W i n σ' H') ?_ m0
   ⟨0,σ',H3,I4,T.keep _ _ _ st3 fun b _ o e=>hkp b o e,fun b hb=>(f3 b hb).1,w0⟩
  rintro n s5 ⟨i,σ5,H5,I5,st5,fr5,w5⟩
  rcases turn i n σ5 H5 w5 with ⟨stop,q⟩|⟨go,step⟩
  ·refine bZ (T.done (aV X scope N fp s3 H3) rfl rfl rfl hc i [] s5 σ5 H5 _ I5 (fun b hb=>efp b hb H5 (fr5 b hb)) st5 stop) fun r s6 ⟨hr,I6⟩=>?_
   subst hr
   obtain⟨m,hn6,_⟩:=I6.loc
   refine⟨D,H5,m,rfl,rfl,I3.call' I6.os I6.base I6.hok I6.bare (fun b hb=>?_),hn6,fC H5 I6.free,q⟩
   obtain⟨f0,f1,f2,f4,f5,f6⟩:=f3 b hb
   exact⟨f4,f1,f5,f6⟩
  ·refine bZ (T.item (aV X scope N fp s3 H3) rfl rfl rfl hc i [] s5 σ5 H5 _ I5 (fun b hb=>efp b hb H5 (fr5 b hb)) st5 go) fun r s6 ⟨u,hr,h6⟩=>?_
   subst hr
   refine bZ h6 fun _ s7 ⟨x,H7,I7,r7,y7,st7,fr7⟩=>?_
   have I7':=I7.pinned (fun b hb=>efp b hb H7 (fr7 b hb)) (T.obj _ _ st7)
   have again:∀ {pl:List (Addr×Obj)}{σ9:St}{H9:Hp}{s9:Shared}{n':Nat},Inv (aV X scope N fp s3 H3) ([]++m5 fp s7.heap) σ9 H9 s9->W (i+1) n' σ9 H9->∃i σ' H',Inv (aV X scope N fp s3 H3) [] σ' H' s9/\tn i s9.heap/\(∀b∈fp,H' b=none)/\W i n' σ' H':=fun {pl σ9 H9 s9 n'} I9 w9=>by
    refine⟨i+1,σ9,H9,I9.unpinned,T.keep _ _ _ st7 fun b hb o e=>(I9.pin (b,o) (yG _ (yG _ (cT hb e)))).1,fun b hb=>?_,w9⟩
    obtain⟨o,e,d⟩:=T.obj _ _ st7 b hb
    exact (I9.pin (b,o) (yG _ (yG _ (cT hb e)))).2.1
   refine bZ (hg _ s7 σ5 H7 x u _ I7' r7 (step x H7 y7)) fun _ s8 ⟨σ8,H8,I8,q8⟩=>?_
   refine bZ (htt _ s8 σ8 H8 _ I8 q8) fun ok s9 ⟨H9,I9,q9⟩=>?_
   cases ok with
   | false =>
    rw[yQ (by decide)] at q9
    rw[yQ (by decide)]
    obtain⟨m',hm,w9⟩:=q9
    exact⟨m',hm,again (pl:=[]) I9 w9⟩
   | true =>
    rw[yO rfl] at q9
    rw[yO rfl]
    refine bZ (hte _ s9 σ8 H9 _ I9 q9) fun y s10 ⟨v,H10,I10,r10,ys,hD10,hz,m',hm,w10⟩=>?_
    refine bZ (rC (X:=aV X scope N fp s3 H3) _ s10 σ8 H10 (.ref D) [v] (.ref D) [y] (fun _ H'=>W (i+1) m' σ8 H') I10 rfl (.cons r10 .nil) ⟨D,ys,v,rfl,rfl,hD10,hz,w10⟩) fun _ s11 ⟨_,H11,I11,_,w11⟩=>?_
    exact⟨m',hm,again (pl:=[]) I11 w11⟩
 exact codeAny_compStart_list loop (T.self _ 0 _ _ _ (T.keep _ _ _ st3 fun b _ o e=>hkp b o e) loop)
end
def EZ(wi:TI)(g:TG)(tt:TT)(te:TE)(caps:St->St):TE:=fun σ H Q=>wi σ H fun J H1=>∀D,H1 D=none->Cr J g tt te D (caps σ) (upd H1 D (.lst [])) Q
structure hJ(X:Cx)(scope:Scope)(N:List Str)(caps:St->St):Prop where
 kind:scope.kind=.function
 free:∀x∈scope.names,x.2=.free->X.env.kindOf x.1=some .cell\/X.env.kindOf x.1=some .free
 dup:∀ {x:Str},(x,NameKind.cell)∈scope.names->(x,NameKind.free)∈scope.names->False
 loc:∀x∈scope.names,x.2=.local -> scope.names.lookup x.1=some .local
 cap:∀ (σ:St) (i:Nat) (x:Str) (v:V),N[i]?=some x->(caps σ)[i]?=some (some v)->scope.names.lookup x=some .free/\∃j:Nat,X.N[j]?=some x/\σ[j]?=some (some v)
 len:∀σ:St,(caps σ).length=N.length
section
variable {X:Cx}{scope:Scope}{N:List Str}{caps:St->St}{tg iter elt:Expr}{ifs:List Expr}{pos:Pos}{wi:TI}{g:TG}{tt:TT}{te:TE}
theorem F8(hc:X.calm=true)(S:hJ X scope N caps)(hi:PI X tg iter wi)
  (hY:∀fp s H,PG (aV X scope N fp s H) tg g/\KC (aV X scope N fp s H) ifs tt/\PE (aV X scope N fp s H) elt te)
  (hs:∀x,foldedSetIterable iter X.env x=pure x:=by intro _;rfl):PE X (.ListComp elt [⟨tg,iter,ifs,0⟩] scope pos) (EZ wi g tt te caps):=by
 intro pins s σ H Q I h
 rw[eval_ListComp]
 refine wpAny_comprehension_free (use:=none) rfl hs (lg (jb I.ok S.free)) S.kind S.loc (bZ (hi pins s σ H _ I h) fun v s1 h1=>bZ h1 fun itv s2 h2=>?_)
 obtain⟨it,fp,tn,J,H2,e,I2,T,st2,f2,rd⟩:=h2
 subst e
 refine bZ (qo (iter:=iter) (pos:=pos) (E:=X.xe) hc I2 T st2 f2 S.kind S.free S.dup (S.cap σ) (S.len σ) hY rd) fun acc s3 h3=>bZ h3 fun cenv s4 h4=>?_
 refine jU h4 fun r s5 h5=>?_
 obtain⟨D,H5,m,rfl,rfl,I5,hn,fC,q⟩:=h5
 refine⟨m,hn,fun h' sb=>?_⟩
 obtain⟨f0,f1,f2',f3,f4,f5⟩:=fC
 exact⟨.ref D,H5,I5.turned (t':=s5.toks) (fun b o hb e=>(sb.2 b hb).trans e) f0 f1 f3 f4 f5,rfl,q⟩
theorem FD(hc:X.calm=true)(S:hJ X scope N caps)(hi:PI X tg iter wi)
  (hY:∀fp s H,PG (aV X scope N fp s H) tg g/\KC (aV X scope N fp s H) ifs tt/\PE (aV X scope N fp s H) elt te)
  (hN:X.N.Nodup) (hiy:X.N[i]?=some y) (hy:X.env.scope.names.lookup y=some .local)
  (hsw:swapsWith (.ListComp elt [⟨tg,iter,ifs,0⟩] scope pos) (some (.Name y py)) spos.line X.env=pure true)
  (hs:∀x,foldedSetIterable iter X.env x=pure x:=by intro _;rfl):PS X (.Assign [.Name y py] (.ListComp elt [⟨tg,iter,ifs,0⟩] scope pos) spos) (Bi (EZ wi g tt te caps) (qh i)):=by
 intro pins s σ H D I h
 rw[exec_Assign_Name_used _ _ _ _ hsw]
 refine zX (vE (zX ?_))
 show wpAny _ X.A (do let _ <- comprehension (.ListComp elt [⟨tg,iter,ifs,0⟩] scope pos) scope X.env _ (newList []) false (eval iter X.env) (some (assign (.Name y py) X.env))) _ _ s
 refine zX (xD (wpAny_comprehension_free (use:=some (assign (.Name y py) X.env)) (Q:=fun _ s'=>SP X pins D .next s') rfl hs (lg (jb I.ok S.free)) S.kind S.loc
  (bZ (hi pins s σ H _ I h) fun v s1 h1=>bZ h1 fun itv s2 h2=>?_)) (fun _ s' hq=>zY (zY hq)) fun _ _ e=>e)
 obtain⟨it,fp,tn,J,H2,e,I2,T,st2,f2,rd⟩:=h2
 subst e
 refine bZ (qo (iter:=iter) (pos:=pos) (E:=X.xe) hc I2 T st2 f2 S.kind S.free S.dup (S.cap σ) (S.len σ) hY rd) fun acc s3 h3=>bZ h3 fun cenv s4 h4=>?_
 refine jU h4 fun r s5 h5=>?_
 obtain⟨D',H5,m,rfl,rfl,I5,hn,fC,q⟩:=h5
 show wpAny _ X.A (assign (.Name y py) X.env (.ref D')) _ _ _
 refine wpAny_assign_Name (rG (v:=.ref D') I5 hN hiy (.inl hy) rfl (fun s6 I6 ⟨a,sa,ha⟩=>?_) (.inr hy))
 obtain⟨f0,f1,f2',f3,f4,f5⟩:=fC
 have hne:cenv.locals≠a:=by
  rcases ha with z|z
  ·rw[z];exact f1
  ·exact fun w=>f4 y a z w.symm
 refine⟨m,hn.sameBut sa hne,fun h' sb=>?_⟩
 exact⟨_,H5,I6.turned (t':=s6.toks) (fun b o hb e=>(sb.2 b hb).trans e) f0 f1 f3 f4 f5,q⟩
end
abbrev MC(X:Cx)(qual:Str)(scope:Scope)(f c L:Addr):Env:=W.envX qual scope L f (.ref c) (dC X.env scope.names [])
def fX(X:Cx)(A:Around)(qual:Str)(scope:Scope)(N:List Str)(f c:Addr)(s:Shared)(H:Hp):Cx where
 prog:=X.prog
 w:=X.w
 K:=X.K
 mg:=X.mg
 base:=X.base
 A:=A.deeper (MC X qual scope f c s.heap.objs.size)
 N:=N
 s₀:=s
 H₀:=H
 env:=MC X qual scope f c s.heap.objs.size
 outer:=X.stack
 stack:=MC X qual scope f c s.heap.objs.size::X.stack
 ex:=[]
 fn:=fun _=>false
 calm:=true
 pn:=[]
 xe:=fun _ _=>False
section
theorem Ge(I:Inv X pins σ H s)(hd:A.handled=none)(hA:A.frames=some X.stack)(S:hJ X scope N caps)(hnc:∀x∈scope.names,x.2≠.cell)(hN0:N[0]?=some p)(hp:scope.names.lookup p=some .local)(hNd:N.Nodup)(r:RelV v u)
  (hns:h1.Ns s.heap.objs.size (fun x=>[(p,u)].reverse.lookup x)) (hkeep:∀b o,s.heap.get? b=some o->h1.get? b=some o) (t':Nat) :
  Inv (fX X A qual scope N f c s H) [] ((caps σ).set 0 (some v)) H { s with heap:=h1,toks:=t' }:=by
 have hcl:=jb I.ok S.free
 have clx:∀x c,(dC X.env scope.names []).lookup x=some c->X.env.cells.lookup x=some c:=fun x c e=>jn hcl (fun _ _ z=>by cases z) x c (mem_of_lookup e)
 have noA:∀b:Addr,b∉(fX X A qual scope N f c s H).ex:=fun b z=>absurd (show b∈([]:List Addr) from z) (by simp)
 refine⟨⟨I.ok.mod,S.kind,rfl,rfl,yP _,fun x y d e1 e2=>I.ok.inj x y d (clx x d e1) (clx y d e2),fun x hx=>?_,fun x d z=>?_,fun _=>hd,Around.frames_deeper hA,.inr ⟨rfl,rfl⟩,fun b z=>absurd z (noA b),I.bs,yF I.ok.bsz I.sz,fun b _ _=>noA b,fun b z=>absurd z (noA b),I.stack,I.stkFree⟩,
  rfl,I.bare,Un.kept hkeep,⟨_,hns,fun i x w e1 e2 e3=>?_⟩,fun x d e=>?_,I.hok.fresh (yP _),fun x d e=>I.freeC x d (clx x d e),fun q hq=>absurd (show q∈([]:List (Addr×Obj)) from hq) (by simp),I.hok.kept hkeep,?_⟩
 ·rcases hx with hx|hx
  ·exact absurd rfl (hnc _ (mem_of_lookup (show scope.names.lookup x=some .cell from hx)))
  ·exact eW (.inl hx)
 ·cases z
 ·cases i with
  | zero =>
   have e1:N[0]?=some x:=e1
   rw[hN0] at e1
   cases e1
   have hl:0 < (caps σ).length:=by rw[S.len];exact (List.getElem?_eq_some_iff.mp hN0).1
   rw[vN hl] at e2
   cases e2
   exact⟨u,r,.inl ⟨hp,by simp⟩⟩
  | succ i =>
   have e2':(caps σ)[i+1]?=some (some w):=by
    rw[kW (by omega)] at e2;exact e2
   obtain⟨hfr,j,hj,hv⟩:=S.cap σ (i+1) x w e1 e2'
   have hm:(x,NameKind.free)∈scope.names:=mem_of_lookup hfr
   obtain⟨m,hn,hl⟩:=I.loc
   have kx:=S.free _ hm rfl
   obtain⟨u',ru,lk⟩:=hl j x w hj hv (kx.elim (fun k=>.inr (.inl k)) fun k=>.inr (.inr k))
   refine⟨u',ru,.inr ⟨.inr hfr,?_⟩⟩
   rcases lk with ⟨k,_⟩|⟨_,c',ec,ic⟩
   ·have k:X.env.kindOf x=some .local:=k
    rcases kx with k'|k'<;>· rw[k] at k';cases k'
   ·obtain⟨c'',hc'⟩:=eW (env:=X.env) (acc:=[]) (.inl hfr)
    have e':=clx x c'' hc'
    rw[ec] at e'
    cases e'
    exact⟨c',hc',ic.keeps hkeep⟩
 ·obtain⟨w,q⟩:=I.cell x d (clx x d e)
  exact⟨w,q.keeps hkeep⟩
 ·rw[yE];exact S.len σ
theorem vj(I:Inv X pins σ H s)(hr:eD (k+1) A)(hA:A.frames=some X.stack)(S:hJ X scope N caps)(hnc:∀x∈scope.names,x.2≠.cell)
  (hN0:N[0]?=some p) (hp:scope.names.lookup p=some .local) (hNd:N.Nodup) (hco:scope.isCoroutine=false) (hgen:scope.isGenerator=false)
  (hf:s.heap.get? f=some (W.kla_obj name qual params body scope (dC X.env scope.names []) pm c ctv)) (hcod:H c=some (.cod qual)) (hb:bindArgs (W.kla_fn name qual params body scope (dC X.env scope.names []) pm (.ref c) ctv) ⟨[u],[]⟩=pure [(p,u)])
  (r:RelV v u) (hY:PE (fX X A qual scope N f c s H) body te) (q:te ((caps σ).set 0 (some v)) H Q) :
  wpAny (model X.prog X.w) A (call (.ref f) [u]) (EP X pins σ Q) (fun _ _=>False) s:=by
 have hcd:s.heap.CodeRec (.ref c) qual:=I.hok c _ hcod
 refine wpAny_call (W.kla_callFunE hr.depth hf rfl hco hgen rfl hcd ?_)
 rw[hb]
 refine zY (wpAny_newFunctionEnv hnc (fun y hy=>?_) (fun h1 hns hsb=>⟨?_,?_⟩) S.kind)
 ·rw[List.mem_singleton.mp hy];exact hp
 ·exact I.nolimit.fresh _ hsb
 ·have hk1:∀b o,s.heap.get? b=some o->h1.get? b=some o:=fun b o e=>hsb.extBut b o (yU (yA e)) (zW _ e)
  have I1:=Ge (qual:=qual) (f:=f) (c:=c) I hr.hd hA S hnc hN0 hp hNd r hns hk1 (s.toks+[(p,u)].length)
  refine W.kla_codeExpr (xD (hY [] _ _ H Q I1 q) (fun w s' ⟨v',H',I',r',q'⟩=>?_) fun e s' h=>False.elim h)
  exact⟨v',H',I.call' I'.os I'.base I'.hok I'.bare (fun b z=>absurd (show b∈([]:List Addr) from z) (by simp)),r',q'⟩
end
theorem xh{pos:Pos}(l:List Value)(h:TriplesOk l)(e:codeAmong pos' (l++[rawInt pos.line,rawInt pos.col,c])=some v):codeAmong pos' l=some v\/v=c:=by
 fun_induction TriplesOk l with
 | case1 =>
  simp only[xR,codeAmong,rawInt] at e
  split at e
  ·cases e;exact .inr rfl
  ·cases e
 | case2 a t b u x rest ih =>
  simp only[xI,codeAmong] at e ⊢
  split at e
  ·rename_i hc;rw[yO hc];exact .inl e
  ·rename_i hc;rw[yQ hc];exact ih h e
 | case3 l h1 h2=>exact h.elim
section
theorem vg(I:Inv X pins σ H s)(S:hJ X scope N caps)(hq:X.env.qual++"<lambda>"=qual)(hcode:X.env.code=.ref c)(C:W.CodeHd X.base c P)(hT:H P=some (.tab qual))(hB:L8 X.mg X.base)
  (hdef:defaultsOf params X.env=([],[]))
  (h:∀ (f c':Addr) (pm ctv:Value) (s':Shared) (H':Hp),Inv X pins σ H' s'->s'.heap.get? f=some (W.kla_obj "<lambda>" qual params body scope (dC X.env scope.names []) pm c' ctv)->H' f=none->H' c'=some (.cod qual)->aP H H'->b8 X pins H' f->(∀b,H' b≠none->H b≠none\/H' b=some (.cod qual))->Q (.ref f) s') :
  wpAny (model X.prog X.w) X.A (eval (.Lambda params body scope lpos) X.env) Q X.xe s:=by
 have hcl:=lg (jb I.ok S.free)
 have hCs:=C.keeps I.bk
 have hg:s.heap.Ns mainGlobals X.mg:=by
  obtain⟨o,es,ep,e,r⟩:=I.ok.mod.glob
  exact⟨o,es,ep,I.bk _ _ e,r⟩
 have hPn:X.base.get? P=none:=by
  cases e:X.base.get? P with
  | none=>rfl
  | some o=>rw[(I.bs P o e).2] at hT;cases hT
 obtain⟨ps,hP,ht,hco⟩:=I.hok P _ hT
 have hb:s.heap.BuiltinsAt X.mg P:=by
  obtain⟨bm,o,b1,b2,b3,b4,b5⟩:=hB
  exact⟨bm,o,b1,b2,b3,(fun z=>by rw[z,hPn] at b4;cases b4),I.bk _ _ b4,b5⟩
 refine W.kla_eval hdef ?_
 rw[hq]
 cases hf:codeAmong lpos ps.toList with
 | some cv =>
  obtain⟨c',rfl,hc'⟩:=hco lpos cv hf
  refine W.kla_makeFunctionHit hcl I.ok.glob hg hcode hCs hP ht hf hb fun ctv h' tk kp hz=>?_
  have kp2:∀b o,s.heap.get? b=some o->(h'.push (W.kla_obj "<lambda>" qual params body scope (dC X.env scope.names []) ((X.mg "__name__").getD .none) c' ctv)).get? b=some o:=fun b o e=>zW _ (kp b o e)
  have hn:H h'.objs.size=none:=I.hok.fresh hz
  exact h _ c' _ ctv _ H (I.kept (t':=tk) kp2) (zZ _ rfl) hn hc' (.refl _) (I.fpOk hz hn) fun b z=>.inl z
 | none =>
  have hgP:mainGlobals≠P:=fun z=>by
   obtain⟨o,es,ep,e,r⟩:=I.ok.mod.glob
   rw[z,hPn] at e;cases e
  refine W.kla_makeFunction hcl I.ok.glob hg hcode hCs hP ht hf hgP hb fun c' ctv h' tk hx hc1 hc2 hcr hP'=>?_
  have hn:H c'=none:=I.hok.fresh hc1
  have hz:s.heap.objs.size<=h'.objs.size:=jV (jC hc1 hc2)
  have nP:∀ {b:Addr}{u:HO},H b=some u->(∀q,u≠.tab q)->b≠P:=fun {b u} e hne z=>by subst z;rw[hT] at e;cases e;exact hne _ rfl
  have kp:∀b o,b≠P->s.heap.get? b=some o->(h'.push (W.kla_obj "<lambda>" qual params body scope (dC X.env scope.names []) ((X.mg "__name__").getD .none) c' ctv)).get? b=some o:=fun b o hb e=>zW _ (hx b o hb e)
  have hPc:P≠c':=fun z=>by rw[<- z,hT] at hn;cases hn
  have up:∀b u,H b=some u->upd H c' (.cod qual) b=some u:=fun b u e=>by rw[az (aH e hn)];exact e
  have un:Un X.fs [] H (upd H c' (.cod qual)) s.heap (h'.push (W.kla_obj "<lambda>" qual params body scope (dC X.env scope.names []) ((X.mg "__name__").getD .none) c' ctv)):=by
   refine⟨fun b o e n _ _=>kp b o (fun z=>by rw[z,hT] at n;cases n) e,fun b o e n _ _=>⟨o.slots,kp b o (fun z=>by rw[z,hT] at n;cases n) e⟩,fun b o e n _=>?_,fun b o e _=>?_,fun b xs e=>up b _ e,fun b o u e=>up b _ e,⟨fun b u e _=>up b u e,fun b q ps' e z=>?_⟩⟩
   ·rw[az (yU (zS (yA e) hc1))];exact n
   ·by_cases hb:b=P
    ·subst hb;exact⟨_,zW _ hP'⟩
    ·exact⟨o,kp b o hb e⟩
   ·by_cases hb:b=P
    ·subst hb
     rw[hP] at z
     cases z
     exact⟨_,zW _ hP'⟩
    ·exact⟨#[],by rw[Array.append_empty];exact kp b _ hb z⟩
  have hok:n5 X.prog X.w (upd H c' (.cod qual)) (h'.push (W.kla_obj "<lambda>" qual params body scope (dC X.env scope.names []) ((X.mg "__name__").getD .none) c' ctv)):=by
   intro b u e
   by_cases hbc:b=c'
   ·subst hbc
    rw[aE] at e
    cases e
    obtain⟨c0,oc,vs,t,e0,e1,r⟩:=hcr
    exact⟨c0,oc,vs,t,e0,zW _ e1,r⟩
   ·rw[az hbc] at e
    by_cases hb:b=P
    ·subst hb
     rw[hT] at e
     cases e
     refine⟨_,zW _ hP',?_,fun pos v hv=>?_⟩
     ·have:=TriplesOk_snoc lpos.line lpos.col (.ref c') ps.toList ht
      simpa using this
     ·have hv':codeAmong pos (ps.toList++[rawInt lpos.line,rawInt lpos.col,.ref c'])=some v:=by simpa using hv
      rcases xh ps.toList ht hv' with z|z
      ·obtain⟨c0,z1,z2⟩:=hco pos v z
       exact⟨c0,z1,up _ _ z2⟩
      ·exact⟨c',z,aE⟩
    ·exact (I.hok b u e).stay (fun d o hd eo=>kp d o (by
      rcases hd with rfl|hd
      ·exact hb
      ·exact nP hd fun q z=>by cases z) eo) (fun d hd=>up d _ hd) fun d o hd _=>up d _ hd
  have I':=I.un (t':=tk) un hok
  have hnf:upd H c' (.cod qual) h'.objs.size=none:=by
   rw[az (jL hc2)];exact I.hok.fresh hz
  refine h _ c' _ ctv _ _ I' (zZ _ rfl) hnf aE up (I.fpOk hz hnf) fun b z=>?_
  by_cases hbc:b=c'
  ·subst hbc;exact .inr aE
  ·rw[az hbc] at z;exact .inl z
end
end L2
namespace Dl
open PySem L2 PySem.Spec PyProof.Rows
abbrev D:=PyData
mutual
def Rep(K:W.Frag)(H:Hp):D->V->Prop
 | .none,v=>v=.non
 | .bool b,v=>v=.bl b
 | .int i,v=>v=.int i
 | .str x,v=>v=.str x
 | .tuple ds,v=>∃a vs,v=.ref a/\gw K H a vs/\ak K H ds vs
 | .list ds,v=>∃a vs,v=.ref a/\eK K H a vs/\ak K H ds vs
 | .dict _,_=>False
def ak(K:W.Frag)(H:Hp):List D->List V->Prop
 | [],vs=>vs=[]
 | d::ds,vs=>∃v r,vs=v::r/\Rep K H d v/\ak K H ds r
end
theorem aD{K:W.Frag}(e:aP H H')(h:gw K H a xs):gw K H' a xs:=by
 rcases h with (h|⟨o,h⟩)|h
 ·exact .inl (.inl (e _ _ h))
 ·exact .inl (.inr ⟨o,e _ _ h⟩)
 ·exact .inr h
mutual
theorem Rep.mono{K:W.Frag}{H H':Hp}(e:aP H H'):∀ {d:D}{v:V},Rep K H d v->Rep K H' d v
 | .none,_,h=>h
 | .bool _,_,h=>h
 | .int _,_,h=>h
 | .str _,_,h=>h
 | .tuple ds,_,h=>by
  simp only[Rep] at h ⊢
  obtain⟨a,vs,rfl,q,r⟩:=h
  exact⟨a,vs,rfl,aD e q,ak.mono e r⟩
 | .list ds,_,h=>by
  simp only[Rep] at h ⊢
  obtain⟨a,vs,rfl,q,r⟩:=h
  exact⟨a,vs,rfl,e.seq q,ak.mono e r⟩
 | .dict _,_,h=>h
theorem ak.mono{K:W.Frag}{H H':Hp}(e:aP H H'):∀ {ds:List D}{vs:List V},ak K H ds vs->ak K H' ds vs
 | [],_,h=>h
 | d::ds,_,h=>by
  simp only[ak] at h ⊢
  obtain⟨v,r,rfl,a,b⟩:=h
  exact⟨v,r,rfl,Rep.mono e a,ak.mono e b⟩
end
section
variable {K:W.Frag}
theorem ak.nil:ak K H [] []:=by simp[ak]
theorem ak.cons(a:Rep K H d v)(b:ak K H ds vs):ak K H (d::ds) (v::vs):=by
 simp only[ak];exact⟨v,vs,rfl,a,b⟩
theorem ak.cons_inv(h:ak K H (d::ds) vs):∃v r,vs=v::r/\Rep K H d v/\ak K H ds r:=by simpa only[ak] using h
theorem ak.nil_inv(h:ak K H [] vs):vs=[]:=by simpa only[ak] using h
theorem ak.length:∀ {ds:List D}{vs:List V},ak K H ds vs->vs.length=ds.length
 | [],_,h=>by rw[h.nil_inv];rfl
 | d::ds,_,h=>by obtain⟨v,r,rfl,_,b⟩:=h.cons_inv;simp[ak.length b]
theorem ak.get:∀ {ds:List D}{vs:List V}{i:Nat}{v:V},ak K H ds vs->vs[i]?=some v->∃d,ds[i]?=some d/\Rep K H d v
 | [],_,i,v,h,e=>by rw[h.nil_inv] at e;simp at e
 | d::ds,_,i,v,h,e=>by
  obtain⟨v',r,rfl,a,b⟩:=h.cons_inv
  cases i with
  | zero=>simp at e;subst e;exact⟨d,rfl,a⟩
  | succ i=>simp at e;obtain⟨d',h1,h2⟩:=ak.get b e;exact⟨d',by simpa using h1,h2⟩
theorem ak.getD:∀ {ds:List D}{vs:List V}{i:Nat}{d:D},ak K H ds vs->ds[i]?=some d->∃v,vs[i]?=some v/\Rep K H d v
 | [],_,i,d,h,e=>by simp at e
 | d::ds,_,i,d',h,e=>by
  obtain⟨v',r,rfl,a,b⟩:=h.cons_inv
  cases i with
  | zero=>simp at e;subst e;exact⟨v',rfl,a⟩
  | succ i=>simp at e;obtain⟨v,h1,h2⟩:=ak.getD b e;exact⟨v,by simpa using h1,h2⟩
theorem ak.append:∀ {ds es:List D}{vs us:List V},ak K H ds vs->ak K H es us->ak K H (ds++es) (vs++us)
 | [],_,_,_,h,g=>by rw[h.nil_inv];exact g
 | d::ds,_,_,_,h,g=>by obtain⟨v,r,rfl,a,b⟩:=h.cons_inv;exact ak.cons a (ak.append b g)
theorem ak.take:∀ {ds:List D}{vs:List V}(n:Nat),ak K H ds vs->ak K H (ds.take n) (vs.take n)
 | [],_,n,h=>by rw[h.nil_inv];simp[ak]
 | d::ds,_,0,h=>by simp[ak]
 | d::ds,_,n+1,h=>by obtain⟨v,r,rfl,a,b⟩:=h.cons_inv;exact ak.cons a (ak.take n b)
theorem ak.drop:∀ {ds:List D}{vs:List V}(n:Nat),ak K H ds vs->ak K H (ds.drop n) (vs.drop n)
 | [],_,n,h=>by rw[h.nil_inv];simp[ak]
 | d::ds,_,0,h=>h
 | d::ds,_,n+1,h=>by obtain⟨v,r,rfl,a,b⟩:=h.cons_inv;exact ak.drop n b
end
structure bJ(HF H HF' H':Hp):Prop where
 hh:aP H H'
 ff:aP HF HF'
 fh:aP HF' H'
 nw:∀a o,HF' a=some o->HF a=some o\/H a=none
theorem bJ.refl(s:aP HF H):bJ HF H HF H:=⟨.refl _,.refl _,s,fun _ _ e=>.inl e⟩
theorem bJ.trans(a:bJ HF H HF1 H1)(b:bJ HF1 H1 HF2 H2):bJ HF H HF2 H2 :=
 ⟨a.hh.trans b.hh,a.ff.trans b.ff,b.fh,fun x o e=>(b.nw x o e).elim (fun z=>a.nw x o z) fun z=>.inr (a.hh.free z)⟩
theorem cJ(h:H p=none):aP H (upd H p o):=fun b u e=>by rw[az (aH e h)];exact e
theorem bJ.new(s:aP HF H)(h:H p=none):bJ HF H (upd HF p o) (upd H p o):=by
 have hf:HF p=none:=s.free h
 refine⟨cJ h,cJ hf,fun b u e=>?_,fun b u e=>?_⟩
 ·by_cases hb:b=p
  ·subst hb;rw[aE] at e ⊢;exact e
  ·rw[az hb] at e ⊢;exact s b u e
 ·by_cases hb:b=p
  ·subst hb;exact .inr h
  ·rw[az hb] at e;exact .inl e
theorem bJ.own(s:aP HF H)(h:H p=none):bJ HF H HF (upd H p o) :=
 ⟨cJ h,.refl _,fun b u e=>by rw[az (aH (s b u e) h)];exact s b u e,fun _ _ e=>.inl e⟩
theorem bJ.freeze(g:bJ HF H HF1 H1)(h:H p=none)(h1:H1 p=some o)(hf:HF1 p=none):bJ HF H (upd HF1 p o) H1 :=
 ⟨g.hh,g.ff.trans (cJ hf),fun b u e=>by
  by_cases hb:b=p
  ·subst hb;rw[aE] at e;rw[h1,<- e]
  ·rw[az hb] at e;exact g.fh b u e,fun b u e=>by
  by_cases hb:b=p
  ·subst hb;exact .inr h
  ·rw[az hb] at e;exact g.nw b u e⟩
def iN:List Str:=["ways_of","turned_order","fairest"]
def fg(K:W.Frag)(HF:Hp):Prop:=∀ (f:Addr) (oc:Value) (od:Option Addr) (fd:FuncData) (sl:Array (Option Value)) (c P:Addr),K.lookup f=some ⟨oc,od,.func fd,sl⟩->fd.qualname∈iN->fd.code=.ref c->W.codeHdIn K c P=true->HF P=some (.tab (fd.qualname++".<locals>."++"<lambda>"))
theorem fg.mono{K:W.Frag}(h:fg K HF)(e:aP HF HF'):fg K HF':=fun f oc od fd sl c P a b d q=>e _ _ (h f oc od fd sl c P a b d q)
abbrev Env:=List (Option D)
structure cw(K:W.Frag)(HF:Hp)(ρ:Env)(σ:L2.St):Prop where
 get:∀ (i:Nat) (d:D),ρ[i]?=some (some d)->∃v,σ[i]?=some (some v)/\Rep K HF d v
 len:ρ.length<=σ.length
 tb:fg K HF
theorem cw.mono{K:W.Frag}(h:cw K HF ρ σ)(e:aP HF HF'):cw K HF' ρ σ:=⟨fun i d q=>let ⟨v,a,b⟩:=h.get i d q;⟨v,a,b.mono e⟩,h.len,h.tb.mono e⟩
def tD(K:W.Frag)(f:Env->Option D):TE:=fun σ H Q=>∃HF ρ d,aP HF H/\cw K HF ρ σ/\f ρ=some d/\∀v H' HF',bJ HF H HF' H'->Rep K HF' d v->Q v H'
def DE(X:Cx)(e:Expr)(f:Env->Option D):Prop:=PE X e (tD X.K f)
def tF(K:W.Frag)(f:Env->Option (List D)):TE:=fun σ H Q=>∃HF ρ ds,aP HF H/\cw K HF ρ σ/\f ρ=some ds /\
 ∀a vs H' HF',bJ HF H HF' H'->H a=none->HF' a=none->H' a=some (.lst vs)->ak K HF' ds vs->Q (.ref a) H'
def DF(X:Cx)(e:Expr)(f:Env->Option (List D)):Prop:=PE X e (tF X.K f)
def ID(K:W.Frag)(f:Env->Option Bool):TT:=fun σ H Q=>∃HF ρ b,aP HF H/\cw K HF ρ σ/\f ρ=some b/\∀H' HF',bJ HF H HF' H'->Q b H'
def DT(X:Cx)(e:Expr)(f:Env->Option Bool):Prop:=PT X e (ID X.K f)
def Mt(K:W.Frag)(f:Env->Option (List D)):TA:=fun σ H Q=>∃HF ρ ds,aP HF H/\cw K HF ρ σ/\f ρ=some ds/\∀vs H' HF',bJ HF H HF' H'->ak K HF' ds vs->Q vs H'
def DA(X:Cx)(es:List Expr)(f:Env->Option (List D)):Prop:=PA X es (Mt X.K f)
section
theorem aZ(h:PE X e t)(i:∀σ H Q,t' σ H Q->t σ H Q):PE X e t':=fun pins s σ H Q I q=>h pins s σ H Q I (i σ H Q q)
theorem sD(h:PT X e t)(i:∀σ H Q,t' σ H Q->t σ H Q):PT X e t':=fun pins s σ H Q I q=>h pins s σ H Q I (i σ H Q q)
theorem C5(h:PA X e t)(i:∀σ H Q,t' σ H Q->t σ H Q):PA X e t':=fun pos pins s σ H Q I q=>h pos pins s σ H Q I (i σ H Q q)
theorem bs(h:x.bind f=some b):∃a,x=some a/\f a=some b:=by
 cases x with
 | none=>cases h
 | some a=>exact⟨a,rfl,h⟩
theorem DF.de(h:DF X e f):DE X e (fun ρ=>(f ρ).map PyData.list):=aZ h fun σ H Q ⟨HF,ρ,d,sm,eo,hf,q⟩=>by
 have hf:(f ρ).map PyData.list=some d:=hf
 cases e1:f ρ with
 | none=>rw[e1] at hf;cases hf
 | some ds =>
  rw[e1] at hf
  obtain rfl:PyData.list ds=d:=xG hf
  refine⟨HF,ρ,ds,sm,eo,e1,fun a vs H' HF' g ha hf' h' r=>q _ _ (upd HF' a (.lst vs)) (g.freeze ha h' hf') ?_⟩
  simp only[Rep]
  exact⟨a,vs,rfl,.inl (.inl aE),r.mono (cJ hf')⟩
def ab(i:Nat):Env->Option D:=fun ρ=>(ρ[i]?).getD none
theorem Kq(i:Nat)(hN:X.N[i]?=some x)(hv:Fn X.env.scope x)(hd:(x == ("__debug__":Str))=false:=by decide)(hcd:(x == ("__classdict__":Str))=false:=by decide):DE X (.Name x pos) (ab i) :=
 aZ (mO hN hv hd hcd) fun σ H Q ⟨HF,ρ,d,sm,eo,hf,q⟩=>by
  have hf:(ρ[i]?).getD none=some d:=hf
  cases e:ρ[i]? with
  | none=>rw[e] at hf;cases hf
  | some o =>
   rw[e] at hf
   have hf:o=some d:=hf
   subst hf
   obtain⟨v,a,b⟩:=eo.get i d e
   exact⟨v,a,q v H HF (.refl sm) b⟩
def fC(d:D):Env->Option D:=fun _=>some d
theorem IF{i j pos}:DE X (.Constant (.int i) j pos) (fC (.int i)):=aZ Kh fun σ H Q ⟨HF,ρ,d,sm,eo,hf,q⟩=>by cases hf;exact q _ H HF (.refl sm) (by simp[Rep])
theorem Le{b j pos}:DE X (.Constant (.bool b) j pos) (fC (.bool b)):=aZ Lp fun σ H Q ⟨HF,ρ,d,sm,eo,hf,q⟩=>by cases hf;exact q _ H HF (.refl sm) (by simp[Rep])
theorem Ii{j pos}:DE X (.Constant .none j pos) (fC .none):=aZ JL fun σ H Q ⟨HF,ρ,d,sm,eo,hf,q⟩=>by cases hf;exact q _ H HF (.refl sm) (by simp[Rep])
theorem J6{x j pos}:DE X (.Constant (.str x) j pos) (fC (.str x)):=aZ Jv fun σ H Q ⟨HF,ρ,d,sm,eo,hf,q⟩=>by cases hf;exact q _ H HF (.refl sm) (by simp[Rep])
theorem GT(hg:Gl X x)(hm:X.mg x=some (.int i t))(hd:(x == ("__debug__":Str))=false:=by decide):DE X (.Name x pos) (fC (.int i)) :=
 aZ (Gw (v:=.int i) hg hm ⟨t,rfl⟩ hd) fun σ H Q ⟨HF,ρ,d,sm,eo,hf,q⟩=>by cases hf;exact q _ H HF (.refl sm) (by simp[Rep])
def eQ(K:W.Frag)(r:R2)(g:D->D->Option D):Prop:=∀HF H x y v1 v2 d Q,aP HF H->Rep K HF x v1->Rep K HF y v2->g x y=some d->(∀v H' HF',bJ HF H HF' H'->Rep K HF' d v->Q v H')->r v1 v2 H Q
def f2(g:D->D->Option D)(f1 f2:Env->Option D):Env->Option D:=fun ρ=>(f1 ρ).bind fun x=>(f2 ρ).bind fun y=>g x y
theorem Gi{X:Cx}{fa fb:Env->Option D}(hr:eQ X.K r g):∀σ H Q,tD X.K (f2 g fa fb) σ H Q->KY r (tD X.K fa) (tD X.K fb) σ H Q:=fun σ H Q ⟨HF,ρ,d,sm,eo,hf,q⟩=>by
 obtain⟨x,hx,hf⟩:=bs hf
 obtain⟨y,hy,hg⟩:=bs hf
 exact⟨HF,ρ,x,sm,eo,hx,fun v1 H1 HF1 g1 r1=>⟨HF1,ρ,y,g1.fh,eo.mono g1.ff,hy,fun v2 H2 HF2 g2 r2=>hr HF2 H2 x y v1 v2 d Q g2.fh (r1.mono g2.ff) r2 hg fun v H' HF' g3 r3=>q v H' HF' ((g1.trans g2).trans g3) r3⟩⟩
theorem uL(ho:il X (binaryOp op) r)(hr:eQ X.K r g)(ha:DE X a fa)(hb:DE X b fb):DE X (.BinOp a op b pos) (f2 g fa fb):=aZ (Cm ho ha hb) (Gi hr)
theorem lq(ho:il X (compareOp op) r)(hr:eQ X.K r g)(ha:DE X a fa)(hb:DE X b fb)(hm:behindInMarks op b=false):DE X (.Compare a [op] [b] pos) (f2 g fa fb):=aZ (GK ho ha hb hm) (Gi hr)
def tR(C:Int->Int->Prop)[∀i j,Decidable (C i j)](g:Int->Int->D):D->D->Option D
 | .int i,.int j=>if C i j then some (g i j) else none
 | _,_=>none
theorem DN{K:W.Frag}{C:Int->Int->Prop}[∀i j,Decidable (C i j)]{gi:Int->Int->Int}:eQ K (rI C fun i j=>.int (gi i j)) (tR C fun i j=>.int (gi i j)):=by
 intro HF H x y v1 v2 d Q sm r1 r2 hg q
 cases x<;>cases y<;>simp only[tR] at hg<;>try cases hg
 rename_i i j
 simp only[Rep] at r1 r2
 by_cases hc:C i j
 ·rw[yO hc] at hg
  cases hg
  exact⟨i,j,r1,r2,hc,q _ H HF (.refl sm) (by simp[Rep])⟩
 ·rw[yQ hc] at hg;cases hg
theorem CA{K:W.Frag}{gi:Int->Int->Int}:eQ K (Fm fun i j=>.int (gi i j)) (tR (fun _ _=>True) fun i j=>.int (gi i j)):=by
 intro HF H x y v1 v2 d Q sm r1 r2 hg q
 cases x<;>cases y<;>simp only[tR] at hg<;>try cases hg
 rename_i i j
 simp only[Rep] at r1 r2
 exact⟨i,j,r1,r2,q _ H HF (.refl sm) (by simp[Rep])⟩
theorem i4{K:W.Frag}{gi:Int->Int->Bool}:eQ K (Fm fun i j=>.bl (gi i j)) (tR (fun _ _=>True) fun i j=>.bool (gi i j)):=by
 intro HF H x y v1 v2 d Q sm r1 r2 hg q
 cases x<;>cases y<;>simp only[tR] at hg<;>try cases hg
 rename_i i j
 simp only[Rep] at r1 r2
 exact⟨i,j,r1,r2,q _ H HF (.refl sm) (by simp[Rep])⟩
noncomputable instance (i j:Int):Decidable (p9 i j):=by unfold p9;infer_instance
noncomputable instance (i j:Int):Decidable (FF i j):=by unfold FF;infer_instance
end
section
variable {X:Cx}{a b c:Expr}{fa fb fc:Env->Option D}{pos:Pos}{rest:List Expr}
def gD(fa fb:Env->Option D):Env->Option D:=fun ρ=>(fa ρ).bind fun|.bool true=>fb ρ|.bool false=>some (.bool false)|_=>none
def MZ(fa fb:Env->Option D):Env->Option D:=fun ρ=>(fa ρ).bind fun|.bool true=>some (.bool true)|.bool false=>fb ρ|_=>none
def Lo:D->Option D|.bool b=>some (.bool (!b))|_=>none
def MU(fa:Env->Option D):Env->Option D:=fun ρ=>(fa ρ).bind Lo
theorem Ie{op}(h:DE X a fa):DE X (.BoolOp op [a] pos) fa:=Jc h
theorem JV(ha:DE X a fa)(hb:DE X (.BoolOp .And (b::rest) pos) fb):DE X (.BoolOp .And (a::b::rest) pos) (gD fa fb):=aZ (Ib ha hb) fun σ H Q ⟨HF,ρ,d,sm,eo,hf,q⟩=>by
 obtain⟨x,hx,hf⟩:=bs hf
 refine⟨HF,ρ,x,sm,eo,hx,fun v1 H1 HF1 g1 r1=>?_⟩
 cases x<;>try cases hf
 rename_i k
 simp only[Rep] at r1
 refine⟨k,r1,?_⟩
 cases k with
 | true=>exact uR ⟨HF1,ρ,d,g1.fh,eo.mono g1.ff,hf,fun v H' HF' g r=>q v H' HF' (g1.trans g) r⟩
 | false=>cases hf;exact uo (q _ H1 HF1 g1 (by simp[Rep]))
theorem Li(ha:DE X a fa)(hb:DE X (.BoolOp .Or (b::rest) pos) fb):DE X (.BoolOp .Or (a::b::rest) pos) (MZ fa fb):=aZ (D9 ha hb) fun σ H Q ⟨HF,ρ,d,sm,eo,hf,q⟩=>by
 obtain⟨x,hx,hf⟩:=bs hf
 refine⟨HF,ρ,x,sm,eo,hx,fun v1 H1 HF1 g1 r1=>?_⟩
 cases x<;>try cases hf
 rename_i k
 simp only[Rep] at r1
 refine⟨k,r1,?_⟩
 cases k with
 | false=>exact uo ⟨HF1,ρ,d,g1.fh,eo.mono g1.ff,hf,fun v H' HF' g r=>q v H' HF' (g1.trans g) r⟩
 | true=>cases hf;exact uR (q _ H1 HF1 g1 (by simp[Rep]))
def gB:D->Option Bool|.bool b=>some b|_=>none
def fB(f:Env->Option D):Env->Option Bool:=fun ρ=>(f ρ).bind gB
theorem ya:∀σ H (Q:Bool->Hp->Prop),ID X.K (fB f) σ H Q->tD X.K f σ H fun x H1=>∃c,x=.bl c/\Q c H1:=fun σ H Q ⟨HF,ρ,k,sm,eo,hf,q⟩=>by
 obtain⟨x,hx,hf⟩:=bs hf
 refine⟨HF,ρ,x,sm,eo,hx,fun v1 H1 HF1 g1 r1=>?_⟩
 cases x<;>try cases hf
 simp only[Rep] at r1
 exact⟨_,r1,q H1 HF1 g1⟩
theorem Ks(h:DE X a f)(he:∀whole,isTrue a X.env whole=(do let v <- whole;standAt a.pos;holding [v] (truthy v)):=by intro _;rfl):DT X a (fB f):=sD (J2 h he) ya
theorem k4(ho:il X (compareOp op) r)(hr:eQ X.K r g)(ha:DE X a fa)(hb:DE X b fb)(hm:behindInMarks op b=false):DT X (.Compare a [op] [b] pos) (fB (f2 g fa fb)) :=
 sD (FV ho ha hb hm) fun σ H Q h=>Gi hr σ H _ (ya σ H Q h)
def nL(fa fb:Env->Option Bool):Env->Option Bool:=fun ρ=>(fa ρ).bind fun|true=>fb ρ|false=>some false
def mz(fa fb:Env->Option Bool):Env->Option Bool:=fun ρ=>(fa ρ).bind fun|true=>some true|false=>fb ρ
def bA(fa:Env->Option Bool):Env->Option Bool:=fun ρ=>(fa ρ).map (!·)
variable {ta tb:Env->Option Bool}
def DW(X:Cx)(e:Expr)(f:Env->Option Bool):Prop:=PW X e (ID X.K f)
theorem Ct(h:PW X e t)(i:∀σ H Q,t' σ H Q->t σ H Q):PW X e t':=fun wh pins s σ H Q I q=>h wh pins s σ H Q I (i σ H Q q)
theorem DW.dt(h:DW X a ta):DT X a ta:=PW.pt h
theorem Fd(ha:DT X a ta):DW X (.BoolOp .And [a] pos) ta:=Gp ha
theorem Iz(ha:DT X a ta):DW X (.BoolOp .Or [a] pos) ta:=Jq ha
theorem Jl(ha:DT X a ta)(hb:DW X (.BoolOp .And (b::rest) pos) tb):DW X (.BoolOp .And (a::b::rest) pos) (nL ta tb):=Ct (Jp ha hb) fun σ H Q ⟨HF,ρ,d,sm,eo,hf,q⟩=>by
 obtain⟨x,hx,hf⟩:=bs hf
 refine⟨HF,ρ,x,sm,eo,hx,fun H1 HF1 g1=>?_⟩
 cases x with
 | true=>exact uR ⟨HF1,ρ,d,g1.fh,eo.mono g1.ff,hf,fun H' HF' g=>q H' HF' (g1.trans g)⟩
 | false=>cases hf;exact uo (q H1 HF1 g1)
theorem KZ(ha:DT X a ta)(hb:DW X (.BoolOp .Or (b::rest) pos) tb):DW X (.BoolOp .Or (a::b::rest) pos) (mz ta tb):=Ct (Lq ha hb) fun σ H Q ⟨HF,ρ,d,sm,eo,hf,q⟩=>by
 obtain⟨x,hx,hf⟩:=bs hf
 refine⟨HF,ρ,x,sm,eo,hx,fun H1 HF1 g1=>?_⟩
 cases x with
 | false=>exact uo ⟨HF1,ρ,d,g1.fh,eo.mono g1.ff,hf,fun H' HF' g=>q H' HF' (g1.trans g)⟩
 | true=>cases hf;exact uR (q H1 HF1 g1)
theorem IG(ha:DT X a ta):DT X (.UnaryOp .Not a pos) (bA ta):=sD (IK ha) fun σ H Q ⟨HF,ρ,d,sm,eo,hf,q⟩=>by
 have hf:(ta ρ).map (!·)=some d:=hf
 cases e:ta ρ with
 | none=>rw[e] at hf;cases hf
 | some k=>rw[e] at hf;cases hf;exact⟨HF,ρ,k,sm,eo,e,fun H1 HF1 g1=>q H1 HF1 g1⟩
def Mp(tc:Env->Option Bool)(fa fb:Env->Option D):Env->Option D:=fun ρ=>(tc ρ).bind fun|true=>fa ρ|false=>fb ρ
theorem LS(hc:DT X c ta)(ha:DE X a fa)(hb:DE X b fb):DE X (.IfExp c a b pos) (Mp ta fa fb):=aZ (Dz hc ha hb) fun σ H Q ⟨HF,ρ,d,sm,eo,hf,q⟩=>by
 obtain⟨x,hx,hf⟩:=bs hf
 refine⟨HF,ρ,x,sm,eo,hx,fun H1 HF1 g1=>?_⟩
 cases x with
 | true=>exact uR ⟨HF1,ρ,d,g1.fh,eo.mono g1.ff,hf,fun v H' HF' g r=>q v H' HF' (g1.trans g) r⟩
 | false=>exact uo ⟨HF1,ρ,d,g1.fh,eo.mono g1.ff,hf,fun v H' HF' g r=>q v H' HF' (g1.trans g) r⟩
def iZ(g g':D->D->Option D)(fa fb fc:Env->Option D):Env->Option D:=fun ρ=>(fa ρ).bind fun x=>(fb ρ).bind fun y=>(g x y).bind fun|.bool true=>(fc ρ).bind fun z=>g' y z|.bool false=>some (.bool false)|_=>none
theorem As(hr:eQ X.K r g)(hr':eQ X.K r' g'):∀σ H Q,tD X.K (iZ g g' fa fb fc) σ H Q->xa r r' (tD X.K fa) (tD X.K fb) (tD X.K fc) σ H Q:=fun σ H Q ⟨HF,ρ,d,sm,eo,hf,q⟩=>by
 obtain⟨x,hx,hf⟩:=bs hf
 obtain⟨y,hy,hf⟩:=bs hf
 obtain⟨z,hz,hf⟩:=bs hf
 refine⟨HF,ρ,x,sm,eo,hx,fun v1 H1 HF1 g1 r1=>⟨HF1,ρ,y,g1.fh,eo.mono g1.ff,hy,fun v2 H2 HF2 g2 r2=>hr HF2 H2 x y v1 v2 z _ g2.fh (r1.mono g2.ff) r2 hz fun v3 H3 HF3 g3 r3=>?_⟩⟩
 cases z<;>try cases hf
 rename_i k
 simp only[Rep] at r3
 refine⟨k,r3,?_⟩
 have G:=(g1.trans g2).trans g3
 cases k with
 | false=>cases hf;exact uo (q _ H3 HF3 G (by simp[Rep]))
 | true =>
  obtain⟨w,hw,hg⟩:=bs hf
  exact uR ⟨HF3,ρ,w,G.fh,eo.mono G.ff,hw,fun v4 H4 HF4 g4 r4=>hr' HF4 H4 y w v2 v4 d Q g4.fh (r2.mono (g3.ff.trans g4.ff)) r4 hg fun v H' HF' g5 r5=>q v H' HF' ((G.trans g4).trans g5) r5⟩
theorem ES(ho:il X (compareOp op) r)(hr:eQ X.K r g)(ho':il X (compareOp op') r')(hr':eQ X.K r' g')(ha:DE X a fa)(hb:DE X b fb)(hc:DE X c fc)
  (hm:lastMarks [op,op'] [b,c]=false:=by with_unfolding_all rfl):DE X (.Compare a [op,op'] [b,c] pos) (iZ g g' fa fb fc):=aZ (D8 ho ho' ha hb hc hm) (As hr hr')
theorem CS(ho:il X (compareOp op) r)(hr:eQ X.K r g)(ho':il X (compareOp op') r')(hr':eQ X.K r' g')(ha:DE X a fa)(hb:DE X b fb)(hc:DE X c fc)
  (hm:lastMarks [op,op'] [b,c]=false:=by with_unfolding_all rfl):DT X (.Compare a [op,op'] [b,c] pos) (fB (iZ g g' fa fb fc)) :=
 sD (Ed ho ho' ha hb hc hm) fun σ H Q h=>As hr hr' σ H _ (ya σ H Q h)
def ae:Env->Option (List D):=fun _=>some []
def aa(f:Env->Option D)(g:Env->Option (List D)):Env->Option (List D):=fun ρ=>(f ρ).bind fun x=>(g ρ).map (x::·)
theorem DU:DA X [] ae:=C5 gg fun σ H Q ⟨HF,ρ,d,sm,eo,hf,q⟩=>by cases hf;exact q [] H HF (.refl sm) ak.nil
theorem Aq(he:DE X e f)(hs:DA X es g)(hst:starEach (e::es) X.env=(false,eval e X.env)::starEach es X.env:=by rfl):DA X (e::es) (aa f g) :=
 C5 (cB he hs hst) fun σ H Q ⟨HF,ρ,d,sm,eo,hf,q⟩=>by
  obtain⟨x,hx,hf⟩:=bs hf
  have hf:(g ρ).map (x::·)=some d:=hf
  cases e1:g ρ with
  | none=>rw[e1] at hf;cases hf
  | some xs =>
   rw[e1] at hf;cases hf
   exact⟨HF,ρ,x,sm,eo,hx,fun v1 H1 HF1 g1 r1=>⟨HF1,ρ,xs,g1.fh,eo.mono g1.ff,e1,fun vs H2 HF2 g2 r2=>q (v1::vs) H2 HF2 (g1.trans g2) (ak.cons (r1.mono g2.ff) r2)⟩⟩
variable {es:List Expr}{fs:Env->Option (List D)}
def small(ds:List D):Option (List D):=if ds.length<=sizeLine then some ds else none
theorem dM{ds es:List D}(h:small ds=some es):es=ds/\ds.length<=sizeLine:=by
 unfold small at h
 split at h
 ·cases h;exact⟨rfl,‹_›⟩
 ·cases h
def aM(g:Env->Option (List D)):Env->Option D:=fun ρ=>(g ρ).bind fun ds=>(small ds).map PyData.tuple
def cF(g:Env->Option (List D)):Env->Option (List D):=fun ρ=>(g ρ).bind small
theorem IS{x1}(h:DA X es fs):DE X (.Tuple es x1 pos) (aM fs):=aZ (II h) fun σ H Q ⟨HF,ρ,d,sm,eo,hf,q⟩=>by
 obtain⟨ds,hx,hf⟩:=bs hf
 have hf:(small ds).map PyData.tuple=some d:=hf
 cases e:small ds with
 | none=>rw[e] at hf;cases hf
 | some es' =>
  rw[e] at hf;cases hf
  obtain⟨rfl,hz⟩:=dM e
  refine⟨HF,ρ,_,sm,eo,hx,fun vs H1 HF1 g1 r1=>⟨by rw[r1.length];exact hz,fun p hp=>q _ _ (upd HF1 p (.tup vs)) (g1.trans (.new g1.fh hp)) ?_⟩⟩
  simp only[Rep]
  exact⟨p,vs,rfl,.inl (.inl aE),r1.mono (cJ (g1.fh.free hp))⟩
theorem IV(h:DA X es fs):DF X (.List es pos) (cF fs):=aZ (EK h) fun σ H Q ⟨HF,ρ,d,sm,eo,hf,q⟩=>by
 obtain⟨ds,hx,hf⟩:=bs hf
 obtain⟨rfl,hz⟩:=dM hf
 exact⟨HF,ρ,_,sm,eo,hx,fun vs H1 HF1 g1 r1=>⟨by rw[r1.length];exact hz,fun p hp=>q p vs _ HF1 (g1.trans (.own g1.fh hp)) (g1.hh.free hp) (g1.fh.free hp) aE r1⟩⟩
def ao:D->D->Option D
 | .tuple ds,.int i=>pY ds i
 | .list ds,.int i=>pY ds i
 | _,_=>none
theorem vv{K:W.Frag}(r:ak K HF ds vs)(h:pY ds i=some d):∃v,pY vs i=some v/\Rep K HF d v:=by
 unfold pY at h ⊢
 rw[r.length]
 obtain⟨j,hj,h⟩:=bs h
 obtain⟨v,a,b⟩:=r.getD h
 exact⟨v,by rw[hj];exact a,b⟩
theorem Km{K:W.Frag}:eQ K (Nt K) ao:=by
 intro HF H x y v1 v2 d Q sm r1 r2 hg q
 cases x<;>cases y<;>simp only[ao] at hg<;>try cases hg
 ·simp only[Rep] at r1 r2
  obtain⟨a,vs,rfl,hs,r⟩:=r1
  obtain⟨v,hv,rv⟩:=vv r hg
  exact .inl ⟨a,vs,_,v,rfl,r2,sm.seq hs,hv,q v H HF (.refl sm) rv⟩
 ·simp only[Rep] at r1 r2
  obtain⟨a,vs,rfl,hs,r⟩:=r1
  obtain⟨v,hv,rv⟩:=vv r hg
  exact .inr (.inl ⟨a,vs,_,v,rfl,r2,aD sm hs,hv,q v H HF (.refl sm) rv⟩)
theorem KR(ha:DE X a fa)(hb:DE X b fb)(hs:n8 b:=by intro _ _;rfl):DE X (.Subscript a b pos) (f2 ao fa fb):=aZ (HA EF ha hb hs) (Gi Km)
mutual
theorem iP{pins:List (Addr×Obj)}{σ:L2.St}{H HF:Hp}{s:Shared}(I:Inv X pins σ H s)(sm:aP HF H):∀ {d:D}{v:V}{u:Value},Rep X.K HF d v->RelV v u->∃as,Reads s.heap u d as
 | .none,_,_,h,r=>by simp only[Rep] at h;subst h;cases r;exact⟨_,.none⟩
 | .bool b,_,_,h,r=>by simp only[Rep] at h;subst h;cases r;exact⟨_,.bool b⟩
 | .int i,_,_,h,r=>by simp only[Rep] at h;subst h;obtain⟨t,rfl⟩:=r;exact⟨_,.int i t⟩
 | .str i,_,_,h,r=>by simp only[Rep] at h;subst h;obtain⟨t,rfl⟩:=r;exact⟨_,.str i t⟩
 | .tuple ds,_,_,h,r=>by
  simp only[Rep] at h
  obtain⟨a,vs,rfl,hs,rr⟩:=h
  cases r
  obtain⟨its,rv,⟨o,ho,hc,n,hd⟩,_⟩:=I.tuple (aD sm hs)
  obtain⟨as,q⟩:=nc I sm rr rv
  exact⟨as,.tuple ho hc hd (by simpa using q)⟩
 | .list ds,_,_,h,r=>by
  simp only[Rep] at h
  obtain⟨a,vs,rfl,hs,rr⟩:=h
  cases r
  obtain⟨its,rv,pl,_⟩:=I.list (sm.seq hs)
  obtain⟨o,ho,hc,n,hd⟩:=pl.isList
  obtain⟨as,q⟩:=nc I sm rr rv
  exact⟨_,.list ho hc hd (by simpa using q)⟩
 | .dict _,_,_,h,r=>by simp only[Rep] at h
theorem nc{pins:List (Addr×Obj)}{σ:L2.St}{H HF:Hp}{s:Shared}(I:Inv X pins σ H s)(sm:aP HF H):∀ {ds:List D}{vs:List V}{us:List Value},ak X.K HF ds vs->aG vs us->∃as,ReadsAll s.heap us ds as
 | [],_,_,h,r=>by rw[h.nil_inv] at r;cases r;exact⟨_,.nil⟩
 | d::ds,_,_,h,r=>by
  obtain⟨v,vr,rfl,a,b⟩:=h.cons_inv
  cases r with
  | cons r rr =>
   obtain⟨as,q⟩:=iP I sm a r
   obtain⟨bs,p⟩:=nc I sm b rr
   exact⟨_,.cons q p⟩
end
def MS(K:W.Frag)(g:D->D->Option Bool):R2:=fun v1 v2 H Q=>∃HF x y k,aP HF H/\Rep K HF x v1/\Rep K HF y v2/\g x y=some k/\Q (.bl k) H
theorem tP{K:W.Frag}:eQ K (MS K g) (fun x y=>(g x y).map PyData.bool):=by
 intro HF H x y v1 v2 d Q sm r1 r2 hg q
 have hg:(g x y).map PyData.bool=some d:=hg
 cases e:g x y with
 | none=>rw[e] at hg;cases hg
 | some k=>rw[e] at hg;cases hg;exact⟨HF,x,y,k,sm,r1,r2,e,q _ H HF (.refl sm) (by simp[Rep])⟩
def JD(x y:D):Option Bool:=if SeqAt.shaped x=true/\SeqAt.shaped y=true then some (PyData.eqv x y) else none
def Kx(x y:D):Option Bool:=if SeqAt.shaped x=true/\SeqAt.shaped y=true then some (!PyData.eqv x y) else none
theorem Eh(hu:X.A.units+64 < cLine):il X (compareOp .Eq) (MS X.K JD):=by
 intro pins s σ H v1 v2 u1 u2 Q I rx ry h
 obtain⟨HF,x,y,k,sm,r1,r2,hg,q⟩:=h
 unfold JD at hg
 split at hg<;>cases hg
 rename_i hh
 obtain⟨as,ra⟩:=iP I sm r1 rx
 obtain⟨bs,rb⟩:=iP I sm r2 ry
 exact eq_dataH ra rb hh.1 hh.2 hu ⟨.bl _,H,I,rfl,q⟩
theorem EY(hu:X.A.units+64 < cLine):il X (compareOp .NotEq) (MS X.K Kx):=by
 intro pins s σ H v1 v2 u1 u2 Q I rx ry h
 obtain⟨HF,x,y,k,sm,r1,r2,hg,q⟩:=h
 unfold Kx at hg
 split at hg<;>cases hg
 rename_i hh
 obtain⟨as,ra⟩:=iP I sm r1 rx
 obtain⟨bs,rb⟩:=iP I sm r2 ry
 exact ne_dataH ra rb hh.1 hh.2 hu ⟨.bl _,H,I,rfl,q⟩
def items:D->Option (List D)|.tuple ds=>some ds|.list ds=>some ds|_=>none
end
def LR(K:W.Frag)(n:Nat)(m:List D->Option D):Sp:=fun vs H Q _=>∃HF ds d,aP HF H/\fg K HF/\ak K HF ds vs/\ds.length=n/\m ds=some d/\∀v H' HF',bJ HF H HF' H'->Rep K HF' d v->Q v H'
structure ET(P:Program)(w:World)(K:W.Frag)(mg:Str->Option Value)(base:Heap)(k:Nat)(x:Str)(n:Nat)(m:List D->Option D):Prop where
 ex:∃ (f:Addr) (fd:FuncData) (ps:List Str),oW P w K mg base Ky k f fd ps (LR K n m)/\mg x=some (.ref f)/\W.keepIn K (.ref f)=true/\Binds K fd ps []
theorem ET.mono{K:W.Frag}(F:ET P w K mg base k x n m)(h:k<=j):ET P w K mg base j x n m:=by
 obtain⟨f,fd,ps,a,b,c,d⟩:=F.ex
 exact⟨f,fd,ps,a.mono h,b,c,d⟩
section
def ah(n:Nat)(m:List D->Option D)(fs:Env->Option (List D)):Env->Option D:=fun ρ=>(fs ρ).bind fun ds=>if ds.length=n then m ds else none
theorem GO(F:ET X.prog X.w X.K X.mg X.base k x n m)(hr:eD k X.A)(hg:Gl X x)(ha:DA X (e::es) fs)(hdb:(x == ("__debug__":Str))=false:=by decide)
  (he:starEach (e::es) X.env=(false,eval e X.env)::starEach es X.env:=by rfl) (hpl:(backTo pos (starEach es X.env)).any (·.1)=false:=by rfl):DE X (.Call (.Name x p) (e::es) [] pos) (ah n m fs):=by
 obtain⟨f,fd,ps,ok,hm,hk,hb⟩:=F.ex
 refine aZ (FI (E:=E0) ok hr hg hm hk hb .nil Lk ha hdb he hpl) fun σ H Q ⟨HF,ρ,d,sm,eo,hf,q⟩=>?_
 obtain⟨ds,hx,hf⟩:=bs hf
 split at hf
 ·rename_i hl
  exact⟨HF,ρ,ds,sm,eo,hx,fun vs H1 HF1 g1 r1=>⟨HF1,ds,d,g1.fh,eo.tb.mono g1.ff,by rw[qJ];exact r1,hl,hf,fun v H' HF' g r=>q v H' HF' (g1.trans g) r⟩⟩
 ·cases hf
def CG(K:W.Frag)(r:List V->Hp->VK->Prop)(g:List D->Option D):Prop:=∀HF H ds vs d Q,aP HF H->ak K HF ds vs->g ds=some d->(∀v H' HF',bJ HF H HF' H'->Rep K HF' d v->Q v H')->r vs H Q
def aX(g:List D->Option D)(fs:Env->Option (List D)):Env->Option D:=fun ρ=>(fs ρ).bind g
theorem K9{X:Cx}{fs:Env->Option (List D)}(hs:CG X.K r g):∀σ H Q,tD X.K (aX g fs) σ H Q->Mb r (Mt X.K fs) σ H Q:=fun σ H Q ⟨HF,ρ,d,sm,eo,hf,q⟩=>by
 obtain⟨ds,hx,hf⟩:=bs hf
 exact⟨HF,ρ,ds,sm,eo,hx,fun vs H1 HF1 g1 r1=>hs HF1 H1 ds vs d Q g1.fh r1 hf fun v H' HF' g2 r2=>q v H' HF' (g1.trans g2) r2⟩
def AD(K:W.Frag)(r:List V->Hp->VK->Prop)(g:List D->Option (List D)):Prop:=∀HF H ds vs es Q,aP HF H->ak K HF ds vs->g ds=some es ->
 (∀a us H' HF',bJ HF H HF' H'->H a=none->HF' a=none->H' a=some (.lst us)->ak K HF' es us->Q (.ref a) H')->r vs H Q
def fF(g:List D->Option (List D))(fs:Env->Option (List D)):Env->Option (List D):=fun ρ=>(fs ρ).bind g
theorem HQ{X:Cx}{fs:Env->Option (List D)}(hs:AD X.K r g):∀σ H Q,tF X.K (fF g fs) σ H Q->Mb r (Mt X.K fs) σ H Q:=fun σ H Q ⟨HF,ρ,d,sm,eo,hf,q⟩=>by
 obtain⟨ds,hx,hf⟩:=bs hf
 exact⟨HF,ρ,ds,sm,eo,hx,fun vs H1 HF1 g1 r1=>hs HF1 H1 ds vs d Q g1.fh r1 hf fun a us H' HF' g2 ha hf' h' r2=>q a us H' HF' (g1.trans g2) (g1.hh.free ha) hf' h' r2⟩
structure nO(X:Cx)(x:Str)(v:Value):Prop where
 gl:Gl X x
 mg:X.mg x=none
 bt:bootBuiltins x=some v
theorem iX{id:String}(hc:dy X (.builtin id) r)(hs:CG X.K r g)(B:nO X x (.builtin id))(ha:DA X (e::es) fs)(hn:x≠"__name__":=by decide)(hdb:(x == ("__debug__":Str))=false:=by decide)
  (he:starEach (e::es) X.env=(false,eval e X.env)::starEach es X.env:=by rfl) (hpl:(backTo pos (starEach es X.env)).any (·.1)=false:=by rfl):DE X (.Call (.Name x p) (e::es) [] pos) (aX g fs) :=
 aZ (ml hc B.gl B.mg B.bt ha hn hdb he hpl) (K9 hs)
theorem vc{id:String}(hc:dy X (.builtin id) r)(hs:AD X.K r g)(B:nO X x (.builtin id))(ha:DA X (e::es) fs)(hn:x≠"__name__":=by decide)(hdb:(x == ("__debug__":Str))=false:=by decide)
  (he:starEach (e::es) X.env=(false,eval e X.env)::starEach es X.env:=by rfl) (hpl:(backTo pos (starEach es X.env)).any (·.1)=false:=by rfl):DF X (.Call (.Name x p) (e::es) [] pos) (fF g fs) :=
 aZ (ml hc B.gl B.mg B.bt ha hn hdb he hpl) (HQ hs)
theorem Bs(hc:dy X (.type T) r)(hs:CG X.K r g)(B:nO X x (.type T))(ha:DA X (e::es) fs)(hn:x≠"__name__":=by decide)(hdb:(x == ("__debug__":Str))=false:=by decide)
  (he:starEach (e::es) X.env=(false,eval e X.env)::starEach es X.env:=by rfl) (hpl:(backTo pos (starEach es X.env)).any (·.1)=false:=by rfl):DE X (.Call (.Name x p) (e::es) [] pos) (aX g fs) :=
 aZ (mZ hc B.gl B.mg B.bt ha hn hdb he hpl) (K9 hs)
theorem BV(hc:dy X (.type T) r)(hs:AD X.K r g)(B:nO X x (.type T))(ha:DA X (e::es) fs)(hn:x≠"__name__":=by decide)(hdb:(x == ("__debug__":Str))=false:=by decide)
  (he:starEach (e::es) X.env=(false,eval e X.env)::starEach es X.env:=by rfl) (hpl:(backTo pos (starEach es X.env)).any (·.1)=false:=by rfl):DF X (.Call (.Name x p) (e::es) [] pos) (fF g fs) :=
 aZ (mZ hc B.gl B.mg B.bt ha hn hdb he hpl) (HQ hs)
def fN:D->Option (List D)|.tuple ds=>some ds|.list ds=>some ds|_=>none
def oneOf:List D->Option D|[d]=>some d|_=>none
theorem dP(h:oneOf ds=some d):ds=[d]:=by
 cases ds with
 | nil=>cases h
 | cons x r=>cases r with
  | nil=>cases h;rfl
  | cons _ _=>cases h
theorem k6(h:fN d=some ds):d=.tuple ds\/d=.list ds:=by
 cases d<;>cases h
 ·exact .inr rfl
 ·exact .inl rfl
def ck:List D->Option (List D):=fun ds=>(oneOf ds).bind fN
theorem fV{ds es:List D}(h:ck ds=some es):ds=[.tuple es]\/ds=[.list es]:=by
 obtain⟨d,h1,h2⟩:=bs h
 rw[dP h1]
 rcases k6 h2 with rfl|rfl
 ·exact .inl rfl
 ·exact .inr rfl
def bo:List D->Option D:=fun ds=>(ck ds).map fun es=>.int es.length
theorem af{α β:Type}{x:Option α}{f:α->β}{b:β}(h:x.map f=some b):∃a,x=some a/\f a=b:=by
 cases x with
 | none=>cases h
 | some a=>exact⟨a,rfl,xG h⟩
theorem Ha{K:W.Frag}:CG K (fun xs H Q=>∃p ys,xs=[.ref p]/\(eK K H p ys\/gw K H p ys)/\Q (.int ys.length) H) bo:=by
 intro HF H ds vs d Q sm r hg q
 obtain⟨es,h1,rfl⟩:=af hg
 rcases fV h1 with rfl|rfl
 all_goals
  obtain⟨v,r',rfl,a,b⟩:=r.cons_inv
  rw[b.nil_inv]
  simp only[Rep] at a
  obtain⟨p,us,rfl,h,rr⟩:=a
 ·exact⟨p,us,rfl,.inr (aD sm h),q _ H HF (.refl sm) (by simp[Rep,rr.length])⟩
 ·exact⟨p,us,rfl,.inl (sm.seq h),q _ H HF (.refl sm) (by simp[Rep,rr.length])⟩
theorem JH(B:nO X "len" (.builtin "len"))(ha:DA X [e] fs)(he:starEach [e] X.env=(false,eval e X.env)::starEach [] X.env:=by rfl):DE X (.Call (.Name "len" p) [e] [] pos) (aX bo fs) :=
 iX sx Ha B ha (by decide) (by decide) he rfl
theorem Cn{K:W.Frag}:AD K (fun xs H Q=>∃p ys,xs=[.ref p]/\(eK K H p ys\/gw K H p ys)/\∀l,H l=none->Q (.ref l) (upd H l (.lst ys))) ck:=by
 intro HF H ds vs d Q sm r hg q
 rcases fV hg with rfl|rfl
 all_goals
  obtain⟨v,r',rfl,a,b⟩:=r.cons_inv
  rw[b.nil_inv]
  simp only[Rep] at a
  obtain⟨p,us,rfl,h,rr⟩:=a
 ·exact⟨p,us,rfl,.inr (aD sm h),fun l hl=>q l us _ HF (.own sm hl) hl (sm.free hl) aE rr⟩
 ·exact⟨p,us,rfl,.inl (sm.seq h),fun l hl=>q l us _ HF (.own sm hl) hl (sm.free hl) aE rr⟩
theorem GE(B:nO X "list" (.type "list"))(ha:DA X [e] fs)(he:starEach [e] X.env=(false,eval e X.env)::starEach [] X.env:=by rfl):DF X (.Call (.Name "list" p) [e] [] pos) (fF ck fs) :=
 BV tN Cn B ha (by decide) (by decide) he rfl
theorem dI{K:W.Frag}(h:HF l=none)(r:ak K HF ds vs):Rep K (upd HF l (.tup vs)) (.tuple ds) (.ref l):=by
 simp only[Rep];exact⟨l,vs,rfl,.inl (.inl aE),r.mono (cJ h)⟩
theorem Bq{K:W.Frag}:CG K (fun xs H Q=>∃p ys,xs=[.ref p]/\((eK K H p ys/\∀l,H l=none->Q (.ref l) (upd H l (.tup ys)))\/(gw K H p ys/\Q (.ref p) H))) (fun ds=>(ck ds).map PyData.tuple):=by
 intro HF H ds vs d Q sm r hg q
 obtain⟨es,h1,rfl⟩:=af hg
 rcases fV h1 with rfl|rfl
 all_goals
  obtain⟨v,r',rfl,a,b⟩:=r.cons_inv
  rw[b.nil_inv]
  have a':=a
  simp only[Rep] at a
  obtain⟨p,us,rfl,h,rr⟩:=a
 ·exact⟨p,us,rfl,.inr ⟨aD sm h,q _ H HF (.refl sm) a'⟩⟩
 ·exact⟨p,us,rfl,.inl ⟨sm.seq h,fun l hl=>q _ _ _ (.new sm hl) (dI (sm.free hl) rr)⟩⟩
theorem C9(B:nO X "tuple" (.type "tuple"))(ha:DA X [e] fs)(he:starEach [e] X.env=(false,eval e X.env)::starEach [] X.env:=by rfl):DE X (.Call (.Name "tuple" p) [e] [] pos) (aX (fun ds=>(ck ds).map PyData.tuple) fs) :=
 Bs qc Bq B ha (by decide) (by decide) he rfl
def gm:D->String|.none=>"NoneType" | .bool _=>"bool" | .int _=>"int" | .str _=>"str" | .tuple _=>"tuple" | .list _=>"list" | .dict _=>"dict"
def su(a b:String):Option Bool:=if ((Value.type a) == (Value.type b))=true then some true else if W.kitMeta b=true then (fastBuiltinMro a).map (·.contains (Value.type b)) else none
theorem G7:∀a∈["NoneType","bool","int","str","tuple","list"],su a "int"=some (a == "int"||a == "bool"):=by decide +kernel
theorem EW:∀a∈["NoneType","bool","int","str","tuple","list"],su a "bool"=some (a == "bool"):=by decide +kernel
theorem kit_tuple:∀a∈["NoneType","bool","int","str","tuple","list"],su a "tuple"=some (a == "tuple"):=by decide +kernel
theorem Di{A:Around}{E:Value->Shared->Prop}(I:Inv X pins σ H s)(sm:aP HF H)(r:Rep X.K HF d v)(rv:RelV v u)
  (e:su (gm d) T=some k) (h:∀tk,Q (.bool k) { s with toks:=tk }):wpAny (model X.prog X.w) A (call (.builtin "isinstance") [u,.type T]) Q E s:=by
 have e':W.kitOne X.K (.type (gm d)) (.type T)=some k:=e
 cases d<;>simp only[Rep] at r
 ·subst r;cases rv;exact W.kia_one W.kitx_none I.kIn True.intro e' (fun z=>nomatch z) h
 ·subst r;cases rv;exact W.kia_one W.kitx_bool I.kIn True.intro e' (fun z=>nomatch z) h
 ·subst r;obtain⟨t,rfl⟩:=rv;exact W.kia_one W.kitx_int I.kIn True.intro e' (fun z=>nomatch z) h
 ·subst r;obtain⟨t,rfl⟩:=rv;exact W.kia_one W.kitx_str I.kIn True.intro e' (fun z=>nomatch z) h
 ·obtain⟨a,vs,rfl,hs,rr⟩:=r
  cases rv
  obtain⟨its,rv,pl,_⟩:=I.list (sm.seq hs)
  obtain⟨o,ho,hc,n,hd⟩:=pl.isList
  exact W.kia_one W.kitx_list I.kIn ⟨o,ho,hc⟩ e' (fun z=>nomatch z) h
 ·obtain⟨a,vs,rfl,hs,rr⟩:=r
  cases rv
  obtain⟨its,rv,⟨o,ho,hc,n,hd⟩,_⟩:=I.tuple (aD sm hs)
  exact W.kia_one W.kitx_tuple I.kIn ⟨o,ho,hc⟩ e' (fun z=>nomatch z) h
def HJ(T:String)(f:Env->Option D):Env->Option D:=fun ρ=>(f ρ).bind fun d=>(su (gm d) T).map PyData.bool
theorem KH(B:nO X "isinstance" (.builtin "isinstance"))(C:nO X xT (.type T))(h:DE X e f)(hn:xT≠"__name__":=by decide)(hd:(xT == ("__debug__":Str))=false:=by decide)
  (he:starEach [e,.Name xT pT] X.env=(false,eval e X.env)::starEach [.Name xT pT] X.env:=by rfl):DE X (.Call (.Name "isinstance" p) [e,.Name xT pT] [] pos) (HJ T f):=by
 have hc:dy X (.builtin "isinstance") (fun xs H Q=>∃HF d v k,xs=[v,.ty T]/\aP HF H/\Rep X.K HF d v/\su (gm d) T=some k/\Q (.bl k) H):=by
  intro pins s σ H xs us Q I r h
  obtain⟨HF,d,v,k,rfl,sm,rp,hk,q⟩:=h
  cases r with
  | cons ra rr =>
   cases rr with
   | cons rb rn =>
    cases rn
    cases rb
    exact Di I sm rp ra hk fun tk=>⟨.bl k,H,I.tok _,rfl,q⟩
 refine aZ (ml hc B.gl B.mg B.bt (cB h (cB (F5 (v:=.ty T) C.gl C.mg C.bt rfl hn hd) gg) he) (by decide) (by decide) he rfl) fun σ H Q ⟨HF,ρ,d,sm,eo,hf,q⟩=>?_
 obtain⟨x,hx,hf⟩:=bs hf
 obtain⟨k,hk,rfl⟩:=af hf
 exact⟨HF,ρ,x,sm,eo,hx,fun v1 H1 HF1 g1 r1=>⟨HF1,x,v1,k,rfl,g1.fh,r1,hk,q _ H1 HF1 g1 (by simp[Rep])⟩⟩
def GY:D->D->Option D
 | .tuple xs,.tuple ys=>(small (xs++ys)).map PyData.tuple
 | _,_=>none
def zu(K:W.Frag):R2:=fun x y H Q=>∃a b xs ys,x=.ref a/\y=.ref b/\gw K H a xs/\gw K H b ys/\xs.length+ys.length<=sizeLine /\
 (xs=[]->Q (.ref b) H)/\(ys=[]->Q (.ref a) H)/\(∀p,H p=none->Q (.ref p) (upd H p (.tup (xs++ys))))
theorem BB:il X (binaryOp .Add) (zu X.K):=by
 intro pins s σ H x y v u Q I rx ry h
 obtain⟨a,b,xs,ys,rfl,rfl,ha,hb,hz,q0,q1,q2⟩:=h
 by_cases hx:xs=[]
 ·cases rx
  cases ry
  obtain⟨its,r1,p1,_⟩:=I.tuple ha
  obtain⟨its2,r2,p2,_⟩:=I.tuple hb
  obtain⟨⟨cls,dd,data,sl⟩,ho,hc,n,hd⟩:=id p1
  obtain⟨⟨cls2,dd2,data2,sl2⟩,ho2,hc2,n2,hd2⟩:=id p2
  simp only at hc hd hc2 hd2
  subst hc hd hc2 hd2
  have e:its=[]:=(L2.aG.nil_iff r1).mpr hx
  exact wM ⟨_,ho,rfl⟩ ⟨_,ho2,rfl⟩ noFill_tuple_add seq_tuple_add vM vI (vG _ _)
   (tuple_addW0 a b its.toArray its2.toArray n n2 dd dd2 sl sl2 (by simp[e])) ⟨ho,ho2,⟨.ref b,H,I,rfl,q0 hx⟩⟩
 ·exact FR pins s σ H _ _ v u Q I rx ry ⟨a,b,xs,ys,rfl,rfl,ha,hb,hx,hz,q1,fun _ p hp=>q2 p hp⟩
theorem GV{K:W.Frag}:eQ K (zu K) GY:=by
 intro HF H x y v1 v2 d Q sm r1 r2 hg q
 cases x<;>cases y<;>simp only[GY] at hg<;>try cases hg
 rename_i xs ys
 obtain⟨es,h1,rfl⟩:=af hg
 obtain⟨rfl,hz⟩:=dM h1
 have r1':=r1
 have r2':=r2
 simp only[Rep] at r1 r2
 obtain⟨a,vs,rfl,ha,ra⟩:=r1
 obtain⟨b,us,rfl,hb,rb⟩:=r2
 refine⟨a,b,vs,us,rfl,rfl,aD sm ha,aD sm hb,by rw[ra.length,rb.length,<- zQ];exact hz,fun e=>?_,fun e=>?_,fun p hp=>q _ _ _ (.new sm hp) (dI (sm.free hp) (ra.append rb))⟩
 ·have:xs=[]:=by have:=ra.length;rw[e] at this;exact List.length_eq_zero_iff.mp this.symm
  subst this
  exact q _ H HF (.refl sm) r2'
 ·have:ys=[]:=by have:=rb.length;rw[e] at this;exact List.length_eq_zero_iff.mp this.symm
  subst this
  rw[qJ] at q
  exact q _ H HF (.refl sm) r1'
end
structure qm(K:W.Frag)(J:It)(HF:Hp)(ds:List D):Prop where
 go:∀i d H₁ HF₁,ds[i]?=some d->aP HF HF₁->aP HF₁ H₁->J.go i H₁/\∀x H₂,J.yld i H₁ x H₂->∃HF₂,bJ HF₁ H₁ HF₂ H₂/\Rep K HF₂ d x
 stop:∀H₁ HF₁,aP HF HF₁->aP HF₁ H₁->J.stop ds.length H₁
def Nu(K:W.Frag)(f:Env->Option (List D)):TI:=fun σ H R=>∃HF ρ ds,aP HF H/\cw K HF ρ σ/\f ρ=some ds/\∀J H' HF',bJ HF H HF' H'->qm K J HF' ds->R J H'
def DI(X:Cx)(tg iter:Expr)(f:Env->Option (List D)):Prop:=PI X tg iter (Nu X.K f)
theorem A4{K:W.Frag}(h:eK K HF a vs)(r:ak K HF ds vs):qm K (Ms K a) HF ds where
 go:=fun i d H₁ HF₁ e s1 s2=>by
  obtain⟨v,hv,rv⟩:=r.getD e
  have q:=s2.seq (s1.seq h)
  refine⟨⟨vs,v,q,hv⟩,fun x H₂ ⟨e2,hy⟩=>⟨HF₁,by rw[e2];exact .refl s2,?_⟩⟩
  have:=hy vs q
  rw[hv] at this
  cases this
  exact rv.mono s1
 stop:=fun H₁ HF₁ s1 s2=>⟨vs,s2.seq (s1.seq h),by rw[r.length];exact yP _⟩
theorem DH{K:W.Frag}(h:gw K HF a vs)(r:ak K HF ds vs):qm K (MX K a) HF ds where
 go:=fun i d H₁ HF₁ e s1 s2=>by
  obtain⟨v,hv,rv⟩:=r.getD e
  have q:=aD s2 (aD s1 h)
  refine⟨⟨vs,v,q,hv⟩,fun x H₂ ⟨e2,hy⟩=>⟨HF₁,by rw[e2];exact .refl s2,?_⟩⟩
  have:=hy vs q
  rw[hv] at this
  cases this
  exact rv.mono s1
 stop:=fun H₁ HF₁ s1 s2=>⟨vs,aD s2 (aD s1 h),by rw[r.length];exact yP _⟩
theorem ye{K:W.Frag}{lo:Int}:qm K (L4 lo n) HF ((List.range n).map fun i=>PyData.int (lo+(i:Nat))) where
 go:=fun i d H₁ HF₁ e s1 s2=>by
  rw[zR] at e
  obtain⟨j,hj,rfl⟩:=af e
  obtain⟨hi,hj'⟩:=List.getElem?_eq_some_iff.mp hj
  have hi':i < n:=by simpa using hi
  have:j=i:=by rw[<- hj'];simp
  subst this
  exact⟨hi',fun x H₂ ⟨e2,hx⟩=>⟨HF₁,by rw[e2];exact .refl s2,by simp[Rep,hx]⟩⟩
 stop:=fun H₁ HF₁ s1 s2=>by
  show n<=_
  simp
section
variable {X:Cx}{tg l e:Expr}{f:Env->Option D}{fs:Env->Option (List D)}{pos p:Pos}
theorem sG(h:PI X tg l t)(i:∀σ H R,t' σ H R->t σ H R):PI X tg l t':=fun pins s σ H R I q=>h pins s σ H R I (i σ H R q)
theorem JY(hl:PE X l tl):PI X tg l (fun σ H R=>tl σ H fun x H1=>∃a,x=.ref a/\((∃xs,eK X.K H1 a xs/\R (Ms X.K a) H1)\/∃xs,gw X.K H1 a xs/\R (MX X.K a) H1)):=by
 intro pins s σ H R I h
 refine bZ (hl pins s σ H _ I h) fun v s1 ⟨x,H1,I1,r1,q1⟩=>?_
 obtain⟨a,e,q⟩:=q1
 subst e
 cases r1
 rcases q with ⟨xs,hq,q⟩|⟨xs,hq,q⟩
 ·obtain⟨its,rv,pl,hz⟩:=I1.list hq
  refine qN pl.isList ⟨s1.heap.objs.size,[s1.heap.objs.size],_,_,H1,rfl,I1.kept (t':=s1.toks) fun b o e=>zW _ e,BK a _,⟨_,zZ _ rfl,rfl,rfl⟩,fun b hb=>?_,q⟩
  cases List.mem_singleton.mp hb
  exact I1.fpOk (yP _) I1.fresh
 ·obtain⟨its,rv,pl,hz⟩:=I1.tuple hq
  refine xV (show s1.heap.IsTuple a its.toArray from pl) ⟨s1.heap.objs.size,[s1.heap.objs.size],_,_,H1,rfl,I1.kept (t':=s1.toks) fun b o e=>zW _ e,yt a _,⟨_,zZ _ rfl,rfl,rfl⟩,fun b hb=>?_,q⟩
  cases List.mem_singleton.mp hb
  exact I1.fpOk (yP _) I1.fresh
def aQ(f:Env->Option D):Env->Option (List D):=fun ρ=>(f ρ).bind fN
theorem EV(h:DE X l f):DI X tg l (aQ f):=sG (JY h) fun σ H R ⟨HF,ρ,ds,sm,eo,hf,q⟩=>by
 obtain⟨x,hx,hf⟩:=bs hf
 refine⟨HF,ρ,x,sm,eo,hx,fun v1 H1 HF1 g1 r1=>?_⟩
 rcases k6 hf with rfl|rfl
 ·simp only[Rep] at r1
  obtain⟨a,vs,rfl,hs,rr⟩:=r1
  exact⟨a,rfl,.inr ⟨vs,aD g1.fh hs,q _ H1 HF1 g1 (DH hs rr)⟩⟩
 ·simp only[Rep] at r1
  obtain⟨a,vs,rfl,hs,rr⟩:=r1
  exact⟨a,rfl,.inl ⟨vs,g1.fh.seq hs,q _ H1 HF1 g1 (A4 hs rr)⟩⟩
def uY(i:Int):Bool:=decide (-(2 ^ 62)<=i)&&decide (i < 2 ^ 62)
def kq:List D->Option (List D)
 | [.int j]=>if uY j then some ((List.range j.toNat).map fun i=>PyData.int ((i:Nat):Int)) else none
 | _=>none
theorem uv(h:kq ds=some es):∃j,ds=[.int j]/\uY j=true/\es=(List.range j.toNat).map fun i=>PyData.int ((i:Nat):Int):=by
 unfold kq at h
 split at h
 ·split at h
  ·cases h;exact⟨_,rfl,‹_›,rfl⟩
  ·cases h
 ·cases h
def bq(fs:Env->Option (List D)):Env->Option (List D):=fun ρ=>(fs ρ).bind kq
theorem Dr(B:nO X "range" (.type "range"))(h:DA X [e] fs)(hs:starEach [e] X.env=[(false,eval e X.env)]:=by rfl):DI X tg (.Call (.Name "range" p) [e] [] pos) (bq fs) :=
 sG (B7 B.gl B.mg h hs) fun σ H R ⟨HF,ρ,ds,sm,eo,hf,q⟩=>by
  obtain⟨x,hx,hf⟩:=bs hf
  obtain⟨j,rfl,hj,rfl⟩:=uv hf
  refine⟨HF,ρ,_,sm,eo,hx,fun vs H1 HF1 g1 r1=>?_⟩
  obtain⟨v,r,rfl,a,b⟩:=r1.cons_inv
  rw[b.nil_inv]
  simp only[Rep] at a
  subst a
  unfold uY at hj
  rw[zI] at hj
  refine⟨j,rfl,yT hj.1,yT hj.2,q _ H1 HF1 g1 ?_⟩
  have:=ye (K:=X.K) (HF:=HF1) (lo:=0) (n:=j.toNat)
  simpa using this
def Md(K:W.Frag)(f:Env->D->Option Env):TG:=fun v σ H Q=>∃HF ρ d ρ',aP HF H/\cw K HF ρ σ/\Rep K HF d v/\f ρ d=some ρ'/\∀σ',cw K HF ρ' σ'->cw K HF ρ σ'->Q σ' H
def DG(X:Cx)(tg:Expr)(f:Env->D->Option Env):Prop:=PG X tg (Md X.K f)
theorem oQ(h:PG X tg t)(i:∀v σ H Q,t' v σ H Q->t v σ H Q):PG X tg t':=fun pins s σ H v u Q I r q=>h pins s σ H v u Q I r (i v σ H Q q)
def isFree(ρ:Env)(i:Nat):Bool:=((ρ[i]?).getD none).isNone
theorem hV{K:W.Frag}(eo:cw K HF ρ σ)(r:Rep K HF d v):cw K HF (ρ.set i (some d)) (σ.set i (some v)):=by
 refine⟨fun j e h=>?_,by rw[yE,yE];exact eo.len,eo.tb⟩
 rw[xM] at h ⊢
 by_cases hij:i=j
 ·rw[yO hij] at h ⊢
  by_cases hl:i < ρ.length
  ·rw[yO hl] at h
   cases h
   rw[yO (zS hl eo.len)]
   exact⟨v,rfl,r⟩
  ·rw[yQ hl] at h;cases h
 ·rw[yQ hij] at h ⊢
  exact eo.get j e h
theorem j3{K:W.Frag}(eo:cw K HF ρ σ)(hf:isFree ρ i=true):cw K HF ρ (σ.set i (some v)):=by
 refine⟨fun j e h=>?_,by rw[yE];exact eo.len,eo.tb⟩
 have hij:i≠j:=by
  intro z;subst z
  unfold isFree at hf;rw[h] at hf;cases hf
 rw[xM,yQ hij]
 exact eo.get j e h
def fG(i:Nat):Env->D->Option Env:=fun ρ d=>if isFree ρ i=true then some (ρ.set i (some d)) else none
theorem Gy(i:Nat)(hN:X.N.Nodup)(hi:X.N[i]?=some x)(hx:Loc X.env.scope x)(hf:X.fn x=true\/X.env.scope.names.lookup x=some .local:=by first|exact .inl rfl|exact .inr rfl|assumption):DG X (.Name x pos) (fG i) :=
 oQ (cP hN hi hx hf) fun v σ H Q ⟨HF,ρ,d,ρ',sm,eo,r,hf,q⟩=>by
  unfold fG at hf
  split at hf
  ·cases hf;exact q _ (hV eo r) (j3 eo ‹_›)
  ·cases hf
def fy(i j:Nat):Env->D->Option Env:=fun ρ d=>match d with
 | .tuple [x,y]=>if isFree ρ i=true/\isFree ρ j=true then some ((ρ.set i (some x)).set j (some y)) else none
 | _=>none
theorem J4(i j:Nat){px py:Pos}{k:Nat}(hc:X.calm=true)(hN:X.N.Nodup)(hi:X.N[i]?=some x)(hx:Loc X.env.scope x)(hj:X.N[j]?=some y)(hy:Loc X.env.scope y)
  (hf:X.fn x=true\/X.env.scope.names.lookup x=some .local:=by first|exact .inl rfl|exact .inr rfl|assumption) (hf':X.fn y=true\/X.env.scope.names.lookup y=some .local:=by first|exact .inl rfl|exact .inr rfl|assumption) :
  DG X (.Tuple [.Name x px,.Name y py] k pos) (fy i j) :=
 oQ (sV hc (cL (cP hN hi hx hf) (cL (cP hN hj hy hf') oh))) fun v σ H Q ⟨HF,ρ,d,ρ',sm,eo,r,hf,q⟩=>by
  unfold fy at hf
  split at hf
  ·rename_i x' y'
   split at hf
   ·rename_i hh
    cases hf
    simp only[Rep] at r
    obtain⟨a,vs,rfl,hs,rr⟩:=r
    obtain⟨v1,r1,rfl,a1,b1⟩:=rr.cons_inv
    obtain⟨v2,r2,rfl,a2,b2⟩:=b1.cons_inv
    rw[b2.nil_inv] at hs
    exact⟨a,_,rfl,aD sm hs,rfl,v1,_,rfl,v2,_,rfl,rfl,q _ (hV (hV eo a1) a2) (j3 (j3 eo hh.1) hh.2)⟩
   ·cases hf
  ·cases hf
def bS(tgt:Env->D->Option Env)(tt:Env->Option Bool)(te:Env->Option D)(ρ:Env):List D->Option (List D)
 | []=>some []
 | d::ds=>(tgt ρ d).bind fun ρ'=>(tt ρ').bind fun b=>if b=true then (te ρ').bind fun x=>(bS tgt tt te ρ ds).map (x::·) else bS tgt tt te ρ ds
def Lj(X:Cx)(ifs:List Expr)(f:Env->Option Bool):Prop:=KC X ifs (ID X.K f)
theorem Gz:Lj X [] (fun _=>some true):=fun pins s σ H Q I ⟨HF,ρ,b,sm,eo,hf,q⟩=>FY pins s σ H Q I (by cases hf;exact q H HF (.refl sm))
theorem GM(h:DT X c t):Lj X [c] t:=Ff h
def iV(t:Nat)(cs:List Nat)(σ:L2.St):L2.St:=List.replicate t none++cs.map fun j=>(σ[j]?).getD none
def dz(t:Nat)(cs:List Nat)(ρ:Env):Env:=List.replicate t none++cs.map fun j=>(ρ[j]?).getD none
theorem Aw{K:W.Frag}{cs:List Nat}(eo:cw K HF ρ σ):cw K HF (dz t cs ρ) (iV t cs σ):=by
 refine⟨fun i d h=>?_,by simp[dz,iV],eo.tb⟩
 unfold dz at h
 unfold iV
 by_cases hi:i < t
 ·rw[yV (by simpa using hi),xA,yO hi] at h
  cases h
 ·rw[yW (by simpa using hi),zR,xP] at h
  rw[yW (by simpa using hi),zR,xP]
  obtain⟨j,hj,h⟩:=af h
  rw[hj]
  cases e:ρ[j]? with
  | none=>rw[e] at h;cases h
  | some o =>
   rw[e] at h
   have h:o=some d:=h
   subst h
   obtain⟨v,a,b⟩:=eo.get j d e
   exact⟨v,by show some ((σ[j]?).getD none)=_;rw[a];rfl,b⟩
def aj(t:Nat)(cs:List Nat)(fi:Env->Option (List D))(tgt:Env->D->Option Env)(tt:Env->Option Bool)(te:Env->Option D):Env->Option (List D):=fun ρ=>(fi ρ).bind fun ds=>(bS tgt tt te (dz t cs ρ) ds).bind small
variable {elt iter:Expr}{ifs:List Expr}{scope:Scope}{N:List Str}{t:Nat}{cs:List Nat}{fi:Env->Option (List D)}{tgt:Env->D->Option Env}{tt:Env->Option Bool}{te:Env->Option D}
theorem EB:∀σ H Q,tF X.K (aj t cs fi tgt tt te) σ H Q->EZ (Nu X.K fi) (Md X.K tgt) (ID X.K tt) (tD X.K te) (iV t cs) σ H Q:=fun σ H Q ⟨HF,ρ,out,sm,eo,hf,q⟩=>by
 obtain⟨ds,hx,hf⟩:=bs hf
 obtain⟨out',ho,hf⟩:=bs hf
 obtain⟨rfl,hz⟩:=dM hf
 refine⟨HF,ρ,ds,sm,eo,hx,fun J H1 HF1 g1 it Dn hD=>?_⟩
 have eo1:=Aw (t:=t) (cs:=cs) (eo.mono g1.ff)
 have hFD:HF1 Dn=none:=g1.fh.free hD
 refine⟨fun i m σ' H'=>m+i=ds.length/\∃HF' xs ys rest,bJ HF1 H1 HF' H'/\HF' Dn=none/\H' Dn=some (.lst ys)/\ak X.K HF' xs ys/\cw X.K HF' (dz t cs ρ) σ'/\bS tgt tt te (dz t cs ρ) (ds.drop i)=some rest/\xs++rest=out,
  ⟨ds.length,rfl,HF1,[],[],out,.own g1.fh hD,hFD,aE,ak.nil,eo1,ho,rfl⟩,?_⟩
 rintro i m σ' H' ⟨hm,HF',xs,ys,rest,G,hFD',hHD,rr,eo',hc,hout⟩
 by_cases hi:i < ds.length
 ·refine .inr ?_
  have hd:ds.drop i=ds[i]::ds.drop (i+1):=vB hi
  have he:ds[i]?=some ds[i]:=List.getElem?_eq_some_iff.mpr ⟨hi,rfl⟩
  generalize ds[i]=d at hd he
  rw[hd] at hc
  unfold bS at hc
  obtain⟨ρ',h1,hc⟩:=bs hc
  obtain⟨b,h2,hc⟩:=bs hc
  obtain⟨go,yld⟩:=it.go i d H' HF' he G.ff G.fh
  refine⟨go,fun x H2 y=>?_⟩
  obtain⟨HF2,G2,rx⟩:=yld x H2 y
  refine⟨HF2,_,d,ρ',G2.fh,eo'.mono G2.ff,rx,h1,fun σ2 eo2 eo2'=>?_⟩
  refine⟨HF2,ρ',b,G2.fh,eo2,h2,fun H3 HF3 G3=>?_⟩
  have nof:∀HF4 H4,bJ HF' H' HF4 H4->HF4 Dn=none:=fun HF4 H4 G4=>by
   cases e4:HF4 Dn with
   | none=>rfl
   | some o =>
    rcases G4.nw Dn o e4 with z|z
    ·rw[hFD'] at z;cases z
    ·rw[hHD] at z;cases z
  cases b with
  | false =>
   refine uo ⟨m - 1,by omega,by omega,HF3,xs,ys,rest,(G.trans G2).trans G3,nof _ _ (G2.trans G3),(G2.trans G3).hh _ _ hHD,rr.mono (G2.trans G3).ff,eo2'.mono G3.ff,by simpa using hc,hout⟩
  | true =>
   rw[yO rfl] at hc
   obtain⟨z,h3,hc⟩:=bs hc
   obtain⟨rest',h4,rfl⟩:=af hc
   refine uR ⟨HF3,ρ',z,G3.fh,eo2.mono G3.ff,h3,fun v H4 HF4 G4 rv=>?_⟩
   have GG:=(G2.trans G3).trans G4
   have n4:=nof _ _ GG
   have h4D:=GG.hh _ _ hHD
   have hlen:ys.length < sizeLine:=by
    have e1:=rr.length
    have e2:out.length=xs.length+(rest'.length+1):=by rw[<- hout];simp
    omega
   refine⟨ys,h4D,hlen,m - 1,by omega,by omega,HF4,xs++[z],ys++[v],rest',?_,n4,aE,(rr.mono GG.ff).append (ak.cons rv ak.nil),eo2'.mono (G3.ff.trans G4.ff),h4,by simp[<- hout]⟩
   have G5:=G.trans GG
   refine⟨fun b o e=>?_,G5.ff,fun b o e=>?_,G5.nw⟩
   ·rw[az (aH e hD)];exact G5.hh b o e
   ·rw[az (aH e n4)];exact G5.fh b o e
 ·have hi':i=ds.length:=by omega
  subst hi'
  rw[List.drop_length] at hc
  cases hc
  rw[qJ] at hout
  subst hout
  exact .inl ⟨it.stop H' HF' G.ff G.fh,q Dn ys H' HF' (g1.trans G) (g1.hh.free hD) hFD' hHD rr⟩
theorem GX(hc:X.calm=true)(S:hJ X scope N (iV t cs))(hi:DI X tg iter fi)
  (hY:∀fp s H,DG (aV X scope N fp s H) tg tgt/\Lj (aV X scope N fp s H) ifs tt/\DE (aV X scope N fp s H) elt te)
  (hs:∀x,foldedSetIterable iter X.env x=pure x:=by intro _;rfl):DF X (.ListComp elt [⟨tg,iter,ifs,0⟩] scope pos) (aj t cs fi tgt tt te):=aZ (F8 (g:=Md X.K tgt) (tt:=ID X.K tt) (te:=tD X.K te) hc S hi hY hs) EB
end
inductive Slot where
 | non|val (d:D)|own (ds:List D)|nest (dss:List (List D))
abbrev ar:=List Slot
def Slot.all:Slot->Option D|.non=>none|.val d=>some d|.own ds=>some (.list ds)|.nest dss=>some (.list (dss.map PyData.list))
def Slot.frz:Slot->Option D|.val d=>some d|_=>none
def Slot.thaw:Slot->Slot|.own ds=>.val (.list ds)|.nest dss=>.val (.list (dss.map PyData.list))|s=>s
def aS(ρ:ar):Env:=ρ.map Slot.all
def bx(ρ:ar):Env:=ρ.map Slot.frz
def hand(fz:List Nat):Nat->ar->ar
 | _,[]=>[]
 | k,s::r=>(if fz.contains k=true then s.thaw else s)::hand fz (k+1) r
theorem gJ(fz:List Nat):∀ (ρ:ar) (k i:Nat),(hand fz k ρ)[i]?=(ρ[i]?).map fun s=>if fz.contains (k+i)=true then s.thaw else s
 | [],k,i=>by simp[hand]
 | s::r,k,0=>by simp[hand]
 | s::r,k,i+1=>by
  simp only[hand,xB]
  rw[gJ fz r (k+1) i,Nat.add_assoc,Nat.add_comm 1 i]
theorem vq(fz:List Nat):∀ (ρ:ar) (k:Nat),(hand fz k ρ).length=ρ.length
 | [],k=>rfl
 | s::r,k=>by simp[hand,vq fz r (k+1)]
inductive rg(K:W.Frag)(HF H H₀:Hp):List Addr->List (List D)->Prop
 | nil:rg K HF H H₀ [] []
 | cons {b:Addr}{bs:List Addr}{ds:List D}{dss:List (List D)}{vs:List V}:H b=some (.lst vs)->HF b=none->H₀ b=none->ak K HF ds vs->rg K HF H H₀ bs dss->rg K HF H H₀ (b::bs) (ds::dss)
structure zf(K:W.Frag)(HF H H₀:Hp)(a:Addr)(bs:List Addr)(dss:List (List D)):Prop where
 hd:H a=some (.lst (bs.map V.ref))
 fz:HF a=none
 h0:H₀ a=none
 ins:rg K HF H H₀ bs dss
 nd:(a::bs).Nodup
section
variable {K:W.Frag}{a:Addr}{bs:List Addr}{dss:List (List D)}
theorem rg.imp(h:rg K HF H H₀ bs dss)(s:aP HF HF')(e:∀b∈bs,∀o,H b=some o->HF b=none->H' b=some o/\HF' b=none):rg K HF' H' H₀ bs dss:=by
 induction h with
 | nil=>exact .nil
 | cons h1 h2 h3 r _ ih =>
  obtain⟨z1,z2⟩:=e _ zH _ h1 h2
  exact .cons z1 z2 h3 (r.mono s) (ih fun b hb=>e b (zE _ hb))
theorem zf.imp(h:zf K HF H H₀ a bs dss)(s:aP HF HF')(e:∀b∈a::bs,∀o,H b=some o->HF b=none->H' b=some o/\HF' b=none):zf K HF' H' H₀ a bs dss :=
 let z:=e a zH _ h.hd h.fz
 ⟨z.1,z.2,h.h0,h.ins.imp s fun b hb=>e b (zE _ hb),h.nd⟩
theorem rg.there(h:rg K HF H H₀ bs dss):∀b∈bs,HF b=none/\H₀ b=none/\∃vs,H b=some (.lst vs):=by
 induction h with
 | nil=>exact fun b hb=>by cases hb
 | cons h1 h2 h3 _ _ ih =>
  intro b hb
  rcases List.mem_cons.mp hb with e|e
  ·rw[e];exact⟨h2,h3,_,h1⟩
  ·exact ih b e
theorem zf.there(h:zf K HF H H₀ a bs dss):∀b∈a::bs,HF b=none/\H₀ b=none/\∃vs,H b=some (.lst vs):=fun b hb=>by
 rcases List.mem_cons.mp hb with e|e
 ·rw[e];exact⟨h.fz,h.h0,_,h.hd⟩
 ·exact h.ins.there b e
theorem rg.reps(h:rg K HF H H₀ bs dss)(s:aP HF H):ak K H (dss.map PyData.list) (bs.map V.ref):=by
 induction h with
 | nil=>exact ak.nil
 | cons h1 _ _ r _ ih=>exact ak.cons (by simp only[Rep];exact⟨_,_,rfl,eK.of h1,r.mono s⟩) ih
theorem zf.rep(h:zf K HF H H₀ a bs dss)(s:aP HF H):Rep K H (.list (dss.map PyData.list)) (.ref a):=by
 simp only[Rep]
 exact⟨a,_,rfl,eK.of h.hd,h.ins.reps s⟩
theorem rg.repsF(h:rg K HF H H₀ bs dss)(s:aP HF HF1)(e:∀b∈bs,HF1 b=H b):ak K HF1 (dss.map PyData.list) (bs.map V.ref):=by
 induction h with
 | nil=>exact ak.nil
 | cons h1 _ _ r _ ih=>exact ak.cons (by simp only[Rep];exact⟨_,_,rfl,eK.of ((e _ zH).trans h1),r.mono s⟩) (ih fun b hb=>e b (zE _ hb))
theorem zf.repF(h:zf K HF H H₀ a bs dss)(s:aP HF HF1)(e:∀b∈a::bs,HF1 b=H b):Rep K HF1 (.list (dss.map PyData.list)) (.ref a):=by
 simp only[Rep]
 exact⟨a,_,rfl,eK.of ((e a zH).trans h.hd),h.ins.repsF s fun b hb=>e b (zE _ hb)⟩
end
structure fE(K:W.Frag)(HF₀ H₀ HF H:Hp)(ρ:ar)(σ:L2.St):Prop where
 gr:bJ HF₀ H₀ HF H
 val:∀ (i:Nat) (d:D),ρ[i]?=some (.val d)->∃v,σ[i]?=some (some v)/\Rep K HF d v
 own:∀ (i:Nat) (ds:List D),ρ[i]?=some (.own ds)->∃a vs,σ[i]?=some (some (.ref a))/\H a=some (.lst vs)/\HF a=none/\H₀ a=none/\ak K HF ds vs
 inj:∀ (i j:Nat) (ds es:List D) (a:Addr),ρ[i]?=some (.own ds)->ρ[j]?=some (.own es)->σ[i]?=some (some (.ref a))->σ[j]?=some (some (.ref a))->i=j
 len:ρ.length<=σ.length
 tb:fg K HF
 nst:∀ (i:Nat) (dss:List (List D)),ρ[i]?=some (.nest dss)->∃a bs,σ[i]?=some (some (.ref a))/\zf K HF H H₀ a bs dss/\∀ (j:Nat) (ds:List D) (b:Addr),ρ[j]?=some (.own ds)->σ[j]?=some (some (.ref b))->b∉a::bs
 one:∀ (i j:Nat) (dss ess:List (List D)),ρ[i]?=some (.nest dss)->ρ[j]?=some (.nest ess)->i=j
section
variable {K:W.Frag}
theorem fE.all(S:fE K HF₀ H₀ HF H ρ σ):cw K H (aS ρ) σ:=by
 refine⟨fun i d h=>?_,by simpa [aS] using S.len,S.tb.mono S.gr.fh⟩
 unfold aS at h
 rw[zR] at h
 obtain⟨s,hs,h⟩:=af h
 cases s with
 | non=>cases h
 | val e=>cases h;obtain⟨v,a,b⟩:=S.val i _ hs;exact⟨v,a,b.mono S.gr.fh⟩
 | own ds =>
  cases h
  obtain⟨a,vs,e1,e2,e3,_,e4⟩:=S.own i ds hs
  exact⟨.ref a,e1,by simp only[Rep];exact⟨a,vs,rfl,eK.of e2,e4.mono S.gr.fh⟩⟩
 | nest dss =>
  cases h
  obtain⟨a,bs,e1,n,_⟩:=S.nst i dss hs
  exact⟨.ref a,e1,n.rep S.gr.fh⟩
theorem fE.frz(S:fE K HF₀ H₀ HF H ρ σ):cw K HF (bx ρ) σ:=by
 refine⟨fun i d h=>?_,by simpa [bx] using S.len,S.tb⟩
 unfold bx at h
 rw[zR] at h
 obtain⟨s,hs,h⟩:=af h
 cases s with
 | non=>cases h
 | val e=>cases h;exact S.val i _ hs
 | own ds=>cases h
 | nest dss=>cases h
theorem bJ.stay(g:bJ HF H HF' H')(e3:HF a=none)(e2:H a=some u):HF' a=none:=by
 cases e:HF' a with
 | none=>rfl
 | some o =>
  rcases g.nw a o e with z|z
  ·rw[e3] at z;cases z
  ·rw[e2] at z;cases z
theorem fE.grow(S:fE K HF₀ H₀ HF H ρ σ)(g:bJ HF H HF' H'):fE K HF₀ H₀ HF' H' ρ σ where
 gr:=S.gr.trans g
 val:=fun i d h=>let ⟨v,a,b⟩:=S.val i d h;⟨v,a,b.mono g.ff⟩
 own:=fun i ds h=>by
  obtain⟨a,vs,e1,e2,e3,e5,e4⟩:=S.own i ds h
  exact⟨a,vs,e1,g.hh _ _ e2,g.stay e3 e2,e5,e4.mono g.ff⟩
 inj:=S.inj
 len:=S.len
 tb:=S.tb.mono g.ff
 nst:=fun i dss h=>by
  obtain⟨a,bs,e1,n,di⟩:=S.nst i dss h
  exact⟨a,bs,e1,n.imp g.ff fun b _ o z1 z2=>⟨g.hh _ _ z1,g.stay z2 z1⟩,di⟩
 one:=S.one
theorem fE.step(S:fE K HF₀ H₀ HF H ρ σ)(g:aP H H'):fE K HF₀ H₀ HF H' ρ σ:=S.grow ⟨g,.refl _,S.gr.fh.trans g,fun _ _ e=>.inl e⟩
theorem oo:∀ {xs ys:List Addr},xs.map V.ref=ys.map V.ref->xs=ys
 | [],[],_=>rfl
 | [],_::_,h=>by simp at h
 | _::_,[],h=>by simp at h
 | x::xs,y::ys,h=>by
  rw[zL,zL] at h
  injection h with h1 h2
  injection h1 with h1
  rw[h1,oo h2]
theorem mL{ρ:ar}{fz:List Nat}{i:Nat}{dss:List (List D)}(h:(Dl.hand fz 0 ρ)[i]?=some (Slot.nest dss)):ρ[i]?=some (Slot.nest dss)/\¬ fz.contains i=true:=by
 rw[gJ,jG] at h
 obtain⟨s,hs,h⟩:=af h
 cases s<;>split at h<;>cases h<;>exact⟨hs,by assumption⟩
theorem lH{ρ:ar}{fz:List Nat}{i:Nat}{ds:List D}(h:(Dl.hand fz 0 ρ)[i]?=some (Slot.own ds)):ρ[i]?=some (Slot.own ds)/\¬ fz.contains i=true:=by
 rw[gJ,jG] at h
 obtain⟨s,hs,h⟩:=af h
 cases s<;>split at h<;>cases h<;>exact⟨hs,by assumption⟩
theorem fE.hand(S:fE K HF₀ H₀ HF H ρ σ)(fz:List Nat):∃HF1,aP HF HF1/\fE K HF₀ H₀ HF1 H (hand fz 0 ρ) σ:=by
 let P:Addr->Prop:=fun a=>(∃ (i:Nat) (ds:List D),fz.contains i=true/\ρ[i]?=some (.own ds)/\σ[i]?=some (some (.ref a)))\/∃ (i:Nat) (dss:List (List D)) (a':Addr) (bs:List Addr),fz.contains i=true/\ρ[i]?=some (.nest dss)/\σ[i]?=some (some (.ref a'))/\zf K HF H H₀ a' bs dss/\a∈a'::bs
 have cl:=Classical.propDecidable
 let HF1:Hp:=fun a=>if P a then H a else HF a
 have hP:∀a,P a->HF a=none/\H₀ a=none:=fun a z=>by
  rcases z with ⟨i,ds,_,h1,h2⟩|⟨i,dss,a',bs,_,_,_,n,hm⟩
  ·obtain⟨a',vs,e1,e2,e3,e5,e4⟩:=S.own i ds h1
   rw[h2] at e1
   cases e1
   exact⟨e3,e5⟩
  ·exact⟨(n.there a hm).1,(n.there a hm).2.1⟩
 have s1:aP HF HF1:=fun b o e=>by
  show (if P b then H b else HF b)=some o
  by_cases h:P b
  ·rw[(hP b h).1] at e;cases e
  ·rw[yQ h];exact e
 have s2:aP HF1 H:=fun b o e=>by
  have e:(if P b then H b else HF b)=some o:=e
  by_cases h:P b
  ·rw[yO h] at e;exact e
  ·rw[yQ h] at e;exact S.gr.fh b o e
 refine⟨HF1,s1,⟨S.gr.hh,S.gr.ff.trans s1,s2,fun b o e=>?_⟩,fun i d h=>?_,fun i ds h=>?_,fun i j ds es a h1 h2=>S.inj i j ds es a (lH h1).1 (lH h2).1,by rw[vq];exact S.len,S.tb.mono s1,fun i dss h=>?_,fun i j ks ls h1 h2=>S.one i j ks ls (mL h1).1 (mL h2).1⟩
 ·have e:(if P b then H b else HF b)=some o:=e
  by_cases h:P b
  ·exact .inr (hP b h).2
  ·rw[yQ h] at e;exact S.gr.nw b o e
 ·rw[gJ] at h
  obtain⟨s,hs,h⟩:=af h
  rw[jG] at h
  cases s with
  | non=>split at h<;>cases h
  | val e =>
   have:Slot.val e=Slot.val d:=by split at h<;>exact h
   cases this
   obtain⟨v,a,b⟩:=S.val i _ hs
   exact⟨v,a,b.mono s1⟩
  | own ds =>
   split at h
   ·rename_i hc
    cases h
    obtain⟨a,vs,e1,e2,e3,e5,e4⟩:=S.own i ds hs
    refine⟨.ref a,e1,?_⟩
    simp only[Rep]
    refine⟨a,vs,rfl,.inl (.inl ?_),e4.mono s1⟩
    show (if P a then H a else HF a)=_
    rw[yO (.inl ⟨i,ds,hc,hs,e1⟩)]
    exact e2
   ·cases h
  | nest dss =>
   split at h
   ·rename_i hc
    cases h
    obtain⟨a,bs,e1,n,di⟩:=S.nst i dss hs
    exact⟨.ref a,e1,n.repF s1 fun b hb=>yO (.inr ⟨i,dss,a,bs,hc,hs,e1,n,hb⟩)⟩
   ·cases h
 ·obtain⟨hs,hc⟩:=lH h
  obtain⟨a,vs,e1,e2,e3,e5,e4⟩:=S.own i ds hs
  refine⟨a,vs,e1,e2,?_,e5,e4.mono s1⟩
  show (if P a then H a else HF a)=none
  rw[yQ ?_]
  ·exact e3
  ·rintro (⟨j,es,hj,h1,h2⟩|⟨j,dss,a',bs,hj,h1,h2,n,hm⟩)
   ·have:=S.inj i j ds es a hs h1 e1 h2
    subst this
    exact hc hj
   ·obtain⟨a2,bs2,f1,n2,di⟩:=S.nst j dss h1
    rw[h2] at f1;cases f1
    have hb:bs=bs2:=oo (by have:=n.hd;rw[n2.hd] at this;injection this with this;injection this with this;exact this.symm)
    subst hb
    exact di i ds a hs e1 hm
 ·obtain⟨hs,hc⟩:=mL h
  obtain⟨a,bs,e1,n,di⟩:=S.nst i dss hs
  refine⟨a,bs,e1,n.imp s1 fun b hb o z1 z2=>⟨z1,?_⟩,fun j ds b h1 h2=>di j ds b (lH h1).1 h2⟩
  show (if P b then H b else HF b)=none
  rw[yQ ?_]
  ·exact z2
  ·rintro (⟨j,es,hj,h1,h2⟩|⟨j,ess,a',bs',hj,h1,h2,n',hm⟩)
   ·exact di j es b h1 h2 hb
   ·have:=S.one i j dss ess hs h1
    subst this
    exact hc hj
theorem fE.setV(S:fE K HF₀ H₀ HF H ρ σ)(r:Rep K HF d v):fE K HF₀ H₀ HF H (ρ.set i (.val d)) (σ.set i (some v)):=by
 have ne:∀ {j:Nat}{s:Slot},(ρ.set i (.val d))[j]?=some s->(∀e,s≠.val e)->i≠j/\ρ[j]?=some s:=fun {j s} h hn=>by
  rw[xM] at h
  by_cases hij:i=j
  ·rw[yO hij] at h
   split at h
   ·cases h;exact absurd rfl (hn _)
   ·cases h
  ·rw[yQ hij] at h;exact⟨hij,h⟩
 refine⟨S.gr,fun j e h=>?_,fun j ds h=>?_,fun j k ds es a h1 h2 h3 h4=>?_,by rw[yE,yE];exact S.len,S.tb,fun j ks h=>?_,fun j k ks ls h1 h2=>S.one j k ks ls (ne h1 fun e z=>by cases z).2 (ne h2 fun e z=>by cases z).2⟩
 ·rw[xM] at h ⊢
  by_cases hij:i=j
  ·rw[yO hij] at h ⊢
   split at h
   ·rename_i hl
    cases h
    rw[yO (zS hl S.len)]
    exact⟨v,rfl,r⟩
   ·cases h
  ·rw[yQ hij] at h ⊢
   exact S.val j e h
 ·obtain⟨hij,h⟩:=ne h fun e z=>by cases z
  rw[xM,yQ hij]
  exact S.own j ds h
 ·obtain⟨n1,h1⟩:=ne h1 fun e z=>by cases z
  obtain⟨n2,h2⟩:=ne h2 fun e z=>by cases z
  rw[xM,yQ n1] at h3
  rw[xM,yQ n2] at h4
  exact S.inj j k ds es a h1 h2 h3 h4
 ·obtain⟨hij,h⟩:=ne h fun e z=>by cases z
  rw[xM,yQ hij]
  obtain⟨a,bs,e1,n,di⟩:=S.nst j ks h
  refine⟨a,bs,e1,n,fun k ds b h1 h2=>?_⟩
  obtain⟨hik,h1⟩:=ne h1 fun e z=>by cases z
  rw[xM,yQ hik] at h2
  exact di k ds b h1 h2
theorem fE.new_nest(S:fE K HF₀ H₀ HF H ρ σ)(ha:H a=none)(s:aP H H')(j:Nat)(dss:List (List D))(a':Addr)(bs:List Addr)(h:ρ[j]?=some (.nest dss))(h1:σ[j]?=some (some (.ref a')))(h2:H' a'=some (.lst (bs.map V.ref))):a∉a'::bs:=fun hm=>by
 obtain⟨a2,bs2,e1,n,_⟩:=S.nst j dss h
 rw[h1] at e1;cases e1
 have:=s _ _ n.hd
 rw[h2] at this
 obtain rfl:bs=bs2:=oo (by injection this with this;injection this)
 obtain⟨_,_,vs,e⟩:=n.there a hm
 rw[ha] at e;cases e
theorem fE.setO(S:fE K HF₀ H₀ HF H ρ σ)(hs:aP H H')(h1:H' a=some (.lst vs))(h2:HF a=none)(h3:H₀ a=none)(r:ak K HF ds vs)
  (fr:∀j es,i≠j->ρ[j]?=some (.own es)->σ[j]?≠some (some (.ref a))) (fn:∀ (j:Nat) (dss:List (List D)) (a':Addr) (bs:List Addr),ρ[j]?=some (.nest dss)->σ[j]?=some (some (.ref a'))->H' a'=some (.lst (bs.map V.ref))->a∉a'::bs):fE K HF₀ H₀ HF H' (ρ.set i (.own ds)) (σ.set i (some (.ref a))):=by
 have S:=S.step hs
 have nt:∀ {j:Nat}{ks:List (List D)},(ρ.set i (.own ds))[j]?=some (.nest ks)->i≠j/\ρ[j]?=some (.nest ks):=fun {j ks} h=>by
  rw[xM] at h
  by_cases hij:i=j
  ·rw[yO hij] at h
   split at h<;>cases h
  ·rw[yQ hij] at h;exact⟨hij,h⟩
 refine⟨S.gr,fun j e h=>?_,fun j es h=>?_,fun j k xs ys b e1 e2 e3 e4=>?_,by rw[yE,yE];exact S.len,S.tb,fun j ks h=>?_,fun j k ks ls h1 h2=>S.one j k ks ls (nt h1).2 (nt h2).2⟩
 ·rw[xM] at h ⊢
  by_cases hij:i=j
  ·rw[yO hij] at h
   split at h<;>cases h
  ·rw[yQ hij] at h ⊢
   exact S.val j e h
 ·rw[xM] at h ⊢
  by_cases hij:i=j
  ·rw[yO hij] at h ⊢
   split at h
   ·rename_i hl
    cases h
    rw[yO (zS hl S.len)]
    exact⟨a,vs,rfl,h1,h2,h3,r⟩
   ·cases h
  ·rw[yQ hij] at h ⊢
   exact S.own j es h
 ·rw[xM] at e1 e2 e3 e4
  by_cases hij:i=j
  ·by_cases hik:i=k
   ·exact hij.symm.trans hik
   ·rw[yO hij] at e1 e3
    rw[yQ hik] at e2 e4
    split at e3
    ·cases e3;exact absurd e4 (fr k ys hik e2)
    ·cases e3
  ·by_cases hik:i=k
   ·rw[yQ hij] at e1 e3
    rw[yO hik] at e2 e4
    split at e4
    ·cases e4;exact absurd e3 (fr j xs hij e1)
    ·cases e4
   ·rw[yQ hij] at e1 e3
    rw[yQ hik] at e2 e4
    exact S.inj j k xs ys b e1 e2 e3 e4
 ·obtain⟨hij,h⟩:=nt h
  rw[xM,yQ hij]
  obtain⟨a',bs,e1,n,di⟩:=S.nst j ks h
  refine⟨a',bs,e1,n,fun k es b h1 h2=>?_⟩
  rw[xM] at h1 h2
  by_cases hik:i=k
  ·rw[yO hik] at h2
   split at h2
   ·cases h2;exact fn j ks a' bs h e1 n.hd
   ·cases h2
  ·rw[yQ hik] at h1 h2
   exact di k es b h1 h2
end
inductive Out where
 | nx (ρ:ar)|rt (d:D)
def AM(K:W.Frag)(HF₀ H₀ HF:Hp)(E:Ends):Out->Prop
 | .nx ρ'=>∀σ' H' HF',fE K HF₀ H₀ HF' H' ρ' σ'->aP HF HF'->E.nx σ' H'
 | .rt d=>∀v H' HF',bJ HF₀ H₀ HF' H'->Rep K HF' d v->E.rt v H'
def tS(K:W.Frag)(HF₀ H₀:Hp)(g:ar->Option Out):TS:=fun E σ H=>∃HF ρ o,fE K HF₀ H₀ HF H ρ σ/\g ρ=some o/\AM K HF₀ H₀ HF E o
def DS(X:Cx)(HF₀ H₀:Hp)(st:Stmt)(g:ar->Option Out):Prop:=PS X st (tS X.K HF₀ H₀ g)
def Ce(X:Cx)(HF₀ H₀:Hp)(st:List Stmt)(g:ar->Option Out):Prop:=yu X st (tS X.K HF₀ H₀ g)
section
variable {X:Cx}{HF₀ H₀:Hp}{st:Stmt}{rest:List Stmt}{g g1 g2:ar->Option Out}{e:Expr}{pos:Pos}
theorem cf(h:PS X st t)(i:∀E σ H,t' E σ H->t E σ H):PS X st t':=fun pins s σ H E I q=>h pins s σ H E I (i E σ H q)
theorem AF(h:yu X rest t)(i:∀E σ H,t' E σ H->t E σ H):yu X rest t':=fun pins s σ H E I q=>h pins s σ H E I (i E σ H q)
def fQ:ar->Option Out:=fun ρ=>some (.nx ρ)
def av(g1 g2:ar->Option Out):ar->Option Out:=fun ρ=>(g1 ρ).bind fun|.nx ρ'=>g2 ρ'|.rt d=>some (.rt d)
theorem AM.mono{K:W.Frag}(s:aP HF HF')(h:AM K HF₀ H₀ HF E o):AM K HF₀ H₀ HF' E o:=by
 cases o with
 | nx ρ'=>exact fun σ' H' HF2 S s2=>h σ' H' HF2 S (s.trans s2)
 | rt d=>exact h
theorem FG:Ce X HF₀ H₀ [] fQ:=AF Fu fun E σ H ⟨HF,ρ,o,S,hg,q⟩=>by cases hg;exact q σ H HF S (.refl _)
theorem Ez(h1:DS X HF₀ H₀ st g1)(h2:Ce X HF₀ H₀ rest g2):Ce X HF₀ H₀ (st::rest) (av g1 g2):=AF (Cu h1 h2) fun E σ H ⟨HF,ρ,o,S,hg,q⟩=>by
 obtain⟨o1,h,hg⟩:=bs hg
 refine⟨HF,ρ,o1,S,h,?_⟩
 cases o1 with
 | nx ρ'=>exact fun σ' H' HF' S' s=>⟨HF',ρ',o,S',hg,q.mono s⟩
 | rt d=>cases hg;exact q
theorem FZ(h1:DS X HF₀ H₀ st g1):Ce X HF₀ H₀ [st] g1:=Ft h1
theorem FL:DS X HF₀ H₀ (.Pass pos) fQ:=cf Fz fun E σ H ⟨HF,ρ,o,S,hg,q⟩=>by cases hg;exact q σ H HF S (.refl _)
theorem Iu{x j pos pos'}:DS X HF₀ H₀ (.Expr (.Constant (.str x) j pos) pos') fQ:=cf J8 fun E σ H ⟨HF,ρ,o,S,hg,q⟩=>by cases hg;exact q σ H HF S (.refl _)
def fH(t:Env->Option Bool)(g1 g2:ar->Option Out):ar->Option Out:=fun ρ=>(t (aS ρ)).bind fun b=>if b=true then g1 ρ else g2 ρ
theorem Ln(hc:DT X c t)(ha:Ce X HF₀ H₀ a g1)(hb:Ce X HF₀ H₀ b g2):DS X HF₀ H₀ (.If c a b pos) (fH t g1 g2):=cf (LK hc ha hb) fun E σ H ⟨HF,ρ,o,S,hg,q⟩=>by
 obtain⟨b,h,hg⟩:=bs hg
 refine⟨H,aS ρ,b,.refl _,S.all,h,fun H' HF' G=>?_⟩
 cases b with
 | true=>exact uR ⟨HF,ρ,o,S.step G.hh,hg,q⟩
 | false=>exact uo ⟨HF,ρ,o,S.step G.hh,hg,q⟩
theorem uB:∀ (ρ:ar) (k n:Nat),k+ρ.length<=n->bx (hand (List.range n) k ρ)=aS ρ
 | [],k,n,h=>rfl
 | s::r,k,n,h=>by
  have hk:(List.range n).contains k=true:=by simp at h ⊢;omega
  have ih:=uB r (k+1) n (by simp at h;omega)
  unfold bx aS at ih ⊢
  rw[hand,yO hk,zL,zL,ih]
  cases s<;>rfl
def aJ(f:Env->Option D):ar->Option Out:=fun ρ=>(f (aS ρ)).map Out.rt
theorem J3(h:DE X e f):DS X HF₀ H₀ (.Return (some e) pos) (aJ f):=cf (IP h) fun E σ H ⟨HF,ρ,o,S,hg,q⟩=>by
 obtain⟨d,h,rfl⟩:=af hg
 obtain⟨HF1,s1,S1⟩:=S.hand (List.range ρ.length)
 refine⟨HF1,aS ρ,d,S1.gr.fh,?_,h,fun v H' HF' G r=>q v H' HF' (S1.gr.trans G) r⟩
 have:=S1.frz
 rw[uB ρ 0 ρ.length (by omega)] at this
 exact this
def l6:D->Bool|.none=>true|.bool _=>true|.int _=>true|.str _=>true|_=>false
theorem oM{K:W.Frag}(h:l6 d=true)(r:Rep K HF d v):Rep K HF' d v:=by
 cases d<;>cases h<;>(simp only[Rep] at r ⊢;exact r)
mutual
def bQ:D->Bool
 | .tuple ds=>cQ ds
 | .list _=>false
 | .dict _=>false
 | _=>true
def cQ:List D->Bool
 | []=>true
 | d::ds=>bQ d&&cQ ds
end
mutual
theorem tZ{K:W.Frag}{H1 H2:Hp}(ht:∀a xs,gw K H1 a xs->gw K H2 a xs):∀ {d:D}{v:V},bQ d=true->Rep K H1 d v->Rep K H2 d v
 | .none,_,_,r=>by simp only[Rep] at r ⊢;exact r
 | .bool _,_,_,r=>by simp only[Rep] at r ⊢;exact r
 | .int _,_,_,r=>by simp only[Rep] at r ⊢;exact r
 | .str _,_,_,r=>by simp only[Rep] at r ⊢;exact r
 | .tuple ds,v,h,r=>by
  simp only[bQ] at h
  simp only[Rep] at r ⊢
  obtain⟨a,vs,e,q,rr⟩:=r
  exact⟨a,vs,e,ht _ _ q,rE ht h rr⟩
 | .list _,_,h,_=>by simp[bQ] at h
 | .dict _,_,h,_=>by simp[bQ] at h
theorem rE{K:W.Frag}{H1 H2:Hp}(ht:∀a xs,gw K H1 a xs->gw K H2 a xs):∀ {ds:List D}{vs:List V},cQ ds=true->ak K H1 ds vs->ak K H2 ds vs
 | [],_,_,r=>by simp only[ak] at r ⊢;exact r
 | d::ds,vs,h,r=>by
  simp only[cQ,zI] at h
  simp only[ak] at r ⊢
  obtain⟨v,r',e,a,b⟩:=r
  exact⟨v,r',e,tZ ht h.1 a,rE ht h.2 b⟩
end
theorem fE.back{K:W.Frag}(S:fE K HF₀ H₀ HF H ρ σ)(S1:fE K HF₀ H₀ HF1 H ρ1 σ)(s1:aP HF HF1)(G:bJ HF1 H HF' H'):∃HF2,aP HF HF2/\fE K HF₀ H₀ HF2 H' ρ σ/\(∀d v,bQ d=true->Rep K HF' d v->Rep K HF2 d v)/\∀b o,HF2 b=some o->HF' b=some o:=by
 have cl:=Classical.propDecidable
 let O:Addr->Prop:=fun a=>(∃ (i:Nat) (ds:List D),ρ[i]?=some (Slot.own ds)/\σ[i]?=some (some (V.ref a)))\/∃ (i:Nat) (dss:List (List D)) (a':Addr) (bs:List Addr),ρ[i]?=some (Slot.nest dss)/\σ[i]?=some (some (V.ref a'))/\zf K HF H H₀ a' bs dss/\a∈a'::bs
 let HF2:Hp:=fun a=>if O a then none else HF' a
 have hO:∀a,O a->HF a=none/\∃vs,H a=some (.lst vs):=fun a z=>by
  rcases z with ⟨i,ds,h1,h2⟩|⟨i,dss,a',bs,_,_,n,hm⟩
  ·obtain⟨a',vs,e1,e2,e3,_,_⟩:=S.own i ds h1
   rw[h2] at e1
   cases e1
   exact⟨e3,vs,e2⟩
  ·exact⟨(n.there a hm).1,(n.there a hm).2.2⟩
 have h2:∀a,¬ O a->HF2 a=HF' a:=fun a n=>yQ n
 have h3:∀a,O a->HF2 a=none:=fun a n=>yO n
 have sa:aP HF HF2:=fun b o e=>by
  have nb:¬ O b:=fun z=>by rw[(hO b z).1] at e;cases e
  rw[h2 b nb]
  exact G.ff b o (s1 b o e)
 have sb:∀b o,HF2 b=some o->HF' b=some o:=fun b o e=>by
  by_cases z:O b
  ·rw[h3 b z] at e;cases e
  ·rwa [h2 b z] at e
 have g2:=S1.gr.trans G
 refine⟨HF2,sa,⟨⟨g2.hh,S.gr.ff.trans sa,fun b o e=>G.fh b o (sb b o e),fun b o e=>g2.nw b o (sb b o e)⟩,fun i d h=>?_,fun i ds h=>?_,S.inj,S.len,S.tb.mono sa,fun i dss h=>?_,S.one⟩,fun d v hn r=>tZ (fun a xs q=>?_) hn r,sb⟩
 ·obtain⟨v,e1,r⟩:=S.val i d h
  exact⟨v,e1,r.mono sa⟩
 ·obtain⟨a,vs,e1,e2,e3,e5,e4⟩:=S.own i ds h
  exact⟨a,vs,e1,G.hh _ _ e2,h3 a (.inl ⟨i,ds,h,e1⟩),e5,e4.mono sa⟩
 ·obtain⟨a,bs,e1,n,di⟩:=S.nst i dss h
  exact⟨a,bs,e1,n.imp sa fun b hb o z1 z2=>⟨G.hh _ _ z1,h3 b (.inr ⟨i,dss,a,bs,h,e1,n,hb⟩)⟩,di⟩
 ·have nt:∀o,HF' a=some o->(∀vs,o≠.lst vs)->HF2 a=some o:=fun o e hne=>by
   by_cases z:O a
   ·obtain⟨_,vs,e2⟩:=hO a z
    have:=G.hh _ _ e2
    rw[G.fh a o e] at this
    cases this
    exact absurd rfl (hne vs)
   ·rw[h2 a z];exact e
  rcases q with (q|⟨o,q⟩)|q
  ·exact .inl (.inl (nt _ q fun vs z=>by cases z))
  ·exact .inl (.inr ⟨o,nt _ q fun vs z=>by cases z⟩)
  ·exact .inr q
def aB(i:Nat)(fz:List Nat)(f:Env->Option D):ar->Option Out:=fun ρ=>(f (aS ρ)).bind fun d=>if l6 d=true then some (.nx (ρ.set i (.val d))) else (f (bx (hand fz 0 ρ))).map fun d'=>.nx ((if bQ d'=true then ρ else hand fz 0 ρ).set i (.val d'))
theorem KG:∀E σ H,tS X.K HF₀ H₀ (aB i fz f) E σ H->Bi (tD X.K f) (qh i) E σ H:=fun E σ H ⟨HF,ρ,o,S,hg,q⟩=>by
 obtain⟨d,h,hg⟩:=bs hg
 split at hg
 ·rename_i hs
  cases hg
  exact⟨H,aS ρ,d,.refl _,S.all,h,fun v H' HF' G r=>q _ H' HF ((S.step G.hh).setV (oM hs r)) (.refl _)⟩
 ·obtain⟨d',h',rfl⟩:=af hg
  obtain⟨HF1,s1,S1⟩:=S.hand fz
  refine⟨HF1,_,d',S1.gr.fh,S1.frz,h',fun v H' HF' G r=>?_⟩
  by_cases hn:bQ d'=true
  ·rw[yO hn] at q
   obtain⟨HF2,s2,S2,hb,_⟩:=S.back S1 s1 G
   exact q _ H' HF2 (S2.setV (hb d' v hn r)) s2
  ·rw[yQ hn] at q
   exact q _ H' HF' ((S1.grow G).setV r) (s1.trans G.ff)
theorem IH(i:Nat)(fz:List Nat)(hN:X.N.Nodup)(hi:X.N[i]?=some x)(hx:Loc X.env.scope x)(he:DE X e f)(hs:swapsWith e (some (.Name x pos')) pos.line X.env=pure false:=by rfl)
  (hf:X.fn x=true\/X.env.scope.names.lookup x=some .local:=by first|exact .inl rfl|exact .inr rfl|assumption):DS X HF₀ H₀ (.Assign [.Name x pos'] e pos) (aB i fz f):=cf (tE hN hi hx he hs hf) KG
def aL(i:Nat)(fz:List Nat)(f:Env->Option (List D)):ar->Option Out:=fun ρ=>(f (bx (hand fz 0 ρ))).map fun ds=>.nx ((hand fz 0 ρ).set i (.own ds))
theorem EL:∀E σ H,tS X.K HF₀ H₀ (aL i fz f) E σ H->Bi (tF X.K f) (qh i) E σ H:=fun E σ H ⟨HF,ρ,o,S,hg,q⟩=>by
 obtain⟨ds,h,rfl⟩:=af hg
 obtain⟨HF1,s1,S1⟩:=S.hand fz
 refine⟨HF1,_,ds,S1.gr.fh,S1.frz,h,fun a vs H' HF' G ha hf h' r=>q _ H' HF' ?_ (s1.trans G.ff)⟩
 have S2:=S1.grow G
 refine S2.setO (.refl _) h' hf (S1.gr.hh.free ha) r (fun j es _ hj z=>?_) (S1.new_nest ha G.hh)
 obtain⟨b,us,e1,e2,_⟩:=S1.own j es hj
 rw[e1] at z
 cases z
 rw[ha] at e2;cases e2
theorem tJ(i:Nat)(fz:List Nat)(hN:X.N.Nodup)(hi:X.N[i]?=some x)(hx:Loc X.env.scope x)(he:DF X e f)(hs:swapsWith e (some (.Name x pos')) pos.line X.env=pure false:=by rfl)
  (hf:X.fn x=true\/X.env.scope.names.lookup x=some .local:=by first|exact .inl rfl|exact .inr rfl|assumption):DS X HF₀ H₀ (.Assign [.Name x pos'] e pos) (aL i fz f):=cf (tE hN hi hx he hs hf) EL
def qs(i:Nat)(fz:List Nat)(f:Env->Option (List D)):ar->Option Out:=fun ρ=>(f (bx (hand fz 0 ρ))).bind fun ds=>if cQ ds=true then some (.nx (ρ.set i (.own ds))) else none
theorem zl{K:W.Frag}(hb:∀d v,bQ d=true->Rep K HF' d v->Rep K HF2 d v):∀ {ds:List D}{vs:List V},cQ ds=true->ak K HF' ds vs->ak K HF2 ds vs
 | [],vs,_,r=>by simp only[ak] at r ⊢;exact r
 | d::ds,vs,h,r=>by
  simp only[cQ,zI] at h
  simp only[ak] at r ⊢
  obtain⟨v,us,e,r1,r2⟩:=r
  exact⟨v,us,e,hb d v h.1 r1,zl hb h.2 r2⟩
theorem IU:∀E σ H,tS X.K HF₀ H₀ (qs i fz f) E σ H->Bi (tF X.K f) (qh i) E σ H:=fun E σ H ⟨HF,ρ,o,S,hg,q⟩=>by
 obtain⟨ds,h,hg⟩:=bs hg
 split at hg
 ·rename_i hn
  cases hg
  obtain⟨HF1,s1,S1⟩:=S.hand fz
  refine⟨HF1,_,ds,S1.gr.fh,S1.frz,h,fun a vs H' HF' G ha hf h' r=>?_⟩
  obtain⟨HF2,s2,S2,hb,hs⟩:=S.back S1 s1 G
  refine q _ H' HF2 (S2.setO (.refl _) h' ?_ (S1.gr.hh.free ha) (zl hb hn r) (fun j es _ hj z=>?_) (S.new_nest ha G.hh)) s2
  ·cases e:HF2 a with
   | none=>rfl
   | some o=>have:=hs a o e;rw[hf] at this;cases this
  ·obtain⟨b,us,e1,e2,_⟩:=S.own j es hj
   rw[e1] at z
   cases z
   rw[ha] at e2;cases e2
 ·cases hg
theorem Fe(i:Nat)(fz:List Nat){cs:List Nat}
  (hc:X.calm=true) (S:hJ X scope N (iV t cs)) (hi:DI X tg iter fi)
  (hY:∀fp s H,DG (aV X scope N fp s H) tg tgt/\Lj (aV X scope N fp s H) ifs tt/\DE (aV X scope N fp s H) elt te)
  (hN:X.N.Nodup) (hiy:X.N[i]?=some y) (hy:X.env.scope.names.lookup y=some .local)
  (hsw:swapsWith (.ListComp elt [⟨tg,iter,ifs,0⟩] scope pos) (some (.Name y py)) spos.line X.env=pure true)
  (hs:∀x,foldedSetIterable iter X.env x=pure x:=by intro _;rfl):DS X HF₀ H₀ (.Assign [.Name y py] (.ListComp elt [⟨tg,iter,ifs,0⟩] scope pos) spos) (aL i fz (aj t cs fi tgt tt te)) :=
 cf (FD (g:=Md X.K tgt) (tt:=ID X.K tt) (te:=tD X.K te) hc S hi hY hN hiy hy hsw hs) fun E σ H q=>by
  have:=EL E σ H q
  exact EB σ H _ this
def NJ(K:W.Frag)(HF₀ H₀:Hp)(f:ar->D->Option ar):TG:=fun v σ H Q=>∃HF ρ d ρ',fE K HF₀ H₀ HF H ρ σ/\Rep K HF d v/\f ρ d=some ρ'/\∀σ',fE K HF₀ H₀ HF H ρ' σ'->Q σ' H
def L6(X:Cx)(HF₀ H₀:Hp)(tg:Expr)(f:ar->D->Option ar):Prop:=PG X tg (NJ X.K HF₀ H₀ f)
def pW(i:Nat):ar->D->Option ar:=fun ρ d=>some (ρ.set i (.val d))
theorem Cz(i:Nat)(hN:X.N.Nodup)(hi:X.N[i]?=some x)(hx:Loc X.env.scope x)(hf:X.fn x=true\/X.env.scope.names.lookup x=some .local:=by first|exact .inl rfl|exact .inr rfl|assumption):L6 X HF₀ H₀ (.Name x pos) (pW i) :=
 oQ (cP hN hi hx hf) fun v σ H Q ⟨HF,ρ,d,ρ',S,r,hf,q⟩=>by cases hf;exact q _ (S.setV r)
def dE(i j:Nat):ar->D->Option ar:=fun ρ d=>match d with
 | .tuple [x,y]=>some ((ρ.set i (.val x)).set j (.val y))
 | _=>none
theorem GJ(i j:Nat){px py:Pos}{k:Nat}(hc:X.calm=true)(hN:X.N.Nodup)(hi:X.N[i]?=some x)(hx:Loc X.env.scope x)(hj:X.N[j]?=some y)(hy:Loc X.env.scope y)
  (hf:X.fn x=true\/X.env.scope.names.lookup x=some .local:=by first|exact .inl rfl|exact .inr rfl|assumption) (hf':X.fn y=true\/X.env.scope.names.lookup y=some .local:=by first|exact .inl rfl|exact .inr rfl|assumption) :
  L6 X HF₀ H₀ (.Tuple [.Name x px,.Name y py] k pos) (dE i j) :=
 oQ (sV hc (cL (cP hN hi hx hf) (cL (cP hN hj hy hf') oh))) fun v σ H Q ⟨HF,ρ,d,ρ',S,r,hf,q⟩=>by
  unfold dE at hf
  split at hf
  ·cases hf
   simp only[Rep] at r
   obtain⟨a,vs,rfl,hs,rr⟩:=r
   obtain⟨v1,r1,rfl,a1,b1⟩:=rr.cons_inv
   obtain⟨v2,r2,rfl,a2,b2⟩:=b1.cons_inv
   rw[b2.nil_inv] at hs
   exact⟨a,_,rfl,aD S.gr.fh hs,rfl,v1,_,rfl,v2,_,rfl,rfl,q _ ((S.setV a1).setV a2)⟩
  ·cases hf
def eE(tgt:ar->D->Option ar)(gb:ar->Option Out):List D->ar->Option Out
 | [],ρ=>some (.nx ρ)
 | d::ds,ρ=>(tgt ρ d).bind fun ρ1=>(gb ρ1).bind fun|.nx ρ2=>eE tgt gb ds ρ2|.rt v=>some (.rt v)
def cA(fz:List Nat)(fi:Env->Option (List D))(tgt:ar->D->Option ar)(gb:ar->Option Out):ar->Option Out:=fun ρ=>(fi (bx (hand fz 0 ρ))).bind fun ds=>eE tgt gb ds (hand fz 0 ρ)
theorem Jk(fz:List Nat)(hp:PassesOwn (model X.prog X.w) X.A X.env X.xe)(hc:X.calm=true)(hi:DI X tg iter fi)(hg:L6 X HF₀ H₀ tg tgt)(hb:Ce X HF₀ H₀ body gb)
  (hs:∀x,foldedSetIterable iter X.env x=pure x:=by intro _;rfl):DS X HF₀ H₀ (.For tg iter body [] pos) (cA fz fi tgt gb):=cf (Jz hp hc hi hg hb hs) fun E σ H ⟨HF,ρ,o,S,hg,q⟩=>by
 obtain⟨ds,h,hg⟩:=bs hg
 obtain⟨HF1,s1,S1⟩:=S.hand fz
 refine⟨HF1,_,ds,S1.gr.fh,S1.frz,h,fun J H2 HF2 G it=>?_⟩
 refine⟨fun i m σ' H'=>m+i=ds.length/\∃HF' ρ',fE X.K HF₀ H₀ HF' H' ρ' σ'/\aP HF2 HF'/\eE tgt gb (ds.drop i) ρ'=some o,⟨ds.length,rfl,HF2,_,S1.grow G,.refl _,hg⟩,?_⟩
 rintro i m σ' H' ⟨hm,HF',ρ',S',s',hf⟩
 by_cases hi:i < ds.length
 ·refine .inr ?_
  have hd:ds.drop i=ds[i]::ds.drop (i+1):=vB hi
  have he:ds[i]?=some ds[i]:=List.getElem?_eq_some_iff.mpr ⟨hi,rfl⟩
  generalize ds[i]=d at hd he
  rw[hd] at hf
  unfold eE at hf
  obtain⟨ρ1,h1,hf⟩:=bs hf
  obtain⟨o1,h2,hf⟩:=bs hf
  obtain⟨go,yld⟩:=it.go i d H' HF' he s' S'.gr.fh
  refine⟨go,fun σ2 H3=>∃HF3 ρ3,fE X.K HF₀ H₀ HF3 H3 ρ3 σ2/\aP HF2 HF3/\eE tgt gb (ds.drop (i+1)) ρ3=some o,fun σ2 H3 ⟨HF3,ρ3,a1,a2,a3⟩=>⟨m - 1,by omega,by omega,HF3,ρ3,a1,a2,a3⟩,fun x H3 y=>?_⟩
  obtain⟨HF3,G3,rx⟩:=yld x H3 y
  refine⟨HF3,ρ',d,ρ1,S'.grow G3,rx,h1,fun σ2 S2=>⟨HF3,ρ1,o1,S2,h2,?_⟩⟩
  cases o1 with
  | nx ρ2=>exact fun σ4 H4 HF4 S4 s4=>⟨HF4,ρ2,S4,(s'.trans G3.ff).trans s4,hf⟩
  | rt d=>cases hf;exact q
 ·have hi':i=ds.length:=by omega
  subst hi'
  rw[List.drop_length] at hf
  cases hf
  exact .inl ⟨it.stop H' HF' s' S'.gr.fh,q σ' H' HF' S' ((s1.trans G.ff).trans s')⟩
end
def MQ(X:Cx)(sc:Scope):Prop:=∀x k,sc.names.lookup x=some k->X.env.kindOf x=some k\/(k=.free/\X.env.kindOf x=some .cell)
structure Bk(X:Cx)(N:List Str)(sc:Scope)(k:Nat):Prop where
 n:X.N=N
 nd:N.Nodup
 tb:MQ X sc
 calm:X.calm=true
 fn:∀x,sc.names.lookup x=some .cell->X.fn x=true
 room:eD k X.A
 xe:X.xe=fun _ _=>False
 kd:X.env.scope.kind=.function
def da:List Str:=["len","isinstance","int","bool","tuple","list","range","all","any","set","sorted","enumerate","zip","sum","min","max","reversed","abs","dict","str","type","iter","next"]
def Bn(X:Cx):Prop:=∀x∈da,X.mg x=none
def B5(sc:Scope)(x:Str):Bool:=decide (sc.names.lookup x=some .globalImplicit)
def wg(N:List Str)(sc:Scope)(i:Nat)(x:Str):Bool:=decide (N[i]?=some x)&&(decide (sc.names.lookup x=some .local)||decide (sc.names.lookup x=some .cell)||decide (sc.names.lookup x=some .free))&&!(x == ("__debug__":Str))&&!(x == ("__classdict__":Str))
def oz(N:List Str)(sc:Scope)(i:Nat)(x:Str):Bool:=decide (N[i]?=some x)&&(decide (sc.names.lookup x=some .local)||decide (sc.names.lookup x=some .cell))
section
theorem Bk.gl(C:Bk X N sc k)(h:B5 sc x=true):Gl X x:=by
 rcases C.tb x _ (yT h) with q|⟨q,_⟩
 ·exact q
 ·cases q
theorem Bk.vis(C:Bk X N sc k)(h:wg N sc i x=true):X.N[i]?=some x/\Fn X.env.scope x/\(x == ("__debug__":Str))=false/\(x == ("__classdict__":Str))=false:=by
 unfold wg at h
 simp only[zI,jE,zM,yS] at h
 obtain⟨⟨⟨h1,h2⟩,h3⟩,h4⟩:=h
 refine⟨by rw[C.n];exact h1,?_,h3,h4⟩
 rcases h2 with (h2|h2)|h2
 ·rcases C.tb x _ h2 with q|⟨q,_⟩
  ·exact .inl q
  ·cases q
 ·rcases C.tb x _ h2 with q|⟨q,_⟩
  ·exact .inr (.inl q)
  ·cases q
 ·rcases C.tb x _ h2 with q|⟨_,q⟩
  ·exact .inr (.inr q)
  ·exact .inr (.inl q)
theorem Bk.loc(C:Bk X N sc k)(h:oz N sc i x=true):X.N.Nodup/\X.N[i]?=some x/\Loc X.env.scope x/\(X.fn x=true\/X.env.scope.names.lookup x=some .local):=by
 unfold oz at h
 simp only[zI,jE,zM] at h
 obtain⟨h1,h2⟩:=h
 refine⟨by rw[C.n];exact C.nd,by rw[C.n];exact h1,?_⟩
 rcases h2 with h2|h2
 ·rcases C.tb x _ h2 with q|⟨q,_⟩
  ·exact⟨.inl q,.inr q⟩
  ·cases q
 ·rcases C.tb x _ h2 with q|⟨q,_⟩
  ·exact⟨.inr q,.inl (C.fn x h2)⟩
  ·cases q
theorem Bk.blt(C:Bk X N sc k)(B:Bn X)(h:B5 sc x=true)(hm:x∈da)(hv:bootBuiltins x=some v):nO X x v:=⟨C.gl h,B x hm,hv⟩
theorem Bk.v(C:Bk X N sc k)(i:Nat)(h:wg N sc i x=true):DE X (.Name x pos) (ab i):=let ⟨a,b,c,d⟩:=C.vis h;Kq i a b c d
theorem Bk.pass(C:Bk X N sc k):PassesOwn (model X.prog X.w) X.A X.env X.xe:=by rw[C.xe];exact PassesOwn.never
def iq(sc scope:Scope)(N N':List Str)(t:Nat)(cs:List Nat):Bool :=
 decide (scope.kind=.function)&&scope.names.all (fun p=>(!decide (p.2=NameKind.free)||decide (sc.names.lookup p.1=some .cell)||decide (sc.names.lookup p.1=some .free))&&(!decide (p.2=NameKind.local)||decide (scope.names.lookup p.1=some .local)))
  &&scope.names.all (fun p=>!decide (p.2=NameKind.cell)||!scope.names.any fun q=>decide (q.1=p.1)&&decide (q.2=NameKind.free))
  &&decide (N'.length=t+cs.length)&&decide (N'.drop t=cs.filterMap fun j=>N[j]?)&&cs.all (fun j=>decide (j < N.length))&&(N'.drop t).all (fun x=>decide (scope.names.lookup x=some .free))&&decide N'.Nodup
theorem filterMap_get(N:List α):∀ (cs:List Nat),(∀j∈cs,j < N.length)->∀ (i:Nat),(cs.filterMap fun j=>N[j]?)[i]?=(cs[i]?).bind fun j=>N[j]?
 | [],_,i=>by simp
 | c::cs,h,i=>by
  have hc:=h c zH
  rw[jJ,zN hc]
  cases i with
  | zero=>simp[hc]
  | succ i =>
   simp only[xB]
   exact filterMap_get N cs (fun j hj=>h j (zE _ hj)) i
theorem Bk.comp(C:Bk X N sc k){cs:List Nat}(h:iq sc scope N N' t cs=true):hJ X scope N' (iV t cs)/\∀fp s H,Bk (aV X scope N' fp s H) N' scope k:=by
 unfold iq at h
 simp only[zI,zM,xJ,jE,yS,xE] at h
 obtain⟨⟨⟨⟨⟨⟨⟨h1,h2⟩,h3⟩,h4⟩,h5⟩,h6⟩,h7⟩,h8⟩:=h
 refine⟨⟨h1,fun x hx hk=>?_,fun {x} a b=>?_,fun x hx hk=>?_,fun σ i x v e1 e2=>?_,fun σ=>?_⟩,fun fp s H=>⟨rfl,h8,fun x k hx=>mR hx,C.calm,fun x hx=>yC hx,C.room,rfl,h1⟩⟩
 ·rcases (h2 x hx).1 with (q|q)|q
  ·exact absurd hk q
  ·rcases C.tb _ _ q with z|⟨z,_⟩
   ·exact .inl z
   ·cases z
  ·rcases C.tb _ _ q with z|⟨_,z⟩
   ·exact .inr z
   ·exact .inl z
 ·rcases h3 _ a with q|q
  ·exact q rfl
  ·have:(scope.names.any fun q=>decide (q.1=x)&&decide (q.2=NameKind.free))=true:=List.any_eq_true.mpr ⟨_,b,by simp⟩
   rw[this] at q
   cases q
 ·rcases (h2 x hx).2 with q|q
  ·exact absurd hk q
  ·exact q
 ·unfold iV at e2
  by_cases hi:i < t
  ·rw[yV (by simpa using hi),xA,yO hi] at e2
   cases e2
  ·rw[yW (by simpa using hi),zR,xP] at e2
   obtain⟨j,hj,e2⟩:=af e2
   have e3:(N'.drop t)[i - t]?=some x:=by rw[List.getElem?_drop];rw[show t+(i - t)=i by omega];exact e1
   refine⟨h7 x (qE e3),j,?_,?_⟩
   ·rw[h5,filterMap_get N cs h6,hj] at e3
    rw[C.n];exact e3
   ·cases e:σ[j]? with
    | none=>rw[e] at e2;cases e2
    | some o=>rw[e] at e2;have e2:o=some v:=e2;rw[e2]
 ·unfold iV
  rw[zQ,xP,zF,h4]
def ba(g:ar->Option Out)(n:Nat)(args:List D):Option D:=(g (args.map Slot.val++List.replicate (n - args.length) .non)).map fun|.rt d=>d|.nx _=>.none
theorem Ab{ds:List D}{n i:Nat}{ks:List (List D)}:¬ (ds.map Slot.val++List.replicate n .non)[i]?=some (.nest ks):=fun h=>by
 rcases List.mem_append.mp (qE h) with z|z
 ·obtain⟨d,_,e⟩:=List.mem_map.mp z;cases e
 ·cases List.eq_of_mem_replicate z
theorem Hu{K:W.Frag}{st:Stmt}(F:FN K x qual st f fd)(S:dZ N ps (aI st))
  (body:∀X:Cx,X.prog=P->X.w=w->X.K=K->X.mg=mg->X.base=base->Bk X N (aI st) k->X.env.code=fd.code->X.env.qual=qual++".<locals>."->∀HF₀ H₀,Ce X HF₀ H₀ (bY st) g):oW P w K mg base Ky (k+1) f fd ps (LR K ps.length (ba g N.length)):=by
 obtain⟨oc,od,kV,doc,pm,an,cdv,ct,osl,rfl,lk,hcd⟩:=F.ex
 refine KD lk hcd S (fun vs H Q E ⟨HF,ds,d,h1,_,h2,h3,_⟩=>by rw[h2.length,h3]) fun A outer s H vs Q E hr ⟨HF,ds,d,sm,tb,rr,hl,hd,q⟩=>?_
 refine⟨_,(body (BC Ky P w K mg base N qual (aI st) f cdv A outer s H E).nox rfl rfl rfl rfl rfl ⟨rfl,S.nd,fun y kd hy=>.inl hy,rfl,fun _ _=>rfl,hr,rfl,S.kind⟩ rfl rfl HF H).nox,?_⟩
 unfold ba at hd
 obtain⟨o,ho,hd⟩:=af hd
 have hpl:ps.length<=N.length:=by have:=jF List.length S.pre;rw[jY] at this;omega
 refine⟨HF,_,o,⟨.refl sm,fun i e h=>?_,fun i es h=>?_,fun i j es fs a h=>?_,?_,tb,fun i ks h=>absurd h Ab,fun i j ks ls h=>absurd h Ab⟩,ho,?_⟩
 ·have hi:i < ds.length:=by
   by_cases hi:i < ds.length
   ·exact hi
   ·rw[yW (by simpa using hi),xA] at h
    split at h<;>cases h
  rw[yV (by simpa using hi),zR] at h
  obtain⟨d',hd',h⟩:=af h
  cases h
  obtain⟨v,hv,rv⟩:=rr.getD hd'
  refine⟨v,?_,rv⟩
  unfold L2.start
  rw[yV (by simpa [rr.length] using hi),zR,hv]
  rfl
 ·exfalso
  by_cases hi:i < ds.length
  ·rw[yV (by simpa using hi),zR] at h
   obtain⟨d',hd',h⟩:=af h
   cases h
  ·rw[yW (by simpa using hi),xA] at h
   split at h<;>cases h
 ·exfalso
  by_cases hi:i < ds.length
  ·rw[yV (by simpa using hi),zR] at h
   obtain⟨d',hd',h⟩:=af h
   cases h
  ·rw[yW (by simpa using hi),xA] at h
   split at h<;>cases h
 ·unfold L2.start
  rw[zQ,zQ,zF,zF,xP,xP,rr.length]
  exact yP _
 ·cases o with
  | rt d'=>cases hd;exact fun v H' HF' G r=>q v H' HF' G r
  | nx ρ'=>cases hd;exact fun σ' H' HF' S' _=>q .non H' HF' S'.gr (by simp[Rep])
theorem Nq{K:W.Frag}{st:Stmt}(F:FN K x qual st f fd)(S:dZ N ps (aI st))(hb:Binds K fd ps [])(hm:mg x=some (.ref f))
  (body:∀X:Cx,X.prog=P->X.w=w->X.K=K->X.mg=mg->X.base=base->Bk X N (aI st) k->X.env.code=fd.code->X.env.qual=qual++".<locals>."->∀HF₀ H₀,Ce X HF₀ H₀ (bY st) g):ET P w K mg base (k+1) x ps.length (ba g N.length):=⟨f,fd,ps,Hu F S body,hm,F.kp,hb⟩
end
section
def fO(fz:List Nat)(f:Env->Option D)(ρ:ar):Option (D×ar):=(f (aS ρ)).bind fun d=>if l6 d=true then some (d,ρ) else (f (bx (hand fz 0 ρ))).map fun d'=>(d',hand fz 0 ρ)
theorem mW{K:W.Frag}(S:fE K HF₀ H₀ HF H ρ σ)(h:fO fz f ρ=some (d,ρ'))
  (q:∀v H' HF',aP HF HF'->fE K HF₀ H₀ HF' H' ρ' σ->aP H H'->Rep K HF' d v->Q v H'):tD K f σ H Q:=by
 obtain⟨d1,h1,h⟩:=bs h
 split at h
 ·rename_i hs
  cases h
  exact⟨H,aS ρ,d,.refl _,S.all,h1,fun v H' HF' G r=>q v H' HF (.refl _) (S.step G.hh) G.hh (oM hs r)⟩
 ·obtain⟨d2,h2,h⟩:=af h
  cases h
  obtain⟨HF1,s1,S1⟩:=S.hand fz
  exact⟨HF1,_,d,S1.gr.fh,S1.frz,h2,fun v H' HF' G r=>q v H' HF' (s1.trans G.ff) (S1.grow G) G.hh r⟩
def mi(i:Nat)(m:List D->Option (List D))(ρ:ar):Option Out:=match ρ[i]? with
 | some (.own ds)=>(m ds).map fun es=>.nx (ρ.set i (.own es))
 | _=>none
theorem jt(h:mi i m ρ=some o):∃ds es,ρ[i]?=some (.own ds)/\m ds=some es/\o=.nx (ρ.set i (.own es)):=by
 unfold mi at h
 split at h
 ·rename_i ds hd
  obtain⟨es,h1,h2⟩:=af h
  exact⟨ds,es,hd,h1,h2.symm⟩
 ·cases h
theorem fE.mut{K:W.Frag}(S:fE K HF₀ H₀ HF H ρ σ)(h:ρ[i]?=some (.own ds))(ha:σ[i]?=some (some (.ref a)))(hH:H a=some (.lst vs))(r:ak K HF es us) :
  fE K HF₀ H₀ HF (upd H a (.lst us)) (ρ.set i (.own es)) σ:=by
 obtain⟨a',vs',e1,e2,e3,e5,e4⟩:=S.own i ds h
 rw[ha] at e1;cases e1
 have hl:i < ρ.length:=(List.getElem?_eq_some_iff.mp h).1
 have gr:bJ HF₀ H₀ HF (upd H a (.lst us)):=⟨fun b o e=>by rw[az (aH e e5)];exact S.gr.hh b o e,S.gr.ff,fun b o e=>by rw[az (aH e e3)];exact S.gr.fh b o e,S.gr.nw⟩
 have nt:∀ {j:Nat}{ks:List (List D)},(ρ.set i (.own es))[j]?=some (.nest ks)->ρ[j]?=some (.nest ks):=fun {j ks} h=>by
  rw[xM] at h
  by_cases hij:i=j
  ·rw[yO hij] at h
   split at h<;>cases h
  ·rw[yQ hij] at h;exact h
 refine⟨gr,fun j d hj=>?_,fun j xs hj=>?_,fun j k xs ys b f1 f2 f3 f4=>?_,by rw[yE];exact S.len,S.tb,fun j ks hj=>?_,fun j k ks ls h1 h2=>S.one j k ks ls (nt h1) (nt h2)⟩
 ·rw[xM] at hj
  by_cases hij:i=j
  ·rw[yO hij] at hj
   split at hj<;>cases hj
  ·rw[yQ hij] at hj;exact S.val j d hj
 ·rw[xM] at hj
  by_cases hij:i=j
  ·subst hij
   rw[yO rfl,yO hl] at hj
   cases hj
   exact⟨a,us,ha,aE,e3,e5,r⟩
  ·rw[yQ hij] at hj
   obtain⟨b,ws,f1,f2,f3,f5,f4⟩:=S.own j xs hj
   refine⟨b,ws,f1,?_,f3,f5,f4⟩
   rw[az]
   ·exact f2
   ·rintro rfl
    exact hij (S.inj i j ds xs b h hj ha f1)
 ·have old:∀ {j:Nat}{xs:List D},(ρ.set i (.own es))[j]?=some (.own xs)->∃ys,ρ[j]?=some (.own ys):=fun {j xs} hj=>by
   rw[xM] at hj
   by_cases hij:i=j
   ·subst hij;exact⟨ds,h⟩
   ·rw[yQ hij] at hj;exact⟨xs,hj⟩
  obtain⟨xs',g1⟩:=old f1
  obtain⟨ys',g2⟩:=old f2
  exact S.inj j k xs' ys' b g1 g2 f3 f4
 ·obtain⟨a',bs,g1,n,di⟩:=S.nst j ks (nt hj)
  refine⟨a',bs,g1,n.imp (.refl _) fun b hb o z1 z2=>⟨?_,z2⟩,fun k xs b h1 h2=>?_⟩
  ·rw[az (show b≠a from fun z=>di i ds a h ha (z ▸ hb))]
   exact z1
  ·rw[xM] at h1
   by_cases hik:i=k
   ·subst hik
    exact di i ds b h h2
   ·rw[yQ hik] at h1
    exact di k xs b h1 h2
def kn(i:Nat)(fz:List Nat)(f:Env->Option D):ar->Option Out:=fun ρ=>(fO fz f ρ).bind fun p=>mi i (fun ds=>if ds.length < sizeLine then some (ds++[p.1]) else none) p.2
theorem BL(i:Nat)(fz:List Nat)(hN:X.N[i]?=some x)(hv:Fn X.env.scope x)(h:DE X e f)(hd:(x == ("__debug__":Str))=false:=by decide)(hcd:(x == ("__classdict__":Str))=false:=by decide)
  (hfew:((backTo cpos (starEach [e] X.env)).all (fun x=>!x.1)&&(backToKw cpos (keywordEach [] X.env)).all (fun x=>x.1.isSome)&&decide ([e].length+([]:List Keyword).length+(if ([]:List Keyword).isEmpty then 0 else 1) < 30))=true:=by rfl)
  (hline:(apos.endLine == cpos.line)=true:=by rfl) (hs:starEach [e] X.env=(false,eval e X.env)::starEach [] X.env:=by rfl) :
  DS X HF₀ H₀ (.Expr (.Call (.Attribute (.Name x px) "append" apos) [e] [] cpos) pos) (kn i fz f) :=
 cf (n9 (u9 qS PySem.F.slot_list_append PySem.F.type_list_append rC (mO hN hv hd hcd) (cB h gg hs) rfl hfew hline hs rfl)) fun E σ H ⟨HF,ρ,o,S,hg,q⟩=>by
  obtain⟨⟨d,ρ'⟩,h1,hg⟩:=bs hg
  obtain⟨ds,es,h2,h3,rfl⟩:=jt hg
  have hown:∃ds',ρ[i]?=some (.own ds'):=by
   obtain⟨d1,_,h1⟩:=bs h1
   split at h1
   ·cases h1;exact⟨ds,h2⟩
   ·obtain⟨d2,_,h1⟩:=af h1
    cases h1
    rw[gJ] at h2
    obtain⟨s,hs,h2⟩:=af h2
    cases s with
    | non=>split at h2<;>cases h2
    | nest _=>split at h2<;>cases h2
    | val _=>split at h2<;>cases h2
    | own xs=>exact⟨xs,hs⟩
  obtain⟨ds',hown⟩:=hown
  obtain⟨a,vs,e1,e2,e3,e5,e4⟩:=S.own i ds' hown
  refine⟨.ref a,e1,.inl ⟨rfl,vs,eK.of e2⟩,mW S h1 fun v H' HF' s1 S' sh r=>?_⟩
  obtain⟨a',vs',f1,f2,f3,f5,f4⟩:=S'.own i ds h2
  rw[e1] at f1;cases f1
  split at h3
  ·rename_i hz
   cases h3
   exact⟨a,vs',v,rfl,rfl,f2,by rw[f4.length];exact hz,q σ _ HF' (S'.mut h2 e1 f2 (f4.append (ak.cons r ak.nil))) s1⟩
  ·cases h3
end
def r9(K:W.Frag)(o:Obj):Option (Addr×Str):=match o.data with
 | .func fd=>if iN.contains fd.qualname=true then (match fd.code with
   | .ref c=>(match K.lookup c with
    | some ⟨_,_,.fields vs,_⟩=>(match (vs[11]?:Option Value) with
     | some (.ref P)=>if W.codeHdIn K c P=true then some (P,fd.qualname++".<locals>."++"<lambda>") else none
     | _=>none)
    | _=>none)
   | _=>none) else none
 | _=>none
def gu(K:W.Frag):List (Addr×Str):=K.filterMap fun p=>r9 K p.2
def mh(K:W.Frag)(ts:List Addr):Bool:=(gu K).all fun p=>ts.contains p.1&&(K.lookup p.1).isNone&&decide ((gu K).lookup p.1=some p.2)
theorem uz{K:W.Frag}(h:r9 K o=some (P,q)):∃c,W.codeHdIn K c P=true:=by
 unfold r9 at h
 split at h
 ·split at h
  ·split at h
   ·split at h
    ·split at h
     ·split at h
      ·cases h;exact⟨_,‹_›⟩
      ·cases h
     ·cases h
    ·cases h
   ·cases h
  ·cases h
 ·cases h
theorem uh{K:W.Frag}(h:(P,q)∈gu K):∃c,W.codeHdIn K c P=true:=by
 obtain⟨p,_,e⟩:=List.mem_filterMap.mp h
 exact uz e
theorem yz{K:W.Frag}(a:K.lookup f=some ⟨oc,od,.func fd,sl⟩)(b:fd.qualname∈iN)(d:fd.code=.ref c)(e:W.codeHdIn K c P=true) :
  (P,fd.qualname++".<locals>."++"<lambda>")∈gu K:=by
 refine List.mem_filterMap.mpr ⟨(f,_),W.mem_of_lookupK a,?_⟩
 have e':=e
 unfold W.codeHdIn at e'
 unfold r9
 simp only[d,List.contains_iff_mem,b,xK]
 split at e'
 ·rename_i vs sl' hl
  simp only[hl]
  simp only[zI] at e'
  have e1:=e'.1.1.1.1.1
  split at e1
  ·rename_i P' hv
   have:P'=P:=by simpa using e1
   subst this
   simp only[hv,e,xK]
  ·cases e1
 ·cases e'
theorem Cj:∀ {l:List (Addr×α)},l.lookup b=some q->(b,q)∈l
 | [],e=>by cases e
 | (c,x)::r,e=>by
  rw[yD] at e
  cases h:b == c with
  | true=>rw[h] at e;cases e;rw[eq_of_beq h];exact zH
  | false=>rw[h] at e;exact zE _ (Cj e)
def ee(K:W.Frag)(h0:Hp):Hp:=fun b=>match (gu K).lookup b with|some q=>some (.tab q)|none=>h0 b
theorem Ba{K:W.Frag}(h:mh K ts=true):fg K (ee K h0):=fun f oc od fd sl c P a b d e=>by
 have hm:=yz a b d e
 have:=List.all_eq_true.mp h _ hm
 simp only[zI,zM] at this
 unfold ee
 rw[this.2]
theorem A9{w:World}{K:W.Frag}{CX:Hs}{k:Nat}{fa:Addr}{fd:FuncData}{sp:Sp}{vs:List Value}{ns:List Int}
  (KX:K.In s₁.heap) (hns:s₁.heap.Ns mainGlobals mg) (hb:s₁.heap.Ns builtinsNs mb) (hbb:∀x:Str,x≠"__name__"->mb x=bootBuiltins x) (hlim:s₁.heap.NoLimit) (hbm:L8 mg s₁.heap) (hg:s₁.gens=#[])
  (ht:mh K ts=true) (hts:∀P∈ts,s₁.heap.get? P=some (W.tabObj #[]))
  (ha:s₁.heap.get? a=some { cls:=.type "list",data:=.seq vs.toArray }) (hi:IntsAre vs ns) (hl:ns.length<=sizeLine) (hr:eD k callerA)
  (F:∀base:Heap,K.In base->base.Ns mainGlobals mg->oW P w K mg base CX k fa fd [x] sp) (hbind:∀ (s:Shared) (u:Value),BindsTo s fd ⟨[u],[]⟩ [(x,u)])
  (hsp:∀H:Hp,fg K H->eK K H a (ns.map V.int)->sp [.ref a] H (fun v _=>v=.bl true) fun _ _ _=>False)
  (hCX:∀H e s',CX [] H s₁ (fun _ _ _=>False) e s'->False) :
  codeAny (model P w) callerA (.call (.ref fa) ⟨[.ref a],[]⟩) (fun r s'=>r=.ok (.ret (.bool true))/\OldK s₁.heap s'.heap/\s'.os=s₁.os/\AllBare s'.gens) s₁:=by
 have rv:=qf hi
 have lenV:=hi.length
 have tabAt:∀b q,(gu K).lookup b=some q->s₁.heap.get? b=some (W.tabObj #[])/\K.lookup b=none/\∃c,W.CodeHd s₁.heap c b:=fun b q e=>by
  have hm:=Cj e
  have:=List.all_eq_true.mp ht _ hm
  simp only[zI,zM,List.contains_iff_mem,Option.isNone_iff_eq_none] at this
  obtain⟨c,hc⟩:=uh hm
  exact⟨hts b this.1.1,this.1.2,c,W.codeHd_of_K KX hc⟩
 have aT:(gu K).lookup a=none:=by
  cases e:(gu K).lookup a with
  | none=>rfl
  | some q=>have:=(tabAt a q e).1;rw[ha] at this;cases this
 have core:∀h0:Hp,eK K (ee K h0) a (ns.map V.int)->n5 P w (ee K h0) s₁.heap->(∀b,h0 b≠none->b=a)->(h0 a≠none->K.lookup a=none)->(∀b,h0 b=none\/∃o xs,h0 b=some (.frz o (.lst xs))) ->
   codeAny (model P w) callerA (.call (.ref fa) ⟨[.ref a],[]⟩) (fun r s'=>r=.ok (.ret (.bool true))/\OldK s₁.heap s'.heap/\s'.os=s₁.os/\AllBare s'.gens) s₁:=by
  intro h0 hS hok hA hK hO
  have look:∀b u,ee K h0 b=some u->(∃q,(gu K).lookup b=some q/\u=.tab q)\/(b=a/\h0 b=some u):=fun b u e=>by
   unfold ee at e
   split at e
   ·rename_i q hq;cases e;exact .inl ⟨q,hq,rfl⟩
   ·exact .inr ⟨hA b (by rw[e];simp),e⟩
  have md:∀ {b:Addr}{o:Obj},s₁.heap.get? b=some o->ee K h0 b=none->(sJ s₁.heap (ee K h0)).get? b=some o:=fun e n=>DK e n
  have noA:∀ {b:Addr}{o:Obj},s₁.heap.get? b=some o->(∀vs n,o.data≠.seq vs n)->(∀vs,o.data≠.fields vs)->ee K h0 b=none:=fun {b o} e d d2=>by
   cases q:ee K h0 b with
   | none=>rfl
   | some u =>
    rcases look b u q with ⟨q',z,_⟩|⟨z,_⟩
    ·rw[(tabAt b q' z).1] at e;cases e;exact absurd rfl (d2 _)
    ·subst z;rw[ha] at e;cases e;exact absurd rfl (d _ _)
  have nsK:∀ {b:Addr}{m:Str->Option Value},s₁.heap.Ns b m->(sJ s₁.heap (ee K h0)).Ns b m:=fun {b m} ⟨o,es,ep,e,d,r⟩=>⟨o,es,ep,md e (noA e (fun _ _ z=>by rw[d] at z;cases z) fun _ z=>by rw[d] at z;cases z),d,r⟩
  have hKb:K.In (sJ s₁.heap (ee K h0)):=fun b o e=>md (KX b o e) (by
   cases q:ee K h0 b with
   | none=>rfl
   | some u =>
    rcases look b u q with ⟨q',z,_⟩|⟨z,z2⟩
    ·rw[(tabAt b q' z).2.1] at e;cases e
    ·subst z;rw[hK (by rw[z2];simp)] at e;cases e)
  have hM:Mod K mg (sJ s₁.heap (ee K h0)):=⟨hKb,nsK hns,⟨mb,nsK hb,hbb⟩,let ⟨mc,h1,h2⟩:=hlim;⟨mc,nsK h1,h2⟩,
   let ⟨bm,o,b1,b2,b3,b4,b5,b6,b7⟩:=hbm;⟨bm,o,b1,b2,b3,md b4 (noA b4 (fun _ _ z=>by rw[b7] at z;cases z) fun _ z=>by rw[b7] at z;cases z),b5,b6,b7⟩⟩
  have e0:FS P w K mg (sJ s₁.heap (ee K h0)) callerA [] s₁ (ee K h0):=⟨rfl,hM,fun b o e=>Hl e,Nat.le_of_eq (A2 _ _),trivial,fun b hb=>absurd (show b∈([]:List Addr) from hb) (by simp),hok,.of_eq hg⟩
  refine jU ((F _ hKb (nsK hns)).run callerA [] s₁ (ee K h0) ⟨[.ref a],[]⟩ [.ref a] [.ref a] _ _ hr e0 (hbind s₁ (.ref a)) (.cons rfl .nil) (hsp _ (Ba ht) hS)) fun r s' h=>?_
  cases r with
  | error e=>exact (hCX _ e s' h).elim
  | ok fl =>
   cases fl with
   | next=>exact False.elim h
   | brk=>exact False.elim h
   | cont=>exact False.elim h
   | ret u =>
    obtain⟨v,H',os,bare,un,hok',r',q⟩:=h
    have q':v=.bl true:=q
    subst q'
    obtain rfl:u=Value.bool true:=r'
    have key:∀b o,s₁.heap.get? b=some o->s'.heap.get? b=some o\/(isCodeTable s₁.heap b/\o=W.tabObj #[]/\∃ps,s'.heap.get? b=some (W.tabObj ps)):=fun b o e=>by
     cases q:ee K h0 b with
     | none=>exact .inl (un.keep b o e q (by intro z;exact absurd (show b∈([]:List Addr) from z) (by simp)) (by simp))
     | some u =>
      rcases look b u q with ⟨q',z,rfl⟩|⟨z,z2⟩
      ·obtain⟨t1,_,c,t3⟩:=tabAt b q' z
       obtain⟨more,m1⟩:=un.tbls.gr b q' #[] q t1
       rw[e] at t1
       cases t1
       exact .inr ⟨(t3.tab e).isCodeTable,rfl,_,m1⟩
      ·rcases hO b with z3|⟨ob,xs,z3⟩
       ·rw[z2] at z3;cases z3
       ·rw[z2] at z3
        cases z3
        have z4:=un.frzs b ob _ q
        obtain⟨e1,_⟩:=hok b _ q
        obtain⟨e2,_⟩:=hok' b _ z4
        rw[e] at e1;cases e1
        exact .inl e2
    refine⟨rfl,⟨fun b o e=>?_,fun b o e=>?_⟩,os,bare⟩
    ·rcases key b o e with z|⟨t,rfl,ps,z⟩
     ·exact .inl z
     ·exact .inr (.inl ⟨t,rfl,#[],ps,rfl,by rw[Array.empty_append];exact z⟩)
    ·rcases key b o e with z|⟨_,_,ps,z⟩
     ·exact⟨o,z⟩
     ·exact⟨_,z⟩
 have hoT:∀ (h0:Hp) b q,(gu K).lookup b=some q->ef P w (ee K h0) s₁.heap b (.tab q):=fun h0 b q e=>⟨#[],(tabAt b q e).1,trivial,fun pos v z=>by cases z⟩
 cases hk:K.lookup a with
 | some o =>
  have e:=KX a o hk
  rw[ha] at e
  cases e
  refine core (fun _=>none) (.inr ⟨_,vs.toArray,_,hk,rfl,rfl,rfl,by rw[zK,lenV];exact hl,by simpa using rv⟩) (fun b u z=>?_) (fun b z=>absurd rfl z) (fun z=>absurd rfl z) fun _=>.inl rfl
  unfold ee at z
  split at z
  ·rename_i q hq;cases z;exact hoT _ b q hq
  ·cases z
 | none =>
  refine core (fun b=>if b=a then some (.frz { cls:=.type "list",data:=.seq vs.toArray } (.lst (ns.map V.int))) else none) (.inl (.inr ⟨{ cls:=.type "list",data:=.seq vs.toArray },?_⟩)) (fun b u z=>?_) (fun b z=>?_) (fun _=>hk) fun b=>?_
  ·unfold ee;rw[aT];exact yO rfl
  ·unfold ee at z
   split at z
   ·rename_i q hq;cases z;exact hoT _ b q hq
   ·by_cases hb:b=a
    ·replace z:=(yO hb).symm.trans z
     cases z
     subst hb
     exact⟨ha,by rw[zF];exact hl,vs,_,rv,ha⟩
    ·replace z:=(yQ hb).symm.trans z;cases z
  ·by_cases hb:b=a
   ·exact hb
   ·exact absurd (yQ hb) z
  ·by_cases hb:b=a
   ·exact .inr ⟨_,_,yO hb⟩
   ·exact .inl (yQ hb)
theorem Eb{l:W.OpenLaw}{n k:Nat}{q:Program}{loose:List Str}{XP:(Str->Option Value)->Heap->Prop}{YP:World->Heap->Prop}{d:DefRec}{K:Params->W.Frag}{CX:World->Hs}{sp:World->Sp}{x:Str}{ts:List Addr}
  (hn:l.most=some n) (hn2:n<=sizeLine) (hdf:d.params.defaults=[]) (hr:eD k callerA)
  (hY:∀ (w:World) (h:Heap),YP w h->(K w.params).In h/\∀P∈ts,h.get? P=some (W.tabObj #[])) (ht:∀w:World,mh (K w.params) ts=true)
  (F:∀ (w:World) (mg:Str->Option Value) (fa:Addr) (h:Heap),(K w.params).In h->h.Ns mainGlobals mg->mg d.name=some (.ref fa) ->
   ∃fd:FuncData,(∀ (s:Shared) (u:Value),BindsTo s fd ⟨[u],[]⟩ [(x,u)]) /\
    ∀base:Heap,(K w.params).In base->base.Ns mainGlobals mg->oW l.prog w (K w.params) mg base (CX w) k fa fd [x] (sp w))
  (hsp:∀ (w:World) (H:Hp) (a:Addr) (ns:List Int),ns.length<=n->fg (K w.params) H->eK (K w.params) H a (ns.map V.int)->sp w [.ref a] H (fun v _=>v=.bl true) fun _ _ _=>False)
  (hCX:∀ (w:World) (H:Hp) (s:Shared) (e:Value) (s':Shared),CX w [] H s (fun _ _ _=>False) e s'->False) :
  W.WalkO q loose XP YP l.row.toRowW d [] (fun f vs=>PySem.call f vs):=by
 refine Att.attach_call hn hdf fun w s₀ s₁ mg mb fa o pm cd doc a vs ns G Y ho hd hcd hmg hobj hints hlen hg=>?_
 obtain⟨KX,hts⟩:=hY w _ Y
 obtain⟨fd,hb,hF⟩:=F w mg fa _ KX G.T.g hmg
 have hbm:L8 mg s₁.heap:=by
  obtain⟨bm,ob,b1,b2,b3,b4,b5,b6⟩:=G.T.bmain
  refine⟨bm,ob,b1,b2,fun z=>?_,b3,b4,b5,b6⟩
  obtain⟨o',es,ep,e1,e2,_⟩:=G.T.g
  rw[<- z,b3] at e1
  cases e1
  rw[b6] at e2;cases e2
 exact A9 KX G.T.g G.T.b G.T.builtins G.T.nolimit hbm hg (ht w) hts hobj hints (yF hlen hn2) hr hF hb (fun H hT hS=>hsp w H a ns hlen hT hS) fun H e s'=>hCX w H s₁ e s'
end Dl
namespace SP
open PySem PySem.W PyProof.Rows
def run(lt:Nat->Nat->Bool):KasT α->α
 | .ret a=>a
 | .ask i j k=>run lt (k (lt i j))
theorem gz(lt:Nat->Nat->Bool)(f:α->KasT β):∀t:KasT α,run lt (t.bind f)=run lt (f (run lt t))
 | .ret a=>rfl
 | .ask i j k=>by
  show run lt ((k (lt i j)).bind f)=run lt (f (run lt (k (lt i j))))
  exact gz lt f (k (lt i j))
def KB(n:Nat):KasT α->Prop
 | .ret _=>True
 | .ask i j k=>i < n/\j < n/\∀b,KB n (k b)
theorem wp_run(hc:∀i j C,i < n->j < n->C (lt i j) s->cmp i j C s):∀ (t:KasT α) {Q:α->Shared->Prop},KB n t->Q (run lt t) s->t.kasWp cmp Q s
 | .ret a,Q,_,h=>h
 | .ask i j k,Q,b,h=>hc i j _ b.1 b.2.1 (wp_run hc (k (lt i j)) (b.2.2 _) h)
def oG(n:Nat)(R:α->Prop):KasT α->Prop
 | .ret a=>R a
 | .ask i j k=>i < n/\j < n/\∀b,oG n R (k b)
theorem mD:∀ {t:KasT α},oG n R t->(∀a,R a->KB n (f a))->KB n (t.bind f)
 | .ret a,b,h=>h a b
 | .ask i j k,b,h=>⟨b.1,b.2.1,fun c=>mD (b.2.2 c) h⟩
theorem hU:∀ {t:KasT α},oG n R t->(∀a,R a->oG n S (f a))->oG n S (t.bind f)
 | .ret a,b,h=>h a b
 | .ask i j k,b,h=>⟨b.1,b.2.1,fun c=>hU (b.2.2 c) h⟩
def Bd(n:Nat)(p:Array Nat):Prop:=∀a,p.getD a 0 < n
theorem Bd.perm(h:Bd n p)(e:q.Perm p):Bd n q:=by
 intro a
 rw[qG]
 cases ha:q[a]? with
 | none=>have:=h p.size;rw[qG] at this;simpa using this
 | some x =>
  have hx:x∈q:=Array.mem_of_getElem? ha
  have hx':x∈p:=e.mem_iff.mp hx
  obtain⟨i,hi,rfl⟩:=Array.mem_iff_getElem.mp hx'
  have:=h i
  rw[qG] at this
  simpa [hi] using this
theorem Du(h:Bd n p):∀f m,oG n (fun _=>True) (kas_asc p f m)
 | 0,m=>trivial
 | f+1,m=>⟨h _,h _,fun c=>by
  dsimp only
  split
  ·trivial
  ·exact Du h f (m+1)⟩
theorem ud(h:Bd n p)(i j:Nat):Bd n (kas_rev p i j):=h.perm (mirror_perm _ _ _ _)
theorem tO:∀ (f:Nat) {p:Array Nat}(h:Bd n p) (m q:Nat),oG n (fun r=>Bd n r.1) (kas_desc f p m q)
 | 0,p,h,m,q=>h
 | f+1,p,h,m,q=>⟨h _,h _,fun c=>by
  dsimp only
  split
  ·split
   ·exact tO f (ud h _ _) (m+1) 0
   ·exact tO f h (m+1) 0
  ·exact⟨h _,h _,fun d=>by
    dsimp only
    split
    ·exact h
    ·exact tO f h (m+1) (q+1)⟩⟩
theorem AS(h:Bd n p)(m nrem:Nat):oG n (fun r=>Bd n r.2) (kas_tail3 m nrem p):=hU (Du (ud h 0 m) _ _) fun _ _=>ud h 0 m
theorem oE(h:Bd n p)(m nrem:Nat):oG n (fun r=>Bd n r.2) (kas_descPart m nrem p):=hU (tO _ h _ _) fun r hr=>by
 split
 ·exact AS (ud hr _ _) _ _
 ·exact AS hr _ _
theorem GL(h:Bd n p)(nrem:Nat):oG n (fun r=>Bd n r.2) (kas_count nrem p):=hU (Du h _ _) fun m _=>by
 split
 ·exact h
 ·split
  ·exact⟨h _,h _,fun c=>by
    dsimp only
    split
    ·exact h
    ·exact oE (ud h _ _) _ _⟩
  ·exact oE h _ _
theorem sd(h:Bd n p)(k:Nat):∀f l r,oG n (fun _=>True) (kas_place p k f l r)
 | 0,l,r=>trivial
 | f+1,l,r=>by
  unfold kas_place
  split
  ·trivial
  ·exact⟨h _,h _,fun c=>by
    dsimp only
    split
    ·exact sd h k f _ _
    ·exact sd h k f _ _⟩
theorem HM:∀ (f:Nat) {p:Array Nat}(h:Bd n p) (k:Nat),KB n (kas_bin f p k)
 | 0,p,h,k=>trivial
 | f+1,p,h,k=>mD (sd h k _ _ _) fun l _=>HM f (h.perm (bubble_perm _ _ _)) (k+1)
theorem CQ(h1:1<=n):KB n (kas_sort n):=by
 have h:Bd n (List.toArray (List.range n)):=fun a=>by
  rw[qG]
  by_cases ha:a < n
  ·simp[ha]
  ·simp[ha];omega
 refine mD (GL h n) fun r hr=>?_
 split
 ·exact HM _ hr _
 ·trivial
section
variable (z:Nat->Int)
def Z(p:Array Nat)(a:Nat):Int:=z (p.getD a 0)
def dA:Nat->Nat->Bool:=fun i j=>decide (z i < z j)
theorem lZ(h:p[a]?=q[b]?):Z z p a=Z z q b:=by
 unfold Z
 rw[qG,qG,h]
theorem Dp(hj:j<=p.size)(k:Nat):Z z (kas_rev p i j) k=if i<=k/\k < j then Z z p (i+j - 1 - k) else Z z p k:=by
 have e:=getElem?_mirror_all (xs:=p) (i:=i) hj k
 unfold kas_rev
 by_cases h1:i<=k/\k < j
 ·rw[yO h1] at e ⊢;exact lZ z e
 ·rw[yQ h1] at e ⊢;exact lZ z e
theorem Dd(hs:src < p.size)(hd:d<=src)(k:Nat):Z z (bubble p src d) k=if k=src - d then Z z p src else if src - d < k/\k<=src then Z z p (k - 1) else Z z p k:=by
 have e:=getElem?_bubble hs d hd k
 by_cases h1:k=src - d
 ·rw[yO h1] at e ⊢;exact lZ z e
 ·rw[yQ h1] at e ⊢
  by_cases h2:src - d < k/\k<=src
  ·rw[yO h2] at e ⊢;exact lZ z e
  ·rw[yQ h2] at e ⊢;exact lZ z e
def Up(p:Array Nat)(n:Nat):Prop:=∀a b,a<=b->b < n->Z z p a<=Z z p b
def Dn(p:Array Nat)(n:Nat):Prop:=∀a b,a<=b->b < n->Z z p b<=Z z p a
variable {z}
theorem Fi(h:Up z p n)(hn:1<=n)(h1:Z z p (n - 1)<=Z z p n):Up z p (n+1):=by
 intro a b hab hb
 by_cases hbn:b < n
 ·exact h a b hab hbn
 ·have e:b=n:=by omega
  subst e
  by_cases ha:a=b
  ·subst ha;exact qC _
  ·exact jW (h a (b - 1) (by omega) (by omega)) h1
theorem MD:∀ (f n:Nat),1<=n->Up z p n->n<=run (dA z) (kas_asc p f n)/\run (dA z) (kas_asc p f n)<=n+f/\Up z p (run (dA z) (kas_asc p f n))/\(run (dA z) (kas_asc p f n) < n+f->Z z p (run (dA z) (kas_asc p f n)) < Z z p (run (dA z) (kas_asc p f n) - 1))
 | 0,n,hn,h=>⟨yP _,yP _,h,fun q=>absurd q (qH _)⟩
 | f+1,n,hn,h=>by
  unfold kas_asc
  show n<=run (dA z) (if dA z (p.getD n 0) (p.getD (n - 1) 0)=true then .ret n else kas_asc p f (n+1))/\run (dA z) (if dA z (p.getD n 0) (p.getD (n - 1) 0)=true then .ret n else kas_asc p f (n+1))<=n+(f+1)/\Up z p (run (dA z) (if dA z (p.getD n 0) (p.getD (n - 1) 0)=true then .ret n else kas_asc p f (n+1)))/\(run (dA z) (if dA z (p.getD n 0) (p.getD (n - 1) 0)=true then .ret n else kas_asc p f (n+1)) < n+(f+1)->Z z p (run (dA z) (if dA z (p.getD n 0) (p.getD (n - 1) 0)=true then .ret n else kas_asc p f (n+1))) < Z z p (run (dA z) (if dA z (p.getD n 0) (p.getD (n - 1) 0)=true then .ret n else kas_asc p f (n+1)) - 1))
  by_cases hc:dA z (p.getD n 0) (p.getD (n - 1) 0)=true
  ·rw[yO hc]
   exact⟨yP _,jX _ _,h,fun _=>yT hc⟩
  ·rw[yQ hc]
   have h1:Z z p (n - 1)<=Z z p n:=by
    have:¬ (Z z p n < Z z p (n - 1)):=fun q=>hc (yC q)
    omega
   obtain⟨a,b,c,d⟩:=MD f (n+1) (by omega) (Fi h hn h1)
   exact⟨by omega,by omega,c,fun q=>d (by omega)⟩
theorem x6(hj:j<=p.size)(h:∀a b,i<=a->a < j->i<=b->b < j->Z z p a=Z z p b)(k:Nat):Z z (kas_rev p i j) k=Z z p k:=by
 rw[Dp z hj]
 split
 ·rename_i hk
  exact h _ _ (by omega) (by omega) hk.1 hk.2
 ·rfl
theorem Dv(e:∀k,Z z q k=Z z p k)(h:Dn z p n):Dn z q n:=fun a b hab hb=>by rw[e,e];exact h a b hab hb
theorem JX(hn:n<=p.size)(h:Dn z p n):Up z (kas_rev p 0 n) n:=by
 intro a b hab hb
 rw[Dp z hn,Dp z hn,yO ⟨xY _,by omega⟩,yO ⟨xY _,hb⟩]
 exact h _ _ (by omega) (by omega)
theorem lU(p:Array Nat)(i j:Nat):(kas_rev p i j).size=p.size:=mirror_size _ _ _ _
theorem mr(p:Array Nat)(i j:Nat):(kas_rev p i j).Perm p:=mirror_perm _ _ _ _
structure Jj(z:Nat->Int)(p₀ p:Array Nat)(n q nrem:Nat):Prop where
 perm:p.Perm p₀
 size:p.size=p₀.size
 le:n<=nrem
 qn:q+1<=n
 dn:Dn z p n
 eq:∀a b,n - (q+1)<=a->a < n->n - (q+1)<=b->b < n->Z z p a=Z z p b
theorem Fy(hz:nrem<=p₀.size):∀ (f:Nat) (p:Array Nat) (n q:Nat),n+f<=nrem->Jj z p₀ p n q nrem ->
  let r:=run (dA z) (kas_desc f p n q);Jj z p₀ r.1 r.2.1 r.2.2 nrem
 | 0,p,n,q,hn,h=>h
 | f+1,p,n,q,hn,h=>by
  intro r
  have hr:r=run (dA z) (if dA z (p.getD n 0) (p.getD (n - 1) 0)=true then (if q > 0 then kas_desc f (kas_rev p (n - (q+1)) n) (n+1) 0 else kas_desc f p (n+1) 0)
   else .ask (p.getD (n - 1) 0) (p.getD n 0) fun d=>if d=true then .ret (p,n,q) else kas_desc f p (n+1) (q+1)):=rfl
  have hq:=h.qn
  by_cases hc:dA z (p.getD n 0) (p.getD (n - 1) 0)=true
  ·rw[yO hc] at hr
   have hlt:Z z p n < Z z p (n - 1):=yT hc
   have step:∀p':Array Nat,p'.Perm p₀->p'.size=p₀.size->(∀k,Z z p' k=Z z p k)->Jj z p₀ p' (n+1) 0 nrem:=fun p' a1 a2 a3=>by
    refine⟨a1,a2,by omega,by omega,fun a b hab hb=>?_,fun a b h1 h2 h3 h4=>by rw[show a=b by omega]⟩
    rw[a3,a3]
    by_cases hbn:b < n
    ·exact h.dn a b hab hbn
    ·have e:b=n:=by omega
     subst e
     by_cases ha:a=b
     ·subst ha;exact qC _
     ·exact jW (Int.le_of_lt hlt) (h.dn a (b - 1) (by omega) (by omega))
   by_cases hq0:q > 0
   ·rw[yO hq0] at hr
    rw[hr]
    exact Fy hz f _ (n+1) 0 (by omega) (step _ ((mr _ _ _).trans h.perm) (by rw[lU,h.size]) (x6 (by rw[h.size];omega) h.eq))
   ·rw[yQ hq0] at hr
    rw[hr]
    exact Fy hz f p (n+1) 0 (by omega) (step p h.perm h.size fun _=>rfl)
  ·rw[yQ hc] at hr
   have hge:Z z p (n - 1)<=Z z p n:=by
    have:¬ (Z z p n < Z z p (n - 1)):=fun q=>hc (yC q)
    omega
   have hr':r=run (dA z) (if dA z (p.getD (n - 1) 0) (p.getD n 0)=true then .ret (p,n,q) else kas_desc f p (n+1) (q+1)):=hr
   by_cases hd:dA z (p.getD (n - 1) 0) (p.getD n 0)=true
   ·rw[yO hd] at hr'
    rw[hr']
    exact h
   ·rw[yQ hd] at hr'
    rw[hr']
    have heq:Z z p n=Z z p (n - 1):=by
     have:¬ (Z z p (n - 1) < Z z p n):=fun q=>hd (yC q)
     omega
    refine Fy hz f p (n+1) (q+1) (by omega) ⟨h.perm,h.size,by omega,by omega,fun a b hab hb=>?_,fun a b h1 h2 h3 h4=>?_⟩
    ·by_cases hbn:b < n
     ·exact h.dn a b hab hbn
     ·have e:b=n:=by omega
      subst e
      by_cases ha:a=b
      ·subst ha;exact qC _
      ·rw[heq];exact h.dn a (b - 1) (by omega) (by omega)
    ·have key:∀c,n+1 - (q+1+1)<=c->c < n+1->Z z p c=Z z p (n - 1):=fun c c1 c2=>by
      by_cases hcn:c < n
      ·exact h.eq c (n - 1) (by omega) hcn (by omega) (by omega)
      ·have e:c=n:=by omega
       subst e;exact heq
     rw[key a h1 h2,key b h3 h4]
structure LX(z:Nat->Int)(p₀:Array Nat)(nrem:Nat)(r:Nat×Array Nat):Prop where
 perm:r.2.Perm p₀
 size:r.2.size=p₀.size
 ge:1<=r.1
 le:r.1<=nrem
 up:Up z r.2 r.1
theorem tail3(hz:nrem<=p₀.size)(h1:1<=n)(hn:n<=nrem)(hp:p.Perm p₀)(hs:p.size=p₀.size)(hd:Dn z p n):LX z p₀ nrem (run (dA z) (kas_tail3 n nrem p)):=by
 unfold kas_tail3
 rw[gz]
 obtain⟨a,b,c,_⟩:=MD (nrem - n) n h1 (JX (by omega) hd)
 exact⟨(mr _ _ _).trans hp,by show (kas_rev p 0 n).size=_;rw[lU,hs],by show 1<=run _ (kas_asc _ _ _);omega,by show run _ (kas_asc _ _ _)<=nrem;omega,c⟩
theorem descPart(hz:nrem<=p₀.size)(h1:1<=n)(hn:n < nrem)(hp:p.Perm p₀)(hs:p.size=p₀.size)(hd:Dn z p n)(hlt:Z z p n<=Z z p (n - 1)):LX z p₀ nrem (run (dA z) (kas_descPart n nrem p)):=by
 unfold kas_descPart
 rw[gz]
 have D:=Fy (z:=z) hz (nrem - (n+1)) p (n+1) 0 (by omega) ⟨hp,hs,by omega,by omega,fun a b hab hb=>by
  by_cases hbn:b < n
  ·exact hd a b hab hbn
  ·have e:b=n:=by omega
   subst e
   by_cases ha:a=b
   ·subst ha;exact qC _
   ·exact jW hlt (hd a (b - 1) (by omega) (by omega)),fun a b h1 h2 h3 h4=>by rw[show a=b by omega]⟩
 dsimp only at D
 generalize run (dA z) (kas_desc (nrem - (n+1)) p (n+1) 0)=r at D
 have hq:=D.qn
 split
 ·exact tail3 hz (by omega) D.le ((mr _ _ _).trans D.perm) (by rw[lU,D.size]) (Dv (x6 (by have:=D.size;have:=D.le;omega) D.eq) D.dn)
 ·exact tail3 hz (by omega) D.le D.perm D.size D.dn
theorem count(hz:nrem<=p.size)(h1:1<=nrem):LX z p nrem (run (dA z) (kas_count nrem p)):=by
 unfold kas_count
 rw[gz]
 obtain⟨a,b,c,d⟩:=MD (z:=z) (p:=p) (nrem - 1) 1 (yP _) (fun x y hxy hy=>by rw[show x=y by omega];exact qC _)
 generalize run (dA z) (kas_asc p (nrem - 1) 1)=n at a b c d
 split
 ·exact⟨Array.Perm.refl _,rfl,a,by show n<=nrem;omega,c⟩
 ·rename_i hne
  have hlt:n < nrem:=by
   have:n≠nrem:=fun e=>hne (by simp[e])
   omega
  have hd:=d (by omega)
  split
  ·rename_i hn1
   show LX z p nrem (run (dA z) (if dA z (p.getD 0 0) (p.getD (n - 1) 0)=true then .ret (n,p) else kas_descPart n nrem (kas_rev p 0 n)))
   by_cases hc:dA z (p.getD 0 0) (p.getD (n - 1) 0)=true
   ·rw[yO hc]
    exact⟨Array.Perm.refl _,rfl,a,by show n<=nrem;omega,c⟩
   ·rw[yQ hc]
    have hge:Z z p (n - 1)<=Z z p 0:=by
     have:¬ (Z z p 0 < Z z p (n - 1)):=fun q=>hc (yC q)
     omega
    have all:∀x,x < n->Z z p x=Z z p 0:=fun x hx=>by
     have e1:=c 0 x (xY _) hx
     have e2:=c x (n - 1) (by omega) (by omega)
     omega
    have same:=x6 (z:=z) (p:=p) (i:=0) (j:=n) (by omega) fun x y _ hx _ hy=>by rw[all x hx,all y hy]
    refine descPart hz (by omega) hlt (mr _ _ _) (by rw[lU]) (fun x y hxy hy=>?_) ?_
    ·rw[same,same,all x (by omega),all y hy];exact qC _
    ·rw[same,same];omega
  ·exact descPart hz (by omega) hlt (Array.Perm.refl _) rfl (fun x y hxy hy=>by rw[show x=y by omega];exact qC _) (by omega)
theorem place(hu:Up z p k):∀ (f l r:Nat),r - l<=f->l<=r->r<=k->(∀a,a < l->Z z p a<=Z z p k)->(∀a,r<=a->a < k->Z z p k<=Z z p a) ->
  let m:=run (dA z) (kas_place p k f l r);m<=k/\(∀a,a < m->Z z p a<=Z z p k)/\(∀a,m<=a->a < k->Z z p k<=Z z p a)
 | 0,l,r,hf,hl,hr,h1,h2=>by
  intro m
  have e:l=r:=by omega
  subst e
  exact⟨hr,h1,h2⟩
 | f+1,l,r,hf,hl,hr,h1,h2=>by
  intro m
  have hm:m=run (dA z) (if l >= r then .ret l else .ask (p.getD k 0) (p.getD ((l+r) / 2) 0) fun c=>if c=true then kas_place p k f l ((l+r) / 2) else kas_place p k f ((l+r) / 2+1) r):=rfl
  by_cases hlr:l >= r
  ·rw[yO hlr] at hm
   rw[hm]
   have e:l=r:=by omega
   subst e
   exact⟨hr,h1,h2⟩
  ·rw[yQ hlr] at hm
   have hm':m=run (dA z) (if dA z (p.getD k 0) (p.getD ((l+r) / 2) 0)=true then kas_place p k f l ((l+r) / 2) else kas_place p k f ((l+r) / 2+1) r):=hm
   by_cases hc:dA z (p.getD k 0) (p.getD ((l+r) / 2) 0)=true
   ·rw[yO hc] at hm'
    rw[hm']
    have hlt:Z z p k < Z z p ((l+r) / 2):=yT hc
    exact place hu f l ((l+r) / 2) (by omega) (by omega) (by omega) h1 fun a ha hak=>jW (Int.le_of_lt hlt) (hu _ a ha hak)
   ·rw[yQ hc] at hm'
    rw[hm']
    have hge:Z z p ((l+r) / 2)<=Z z p k:=by
     have:¬ (Z z p k < Z z p ((l+r) / 2)):=fun q=>hc (yC q)
     omega
    exact place hu f ((l+r) / 2+1) r (by omega) (by omega) hr (fun a ha=>jW (hu a ((l+r) / 2) (by omega) (by omega)) hge) h2
theorem bin:∀ (f:Nat) (p:Array Nat) (k:Nat),p.Perm p₀->p.size=p₀.size->k+f<=p₀.size->Up z p k ->
  (run (dA z) (kas_bin f p k)).Perm p₀/\(run (dA z) (kas_bin f p k)).size=p₀.size/\Up z (run (dA z) (kas_bin f p k)) (k+f)
 | 0,p,k,hp,hs,hk,hu=>⟨hp,hs,hu⟩
 | f+1,p,k,hp,hs,hk,hu=>by
  unfold kas_bin
  rw[gz]
  have P:=place hu k 0 k (by omega) (by omega) (yP _) (fun a ha=>absurd ha (vP _)) fun a ha hak=>absurd ha (by omega)
  dsimp only at P
  generalize run (dA z) (kas_place p k k 0 k)=l at P
  obtain⟨p1,p2,p3⟩:=P
  have zb:=Dd z (p:=p) (src:=k) (d:=k - l) (by omega) (by omega)
  have e:k - (k - l)=l:=by omega
  rw[e] at zb
  obtain⟨q1,q2,q3⟩:=bin f (bubble p k (k - l)) (k+1) ((bubble_perm _ _ _).trans hp) (by rw[bubble_size,hs]) (by omega) fun a b hab hb=>by
   rw[zb,zb]
   by_cases ha1:a=l
   ·rw[yO ha1]
    by_cases hb1:b=l
    ·rw[yO hb1];exact qC _
    ·rw[yQ hb1]
     rw[yO (by omega)]
     exact p3 _ (by omega) (by omega)
   ·rw[yQ ha1]
    by_cases hb1:b=l
    ·rw[yO hb1,yQ (by omega)]
     exact p2 a (by omega)
    ·rw[yQ hb1]
     by_cases ha2:l < a/\a<=k
     ·rw[yO ha2,yO (by omega)]
      exact hu _ _ (by omega) (by omega)
     ·rw[yQ ha2]
      by_cases hb2:l < b/\b<=k
      ·rw[yO hb2]
       exact hu _ _ (by omega) (by omega)
      ·rw[yQ hb2]
       exact hu _ _ hab (by omega)
  exact⟨q1,q2,by rw[show k+(f+1)=k+1+f by omega];exact q3⟩
theorem dY(h1:1<=n):(run (dA z) (kas_sort n)).toList.Perm (List.range n)/\((run (dA z) (kas_sort n)).toList.map z).Pairwise (·<=·):=by
 have hsz:(List.toArray (List.range n)).size=n:=by simp
 have C:=count (z:=z) (p:=List.toArray (List.range n)) (nrem:=n) (by omega) h1
 have fin:∀p:Array Nat,p.Perm (List.toArray (List.range n))->p.size=n->Up z p n->p.toList.Perm (List.range n)/\(p.toList.map z).Pairwise (·<=·):=fun p a b c=>by
  refine⟨by have:=a.toList;simpa using this,?_⟩
  rw[List.pairwise_iff_getElem]
  intro i j hi hj hij
  have hi':i < n:=by simpa [b] using hi
  have hj':j < n:=by simpa [b] using hj
  have:=c i j (jV hij) hj'
  unfold Z at this
  have e1:p.getD i 0=p[i]:=by simp[Array.getD,b,hi']
  have e2:p.getD j 0=p[j]:=by simp[Array.getD,b,hj']
  rw[e1,e2] at this
  simpa using this
 unfold kas_sort
 rw[gz]
 generalize run (dA z) (kas_count n (List.toArray (List.range n)))=r at C
 obtain⟨k,p⟩:=r
 have hs:=C.size
 rw[hsz] at hs
 split
 ·rename_i hlt
  have hge:=C.ge
  have e:max k 1=k:=by have:1<=k:=hge;omega
  rw[e]
  obtain⟨q1,q2,q3⟩:=bin (z:=z) (n - k) p k C.perm C.size (by rw[hsz];have:k < n:=hlt;omega) C.up
  refine fin _ q1 (by rw[q2,hsz]) ?_
  rw[show k+(n - k)=n by have:k < n:=hlt;omega] at q3
  exact q3
 ·rename_i hnlt
  have hle:=C.le
  have e:k=n:=by have h3:k<=n:=hle;have h4:¬ k < n:=hnlt;omega
  subst e
  exact fin p C.perm hs C.up
end
end SP
namespace Srt
open PySem PySem.W PySem.Calls PyProof.Rows
def outV(z:Nat->Int)(vs:List Value):List Value:=if vs.length < 2 then vs else (SP.run (SP.dA z) (kas_sort vs.length)).toList.map fun i=>vs.getD i Value.none
theorem outV_len(z:Nat->Int)(vs:List Value):(outV z vs).length=vs.length:=by
 unfold outV
 split
 ·rfl
 ·rename_i h
  have:=(SP.dY (z:=z) (n:=vs.length) (by omega)).1.length_eq
  simpa using this
section
theorem list_sortG{P:PySem.Fin->Shared->Prop}(ho:s.heap.get? a=some (seqObj "list" vs.toArray n))(h64:vs.length < 64)(z:Nat->Int)(κ:SortKind)
  (hk:2<=vs.length->∀h':Heap,(∀b o,b≠a->s.heap.get? b=some o->h'.get? b=some o)->∀Q':SortKind->Shared->Prop,Q' κ { s with heap:=h' }->wpAny (model prog w) A (keyKind' vs.toArray) Q' (fun _ _=>False) { s with heap:=h' })
  (hlt:2<=vs.length->∀h':Heap,(∀b o,b≠a->s.heap.get? b=some o->h'.get? b=some o)->∀i j C,i < vs.length->j < vs.length->C (SP.dA z i j) { s with heap:=h' }->kas_ask prog w A κ vs i j C { s with heap:=h' })
  (h:∀ (h':Heap) (c:Nat),(∀b o,b≠a->s.heap.get? b=some o->h'.get? b=some o)->h'.get? a=some (seqObj "list" (outV z vs).toArray c)->P (.done (.ret .none)) { s with heap:=h' }) :
  wpAny (model prog w) A (Builtin.«list.sort» ⟨[.ref a],[]⟩) P E s:=by
 rw[list_sort_plain]
 have ha:a < s.heap.objs.size:=yA ho
 have hsl:vs.length<=sizeLine:=by rw[qY];omega
 refine zX (vL ho rfl (zX (kF ho rfl ?_ (by simpa using hsl) (xY _))))
 obtain⟨e1,ho1⟩:∃e,(s.heap.update a (Obj.mapSeq fun _=>(#[]:Array Value))).get? a=some (seqObj "list" #[] e):=⟨_,kH ho fun _=>#[]⟩
 have kp1:∀b o,b≠a->s.heap.get? b=some o->(s.heap.update a (Obj.mapSeq fun _=>(#[]:Array Value))).get? b=some o:=fun b o hb e=>(xQ _ _ (jP hb)).trans e
 refine zX (seqEpoch_at ho1 rfl (zX (wpAny_newTuple ?_ (by simpa using hsl))))
 refine zX (kR (qA ?_) (xY _))
 have ho3:(((s.heap.update a (Obj.mapSeq fun _=>(#[]:Array Value))).push (seqObj "tuple" vs.toArray 0)).push (seqObj "list" #[] 0)).get? a=some (seqObj "list" #[] e1):=zW _ (zW _ ho1)
 have kp3:∀b o,b≠a->s.heap.get? b=some o->(((s.heap.update a (Obj.mapSeq fun _=>(#[]:Array Value))).push (seqObj "tuple" vs.toArray 0)).push (seqObj "list" #[] 0)).get? b=some o:=fun b o hb e=>zW _ (zW _ (kp1 b o hb e))
 show wpAny _ A _ P E { s with heap:=((s.heap.update a (Obj.mapSeq fun _=>(#[]:Array Value))).push (seqObj "tuple" vs.toArray 0)).push (seqObj "list" #[] 0) }
 generalize ((s.heap.update a (Obj.mapSeq fun _=>(#[]:Array Value))).push (seqObj "tuple" vs.toArray 0)).push (seqObj "list" #[] 0)=h3 at ho3 kp3
 clear ho1 kp1
 dsimp only
 have fin:∀st':SortSt,(arrOf st').map (·.2)=(outV z vs).toArray->failedOf st'=none ->
   wpAny (model prog w) A (do
    let sorted:=(arrOf st').map (·.2)
    let touched:=(<- seqEpoch a) != e1
    Builtin.List.listUpdate (.ref a) fun _=>sorted
    if let some e:=failedOf st' then rule "list.sort.comparison-raised";throw e
    if touched then rule "list.sort.modified";raiseError "ValueError" "list modified during sort"
    ret .none) P E { s with heap:=h3 }:=fun st' h1 h2=>by
  dsimp only
  rw[h1,h2]
  refine zX (seqEpoch_at ho3 rfl ?_)
  refine zX (kF ho3 rfl ?_ (xY _) (by show (outV z vs).toArray.size<=_;rw[zK,outV_len];omega))
  obtain⟨c,hc⟩:∃c,(h3.update a (Obj.mapSeq fun _=>(outV z vs).toArray)).get? a=some (seqObj "list" (outV z vs).toArray c):=⟨_,kH ho3 fun _=>(outV z vs).toArray⟩
  have q:=h _ c (fun b o hb e=>(xQ _ _ (jP hb)).trans (kp3 b o hb e)) hc
  simp only[bne_self_eq_false,yR,qT]
  exact zY q
 by_cases h2:vs.toArray.size < 2
 ·rw[yO h2,yO h2]
  refine zX (zY ?_)
  rw[StateT.run_pure]
  refine zX (zY (fin _ ?_ rfl))
  have h2':vs.length < 2:=by simpa using h2
  unfold outV
  rw[yO h2']
  show ((vs.toArray.zip vs.toArray).map (·.2))=vs.toArray
  apply Array.toList_inj.mp
  simp only[Array.toList_map,Array.toList_zip]
  exact List.map_snd_zip (yP _)
 ·rw[yQ h2,yQ h2]
  have h2':2<=vs.length:=by
   have:¬ vs.length < 2:=by simpa using h2
   omega
  refine zX (xD (hk h2' h3 kp3 (fun κ' s'=>κ'=κ/\s'={ s with heap:=h3 }) ⟨rfl,rfl⟩) (fun κ' s' hs=>?_) fun _ _ x=>x.elim)
  obtain⟨rfl,rfl⟩:=hs
  refine zX (xD (kat_run (Q:=fun st' s'=>s'={ s with heap:=h3 }/\(arrOf st').map (·.2)=(outV z vs).toArray/\failedOf st'=none) (G:=fun p s'=>s'={ s with heap:=h3 }/\p=SP.run (SP.dA z) (kas_sort vs.length))
   rfl h2' h64 (fun p st' s' a1 a2 a3 a4=>⟨a4.1,?_,a3⟩) (SP.wp_run (hlt h2' h3 kp3) (kas_sort vs.length) (SP.CQ (by omega)) ⟨rfl,rfl⟩)) ?_ fun _ _ e=>e)
  ·rw[kat_snds rfl a2,a4.2]
   unfold outV
   rw[yQ (by omega)]
  ·rintro⟨⟨⟩,st'⟩ s' ⟨hs,h4,h5⟩
   subst hs
   exact fin st' h4 h5
def Coll(h:Heap)(l:Addr)(vs:List Value):Prop:=∃ (o:Obj) (T:String) (n:Nat),(T="list"\/T="tuple")/\h.get? l=some o/\o.cls=.type T/\o.data=.seq vs.toArray n
theorem collectC(hl:Coll s.heap l vs)
  (h:Q vs { s with heap:=(s.heap.push (seqObj "list" #[] 0)).update s.heap.objs.size (Obj.mapSeq (·++vs.toArray)) }) (hsz:vs.length<=sizeLine):wpAny (model prog w) A (collect (.ref l)) Q E s:=by
 obtain⟨o,T,n,hT,ho,hc,hd⟩:=hl
 unfold collect
 refine zX (wpAny_runValue (kJ entry_proto_collect' ?_))
 show wpAny _ _ (do again (.builtin "list.__iadd__" ⟨[<- newList [],.ref l],[]⟩)) _ _ s
 refine zX (kR (zY ⟨Code.quiet_builtin _ (by decide +kernel),kJ entry_list_iadd' ?_⟩))
 show wpAny _ _ (Builtin.List.listExtendWith (.ref s.heap.objs.size) (.ref l) (.ref s.heap.objs.size)) _ _ { s with heap:=s.heap.push (seqObj "list" #[] 0) }
 unfold Builtin.List.listExtendWith
 have ho':(s.heap.push (seqObj "list" #[] 0)).get? l=some o:=zW _ ho
 refine zX (wK (T:=T) ⟨o,ho',hc⟩ ?_)
 rw[yO (by rcases hT with rfl|rfl<;>simp)]
 refine zX (vL ho' hd (zX (vL (xs:=#[]) (n:=0) (zZ _ rfl) rfl ?_)))
 rw[yQ (by simp)]
 refine zX (kF (xs:=#[]) (n:=0) (zZ _ rfl) rfl ?_ (xY _) (by show (#[]++vs.toArray).size<=sizeLine+1;simp only[Array.size_append,zK,xO];omega))
 refine zY ?_
 refine zX (wpAny_load (kH (zZ _ rfl) _) ?_)
 show wpAny _ _ (pure ((#[]:Array Value)++vs.toArray).toList) Q E _
 rw[show ((#[]:Array Value)++vs.toArray).toList=vs by simp]
 exact zY h
theorem sortedG{s:Shared}{Q:Value->Shared->Prop}(hl:Coll s.heap l vs)(h64:vs.length < 64)(z:Nat->Int)(κ:SortKind)
  (hk:2<=vs.length->∀h':Heap,(∀b o,s.heap.get? b=some o->h'.get? b=some o)->∀Q':SortKind->Shared->Prop,Q' κ { s with heap:=h' }->wpAny (model prog w) A.in1.in1 (keyKind' vs.toArray) Q' (fun _ _=>False) { s with heap:=h' })
  (hlt:2<=vs.length->∀h':Heap,(∀b o,s.heap.get? b=some o->h'.get? b=some o)->∀i j C,i < vs.length->j < vs.length->C (SP.dA z i j) { s with heap:=h' }->kas_ask prog w A.in1.in1 κ vs i j C { s with heap:=h' })
  (h:∀ (h':Heap) (D:Addr) (c:Nat),(∀b o,s.heap.get? b=some o->h'.get? b=some o)->s.heap.objs.size<=D->h'.get? D=some (seqObj "list" (outV z vs).toArray c)->Q (.ref D) { s with heap:=h' }) :
  wpAny (model prog w) A (call (.builtin "sorted") [.ref l]) Q E s:=by
 have hsl:vs.length<=sizeLine:=by rw[qY];omega
 refine Calls.call_function_entry kind_sorted plain_sorted entry_sorted (args_sorted1 _) ?_
 unfold Builtin.«sorted»
 refine zX (m:=checkCount "sorted" 1 1 _) (zY (zX (collectC hl ?_ hsl)))
 refine zX (kR ?_ (by simpa using hsl))
 have hsz:((s.heap.push (seqObj "list" #[] 0)).update s.heap.objs.size (Obj.mapSeq (·++vs.toArray))).objs.size=s.heap.objs.size+1:=by rw[Heap.size_update,size_push']
 have kp:∀b o,s.heap.get? b=some o->(((s.heap.push (seqObj "list" #[] 0)).update s.heap.objs.size (Obj.mapSeq (·++vs.toArray))).push (seqObj "list" vs.toArray 0)).get? b=some o:=fun b o e =>
  zW _ ((xQ _ _ (jL (yA e))).trans (zW _ e))
 have hoD:(((s.heap.push (seqObj "list" #[] 0)).update s.heap.objs.size (Obj.mapSeq (·++vs.toArray))).push (seqObj "list" vs.toArray 0)).get? (s.heap.objs.size+1)=some (seqObj "list" vs.toArray 0):=by
  rw[<- hsz];exact zZ _ rfl
 show wpAny _ _ _ _ _ { s with heap:=((s.heap.push (seqObj "list" #[] 0)).update s.heap.objs.size (Obj.mapSeq (·++vs.toArray))).push (seqObj "list" vs.toArray 0) }
 rw[hsz]
 generalize ((s.heap.push (seqObj "list" #[] 0)).update s.heap.objs.size (Obj.mapSeq (·++vs.toArray))).push (seqObj "list" vs.toArray 0)=h1 at kp hoD
 have kk:∀h':Heap,(∀b o,b≠s.heap.objs.size+1->h1.get? b=some o->h'.get? b=some o)->∀b o,s.heap.get? b=some o->h'.get? b=some o:=fun h' q b o e=>q b o (yU (jQ (yA e))) (kp b o e)
 refine zX (qA (qZ slot_list_sort ⟨_,hoD,rfl⟩ entry_list_sort (list_sortG hoD h64 z κ (fun a h' q=>hk a h' (kk h' q)) (fun a h' q=>hlt a h' (kk h' q)) fun h' c q e=>⟨_,rfl,?_⟩) (args_list_sort _)))
 exact zY ⟨_,rfl,h h' _ c (kk h' q) (by omega) e⟩
end
end Srt
namespace Dl
open PySem L2 PySem.Spec PyProof.Rows
section
def Bh(i:Nat)(fz:List Nat)(f:Env->Option (List D)):ar->Option Out:=fun ρ=>(f (bx (hand fz 0 ρ))).bind fun us=>mi i (fun ds=>if ds.length+us.length<=sizeLine then some (ds++us) else none) (hand fz 0 ρ)
theorem By(i:Nat)(fz:List Nat)(hN:X.N[i]?=some x)(hv:Fn X.env.scope x)(h:DF X e f)(hd:(x == ("__debug__":Str))=false:=by decide)(hcd:(x == ("__classdict__":Str))=false:=by decide)
  (hfew:((backTo cpos (starEach [e] X.env)).all (fun x=>!x.1)&&(backToKw cpos (keywordEach [] X.env)).all (fun x=>x.1.isSome)&&decide ([e].length+([]:List Keyword).length+(if ([]:List Keyword).isEmpty then 0 else 1) < 30))=true:=by rfl)
  (hline:(apos.endLine == cpos.line)=true:=by rfl) (hs:starEach [e] X.env=(false,eval e X.env)::starEach [] X.env:=by rfl) :
  DS X HF₀ H₀ (.Expr (.Call (.Attribute (.Name x px) "extend" apos) [e] [] cpos) pos) (Bh i fz f) :=
 cf (n9 (u9 qS PySem.F.slot_list_extend PySem.F.type_list_extend Bt (mO hN hv hd hcd) (cB h gg hs) rfl hfew hline hs rfl)) fun E σ H ⟨HF,ρ,o,S,hg,q⟩=>by
  obtain⟨us,h1,hg⟩:=bs hg
  obtain⟨ds,es,h2,h3,rfl⟩:=jt hg
  obtain⟨HF1,s1,S1⟩:=S.hand fz
  obtain⟨a,vs,e1,e2,e3,e5,e4⟩:=S1.own i ds h2
  refine⟨.ref a,e1,.inl ⟨rfl,vs,eK.of e2⟩,HF1,_,us,S1.gr.fh,S1.frz,h1,fun b ws H' HF' G hb hf h' r=>?_⟩
  have S2:=S1.grow G
  obtain⟨a',vs',f1,f2,f3,f5,f4⟩:=S2.own i ds h2
  rw[e1] at f1;cases f1
  split at h3
  ·rename_i hz
   cases h3
   exact⟨a,b,vs',ws,rfl,rfl,f2,h',by rw[f4.length,r.length];exact hz,q σ _ HF' (S2.mut h2 e1 f2 (f4.append r)) (s1.trans G.ff)⟩
  ·cases h3
def AO(ds:List D)(k:Int)(d:D):List D:=let j:=if k < 0 then (k+(ds.length:Int)).toNat else min k.toNat ds.length;ds.take j++d::ds.drop j
def FU:V->List V->Hp->VK->Prop:=fun x vs H Q=>∃l xs k y,x=.ref l/\vs=[.int k,y]/\H l=some (.lst xs)/\xs.length < sizeLine/\-(2 ^ 62)<=k/\k < 2 ^ 62 /\
 Q .non (upd H l (.lst (xs.take (if k < 0 then (k+(xs.length:Int)).toNat else min k.toNat xs.length)++y::xs.drop (if k < 0 then (k+(xs.length:Int)).toNat else min k.toNat xs.length))))
theorem B0:LW X "list.insert" FU:=by
 intro pins s σ H x vs v us Q I rx rv h
 obtain⟨l,xs,k,y,rfl,rfl,hH,hz,k1,k2,q⟩:=h
 cases rx
 obtain⟨u1,u2,rfl,⟨t,rfl⟩,ru⟩:=L2.aG.two rv
 obtain⟨z,its,n,r,hl,e⟩:=I.lstM hH
 have hfit:¬(!Builtin.List.listFitsIndex k)=true:=by
  have:Builtin.List.listFitsIndex k=true:=by
   unfold Builtin.List.listFitsIndex
   simp only[zI,zM]
   omega
  rw[this];simp
 refine jA F.slot_list_insert ⟨_,e,rfl⟩ F.entry_list_insert (F.args_list_insert_3 _ _ _) (AutoListH.list_insert_list_int_val_1 l its.toArray n k t u2 hfit (by rw[zK];omega)) ⟨e,?_⟩
 have hlen:its.length=xs.length:=hl.symm
 refine⟨.non,_,I.lset (its':=its.take (if k < 0 then (k+(xs.length:Int)).toNat else min k.toNat xs.length)++u2::its.drop (if k < 0 then (k+(xs.length:Int)).toNat else min k.toNat xs.length)) hH e ?_ ((r.take _).append (.cons ru (r.drop _))) ?_,rfl,q⟩
 ·dsimp only
  rw[zK,hlen]
  apply Array.toList_inj.mp
  simp
  exact kM (by rw[qL,hlen];exact yP _)
 ·rw[zQ,zO,jY,qL]
  omega
def Cy(i:Nat)(fz:List Nat)(fk f:Env->Option D):ar->Option Out:=fun ρ=>(fk (aS ρ)).bind fun kd=>match kd with
 | .int k=>(fO fz f ρ).bind fun p=>mi i (fun ds=>if uY k=true/\ds.length < sizeLine then some (AO ds k p.1) else none) p.2
 | _=>none
theorem BQ(i:Nat)(fz:List Nat)(hN:X.N[i]?=some x)(hv:Fn X.env.scope x)(hk:DE X e fk)(h:DE X e2 f)(hd:(x == ("__debug__":Str))=false:=by decide)(hcd:(x == ("__classdict__":Str))=false:=by decide)
  (hfew:((backTo cpos (starEach [e,e2] X.env)).all (fun x=>!x.1)&&(backToKw cpos (keywordEach [] X.env)).all (fun x=>x.1.isSome)&&decide ([e,e2].length+([]:List Keyword).length+(if ([]:List Keyword).isEmpty then 0 else 1) < 30))=true:=by rfl)
  (hline:(apos.endLine == cpos.line)=true:=by rfl) (hs:starEach [e,e2] X.env=(false,eval e X.env)::starEach [e2] X.env:=by rfl) (hs2:starEach [e2] X.env=(false,eval e2 X.env)::starEach [] X.env:=by rfl) :
  DS X HF₀ H₀ (.Expr (.Call (.Attribute (.Name x px) "insert" apos) [e,e2] [] cpos) pos) (Cy i fz fk f) :=
 cf (n9 (u9 qS PySem.F.slot_list_insert PySem.F.type_list_insert B0 (mO hN hv hd hcd) (cB hk (cB h gg hs2) hs) rfl hfew hline hs (by rw[hs2];rfl))) fun E σ H ⟨HF,ρ,o,S,hg,q⟩=>by
  obtain⟨kd,hkd,hg⟩:=bs hg
  cases kd<;>try cases hg
  rename_i k
  obtain⟨⟨d,ρ'⟩,h1,hg⟩:=bs hg
  obtain⟨ds,es,h2,h3,rfl⟩:=jt hg
  have hown:∃ds',ρ[i]?=some (.own ds'):=by
   obtain⟨d1,_,h1⟩:=bs h1
   split at h1
   ·cases h1;exact⟨ds,h2⟩
   ·obtain⟨d2,_,h1⟩:=af h1
    cases h1
    rw[gJ] at h2
    obtain⟨s,hs,h2⟩:=af h2
    cases s with
    | non=>split at h2<;>cases h2
    | nest _=>split at h2<;>cases h2
    | val _=>split at h2<;>cases h2
    | own xs=>exact⟨xs,hs⟩
  obtain⟨ds',hown⟩:=hown
  obtain⟨a,vs,e1,e2,e3,e5,e4⟩:=S.own i ds' hown
  refine⟨.ref a,e1,.inl ⟨rfl,vs,eK.of e2⟩,H,aS ρ,_,.refl _,S.all,hkd,fun vk Hk HFk Gk rk=>?_⟩
  simp only[Rep] at rk
  subst rk
  refine mW (S.step Gk.hh) h1 fun v H' HF' s1 S' sh r=>?_
  obtain⟨a',vs',f1,f2,f3,f5,f4⟩:=S'.own i ds h2
  rw[e1] at f1;cases f1
  split at h3
  ·rename_i hz
   cases h3
   have ok:=hz.1
   unfold uY at ok
   rw[zI] at ok
   refine⟨a,vs',k,v,rfl,rfl,f2,by rw[f4.length];exact hz.2,yT ok.1,yT ok.2,q σ _ HF' (S'.mut h2 e1 f2 ?_) s1⟩
   unfold AO
   rw[f4.length]
   exact (f4.take _).append (ak.cons r (f4.drop _))
  ·cases h3
def pQ:D->D->Option (List D)
 | .list xs,.list ys=>small (xs++ys)
 | _,_=>none
def De(K:W.Frag):R2:=fun x y H Q=>∃a b xs ys,x=.ref a/\y=.ref b/\eK K H a xs/\eK K H b ys/\xs.length+ys.length<=sizeLine/\∀p,H p=none->Q (.ref p) (upd H p (.lst (xs++ys)))
theorem v5:il X (binaryOp .Add) (De X.K):=by
 intro pins s σ H x y v u Q I rx ry h
 obtain⟨a,b,xs,ys,rfl,rfl,ha,hb,hz,q⟩:=h
 cases rx
 cases ry
 obtain⟨its,r1,p1,_⟩:=I.list ha
 obtain⟨its2,r2,p2,_⟩:=I.list hb
 obtain⟨⟨cls,dd,data,sl⟩,ho,hc,n,hd⟩:=id p1.isList
 obtain⟨⟨cls2,dd2,data2,sl2⟩,ho2,hc2,n2,hd2⟩:=id p2.isList
 simp only at hc hd hc2 hd2
 subst hc hd hc2 hd2
 refine wM ⟨_,ho,rfl⟩ ⟨_,ho2,rfl⟩ noFill_list_add seq_list_add PySem.F.slot_list_add PySem.F.entry_list_add (PySem.F.args_list_add_2 _ _) (list_addW a b its.toArray its2.toArray n n2 dd dd2 sl sl2 (by rw[zK,zK,<- r1.length,<- r2.length];exact hz)) ⟨ho,ho2,?_⟩
 have e:its.toArray++its2.toArray=(its++its2).toArray:=by simp
 rw[e]
 exact⟨.ref s.heap.objs.size,_,I.lnew (t':=s.toks) (r1.append r2) (by rw[zQ];exact hz),rfl,q _ I.fresh⟩
def MN(g:D->D->Option (List D))(f1 f2:Env->Option D):Env->Option (List D):=fun ρ=>(f1 ρ).bind fun x=>(f2 ρ).bind fun y=>g x y
theorem Ij(ha:DE X a fa)(hb:DE X b fb):DF X (.BinOp a .Add b pos) (MN pQ fa fb):=aZ (Cm v5 ha hb) fun σ H Q ⟨HF,ρ,d,sm,eo,hf,q⟩=>by
 obtain⟨x,hx,hf⟩:=bs hf
 obtain⟨y,hy,hg⟩:=bs hf
 refine⟨HF,ρ,x,sm,eo,hx,fun v1 H1 HF1 g1 r1=>⟨HF1,ρ,y,g1.fh,eo.mono g1.ff,hy,fun v2 H2 HF2 g2 r2=>?_⟩⟩
 have r1:=r1.mono g2.ff
 cases x<;>cases y<;>simp only[pQ] at hg<;>try cases hg
 rename_i xs ys
 obtain⟨rfl,hz⟩:=dM hg
 simp only[Rep] at r1 r2
 obtain⟨a,vs,rfl,ha,ra⟩:=r1
 obtain⟨b,us,rfl,hb,rb⟩:=r2
 have G:=g1.trans g2
 exact⟨a,b,vs,us,rfl,rfl,g2.fh.seq ha,g2.fh.seq hb,by rw[ra.length,rb.length,<- zQ];exact hz,fun p hp=>q p _ _ HF2 (G.trans (.own G.fh hp)) (G.hh.free hp) (G.fh.free hp) aE (ra.append rb)⟩
def boolsOf:List D->Option (List Bool)
 | []=>some []
 | .bool b::r=>(boolsOf r).map (b::·)
 | _::_=>none
theorem hC:∀ {ds:List D}{bs:List Bool},boolsOf ds=some bs->ds=bs.map PyData.bool
 | [],bs,h=>by cases h;rfl
 | d::r,bs,h=>by
  cases d<;>simp only[boolsOf] at h<;>try cases h
  obtain⟨bs',h1,rfl⟩:=af h
  rw[hC h1]
  rfl
theorem lh{K:W.Frag}:∀ {bs:List Bool}{vs:List V},ak K H (bs.map PyData.bool) vs->vs=bs.map V.bl
 | [],vs,h=>h.nil_inv
 | b::bs,vs,h=>by
  obtain⟨v,r,rfl,a,c⟩:=h.cons_inv
  simp only[Rep] at a
  rw[a,lh c]
  rfl
theorem kj:∀ {bs:List Bool}{us:List Value},aG (bs.map V.bl) us->us=bs.map Value.bool
 | [],us,h=>by cases h;rfl
 | b::bs,us,h=>by
  cases h with
  | cons r rr=>cases r;rw[kj rr];rfl
theorem range_all(bs:List Bool):(List.range bs.length).all (fun i=>bs.getD i false)=bs.all id:=by
 induction bs with
 | nil=>rfl
 | cons b bs ih=>rw[zO,List.range_succ_eq_map,xW,List.all_map,xW];simpa [wW] using jF (b&&·) ih
theorem range_any(bs:List Bool):(List.range bs.length).any (fun i=>bs.getD i false)=bs.any id:=by
 induction bs with
 | nil=>rfl
 | cons b bs ih=>rw[zO,List.range_succ_eq_map,vF,wQ,vF];simpa [wW] using jF (b||·) ih
theorem y1(hc:X.calm=true):dy X (.builtin "all") (fun xs H Q=>∃ (a:Addr) (bs:List Bool),xs=[.ref a]/\eK X.K H a (bs.map V.bl)/\Q (.bl (bs.all id)) H):=by
 intro pins s σ H xs us Q I r h
 obtain⟨a,bs,rfl,hq,q⟩:=h
 obtain⟨u,rfl,rx⟩:=vals1 r
 cases rx
 obtain⟨its,rv,pl,hz⟩:=I.list hq
 have hv:=kj rv
 subst hv
 have hh:X.A.in1.handled=none:=I.ok.hd hc
 refine call_all_walk (qN pl.isList ?_)
 obtain⟨o,ho,hcl,n,hd⟩:=pl.isList
 have hne:a≠s.heap.objs.size:=yU (yA ho)
 refine⟨_,_,_,_,_,_,fun i=>bs.getD i false,rfl,Walks.list hh s.heap.objs.size a hne (bs.map Value.bool).toArray,⟨⟨_,zZ _ rfl,rfl,rfl⟩,pl.isList.push _⟩,fun i v s' Q' E' hP hQ=>?_,fun h' tk kp=>?_⟩
 ·have e:v=Value.bool (bs.getD i false):=by
   have hP:(bs.map Value.bool).toArray[i]?=some v:=hP
   rw[vW,zR] at hP
   obtain⟨b,hb,rfl⟩:=af hP
   rw[zJ,hb]
   rfl
  subst e
  exact xZ hQ
 ·refine⟨.bl (bs.all id),H,?_,?_,q⟩
  ·exact I.kept (t':=tk) fun b o' e=>kp b o' (by simp;exact yU (yA e)) (zW _ e)
  ·show Value.bool _=Value.bool _
   have:=range_all bs
   simp only[zK,zF]
   rw[this]
def lT:List D->Option D:=fun ds=>(oneOf ds).bind fun d=>match d with
 | .list es=>(boolsOf es).map fun bs=>.bool (bs.all id)
 | _=>none
theorem JP(hc:X.calm=true)(B:nO X "all" (.builtin "all"))(ha:DA X [e] fs)(he:starEach [e] X.env=(false,eval e X.env)::starEach [] X.env:=by rfl):DE X (.Call (.Name "all" p) [e] [] pos) (aX lT fs) :=
 iX (y1 hc) (by
  intro HF H ds vs d Q sm r hg q
  obtain⟨x,hx,hg⟩:=bs hg
  rw[dP hx] at r
  cases x<;>try cases hg
  obtain⟨bs,hb,rfl⟩:=af hg
  obtain⟨v,r',rfl,a,b⟩:=r.cons_inv
  rw[b.nil_inv]
  simp only[Rep] at a
  obtain⟨p,us,rfl,h,rr⟩:=a
  rw[hC hb] at rr
  have:=lh rr
  subst this
  exact⟨p,bs,rfl,sm.seq h,q _ H HF (.refl sm) (by simp[Rep])⟩) B ha (by decide) (by decide) he rfl
end
abbrev lexLt:=HT.lexLt
theorem fj:∀a:List Int,lexLt a a=false
 | []=>rfl
 | x::a=>by show HT.lexLt (x::a) (x::a)=false;rw[HT.dF,yO rfl];exact fj a
theorem dO:∀ {a b c:List Int},lexLt a b=true->lexLt b c=true->lexLt a c=true
 | [],[],_,h,_=>by cases h
 | [],_::_,[],_,h=>by cases h
 | [],_::_,_::_,_,_=>rfl
 | _::_,[],_,h,_=>by cases h
 | _::_,_::_,[],_,h=>by cases h
 | x::a,y::b,z::c,h1,h2=>by
  have h1:HT.lexLt (x::a) (y::b)=true:=h1
  have h2:HT.lexLt (y::b) (z::c)=true:=h2
  show HT.lexLt (x::a) (z::c)=true
  rw[HT.dF] at h1 h2 ⊢
  by_cases e1:x=y
  ·rw[yO e1] at h1
   by_cases e2:y=z
   ·rw[yO e2] at h2
    rw[yO (e1.trans e2)]
    exact dO h1 h2
   ·rw[yQ e2] at h2
    rw[yQ (by omega)]
    have:=yT h2
    exact yC (by omega)
  ·rw[yQ e1] at h1
   have q1:=yT h1
   by_cases e2:y=z
   ·rw[yQ (by omega)]
    exact yC (by omega)
   ·rw[yQ e2] at h2
    have q2:=yT h2
    rw[yQ (by omega)]
    exact yC (by omega)
theorem jl:∀ {a b:List Int},lexLt a b=false->lexLt b a=false->a=b
 | [],[],_,_=>rfl
 | [],_::_,h,_=>by cases h
 | _::_,[],_,h=>by cases h
 | x::a,y::b,h1,h2=>by
  have h1:HT.lexLt (x::a) (y::b)=false:=h1
  have h2:HT.lexLt (y::b) (x::a)=false:=h2
  rw[HT.dF] at h1 h2
  by_cases e:x=y
  ·rw[yO e] at h1
   rw[yO e.symm] at h2
   rw[e,jl h1 h2]
  ·rw[yQ e] at h1
   rw[yQ (fun z=>e z.symm)] at h2
   have:=wH h1
   have:=wH h2
   omega
def lexLe(a b:List Int):Bool:=!lexLt b a
theorem vx(a b c:List Int)(h1:lexLe a b=true)(h2:lexLe b c=true):lexLe a c=true:=by
 unfold lexLe at *
 rw[yS] at *
 cases e:lexLt c a with
 | false=>rfl
 | true =>
  cases e1:lexLt a b with
  | true=>rw[dO e e1] at h2;cases h2
  | false =>
   have:=jl e1 h1
   subst this
   rw[e] at h2;cases h2
theorem vy(a b:List Int):(lexLe a b||lexLe b a)=true:=by
 unfold lexLe
 cases e1:lexLt b a with
 | false=>rfl
 | true =>
  cases e2:lexLt a b with
  | false=>rfl
  | true=>have:=dO e1 e2;rw[fj] at this;cases this
theorem yl(h1:lexLe a b=true)(h2:lexLe b a=true):a=b:=by
 unfold lexLe at *
 rw[yS] at *
 exact jl h2 h1
theorem qg{α:Type}{le:α->α->Bool}(anti:∀a b,le a b=true->le b a=true->a=b):∀ {l m:List α},l.Perm m->l.Pairwise (fun a b=>le a b=true)->m.Pairwise (fun a b=>le a b=true)->l=m
 | [],m,p,_,_=>p.nil_eq
 | a::l,[],p,_,_=>by have:=p.length_eq;simp at this
 | a::l,b::m,p,h1,h2=>by
  obtain⟨h1a,h1b⟩:=List.pairwise_cons.mp h1
  obtain⟨h2a,h2b⟩:=List.pairwise_cons.mp h2
  have e:a=b:=by
   have ha:a∈b::m:=p.mem_iff.mp zH
   have hb:b∈a::l:=p.mem_iff.mpr zH
   rcases List.mem_cons.mp ha with e|ha
   ·exact e
   ·rcases List.mem_cons.mp hb with e|hb
    ·exact e.symm
    ·exact anti a b (h1a b hb) (h2a a ha)
  subst e
  rw[qg anti (List.perm_cons a |>.mp p) h1b h2b]
def pU(l:List (List Int)):List (List Int):=l.mergeSort lexLe
theorem DM(l:List (List Int)):(pU l).Perm l:=List.mergeSort_perm l lexLe
theorem Iq(l:List (List Int)):(pU l).Pairwise (fun a b=>lexLe a b=true):=List.pairwise_mergeSort vx vy l
theorem DZ{l:List (List Int)}(p:l.Perm m)(h:l.Pairwise (fun a b=>lexLe a b=true)):l=pU m:=qg (fun _ _=>yl) (p.trans (DM m).symm) h (Iq m)
def rk(l:List (List Int))(a:List Int):Int:=((l.countP fun b=>lexLt b a:Nat):Int)
theorem Aj(ha:a∈l):lexLt a b=decide (rk l a < rk l b):=by
 unfold rk
 have mono:∀ {a b:List Int},lexLt a b=true->(l.countP fun c=>lexLt c a)<=l.countP fun c=>lexLt c b:=fun {a b} h=>List.countP_mono_left fun c _ hc=>dO hc h
 have strict:∀ {a b:List Int}(ha:a∈l),lexLt a b=true->(l.countP fun c=>lexLt c a) < l.countP fun c=>lexLt c b:=fun {a b} ha h=>by
  have key:∀m:List (List Int),a∈m->(m.countP fun c=>lexLt c a) < m.countP fun c=>lexLt c b:=fun m hm=>by
   induction m with
   | nil=>cases hm
   | cons x m ih =>
    rw[List.countP_cons,List.countP_cons]
    have mo:(m.countP fun c=>lexLt c a)<=m.countP fun c=>lexLt c b:=List.countP_mono_left fun c _ hc=>dO hc h
    rcases List.mem_cons.mp hm with e|hm
    ·subst e
     rw[fj,h]
     simp only[yR,qT,xK]
     omega
    ·have:=ih hm
     by_cases hx:lexLt x a=true
     ·rw[hx,dO hx h];simp only[xK];omega
     ·have hx':lexLt x a=false:=by simpa using hx
      rw[hx']
      simp only[yR,qT]
      split<;>omega
  exact key l ha
 cases e:lexLt a b with
 | true=>exact (yC (by have:=strict ha e;omega)).symm
 | false =>
  refine (yB ?_).symm
  cases e2:lexLt b a with
  | true=>have:=mono e2;omega
  | false=>rw[jl e e2];omega
section
variable {prog:Program}{w:World}{A:Around}{E:Value->Shared->Prop}{s:Shared}
theorem pd:∀ {us ws:List Value}{ns ms:List Int}(i:Nat),IntsAre us ns->IntsAre ws ms->Q (lexLt ns ms) s->W.KatLex prog w A true (decide (ns.length < ms.length)) Q (us.zip ws) i s
 | [],[],_,_,i,.nil,.nil,h=>h
 | [],_::_,_,_,i,.nil,.cons _ _ _,h=>by
  show Q (decide (0 < _+1)) s
  rw[yC (Nat.succ_pos _)]
  exact h
 | _::_,[],_,_,i,.cons _ _ _,.nil,h=>by
  show Q (decide (_+1 < 0)) s
  rw[yB (vP _)]
  exact h
 | _::us,_::ws,_,_,i,.cons n t r1,.cons m u r2,h=>by
  have h:Q (HT.lexLt (n::_) (m::_)) s:=h
  rw[HT.dF] at h
  refine W.kat_cons (SeqAt.EqAt.int_int n t m u prog w _ _ ?_)
  cases e:(n == m) with
  | true =>
   have e':n=m:=eq_of_beq e
   rw[yO e'] at h
   refine W.kat_yes ?_
   have:=pd (i+1) r1 r2 h
   simp only[zO,Nat.add_lt_add_iff_right]
   exact this
  | false =>
   have e':¬ n=m:=fun q=>by rw[q] at e;simp at e
   rw[yQ e'] at h
   refine W.kat_no ?_
   by_cases hi:(true&&i == 0)=true
   ·rw[hi]
    exact oneLt_int h
   ·have hi':(true&&i == 0)=false:=by simpa using hi
    rw[hi']
    refine W.kat_one _ _ (lt_int ?_)
    exact h
end
def ag(ns:List Int):D:=.tuple (ns.map PyData.int)
def intsOf:List D->Option (List Int)
 | []=>some []
 | .int n::r=>(intsOf r).map (n::·)
 | _::_=>none
theorem cx:∀ {ds:List D}{ns:List Int},intsOf ds=some ns->ds=ns.map PyData.int
 | [],ns,h=>by cases h;rfl
 | d::r,ns,h=>by
  cases d<;>simp only[intsOf] at h<;>try cases h
  obtain⟨ns',h1,rfl⟩:=af h
  rw[cx h1]
  rfl
theorem cq:∀ns:List Int,intsOf (ns.map PyData.int)=some ns
 | []=>rfl
 | n::ns=>by simp[intsOf,cq ns]
def Ad:D->Option (List Int)|.tuple ds=>(intsOf ds).bind fun ns=>if ns=[] then none else some ns|_=>none
theorem xg(h:Ad d=some ns):d=ag ns/\ns≠[]:=by
 cases d<;>try cases h
 obtain⟨ms,h1,h2⟩:=bs h
 split at h2
 ·cases h2
 ·rename_i hn
  cases h2
  rw[cx h1]
  exact⟨rfl,hn⟩
theorem BS(h:ns≠[]):Ad (ag ns)=some ns:=by
 unfold ag Ad
 simp only[cq,zC]
 rw[yQ h]
def rowsOf:List D->Option (List (List Int))
 | []=>some []
 | d::r=>(Ad d).bind fun ns=>(rowsOf r).map (ns::·)
theorem jg:∀ {ds:List D}{nss:List (List Int)},rowsOf ds=some nss->ds=nss.map ag/\∀ns∈nss,ns≠[]
 | [],nss,h=>by cases h;exact⟨rfl,fun _ z=>by cases z⟩
 | d::r,nss,h=>by
  obtain⟨ns,h1,h⟩:=bs h
  obtain⟨rest,h2,rfl⟩:=af h
  obtain⟨e,hn⟩:=xg h1
  obtain⟨e2,hn2⟩:=jg h2
  refine⟨by rw[e,e2];rfl,fun m hm=>?_⟩
  rcases List.mem_cons.mp hm with q|q
  ·subst q;exact hn
  ·exact hn2 m q
theorem ki:∀ {nss:List (List Int)},(∀ns∈nss,ns≠[])->rowsOf (nss.map ag)=some nss
 | [],_=>rfl
 | ns::r,h=>by
  simp only[zL,rowsOf,BS (h ns zH),zC,ki fun m hm=>h m (zE _ hm),zD]
structure um(h:Heap)(v:Value)(ns:List Int):Prop where
 ex:∃ (a:Addr) (o:Obj) (its:Array Value) (n:Nat),v=.ref a/\h.get? a=some o/\o.cls=.type "tuple"/\o.data=.seq its n/\IntsAre its.toList ns
theorem um.keep(r:um h v ns)(k:∀b o,h.get? b=some o->h'.get? b=some o):um h' v ns:=let ⟨a,o,its,n,e,e1,e2,e3,e4⟩:=r.ex;⟨a,o,its,n,e,k _ _ e1,e2,e3,e4⟩
section
theorem pM:∀ {vs:List Value}{nss:List (List Int)},Paired (um h) vs nss->(∀ns∈nss,ns≠[])->∃fs:List Value,W.KatTups h vs fs/\fs.length=vs.length/\∀f∈fs,∃n t,f=Value.int n t
 | _,_,.nil,_=>⟨[],trivial,rfl,fun _ z=>by cases z⟩
 | _,_,.cons (a:=v) (b:=ns) r p,hn=>by
  obtain⟨fs,h1,h2,h3⟩:=pM p fun m hm=>hn m (zE _ hm)
  obtain⟨a,o,its,n,rfl,e1,e2,e3,e4⟩:=r.ex
  cases hits:its.toList with
  | nil =>
   rw[hits] at e4
   cases e4
   exact absurd rfl (hn [] zH)
  | cons f rest =>
   rw[hits] at e4
   cases e4 with
   | cons m t e5 =>
    have h0:its[0]?=some (.int m t):=by
     have:its.toList[0]?=some (Value.int m t):=by rw[hits];rfl
     simpa using this
    exact⟨.int m t::fs,W.KatTups.cons e1 e2 e3 h0 h1,by simp[h2],fun g hg=>by
     rcases List.mem_cons.mp hg with q|q
     ·exact⟨m,t,q⟩
     ·exact h3 g q⟩
theorem ft:∀ {l:List α}{m:List β}{i:Nat},Paired R l m->i < l.length->R (l.getD i d) (m.getD i d')
 | _,_,i,.nil,h=>by simp at h
 | _,_,0,.cons r _,_=>r
 | _,_,i+1,.cons _ p,h=>by simpa using ft (i:=i) (d:=d) (d':=d') p (by simpa using h)
theorem uZ(hl:Srt.Coll s.heap l vs)(hp:Paired (um s.heap) vs nss)(hn:∀ns∈nss,ns≠[])(h64:vs.length < 64)
  (h:∀ (h':Heap) (D:Addr) (c:Nat),(∀b o,s.heap.get? b=some o->h'.get? b=some o)->s.heap.objs.size<=D->h'.get? D=some (seqObj "list" (Srt.outV (fun i=>rk nss (nss.getD i [])) vs).toArray c)->Q (.ref D) { s with heap:=h' }) :
  wpAny (model prog w) A (call (.builtin "sorted") [.ref l]) Q E s:=by
 refine Srt.sortedG hl h64 (fun i=>rk nss (nss.getD i [])) (tuples' true) (fun h2 h' kp Q' q=>?_) (fun h2 h' kp i j C hi hj q=>?_) h
 ·have hp':Paired (um h') vs nss:=Paired.mapP hp fun _ _ r=>r.keep kp
  obtain⟨fs,t,hlen,hf⟩:=pM hp' hn
  refine W.kat_kind (s:={ s with heap:=h' }) (T:=.type "int") t (by omega) (fun v hv=>?_) (by decide) q
  obtain⟨n,t,rfl⟩:=hf v hv
  exact W.Looks.of_pure rfl
 ·have ri:=(ft (d:=Value.none) (d':=[]) hp hi).keep kp
  have rj:=(ft (d:=Value.none) (d':=[]) hp hj).keep kp
  have hlen:=hp.length
  obtain⟨a,o,its,n,ea,e1,e2,e3,e4⟩:=ri.ex
  obtain⟨b,o',its',n',eb,f1,f2,f3,f4⟩:=rj.ex
  unfold W.kas_ask
  rw[ea,eb]
  have hmem:nss.getD i []∈nss:=by
   rw[zJ,zN (by omega)]
   exact qD _
  have q':C (lexLt (nss.getD i []) (nss.getD j [])) { s with heap:=h' }:=by
   rw[Aj hmem]
   exact q
  refine W.kat_lt (s:={ s with heap:=h' }) e1 e3 f1 f3 ?_
  have:=pd (prog:=prog) (w:=w) (A:=A.in1.in1) (s:={ s with heap:=h' }) 0 e4 f4 q'
  have l1:its.size=(nss.getD i []).length:=by have:=vY e4;simpa using this
  have l2:its'.size=(nss.getD j []).length:=by have:=vY f4;simpa using this
  rw[l1,l2]
  exact this
end
def lx(z:Nat->Int)(l:List α)(d:α):List α:=if l.length < 2 then l else (SP.run (SP.dA z) (W.kas_sort l.length)).toList.map fun i=>l.getD i d
theorem ja(l:List α)(d:α):(List.range l.length).map (fun i=>l.getD i d)=l:=by
 apply jK
 ·simp
 ·intro i h1 h2
  simp[h2]
theorem c4(z:Nat->Int)(l:List α)(d:α):(lx z l d).Perm l:=by
 unfold lx
 split
 ·exact List.Perm.refl _
 ·rename_i h
  have:=((SP.dY (z:=z) (n:=l.length) (by omega)).1).map fun i=>l.getD i d
  rw[ja] at this
  exact this
theorem FM(nss:List (List Int)):lx (fun i=>rk nss (nss.getD i [])) nss []=pU nss:=by
 refine DZ (c4 _ _ _) ?_
 unfold lx
 split
 ·rename_i h
  match nss,h with
  | [],_=>exact List.Pairwise.nil
  | [a],_=>exact vJ _ _
 ·rename_i h
  obtain⟨hp,hs⟩:=SP.dY (z:=fun i=>rk nss (nss.getD i [])) (n:=nss.length) (by omega)
  rw[jH] at hs ⊢
  refine hs.imp_of_mem fun {i j} hi hj hij=>?_
  have hj':j < nss.length:=by have:=hp.mem_iff.mp hj;simpa using this
  unfold lexLe
  rw[Aj (l:=nss) (a:=nss.getD j []) (by rw[zJ,zN hj'];exact qD _)]
  simp only[yS,xE]
  omega
section
theorem l8{K:W.Frag}(z:Nat->Int)(r:ak K HF ds vs):ak K HF (lx z ds .none) (lx z vs .non):=by
 unfold lx
 rw[r.length]
 split
 ·exact r
 ·rename_i h
  obtain⟨hp,_⟩:=SP.dY (z:=z) (n:=ds.length) (by omega)
  have key:∀l:List Nat,(∀i∈l,i < ds.length)->ak K HF (l.map fun i=>ds.getD i .none) (l.map fun i=>vs.getD i .non):=fun l=>by
   induction l with
   | nil=>exact fun _=>ak.nil
   | cons i l ih =>
    intro hl
    have hi:=hl i zH
    obtain⟨v,e1,e2⟩:=r.getD (zN hi)
    refine ak.cons ?_ (ih fun j hj=>hl j (zE _ hj))
    dsimp only
    rw[zJ,zJ,e1,zN hi]
    exact e2
  exact key _ fun i hi=>by have:=hp.mem_iff.mp hi;simpa using this
theorem lG(z:Nat->Int)(r:aG vs us):aG (lx z vs .non) (Srt.outV z us):=by
 unfold lx Srt.outV
 rw[r.length]
 split
 ·exact r
 ·rename_i h
  obtain⟨hp,_⟩:=SP.dY (z:=z) (n:=us.length) (by omega)
  have key:∀l:List Nat,(∀i∈l,i < vs.length)->aG (l.map fun i=>vs.getD i .non) (l.map fun i=>us.getD i Value.none):=fun l=>by
   induction l with
   | nil=>exact fun _=>.nil
   | cons i l ih =>
    intro hl
    have hi:=hl i zH
    obtain⟨v,e1,e2⟩:=r.get (zN hi)
    refine .cons ?_ (ih fun j hj=>hl j (zE _ hj))
    dsimp only
    rw[zJ,zJ,e1,zN hi]
    exact e2
  exact key _ fun i hi=>by have:=hp.mem_iff.mp hi;rw[r.length];simpa using this
theorem F6(z:Nat->Int)(nss:List (List Int)):lx z (nss.map ag) .none=(lx z nss []).map ag:=by
 unfold lx
 rw[zF]
 split
 ·rfl
 ·rename_i h
  rw[zP]
  obtain⟨hp,_⟩:=SP.dY (z:=z) (n:=nss.length) (by omega)
  refine yK fun i hi=>?_
  have hi':i < nss.length:=by have:=hp.mem_iff.mp hi;simpa using this
  simp[hi']
theorem ou(I:Inv X pins σ H s)(sm:aP HF H):∀ {nss:List (List Int)}{vs:List V}{us:List Value},ak X.K HF (nss.map ag) vs->aG vs us->Paired (um s.heap) us nss
 | [],_,_,h,r=>by rw[h.nil_inv] at r;cases r;exact .nil
 | ns::nss,_,_,h,r=>by
  obtain⟨v,vr,rfl,a,b⟩:=h.cons_inv
  cases r with
  | cons r rr =>
   refine .cons ?_ (ou I sm b rr)
   unfold ag at a
   simp only[Rep] at a
   obtain⟨p,ws,rfl,hs,rw'⟩:=a
   cases r
   obtain⟨its,rv,⟨o,ho,hc,n,hd⟩,_⟩:=I.tuple (aD sm hs)
   have:ws=ns.map V.int:=by
    have key:∀ {ns:List Int}{ws:List V},ak X.K HF (ns.map PyData.int) ws->ws=ns.map V.int:=fun {ns}=>by
     induction ns with
     | nil=>exact fun h=>h.nil_inv
     | cons n ns ih =>
      intro ws h
      obtain⟨v,r,rfl,a,b⟩:=h.cons_inv
      simp only[Rep] at a
      rw[a,ih b]
      rfl
    exact key rw'
   subst this
   exact⟨p,o,its.toArray,n,rfl,ho,hc,hd,intsAre_of rv⟩
theorem mG:dy X (.builtin "sorted") (fun xs H Q=>∃ (HF:Hp) (a:Addr) (vs:List V) (nss:List (List Int)),xs=[.ref a]/\aP HF H/\(eK X.K HF a vs\/gw X.K HF a vs)/\ak X.K HF (nss.map ag) vs/\(∀ns∈nss,ns≠[])/\nss.length < 64 /\
  ∀ (Dn:Addr) (us:List V),H Dn=none->ak X.K HF ((pU nss).map ag) us->Q (.ref Dn) (upd H Dn (.lst us))):=by
 intro pins s σ H xs us Q I r h
 obtain⟨HF,a,vs,nss,rfl,sm,hq,rr,hn,h64,q⟩:=h
 obtain⟨u,rfl,rx⟩:=vals1 r
 cases rx
 obtain⟨its,rv,pl,hz⟩:∃its:List Value,aG vs its/\Srt.Coll s.heap a its/\vs.length<=sizeLine:=by
  rcases hq with hq|hq
  ·obtain⟨its,rv,pl,hz⟩:=I.list (sm.seq hq)
   obtain⟨o,ho,hc,n,hd⟩:=pl.isList
   exact⟨its,rv,⟨o,"list",n,.inl rfl,ho,hc,hd⟩,hz⟩
  ·obtain⟨its,rv,pl,hz⟩:=I.tuple (aD sm hq)
   obtain⟨o,ho,hc,n,hd⟩:=(show s.heap.IsTuple a its.toArray from pl)
   exact⟨its,rv,⟨o,"tuple",n,.inr rfl,ho,hc,hd⟩,hz⟩
 have hl1:=rr.length
 rw[zF] at hl1
 refine uZ pl (ou I sm rr rv) hn (by have:=rv.length;omega) fun h' Dn c kp hD e=>?_
 have hv:=lG (fun i=>rk nss (nss.getD i [])) rv
 have hr:=l8 (fun i=>rk nss (nss.getD i [])) rr
 rw[F6,FM] at hr
 refine⟨.ref Dn,_,I.laid (t':=s.toks) (o:=.lst (lx (fun i=>rk nss (nss.getD i [])) vs .non)) kp hD ⟨?_,_,c,hv,e⟩,rfl,q Dn _ (I.hok.fresh hD) hr⟩
 rw[(c4 _ _ _).length_eq]
 exact hz
def fK:List D->Option (List D):=fun ds=>(oneOf ds).bind fun d=>match d with
 | .list es=>(rowsOf es).bind fun nss=>if nss.length < 64 then some ((pU nss).map ag) else none
 | .tuple es=>(rowsOf es).bind fun nss=>if nss.length < 64 then some ((pU nss).map ag) else none
 | _=>none
theorem B6(B:nO X "sorted" (.builtin "sorted"))(ha:DA X [e] fs)(he:starEach [e] X.env=(false,eval e X.env)::starEach [] X.env:=by rfl):DF X (.Call (.Name "sorted" p) [e] [] pos) (fF fK fs) :=
 vc mG (by
  intro HF H ds vs d Q sm r hg q
  obtain⟨x,hx,hg⟩:=bs hg
  rw[dP hx] at r
  have key:∀ (b:Bool) (es:List D),ak X.K HF [if b then .tuple es else .list es] vs->((rowsOf es).bind fun nss=>if nss.length < 64 then some ((pU nss).map ag) else none)=some d->(∃ (HF:Hp) (a:Addr) (us:List V) (nss:List (List Int)),vs=[.ref a]/\aP HF H/\(eK X.K HF a us\/gw X.K HF a us)/\ak X.K HF (nss.map ag) us/\(∀ns∈nss,ns≠[])/\nss.length < 64/\∀ (Dn:Addr) (ws:List V),H Dn=none->ak X.K HF ((pU nss).map ag) ws->Q (.ref Dn) (upd H Dn (.lst ws))):=fun b es r hg=>by
   obtain⟨nss,hb,hg⟩:=bs hg
   split at hg
   ·rename_i h64
    cases hg
    obtain⟨v,r',rfl,a,e0⟩:=r.cons_inv
    rw[e0.nil_inv]
    obtain⟨e1,e2⟩:=jg hb
    obtain⟨p,us,rfl,h,rr⟩:∃p us,v=.ref p/\(eK X.K HF p us\/gw X.K HF p us)/\ak X.K HF es us:=by
     cases b
     ·simp only[yR,qT,Rep] at a
      obtain⟨p,us,rfl,h,rr⟩:=a
      exact⟨p,us,rfl,.inl h,rr⟩
     ·simp only[xK,Rep] at a
      obtain⟨p,us,rfl,h,rr⟩:=a
      exact⟨p,us,rfl,.inr h,rr⟩
    rw[e1] at rr
    exact⟨HF,p,us,nss,rfl,sm,h,rr,e2,h64,fun Dn ws hD hr=>q Dn ws _ HF (.own sm hD) hD (sm.free hD) aE hr⟩
   ·cases hg
  cases x<;>try cases hg
  ·exact key false _ r hg
  ·exact key true _ r hg) B ha (by decide) (by decide) he rfl
end
end Dl
namespace En
open PySem PyProof.Rows
open AutoSeq1 (wpAny_loadPart')
section
theorem nextT_item(hj:s.heap.IsTupleIter j t k)(ht:s.heap.IsTuple t its)(hv:its[k]?=some v)
  (hQ:∀g,g.IsTupleIter j t (k+1)->Heap.SameBut j s.heap g->Q v { s with heap:=g }):wpAny (model prog w) A (Builtin.SmallTypes.nextOf (.ref j)) Q E s:=by
 obtain⟨oj,gj,cj,dj⟩:=id hj
 obtain⟨ot,gt,_,nt,dt⟩:=ht
 unfold Builtin.SmallTypes.nextOf
 refine zX (qF (name:=Str.ofString "__next__") hj.typeIs jT (qZ jT hj.typeIs F.entry_tuple_iterator_next ?_ (F.args_tuple_iterator_next_1 _)))
 refine zX (m:=field (.ref j) 0) (qX gj dj (x:=.ref t) rfl ?_)
 show wpAny _ _ (if (Value.ref t == Value.none)=true then _ else _) _ _ s
 rw[yQ (show ¬ ((Value.ref t == Value.none)=true) by exact xC)]
 refine zX (m:=field (.ref j) 1) (qX gj dj (x:=.int k 0) rfl ?_)
 refine zX (m:=seqItems? (.ref t)) (kL gt dt ?_)
 simp only[yI,hv]
 refine zX (wpAny_setField gj dj (by simp) (zY ⟨v,rfl,zY (hQ _ ⟨_,Heap.get?_update_self _ gj (Obj.isFreed_of_fields (Obj.data_mapFields dj _)),(Obj.cls_mapFields ..).trans cj,?_⟩ (Heap.SameBut.update ..))⟩))
 rw[Obj.data_mapFields dj];simp[rawInt]
theorem nextT_end{Q:Value->Shared->Prop}(hh:A.handled=none)(hj:s.heap.IsTupleIter j t k)(ht:s.heap.IsTuple t its)(hv:its[k]?=none)
  (hE:∀g x,Heap.ExtBut j s.heap g->(∃o,g.get? x=some o/\o.cls=.type "StopIteration")->E (.ref x) { s with heap:=g }):wpAny (model prog w) A (Builtin.SmallTypes.nextOf (.ref j)) Q E s:=by
 obtain⟨oj,gj,cj,dj⟩:=id hj
 obtain⟨ot,gt,_,nt,dt⟩:=ht
 unfold Builtin.SmallTypes.nextOf
 refine zX (qF (name:=Str.ofString "__next__") hj.typeIs jT (qZ jT hj.typeIs F.entry_tuple_iterator_next ?_ (F.args_tuple_iterator_next_1 _)))
 refine zX (m:=field (.ref j) 0) (qX gj dj (x:=.ref t) rfl ?_)
 show wpAny _ _ (if (Value.ref t == Value.none)=true then _ else _) _ _ s
 rw[yQ (show ¬ ((Value.ref t == Value.none)=true) by exact xC)]
 refine zX (m:=field (.ref j) 1) (qX gj dj (x:=.int k 0) rfl ?_)
 refine zX (m:=seqItems? (.ref t)) (kL gt dt ?_)
 simp only[yI,hv]
 refine zX (wF (zX (wpAny_setField gj dj (by simp) (zX (m:=newExc (.type "StopIteration") []) ?_))))
 simp only[newExc,newTuple]
 refine zX (qP (zX (m:=firstArgMember _ _) (wpAny_of_eq (a:=Value.none) (by first|rfl|(simp only[firstArgMember];rfl)) ?_)) (by size_fits))
 refine qP ?_ (by size_fits);simp only[raiseNew]
 refine zX (wpAny_handled ?_)
 first|rw[show A.in1.handled=none from hh]|rw[hh]
 exact zX (zY (wpAny_throw (hE _ _ (((Heap.SameBut.update ..).extBut.push _).push _) ⟨_,zZ _ rfl,rfl⟩)))
theorem meets_enumT(t:Addr)(its:Array Value)(n:Nat)(dd:Option Addr)(sl:Array (Option Value)) :
  Meets (Builtin.«enumerate.__new__» ⟨[.type "enumerate",.ref t],[]⟩) (fun _ R s=>s.heap.get? t=some { cls:=.type "tuple",dict:=dd,data:=.seq its n,slots:=sl } /\
   R (.ok (.ret (.ref (s.heap.push { cls:=.type "tuple_iterator",data:=.fields #[.ref t,.int 0 0] }).objs.size)))
    { s with heap:=(s.heap.push { cls:=.type "tuple_iterator",data:=.fields #[.ref t,.int 0 0] }).push { cls:=.type "enumerate",data:=.fields #[.none,.bool false,.ref s.heap.objs.size,rawInt 0,.none,.none] } }) :=
 .of_wp fun prog w A R s h=>by
  obtain⟨hp,g,d,tk,os⟩:=s
  obtain⟨hl,h⟩:=h
  have hsub:=sub_enumerate
  have hL:Heap.IsTuple (Shared.heap ⟨hp,g,d,tk,os⟩) t its:=⟨_,hl,rfl,n,rfl⟩
  wp_walk using wpAny_loadPart' hl
  refine wpAny_stack_any fun st=>zY ?_
  split
  ·rename_i c _ _ _ _ _
   cases (c == Value.type "enumerate")
   ·wp_walk using wpAny_loadPart' hl,xV hL
    exact⟨_,rfl,h⟩
   ·wp_walk using wpAny_loadPart' hl,xV hL
    exact⟨_,rfl,h⟩
  ·wp_walk using wpAny_loadPart' hl,xV hL
   exact⟨_,rfl,h⟩
theorem call_enumT(ht:s.heap.IsTuple t its)
  (h:∀h',IsEnum h' (s.heap.objs.size+1) s.heap.objs.size 0 .none->h'.IsTupleIter s.heap.objs.size t 0->h'.objs.size=s.heap.objs.size+2->(∀b o,s.heap.get? b=some o->h'.get? b=some o)->Q (.ref (s.heap.objs.size+1)) { s with heap:=h' }) :
  wpAny (model prog w) A (call (.type "enumerate") [.ref t]) Q E s:=by
 obtain⟨⟨c,dct,dt,sl⟩,hl,hc,n,hd⟩:=ht
 simp only at hc hd
 subst hc hd
 refine callType_new F.called_enumerate (by decide) (F.typeCall_enumerate_1 _) (F.newCall_enumerate_1 _) (fun obj=>F.args_object_init_2 obj _) F.entry_enumerate_new (meets_enumT t its n dct sl) ⟨hl,?_⟩
 have hz:(s.heap.push { cls:=.type "tuple_iterator",data:=.fields #[.ref t,.int 0 0] }).objs.size=s.heap.objs.size+1:=by rw[xN]
 have he:=zZ (s.heap.push { cls:=.type "tuple_iterator",data:=.fields #[.ref t,.int 0 0] }) (o:={ cls:=.type "enumerate",data:=.fields #[.none,.bool false,.ref s.heap.objs.size,rawInt 0,.none,.none] }) rfl
 show _/\_
 rw[hz] at he ⊢
 refine⟨⟨_,he,rfl⟩,h _ he ⟨_,zW _ (zZ _ rfl),rfl,rfl⟩ ?_ fun b o x=>zW _ (zW _ x)⟩
 show (Heap.push _ _).objs.size=_
 rw[xN,hz]
end
end En
namespace Dl
open PySem L2 PySem.Spec PyProof.Rows
section
variable {ch:List Addr}
theorem uP(I:Inv X pins σ H s)(hch:∀b∈ch,b8 X pins H b)(k:∀b o,b∉ch->s.heap.get? b=some o->h'.get? b=some o){T:Addr}{vals:List Value}{xs:List V}(hT:s.heap.objs.size<=T)(ht:oD h' T vals.toArray)
  (rv:aG xs vals) (hz:xs.length<=sizeLine):Inv X pins σ (upd H T (.tup xs)) { s with heap:=h',toks:=t' }:=by
 have nT:H T=none:=I.hok.fresh hT
 have ne:∀b o,s.heap.get? b=some o->b≠T:=fun b o e=>yU (zS (yA e) hT)
 have ne2:∀b o,H b=some o->b≠T:=fun b o e=>aH e nT
 have nch:∀b o,H b=some o->b∉ch:=fun b o e z=>by rw[(hch b z).1] at e;cases e
 refine I.step (g':=s.gens) (d':=s.drawn) (ch:=ch) (fun b hb=>?_) (fun b o _ _ hc e _=>k b o hc e) (fun b o _ _ hc e _=>⟨o.slots,k b o hc e⟩) (fun b o _ e n=>by rw[az (ne b o e)];exact n)
  (fun b o hc e=>⟨o,k b o hc e⟩) (fun b ys e=>by rw[az (ne2 b _ e)];exact e) (fun b o u e=>by rw[az (ne2 b _ e)];exact e) (.kept (fun b u ⟨q,z⟩ e=>k b u (nch b _ z) e) fun b u e _=>by rw[az (ne2 b _ e)];exact e) (fun m hm=>?_) (fun b u e=>?_) I.bare
 ·obtain⟨f0,f1,f2,f3,f4,f5⟩:=hch b hb
  exact⟨f3,f1,f4,f5⟩
 ·obtain⟨o,es,ep,ho,r⟩:=hm
  exact⟨o,es,ep,k _ o (fun z=>(hch _ z).2.1 rfl) ho,r⟩
 ·by_cases hb:b=T
  ·subst hb
   rw[aE] at e
   cases e
   exact⟨hz,vals,rv,ht⟩
  ·rw[az hb] at e
   refine (I.hok b u e).stay (fun c v hc q=>k c v ?_ q) (fun _ q=>?_) fun c v q _=>?_
   ·rcases hc with z|z
    ·rw[z];exact nch b u e
    ·exact nch c _ z
   all_goals first
    | (rw[az (ne2 _ _ q)];exact q)
    | exact q
theorem LM(I:Inv X pins σ H s)(hf:b8 X pins H b)(h:X.K.lookup a=some o):a≠b:=by
 rintro rfl
 have hb:=I.ok.mod.kin a o h
 rcases hf.2.2.2.1 with z|z
 ·exact I.ok.noex a o hb z
 ·exact absurd (zS (yA (I.ok.bs a o hb).1) z) (qH _)
theorem Jr(I:Inv X pins σ H s)(hf:b8 X pins H b)(h:eK X.K H a xs):a≠b:=by
 rcases h with (h|⟨o,h⟩)|⟨o,its,n,h,_⟩
 ·exact aH h hf.1
 ·exact aH h hf.1
 ·exact LM I hf h
theorem Ih(I:Inv X pins σ H s)(hf:b8 X pins H b)(h:gw X.K H a xs):a≠b:=by
 rcases h with (h|⟨o,h⟩)|⟨o,its,n,h,_⟩
 ·exact aH h hf.1
 ·exact aH h hf.1
 ·exact LM I hf h
end
def MV(sq:Hp->List V->Prop):It:=⟨fun i H=>∃xs x,sq H xs/\xs[i]?=some x,fun i H v H'=>∃T y,v=.ref T/\H T=none/\H'=upd H T (.tup [.int (i:Nat),y])/\∀xs,sq H xs->xs[i]?=some y,fun i H=>∃xs,sq H xs/\xs.length<=i⟩
def bh(k:Nat):List D->List D
 | []=>[]
 | d::ds=>.tuple [.int (k:Nat),d]::bh (k+1) ds
theorem rS:∀ {ds:List D}{k i:Nat}{d:D},(bh k ds)[i]?=some d->∃x,ds[i]?=some x/\d=.tuple [.int ((k+i:Nat):Int),x]
 | [],k,i,d,h=>by simp[bh] at h
 | x::ds,k,0,d,h=>by simp[bh] at h;exact⟨x,rfl,h.symm⟩
 | x::ds,k,i+1,d,h=>by
  simp only[bh,xB] at h
  obtain⟨y,h1,h2⟩:=rS h
  refine⟨y,by simpa using h1,?_⟩
  rw[h2,show k+1+i=k+(i+1) by omega]
theorem jo:∀ (ds:List D) (k:Nat),(bh k ds).length=ds.length
 | [],k=>rfl
 | x::ds,k=>by simp[bh,jo ds (k+1)]
theorem Bf{K:W.Frag}(h:sq HF vs)(mo:∀H H',aP H H'->sq H vs->sq H' vs)(r:ak K HF ds vs):qm K (MV sq) HF (bh 0 ds) where
 go:=fun i d H₁ HF₁ e s1 s2=>by
  obtain⟨x,hx,rfl⟩:=rS e
  rw[jG]
  obtain⟨v,hv,rv⟩:=r.getD hx
  have q:=mo _ _ s2 (mo _ _ s1 h)
  refine⟨⟨vs,v,q,hv⟩,fun y H₂ ⟨T,z,e1,hT,e2,hy⟩=>?_⟩
  have:=hy vs q
  rw[hv] at this
  cases this
  subst e1 e2
  exact⟨_,.new s2 hT,dI (s2.free hT) (ak.cons (by simp[Rep]) (ak.cons (rv.mono s1) ak.nil))⟩
 stop:=fun H₁ HF₁ s1 s2=>⟨vs,mo _ _ s2 (mo _ _ s1 h),by rw[jo,r.length];exact yP _⟩
def ME(sq1 sq2:Hp->List V->Prop):It:=⟨fun i H=>∃xs ys x y,sq1 H xs/\sq2 H ys/\xs[i]?=some x/\ys[i]?=some y,
 fun i H v H'=>∃T x y,v=.ref T/\H T=none/\H'=upd H T (.tup [x,y])/\(∀xs,sq1 H xs->xs[i]?=some x)/\∀ys,sq2 H ys->ys[i]?=some y,
 fun i H=>∃xs ys,sq1 H xs/\sq2 H ys/\(xs.length<=i\/ys.length<=i)⟩
section
variable {ch:List Addr}
theorem Bo(I:Inv X pins σ H s)(hch:∀b∈ch,b8 X pins H b)(k:∀b o,b∉ch->s.heap.get? b=some o->h'.get? b=some o):Inv X pins σ H { s with heap:=h',toks:=t' }:=by
 have nch:∀b o,H b=some o->b∉ch:=fun b o e z=>by rw[(hch b z).1] at e;cases e
 refine I.step (g':=s.gens) (d':=s.drawn) (ch:=ch) (fun b hb=>?_) (fun b o _ _ hc e _=>k b o hc e) (fun b o _ _ hc e _=>⟨o.slots,k b o hc e⟩) (fun b o _ e n=>n)
  (fun b o hc e=>⟨o,k b o hc e⟩) (fun b ys e=>e) (fun b o u e=>e) (.kept (fun b u ⟨q,z⟩ e=>k b u (nch b _ z) e) fun b u e _=>e) (fun m hm=>?_) (fun b u e=>?_) I.bare
 ·obtain⟨f0,f1,f2,f3,f4,f5⟩:=hch b hb
  exact⟨f3,f1,f4,f5⟩
 ·obtain⟨o,es,ep,ho,r⟩:=hm
  exact⟨o,es,ep,k _ o (fun z=>(hch _ z).2.1 rfl) ho,r⟩
 ·refine (I.hok b u e).stay (fun c v hc q=>k c v ?_ q) (fun _ q=>q) fun c v q _=>q
  rcases hc with z|z
  ·rw[z];exact nch b u e
  ·exact nch c _ z
end
structure NK(z TI TO i1 i2:Addr):Prop where
 a1:TI≠z
 a2:TO≠z
 a3:i1≠z
 a4:i2≠z
 a5:TI≠TO
 a6:TI≠i1
 a7:TI≠i2
 a8:TO≠i1
 a9:TO≠i2
 a0:i1≠i2
section
def iR:List D->List D->List D
 | x::xs,y::ys=>.tuple [x,y]::iR xs ys
 | _,_=>[]
theorem oR:∀ {xs ys:List D}{i:Nat}{d:D},(iR xs ys)[i]?=some d->∃x y,xs[i]?=some x/\ys[i]?=some y/\d=.tuple [x,y]
 | [],_,i,d,h=>by simp[iR] at h
 | _::_,[],i,d,h=>by simp[iR] at h
 | x::xs,y::ys,0,d,h=>by simp[iR] at h;exact⟨x,y,rfl,rfl,h.symm⟩
 | x::xs,y::ys,i+1,d,h=>by
  simp only[iR,xB] at h
  obtain⟨a,b,h1,h2,h3⟩:=oR h
  exact⟨a,b,by simpa using h1,by simpa using h2,h3⟩
theorem me:∀ (xs ys:List D),(iR xs ys).length=min xs.length ys.length
 | [],_=>by simp[iR]
 | _::_,[]=>by simp[iR]
 | x::xs,y::ys=>by simp[iR,me xs ys]
theorem CV{K:W.Frag}(h1:sq1 HF vs)(mo1:∀H H',aP H H'->sq1 H vs->sq1 H' vs)(h2:sq2 HF us)(mo2:∀H H',aP H H'->sq2 H us->sq2 H' us)(r1:ak K HF xs vs)(r2:ak K HF ys us) :
  qm K (ME sq1 sq2) HF (iR xs ys) where
 go:=fun i d H₁ HF₁ e s1 s2=>by
  obtain⟨x,y,hx,hy,rfl⟩:=oR e
  obtain⟨v,hv,rv⟩:=r1.getD hx
  obtain⟨u,hu,ru⟩:=r2.getD hy
  have q1:=mo1 _ _ s2 (mo1 _ _ s1 h1)
  have q2:=mo2 _ _ s2 (mo2 _ _ s1 h2)
  refine⟨⟨vs,us,v,u,q1,q2,hv,hu⟩,fun w H₂ ⟨T,a,b,e1,hT,e2,ha,hb⟩=>?_⟩
  have ea:=ha vs q1
  have eb:=hb us q2
  rw[hv] at ea
  rw[hu] at eb
  cases ea
  cases eb
  subst e1 e2
  exact⟨_,.new s2 hT,dI (s2.free hT) (ak.cons (rv.mono s1) (ak.cons (ru.mono s1) ak.nil))⟩
 stop:=fun H₁ HF₁ s1 s2=>⟨vs,us,mo1 _ _ s2 (mo1 _ _ s1 h1),mo2 _ _ s2 (mo2 _ _ s1 h2),by rw[me,r1.length,r2.length];omega⟩
end
def cut(xs:List α)(lo hi:Option Int):List α:=(xs.drop (HT.cW xs.length 0 lo)).take (HT.cW xs.length xs.length hi - HT.cW xs.length 0 lo)
theorem FK(xs:List α)(lo hi:Option Int):(cut xs lo hi).length<=xs.length:=by
 unfold cut;rw[jY,qL];omega
theorem oU{K:W.Frag}(r:ak K H ds vs)(lo hi:Option Int):ak K H (cut ds lo hi) (cut vs lo hi):=by
 unfold cut;rw[r.length];exact (r.drop _).take _
section
theorem A7{vl:Value}{lo:Option Int}(ht:IsTup s.heap t its)(hs:s.heap.IsSliceOf sl vl vu .none)(pl:IsPart vl lo)(pu:IsPart vu hi)
  (hw:HT.cW its.size 0 lo=0/\HT.cW its.size its.size hi=its.size) (h:Q (.ref t) s):wpAny (model prog w) A (getItem (.ref t) (.ref sl)) Q E s:=by
 obtain⟨os,hos,hcs,hds⟩:=id hs
 have hTs:s.TypeIs (.ref sl) "slice":=⟨os,hos,hcs⟩
 unfold getItem
 try with_reducible refine qA ?_
 first|refine zX (zY ?_)|skip
 refine zX (wpAny_sequenceKey ht.typeIs (by decide) (zX (qF (name:=Str.ofString "__getitem__") ht.typeIs jI (qZ jI ht.typeIs entry_tuple_getitem ?_ (args_tuple_getitem _ _)))))
 refine zX (m:=Builtin.Tuple.tupleItemsOf (.ref t)) (tupleItemsOf_ ht (zX (wK hTs ?_)))
 rw[yO (by decide)]
 refine zX (HT.gP hs pl pu ?_)
 show wpAny _ _ (if (((HT.cW its.size 0 lo:Nat):Int) == 0&&(1:Int) == 1&&(HT.cW its.size its.size hi - HT.cW its.size 0 lo) == its.size)=true then _ else _) _ _ s
 rw[hw.1,hw.2,yO (by simp)]
 unfold Builtin.Tuple.tupleIsExact
 refine zX (zX (wK ht.typeIs (zY ?_)))
 rw[yO (by decide)]
 first
  | exact zX (wF (zY ⟨_,rfl,zY h⟩))
  | exact zX (wF (zX (zY (zY ⟨_,rfl,zY h⟩))))
def MI(K:W.Frag):V->Option Int->Option Int->Hp->VK->Prop:=fun x lo hi H Q=>∃a xs,x=.ref a/\gw K H a xs/\(cut xs lo hi=xs->Q (.ref a) H)/\∀p,H p=none->Q (.ref p) (upd H p (.tup (cut xs lo hi)))
theorem Ki:HB X (MI X.K):=by
 intro pins s σ H x v vl vu lo hi sl Q I rx hs pl pu h
 obtain⟨a,xs,rfl,hx,q1,q2⟩:=h
 by_cases hw:HT.cW xs.length 0 lo=0/\HT.cW xs.length xs.length hi=xs.length
 ·cases rx
  obtain⟨its,r,ht,hz⟩:=I.tuple hx
  have hlen:its.toArray.size=xs.length:=by rw[zK];exact r.length.symm
  refine⟨"tuple",_,PyProof.Rows.slot_tuple_getitem.lookup,ht.typeIs,A7 ht hs pl pu (by rw[hlen];exact hw) ⟨.ref a,H,I,rfl,q1 ?_⟩⟩
  unfold cut
  rw[hw.1,hw.2,List.drop_zero,Nat.sub_zero,List.take_length]
 ·exact Ji pins s σ H (.ref a) v vl vu lo hi sl Q I rx hs pl pu ⟨a,xs,rfl,hx,hw,q2⟩
def MH(K:W.Frag):V->Option Int->Option Int->Hp->VK->Prop:=fun x lo hi H Q=>∃a xs,x=.ref a/\eK K H a xs/\∀p,H p=none->Q (.ref p) (upd H p (.lst (cut xs lo hi)))
theorem wZ(lo hi:Option Int)(n:Nat):sliceBounds lo hi none n=(((HT.cW n 0 lo:Nat):Int),((HT.cW n n hi:Nat):Int),1):=by
 have h1:(1:Int) > 0:=by omega
 refine Prod.ext ?_ (Prod.ext ?_ rfl)
 ·cases lo with
  | none=>simp[sliceBounds,HT.cW]
  | some x =>
   by_cases h:x < 0
   ·simp only[sliceBounds,HT.cW,kO,h1,xK,yO h];omega
   ·simp only[sliceBounds,HT.cW,kO,h1,xK,yQ h];omega
 ·cases hi with
  | none=>simp[sliceBounds,HT.cW]
  | some x =>
   by_cases h:x < 0
   ·simp only[sliceBounds,HT.cW,kO,h1,xK,yO h];omega
   ·simp only[sliceBounds,HT.cW,kO,h1,xK,yQ h];omega
theorem Fo:HB X (MH X.K):=by
 intro pins s σ H x v vl vu lo hi sl Q I rx hs pl pu h
 obtain⟨a,xs,rfl,hx,q⟩:=h
 cases rx
 obtain⟨its,r,p,hz⟩:=I.list hx
 have hlen:=r.length
 refine⟨"list",_,slot_list_getitem.lookup,p.isList.typeIs,wpAny_getItem_list_slice p.isList hs pl pu .none (by simp) ?_ (by rw[zK];omega)⟩
 rw[W.kmk_pick_nat its.toArray (wZ lo hi its.toArray.size)]
 have e:((its.toArray.toList.drop (HT.cW its.toArray.size 0 lo)).take (HT.cW its.toArray.size its.toArray.size hi - HT.cW its.toArray.size 0 lo))=cut its lo hi:=by unfold cut;simp
 rw[e]
 have rc:aG (cut xs lo hi) (cut its lo hi):=by unfold cut;rw[hlen];exact (r.drop _).take _
 exact⟨.ref s.heap.objs.size,_,I.lnew (t':=s.toks) rc (yF (FK xs lo hi) hz),rfl,q _ I.fresh⟩
def NR(K:W.Frag)(f:Env->Option (Option Int)):TO:=fun σ H Q=>∃HF ρ o,aP HF H/\cw K HF ρ σ/\f ρ=some o/\∀H' HF',bJ HF H HF' H'->Q o H'
def DO(X:Cx)(e:Option Expr)(f:Env->Option (Option Int)):Prop:=PO X e (NR X.K f)
def mQ:Env->Option (Option Int):=fun _=>some none
def gI:D->Option Int|.int i=>some i|_=>none
def Bx(f:Env->Option D):Env->Option (Option Int):=fun ρ=>(f ρ).bind fun d=>(gI d).map some
theorem Ga:DO X none mQ:=fun pins s σ H Q I ⟨HF,ρ,o,sm,eo,hf,q⟩=>F1 pins s σ H Q I (by cases hf;exact q H HF (.refl sm))
theorem Fg(h:DE X e f):DO X (some e) (Bx f):=fun pins s σ H Q I ⟨HF,ρ,o,sm,eo,hf,q⟩=>Gm h pins s σ H Q I (by
 obtain⟨d,hd,hf⟩:=bs hf
 obtain⟨i,hi,rfl⟩:=af hf
 cases d<;>try cases hi
 exact⟨HF,ρ,_,sm,eo,hd,fun v H1 HF1 g1 r1=>⟨_,by simpa only[Rep] using r1,q H1 HF1 g1⟩⟩)
variable {lo hi:Option Expr}{fl fh:Env->Option (Option Int)}
def mT(g:D->Option Int->Option Int->Option β)(fa:Env->Option D)(fl fh:Env->Option (Option Int)):Env->Option β:=fun ρ=>(fa ρ).bind fun x=>(fl ρ).bind fun l=>(fh ρ).bind fun h=>g x l h
end
section
def f1(g:D->Option D)(f:Env->Option D):Env->Option D:=fun ρ=>(f ρ).bind g
end
end Dl
namespace HT
open PySem PyProof.Rows
section
open PySem.SeqAt
open PySem.AutoSeq1 (wpAny_loadPart')
open PySem.MeetsSeq PySem.MeetsSeq2 PySem.MeetsSeq3
end
end HT
namespace Dl
open PySem L2 PySem.Spec PyProof.Rows
section
def oq:D->Option (List Int)|.tuple ds=>intsOf ds|_=>none
theorem sj(h:oq x=some ns):x=.tuple (ns.map PyData.int):=by
 cases x<;>try cases h
 rename_i xs
 have h:intsOf xs=some ns:=h
 rw[cx h]
end
end Dl
namespace En
open PySem PyProof.Rows
open AutoSeq1 (wpAny_loadPart')
theorem noFill_tup:fillsNumberSlot (.type "tuple") "mul"=pure false:=PySem.fillsNumberSlot_seq (id:="tuple.__mul__") (r:=some (.builtin "tuple.__rmul__")) F.slot_tuple_mul.lookup (by decide +kernel) F.slot_tuple_rmul.lookup (by decide +kernel)
theorem repeat_tup:seqRepeat? (.type "tuple")=pure (some (.builtin "tuple.__mul__")):=by
 unfold seqRepeat?
 rw[PySem.seqSlot_of (T:="tuple") (name:="__mul__") (id:="tuple.__mul__") F.slot_tuple_mul.lookup (by decide +kernel),PySem.seqSlot_of (T:="tuple") (name:="__rmul__") (id:="tuple.__rmul__") F.slot_tuple_rmul.lookup (by decide +kernel)];rfl
theorem rmul_tup(a:Int)(t:Tok)(l:Addr)(its:Array Value)(n:Nat)(dd:Option Addr)(sl:Array (Option Value)) :
  Meets (Builtin.«int.__rmul__» ⟨[.int a t,.ref l],[]⟩) (fun _ R s=>s.heap.get? l=some { cls:=.type "tuple",dict:=dd,data:=.seq its n,slots:=sl }/\R (.ok (.ret Value.notImplemented)) s) :=
 .of_wp fun prog w A R s h=>by
  obtain⟨hp,g,d,tk,os⟩:=s;obtain⟨hl,h⟩:=h
  wp_walk
  exact⟨_,rfl,h⟩
theorem mulT_same(l:Addr)(its:Array Value)(n:Nat)(dd:Option Addr)(sl:Array (Option Value))(k:Int)(t:Tok)(h1:¬ (decide (k < -(2 ^ 63))||decide (k >= 2 ^ 63))=true)(h2:(its.isEmpty||k == 1)=true) :
  Meets (Builtin.«tuple.__mul__» ⟨[.ref l,.int k t],[]⟩) (fun _ R s=>s.heap.get? l=some { cls:=.type "tuple",dict:=dd,data:=.seq its n,slots:=sl }/\R (.ok (.ret (.ref l))) s) :=
 .of_wp fun prog w A R s h=>by
  obtain⟨hp,g,d,tk,os⟩:=s;obtain⟨hl,h⟩:=h
  have f1:=AutoSeq1.idx_int
  wp_walk using wpAny_loadPart' hl
  rw[yQ h1]
  wp_walk using wpAny_loadPart' hl
  exact⟨_,rfl,h⟩
theorem mulT_none(l:Addr)(its:Array Value)(n:Nat)(dd:Option Addr)(sl:Array (Option Value))(k:Int)(t:Tok)(h1:¬ (decide (k < -(2 ^ 63))||decide (k >= 2 ^ 63))=true)(h2:¬ (its.isEmpty||k == 1)=true)(h3:(decide (k<=0)||its.isEmpty)=true) :
  Meets (Builtin.«tuple.__mul__» ⟨[.ref l,.int k t],[]⟩) (fun _ R s=>s.heap.get? l=some { cls:=.type "tuple",dict:=dd,data:=.seq its n,slots:=sl }/\R (.ok (.ret (.ref s.heap.objs.size))) { s with heap:=s.heap.push { cls:=.type "tuple",data:=.seq #[] } }) :=
 .of_wp fun prog w A R s h=>by
  obtain⟨hp,g,d,tk,os⟩:=s;obtain⟨hl,h⟩:=h
  have f1:=AutoSeq1.idx_int
  wp_walk using wpAny_loadPart' hl
  rw[yQ h1]
  wp_walk using wpAny_loadPart' hl
  exact⟨_,rfl,h⟩
theorem mulT_many(l:Addr)(its:Array Value)(n:Nat)(dd:Option Addr)(sl:Array (Option Value))(k:Int)(t:Tok)(h1:¬ (decide (k < -(2 ^ 63))||decide (k >= 2 ^ 63))=true)(h2:¬ (its.isEmpty||k == 1)=true)(h3:¬ (decide (k<=0)||its.isEmpty)=true)
  (h4:¬ ((its.size:Nat):Int) * k > (2 ^ 63 - 1) / 8) (h5:¬ Builtin.Tuple.tupleTooMany (((its.size:Nat):Int) * k)=true) (hz:((List.replicate k.toNat its).foldl (·++·) #[]).size<=sizeLine) :
  Meets (Builtin.«tuple.__mul__» ⟨[.ref l,.int k t],[]⟩) (fun _ R s=>s.heap.get? l=some { cls:=.type "tuple",dict:=dd,data:=.seq its n,slots:=sl }/\R (.ok (.ret (.ref s.heap.objs.size))) { s with heap:=s.heap.push { cls:=.type "tuple",data:=.seq ((List.replicate k.toNat its).foldl (·++·) #[]) } }) :=
 .of_wp fun prog w A R s h=>by
  obtain⟨hp,g,d,tk,os⟩:=s;obtain⟨hl,h⟩:=h
  have f1:=AutoSeq1.idx_int
  wp_walk using wpAny_loadPart' hl
  rw[yQ h1]
  wp_walk using wpAny_loadPart' hl
  rw[yQ h4]
  wp_walk using wpAny_loadPart' hl
  exact⟨_,rfl,h⟩
end En
namespace Dl
open PySem L2 PySem.Spec PyProof.Rows
section
def HU(K:W.Frag):R2:=fun x y H Q=>∃a k xs,x=.ref a/\y=.int k/\gw K H a xs/\-(2 ^ 62)<=k/\k < 2 ^ 62/\xs.length * k.toNat<=sizeLine/\((List.replicate k.toNat xs).flatten=xs->Q (.ref a) H) /\
 ∀p,H p=none->Q (.ref p) (upd H p (.tup (List.replicate k.toNat xs).flatten))
theorem Hf:il X (binaryOp .Mult) (HU X.K):=by
 intro pins s σ H x y v u Q I rx ry h
 obtain⟨a,k,xs,rfl,rfl,hq,k1,k2,hz,q1,q2⟩:=h
 cases rx
 obtain⟨t,rfl⟩:=ry
 obtain⟨its,r,pl,hzx⟩:=I.tuple hq
 have hl:=r.length
 obtain⟨⟨cls,dd,data,sl⟩,ho,hc,n,hd⟩:=id pl
 simp only at hc hd
 subst hc hd
 have b1:¬ (decide (k < -(2 ^ 63))||decide (k >= 2 ^ 63))=true:=by
  simp only[jE,zM]
  omega
 refine wpAny_binaryOp_repeat_ref (T:="tuple") (U:="int") (by decide) ⟨_,ho,rfl⟩ (fun s'=>wG s' k t) En.noFill_tup F.fills_int_mul vV En.repeat_tup F.slot_int_index.lookup
  (jA vV (wG s k t) F.entry_int_rmul (F.args_int_rmul_2 _ _) (En.rmul_tup k t a its.toArray n dd sl) ⟨ho,rfl,⟨_,ho,rfl⟩,?_⟩)
 have hfl:∀m:Nat,List.foldl (fun x1 x2=>x1++x2) #[] (List.replicate m its.toArray)=(List.replicate m its).flatten.toArray:=fun m=>by
  have:=foldl_rep its m []
  rw[xR] at this
  exact this
 by_cases h2:(its.toArray.isEmpty||k == 1)=true
 ·refine jA F.slot_tuple_mul ⟨_,ho,rfl⟩ wX (wJ _ _) (En.mulT_same a its.toArray n dd sl k t b1 h2) ⟨ho,⟨.ref a,H,I,rfl,q1 ?_⟩⟩
  rw[jE] at h2
  rcases h2 with h2|h2
  ·have:xs=[]:=by
    have e:its=[]:=by simpa using h2
    rw[e] at hl
    exact List.length_eq_zero_iff.mp hl
   rw[this]
   simp
  ·have:k=1:=eq_of_beq h2
   subst this
   simp
 ·by_cases h3:(decide (k<=0)||its.toArray.isEmpty)=true
  ·refine jA F.slot_tuple_mul ⟨_,ho,rfl⟩ wX (wJ _ _) (En.mulT_none a its.toArray n dd sl k t b1 h2 h3) ⟨ho,?_⟩
   have hk0:k.toNat=0:=by
    simp only[jE,zM] at h3 h2
    rcases h3 with h3|h3
    ·omega
    ·exact absurd (.inl h3) h2
   have q3:=q2 s.heap.objs.size I.fresh
   rw[hk0] at q3
   exact⟨.ref s.heap.objs.size,_,I.laid (t':=s.toks) (o:=.tup []) (fun b ob q=>zW _ q) (yP _) ⟨xY _,[],.nil,oD.new _ _⟩,rfl,q3⟩
  ·have hm:its.length * k.toNat<=sizeLine:=by rw[<- hl];exact hz
   have hkn:(k.toNat:Int)=k:=by
    simp only[jE,zM,not_or] at h3
    omega
   have hmi:((its.toArray.size:Nat):Int) * k=((its.length * k.toNat:Nat):Int):=by rw[zK,Int.natCast_mul,hkn]
   have hv:=L2.aG.rep r k.toNat
   have hlen2:(List.replicate k.toNat xs).flatten.length<=sizeLine:=by rw[len_rep,Nat.mul_comm];exact hz
   have hs8:(sizeLine:Nat)<=(2 ^ 63 - 1) / 8:=by decide
   have h4:¬ ((its.toArray.size:Nat):Int) * k > (2 ^ 63 - 1) / 8:=by rw[hmi];omega
   have h5:¬ Builtin.Tuple.tupleTooMany (((its.toArray.size:Nat):Int) * k)=true:=by
    unfold Builtin.Tuple.tupleTooMany
    rw[hmi]
    simp only[zM]
    omega
   refine jA F.slot_tuple_mul ⟨_,ho,rfl⟩ wX (wJ _ _) (En.mulT_many a its.toArray n dd sl k t b1 h2 h3 h4 h5 (by rw[hfl,zK,<- hv.length];exact hlen2)) ⟨ho,?_⟩
   rw[hfl]
   exact⟨.ref s.heap.objs.size,_,I.laid (t':=s.toks) (o:=.tup (List.replicate k.toNat xs).flatten) (fun b ob q=>zW _ q) (yP _) ⟨hlen2,_,hv,oD.new _ _⟩,rfl,q2 _ I.fresh⟩
def uV:D->D->Option D
 | .tuple ds,.int k=>if uY k=true/\ds.length * k.toNat<=sizeLine then some (.tuple (List.replicate k.toNat ds).flatten) else none
 | _,_=>none
theorem ma{K:W.Frag}(r:ak K HF ds vs):∀k:Nat,ak K HF (List.replicate k ds).flatten (List.replicate k vs).flatten
 | 0=>ak.nil
 | k+1=>by rw[xH,xH,qQ,qQ];exact r.append (ma r k)
theorem Do{K:W.Frag}:eQ K (HU K) uV:=by
 intro HF H x y v1 v2 d Q sm r1 r2 hg q
 cases x<;>cases y<;>simp only[uV] at hg<;>try cases hg
 split at hg
 ·rename_i xs k hh
  cases hg
  simp only[Rep] at r1 r2
  obtain⟨a,vs,rfl,ha,ra⟩:=r1
  have ok:=hh.1
  unfold uY at ok
  rw[zI] at ok
  refine⟨a,k,vs,rfl,r2,aD sm ha,yT ok.1,yT ok.2,by rw[ra.length];exact hh.2,fun e=>q _ H HF (.refl sm) ?_,fun p hp=>q _ _ _ (.new sm hp) (dI (sm.free hp) (ma ra _))⟩
  simp only[Rep]
  refine⟨a,vs,rfl,ha,?_⟩
  have:=ma ra k.toNat
  rw[e] at this
  exact this
 ·cases hg
end
end Dl
namespace En
open PySem PyProof.Rows
section
theorem call_setT(hh:A.handled=none)(hl:s.heap.IsTuple l its)(hi:IntsAre its.toList ns)(hb:its.size+1 < scanBound)
  (h:∀ (h':Heap) (tk:Nat),h'.SetOf (intKind prog w) s.heap.objs.size (fun k'=>(firstMet (fun i=>ns.getD i 0) its.size).any (· == k')) (firstMet (fun i=>ns.getD i 0) its.size).length->(∀b o,b < s.heap.objs.size->s.heap.get? b=some o->h'.get? b=some o)->Q (.ref s.heap.objs.size) { s with heap:=h',toks:=tk }) :
  wpAny (model prog w) A (call (.type "set") [.ref l]) Q E s:=by
 obtain⟨c,tl,hmro⟩:=F.called_set.mro
 have hmade:=F.called_set.made
 have hsub:=F.called_set.sub
 refine wpAny_call (codeAny_of_tree ?_);show wpAny _ _ (callAny (.type "set") _) _ _ _
 refine zY ⟨Code.quiet_builtin _ (by decide +kernel),kJ F.entry_type_call ?_⟩
 rw[Around.under_plain (weight_type_call_type "set" [.ref l] []) rfl]
 have h1:=F.called_set.notType
 have h2:=F.called_set.canCreate
 have hct:=F.typeCall_set_1 (.ref l)
 repeat (any_goals (first|assumption|wp_step))
 refine jU (code_set_new_1 (.ref l) (E:=E) (Q₁:=fun obj s1=>∃led:Bool,obj=.ref s.heap.objs.size/\s1={ s with heap:=s.heap.push { cls:=.type "set",dict:=none,data:=.set #[] 0 (.fresh 0 0 led) } }) fun led=>⟨led,rfl,rfl⟩) fun r s1 hr=>?_
 cases r with
 | error e=>exact hr
 | ok fl =>
  cases fl with
  | ret obj =>
   obtain⟨led,rfl,rfl⟩:=hr
   have hS:(s.heap.push { cls:=.type "set",dict:=none,data:=.set #[] 0 (.fresh 0 0 led) }).get? s.heap.objs.size=some { cls:=.type "set",dict:=none,data:=.set #[] 0 (.fresh 0 0 led) }:=by exact zZ _ rfl
   have hT:Shared.TypeIs { s with heap:=s.heap.push { cls:=.type "set",dict:=none,data:=.set #[] 0 (.fresh 0 0 led) } } (.ref s.heap.objs.size) "set":=⟨_,hS,rfl⟩
   have hli:=F.called_set.init.lookup
   have hbi:=F.called_set.init.bind (.ref s.heap.objs.size)
   repeat (any_goals (first|assumption|wp_step))
   refine jU (codeAny_call_builtin (R:=wants (fun r s2=>r=.none/\∃h' tk,s2={ s with heap:=h',toks:=tk }/\h'.SetOf (intKind prog w) s.heap.objs.size (fun k'=>(firstMet (fun i=>ns.getD i 0) its.size).any (· == k')) (firstMet (fun i=>ns.getD i 0) its.size).length /\
     (∀b o,b < s.heap.objs.size->s.heap.get? b=some o->h'.get? b=some o)) E) F.called_set.init.plain F.entry_set_init (check_set_init_1 hT ?_)) fun r2 s2 hr2=>?_
   ·obtain⟨ol,hol,hcl,nl,hdl⟩:=hl
    obtain⟨ocls,odict,odata,oslots⟩:=ol
    simp only at hcl hdl
    subst hcl hdl
    have hol':(s.heap.push { cls:=.type "set",dict:=none,data:=.set #[] 0 (.fresh 0 0 led) }).get? l=some { cls:=.type "tuple",dict:=odict,data:=.seq its nl,slots:=oslots }:=zW _ hol
    have hsls:=F.sub_tuple_set
    have hslf:=F.sub_tuple_frozenset
    have hne:(Value.type "tuple" == Value.type "dict")=false:=by decide
    have hl1:(s.heap.push { cls:=.type "set",dict:=none,data:=.set #[] 0 (.fresh 0 0 led) }).IsTuple l its:=⟨_,hol',rfl,nl,rfl⟩
    unfold Builtin.«set.__init__» noKeywords Builtin.Frozenset.updateFrom
    generalize hPI:pyIter=PI
    wp_walk
    subst hPI
    refine xV hl1 (zX (wpAny_runValue ?_))
    have hlS:l < s.heap.objs.size:=yA hol
    have hh3:A.in1.in1.in1.handled=none:=by simp[hh]
    have hneI:l≠(s.heap.push { cls:=.type "set",dict:=none,data:=.set #[] 0 (.fresh 0 0 led) }).objs.size:=by rw[xN];exact yU (jQ hlS)
    have hSf:s.heap.objs.size∉[(s.heap.push { cls:=.type "set",dict:=none,data:=.set #[] 0 (.fresh 0 0 led) }).objs.size,l]:=by
     rw[xN];simp only[zT,yH,xX,not_or]
     exact⟨yU (kP _),jL hlS⟩
    have hval:∀ (i:Nat) (v:Value),its[i]?=some v->∃t,v=.int ((fun i=>ns.getD i 0) i) t:=fun i v hv=>IntsAre.int_at hi i v (by rw[Array.getElem?_toList];exact hv)
    refine codeAny_set_update_loopS ((Walks.tuple hh3 _ l hneI its).toS) s.heap.objs.size hSf (fun i=>ns.getD i 0) hval hb (its.size - 0) 0 _ (by omega) (xY _) ⟨⟨_,zZ _ rfl,rfl,rfl⟩,?ht⟩ ?hS0 ?hR
    case ht=>exact⟨_,zW _ hol',rfl,nl,rfl⟩
    case hS0 =>
     have hget:((s.heap.push { cls:=.type "set",dict:=none,data:=.set #[] 0 (.fresh 0 0 led) }).push { cls:=.type "tuple_iterator",data:=.fields #[.ref l,.int 0 0] }).get? s.heap.objs.size=some { cls:=.type "set",dict:=none,data:=.set #[] 0 (.fresh 0 0 led) }:=by exact zW _ hS
     exact SetOf_congr ((setObjOf_fresh (knd:=intKind prog w) led).setOf hget (by unfold scanBound;omega)) (fun _=>rfl) rfl
    case hR =>
     intro s' hm hS'
     obtain⟨h',g',d',tk',os'⟩:=s'
     have eg:g'=s.gens:=hm.gens
     have ed:d'=s.drawn:=hm.drawn
     have eo:os'=s.os:=hm.os
     subst eg ed eo
     show wpAny _ _ _ _ _ _
     refine zY ?_
     show wpAny _ _ (ret Value.none) _ _ _
     refine zY ⟨rfl,h',tk',rfl,hS',fun b o hb' e=>?_⟩
     refine hm.heap b o ?_ (zW _ (zW _ e))
     simp only[zT,yH,xX,not_or]
     exact⟨yU hb',by rw[xN];exact yU (jQ hb')⟩
   ·cases r2 with
    | error e=>exact hr2
    | ok fl2 =>
     cases fl2 with
     | ret r =>
      obtain⟨rfl,h',tk,rfl,hS',hk'⟩:=hr2
      repeat (any_goals (first|assumption|wp_step))
      exact h _ _ hS' hk'
     | _=>exact hr2.elim
  | _=>exact hr.elim
end
end En
namespace Dl
open PySem L2 PySem.Spec PyProof.Rows
def many(ns:List Int):Nat:=(firstMet (fun i=>ns.getD i 0) ns.length).length
section
theorem BY(hc:X.calm=true):dy X (.type "set") (fun xs H Q=>∃ (a:Addr) (ns:List Int),xs=[.ref a]/\gw X.K H a (ns.map V.int)/\ns.length+1 < scanBound/\∀q S,H q=none->Q (.ref q) (upd H q (.set S (many ns)))):=by
 intro pins s σ H xs us Q I r h
 obtain⟨a,ns,rfl,hq,hb,q⟩:=h
 obtain⟨u,rfl,rx⟩:=vals1 r
 cases rx
 obtain⟨its,rv,pl,hz⟩:=I.tuple hq
 have hi:IntsAre its.toArray.toList ns:=intsAre_of rv
 have hlen:its.toArray.size=ns.length:=by have:=rv.length;simpa using this.symm
 refine En.call_setT (I.ok.hd hc) (show s.heap.IsTuple a its.toArray from pl) hi (by rw[hlen];exact hb) fun h' tk hS hk=>?_
 rw[hlen] at hS
 exact⟨.ref s.heap.objs.size,_,I.laid (t':=tk) (fun b o e=>hk b o (yA e) e) (yP _) (show ef X.prog X.w _ h' _ (.set _ (many ns)) from hS),rfl,q _ _ I.fresh⟩
theorem BW:dy X (.builtin "len") (fun xs H Q=>∃ (a:Addr) (S:Int->Bool) (n:Nat),xs=[.ref a]/\H a=some (.set S n)/\Q (.int n) H):=by
 intro pins s σ H xs us Q I r h
 obtain⟨a,S,n,rfl,hq,q⟩:=h
 obtain⟨u,rfl,rx⟩:=vals1 r
 cases rx
 obtain⟨o,es,ep,t,ho,hex,hd,hel,hmem,hlt,hf,hn⟩:=(show s.heap.SetOf (intKind X.prog X.w) a S n from I.hok a _ hq)
 have hfit:((es.size:Nat):Int) < 2 ^ 63:=by unfold scanBound at hlt;omega
 refine call_len_set ho hex hd hf hfit ⟨.int n,H,I.tok _,⟨s.toks+1,by rw[hn]⟩,q⟩
def jw:D->Option D:=fun d=>(oq d).bind fun ns=>if ns.length+1 < scanBound then some (.int (many ns)) else none
theorem BZ(hc:X.calm=true)(B:nO X "len" (.builtin "len"))(C:nO X "set" (.type "set"))(h:DE X e f)(he:starEach [e] X.env=(false,eval e X.env)::starEach [] X.env:=by rfl) :
  DE X (.Call (.Name "len" p) [.Call (.Name "set" p') [e] [] pos'] [] pos) (f1 jw f) :=
 aZ (ml BW B.gl B.mg B.bt (cB (mZ (BY hc) C.gl C.mg C.bt (cB h gg he) (by decide) (by decide) he rfl) gg) (by decide) (by decide) rfl rfl) fun σ H Q ⟨HF,ρ,d,sm,eo,hf,q⟩=>by
  obtain⟨x,hx,hf⟩:=bs hf
  obtain⟨ns,h1,hf⟩:=bs hf
  split at hf
  ·rename_i hb
   cases hf
   refine⟨HF,ρ,x,sm,eo,hx,fun v1 H1 HF1 g1 r1=>?_⟩
   rw[sj h1] at r1
   simp only[Rep] at r1
   obtain⟨a,vs,rfl,hs,rr⟩:=r1
   have key:∀ {ns:List Int}{ws:List V},ak X.K HF1 (ns.map PyData.int) ws->ws=ns.map V.int:=fun {ns}=>by
    induction ns with
    | nil=>exact fun h=>h.nil_inv
    | cons n ns ih =>
     intro ws h
     obtain⟨v,r,rfl,a,b⟩:=h.cons_inv
     simp only[Rep] at a
     rw[a,ih b]
     rfl
   have:=key rr
   subst this
   refine⟨a,ns,rfl,aD g1.fh hs,hb,fun b S hb'=>⟨b,S,_,rfl,aE,q _ _ HF1 (g1.trans (.own g1.fh hb')) (by simp[Rep])⟩⟩
  ·cases hf
end
theorem je(val:Nat->Int):∀i,(firstMet val i).length=i↔((List.range i).map val).Nodup
 | 0=>by simp[firstMet]
 | i+1=>by
  have hle:=firstMet_length_le val i
  rw[firstMet_succ,step_length,vQ,jD,wV]
  have ha:=firstMet_any val i (val i)
  have ih:=je val i
  constructor
  ·intro h
   by_cases hin:(firstMet val i).any (· == val i)=true
   ·rw[yO hin] at h;omega
   ·rw[yQ hin] at h
    refine⟨ih.mp (by omega),by simp,fun a hm b hb z=>?_⟩
    have hb':b=val i:=by simpa using hb
    subst z hb'
    rw[ha] at hin
    exact hin (List.any_eq_true.mpr ⟨_,hm,by simp⟩)
  ·rintro⟨h1,_,h3⟩
   rw[yQ ?_]
   ·rw[ih.mpr h1]
   ·rw[ha]
    intro hin
    obtain⟨x,hx,he⟩:=List.any_eq_true.mp hin
    have he':x=val i:=by simpa using he
    exact h3 x hx (val i) (by simp) he'
theorem y6(ns:List Int):many ns=ns.length↔ns.Nodup:=by
 unfold many
 rw[je]
 have:(List.range ns.length).map (fun i=>ns.getD i 0)=ns:=ja ns 0
 rw[this]
section
theorem wk{K:W.Frag}(h:eQ K r g)(h':eQ K r' g'):eQ K (fun x y H Q=>r x y H Q\/r' x y H Q) (fun x y=>(g x y).or (g' x y)):=by
 intro HF H x y v1 v2 d Q sm r1 r2 hg q
 cases e:g x y with
 | some d' =>
  have hg:(g x y).or (g' x y)=some d:=hg
  rw[e] at hg
  cases hg
  exact .inl (h HF H x y v1 v2 d Q sm r1 r2 e q)
 | none =>
  have hg:(g x y).or (g' x y)=some d:=hg
  rw[e] at hg
  exact .inr (h' HF H x y v1 v2 d Q sm r1 r2 hg q)
theorem Bu{K:W.Frag}:eQ K (De K) (fun x y=>(pQ x y).map PyData.list):=by
 intro HF H x y v1 v2 d Q sm r1 r2 hg q
 obtain⟨zs,hg',rfl⟩:=af hg
 clear hg
 cases x<;>cases y<;>simp only[pQ] at hg'<;>try cases hg'
 obtain⟨rfl,hz⟩:=dM hg'
 simp only[Rep] at r1 r2
 obtain⟨a,vs,rfl,ha,ra⟩:=r1
 obtain⟨b,us,rfl,hb,rb⟩:=r2
 refine⟨a,b,vs,us,rfl,rfl,sm.seq ha,sm.seq hb,by rw[ra.length,rb.length,<- zQ];exact hz,fun p hp=>q _ _ _ (.new sm hp) ?_⟩
 simp only[Rep]
 exact⟨p,_,rfl,.inl (.inl aE),(ra.append rb).mono (cJ (sm.free hp))⟩
def aR:D->D->Option D:=fun x y=>((tR (fun _ _=>True) fun i j=>.int (i+j)) x y).or ((GY x y).or ((pQ x y).map PyData.list))
theorem Bk.add(C:Bk X N sc k)(ha:DE X a fa)(hb:DE X b fb):DE X (.BinOp a .Add b pos) (f2 aR fa fb):=uL (Jy.or (BB.or v5)) (wk CA (wk GV Bu)) ha hb
def dv:D->D->Option D:=tR (fun _ _=>True) fun i j=>.int (i - j)
theorem Bk.sub(C:Bk X N sc k)(ha:DE X a fa)(hb:DE X b fb):DE X (.BinOp a .Sub b pos) (f2 dv fa fb):=uL Il CA ha hb
def ej:D->D->Option D:=fun x y=>((tR p9 fun i j=>.int (i * j)) x y).or (uV x y)
theorem Bk.mul(C:Bk X N sc k)(ha:DE X a fa)(hb:DE X b fb):DE X (.BinOp a .Mult b pos) (f2 ej fa fb):=uL (Ig.or Hf) (wk DN Do) ha hb
def lK:D->D->Option D:=tR FF fun i j=>.int (i / j)
theorem Bk.div(C:Bk X N sc k)(ha:DE X a fa)(hb:DE X b fb):DE X (.BinOp a .FloorDiv b pos) (f2 lK fa fb):=uL G8 DN ha hb
def j8:D->D->Option D:=tR (fun _ j=>0 < j) fun i j=>.int (i % j)
theorem Bk.mod(C:Bk X N sc k)(ha:DE X a fa)(hb:DE X b fb):DE X (.BinOp a .Mod b pos) (f2 j8 fa fb):=uL IC DN ha hb
def Cf:D->D->Option D:=tR (fun _ _=>True) fun i j=>.bool (decide (i < j))
def AX:D->D->Option D:=tR (fun _ _=>True) fun i j=>.bool (decide (i<=j))
def Cg:D->D->Option D:=tR (fun _ _=>True) fun i j=>.bool (decide (j < i))
def bC:D->D->Option D:=fun x y=>(JD x y).map PyData.bool
def j6:D->D->Option D:=fun x y=>(Kx x y).map PyData.bool
theorem Bk.u64(C:Bk X N sc k):X.A.units+64 < cLine:=C.room.units
theorem Bk.lt(C:Bk X N sc k)(ha:DE X a fa)(hb:DE X b fb):DE X (.Compare a [.Lt] [b] pos) (f2 Cf fa fb):=lq EC i4 ha hb (dg _)
theorem Bk.le(C:Bk X N sc k)(ha:DE X a fa)(hb:DE X b fb):DE X (.Compare a [.LtE] [b] pos) (f2 AX fa fb):=lq Cp i4 ha hb (dg _)
theorem Bk.gt(C:Bk X N sc k)(ha:DE X a fa)(hb:DE X b fb):DE X (.Compare a [.Gt] [b] pos) (f2 Cg fa fb):=lq Hz i4 ha hb (dg _)
theorem Bk.eq(C:Bk X N sc k)(ha:DE X a fa)(hb:DE X b fb):DE X (.Compare a [.Eq] [b] pos) (f2 bC fa fb):=lq (Eh C.u64) tP ha hb (dg _)
theorem Bk.ne(C:Bk X N sc k)(ha:DE X a fa)(hb:DE X b fb):DE X (.Compare a [.NotEq] [b] pos) (f2 j6 fa fb):=lq (EY C.u64) tP ha hb (dg _)
theorem Bk.tlt(C:Bk X N sc k)(ha:DE X a fa)(hb:DE X b fb):DT X (.Compare a [.Lt] [b] pos) (fB (f2 Cf fa fb)):=k4 EC i4 ha hb (dg _)
theorem Bk.tle(C:Bk X N sc k)(ha:DE X a fa)(hb:DE X b fb):DT X (.Compare a [.LtE] [b] pos) (fB (f2 AX fa fb)):=k4 Cp i4 ha hb (dg _)
theorem Bk.tgt(C:Bk X N sc k)(ha:DE X a fa)(hb:DE X b fb):DT X (.Compare a [.Gt] [b] pos) (fB (f2 Cg fa fb)):=k4 Hz i4 ha hb (dg _)
theorem Bk.teq(C:Bk X N sc k)(ha:DE X a fa)(hb:DE X b fb):DT X (.Compare a [.Eq] [b] pos) (fB (f2 bC fa fb)):=k4 (Eh C.u64) tP ha hb (dg _)
theorem Bk.tne(C:Bk X N sc k)(ha:DE X a fa)(hb:DE X b fb):DT X (.Compare a [.NotEq] [b] pos) (fB (f2 j6 fa fb)):=k4 (EY C.u64) tP ha hb (dg _)
def gG:D->Option Int->Option Int->Option D|.tuple ds,lo,hi=>some (.tuple (cut ds lo hi))|.list ds,lo,hi=>some (.list (cut ds lo hi))|_,_,_=>none
theorem Bk.cut(C:Bk X N sc k){lo:Option Expr}{fl:Env->Option (Option Int)}(ha:DE X a fa)(hl:DO X lo fl)(hh:DO X hi fh):DE X (.Subscript a (.Slice lo hi none p2) pos) (mT gG fa fl fh):=aZ (DR (Ki.or Fo) ha hl hh) fun σ H Q ⟨HF,ρ,d,sm,eo,hf,q⟩=>by
 obtain⟨x,hx,hf⟩:=bs hf
 obtain⟨l,hl,hf⟩:=bs hf
 obtain⟨u,hu,hf⟩:=bs hf
 refine⟨HF,ρ,x,sm,eo,hx,fun v1 H1 HF1 g1 r1=>⟨HF1,ρ,l,g1.fh,eo.mono g1.ff,hl,fun H2 HF2 g2=>⟨HF2,ρ,u,g2.fh,eo.mono (g1.ff.trans g2.ff),hu,fun H3 HF3 g3=>?_⟩⟩⟩
 have G:=(g1.trans g2).trans g3
 have r3:=r1.mono (g2.ff.trans g3.ff)
 cases x<;>try cases hf
 ·simp only[Rep] at r3
  obtain⟨b,vs,rfl,hs,rr⟩:=r3
  refine .inr ⟨b,vs,rfl,G.fh.seq hs,fun p hp=>q _ _ _ (G.trans (.new G.fh hp)) ?_⟩
  simp only[Rep]
  exact⟨p,_,rfl,.inl (.inl aE),(oU rr l u).mono (cJ (G.fh.free hp))⟩
 ·simp only[Rep] at r3
  obtain⟨b,vs,rfl,hs,rr⟩:=r3
  refine .inl ⟨b,vs,rfl,aD G.fh hs,fun e=>q _ H3 HF3 G ?_,fun p hp=>q _ _ _ (G.trans (.new G.fh hp)) (dI (G.fh.free hp) (oU rr l u))⟩
  simp only[Rep]
  refine⟨b,vs,rfl,hs,?_⟩
  have:=oU rr l u
  rw[e] at this
  exact this
def KF:D->Option D|.int i=>some (.int (-i))|_=>none
theorem Bk.neg(C:Bk X N sc k)(ha:DE X a fa):DE X (.UnaryOp .USub a pos) (f1 KF fa):=aZ (LH Jf ha) fun σ H Q ⟨HF,ρ,d,sm,eo,hf,q⟩=>by
 obtain⟨x,hx,hf⟩:=bs hf
 refine⟨HF,ρ,x,sm,eo,hx,fun v1 H1 HF1 g1 r1=>?_⟩
 cases x<;>try cases hf
 exact⟨_,by simpa only[Rep] using r1,q _ H1 HF1 g1 (by simp[Rep])⟩
theorem EO:bootBuiltins "len"=some (.builtin "len"):=by decide +kernel
theorem p6:bootBuiltins "isinstance"=some (.builtin "isinstance"):=by decide +kernel
theorem E5:bootBuiltins "tuple"=some (.type "tuple"):=by decide +kernel
theorem FH:bootBuiltins "list"=some (.type "list"):=by decide +kernel
theorem vf:bootBuiltins "range"=some (.type "range"):=by decide +kernel
theorem JU:bootBuiltins "all"=some (.builtin "all"):=by decide +kernel
theorem IY:bootBuiltins "set"=some (.type "set"):=by decide +kernel
theorem jx:bootBuiltins "sorted"=some (.builtin "sorted"):=by decide +kernel
theorem tL:bootBuiltins "enumerate"=some (.type "enumerate"):=by decide +kernel
theorem IL:bootBuiltins "zip"=some (.type "zip"):=by decide +kernel
end
abbrev bT(f:Env->Option (List D)):Env->Option D:=fun ρ=>(f ρ).map PyData.list
abbrev aK:List D->Option D:=fun ds=>(ck ds).map PyData.tuple
section
theorem Bk.locl(C:Bk X N sc k)(h:decide (sc.names.lookup x=some .local)=true):X.env.scope.names.lookup x=some .local:=by
 rcases C.tb x _ (yT h) with q|⟨q,_⟩
 ·exact q
 ·cases q
def isStar:Expr->Bool|.Starred ..=>true|_=>false
theorem bb{env:PySem.Env}(h:isStar e=false):starEach (e::es) env=(false,eval e env)::starEach es env:=by
 cases e<;>first|rfl|cases h
theorem Jw(he:DE X e f)(hs:DA X es g)(h:isStar e=false:=by rfl):DA X (e::es) (aa f g):=Aq he hs (bb h)
theorem pO{env:PySem.Env}:swapsWith (.ListComp elt gens scope pos) (some (.Name x py)) line env=pure (env.blockKind == .function&&env.kindOf x == some .local && py.line == pos.line
     &&!(scope.names.any fun (n,k)=>n == x&&(k == .local || k == .cell))):=rfl
theorem Hr{env:PySem.Env}(h:env.scope.kind=.function):env.blockKind=.function:=by unfold PySem.Env.blockKind;rw[h];rfl
theorem Bk.swap(C:Bk X N sc k)(h:decide (sc.names.lookup x=some .local)=true)(h2:(py.line == pos.line&&!(scope.names.any fun (n,k)=>n == x&&(k == .local || k == .cell)))=true) :
  swapsWith (.ListComp elt gens scope pos) (some (.Name x py)) line X.env=pure true:=by
 rw[pO,Hr C.kd,show X.env.kindOf x=some .local from C.locl h]
 rw[Bool.and_assoc,h2]
 rfl
theorem Bk.noswap(C:Bk X N sc k)(h:decide (sc.names.lookup x=some .cell)=true) :
  swapsWith (.ListComp elt gens scope pos) (some (.Name x py)) line X.env=pure false:=by
 have q:X.env.kindOf x=some .cell:=by
  rcases C.tb x _ (yT h) with q|⟨q,_⟩
  ·exact q
  ·cases q
 rw[pO,q,Hr C.kd]
 rfl
end
section
variable {K:W.Frag}
structure iA(K:W.Frag)(x:Str)(st:Stmt)(ps:List Str):Prop where
 ex:∃ (f:Addr) (fd:FuncData),W.nsIn K mainGlobals x=some (some (.ref f))/\FN K x x st f fd/\Binds K fd ps []
structure Fv(K:W.Frag)(mg:Str->Option Value)(x:Str)(st:Stmt)(ps:List Str):Prop where
 ex:∃ (f:Addr) (fd:FuncData),mg x=some (.ref f)/\FN K x x st f fd/\Binds K fd ps []
theorem iA.mg{h:Heap}{mg:Str->Option Value}{st:Stmt}(D:iA K x st ps)(X:K.In h)(G:h.Ns mainGlobals mg):Fv K mg x st ps:=by
 obtain⟨f,fd,a,b,c⟩:=D.ex
 exact⟨f,fd,W.mg_of X G a,b,c⟩
def fv(st:Stmt)(ps:List Str):Prop:=∀ (x qual:Str) (kV doc pm:Value) (an:Option Addr) (cdv ct:Value) (us:List Value),us.length=ps.length->bindArgs (W.fnOf x qual (fP st) (bY st) (aI st) .none kV doc pm an cdv ct) ⟨us,[]⟩=pure (ps.zip us)
theorem Lr{st:Stmt}{kV:Value}(hb:fv st ps)(a:W.nsIn K mainGlobals x=some (some (.ref f)))(l:K.lookup f=some ⟨oc,od,.func (W.fnOf x x (fP st) (bY st) (aI st) .none kV doc pm an cdv ct),osl⟩)
  (c:W.codeIn K cdv x=true) (k:W.keepIn K (.ref f)=true):iA K x st ps:=⟨f,_,a,sZ (st:=st) l c k,(sZ (st:=st) l c k).binds fun kV doc pm an cdv ct us h=>hb _ _ kV doc pm an cdv ct us h⟩
structure nC(K:W.Frag)(x:Str)(st:Stmt)(ps:List Str):Prop where
 ex:∃ (f:Addr) (fd:FuncData) (c P:Addr),W.nsIn K mainGlobals x=some (some (.ref f))/\FN K x x st f fd/\Binds K fd ps []/\fd.code=.ref c/\W.codeHdIn K c P=true
structure JZ(K:W.Frag)(mg:Str->Option Value)(x:Str)(st:Stmt)(ps:List Str):Prop where
 ex:∃ (f:Addr) (fd:FuncData) (c P:Addr),mg x=some (.ref f)/\FN K x x st f fd/\Binds K fd ps []/\fd.code=.ref c/\W.codeHdIn K c P=true
theorem nC.mg{h:Heap}{mg:Str->Option Value}{st:Stmt}(D:nC K x st ps)(X:K.In h)(G:h.Ns mainGlobals mg):JZ K mg x st ps:=by
 obtain⟨f,fd,c,P,a,b⟩:=D.ex
 exact⟨f,fd,c,P,W.mg_of X G a,b⟩
def Ds(K:W.Frag)(c:Addr):Addr:=match K.lookup c with
 | some ⟨_,_,.fields vs,_⟩=>(match (vs[11]?:Option Value) with|some (.ref P)=>P|_=>0)
 | _=>0
theorem K2{st:Stmt}{kV:Value}(hb:fv st ps)(a:W.nsIn K mainGlobals x=some (some (.ref f)))(l:K.lookup f=some ⟨oc,od,.func (W.fnOf x x (fP st) (bY st) (aI st) .none kV doc pm an (.ref c) ct),osl⟩)
  (cd:W.codeIn K (.ref c) x=true) (k:W.keepIn K (.ref f)=true) (hh:W.codeHdIn K c (Ds K c)=true):nC K x st ps:=⟨f,_,c,Ds K c,a,sZ (st:=st) l cd k,(sZ (st:=st) l cd k).binds fun kV doc pm an cdv ct us h=>hb _ _ kV doc pm an cdv ct us h,rfl,hh⟩
theorem Ja{K:W.Frag}(h:(da.all fun x=>match W.nsIn K mainGlobals x with|some none=>true|_=>false)=true):∀x∈da,W.nsIn K mainGlobals x=some none:=by
 intro x hx
 have:=List.all_eq_true.mp h x hx
 split at this
 ·assumption
 ·cases this
theorem xj{K:W.Frag}{H:Hp}{a:Addr}{ns:List Int}{m:List D->Option D}(hS:eK K H a (ns.map V.int))(hT:fg K H)(h:m [.list (ns.map PyData.int)]=some (.bool true)){X:_}:LR K 1 m [.ref a] H (fun v _=>v=.bl true) X:=by
 refine⟨H,[.list (ns.map PyData.int)],.bool true,.refl _,hT,ak.cons ?_ ak.nil,rfl,h,fun v H' HF' G r=>by simpa only[Rep] using r⟩
 simp only[Rep]
 refine⟨a,_,rfl,hS,?_⟩
 clear h hS hT
 induction ns with
 | nil=>exact ak.nil
 | cons n ns ih=>exact ak.cons (by simp[Rep]) ih
end
theorem Mf(h:isStar e=false)(he:DE X e f)(hs:DA X es g):DA X (e::es) (aa f g):=Jw he hs h
section
def KS:ar->Option Out:=fun _=>none
theorem KQ{st:Stmt}:DS X HF₀ H₀ st KS:=fun pins s σ H E I ⟨HF,ρ,o,S,hg,q⟩=>by cases hg
def gZ(f:Env->Option D):ar->Option Out:=fun ρ=>(f (aS ρ)).map fun _=>.nx ρ
theorem Fk(hs:swapsWith e none pos.line X.env=pure false)(h:DE X e f):DS X HF₀ H₀ (.Expr e pos) (gZ f):=cf (n9 h hs) fun E σ H ⟨HF,ρ,o,S,hg,q⟩=>by
 obtain⟨d,h,rfl⟩:=af hg
 exact⟨H,aS ρ,d,.refl _,S.all,h,fun v H' HF' G r=>q σ H' HF (S.step G.hh) (.refl _)⟩
def Gg(t:Env->Option Bool)(gb:ar->Option Out):Nat->ar->Option Out
 | 0,_=>none
 | n+1,ρ=>(t (aS ρ)).bind fun b=>if b=true then (gb ρ).bind fun|.nx ρ'=>Gg t gb n ρ'|.rt d=>some (.rt d) else some (.nx ρ)
theorem DP(n:Nat)(hp:PassesOwn (model X.prog X.w) X.A X.env X.xe)(hc:DT X c t)(hb:Ce X HF₀ H₀ body gb):DS X HF₀ H₀ (.While c body [] pos) (Gg t gb n) :=
 cf (EI hp hc hb) fun E σ H ⟨HF,ρ,o,S,hg,q⟩=>by
  refine⟨fun m σ' H'=>∃HF' ρ',fE X.K HF₀ H₀ HF' H' ρ' σ'/\aP HF HF'/\Gg t gb m ρ'=some o,⟨n,HF,ρ,S,.refl _,hg⟩,?_⟩
  rintro m σ' H' ⟨HF',ρ',S',s',hf⟩
  cases m with
  | zero=>cases hf
  | succ m =>
   unfold Gg at hf
   obtain⟨b,hb,hf⟩:=bs hf
   refine⟨H',aS ρ',b,.refl _,S'.all,hb,fun H1 HF1 G=>?_⟩
   cases b with
   | false =>
    rw[yQ xC] at hf ⊢
    cases hf
    exact q σ' H1 HF' (S'.step G.hh) s'
   | true =>
    rw[yO rfl] at hf ⊢
    obtain⟨o1,h2,hf⟩:=bs hf
    refine⟨fun σ2 H3=>∃HF3 ρ3,fE X.K HF₀ H₀ HF3 H3 ρ3 σ2/\aP HF HF3/\Gg t gb m ρ3=some o,fun σ2 H3 ⟨HF3,ρ3,a1,a2,a3⟩=>⟨m,kP _,HF3,ρ3,a1,a2,a3⟩,HF',ρ',o1,S'.step G.hh,h2,?_⟩
    cases o1 with
    | nx ρ2=>exact fun σ4 H4 HF4 S4 s4=>⟨HF4,ρ2,S4,s'.trans s4,hf⟩
    | rt d=>cases hf;exact q
def qb:List D->Option D
 | [.int a,.int b]=>some (.int (min a b))
 | [.int a,.int b,.int c]=>some (.int (min (min a b) c))
 | _=>none
theorem CP(hc:X.calm=true):dy X (.builtin "min") (fun xs H Q=>(∃a b:Int,xs=[.int a,.int b]/\Q (.int (min a b)) H)\/(∃a b c:Int,xs=[.int a,.int b,.int c]/\Q (.int (min (min a b) c)) H)):=by
 intro pins s σ H xs us Q I r h
 have hh:X.A.handled=none:=I.ok.hd hc
 rcases h with ⟨a,b,rfl,q⟩|⟨a,b,c,rfl,q⟩
 ·cases r with
  | cons r1 r =>
   cases r with
   | cons r2 r =>
    cases r
    obtain⟨t,rfl⟩:=r1
    obtain⟨u,rfl⟩:=r2
    refine min_two_ints hh fun h' tk kp=>⟨.int (min a b),H,I.kept (t':=tk) kp,?_,q⟩
    by_cases h:b < a
    ·rw[yO h,show min a b=b by omega];exact⟨_,rfl⟩
    ·rw[yQ h,show min a b=a by omega];exact⟨_,rfl⟩
 ·cases r with
  | cons r1 r =>
   cases r with
   | cons r2 r =>
    cases r with
    | cons r3 r =>
     cases r
     obtain⟨t,rfl⟩:=r1
     obtain⟨u,rfl⟩:=r2
     obtain⟨x,rfl⟩:=r3
     refine min_three_ints hh fun h' tk kp=>⟨.int (min (min a b) c),H,I.kept (t':=tk) kp,?_,q⟩
     by_cases h:b < a
     ·rw[yO h]
      by_cases h2:c < b
      ·rw[yO h2,show min (min a b) c=c by omega];exact⟨_,rfl⟩
      ·rw[yQ h2,show min (min a b) c=b by omega];exact⟨_,rfl⟩
     ·rw[yQ h]
      by_cases h2:c < a
      ·rw[yO h2,show min (min a b) c=c by omega];exact⟨_,rfl⟩
      ·rw[yQ h2,show min (min a b) c=a by omega];exact⟨_,rfl⟩
theorem oP{K:W.Frag}(r:Rep K H d v):∀ {ds:List D}{vs:List V}(j:Nat),ak K H ds vs->ak K H (ds.set j d) (vs.set j v)
 | [],vs,j,h=>by rw[h.nil_inv];exact ak.nil
 | x::ds,vs,j,h=>by
  obtain⟨u,us,rfl,a,b⟩:=h.cons_inv
  cases j with
  | zero=>exact ak.cons r b
  | succ j=>exact ak.cons a (oP r j b)
def iW(i:Nat)(fz:List Nat)(fk f:Env->Option D):ar->Option Out:=fun ρ=>(fO fz f ρ).bind fun p=>(fk (aS p.2)).bind fun kd=>match kd with
 | .int k=>mi i (fun ds=>(wa ds.length k).map fun j=>ds.set j p.1) p.2
 | _=>none
theorem E4(i:Nat)(fz:List Nat)(hN:X.N[i]?=some x)(hv:Fn X.env.scope x)(hk:DE X e fk)(h:DE X e2 f)(hd:(x == ("__debug__":Str))=false:=by decide)(hcd:(x == ("__classdict__":Str))=false:=by decide)
  (ha:∀v,assign (.Subscript (.Name x px) e spos) X.env v=(do
   let ov <- holding [v] (eval (.Name x px) X.env)
   let iv <- holding [v,ov] (eval e X.env)
   standAt spos
   holding [v,ov,iv] (setItem ov iv v)
   release [v,ov,iv] []):=by intro _;rfl)
  (hs:swapsWithSole [.Subscript (.Name x px) e spos] e2 pos.line X.env=pure false:=by rfl) (hw:swappedStores [.Subscript (.Name x px) e spos] e2 X.env=pure none:=by rfl)
  (h1:(assignEach [.Subscript (.Name x px) e spos] X.env).map (·.2)=[assign (.Subscript (.Name x px) e spos) X.env]:=by rfl):DS X HF₀ H₀ (.Assign [.Subscript (.Name x px) e spos] e2 pos) (iW i fz fk f) :=
 cf (xr h (Ci (mO hN hv hd hcd) hk set_list ha) hs hw h1) fun E σ H ⟨HF,ρ,o,S,hg,q⟩=>by
  obtain⟨⟨d,ρ'⟩,h1,hg⟩:=bs hg
  obtain⟨kd,h2,hg⟩:=bs hg
  cases kd<;>try cases hg
  rename_i k
  obtain⟨ds,es,h3,h4,rfl⟩:=jt hg
  obtain⟨j,hj,rfl⟩:=af h4
  refine mW S h1 fun v H1 HF1 s1 S1 s2 r=>?_
  obtain⟨a,vs,e1,e2,e3,e5,e4⟩:=S1.own i ds h3
  refine⟨.ref a,e1,H1,aS ρ',.int k,.refl _,S1.all,h2,fun kv H2 HF2 G rk=>?_⟩
  simp only[Rep] at rk
  have S2:=S1.step G.hh
  obtain⟨a',vs',f1,f2,f3,f5,f4⟩:=S2.own i ds h3
  rw[e1] at f1;cases f1
  exact⟨a,vs',k,j,rfl,rk,f2,by rw[f4.length];exact hj,q σ _ HF1 (S2.mut h3 e1 f2 (oP r j f4)) s1⟩
end
section
def LP:D->Bool|.none=>true|_=>false
theorem n0{K:W.Frag}(r:Rep K HF d v):decide (v=.non)=LP d:=by
 cases d<;>simp only[Rep] at r<;>first
  | (subst r;rfl)
  | (obtain⟨a,vs,rfl,_⟩:=r;rfl)
  | exact r.elim
def nS:D->D->Option D:=fun x y=>if LP y=true then some (.bool (LP x)) else none
def nh:D->D->Option D:=fun x y=>if LP y=true then some (.bool (!LP x)) else none
theorem Ao{K:W.Frag}:eQ K (fun x y H Q=>y=.non/\Q (.bl (decide (x=.non))) H) nS:=by
 intro HF H x y v1 v2 d Q sm r1 r2 hg q
 unfold nS at hg
 split at hg
 ·rename_i h
  cases hg
  have h2:=n0 r2
  rw[h,zM] at h2
  refine⟨h2,?_⟩
  rw[n0 r1]
  exact q _ H HF (.refl sm) (by simp[Rep])
 ·cases hg
theorem vz{K:W.Frag}:eQ K (fun x y H Q=>y=.non/\Q (.bl (!decide (x=.non))) H) nh:=by
 intro HF H x y v1 v2 d Q sm r1 r2 hg q
 unfold nh at hg
 split at hg
 ·rename_i h
  cases hg
  have h2:=n0 r2
  rw[h,zM] at h2
  refine⟨h2,?_⟩
  rw[n0 r1]
  exact q _ H HF (.refl sm) (by simp[Rep])
 ·cases hg
theorem Bk.is0(C:Bk X N sc k)(ha:DE X a fa)(hb:DE X b fb):DE X (.Compare a [.Is] [b] pos) (f2 nS fa fb):=lq Co Ao ha hb (dg _)
theorem Bk.not0(C:Bk X N sc k)(ha:DE X a fa)(hb:DE X b fb):DE X (.Compare a [.IsNot] [b] pos) (f2 nh fa fb):=lq Ae vz ha hb (dg _)
theorem Bk.tis0(C:Bk X N sc k)(ha:DE X a fa)(hb:DE X b fb):DT X (.Compare a [.Is] [b] pos) (fB (f2 nS fa fb)):=k4 Co Ao ha hb (dg _)
theorem Bk.tnot0(C:Bk X N sc k)(ha:DE X a fa)(hb:DE X b fb):DT X (.Compare a [.IsNot] [b] pos) (fB (f2 nh fa fb)):=k4 Ae vz ha hb (dg _)
theorem JG(hc:X.calm=true)(B:nO X "min" (.builtin "min"))(he:starEach (e::es) X.env=(false,eval e X.env)::starEach es X.env)(hpl:(backTo pos (starEach es X.env)).any (·.1)=false)(ha:DA X (e::es) fs):DE X (.Call (.Name "min" p) (e::es) [] pos) (aX qb fs) :=
 iX (CP hc) (by
  intro HF H ds vs d Q sm r hg q
  unfold qb at hg
  split at hg
  ·cases hg
   obtain⟨v1,r1,rfl,a1,b1⟩:=r.cons_inv
   obtain⟨v2,r2,rfl,a2,b2⟩:=b1.cons_inv
   rw[b2.nil_inv]
   simp only[Rep] at a1 a2
   exact .inl ⟨_,_,by rw[a1,a2],q _ H HF (.refl sm) (by simp[Rep])⟩
  ·cases hg
   obtain⟨v1,r1,rfl,a1,b1⟩:=r.cons_inv
   obtain⟨v2,r2,rfl,a2,b2⟩:=b1.cons_inv
   obtain⟨v3,r3,rfl,a3,b3⟩:=b2.cons_inv
   rw[b3.nil_inv]
   simp only[Rep] at a1 a2 a3
   exact .inr ⟨_,_,_,by rw[a1,a2,a3],q _ H HF (.refl sm) (by simp[Rep])⟩
  ·cases hg) B ha (by decide) (by decide) he hpl
end
section
variable {fl fs:Env->Option (List D)}
def AN(ds:List D):D->Option (List D)
 | .int k=>if uY k=true/\ds.length * k.toNat<=sizeLine then some (List.replicate k.toNat ds).flatten else none
 | _=>none
def nu(fl:Env->Option (List D))(fb:Env->Option D):Env->Option (List D):=fun ρ=>(fl ρ).bind fun ds=>(fb ρ).bind (AN ds)
theorem Kj(ha:DF X a fl)(hb:DE X b fb):DF X (.BinOp a .Mult b pos) (nu fl fb):=aZ (Cm IQ ha hb) fun σ H Q ⟨HF,ρ,d,sm,eo,hf,q⟩=>by
 obtain⟨ds,hx,hf⟩:=bs hf
 obtain⟨y,hy,hg⟩:=bs hf
 refine⟨HF,ρ,ds,sm,eo,hx,fun l vs H1 HF1 g1 h0 hn h1 r1=>⟨HF1,ρ,y,g1.fh,eo.mono g1.ff,hy,fun v2 H2 HF2 g2 r2=>?_⟩⟩
 cases y<;>try cases hg
 rename_i k
 have hg:(if uY k=true/\ds.length * k.toNat<=sizeLine then some (List.replicate k.toNat ds).flatten else none)=some d:=hg
 split at hg
 ·rename_i hz
  cases hg
  simp only[Rep] at r2
  have r1:=r1.mono g2.ff
  have G:=g1.trans g2
  have ok:=hz.1
  simp only[uY,zI,zM] at ok
  exact⟨l,k,vs,rfl,r2,g2.hh _ _ h1,by omega,by omega,by rw[r1.length];exact hz.2,fun p hp=>q p _ _ HF2 (G.trans (.own G.fh hp)) (G.hh.free hp) (G.fh.free hp) aE (ma r1 _)⟩
 ·cases hg
theorem yi(hc:X.calm=true):dy X (.builtin "any") (fun xs H Q=>∃ (a:Addr) (bs:List Bool),xs=[.ref a]/\eK X.K H a (bs.map V.bl)/\Q (.bl (bs.any id)) H):=by
 intro pins s σ H xs us Q I r h
 obtain⟨a,bs,rfl,hq,q⟩:=h
 obtain⟨u,rfl,rx⟩:=vals1 r
 cases rx
 obtain⟨its,rv,pl,hz⟩:=I.list hq
 have hv:=kj rv
 subst hv
 have hh:X.A.in1.handled=none:=I.ok.hd hc
 refine call_any_walk (qN pl.isList ?_)
 obtain⟨o,ho,hcl,n,hd⟩:=pl.isList
 have hne:a≠s.heap.objs.size:=yU (yA ho)
 refine⟨_,_,_,_,_,_,fun i=>bs.getD i false,rfl,Walks.list hh s.heap.objs.size a hne (bs.map Value.bool).toArray,⟨⟨_,zZ _ rfl,rfl,rfl⟩,pl.isList.push _⟩,fun i v s' Q' E' hP hQ=>?_,fun h' tk kp=>?_⟩
 ·have e:v=Value.bool (bs.getD i false):=by
   have hP:(bs.map Value.bool).toArray[i]?=some v:=hP
   rw[vW,zR] at hP
   obtain⟨b,hb,rfl⟩:=af hP
   rw[zJ,hb]
   rfl
  subst e
  exact xZ hQ
 ·refine⟨.bl (bs.any id),H,?_,?_,q⟩
  ·exact I.kept (t':=tk) fun b o' e=>kp b o' (by simp;exact yU (yA e)) (zW _ e)
  ·show Value.bool _=Value.bool _
   have:=range_any bs
   simp only[zK,zF]
   rw[this]
end
section
theorem Ke(hc:X.calm=true)(B:nO X "any" (.builtin "any"))(he:starEach [e] X.env=(false,eval e X.env)::starEach [] X.env)(ha:DA X [e] fs):DE X (.Call (.Name "any" p) [e] [] pos) (aX (fun ds=>(oneOf ds).bind fun d=>match d with
 | .list es=>(boolsOf es).map fun bs=>.bool (bs.any id)
 | _=>none) fs) :=
 iX (yi hc) (by
  intro HF H ds vs d Q sm r hg q
  obtain⟨x,hx,hg⟩:=bs hg
  rw[dP hx] at r
  cases x<;>try cases hg
  obtain⟨bs,hb,rfl⟩:=af hg
  obtain⟨v,r',rfl,a,b⟩:=r.cons_inv
  rw[b.nil_inv]
  simp only[Rep] at a
  obtain⟨p,us,rfl,h,rr⟩:=a
  rw[hC hb] at rr
  have:=lh rr
  subst this
  exact⟨p,bs,rfl,sm.seq h,q _ H HF (.refl sm) (by simp[Rep])⟩) B ha (by decide) (by decide) he rfl
theorem nA(ns:List Int):∀j:Nat,preSum (fun i=>ns.getD i 0) j=(ns.take j).sum
 | 0=>by simp[preSum]
 | j+1=>by
  rw[preSum,nA ns j,wU,List.sum_append]
  congr 1
  rw[zJ]
  cases ns[j]?<;>simp
theorem qw(val:Nat->Int)(B:Int)(h:∀i,-B<=val i/\val i<=B):∀j:Nat,-(B * j)<=preSum val j/\preSum val j<=B * j
 | 0=>by simp[preSum]
 | j+1=>by
  have ih:=qw val B h j
  have:=h j
  rw[preSum]
  have e:B * ((j+1:Nat):Int)=B * (j:Int)+B:=by rw[Int.natCast_add,Int.mul_add];simp
  rw[e]
  omega
def JA(ns:List Int):Bool:=decide (ns.length<=1000)&&ns.all fun n=>decide (-1000000<=n)&&decide (n<=1000000)
theorem Ic(h:JA ns=true):ns.length<=1000/\∀i,-1000000<=ns.getD i 0/\ns.getD i 0<=1000000:=by
 unfold JA at h
 rw[zI,zM,xJ] at h
 refine⟨h.1,fun i=>?_⟩
 rw[zJ]
 cases e:ns[i]? with
 | none=>simp
 | some n =>
  have:=h.2 n (qE e)
  simpa using this
theorem ow{ns:List Int}{its:List Value}(r:aG (ns.map V.int) its){i:Nat}(h:its.toArray[i]?=some v):∃t,v=.int (ns.getD i 0) t:=by
 rw[vW] at h
 induction ns generalizing its i with
 | nil=>cases r;simp at h
 | cons n ns ih =>
  cases r with
  | cons r1 rr =>
   cases i with
   | zero =>
    simp only[xU,yN] at h
    subst h
    obtain⟨t,rfl⟩:=r1
    exact⟨t,rfl⟩
   | succ i =>
    simp only[xB] at h
    exact ih rr h
theorem y2(hc:X.calm=true):dy X (.builtin "sum") (fun xs H Q=>∃ (a:Addr) (ns:List Int),xs=[.ref a]/\(eK X.K H a (ns.map V.int)\/gw X.K H a (ns.map V.int))/\JA ns=true/\Q (.int ns.sum) H):=by
 intro pins s σ H xs us Q I r h
 obtain⟨a,ns,rfl,hq,hok,q⟩:=h
 obtain⟨u,rfl,rx⟩:=vals1 r
 cases rx
 have hh:X.A.in1.handled=none:=I.ok.hd hc
 obtain⟨hlen,hbd⟩:=Ic hok
 have hin:∀n:Nat,n<=1000->∀j,j < n->InLong ((fun i=>ns.getD i 0) j)/\InLong (preSum (fun i=>ns.getD i 0) (j+1)):=fun n hn j hj=>by
  have h1:=hbd j
  have h2:=qw (fun i=>ns.getD i 0) 1000000 hbd (j+1)
  refine⟨⟨?_,?_⟩,?_,?_⟩
  ·show -(2 ^ 63)<=ns.getD j 0
   omega
  ·show ns.getD j 0 < 2 ^ 63
   omega
  ·omega
  ·omega
 have hsum:preSum (fun i=>ns.getD i 0) ns.length=ns.sum:=by rw[nA,List.take_length]
 rcases hq with hq|hq
 ·obtain⟨its,rv,pl,hz⟩:=I.list hq
  have hl:its.length=ns.length:=by rw[<- rv.length,zF]
  refine call_sum_walk (qN pl.isList ?_)
  obtain⟨o,ho,hcl,n,hd⟩:=pl.isList
  have hlt:=yA ho
  have hne:a≠s.heap.objs.size:=yU hlt
  refine⟨_,_,_,_,_,_,fun i=>ns.getD i 0,rfl,Walks.list hh s.heap.objs.size a hne its.toArray,⟨⟨_,zZ _ rfl,rfl,rfl⟩,pl.isList.push _⟩,fun b hb=>?_,fun i v hP=>ow rv hP,by rw[zK,hl];exact hin _ hlen,fun h' tk t' kp=>?_⟩
  ·show b < (s.heap.push _).objs.size
   rw[xN]
   simp only[zT,yH,xX] at hb
   rcases hb with rfl|rfl
   ·exact kP _
   ·exact jQ hlt
  ·refine⟨.int ns.sum,H,I.kept (t':=tk) fun b o' e=>kp b o' (by simp;exact yU (yA e)) (zW _ e),⟨t',?_⟩,q⟩
   rw[zK,hl,hsum]
 ·obtain⟨its,rv,pl,hz⟩:=I.tuple hq
  have pl:s.heap.IsTuple a its.toArray:=pl
  have hl:its.length=ns.length:=by rw[<- rv.length,zF]
  refine call_sum_walk (xV pl ?_)
  obtain⟨o,ho,hcl,n,hd⟩:=id pl
  have hlt:=yA ho
  have hne:a≠s.heap.objs.size:=yU hlt
  refine⟨_,_,_,_,_,_,fun i=>ns.getD i 0,rfl,Walks.tuple hh s.heap.objs.size a hne its.toArray,⟨⟨_,zZ _ rfl,rfl,rfl⟩,pl.push _⟩,fun b hb=>?_,fun i v hP=>ow rv hP,by rw[zK,hl];exact hin _ hlen,fun h' tk t' kp=>?_⟩
  ·show b < (s.heap.push _).objs.size
   rw[xN]
   simp only[zT,yH,xX] at hb
   rcases hb with rfl|rfl
   ·exact kP _
   ·exact jQ hlt
  ·refine⟨.int ns.sum,H,I.kept (t':=tk) fun b o' e=>kp b o' (by simp;exact yU (yA e)) (zW _ e),⟨t',?_⟩,q⟩
   rw[zK,hl,hsum]
end
section
def wz:List D->Option D:=fun ds=>(ck ds).bind fun es=>(intsOf es).bind fun ns=>if JA ns=true then some (.int ns.sum) else none
theorem gS{K:W.Frag}:∀ {ns:List Int}{vs:List V},ak K H (ns.map PyData.int) vs->vs=ns.map V.int
 | [],vs,h=>h.nil_inv
 | b::bs,vs,h=>by
  obtain⟨v,r,rfl,a,c⟩:=h.cons_inv
  simp only[Rep] at a
  rw[a,gS c]
  rfl
theorem Jt(hc:X.calm=true)(B:nO X "sum" (.builtin "sum"))(he:starEach [e] X.env=(false,eval e X.env)::starEach [] X.env)(ha:DA X [e] fs):DE X (.Call (.Name "sum" p) [e] [] pos) (aX wz fs) :=
 iX (y2 hc) (by
  intro HF H ds vs d Q sm r hg q
  obtain⟨es,h1,hg⟩:=bs hg
  obtain⟨ns,h2,hg⟩:=bs hg
  have hg:(if JA ns=true then some (PyData.int ns.sum) else none)=some d:=hg
  split at hg
  ·rename_i hok
   cases hg
   have e2:=cx h2
   subst e2
   rcases fV h1 with rfl|rfl
   all_goals
    obtain⟨v,r',rfl,a,b⟩:=r.cons_inv
    rw[b.nil_inv]
    simp only[Rep] at a
    obtain⟨p,us,rfl,h,rr⟩:=a
    have:=gS rr
    subst this
   ·exact⟨p,ns,rfl,.inr (aD sm h),hok,q _ H HF (.refl sm) (by simp[Rep])⟩
   ·exact⟨p,ns,rfl,.inl (sm.seq h),hok,q _ H HF (.refl sm) (by simp[Rep])⟩
  ·cases hg) B ha (by decide) (by decide) he rfl
end
section
def KA(i:Int):Value->Bool|.int a _=>a == i|_=>false
theorem Bm:LW X "list.index" (fun x vs H Q=>∃ (l:Addr) (ns:List Int) (i:Int) (j:Nat),x=.ref l/\vs=[.int i]/\eK X.K H l (ns.map V.int)/\ns[j]?=some i/\(∀m,m < j->ns[m]?≠some i)/\Q (.int j) H):=by
 intro pins s σ H x vs v us Q I rx rv h
 obtain⟨l,ns,i,j,rfl,rfl,hq,hj,hno,q⟩:=h
 cases rx
 obtain⟨u,rfl,ru⟩:=rv.one
 obtain⟨t,rfl⟩:=ru
 obtain⟨its,r,pl,hz⟩:=I.list hq
 obtain⟨⟨cls,dd,data,sl⟩,ho,hc,n,hd⟩:=id pl.isList
 simp only at hc hd
 subst hc hd
 have hl:its.length=ns.length:=by rw[<- r.length,zF]
 have hj1:j < ns.length:=(List.getElem?_eq_some_iff.mp hj).1
 have hz':ns.length<=sizeLine:=by rw[zF] at hz;exact hz
 have hs63:(sizeLine:Nat) < 2 ^ 62:=by decide
 have at_:∀m (hm:m < its.toArray.size),∃t',its.toArray[m]=.int (ns.getD m 0) t':=fun m hm=>ow r (kC hm)
 refine jA F.slot_list_index ⟨_,ho,rfl⟩ F.entry_list_index (F.args_list_index_2 _ _) (PySem.SeqAt.list_indexAt l its.toArray n dd sl (.int i t) (KA i) j (by rw[zK,hl];exact hj1) (by omega) ?_ ?_) ⟨ho,?_,?_⟩
 ·obtain⟨t',e⟩:=at_ j (by rw[zK,hl];exact hj1)
  rw[e,KA,zJ,hj]
  simp
 ·intro m hm hmj
  obtain⟨t',e⟩:=at_ m hm
  have hm':m < ns.length:=by omega
  have:=hno m hmj
  rw[e,KA,zJ]
  rw[zN hm'] at this ⊢
  simp only[qK,beq_eq_false_iff_ne]
  exact fun h=>this (by rw[h])
 ·intro y hy
  obtain⟨m,hm,rfl⟩:=Array.getElem_of_mem hy
  obtain⟨t',e⟩:=at_ m hm
  rw[e]
  exact PySem.SeqAt.EqAt.int_int _ _ _ _
 ·exact⟨.int j,H,I.tok _,⟨_,rfl⟩,q⟩
def ur(i:Int):List Int->Option Nat
 | []=>none
 | n::ns=>if n=i then some 0 else (ur i ns).map (·+1)
theorem mH:∀ {ns:List Int}{j:Nat},ur i ns=some j->ns[j]?=some i/\∀m,m < j->ns[m]?≠some i
 | [],j,h=>by cases h
 | n::ns,j,h=>by
  unfold ur at h
  split at h
  ·cases h
   rename_i e
   exact⟨by rw[e];rfl,fun m hm=>absurd hm (vP _)⟩
  ·rename_i e
   obtain⟨k,hk,rfl⟩:=af h
   obtain⟨a,b⟩:=mH hk
   refine⟨by simpa using a,fun m hm=>?_⟩
   cases m with
   | zero=>simpa using e
   | succ m=>simpa using b m (by omega)
def MF:D->D->Option D
 | .list es,.int i=>(intsOf es).bind fun ns=>(ur i ns).map fun j=>.int ((j:Nat):Int)
 | _,_=>none
theorem C8{fo:Env->Option D}(hbase:attributeBase o "index" X.env (eval o X.env)=eval o X.env)
  (hfew:((backTo cpos (starEach [e] X.env)).all (fun x=>!x.1)&&(backToKw cpos (keywordEach [] X.env)).all (fun x=>x.1.isSome)&&decide ([e].length+([]:List Keyword).length+(if ([]:List Keyword).isEmpty then 0 else 1) < 30))=true)
  (hline:(apos.endLine == cpos.line)=true) (hs:starEach [e] X.env=(false,eval e X.env)::starEach [] X.env) (ho:DE X o fo) (he:DE X e fe):DE X (.Call (.Attribute o "index" apos) [e] [] cpos) (f2 MF fo fe) :=
 aZ (u9 qS PySem.F.slot_list_index PySem.F.type_list_index Bm ho (cB he gg hs) hbase hfew hline hs rfl) fun σ H Q ⟨HF,ρ,d,sm,eo,hf,q⟩=>by
  obtain⟨x,hx,hf⟩:=bs hf
  obtain⟨y,hy,hg⟩:=bs hf
  refine⟨HF,ρ,x,sm,eo,hx,fun v1 H1 HF1 g1 r1=>?_⟩
  cases x<;>try cases hg
  cases y<;>try cases hg
  rename_i es i
  obtain⟨ns,h1,hg⟩:=bs hg
  obtain⟨j,h2,rfl⟩:=af hg
  have e1:=cx h1
  subst e1
  simp only[Rep] at r1
  obtain⟨l,us,rfl,hq,rr⟩:=r1
  have:=gS rr
  subst this
  refine⟨.inl ⟨rfl,_,g1.fh.seq hq⟩,HF1,ρ,.int i,g1.fh,eo.mono g1.ff,hy,fun v2 H2 HF2 g2 r2=>?_⟩
  simp only[Rep] at r2
  obtain⟨a,b⟩:=mH h2
  exact⟨l,ns,i,j,rfl,by rw[r2],g2.fh.seq (g2.ff.seq hq),a,b,q _ H2 HF2 (g1.trans g2) (by simp[Rep])⟩
end
end Dl
namespace Tx
open PySem PySem.SeqAt PyProof.Rows
open PySem.AutoSeq1 (wpAny_loadPart')
open PySem.MeetsSeq PySem.MeetsSeq2 PySem.MeetsSeq3
theorem wpR(f:Nat->β->Sem (ForInStep β))(I:List Nat->β->Shared->Prop)(Q:β->Shared->Prop)
  (turn:∀x rest b s,I (x::rest) b s->wpAny M A (f x b) (fun r s'=>match r with|.yield b'=>I rest b' s'|.done b'=>Q b' s') E s)
  (fin:∀b s,I [] b s->Q b s) (n:Nat) (b:β) (h:I (List.range' 0 n 1) b s):wpAny M A (forIn [:n] b f) Q E s:=by
 have e:forIn [:n] b f=forIn (List.range' 0 n 1) b f:=by
  rw[Std.Legacy.Range.forIn_eq_forIn_range']
  simp[Std.Legacy.Range.size]
 rw[e]
 exact wpAny_forIn_list f I Q turn fin _ b h
theorem tuple_indexAt(l:Addr)(items:Array Value)(n:Nat)(dd:Option Addr)(sl:Array (Option Value))(x:Value)(e:Value->Bool)(j:Nat)(hj:j < items.size)(h1:e items[j]=true)(h2:∀m (hm:m < items.size),m < j->e items[m]=false) :
  Meets (Builtin.«tuple.index» ⟨[.ref l,x],[]⟩)
   (fun A R s=>s.heap.get? l=some { cls:=.type "tuple",dict:=dd,data:=.seq items n,slots:=sl }/\(∀y,y∈items->EqAt A.in1 s y x (e y))/\R (.ok (.ret (.int (j:Nat) s.toks))) { s with toks:=s.toks+1 }) :=
 .of_wp fun prog w A R s h=>by
  obtain⟨hp,g,d,tk,os⟩:=s;obtain⟨hl,he,h⟩:=h
  wp_walk using wpAny_loadPart' hl,wpR _ (fun rest b s'=>s'=⟨hp,g,d,tk,os⟩/\b.1=none/\∃i,i<=j/\rest=List.range' i (items.size - i) 1) _
  case turn =>
   rintro i rest b s' ⟨rfl,hb,i',hi,e1⟩
   have hlt:i' < items.size:=by omega
   rw[show items.size - i'=(items.size - (i'+1))+1 by omega,vH] at e1
   injection e1 with e2 e3
   subst e2
   subst e3
   simp only[kC hlt]
   refine zX (he _ (Array.getElem_mem hlt) prog w _ _ ?_)
   by_cases hij:i=j
   ·subst hij
    rw[h1]
    wp_walk
    exact⟨_,rfl,h⟩
   ·rw[h2 i hlt (by omega)]
    wp_walk
    exact⟨rfl,rfl,i+1,by omega,rfl⟩
  case fin =>
   rintro b s' ⟨rfl,hb,i,hi,e1⟩
   have:=jF List.length e1
   simp at this
   omega
  case h =>
   exact⟨rfl,rfl,0,xY _,by simp⟩
end Tx
namespace Dl
open PySem L2 PySem.Spec PyProof.Rows
section
theorem BX:LW X "tuple.index" (fun x vs H Q=>∃ (l:Addr) (ns:List Int) (i:Int) (j:Nat),x=.ref l/\vs=[.int i]/\gw X.K H l (ns.map V.int)/\ns[j]?=some i/\(∀m,m < j->ns[m]?≠some i)/\Q (.int j) H):=by
 intro pins s σ H x vs v us Q I rx rv h
 obtain⟨l,ns,i,j,rfl,rfl,hq,hj,hno,q⟩:=h
 cases rx
 obtain⟨u,rfl,ru⟩:=rv.one
 obtain⟨t,rfl⟩:=ru
 obtain⟨its,r,pl,hz⟩:=I.tuple hq
 obtain⟨⟨cls,dd,data,sl⟩,ho,hc,n,hd⟩:=id pl
 simp only at hc hd
 subst hc hd
 have hl:its.length=ns.length:=by rw[<- r.length,zF]
 have hj1:j < ns.length:=(List.getElem?_eq_some_iff.mp hj).1
 have at_:∀m (hm:m < its.toArray.size),∃t',its.toArray[m]=.int (ns.getD m 0) t':=fun m hm=>ow r (kC hm)
 refine jA F.slot_tuple_index ⟨_,ho,rfl⟩ F.entry_tuple_index (F.args_tuple_index_2 _ _) (Tx.tuple_indexAt l its.toArray n dd sl (.int i t) (KA i) j (by rw[zK,hl];exact hj1) ?_ ?_) ⟨ho,?_,?_⟩
 ·obtain⟨t',e⟩:=at_ j (by rw[zK,hl];exact hj1)
  rw[e,KA,zJ,hj]
  simp
 ·intro m hm hmj
  obtain⟨t',e⟩:=at_ m hm
  have hm':m < ns.length:=by
   rw[zK] at hm
   omega
  have:=hno m hmj
  rw[e,KA,zJ]
  rw[zN hm'] at this ⊢
  simp only[qK,beq_eq_false_iff_ne]
  exact fun h=>this (by rw[h])
 ·intro y hy
  obtain⟨m,hm,rfl⟩:=Array.getElem_of_mem hy
  obtain⟨t',e⟩:=at_ m hm
  rw[e]
  exact PySem.SeqAt.EqAt.int_int _ _ _ _
 ·exact⟨.int j,H,I.tok _,⟨_,rfl⟩,q⟩
theorem D9(h:PE X e t)(g:PE X e u):PE X e (fun σ H Q=>t σ H Q\/u σ H Q):=fun pins s σ H Q I q=>q.elim (h pins s σ H Q I) (g pins s σ H Q I)
def nU:D->D->Option D
 | .list es,.int i=>(intsOf es).bind fun ns=>(ur i ns).map fun j=>.int ((j:Nat):Int)
 | .tuple es,.int i=>(intsOf es).bind fun ns=>(ur i ns).map fun j=>.int ((j:Nat):Int)
 | _,_=>none
theorem A3{fo:Env->Option D}(hbase:attributeBase o "index" X.env (eval o X.env)=eval o X.env)
  (hfew:((backTo cpos (starEach [e] X.env)).all (fun x=>!x.1)&&(backToKw cpos (keywordEach [] X.env)).all (fun x=>x.1.isSome)&&decide ([e].length+([]:List Keyword).length+(if ([]:List Keyword).isEmpty then 0 else 1) < 30))=true)
  (hline:(apos.endLine == cpos.line)=true) (hs:starEach [e] X.env=(false,eval e X.env)::starEach [] X.env) (ho:DE X o fo) (he:DE X e fe):DE X (.Call (.Attribute o "index" apos) [e] [] cpos) (f2 nU fo fe) :=
 aZ (D9 (C8 hbase hfew hline hs ho he) (u9 PySem.F.plainAttrs_tuple PySem.F.slot_tuple_index PySem.F.type_tuple_index BX ho (cB he gg hs) hbase hfew hline hs rfl)) fun σ H Q ⟨HF,ρ,d,sm,eo,hf,q⟩=>by
  obtain⟨x,hx,hf⟩:=bs hf
  obtain⟨y,hy,hg⟩:=bs hf
  cases x<;>try cases hg
  ·cases y<;>try cases hg
   rename_i es i
   exact .inl ⟨HF,ρ,d,sm,eo,by simp only[f2,hx,hy,zC];exact hg,q⟩
  ·cases y<;>try cases hg
   rename_i es i
   obtain⟨ns,h1,hg⟩:=bs hg
   obtain⟨j,h2,rfl⟩:=af hg
   have e1:=cx h1
   subst e1
   refine .inr ⟨HF,ρ,_,sm,eo,hx,fun v1 H1 HF1 g1 r1=>?_⟩
   simp only[Rep] at r1
   obtain⟨l,us,rfl,hq,rr⟩:=r1
   have:=gS rr
   subst this
   refine⟨?_,HF1,ρ,.int i,g1.fh,eo.mono g1.ff,hy,fun v2 H2 HF2 g2 r2=>?_⟩
   ·first|exact .inr (.inl ⟨rfl,_,aD g1.fh hq⟩)|exact .inl ⟨rfl,_,aD g1.fh hq⟩|exact .inr ⟨rfl,_,aD g1.fh hq⟩
   ·simp only[Rep] at r2
    obtain⟨a,b⟩:=mH h2
    exact⟨l,ns,i,j,rfl,by rw[r2],aD g2.fh (aD g2.ff hq),a,b,q _ H2 HF2 (g1.trans g2) (by simp[Rep])⟩
end
end Dl
namespace Zp
open PySem PyProof.Rows
def IsI(b:Bool)(h:Heap)(it l:Addr)(k:Nat):Prop:=match b with|true=>h.IsTupleIter it l k|false=>h.IsListIter it l k
def IsS(b:Bool)(h:Heap)(l:Addr)(xs:Array Value):Prop:=match b with|true=>h.IsTuple l xs|false=>h.IsList l xs
theorem IsI.obj(x:IsI b h it l k):∃o,h.get? it=some o/\∀v,o.data≠.cell v:=by
 cases b
 ·obtain⟨o,e,_,d⟩:=(show h.IsListIter it l k from x);exact⟨o,e,fun v q=>by rw[d] at q;cases q⟩
 ·obtain⟨o,e,_,d⟩:=(show h.IsTupleIter it l k from x);exact⟨o,e,fun v q=>by rw[d] at q;cases q⟩
theorem IsI.at(x:IsI b h it l k)(e:∀o,h.get? it=some o->h'.get? it=some o):IsI b h' it l k:=by
 cases b
 ·exact Heap.IsListIter.at x e
 ·exact Heap.IsTupleIter.at x e
theorem IsI.extBut(x:IsI b h it l k)(e:Heap.ExtBut a h h')(n:it≠a):IsI b h' it l k:=x.at fun o q=>e it o n q
theorem IsS.at(x:IsS b h l xs)(e:∀o,h.get? l=some o->h'.get? l=some o):IsS b h' l xs:=by
 cases b
 ·obtain⟨o,q,r⟩:=(show h.IsList l xs from x);exact⟨o,e o q,r⟩
 ·obtain⟨o,q,r⟩:=(show h.IsTuple l xs from x);exact⟨o,e o q,r⟩
theorem IsS.extBut(x:IsS b h l xs)(e:Heap.ExtBut a h h')(n:l≠a):IsS b h' l xs:=x.at fun o q=>e l o n q
section
theorem nxt(hj:IsI b s.heap j t k)(ht:IsS b s.heap t its)(hv:its[k]?=some v)
  (hQ:∀g,IsI b g j t (k+1)->Heap.SameBut j s.heap g->Q v { s with heap:=g }):wpAny (model prog w) A (Builtin.SmallTypes.nextOf (.ref j)) Q E s:=by
 cases b
 ·exact wpAny_nextOf_list_item hj ht hv hQ
 ·exact En.nextT_item hj ht hv hQ
theorem nxtE{Q:Value->Shared->Prop}(hh:A.handled=none)(hj:IsI b s.heap j t k)(ht:IsS b s.heap t its)(hv:its[k]?=none)
  (hE:∀g x,Heap.ExtBut j s.heap g->(∃o,g.get? x=some o/\o.cls=.type "StopIteration")->E (.ref x) { s with heap:=g }):wpAny (model prog w) A (Builtin.SmallTypes.nextOf (.ref j)) Q E s:=by
 cases b
 ·exact wpAny_nextOf_list_end hh hj ht hv hE
 ·exact En.nextT_end hh hj ht hv hE
structure ZS(b₁ b₂:Bool)(h₀ h:Heap)(z TI TO i j l m:Addr)(xs ys:Array Value)(f:Value)(p q:Nat)(a b:Value):Prop where
 zo:IsZip h z TI TO f
 ti:IsPair h TI (.ref i) (.ref j)
 to:IsPair h TO a b
 wi:IsI b₁ h i l p
 wj:IsI b₂ h j m q
 sl:IsS b₁ h l xs
 sm:IsS b₂ h m ys
 kp:∀c o,c≠z->c≠TO->c≠i->c≠j->h₀.get? c=some o->h.get? c=some o
 sz:h.objs.size=h₀.objs.size
section
variable {z TI TO i j l m:Addr}
theorem ZS.fl(Z:ZS b₁ b₂ h₀ h z TI TO i j l m xs ys f p q a b)(D:ZipApart z TI TO i j l m)(e:IsZip g z TI TO f')(t:Heap.SameBut z h g):ZS b₁ b₂ h₀ g z TI TO i j l m xs ys f' p q a b :=
 ⟨e,t.extBut _ _ D.TIz Z.ti,t.extBut _ _ D.TOz Z.to,Z.wi.extBut t.extBut D.i1z,Z.wj.extBut t.extBut D.i2z,Z.sl.extBut t.extBut D.l1z,Z.sm.extBut t.extBut D.l2z,fun c o n1 n2 n3 n4 r=>t.extBut _ _ n1 (Z.kp c o n1 n2 n3 n4 r),t.1.trans Z.sz⟩
theorem ZS.fst(Z:ZS b₁ b₂ h₀ h z TI TO i j l m xs ys f p q a b)(D:ZipApart z TI TO i j l m)(e:IsI b₁ g i l (p+1))(t:Heap.SameBut i h g):ZS b₁ b₂ h₀ g z TI TO i j l m xs ys f (p+1) q a b :=
 ⟨t.extBut _ _ D.i1z.symm Z.zo,t.extBut _ _ D.TIi1 Z.ti,t.extBut _ _ D.TOi1 Z.to,e,Z.wj.extBut t.extBut D.i12.symm,Z.sl.extBut t.extBut D.l1i1,Z.sm.extBut t.extBut D.l2i1,fun c o n1 n2 n3 n4 r=>t.extBut _ _ n3 (Z.kp c o n1 n2 n3 n4 r),t.1.trans Z.sz⟩
theorem ZS.snd(Z:ZS b₁ b₂ h₀ h z TI TO i j l m xs ys f p q a b)(D:ZipApart z TI TO i j l m)(e:IsI b₂ g j m (q+1))(t:Heap.SameBut j h g):ZS b₁ b₂ h₀ g z TI TO i j l m xs ys f p (q+1) a b :=
 ⟨t.extBut _ _ D.i2z.symm Z.zo,t.extBut _ _ D.TIi2 Z.ti,t.extBut _ _ D.TOi2 Z.to,Z.wi.extBut t.extBut D.i12,e,Z.sl.extBut t.extBut D.l1i2,Z.sm.extBut t.extBut D.l2i2,fun c o n1 n2 n3 n4 r=>t.extBut _ _ n4 (Z.kp c o n1 n2 n3 n4 r),t.1.trans Z.sz⟩
theorem ZS.put(Z:ZS b₁ b₂ h₀ h z TI TO i j l m xs ys f p q a b)(D:ZipApart z TI TO i j l m)(e:IsPair g TO x y)(t:Heap.SameBut TO h g):ZS b₁ b₂ h₀ g z TI TO i j l m xs ys f p q x y :=
 ⟨t.extBut _ _ D.TOz.symm Z.zo,t.extBut _ _ D.TITO Z.ti,e,Z.wi.extBut t.extBut D.TOi1.symm,Z.wj.extBut t.extBut D.TOi2.symm,Z.sl.extBut t.extBut D.l1TO,Z.sm.extBut t.extBut D.l2TO,fun c o n1 n2 n3 n4 r=>t.extBut _ _ n2 (Z.kp c o n1 n2 n3 n4 r),t.1.trans Z.sz⟩
end
variable {z TI TO i j l m:Addr}
theorem zipN{Q:Value->Shared->Prop}(hn:A.handled=none)(D:ZipApart z TI TO i j l m)(Z:ZS b₁ b₂ s.heap s.heap z TI TO i j l m xs ys .none p q a b)
  (item:∀x y g g',xs[p]?=some x->ys[q]?=some y->ZS b₁ b₂ s.heap g z TI TO i j l m xs ys .ellipsis (p+1) (q+1) x y->IsZip g' z TI TO (rawInt g.objs.size) ->
   Heap.SameBut z (g.push { cls:=.type "tuple",data:=.seq #[x,y] }) g'->Q (.ref g.objs.size) { s with heap:=g' })
  (over:(xs[p]?=none\/ys[q]?=none)->∀g e,(∀c o,c≠z->c≠TO->c≠i->c≠j->s.heap.get? c=some o->g.get? c=some o)->(∃o,g.get? e=some o/\o.cls=.type "StopIteration")->E (.ref e) { s with heap:=g }) :
  wpAny (model prog w) A (Builtin.«zip.__next__» ⟨[.ref z],[]⟩) (fun r s'=>∃v,r=.done (.ret v)/\Q v s') E s:=by
 have stop:∀ {g1 g2:Heap}{e:Addr}{c:Addr}{p' q':Nat}{a' b':Value},ZS b₁ b₂ s.heap g1 z TI TO i j l m xs ys .ellipsis p' q' a' b'->(c=i\/c=j)->(xs[p]?=none\/ys[q]?=none)->Heap.ExtBut c g1 g2 ->
   (∃o,g2.get? e=some o/\o.cls=.type "StopIteration")->wpAny (model prog w) A (setField (.ref z) 0 Value.none) (fun _ t=>E (.ref e) t) E { s with heap:=g2 }:=by
  intro g1 g2 e c p' q' a' b' Y hc hv k ⟨o,ho,ht⟩
  have cz:z≠c:=hc.elim (fun e=>e ▸ D.i1z.symm) fun e=>e ▸ D.i2z.symm
  have Yz:IsZip g2 z TI TO .ellipsis:=k _ _ cz Y.zo
  refine kZ Yz (by simp) fun g3 _ t=>over hv g3 e (fun d u n1 n2 n3 n4 r=>t.extBut _ _ n1 (k _ _ ?_ (Y.kp d u n1 n2 n3 n4 r))) ⟨o,t.extBut _ _ ?_ ho,ht⟩
  ·exact hc.elim (fun e=>e ▸ n3) fun e=>e ▸ n4
  ·rintro rfl;rw[Yz] at ho;cases ho;simp at ht
 show wpAny _ _ (field (.ref z) 2 >>= _) _ _ _
 refine zX (qX Z.zo rfl (x:=.bool false) rfl (zX (qX Z.zo rfl (x:=.ref TI) rfl (zX (kL Z.ti rfl (zX (m:=Builtin.SmallTypes.ownedTupleIsFree _) ?_))))))
 refine zX (qX Z.zo rfl (x:=.none) rfl (zY ?_))
 rw[yO rfl]
 refine zX (wF (zX (qX Z.zo rfl (x:=.ref TO) rfl (zX (kZ Z.zo (by simp) fun g1 e1 t1=>?_)))))
 have Z1:=Z.fl D (f':=.ellipsis) e1 t1
 refine zX ?_
 simp only[List.zipIdx_cons,List.zipIdx_nil,List.forIn_cons,List.forIn_nil]
 refine zX (zX (wpAny_onRaise (zX (m:=Builtin.SmallTypes.nextOf _) ?_)))
 cases hx:xs[p]? with
 | none=>exact nxtE hn Z1.wi Z1.sl hx fun g2 e k o=>stop Z1 (.inl rfl) (.inl hx) k o
 | some x =>
 refine nxt Z1.wi Z1.sl hx fun g2 e2 t2=>zY ?_
 have Z2:=Z1.fst D e2 t2
 refine zX (kL Z2.to rfl (zX (wpAny_updateSeq_pair Z2.to fun g3 e3 t3=>zX (wpAny_letGo (zY ?_)))))
 have Z3:=Z2.put D (x:=x) (y:=b) e3 t3
 refine zX (zX (wpAny_onRaise (zX (m:=Builtin.SmallTypes.nextOf _) ?_)))
 cases hy:ys[q]? with
 | none=>exact nxtE hn Z3.wj Z3.sm hy fun g4 e k o=>stop Z3 (.inr rfl) (.inr hy) k o
 | some y =>
 refine nxt Z3.wj Z3.sm hy fun g4 e4 t4=>zY ?_
 have Z4:=Z3.snd D e4 t4
 refine zX (kL Z4.to rfl (zX (wpAny_updateSeq_pair Z4.to fun g5 e5 t5=>zX (wpAny_letGo (zY (zY ?_))))))
 have Z5:=Z4.put D (x:=x) (y:=y) e5 t5
 refine zX (kL Z5.to rfl (zX (wpAny_newTuple (zX (m:=Builtin.SmallTypes.ownedTupleHandOut _ _) ?_))))
 refine zX (kZ (zW _ Z5.zo) (by simp) fun g6 e6 t6=>kZ e6 (by simp) fun g7 e7 t7=>zY ⟨_,rfl,?_⟩)
 exact item x y g5 g7 hx hy Z5 e7 (t6.trans t7)
theorem nextZ(hn:A.handled=none)(D:ZipApart z TI TO i j l m)
  (qz:IsZip s.heap z TI TO .none) (qI:IsPair s.heap TI (.ref i) (.ref j)) (qO:IsPair s.heap TO a b)
  (p1:IsI b₁ s.heap i l p) (p2:IsI b₂ s.heap j m q) (r1:IsS b₁ s.heap l xs) (r2:IsS b₂ s.heap m ys) (ex:xs[p]?=some x) (ey:ys[q]?=some y)
  (kQ:∀g,IsZip g z TI TO (rawInt s.heap.objs.size)->IsPair g TO x y->IsI b₁ g i l (p+1)->IsI b₂ g j m (q+1)->IsPair g s.heap.objs.size x y->g.objs.size=s.heap.objs.size+1 ->
   (∀c o,c≠z->c≠TO->c≠i->c≠j->s.heap.get? c=some o->g.get? c=some o)->Q (some (.ref s.heap.objs.size)) { s with heap:=g }) :
  wpAny (model prog w) A (pyNext (.ref z)) Q E s:=by
 have ty:s.TypeIs (.ref z) "zip":=⟨_,qz,rfl⟩
 have Z:ZS b₁ b₂ s.heap s.heap z TI TO i j l m xs ys .none p q a b:=⟨qz,qI,qO,p1,p2,r1,r2,fun _ _ _ _ _ _ e=>e,rfl⟩
 refine zX (kU (qF (name:=Str.ofString "__next__") ty vU (qZ vU ty F.entry_zip_next (zipN hn D Z ?_ ?_) (F.args_zip_next_1 _))))
 ·intro x' y' g g' hx hy Y ez t
  rw[ex] at hx;rw[ey] at hy;cases hx;cases hy
  rw[Y.sz] at ez ⊢
  have lt:=yA Y.zo
  have up:∀c o,c≠z->g.get? c=some o->g'.get? c=some o:=fun c o n e=>t.extBut _ _ n (zW _ e)
  refine zY (kQ g' ez (up _ _ D.TOz Y.to) (Y.wi.at fun o e=>up _ _ D.i1z e) (Y.wj.at fun o e=>up _ _ D.i2z e) ?_ (by rw[t.1,xN,Y.sz]) fun c o n1 n2 n3 n4 e=>up c o n1 (Y.kp c o n1 n2 n3 n4 e))
  rw[<- Y.sz]
  exact t.extBut _ _ (jL lt) (zZ _ rfl)
 ·intro no
  rw[ex,ey] at no
  rcases no with no|no<;>cases no
theorem nextZE(hn:A.handled=none)(D:ZipApart z TI TO i j l m)
  (qz:IsZip s.heap z TI TO .none) (qI:IsPair s.heap TI (.ref i) (.ref j)) (qO:IsPair s.heap TO a b)
  (p1:IsI b₁ s.heap i l p) (p2:IsI b₂ s.heap j m q) (r1:IsS b₁ s.heap l xs) (r2:IsS b₂ s.heap m ys) (ends:xs[p]?=none\/ys[q]?=none)
  (kQ:∀g,(∀c o,c≠z->c≠TO->c≠i->c≠j->s.heap.get? c=some o->g.get? c=some o)->Q none { s with heap:=g }):wpAny (model prog w) A (pyNext (.ref z)) Q E s:=by
 have ty:s.TypeIs (.ref z) "zip":=⟨_,qz,rfl⟩
 have Z:ZS b₁ b₂ s.heap s.heap z TI TO i j l m xs ys .none p q a b:=⟨qz,qI,qO,p1,p2,r1,r2,fun _ _ _ _ _ _ e=>e,rfl⟩
 refine zX (kU (qF (name:=Str.ofString "__next__") ty vU (qZ vU ty F.entry_zip_next (zipN hn D Z ?_ ?_) (F.args_zip_next_1 _))))
 ·intro x y g g' hx hy
  rw[hx,hy] at ends
  rcases ends with no|no<;>cases no
 ·rintro _ g e kp ⟨o,ho,ht⟩
  exact zX (wpAny_isInstance (T:="StopIteration") (b:=true) ⟨o,ho,ht⟩ isSubtype_stop (zY (kQ _ kp)))
end
abbrev itO(b:Bool)(l:Addr):Obj:={ cls:=.type (if b then "tuple_iterator" else "list_iterator"),data:=.fields #[.ref l,.int 0 0] }
abbrev z1(b:Bool)(h:Heap)(l:Addr):Heap:=h.push (itO b l)
abbrev z2(b c:Bool)(h:Heap)(l m:Addr):Heap:=(z1 b h l).push (itO c m)
abbrev z3(b c:Bool)(h:Heap)(l m:Addr):Heap:=(z2 b c h l m).push { cls:=.type "tuple",data:=.seq #[.ref h.objs.size,.ref (z1 b h l).objs.size] }
abbrev z4(b c:Bool)(h:Heap)(l m:Addr):Heap:=(z3 b c h l m).push { cls:=.type "tuple",data:=.seq #[.none,.none] }
abbrev z5(b c:Bool)(h:Heap)(l m:Addr):Heap:=(z4 b c h l m).push { cls:=.type "zip",data:=.fields #[.none,.bool false,.bool false,.ref (z2 b c h l m).objs.size,.ref (z3 b c h l m).objs.size] }
theorem IsS.push(x:IsS b h l xs)(o:Obj):IsS b (h.push o) l xs:=x.at fun o' e=>zW _ e
theorem new_zip(b c:Bool)(l m:Addr)(xs ys:Array Value):Meets (Builtin.«zip.__new__» ⟨[.type "zip",.ref l,.ref m],[]⟩) (fun _ R s=>IsS b s.heap l xs/\IsS c s.heap m ys/\R (.ok (.ret (.ref (z4 b c s.heap l m).objs.size))) { s with heap:=z5 b c s.heap l m }) :=
 .of_wp fun prog w A R s h=>by
  obtain⟨hp,g,d,tk,os⟩:=s;obtain⟨q1,q2,h⟩:=h
  have hsub:=sub_zip
  cases b<;>cases c
  ·have L1:Heap.IsList (Shared.heap ⟨hp,g,d,tk,os⟩) l xs:=q1
   have L2:Heap.IsList (Shared.heap ⟨hp.push { cls:=.type "list_iterator",data:=.fields #[.ref l,.int 0 0] },g,d,tk,os⟩) m ys:=IsS.push (b:=false) q2 _
   wp_walk using qN L1,qN L2
   exact⟨_,rfl,h⟩
  ·have L1:Heap.IsList (Shared.heap ⟨hp,g,d,tk,os⟩) l xs:=q1
   have L2:Heap.IsTuple (Shared.heap ⟨hp.push { cls:=.type "list_iterator",data:=.fields #[.ref l,.int 0 0] },g,d,tk,os⟩) m ys:=IsS.push (b:=true) q2 _
   wp_walk using qN L1,xV L2
   exact⟨_,rfl,h⟩
  ·have L1:Heap.IsTuple (Shared.heap ⟨hp,g,d,tk,os⟩) l xs:=q1
   have L2:Heap.IsList (Shared.heap ⟨hp.push { cls:=.type "tuple_iterator",data:=.fields #[.ref l,.int 0 0] },g,d,tk,os⟩) m ys:=IsS.push (b:=false) q2 _
   wp_walk using xV L1,qN L2
   exact⟨_,rfl,h⟩
  ·have L1:Heap.IsTuple (Shared.heap ⟨hp,g,d,tk,os⟩) l xs:=q1
   have L2:Heap.IsTuple (Shared.heap ⟨hp.push { cls:=.type "tuple_iterator",data:=.fields #[.ref l,.int 0 0] },g,d,tk,os⟩) m ys:=IsS.push (b:=true) q2 _
   wp_walk using xV L1,xV L2
   exact⟨_,rfl,h⟩
section
theorem isI_new(e:h.get? it=some (itO b l)):IsI b h it l 0:=by
 cases b
 ·exact⟨_,e,rfl,rfl⟩
 ·exact⟨_,e,rfl,rfl⟩
theorem call_zip(q1:IsS b s.heap l xs)(q2:IsS c s.heap m ys)
  (h:∀g,IsZip g (s.heap.objs.size+4) (s.heap.objs.size+2) (s.heap.objs.size+3) .none->IsPair g (s.heap.objs.size+2) (.ref s.heap.objs.size) (.ref (s.heap.objs.size+1))->IsPair g (s.heap.objs.size+3) .none .none ->
   IsI b g s.heap.objs.size l 0->IsI c g (s.heap.objs.size+1) m 0->(∀a o,s.heap.get? a=some o->g.get? a=some o)->Q (.ref (s.heap.objs.size+4)) { s with heap:=g }) :
  wpAny (model prog w) A (call (.type "zip") [.ref l,.ref m]) Q E s:=by
 refine callType_new F.called_zip (by decide) (F.typeCall_zip_2 _ _) (F.newCall_zip_2 _ _) (fun obj=>F.args_object_init_3 obj _ _) F.entry_zip_new (new_zip b c l m xs ys) ⟨q1,q2,?_⟩
 have n1:(z1 b s.heap l).objs.size=s.heap.objs.size+1:=xN ..
 have n2:(z2 b c s.heap l m).objs.size=s.heap.objs.size+2:=by rw[xN,n1]
 have n3:(z3 b c s.heap l m).objs.size=s.heap.objs.size+3:=by rw[xN,n2]
 have n4:(z4 b c s.heap l m).objs.size=s.heap.objs.size+4:=by rw[xN,n3]
 have g5:(z5 b c s.heap l m).get? (z4 b c s.heap l m).objs.size=some _:=zZ _ rfl
 have g4:(z5 b c s.heap l m).get? (z3 b c s.heap l m).objs.size=some _:=zW _ (zZ _ rfl)
 have g3:(z5 b c s.heap l m).get? (z2 b c s.heap l m).objs.size=some _:=zW _ (zW _ (zZ _ rfl))
 have g2:(z5 b c s.heap l m).get? (z1 b s.heap l).objs.size=some (itO c m):=zW _ (zW _ (zW _ (zZ _ rfl)))
 have g1:(z5 b c s.heap l m).get? s.heap.objs.size=some (itO b l):=zW _ (zW _ (zW _ (zW _ (zZ _ rfl))))
 show _/\_
 rw[n2,n3,n4] at g5
 rw[n1,n2] at g3
 rw[n3] at g4
 rw[n1] at g2
 rw[n4]
 exact⟨⟨_,g5,rfl⟩,h _ g5 g3 g4 (isI_new g1) (isI_new g2) fun a o x=>zW _ (zW _ (zW _ (zW _ (zW _ x))))⟩
end
end Zp
namespace Dl
open PySem L2 PySem.Spec PyProof.Rows Zp
def rJ(K:W.Frag)(b:Bool)(a:Addr)(H:Hp)(xs:List V):Prop:=match b with|true=>gw K H a xs|false=>eK K H a xs
section
theorem rJ.src(I:Inv X pins σ H s)(h:rJ X.K b a H xs):∃its:List Value,aG xs its/\IsS b s.heap a its.toArray/\xs.length<=sizeLine:=by
 cases b
 ·obtain⟨its,rv,pl,hz⟩:=I.list (show eK X.K H a xs from h);exact⟨its,rv,pl.isList,hz⟩
 ·obtain⟨its,rv,pl,hz⟩:=I.tuple (show gw X.K H a xs from h);exact⟨its,rv,pl,hz⟩
theorem rJ.ne(I:Inv X pins σ H s)(hf:b8 X pins H c)(h:rJ X.K b a H xs):a≠c:=by
 cases b
 ·exact Jr I hf h
 ·exact Ih I hf h
theorem rJ.inj(I:Inv X pins σ H s)(h:rJ X.K b a H xs)(h':rJ X.K b a H ys):xs=ys:=by
 cases b
 ·exact I.list_inj h h'
 ·exact I.tuple_inj h h'
theorem rJ.mono{K:W.Frag}(e:aP H H')(h:rJ K b a H xs):rJ K b a H' xs:=by
 cases b
 ·exact e.seq h
 ·exact aD e h
end
theorem BM{K:W.Frag}(b c:Bool)(l1 l2 z TI TO i1 i2:Addr)(Z:NK z TI TO i1 i2) :
  Turn P w K (.Tuple elts k pos) (ME (rJ K b l1) (rJ K c l2)) [z,TI,TO,i1,i2] z (fun i h=>IsZip h z TI TO .none/\IsPair h TI (.ref i1) (.ref i2)/\(∃a b,IsPair h TO a b)/\IsI b h i1 l1 i/\IsI c h i2 l2 i) where
 mem:=by simp
 obj:=fun i h st d hd=>by
  obtain⟨hz,hTI,⟨a,b',hTO⟩,p1,p2⟩:=st
  simp only[zT,yH,xX] at hd
  rcases hd with rfl|rfl|rfl|rfl|rfl
  ·exact⟨_,hz,fun v q=>by have q:Data.fields _=Data.cell v:=q;cases q⟩
  ·exact⟨_,hTI,fun v q=>by have q:Data.seq _ _=Data.cell v:=q;cases q⟩
  ·exact⟨_,hTO,fun v q=>by have q:Data.seq _ _=Data.cell v:=q;cases q⟩
  ·exact p1.obj
  ·exact p2.obj
 keep:=fun i h h' st kk=>by
  obtain⟨hz,hTI,⟨a,b',hTO⟩,h1,h2⟩:=st
  exact⟨kk z (by simp) _ hz,kk TI (by simp) _ hTI,⟨a,b',kk TO (by simp) _ hTO⟩,h1.at fun o q=>kk i1 (by simp) o q,h2.at fun o q=>kk i2 (by simp) o q⟩
 item:=by
  intro X hP hw hK hc i pins s σ H E I hf st hg
  subst hP hw hK
  obtain⟨xs,ys,x,y,hq1,hq2,hx,hy⟩:=hg
  obtain⟨its1,rv1,p1,hz1⟩:=hq1.src I
  obtain⟨its2,rv2,p2,hz2⟩:=hq2.src I
  obtain⟨u1,hu1,ru1⟩:=rv1.get hx
  obtain⟨u2,hu2,ru2⟩:=rv2.get hy
  have D:ZipApart z TI TO i1 i2 l1 l2:=⟨Z.a1,Z.a2,Z.a3,Z.a4,Z.a5,Z.a6,Z.a7,Z.a8,Z.a9,Z.a0,hq1.ne I (hf z (by simp)),hq1.ne I (hf TO (by simp)),hq1.ne I (hf i1 (by simp)),hq1.ne I (hf i2 (by simp)),hq2.ne I (hf z (by simp)),hq2.ne I (hf TO (by simp)),hq2.ne I (hf i1 (by simp)),hq2.ne I (hf i2 (by simp))⟩
  obtain⟨hz,hTI,⟨a,b',hTO⟩,h1,h2⟩:=st
  refine nextZ (I.ok.hd hc) D hz hTI hTO h1 h2 p1 p2 (x:=u1) (y:=u2) (by simpa using hu1) (by simpa using hu2) fun g b1 b2 b3 b4 b5 b6 hk=>⟨.ref s.heap.objs.size,rfl,?_⟩
  have lt:∀ {c:Addr}{o:Obj},s.heap.get? c=some o->s.heap.objs.size≠c:=fun e=>jL (yA e)
  refine wpAny_letOwnedTupleGo_zip (s:={ s with heap:=g }) b1 fun g' hz' hs'=>?_
  have b5':g'.get? s.heap.objs.size=some { cls:=.type "tuple",data:=.seq #[u1,u2] }:=hs'.extBut _ _ (lt hz) b5
  have ht:oD g' s.heap.objs.size (List.toArray [u1,u2]):=⟨⟨_,b5',rfl,_,rfl⟩,_,b5',rfl⟩
  refine⟨.ref s.heap.objs.size,_,uP (ch:=[z,TI,TO,i1,i2]) (xs:=[x,y]) (t':=s.toks) I hf (fun b o hb q=>?_) (yP _) ht (.cons ru1 (.cons ru2 .nil)) (by show 2<=sizeLine;decide),rfl,
   ⟨s.heap.objs.size,x,y,rfl,I.fresh,rfl,fun zs hzs=>by rw[hzs.inj I hq1];exact hx,fun zs hzs=>by rw[hzs.inj I hq2];exact hy⟩,
   ⟨hz',hs'.extBut _ _ Z.a1 (hk _ _ D.TIz D.TITO D.TIi1 D.TIi2 hTI),⟨_,_,hs'.extBut _ _ Z.a2 b2⟩,b3.extBut hs'.extBut Z.a3,b4.extBut hs'.extBut Z.a4⟩,fun b hb=>?_⟩
  ·simp only[zT,yH,xX,not_or] at hb
   exact hs'.extBut _ _ hb.1 (hk b o hb.1 hb.2.2.1 hb.2.2.2.1 hb.2.2.2.2 q)
  ·have:s.heap.objs.size≠b:=by
    simp only[zT,yH,xX] at hb
    obtain⟨o1,g1,_⟩:=h1.obj
    obtain⟨o2,g2,_⟩:=h2.obj
    rcases hb with rfl|rfl|rfl|rfl|rfl
    ·exact lt hz
    ·exact lt hTI
    ·exact lt hTO
    ·exact lt g1
    ·exact lt g2
   rw[az (jP this)]
   exact (hf b hb).1
 done:=by
  intro X hP hw hK hc i pins s σ H E I hf st hg
  subst hP hw hK
  obtain⟨xs,ys,hq1,hq2,hx⟩:=hg
  obtain⟨its1,rv1,p1,hz1⟩:=hq1.src I
  obtain⟨its2,rv2,p2,hz2⟩:=hq2.src I
  have D:ZipApart z TI TO i1 i2 l1 l2:=⟨Z.a1,Z.a2,Z.a3,Z.a4,Z.a5,Z.a6,Z.a7,Z.a8,Z.a9,Z.a0,hq1.ne I (hf z (by simp)),hq1.ne I (hf TO (by simp)),hq1.ne I (hf i1 (by simp)),hq1.ne I (hf i2 (by simp)),hq2.ne I (hf z (by simp)),hq2.ne I (hf TO (by simp)),hq2.ne I (hf i1 (by simp)),hq2.ne I (hf i2 (by simp))⟩
  obtain⟨hz,hTI,⟨a,b',hTO⟩,h1,h2⟩:=st
  have e1:=rv1.length
  have e2:=rv2.length
  refine nextZE (I.ok.hd hc) D hz hTI hTO h1 h2 p1 p2 (hx.elim (fun q=>.inl (by simp;omega)) fun q=>.inr (by simp;omega)) fun g hk=>⟨rfl,?_⟩
  refine Bo (ch:=[z,TI,TO,i1,i2]) (t':=s.toks) I hf fun b o hb q=>?_
  simp only[zT,yH,xX,not_or] at hb
  exact hk b o hb.1 hb.2.2.1 hb.2.2.2.1 hb.2.2.2.2 q
 self:=fun _ _ _ _ _ st h=>wpAny_pyIter_zip st.1 h
section
theorem GC(B:nO X "zip" (.type "zip"))(ha:PA X [l,l'] tl)(hs:starEach [l,l'] X.env=(false,eval l X.env)::starEach [l'] X.env)(hs2:(backTo pos (starEach [l'] X.env)).any (·.1)=false) :
  PI X (.Tuple elts k tp) (.Call (.Name "zip" p) [l,l'] [] pos) (fun σ H R=>tl σ H fun vs H1=>∃a b,vs=[.ref a,.ref b]/\∃c d xs ys,rJ X.K c a H1 xs/\rJ X.K d b H1 ys/\R (ME (rJ X.K c a) (rJ X.K d b)) H1):=by
 intro pins s σ H R I h
 refine Call_ (iu I B.gl B.mg B.bt (qV (bZ (ha pos pins s σ H _ I h) fun us s1 ⟨vs,H1,I1,r1,q1⟩=>?_) hs hs2))
 obtain⟨a,b,e,c,d,xs,ys,hq1,hq2,q⟩:=q1
 subst e
 obtain⟨u,u',rfl,rx,ry⟩:=vals2 r1
 cases rx
 cases ry
 obtain⟨its,rv,pl,hz⟩:=hq1.src I1
 obtain⟨its',rv',pl',hz'⟩:=hq2.src I1
 refine call_zip pl pl' fun g b1 b2 b3 b4 b5 kp=>wpAny_pyIter_zip (s:={ s1 with heap:=g }) b1 ?_
 refine⟨_,_,_,_,H1,rfl,I1.kept (t':=s1.toks) kp,BM c d a b (s1.heap.objs.size+4) (s1.heap.objs.size+2) (s1.heap.objs.size+3) s1.heap.objs.size (s1.heap.objs.size+1) ?_,⟨b1,b2,⟨_,_,b3⟩,b4,b5⟩,fun c hc=>?_,q⟩
 ·constructor<;>(intro z;have z:(_:Nat)=_:=z;omega)
 ·have hge:s1.heap.objs.size<=c:=by
   simp only[zT,yH,xX] at hc
   rcases hc with rfl|rfl|rfl|rfl|rfl
   ·exact jX _ _
   ·exact jX _ _
   ·exact jX _ _
   ·exact yP _
   ·exact jX _ _
  exact I1.fpOk hge (I1.hok.fresh hge)
def K0:List D->Option (List D):=fun ds=>match ds with
 | [x,y]=>(fN x).bind fun xs=>(fN y).map fun ys=>iR xs ys
 | _=>none
theorem yp{K:W.Frag}(h:fN d=some xs)(r:Rep K HF d v):∃b a vs,v=.ref a/\rJ K b a HF vs/\ak K HF xs vs:=by
 rcases k6 h with rfl|rfl
 ·simp only[Rep] at r
  obtain⟨a,vs,rfl,q,rr⟩:=r
  exact⟨true,a,vs,rfl,q,rr⟩
 ·simp only[Rep] at r
  obtain⟨a,vs,rfl,q,rr⟩:=r
  exact⟨false,a,vs,rfl,q,rr⟩
def gN(fs:Env->Option (List D)):Env->Option (List D):=fun ρ=>(fs ρ).bind K0
theorem He(B:nO X "zip" (.type "zip"))(hs:starEach [l,l'] X.env=(false,eval l X.env)::starEach [l'] X.env)(hs2:(backTo pos (starEach [l'] X.env)).any (·.1)=false)(h:DA X [l,l'] fs) :
  DI X (.Tuple elts k tp) (.Call (.Name "zip" p) [l,l'] [] pos) (gN fs) :=
 sG (GC B h hs hs2) fun σ H R ⟨HF,ρ,ds,sm,eo,hf,q⟩=>by
  obtain⟨x,hx,hf⟩:=bs hf
  refine⟨HF,ρ,_,sm,eo,hx,fun vs H1 HF1 g1 r1=>?_⟩
  unfold K0 at hf
  split at hf
  ·obtain⟨xs,h1,hf⟩:=bs hf
   obtain⟨ys,h2,rfl⟩:=af hf
   obtain⟨v,r',rfl,a,b⟩:=r1.cons_inv
   obtain⟨v',r'',rfl,a',b'⟩:=b.cons_inv
   rw[b'.nil_inv]
   obtain⟨c,ad,us,rfl,hq,rr⟩:=yp h1 a
   obtain⟨c',ad',us',rfl,hq',rr'⟩:=yp h2 a'
   exact⟨ad,ad',rfl,c,c',us,us',hq.mono g1.fh,hq'.mono g1.fh,q _ H1 HF1 g1 (CV hq (fun _ _ s h=>h.mono s) hq' (fun _ _ s h=>h.mono s) rr rr')⟩
  ·cases hf
end
end Dl
namespace Zp
open PySem PyProof.Rows
theorem IsI.ne(x:IsI b h it l k)(y:IsS b h l xs):l≠it:=by
 rintro rfl
 cases b
 ·obtain⟨o,e,c,d⟩:=(show h.IsListIter l l k from x)
  obtain⟨o',e',r⟩:=(show h.IsList l xs from y)
  rw[e] at e';cases e'
  simp_all
 ·obtain⟨o,e,c,d⟩:=(show h.IsTupleIter l l k from x)
  obtain⟨o',e',r⟩:=(show h.IsTuple l xs from y)
  rw[e] at e';cases e'
  simp_all
section
theorem drawsI(hn:A.handled=none)(b:Bool)(it l:Addr)(xs:Array Value):Draws prog w A it [it,l] xs.size (fun i x=>xs[i]?=some x) (fun i h=>IsI b h it l i/\IsS b h l xs) where
 live:=fun i h st=>let ⟨o,e,_⟩:=st.1.obj;⟨o,e⟩
 frame:=fun i h h' st k=>⟨st.1.at (k it (by simp)),st.2.at (k l (by simp))⟩
 item:=fun i s Q E hi st hQ=>nxt st.1 st.2 (v:=xs[i]) (by simp[hi]) fun g e t=>hQ _ g s.toks (by simp[hi]) ⟨e,st.2.extBut t.extBut (st.1.ne st.2)⟩ t
 done:=fun s Q E st hE=>nxtE hn st.1 st.2 (by simp) hE
theorem nextE{b₁:Bool}{e it l:Addr}{i:Nat}{items:Array Value}{x old:Value}{Q:Option Value->Shared->Prop}(hn:A.handled=none)
  (qe:IsEnum s.heap e it i old) (qi:IsI b₁ s.heap it l i) (ql:IsS b₁ s.heap l items) (ex:items[i]?=some x) (nei:e≠it)
  (kQ:∀g tk,IsEnumOut g e it ((i:Int)+1) x s.heap.objs.size->IsI b₁ g it l (i+1)->g.get? s.heap.objs.size=some { cls:=.type "tuple",data:=.seq #[.int i tk,x] } ->
   g.objs.size=s.heap.objs.size+1->(∀c o,c≠e->c≠it->s.heap.get? c=some o->g.get? c=some o)->Q (some (.ref s.heap.objs.size)) { s with heap:=g,toks:=tk+1 }) :
  wpAny (model prog w) A (pyNext (.ref e)) Q E s:=by
 have nel:e≠l:=by
  rintro rfl
  cases b₁
  ·obtain⟨o,e1,r⟩:=(show s.heap.IsList e items from ql)
   rw[qe] at e1;cases e1;simp at r
  ·obtain⟨o,e1,r⟩:=(show s.heap.IsTuple e items from ql)
   rw[qe] at e1;cases e1;simp at r
 have D:Draws prog w A.in1 it [it,l] items.size (fun i x=>items[i]?=some x) (fun i h=>IsI b₁ h it l i/\IsS b₁ h l items):=drawsI (A:=A.in1) hn b₁ it l items
 refine wpAny_pyNext_enum_itemD D qe ⟨qi,ql⟩ (Array.getElem?_eq_some_iff.mp ex).1 nei (by simp[nei,nel]) fun y g tk hy a b c d k=>?_
 rw[ex] at hy;cases hy
 exact kQ g tk a b.1 c d k
end
end Zp
namespace Dl
open PySem L2 PySem.Spec PyProof.Rows Zp
theorem oS{K:W.Frag}(b:Bool)(a it e:Addr)(hei:e≠it):Turn P w K (.Tuple elts k pos) (MV (rJ K b a)) [e,it] e (fun i h=>(∃old,IsEnum h e it i old)/\IsI b h it a i) where
 mem:=by simp
 obj:=fun i h st c hc=>by
  obtain⟨⟨old,he⟩,hi⟩:=st
  rcases List.mem_cons.mp hc with z|z
  ·subst z;exact⟨_,he,fun v q=>by have q:Data.fields _=Data.cell v:=q;cases q⟩
  ·rw[List.mem_singleton.mp z];exact hi.obj
 keep:=fun i h h' st kk=>⟨let ⟨old,he⟩:=st.1;⟨old,kk e (by simp) _ he⟩,st.2.at fun o q=>kk it (by simp) o q⟩
 item:=by
  intro X hP hw hK hc i pins s σ H E I hf st hg
  subst hP hw hK
  obtain⟨xs,x,hq,hx⟩:=hg
  obtain⟨its,rv,p,hz⟩:=hq.src I
  obtain⟨u,hu,ru⟩:=rv.get hx
  obtain⟨⟨old,he⟩,hi⟩:=st
  refine nextE (I.ok.hd hc) he hi p (x:=u) (by simpa using hu) hei fun g tk b1 b2 b3 b4 hk=>⟨.ref s.heap.objs.size,rfl,?_⟩
  have lt:∀ {c:Addr}{o:Obj},s.heap.get? c=some o->s.heap.objs.size≠c:=fun e=>jL (yA e)
  have hte:s.heap.objs.size≠e:=lt he
  refine wpAny_letOwnedTupleGo_enum (s:={ s with heap:=g,toks:=tk+1 }) b1 fun g' he' hs'=>?_
  have b3':g'.get? s.heap.objs.size=some { cls:=.type "tuple",data:=.seq #[.int i tk,u] }:=hs'.extBut _ _ hte b3
  have ht:oD g' s.heap.objs.size (List.toArray [Value.int (i:Nat) tk,u]):=⟨⟨_,b3',rfl,_,rfl⟩,_,b3',rfl⟩
  refine⟨.ref s.heap.objs.size,_,uP (ch:=[e,it]) (xs:=[.int (i:Nat),x]) (t':=tk+1) I hf (fun c o hb q=>?_) (yP _) ht (.cons ⟨_,rfl⟩ (.cons ru .nil)) (by show 2<=sizeLine;decide),rfl,
   ⟨s.heap.objs.size,x,rfl,I.fresh,rfl,fun zs hzs=>by rw[hzs.inj I hq];exact hx⟩,⟨⟨_,he'⟩,b2.extBut hs'.extBut (jP hei)⟩,fun c hc'=>?_⟩
  ·simp only[zT,yH,xX,not_or] at hb
   exact hs'.extBut _ _ hb.1 (hk c o hb.1 hb.2 q)
  ·have:s.heap.objs.size≠c:=by
    simp only[zT,yH,xX] at hc'
    obtain⟨o1,g1,_⟩:=hi.obj
    rcases hc' with rfl|rfl
    ·exact lt he
    ·exact lt g1
   rw[az (jP this)]
   exact (hf c hc').1
 done:=by
  intro X hP hw hK hc i pins s σ H E I hf st hg
  subst hP hw hK
  obtain⟨xs,hq,hx⟩:=hg
  obtain⟨its,rv,p,hz⟩:=hq.src I
  have hh:X.A.in1.handled=none:=I.ok.hd hc
  have hl:=rv.length
  obtain⟨⟨old,he⟩,hi⟩:=st
  have hT:s.TypeIs (.ref e) "enumerate":=⟨_,he,rfl⟩
  unfold pyNext
  refine zX (kU (qF (name:=Str.ofString "__next__") hT F.slot_enumerate_next (qZ F.slot_enumerate_next hT F.entry_enumerate_next ?_ (F.args_enumerate_next_1 _))))
  refine zX (m:=field (.ref e) 2) (qX he rfl (x:=.ref it) rfl ?_)
  refine zX (nxtE hh hi p (by simp;omega) fun h1 x k1 hx1=>?_)
  obtain⟨o,ho,hc1⟩:=hx1
  refine zX (wpAny_isInstance (T:="StopIteration") (b:=true) ⟨o,ho,hc1⟩ isSubtype_stop (zY ⟨rfl,?_⟩))
  obtain⟨f0,f1,f2,f3,f4,f5⟩:=hf it (by simp)
  exact I.turned (t':=s.toks) (fun b o hb q=>k1 b o hb q) f0 f1 f3 f4 f5
 self:=fun _ _ _ _ _ st h=>let ⟨_,he⟩:=st.1;wR he h
section
theorem FX(B:nO X "enumerate" (.type "enumerate"))(ha:PA X [l] tl)(hs:starEach [l] X.env=[(false,eval l X.env)]):PI X (.Tuple elts k tp) (.Call (.Name "enumerate" p) [l] [] pos) (fun σ H R=>tl σ H fun vs H1=>∃a,vs=[.ref a]/\∃b xs,rJ X.K b a H1 xs/\R (MV (rJ X.K b a)) H1):=by
 intro pins s σ H R I h
 refine Call_ (iu I B.gl B.mg B.bt (qV (bZ (ha pos pins s σ H _ I h) fun us s1 ⟨vs,H1,I1,r1,q1⟩=>?_) hs rfl))
 obtain⟨a,e,b,xs,hq,q⟩:=q1
 subst e
 obtain⟨u,rfl,rx⟩:=vals1 r1
 cases rx
 have fresh:∀b∈[s1.heap.objs.size+1,s1.heap.objs.size],b8 X pins H1 b:=fun b hb=>by
  rcases List.mem_cons.mp hb with z|z
  ·subst z;exact I1.fpOk (Nat.le_succ _) (I1.hok.fresh (Nat.le_succ _))
  ·cases List.mem_singleton.mp z;exact I1.fpOk (yP _) I1.fresh
 obtain⟨its,rv,pl,hz⟩:=hq.src I1
 cases b with
 | false =>
  refine call_enumerate_list pl fun h' he hit hsz kp=>wR (s:={ s1 with heap:=h' }) he ?_
  exact⟨_,_,_,_,H1,rfl,I1.kept (t':=s1.toks) kp,oS false a s1.heap.objs.size (s1.heap.objs.size+1) (Nat.succ_ne_self _),⟨⟨_,he⟩,hit⟩,fresh,q⟩
 | true =>
  refine En.call_enumT (show s1.heap.IsTuple a its.toArray from pl) fun h' he hit hsz kp=>wR (s:={ s1 with heap:=h' }) he ?_
  exact⟨_,_,_,_,H1,rfl,I1.kept (t':=s1.toks) kp,oS true a s1.heap.objs.size (s1.heap.objs.size+1) (Nat.succ_ne_self _),⟨⟨_,he⟩,hit⟩,fresh,q⟩
def bc(fs:Env->Option (List D)):Env->Option (List D):=fun ρ=>(fs ρ).bind fun ds=>(ck ds).map (bh 0)
theorem GA(B:nO X "enumerate" (.type "enumerate"))(h:DA X [l] fs)(hs:starEach [l] X.env=[(false,eval l X.env)]):DI X (.Tuple elts k tp) (.Call (.Name "enumerate" p) [l] [] pos) (bc fs) :=
 sG (FX B h hs) fun σ H R ⟨HF,ρ,ds,sm,eo,hf,q⟩=>by
  obtain⟨x,hx,hf⟩:=bs hf
  obtain⟨es,h1,rfl⟩:=af hf
  obtain⟨d,h0,h1⟩:=bs h1
  rw[dP h0] at hx
  refine⟨HF,ρ,_,sm,eo,hx,fun vs H1 HF1 g1 r1=>?_⟩
  obtain⟨v,r',rfl,a,b⟩:=r1.cons_inv
  rw[b.nil_inv]
  obtain⟨c,ad,us,rfl,hq,rr⟩:=yp h1 a
  exact⟨ad,rfl,c,us,hq.mono g1.fh,q _ H1 HF1 g1 (Bf hq (fun _ _ s h=>h.mono s) rr)⟩
end
end Dl
namespace Srt
open PySem PySem.W PySem.Calls PyProof.Rows L2
theorem b8.at(h:b8 X pins H b)(e:H' b=none):b8 X pins H' b:=⟨e,h.2⟩
section
theorem upd_inv{g:Array Value->Array Value}(I:Inv X pins σ H s)(f:b8 X pins H b):Inv X pins σ H { s with heap:=s.heap.update b (Obj.mapSeq g) }:=by
 obtain⟨f0,f1,f2,f3,f4,f5⟩:=f
 exact I.turned (t':=s.toks) (h':=s.heap.update b (Obj.mapSeq g)) (fun c o hc e=>(xQ _ _ (jP hc)).trans e) f0 f1 f3 f4 f5
theorem pin_get(I:Inv X (pins++m5 fp h) σ H' s')(hb:b∈fp)(e:h.get? b=some o):s'.heap.get? b=some o/\H' b=none :=
 let q:=I.pin (b,o) (yG _ (yG _ (cT hb e)));⟨q.1,q.2.1⟩
theorem list_sortK(I:Inv X pins σ H s)(ho:s.heap.get? a=some (seqObj "list" vs.toArray n))(fa:b8 X pins H a)(h64:vs.length < 64)
  (J:List Value->Hp->Prop) (j0:J [] H)
  (step:∀us v,vs[us.length]?=some v->∀pl s' H',Inv X (pins++pl) σ H' s'->J us H'->wpAny (model X.prog X.w) A (call f [v]) (fun u s''=>∃H'',Inv X (pins++pl) σ H'' s''/\J (us++[u]) H'') (fun _ _=>False) s')
  (fin:∀us H',us.length=vs.length->J us H'->∃ (z:Nat->Int) (κ:SortKind),(2<=vs.length->∀s',Inv X pins σ H' s'->(∀Q':SortKind->Shared->Prop,Q' κ s'->wpAny (model X.prog X.w) A (keyKind' us.toArray) Q' (fun _ _=>False) s') /\
    ∀i j C,i < vs.length->j < vs.length->C (SP.dA z i j) s'->kas_ask X.prog X.w A κ us i j C s') /\
   ∀s' c,Inv X pins σ H' s'->b8 X pins H' a->s'.heap.get? a=some (seqObj "list" (outV z vs).toArray c)->P (.done (.ret .none)) s') :
  wpAny (model X.prog X.w) A (ksk_tree a f false) P E s:=by
 have hsl:vs.length<=sizeLine:=by rw[qY];omega
 unfold ksk_tree
 refine zX (vL ho rfl ?_)
 refine zX (kF ho rfl ?_ (by simpa using hsl) (xY _))
 obtain⟨e1,ho1⟩:∃e,(s.heap.update a (Obj.mapSeq fun _=>(#[]:Array Value))).get? a=some (seqObj "list" #[] e):=⟨_,kH ho fun _=>#[]⟩
 have I1:=upd_inv (g:=fun _=>(#[]:Array Value)) I fa
 refine zX (seqEpoch_at ho1 rfl ?_)
 refine zX (wpAny_newTuple ?_ (by simpa using hsl))
 refine zX (kR ?_ (xY _))
 refine qA ?_
 have ho3:(((s.heap.update a (Obj.mapSeq fun _=>(#[]:Array Value))).push (seqObj "tuple" vs.toArray 0)).push (seqObj "list" #[] 0)).get? a=some (seqObj "list" #[] e1):=zW _ (zW _ ho1)
 have hk3:(((s.heap.update a (Obj.mapSeq fun _=>(#[]:Array Value))).push (seqObj "tuple" vs.toArray 0)).push (seqObj "list" #[] 0)).get? ((s.heap.update a (Obj.mapSeq fun _=>(#[]:Array Value))).push (seqObj "tuple" vs.toArray 0)).objs.size=some (seqObj "list" #[] 0):=zZ _ rfl
 have I3:=(I1.kept (t':=s.toks) (h':=((s.heap.update a (Obj.mapSeq fun _=>(#[]:Array Value))).push (seqObj "tuple" vs.toArray 0)).push (seqObj "list" #[] 0)) fun b o e=>zW _ (zW _ e))
 have I2:=(I1.kept (t':=s.toks) (h':=(s.heap.update a (Obj.mapSeq fun _=>(#[]:Array Value))).push (seqObj "tuple" vs.toArray 0)) fun b o e=>zW _ e)
 have fk:b8 X pins H ((s.heap.update a (Obj.mapSeq fun _=>(#[]:Array Value))).push (seqObj "tuple" vs.toArray 0)).objs.size:=I2.fpOk (yP _) (I2.hok.fresh (yP _))
 have hka:((s.heap.update a (Obj.mapSeq fun _=>(#[]:Array Value))).push (seqObj "tuple" vs.toArray 0)).objs.size≠a:=by
  have hlt:=yA ho1
  rw[xN]
  exact jL (jQ hlt)
 show wpAny _ A _ P E { s with heap:=((s.heap.update a (Obj.mapSeq fun _=>(#[]:Array Value))).push (seqObj "tuple" vs.toArray 0)).push (seqObj "list" #[] 0) }
 generalize ((s.heap.update a (Obj.mapSeq fun _=>(#[]:Array Value))).push (seqObj "tuple" vs.toArray 0)).objs.size=kS at hk3 fk hka
 generalize e3:({ s with heap:=((s.heap.update a (Obj.mapSeq fun _=>(#[]:Array Value))).push (seqObj "tuple" vs.toArray 0)).push (seqObj "list" #[] 0) }:Shared)=s3 at I3
 have ho3:s3.heap.get? a=some (seqObj "list" #[] e1):=by rw[<- e3];exact ho3
 have hk3:s3.heap.get? kS=some (seqObj "list" #[] 0):=by rw[<- e3];exact hk3
 clear e3 I2 I1 ho1 ho
 unfold ksk_rest
 refine zX (wF ?_)
 first
  | rw[List.forIn_toArray]
  | (rw[<- Array.forIn_toList];simp only[List.toList_toArray])
  | rw[<- Array.forIn_toList]
 refine zX (ksk_fold (fun i s'=>∃us H' e,us.length=i/\Inv X pins σ H' s'/\H' a=none/\H' kS=none/\s'.heap.get? a=some (seqObj "list" #[] e1)/\s'.heap.get? kS=some (seqObj "list" us.toArray e)/\J us H') vs 0 s3
  ⟨[],H,0,rfl,I3,fa.1,fk.1,ho3,hk3,j0⟩ ?step ?done)
 case step =>
  rintro j x s' hx ⟨us,H',e,hu,I',ha',hk',hoa,hok,j'⟩
  have hu:us.length=j:=by omega
  have hj:j < vs.length:=(List.getElem?_eq_some_iff.mp hx).1
  have Ip:=I'.pinned (fp:=[a,kS]) (fun b hb=>by
   rcases List.mem_cons.mp hb with rfl|hb
   ·exact b8.at fa ha'
   ·rw[List.mem_singleton.mp hb];exact b8.at fk hk') (fun b hb=>by
   rcases List.mem_cons.mp hb with rfl|hb
   ·exact⟨_,hoa,fun v z=>by cases z⟩
   ·rw[List.mem_singleton.mp hb];exact⟨_,hok,fun v z=>by cases z⟩)
  refine zX (kU (xD (step us x (by rw[hu];exact hx) _ s' H' Ip j') (fun u s'' he=>?_) fun _ _ hF=>hF.elim))
  obtain⟨H'',I'',j''⟩:=he
  try dsimp only
  obtain⟨ga,na⟩:=pin_get I'' (b:=a) zH hoa
  obtain⟨gk,nk⟩:=pin_get I'' (b:=kS) (zE _ zH) hok
  have I4:=I''.unpinned
  obtain⟨c2,hc2⟩:∃c2,(s''.heap.update kS (Obj.mapSeq (·.push u))).get? kS=some (seqObj "list" (us.toArray.push u) c2):=⟨_,kH gk (·.push u)⟩
  refine zX (kF gk rfl ?_ (by rw[zK,qY];omega) (yF (Nat.le_of_eq (Array.size_push ..)) (by rw[zK,qY];omega)))
  refine zY ⟨rfl,us++[u],H'',c2,by rw[zQ,hu];simp,upd_inv I4 (b8.at fk nk),na,nk,(xQ _ _ hka).trans ga,?_,j''⟩
  rw[hc2]
  simp
 case done =>
  rintro s' ⟨us,H',e,hu,I',ha',hk',hoa,hok,j'⟩
  have hu:us.length=vs.length:=by omega
  try dsimp only
  refine zX (vL hok rfl ?_)
  obtain⟨z,κ,hz,hP⟩:=fin us H' hu j'
  have last:∀st':SortSt,(arrOf st').map (·.2)=(outV z vs).toArray->failedOf st'=none->wpAny (model X.prog X.w) A (ksk_tail a false e1 (.ref kS) st') P E s':=fun st' h1 h2=>by
   unfold ksk_tail
   try dsimp only
   rw[h1,h2]
   have na1:(s'.heap.update kS (Obj.mapSeq fun _=>(#[]:Array Value))).get? a=some (seqObj "list" #[] e1):=(xQ _ _ hka).trans hoa
   have I5:=upd_inv (g:=fun _=>(#[]:Array Value)) I' (b8.at fk hk')
   have I6:=upd_inv (s:={ s' with heap:=s'.heap.update kS (Obj.mapSeq fun _=>(#[]:Array Value)) }) (g:=fun _=>(outV z vs).toArray) I5 (b8.at fa ha')
   refine zX (kF hok rfl ?_ (by rw[zK,qY];omega) (xY _))
   refine zX (wpAny_letGo ?_)
   refine zX (seqEpoch_at na1 rfl ?_)
   refine zX (kF na1 rfl ?_ (xY _) (by
    simp only[yR,qT]
    show (outV z vs).toArray.size<=_;rw[zK,outV_len];omega))
   obtain⟨c,hc⟩:∃c,((s'.heap.update kS (Obj.mapSeq fun _=>(#[]:Array Value))).update a (Obj.mapSeq fun _=>(outV z vs).toArray)).get? a=some (seqObj "list" (outV z vs).toArray c):=⟨_,kH na1 fun _=>(outV z vs).toArray⟩
   simp only[bne_self_eq_false,yR,qT]
   exact zY (hP _ c I6 (b8.at fa ha') hc)
  unfold ksk_end
  try dsimp only
  simp only[yR,qT]
  by_cases h2:vs.toArray.size < 2
  ·rw[yO h2,yO h2]
   refine zX (zY ?_)
   rw[StateT.run_pure]
   refine zX (zY (last _ ?_ rfl))
   have h2':vs.length < 2:=by simpa using h2
   unfold outV
   rw[yO h2']
   show ((us.toArray.zip vs.toArray).map (·.2))=vs.toArray
   apply Array.toList_inj.mp
   simp only[Array.toList_map,Array.toList_zip]
   exact List.map_snd_zip (by rw[hu];exact yP _)
  ·rw[yQ h2,yQ h2]
   have h2':2<=vs.length:=by
    have:¬ vs.length < 2:=by simpa using h2
    omega
   obtain⟨hk,hlt⟩:=hz h2' s' I'
   refine zX (xD (hk (fun κ' s''=>κ'=κ/\s''=s') ⟨rfl,rfl⟩) (fun κ' s'' hs=>?_) fun _ _ x=>x.elim)
   obtain⟨rfl,rfl⟩:=hs
   refine zX (xD (kat_run (Q:=fun st' s2=>s2=s''/\(arrOf st').map (·.2)=(outV z vs).toArray/\failedOf st'=none) (G:=fun p s2=>s2=s''/\p=SP.run (SP.dA z) (kas_sort vs.length))
    hu h2' h64 (fun p st' s2 a1 a2 a3 a4=>⟨a4.1,?_,a3⟩) (SP.wp_run hlt (kas_sort vs.length) (SP.CQ (by omega)) ⟨rfl,rfl⟩)) ?_ fun _ _ e=>e)
   ·rw[kat_snds hu a2,a4.2]
    unfold outV
    rw[yQ (by omega)]
   ·rintro⟨⟨⟩,st'⟩ s2 ⟨hs,h4,h5⟩
    subst hs
    exact last st' h4 h5
theorem sortedK{l:Value}{f:Addr}{Q:Value->Shared->Prop}(I:Inv X pins σ H s)(h64:vs.length < 64)
  (hcol:∀ {Q':List Value->Shared->Prop},(∀h':Heap,(∀b o,s.heap.get? b=some o->h'.get? b=some o)->Q' vs { s with heap:=h' })->wpAny (model X.prog X.w) A.in1 (collect l) Q' E s)
  (J:List Value->Hp->Prop) (j0:J [] H)
  (step:∀us v,vs[us.length]?=some v->∀pl s' H',Inv X (pins++pl) σ H' s'->J us H'->wpAny (model X.prog X.w) A.in1.in1 (call (.ref f) [v]) (fun u s''=>∃H'',Inv X (pins++pl) σ H'' s''/\J (us++[u]) H'') (fun _ _=>False) s')
  (fin:∀us H',us.length=vs.length->J us H'->∃ (z:Nat->Int) (κ:SortKind),(2<=vs.length->∀s',Inv X pins σ H' s'->(∀Q':SortKind->Shared->Prop,Q' κ s'->wpAny (model X.prog X.w) A.in1.in1 (keyKind' us.toArray) Q' (fun _ _=>False) s') /\
    ∀i j C,i < vs.length->j < vs.length->C (SP.dA z i j) s'->kas_ask X.prog X.w A.in1.in1 κ us i j C s') /\
   ∀s' D c,Inv X pins σ H' s'->b8 X pins H' D->s'.heap.get? D=some (seqObj "list" (outV z vs).toArray c)->Q (.ref D) s') :
  wpAny (model X.prog X.w) A (call (.builtin "sorted") [l] [(Str.ofString "key",.ref f)]) Q E s:=by
 have hsl:vs.length<=sizeLine:=by rw[qY];omega
 refine call_function_entry_kw kind_sorted plain_sorted entry_sorted (ksk_s1 _ _) ?_
 unfold Builtin.«sorted»
 refine zX (m:=checkCount "sorted" 1 1 _) (zY (zX (hcol fun h1 kp=>?_)))
 refine zX (kR ?_ (by simpa using hsl))
 have I1:=I.kept (t':=s.toks) kp
 have fD:b8 X pins H h1.objs.size:=I1.fpOk (yP _) (I1.hok.fresh (yP _))
 have hoD:(h1.push (seqObj "list" vs.toArray 0)).get? h1.objs.size=some (seqObj "list" vs.toArray 0):=zZ _ rfl
 have I2:=I1.kept (t':=s.toks) (h':=h1.push (seqObj "list" vs.toArray 0)) fun b o e=>zW _ e
 show wpAny _ _ _ _ _ { s with heap:=h1.push (seqObj "list" vs.toArray 0) }
 refine zX (qA (wpAny_call_entry_kw slot_list_sort ⟨_,hoD,rfl⟩ entry_list_sort ?body (ksk_l1 _ _)))
 case body =>
  show wpAny (model X.prog X.w) A.in1.in1 (Builtin.«list.sort» ⟨[.ref h1.objs.size],[(Str.ofString "key",.ref f)]⟩) _ _ _
  rw[ksk_t1]
  refine list_sortK I2 hoD fD h64 J j0 step fun us H' hu j'=>?_
  obtain⟨z,κ,hz,hP⟩:=fin us H' hu j'
  exact⟨z,κ,hz,fun s' c I' f' e=>⟨_,rfl,zY ⟨_,rfl,hP s' _ c I' f' e⟩⟩⟩
end
end Srt
namespace Dl
open PySem L2 PySem.Spec PyProof.Rows
theorem _root_.L2.Inv.track(I:Inv X pins σ H s)(f:b8 X pins H b)(ho:ef X.prog X.w (upd H b o) s.heap b o):Inv X pins σ (upd H b o) s:=by
 obtain⟨f0,f1,f2,f3,f4,f5⟩:=f
 have up:∀c u,H c=some u->upd H b o c=some u:=fun c u e=>by rw[az (aH e f0)];exact e
 refine⟨I.ok,I.os,I.bare,⟨I.base.keep,I.base.slot,fun c oc e n hx=>?_,I.base.there,fun c xs e=>up c _ (I.base.tups c xs e),fun c oc u e=>up c _ (I.base.frzs c oc u e),⟨fun c u e t=>up c u (I.base.tbls.st c u e t),I.base.tbls.gr⟩⟩,I.loc,I.cell,?_,fun x c e=>?_,fun p hp=>?_,fun c u e=>?_,I.len⟩
 ·have hne:c≠b:=fun z=>by
   rcases f3 with g|g
   ·exact hx (z ▸ g)
   ·exact absurd (zS (yA e) (z ▸ g)) (qH _)
  rw[az hne];exact I.base.free c oc e n hx
 ·rw[az (jP f1)];exact I.free
 ·rw[az (f4 x c e)];exact I.freeC x c e
 ·obtain⟨e,n,r⟩:=I.pin p hp
  exact⟨e,by rw[az (f5 p hp)];exact n,r⟩
 ·by_cases hc:c=b
  ·subst hc;rw[aE] at e;cases e;exact ho
  ·rw[az hc] at e
   exact (I.hok c u e).stay (fun d w _ q=>q) (fun d q=>up d _ q) fun d w q _=>up d _ q
def nq(scope:Scope)(N':List Str)(p:Str):Bool:=scope.names.all (fun q=>!decide (q.2=NameKind.cell))&&decide (N'[0]?=some p)&&decide (scope.names.lookup p=some .local)&&decide (scope.isCoroutine=false)&&decide (scope.isGenerator=false)
section
theorem Eo(C:Bk X N sc (k+3))(hA:eD (k+1) A)(hk:scope.kind=.function)(hnd:N'.Nodup)(hl:nq scope N' p=true):Bk (fX X A qual scope N' f c s H) N' scope k where
 n:=rfl
 nd:=hnd
 tb:=fun x kd hx=>.inl hx
 calm:=rfl
 fn:=fun x hx=>by
  unfold nq at hl
  simp only[zI,xJ,yS,xE] at hl
  exact absurd rfl (hl.1.1.1.1 _ (mem_of_lookup hx))
 room:=hA.deeper _
 xe:=rfl
 kd:=hk
structure oY(X:Cx)(qual:Str):Prop where
 ex:∃c P,X.env.code=.ref c/\X.env.qual++"<lambda>"=qual/\W.codeHdIn X.K c P=true/\∀HF,fg X.K HF->HF P=some (.tab qual)
def gT(te:Env->Option D)(ρ:Env):List D->Option (List D)
 | []=>some []
 | d::ds=>(te (ρ.set 0 (some d))).bind fun x=>(gT te ρ ds).map (x::·)
theorem mV:∀ {ds ks:List D},gT te ρ ds=some ks->ks.length=ds.length
 | [],ks,h=>by cases h;rfl
 | d'::ds,ks,h=>by
  unfold gT at h
  obtain⟨y,h1,h⟩:=bs h
  obtain⟨ys,h2,rfl⟩:=af h
  simp[mV h2]
theorem pe:∀ {ds ks:List D}{i:Nat}{d:D},gT te ρ ds=some ks->ds[i]?=some d->∃x,te (ρ.set 0 (some d))=some x/\ks[i]?=some x
 | [],ks,i,d,h,e=>by simp at e
 | d'::ds,ks,i,d,h,e=>by
  unfold gT at h
  obtain⟨y,h1,h⟩:=bs h
  obtain⟨ys,h2,rfl⟩:=af h
  cases i with
  | zero=>simp at e;subst e;exact⟨y,h1,rfl⟩
  | succ i=>obtain⟨x,a,b⟩:=pe h2 (by simpa using e);exact⟨x,a,by simpa using b⟩
def mY(cs:List Nat)(fl te:Env->Option D):Env->Option (List D):=fun ρ=>(fl ρ).bind fun l=>match l with
 | .list ds=>(gT te (dz 1 cs ρ) ds).bind fun ks=>(intsOf ks).bind fun zs=>if ds.length < 64 then some (lx (fun i=>zs.getD i 0) ds .none) else none
 | _=>none
theorem vd{K:W.Frag}{cs:List Nat}(eo:cw K HF ρ σ)(r:Rep K HF d v):cw K HF ((dz 1 cs ρ).set 0 (some d)) ((iV 1 cs σ).set 0 (some v)):=hV (Aw eo) r
theorem lR{K:W.Frag}:∀ {ks:List D}{zs:List Int}{kvs:List V}{us:List Value},intsOf ks=some zs->ak K HF ks kvs->aG kvs us->IntsAre us zs
 | [],zs,kvs,us,h,r,v=>by
  cases h
  rw[r.nil_inv] at v
  cases v
  exact .nil
 | d::ks,zs,kvs,us,h,r,v=>by
  cases d<;>simp only[intsOf] at h<;>try cases h
  rename_i i
  obtain⟨ys,h2,rfl⟩:=af h
  obtain⟨w,ws,rfl,a,b⟩:=r.cons_inv
  simp only[Rep] at a
  subst a
  cases v with
  | cons r1 r2 =>
   obtain⟨t,rfl⟩:=r1
   exact .cons i t (lR h2 b r2)
theorem dq:∀ {us:List Value}{zs:List Int}{i:Nat},IntsAre us zs->i < us.length->∃t,us.getD i Value.none=.int (zs.getD i 0) t
 | _,_,i,.nil,h=>by simp at h
 | _,_,0,.cons n t r,h=>⟨t,rfl⟩
 | _,_,i+1,.cons n t r,h=>by
  obtain⟨t',e⟩:=dq (i:=i) r (by simpa using h)
  exact⟨t',by simpa using e⟩
variable {fl te:Env->Option D}{cs:List Nat}
theorem Bk.sortK(C:Bk X N sc (k+3))(B:nO X "sorted" (.builtin "sorted"))(L:oY X qual)(ok:iq sc scope N N' 1 cs=true)(hl:nq scope N' p=true)
  (hb:∀ (cl:List (Str×Addr)) (pm ctv u:Value) (c:Addr),bindArgs (W.kla_fn "<lambda>" qual params body scope cl pm (.ref c) ctv) ⟨[u],[]⟩=pure [(p,u)]) (hdef:defaultsOf params X.env=([],[])) (h:DE X l fl)
  (hY:∀A f c s H,Bk (fX X A qual scope N' f c s H) N' scope k->DE (fX X A qual scope N' f c s H) body te)
  (hst:starEach [l] X.env=(false,eval l X.env)::starEach [] X.env) (he:backTo pos (starEach [l] X.env)=(false,eval l X.env)::backTo pos (starEach [] X.env)) (hpl:(backTo pos (starEach [l] X.env)).any (·.1)=false) :
  DF X (.Call (.Name "sorted" p0) [l] [⟨some "key",.Lambda params body scope lpos,kpos⟩] pos) (mY cs fl te):=by
 obtain⟨S,_⟩:=C.comp ok
 have hnd:N'.Nodup:=by
  unfold iq at ok
  simp only[zI,zM] at ok
  exact ok.2
 have hl':=hl
 unfold nq at hl'
 simp only[zI,xJ,yS,xE,zM] at hl'
 obtain⟨⟨⟨⟨hnc,hN0⟩,hp⟩,hco⟩,hgen⟩:=hl'
 obtain⟨cc,P,hcode,hqual,hhd,ee⟩:=L.ex
 intro pins s σ H Q I ⟨HF,ρ,out,sm,eo,hf,q⟩
 obtain⟨ld,hld,hf⟩:=bs hf
 cases ld<;>try cases hf
 rename_i ds
 obtain⟨ks,hks,hf⟩:=bs hf
 obtain⟨zs,hzs,hf⟩:=bs hf
 split at hf<;>cases hf
 rename_i h64
 refine jB (iu I B.gl B.mg B.bt ?_ (by decide) (by decide))
 refine PyProof.Rows.callWith_kw (e:=l) (rest:=[]) (kws:=[⟨some "key",.Lambda params body scope lpos,kpos⟩]) ?_ he hpl rfl rfl
 refine bZ (Aq h DU hst pos pins s σ H _ I ⟨HF,ρ,[.list ds],sm,eo,by simp[aa,ae,hld],fun vs H1 HF1 g1 r1=>(⟨HF1,g1,r1⟩:∃HF1,bJ HF H HF1 H1/\ak X.K HF1 [.list ds] vs)⟩) fun us s1 ⟨vs,H1,I1,rv,HF1,g1,r1⟩=>?_
 obtain⟨v,vr,rfl,a1,b1⟩:=r1.cons_inv
 rw[b1.nil_inv] at rv
 obtain⟨u,rfl,rx⟩:=vals1 rv
 simp only[Rep] at a1
 obtain⟨la,ws,rfl,hq,rr⟩:=a1
 cases rx
 have hT1:H1 P=some (.tab qual):=g1.fh _ _ (ee HF1 (eo.tb.mono g1.ff))
 show wpAny _ _ (evalAll ((do let v <- eval (.Lambda params body scope lpos) X.env;standAt pos;pure v)::[])) _ _ s1
 refine wpAny_evalAll_cons (zX ?_)
 refine vg (P:=P) I1 S hqual hcode (W.codeHd_of_K I1.ok.mod.kin hhd) hT1 I1.ok.mod.bmd hdef fun f c' pm ctv s2 H2 I2 hfo hfn hcod s12 fp2 _=>?_
 refine zX (vE (zY (wpAny_evalAll_nil ?_)))
 show wpAny _ _ (call (.builtin "sorted") [.ref la] [(Str.ofString "key",.ref f)]) _ _ s2
 have Ip:=I2.pinned (fp:=[f]) (fun b hb=>by rw[List.mem_singleton.mp hb];exact fp2) (fun b hb=>by rw[List.mem_singleton.mp hb];exact⟨_,hfo,fun v z=>by cases z⟩)
 have g2:bJ HF1 H1 HF1 H2:=⟨s12,.refl _,g1.fh.trans s12,fun _ _ e=>.inl e⟩
 obtain⟨its,rvi,pl,hz⟩:=Ip.list (s12.seq (g1.fh.seq hq))
 have hlen:its.length=ds.length:=by rw[<- rvi.length,rr.length]
 have hkl:=mV hks
 have hR:eD (k+1) X.A.in1.in1:=C.room.in1.in1
 refine Srt.sortedK (vs:=its) Ip (by omega) (fun {Q'} hQ=>?_) (fun us H'=>∃HF' kvs,bJ HF1 H2 HF' H'/\ak X.K HF' (ks.take us.length) kvs/\aG kvs us) ⟨HF1,[],.refl g2.fh,by simpa using ak.nil,.nil⟩ (fun us x hx pl' s3 H3 I3 ⟨HF3,kvs,g3,rk,rvk⟩=>?_) fun us H3 hu ⟨HF3,kvs,g3,rk,rvk⟩=>?_
 ·refine collect_list pl.isList (hQ _ fun b o e=>?_) (by rw[qY];omega)
  exact (xQ _ _ (jL (yA e))).trans (zW _ e)
 ·have hi:us.length < its.length:=(List.getElem?_eq_some_iff.mp hx).1
  obtain⟨w,hw⟩:∃w,ws[us.length]?=some w:=⟨_,zN (by rw[rvi.length];exact hi)⟩
  obtain⟨x',hx',rw'⟩:=rvi.get hw
  rw[hx] at hx'
  cases hx'
  obtain⟨d,hd,rd⟩:=rr.get hw
  obtain⟨kd,hkd,hki⟩:=pe hks hd
  have hfo3:s3.heap.get? f=some (W.kla_obj "<lambda>" qual params body scope (dC X.env scope.names []) pm c' ctv) :=
   (I3.pin (f,_) (yG _ (qM _ (yG _ (cT zH hfo))))).1
  refine xD (vj (Q:=fun v H4=>∃HF4,bJ HF3 H3 HF4 H4/\Rep X.K HF4 kd v) (te:=tD X.K te) I3 hR I3.ok.frames S hnc hN0 hp hnd hco hgen hfo3 (g3.hh _ _ hcod) (hb _ _ _ _ _) rw' (hY _ _ _ _ _ (Eo C hR S.kind hnd hl))
   ⟨HF3,_,kd,g3.fh,vd (eo.mono (g1.ff.trans g3.ff)) (rd.mono g3.ff),hkd,fun v H4 HF4 g4 r4=>⟨HF4,g4,r4⟩⟩) (fun u s4 ⟨v4,H4,I4,r4,HF4,g4,rp⟩=>⟨H4,I4,HF4,kvs++[v4],g3.trans g4,?_,rvk.append (.cons r4 .nil)⟩) fun _ _ e=>e
  rw[zQ,xF,wU,hki]
  exact (rk.mono g4.ff).append (ak.cons rp ak.nil)
 ·have hk':ks.take us.length=ks:=kM (by omega)
  rw[hk'] at rk
  have ia:=lR hzs rk rvk
  refine⟨fun i=>zs.getD i 0,oneType',fun h2 s3 I3=>⟨fun Q' q'=>?_,fun i j Cc hi hj q'=>?_⟩,fun s3 Dn c I3 fD e=>?_⟩
  ·rw[PyProof.Rows.ksk_kind (keys:=us.toArray) (kz:=zs) (by simpa using ia) (by simpa [hu] using h2)]
   exact zY q'
  ·obtain⟨t1,e1⟩:=dq ia (i:=i) (by omega)
   obtain⟨t2,e2⟩:=dq ia (i:=j) (by omega)
   unfold W.kas_ask
   rw[e1,e2]
   exact W.kat_lt_int q'
  ·have hv:=lG (fun i=>zs.getD i 0) rvi
   have hr:=l8 (fun i=>zs.getD i 0) rr
   have hnD:H3 Dn=none:=fD.1
   have I4:=Inv.track (o:=.lst (lx (fun i=>zs.getD i 0) ws .non)) I3 fD ⟨by rw[(c4 _ _ _).length_eq];exact hz,_,c,hv,e⟩
   have G:=(g1.trans g2).trans g3
   refine⟨.ref Dn,_,I4.unpinned,rfl,q Dn _ _ HF3 (G.trans (.own G.fh hnD)) (G.hh.free hnD) (G.fh.free hnD) aE (hr.mono g3.ff)⟩
end
end Dl
namespace Srt
open PySem PySem.W PySem.Calls PyProof.Rows L2
section
theorem iadd_rng{R:Result->Shared->Prop}{a b c:Int}{t u v:Tok}{n:Nat}(hh:A.handled=none)(hr:IsRange s.heap r a b c t u v)(hsmall:Builtin.Range.small a b c=true)(hn:Builtin.Range.rangeSize a b c=n)(hlen:n<=2 ^ 24)
  (hS:s.heap.get? S=some { cls:=.type "list",data:=.seq #[] })
  (hR:∀h' tk acc' c',(∀b o,b≠S->s.heap.get? b=some o->h'.get? b=some o)->h'.get? S=some { cls:=.type "list",dict:=none,data:=.seq acc' c',slots:=#[] } ->
   ItemsOf (fun i v=>∃t,v=.int (a+i * c) t) acc' n->R (.ok (.ret (.ref S))) { s with heap:=h',toks:=tk }):codeAny (model prog w) A (.builtin "list.__iadd__" ⟨[.ref S,.ref r],[]⟩) R s:=by
 refine kJ entry_list_iadd' ?_
 rw[Around.under_plainId (by decide +kernel:plainId "list.__iadd__"=true) _]
 exact wpAny_extend_range (A:=A) hh hr hsmall hn hlen S (.ref S) _ hS hR
theorem collect_rng{a:Int}{n:Nat}(hh:A.handled=none)(hr:IsRange s.heap r a b c t u v)(hsmall:Builtin.Range.small a b c=true)(hn:Builtin.Range.rangeSize a b c=n)(hlen:n<=2 ^ 24)
  (h:∀h' tk acc,(∀b o,s.heap.get? b=some o->h'.get? b=some o)->ItemsOf (fun i v=>∃t,v=.int (a+i * c) t) acc n->Q acc.toList { s with heap:=h',toks:=tk }):wpAny (model prog w) A (collect (.ref r)) Q E s:=by
 unfold collect
 refine zX (wpAny_runValue (kJ entry_proto_collect' ?_))
 rw[Around.under_plainId (by decide +kernel:plainId "proto.collect"=true) _]
 show wpAny _ A.in1 (newList [] >>= fun l=>again (.builtin "list.__iadd__" ⟨[l,.ref r],[]⟩)) _ _ s
 refine zX (qP ?_)
 have hS:(s.heap.push { cls:=.type "list",data:=.seq #[] }).get? s.heap.objs.size=some { cls:=.type "list",data:=.seq #[] }:=zZ _ rfl
 refine zY ⟨plainId_quiet (by decide +kernel) _,iadd_rng (s:={ s with heap:=s.heap.push { cls:=.type "list",data:=.seq #[] } }) hh (zW _ hr) hsmall hn hlen hS fun h' tk acc' c' hk hS' hacc=>?_⟩
 show wpAny _ A (load s.heap.objs.size >>= _) _ _ _
 refine zX (wpAny_load hS' ?_)
 exact zY (h h' tk acc' (fun b o e=>hk b o (yU (yA e)) (zW _ e)) hacc)
end
section
theorem sortedR{l:Value}{f:Addr}{PV:List Value->Prop}{Q:Value->Shared->Prop}(I:Inv X pins σ H s)
  (hcol:∀ {Q':List Value->Shared->Prop},(∀ (h':Heap) (tk:Nat) (vs:List Value),PV vs->(∀b o,s.heap.get? b=some o->h'.get? b=some o)->Q' vs { s with heap:=h',toks:=tk })->wpAny (model X.prog X.w) A.in1 (collect l) Q' E s)
  (rest:∀vs,PV vs->vs.length < 64/\∃J:List Value->Hp->Prop,J [] H /\
   (∀us v,vs[us.length]?=some v->∀pl s' H',Inv X (pins++pl) σ H' s'->J us H'->wpAny (model X.prog X.w) A.in1.in1 (call (.ref f) [v]) (fun u s''=>∃H'',Inv X (pins++pl) σ H'' s''/\J (us++[u]) H'') (fun _ _=>False) s') /\
   (∀us H',us.length=vs.length->J us H'->∃ (z:Nat->Int) (κ:SortKind),(2<=vs.length->∀s',Inv X pins σ H' s'->(∀Q':SortKind->Shared->Prop,Q' κ s'->wpAny (model X.prog X.w) A.in1.in1 (keyKind' us.toArray) Q' (fun _ _=>False) s') /\
    ∀i j C,i < vs.length->j < vs.length->C (SP.dA z i j) s'->kas_ask X.prog X.w A.in1.in1 κ us i j C s') /\
   ∀s' D c,Inv X pins σ H' s'->b8 X pins H' D->s'.heap.get? D=some (seqObj "list" (outV z vs).toArray c)->Q (.ref D) s')) :
  wpAny (model X.prog X.w) A (call (.builtin "sorted") [l] [(Str.ofString "key",.ref f)]) Q E s:=by
 refine call_function_entry_kw kind_sorted plain_sorted entry_sorted (ksk_s1 _ _) ?_
 unfold Builtin.«sorted»
 refine zX (m:=checkCount "sorted" 1 1 _) (zY (zX (hcol fun h1 tk vs hv kp=>?_)))
 obtain⟨h64,J,j0,step,fin⟩:=rest vs hv
 have hsl:vs.length<=sizeLine:=by rw[qY];omega
 refine zX (kR ?_ (by simpa using hsl))
 have I1:=I.kept (t':=tk) kp
 have fD:b8 X pins H h1.objs.size:=I1.fpOk (yP _) (I1.hok.fresh (yP _))
 have hoD:(h1.push (seqObj "list" vs.toArray 0)).get? h1.objs.size=some (seqObj "list" vs.toArray 0):=zZ _ rfl
 have I2:=I1.kept (t':=tk) (h':=h1.push (seqObj "list" vs.toArray 0)) fun b o e=>zW _ e
 show wpAny _ _ _ _ _ { s with heap:=h1.push (seqObj "list" vs.toArray 0),toks:=tk }
 refine zX (qA (wpAny_call_entry_kw slot_list_sort ⟨_,hoD,rfl⟩ entry_list_sort ?body (ksk_l1 _ _)))
 case body =>
  show wpAny (model X.prog X.w) A.in1.in1 (Builtin.«list.sort» ⟨[.ref h1.objs.size],[(Str.ofString "key",.ref f)]⟩) _ _ _
  rw[ksk_t1]
  refine list_sortK I2 hoD fD h64 J j0 step fun us H' hu j'=>?_
  obtain⟨z,κ,hz,hP⟩:=fin us H' hu j'
  exact⟨z,κ,hz,fun s' c I' f' e=>⟨_,rfl,zY ⟨_,rfl,hP s' _ c I' f' e⟩⟩⟩
end
end Srt
namespace Dl
open PySem L2 PySem.Spec PyProof.Rows
def pE(n:Nat):List D:=(List.range n).map fun i=>PyData.int ((i:Nat):Int)
def pG(cs:List Nat)(fs:Env->Option (List D))(te:Env->Option D):Env->Option (List D):=fun ρ=>(fs ρ).bind fun l=>match l with
 | [.int n]=>if 0<=n/\n < 64 then (gT te (dz 1 cs ρ) (pE n.toNat)).bind fun ks=>(rowsOf ks).map fun nss=>lx (fun i=>rk nss (nss.getD i [])) (pE n.toNat) .none else none
 | _=>none
theorem rA:∀ {vs:List Value}{k:Nat},(∀i v,vs[i]?=some v->∃t,v=Value.int ((k+i:Nat):Int) t)->aG ((List.range' k vs.length).map fun i=>V.int ((i:Nat):Int)) vs
 | [],k,_=>.nil
 | v::vs,k,h=>by
  rw[zO,vH,zL]
  obtain⟨t,e⟩:=h 0 v rfl
  refine .cons ⟨t,by simpa using e⟩ (rA fun i u hu=>?_)
  obtain⟨t',e'⟩:=h (i+1) u (by simpa using hu)
  exact⟨t',by rw[e'];congr 1;omega⟩
theorem rH{K:W.Frag}:∀ (l:List Nat),ak K HF (l.map fun i=>PyData.int ((i:Nat):Int)) (l.map fun i=>V.int ((i:Nat):Int))
 | []=>ak.nil
 | i::l=>ak.cons (by simp[Rep]) (rH l)
section
variable {cs:List Nat}
theorem Bk.sortR(C:Bk X N sc (k+3))(B:nO X "sorted" (.builtin "sorted"))(BR:nO X "range" (.type "range"))(L:oY X qual)(ok:iq sc scope N N' 1 cs=true)(hl:nq scope N' p=true)
  (hb:∀ (cl:List (Str×Addr)) (pm ctv u:Value) (c:Addr),bindArgs (W.kla_fn "<lambda>" qual params body scope cl pm (.ref c) ctv) ⟨[u],[]⟩=pure [(p,u)]) (hdef:defaultsOf params X.env=([],[])) (h:DA X [e] fs)
  (hY:∀A f c s H,Bk (fX X A qual scope N' f c s H) N' scope k->DE (fX X A qual scope N' f c s H) body te)
  (hsR:starEach [e] X.env=[(false,eval e X.env)])
  (hst:starEach [.Call (.Name "range" p1) [e] [] rpos] X.env=(false,eval (.Call (.Name "range" p1) [e] [] rpos) X.env)::starEach [] X.env) (he:backTo pos (starEach [.Call (.Name "range" p1) [e] [] rpos] X.env)=(false,eval (.Call (.Name "range" p1) [e] [] rpos) X.env)::backTo pos (starEach [] X.env)) (hpl:(backTo pos (starEach [.Call (.Name "range" p1) [e] [] rpos] X.env)).any (·.1)=false) :
  DF X (.Call (.Name "sorted" p0) [.Call (.Name "range" p1) [e] [] rpos] [⟨some "key",.Lambda params body scope lpos,kpos⟩] pos) (pG cs fs te):=by
 obtain⟨S,_⟩:=C.comp ok
 have hnd:N'.Nodup:=by
  unfold iq at ok
  simp only[zI,zM] at ok
  exact ok.2
 have hl':=hl
 unfold nq at hl'
 simp only[zI,xJ,yS,xE,zM] at hl'
 obtain⟨⟨⟨⟨hnc,hN0⟩,hp⟩,hco⟩,hgen⟩:=hl'
 obtain⟨cc,P,hcode,hqual,hhd,ee⟩:=L.ex
 intro pins s σ H Q I ⟨HF,ρ,out,sm,eo,hf,q⟩
 obtain⟨ld,hld,hf⟩:=bs hf
 obtain⟨n,rfl⟩:∃n,ld=[.int n]:=by
  split at hf
  ·exact⟨_,rfl⟩
  ·cases hf
 simp only at hf
 split at hf
 rotate_left
 ·cases hf
 rename_i h64
 obtain⟨ks,hks,hf⟩:=bs hf
 obtain⟨nss,hns,rfl⟩:=af hf
 obtain⟨hkr,hne⟩:=jg hns
 refine jB (iu I B.gl B.mg B.bt ?_ (by decide) (by decide))
 refine PyProof.Rows.callWith_kw (e:=.Call (.Name "range" p1) [e] [] rpos) (rest:=[]) (kws:=[⟨some "key",.Lambda params body scope lpos,kpos⟩]) ?_ he hpl rfl rfl
 rw[he]
 refine Calls.spliced_cons ?_
 refine Call_ (iu I BR.gl BR.mg boot_range (qV (bZ (h rpos pins s σ H _ I ⟨HF,ρ,[.int n],sm,eo,hld,fun vs H1 HF1 g1 r1=>(⟨HF1,g1,r1⟩:∃HF1,bJ HF H HF1 H1/\ak X.K HF1 [.int n] vs)⟩) fun us s1 ⟨vs,H1,I1,rv,HF1,g1,r1⟩=>?_) hsR rfl))
 obtain⟨v,vr,rfl,a1,b1⟩:=r1.cons_inv
 rw[b1.nil_inv] at rv
 obtain⟨u,rfl,rx⟩:=vals1 rv
 simp only[Rep] at a1
 subst a1
 obtain⟨t,rfl⟩:=rx
 refine call_range_1 ?_
 refine Calls.spliced_nil ?_
 obtain⟨hn0,hn64⟩:=h64
 have I1':=I1.kept (t':=s1.toks+1+1) (h':=s1.heap.push { cls:=Value.type "range",data:=Data.fields #[Value.int 0 s1.toks,Value.int n t,Value.int 1 (s1.toks+1)] }) fun b o e=>zW _ e
 have hro:(s1.heap.push { cls:=Value.type "range",data:=Data.fields #[Value.int 0 s1.toks,Value.int n t,Value.int 1 (s1.toks+1)] }).get? s1.heap.objs.size=some { cls:=Value.type "range",data:=Data.fields #[Value.int 0 s1.toks,Value.int n t,Value.int 1 (s1.toks+1)] }:=zZ _ rfl
 have Ir:=I1'.pinned (fp:=[s1.heap.objs.size]) (fun b hb=>by rw[List.mem_singleton.mp hb];exact I1.fpOk (yP _) I1.fresh) (fun b hb=>by rw[List.mem_singleton.mp hb];exact⟨_,hro,fun v z=>by cases z⟩)
 have hT1:H1 P=some (.tab qual):=g1.fh _ _ (ee HF1 (eo.tb.mono g1.ff))
 show wpAny _ _ (evalAll ((do let v <- eval (.Lambda params body scope lpos) X.env;standAt pos;pure v)::[])) _ _ _
 refine wpAny_evalAll_cons (zX ?_)
 refine vg (P:=P) Ir S hqual hcode (W.codeHd_of_K Ir.ok.mod.kin hhd) hT1 Ir.ok.mod.bmd hdef fun f c' pm ctv s2 H2 I2 hfo hfn hcod s12 fp2 _=>?_
 refine zX (vE (zY (wpAny_evalAll_nil ?_)))
 show wpAny _ _ (call (.builtin "sorted") [.ref s1.heap.objs.size] [(Str.ofString "key",.ref f)]) _ _ s2
 have hr2:IsRange s2.heap s1.heap.objs.size 0 n 1 s1.toks t (s1.toks+1):=(Srt.pin_get I2 zH hro).1
 have Ip:=I2.pinned (fp:=[f]) (fun b hb=>by rw[List.mem_singleton.mp hb];exact fp2) (fun b hb=>by rw[List.mem_singleton.mp hb];exact⟨_,hfo,fun v z=>by cases z⟩)
 have g2:bJ HF1 H1 HF1 H2:=⟨s12,.refl _,g1.fh.trans s12,fun _ _ e=>.inl e⟩
 have hkl:=mV hks
 have hnl:(pE n.toNat).length=n.toNat:=by simp[pE]
 have hR:eD (k+1) X.A.in1.in1:=C.room.in1.in1
 refine Srt.sortedR (PV:=fun vs=>vs.length=n.toNat/\∀i v,vs[i]?=some v->∃t,v=Value.int ((i:Nat):Int) t) Ip (fun {Q'} hQ=>?_) fun its ⟨hil,hiv⟩=>⟨by omega,fun us H'=>∃HF' kvs,bJ HF1 H2 HF' H'/\ak X.K HF' (ks.take us.length) kvs/\aG kvs us,⟨HF1,[],.refl g2.fh,by simpa using ak.nil,.nil⟩,fun us x hx pl' s3 H3 I3 ⟨HF3,kvs,g3,rk,rvk⟩=>?_,fun us H3 hu ⟨HF3,kvs,g3,rk,rvk⟩=>?_⟩
 ·refine Srt.collect_rng (n:=n.toNat) C.room.in1.hd hr2 (small_one (by omega) (by omega) (by omega) (by omega)) (by rw[rangeSize_one];split<;>omega) (by omega) fun h' tk acc kp ha=>?_
  refine hQ h' tk acc.toList ⟨by have:=ha.1;simpa using this,fun i v hv=>?_⟩ kp
  obtain⟨t',e'⟩:=ha.2 i v (by simpa using hv)
  exact⟨t',by rw[e'];congr 1;omega⟩
 ·have hi:us.length < n.toNat:=by rw[<- hil];exact (List.getElem?_eq_some_iff.mp hx).1
  obtain⟨tx,rfl⟩:=hiv _ _ hx
  have hd:(pE n.toNat)[us.length]?=some (.int ((us.length:Nat):Int)):=by simp[pE,hi]
  obtain⟨kd,hkd,hki⟩:=pe hks hd
  have hfo3:s3.heap.get? f=some (W.kla_obj "<lambda>" qual params body scope (dC X.env scope.names []) pm c' ctv) :=
   (I3.pin (f,_) (yG _ (qM _ (yG _ (cT zH hfo))))).1
  refine xD (vj (v:=V.int ((us.length:Nat):Int)) (Q:=fun v H4=>∃HF4,bJ HF3 H3 HF4 H4/\Rep X.K HF4 kd v) (te:=tD X.K te) I3 hR I3.ok.frames S hnc hN0 hp hnd hco hgen hfo3 (g3.hh _ _ hcod) (hb _ _ _ _ _) ⟨tx,rfl⟩ (hY _ _ _ _ _ (Eo C hR S.kind hnd hl))
   ⟨HF3,_,kd,g3.fh,vd (eo.mono (g1.ff.trans g3.ff)) (by simp[Rep]),hkd,fun v H4 HF4 g4 r4=>⟨HF4,g4,r4⟩⟩) (fun u s4 ⟨v4,H4,I4,r4,HF4,g4,rp⟩=>⟨H4,I4,HF4,kvs++[v4],g3.trans g4,?_,rvk.append (.cons r4 .nil)⟩) fun _ _ e=>e
  rw[zQ,xF,wU,hki]
  exact (rk.mono g4.ff).append (ak.cons rp ak.nil)
 ·have hk':ks.take us.length=ks:=kM (by omega)
  rw[hk',hkr] at rk
  have hnn:nss.length=n.toNat:=by
   have:=jF List.length hkr
   rw[zF] at this
   omega
  refine⟨fun i=>Dl.rk nss (nss.getD i []),tuples' true,fun h2 s3 I3=>⟨fun Q' q'=>?_,fun i j Cc hi hj q'=>?_⟩,fun s3 Dn c I3 fD e=>?_⟩
  ·obtain⟨fs',tt,hlen,hff⟩:=pM (ou I3 g3.fh rk rvk) hne
   refine W.kat_kind (T:=.type "int") tt (by omega) (fun v hv=>?_) (by decide) q'
   obtain⟨n',t',rfl⟩:=hff v hv
   exact W.Looks.of_pure rfl
  ·have hp3:=ou I3 g3.fh rk rvk
   have ri:=ft (d:=Value.none) (d':=[]) hp3 (show i < us.length by omega)
   have rj:=ft (d:=Value.none) (d':=[]) hp3 (show j < us.length by omega)
   obtain⟨a,o,its1,n1,ea,e1,e2,e3,e4⟩:=ri.ex
   obtain⟨b,o',its',n',eb,f1,f2,f3,f4⟩:=rj.ex
   unfold W.kas_ask
   rw[ea,eb]
   have hmem:nss.getD i []∈nss:=by
    rw[zJ,zN (by omega)]
    exact qD _
   have q2:Cc (lexLt (nss.getD i []) (nss.getD j [])) s3:=by
    rw[Aj hmem]
    exact q'
   refine W.kat_lt e1 e3 f1 f3 ?_
   have:=pd (prog:=X.prog) (w:=X.w) (A:=X.A.in1.in1) (s:=s3) 0 e4 f4 q2
   have l1:its1.size=(nss.getD i []).length:=by have:=vY e4;simpa using this
   have l2:its'.size=(nss.getD j []).length:=by have:=vY f4;simpa using this
   rw[l1,l2]
   exact this
  ·have rvi:aG ((List.range n.toNat).map fun i=>V.int ((i:Nat):Int)) its:=by
    have:=rA (vs:=its) (k:=0) fun i v hv=>by
     obtain⟨t',e'⟩:=hiv i v hv
     exact⟨t',by rw[e'];congr 1;omega⟩
    rw[hil,<- yJ] at this
    exact this
   have rr:ak X.K HF1 (pE n.toNat) ((List.range n.toNat).map fun i=>V.int ((i:Nat):Int)):=rH _
   have hv:=lG (fun i=>Dl.rk nss (nss.getD i [])) rvi
   have hr:=l8 (fun i=>Dl.rk nss (nss.getD i [])) rr
   have hnD:H3 Dn=none:=fD.1
   have I4:=Inv.track (o:=.lst (lx (fun i=>Dl.rk nss (nss.getD i [])) ((List.range n.toNat).map fun i=>V.int ((i:Nat):Int)) .non)) I3 fD ⟨by rw[(c4 _ _ _).length_eq,zF,zU,PySem.sizeLine_eq];omega,_,c,hv,e⟩
   have G:=(g1.trans g2).trans g3
   refine⟨.ref Dn,_,I4.unpinned.unpinned,rfl,q Dn _ _ HF3 (G.trans (.own G.fh hnD)) (G.hh.free hnD) (G.fh.free hnD) aE (hr.mono g3.ff)⟩
end
section
def E8(i j l:Nat):Env->D->Option Env:=fun ρ d=>match d with
 | .tuple [x,y,z]=>if isFree ρ i=true/\isFree ρ j=true/\isFree ρ l=true then some (((ρ.set i (some x)).set j (some y)).set l (some z)) else none
 | _=>none
theorem Ej(i j l:Nat)(hc:X.calm=true)(hN:X.N.Nodup)(hi:X.N[i]?=some x)(hx:Loc X.env.scope x)(hj:X.N[j]?=some y)(hy:Loc X.env.scope y)(hl:X.N[l]?=some z)(hz:Loc X.env.scope z)
  (hf:X.fn x=true\/X.env.scope.names.lookup x=some .local) (hf':X.fn y=true\/X.env.scope.names.lookup y=some .local) (hf'':X.fn z=true\/X.env.scope.names.lookup z=some .local) :
  DG X (.Tuple [.Name x px,.Name y py,.Name z pz] k pos) (E8 i j l) :=
 oQ (sV hc (cL (cP hN hi hx hf) (cL (cP hN hj hy hf') (cL (cP hN hl hz hf'') oh)))) fun v σ H Q ⟨HF,ρ,d,ρ',sm,eo,r,hf,q⟩=>by
  unfold E8 at hf
  split at hf
  ·rename_i x' y' z'
   split at hf
   ·rename_i hh
    cases hf
    simp only[Rep] at r
    obtain⟨a,vs,rfl,hs,rr⟩:=r
    obtain⟨v1,r1,rfl,a1,b1⟩:=rr.cons_inv
    obtain⟨v2,r2,rfl,a2,b2⟩:=b1.cons_inv
    obtain⟨v3,r3,rfl,a3,b3⟩:=b2.cons_inv
    rw[b3.nil_inv] at hs
    exact⟨a,_,rfl,aD sm hs,rfl,v1,_,rfl,v2,_,rfl,v3,_,rfl,rfl,q _ (hV (hV (hV eo a1) a2) a3) (j3 (j3 (j3 eo hh.1) hh.2.1) hh.2.2)⟩
   ·cases hf
  ·cases hf
end
section
end
section
end
section
end
section
end
section
end
section
end
section
end
def LU:List Int->D
 | [x,y,m]=>.tuple [.tuple [.int x,.int y],.int m]
 | _=>.none
def mC:D->Option (List Int)
 | .tuple [.tuple [.int x,.int y],.int m]=>some [x,y,m]
 | _=>none
theorem nJ(h:mC d=some r):d=LU r/\∃x y m,r=[x,y,m]:=by
 unfold mC at h
 split at h
 ·cases h;exact⟨rfl,_,_,_,rfl⟩
 ·cases h
structure Nm(h:Heap)(v:Value)(r:List Int):Prop where
 ex:∃ (a:Addr) (o:Obj) (n:Nat) (p:Value) (x y m:Int) (t:Tok),v=.ref a/\r=[x,y,m]/\h.get? a=some o/\o.cls=.type "tuple"/\o.data=.seq #[p,.int m t] n/\um h p [x,y]
section
end
section
end
end Dl
namespace HT
open PySem PyProof.Rows
section
open PySem.SeqAt
open PySem.AutoSeq1 (wpAny_loadPart')
open PySem.MeetsSeq PySem.MeetsSeq2 PySem.MeetsSeq3
end
end HT
namespace Dl
open PySem L2 PySem.Spec PyProof.Rows
section
end
section
def iz:List D->Option (List (List Int))
 | []=>some []
 | d::r=>(oq d).bind fun ns=>(iz r).map (ns::·)
end
section
end
section
variable {fl te:Env->Option D}{cs:List Nat}
end
section
end
section
def AR:Expr->Bool
 | .Call ..=>true
 | .Subscript ..=>true
 | .Name ..=>true
 | _=>false
def yr(i j l:Nat)(fz:List Nat)(f:Env->Option D):ar->Option Out:=fun ρ=>(f (bx (hand fz 0 ρ))).bind fun d=>match d with
 | .tuple [x,y,z]=>some (.nx ((((if bQ (.tuple [x,y,z])=true then ρ else hand fz 0 ρ).set i (.val x)).set j (.val y)).set l (.val z)))
 | _=>none
theorem C0(i j l:Nat)(fz:List Nat)(hc:X.calm=true)(hN:X.N.Nodup)(hi:X.N[i]?=some x)(hx:Loc X.env.scope x)(hj:X.N[j]?=some y)(hy:Loc X.env.scope y)(hl:X.N[l]?=some z)(hz:Loc X.env.scope z)(hp:AR e=true)(he:DE X e f)
  (h1:X.fn x=true\/X.env.scope.names.lookup x=some .local) (h2:X.fn y=true\/X.env.scope.names.lookup y=some .local) (h3:X.fn z=true\/X.env.scope.names.lookup z=some .local):DS X HF₀ H₀ (.Assign [.Tuple [.Name x px,.Name y py,.Name z pz] m pt] e pos) (yr i j l fz f) :=
 cf (xr he (sV hc (cL (cP hN hi hx h1) (cL (cP hN hj hy h2) (cL (cP hN hl hz h3) oh)))) (by cases e<;>first|rfl|cases hp) (by cases e<;>first|rfl|cases hp)) fun E σ H ⟨HF,ρ,o,S,hg,q⟩=>by
  unfold yr at hg
  obtain⟨d,h,hg⟩:=bs hg
  split at hg
  ·rename_i u v t
   cases hg
   obtain⟨HF1,s1,S1⟩:=S.hand fz
   refine⟨HF1,_,.tuple [u,v,t],S1.gr.fh,S1.frz,h,fun w H' HF' G r=>?_⟩
   simp only[Rep] at r
   obtain⟨a,vs,rfl,hs,rr⟩:=r
   obtain⟨v1,r1,rfl,a1,b1⟩:=rr.cons_inv
   obtain⟨v2,r2,rfl,a2,b2⟩:=b1.cons_inv
   obtain⟨v3,r3,rfl,a3,b3⟩:=b2.cons_inv
   rw[b3.nil_inv] at hs
   refine⟨a,_,rfl,aD G.fh hs,rfl,v1,_,rfl,v2,_,rfl,v3,_,rfl,rfl,?_⟩
   by_cases hn:bQ (.tuple [u,v,t])=true
   ·rw[yO hn] at q
    obtain⟨HF2,s2,S2,hb,_⟩:=S.back S1 s1 G
    simp only[bQ,cQ,zI,Bool.and_true] at hn
    exact q _ H' HF2 (((S2.setV (hb u v1 hn.1 a1)).setV (hb v v2 hn.2.1 a2)).setV (hb t v3 hn.2.2 a3)) s2
   ·rw[yQ hn] at q
    exact q _ H' HF' ((((S1.grow G).setV a1).setV a2).setV a3) (s1.trans G.ff)
  ·cases hg
end
end Dl
namespace Wm
def BI(x:Int):List Int->List Int
 | []=>[x]
 | y::l=>if x<=y then x::y::l else y::BI x l
def fI:List Int->List Int
 | []=>[]
 | x::l=>BI x (fI l)
theorem mM(x:Int):∀l:List Int,(BI x l).Perm (x::l)
 | []=>.refl _
 | y::l=>by
  unfold BI
  split
  ·exact .refl _
  ·exact ((mM x l).cons y).trans (.swap x y l)
theorem ju:∀l:List Int,(fI l).Perm l
 | []=>.refl _
 | x::l=>(mM x (fI l)).trans ((ju l).cons x)
theorem vt(x:Int):∀ {l:List Int},l.Pairwise (·<=·)->(BI x l).Pairwise (·<=·)
 | [],_=>vJ _ _
 | y::l,h=>by
  rw[List.pairwise_cons] at h
  unfold BI
  split
  ·rename_i c
   exact List.pairwise_cons.mpr ⟨fun z hz=>by
    rcases List.mem_cons.mp hz with e|e
    ·rw[e];exact c
    ·exact jW c (h.1 z e),List.pairwise_cons.mpr h⟩
  ·rename_i c
   refine List.pairwise_cons.mpr ⟨fun z hz=>?_,vt x h.2⟩
   rcases List.mem_cons.mp ((mM x l).mem_iff.mp hz) with e|e
   ·rw[e];omega
   ·exact h.1 z e
theorem oV:∀l:List Int,(fI l).Pairwise (·<=·)
 | []=>.nil
 | x::l=>vt x (oV l)
theorem oO:∀ {l m:List Int},l.Perm m->l.Pairwise (·<=·)->m.Pairwise (·<=·)->l=m
 | l,[],hp,_,_=>hp.eq_nil
 | [],x::m,hp,_,_=>absurd hp.symm.eq_nil (by simp)
 | y::l,x::m,hp,h1,h2=>by
  rw[List.pairwise_cons] at h1 h2
  have e:y=x:=by
   have hx:x∈y::l:=hp.mem_iff.mpr zH
   rcases List.mem_cons.mp hx with z|hx
   ·exact z.symm
   ·have hy:y∈x::m:=hp.mem_iff.mp zH
    rcases List.mem_cons.mp hy with z|hy
    ·exact z
    ·have:=h1.1 x hx
     have:=h2.1 y hy
     omega
  subst e
  rw[oO ((List.perm_cons y).mp hp) h1.2 h2.2]
end Wm
namespace Dl
open PySem L2 PySem.Spec PyProof.Rows
theorem F3(ns:List Int):(lx (fun i=>ns.getD i 0) ns 0).Pairwise (·<=·):=by
 unfold lx
 split
 ·rename_i hl
  match ns,hl with
  | [],_=>exact List.Pairwise.nil
  | [a],_=>exact vJ _ _
 ·rename_i hl
  obtain⟨hp,hs⟩:=SP.dY (z:=fun i=>ns.getD i 0) (n:=ns.length) (by omega)
  rw[jH] at hs ⊢
  exact hs.imp fun {i j} hij=>hij
theorem D6(ns:List Int):lx (fun i=>ns.getD i 0) ns 0=Wm.fI ns :=
 Wm.oO ((c4 _ _ _).trans (Wm.ju ns).symm) (F3 ns) (Wm.oV ns)
theorem Ep(z:Nat->Int)(ns:List Int):lx z (ns.map PyData.int) .none=(lx z ns 0).map PyData.int:=by
 unfold lx
 rw[zF]
 split
 ·rfl
 ·rename_i h
  rw[zP]
  obtain⟨hp,_⟩:=SP.dY (z:=z) (n:=ns.length) (by omega)
  refine yK fun i hi=>?_
  have hi':i < ns.length:=by have:=hp.mem_iff.mp hi;simpa using this
  simp[hi']
section
theorem sorted_ints(hl:Srt.Coll s.heap l vs)(hp:IntsAre vs ns)(h64:vs.length < 64)
  (h:∀ (h':Heap) (D:Addr) (c:Nat),(∀b o,s.heap.get? b=some o->h'.get? b=some o)->s.heap.objs.size<=D->h'.get? D=some (seqObj "list" (Srt.outV (fun i=>ns.getD i 0) vs).toArray c)->Q (.ref D) { s with heap:=h' }) :
  wpAny (model prog w) A (call (.builtin "sorted") [.ref l]) Q E s:=by
 refine Srt.sortedG hl h64 (fun i=>ns.getD i 0) oneType' (fun h2 h' kp Q' q=>?_) (fun h2 h' kp i j C hi hj q=>?_) h
 ·rw[PyProof.Rows.ksk_kind (keys:=vs.toArray) (kz:=ns) (by simpa using hp) (by simpa using h2)]
  exact zY q
 ·have hlen:=vY hp
  obtain⟨t1,e1⟩:=dq hp (i:=i) (by omega)
  obtain⟨t2,e2⟩:=dq hp (i:=j) (by omega)
  unfold PySem.W.kas_ask
  rw[e1,e2]
  exact PySem.W.kat_lt_int q
theorem mw:dy X (.builtin "sorted") (fun xs H Q=>∃ (HF:Hp) (a:Addr) (vs:List V) (ns:List Int),xs=[.ref a]/\aP HF H/\(eK X.K HF a vs\/gw X.K HF a vs)/\ak X.K HF (ns.map PyData.int) vs/\ns.length < 64 /\
  ∀ (Dn:Addr) (us:List V),H Dn=none->ak X.K HF ((Wm.fI ns).map PyData.int) us->Q (.ref Dn) (upd H Dn (.lst us))):=by
 intro pins s σ H xs us Q I r h
 obtain⟨HF,a,vs,ns,rfl,sm,hq,rr,h64,q⟩:=h
 obtain⟨u,rfl,rx⟩:=vals1 r
 cases rx
 obtain⟨its,rv,pl,hz⟩:∃its:List Value,aG vs its/\Srt.Coll s.heap a its/\vs.length<=sizeLine:=by
  rcases hq with hq|hq
  ·obtain⟨its,rv,pl,hz⟩:=I.list (sm.seq hq)
   obtain⟨o,ho,hc,n,hd⟩:=pl.isList
   exact⟨its,rv,⟨o,"list",n,.inl rfl,ho,hc,hd⟩,hz⟩
  ·obtain⟨its,rv,pl,hz⟩:=I.tuple (aD sm hq)
   obtain⟨o,ho,hc,n,hd⟩:=(show s.heap.IsTuple a its.toArray from pl)
   exact⟨its,rv,⟨o,"tuple",n,.inr rfl,ho,hc,hd⟩,hz⟩
 have hl1:=rr.length
 rw[zF] at hl1
 have ia:IntsAre its ns:=by
  have e:=gS rr
  subst e
  exact intsAre_of rv
 refine sorted_ints pl ia (by have:=rv.length;omega) fun h' Dn c kp hD e=>?_
 have hv:=lG (fun i=>ns.getD i 0) rv
 have hr:=l8 (fun i=>ns.getD i 0) rr
 rw[Ep,D6] at hr
 refine⟨.ref Dn,_,I.laid (t':=s.toks) (o:=.lst (lx (fun i=>ns.getD i 0) vs .non)) kp hD ⟨?_,_,c,hv,e⟩,rfl,q Dn _ (I.hok.fresh hD) hr⟩
 rw[(c4 _ _ _).length_eq]
 exact hz
def gh:List D->Option (List D):=fun ds=>(oneOf ds).bind fun d=>match d with
 | .list es=>(intsOf es).bind fun ns=>if ns.length < 64 then some ((Wm.fI ns).map PyData.int) else none
 | .tuple es=>(intsOf es).bind fun ns=>if ns.length < 64 then some ((Wm.fI ns).map PyData.int) else none
 | _=>none
theorem C4(B:nO X "sorted" (.builtin "sorted"))(ha:DA X [e] fs)(he:starEach [e] X.env=(false,eval e X.env)::starEach [] X.env:=by rfl):DF X (.Call (.Name "sorted" p) [e] [] pos) (fF gh fs) :=
 vc mw (by
  intro HF H ds vs d Q sm r hg q
  obtain⟨x,hx,hg⟩:=bs hg
  rw[dP hx] at r
  have key:∀ (b:Bool) (es:List D),ak X.K HF [if b then .tuple es else .list es] vs->((intsOf es).bind fun ns=>if ns.length < 64 then some ((Wm.fI ns).map PyData.int) else none)=some d->(∃ (HF:Hp) (a:Addr) (us:List V) (ns:List Int),vs=[.ref a]/\aP HF H/\(eK X.K HF a us\/gw X.K HF a us)/\ak X.K HF (ns.map PyData.int) us/\ns.length < 64/\∀ (Dn:Addr) (ws:List V),H Dn=none->ak X.K HF ((Wm.fI ns).map PyData.int) ws->Q (.ref Dn) (upd H Dn (.lst ws))):=fun b es r hg=>by
   obtain⟨ns,hb,hg⟩:=bs hg
   split at hg
   ·rename_i h64
    cases hg
    obtain⟨v,r',rfl,a,e0⟩:=r.cons_inv
    rw[e0.nil_inv]
    have e1:=cx hb
    obtain⟨p,us,rfl,h,rr⟩:∃p us,v=.ref p/\(eK X.K HF p us\/gw X.K HF p us)/\ak X.K HF es us:=by
     cases b
     ·simp only[yR,qT,Rep] at a
      obtain⟨p,us,rfl,h,rr⟩:=a
      exact⟨p,us,rfl,.inl h,rr⟩
     ·simp only[xK,Rep] at a
      obtain⟨p,us,rfl,h,rr⟩:=a
      exact⟨p,us,rfl,.inr h,rr⟩
    rw[e1] at rr
    exact⟨HF,p,us,ns,rfl,sm,h,rr,h64,fun Dn ws hD hr=>q Dn ws _ HF (.own sm hD) hD (sm.free hD) aE hr⟩
   ·cases hg
  cases x<;>try cases hg
  ·exact key false _ r hg
  ·exact key true _ r hg) B ha (by decide) (by decide) he rfl
end
end Dl
namespace Rf
open PySem L2 Dl PySem.Spec PyProof.Rows
structure Tr where
 e:Expr->Option (Dl.Env->Option D)
 f:Expr->Option (Dl.Env->Option (List D))
 t:Expr->Option (Dl.Env->Option Bool)
structure Sg where
 fn:List (Str×Nat×(List D->Option D))
 int:List (Str×Int)
abbrev FE:=Dl.Env->Option D
def yh(G:Sg)(sc:Scope)(N:List Str)(x:Str):Option FE:=match N.idxOf? x with
 | some i=>if wg N sc i x=true then some (ab i) else none
 | none=>if (B5 sc x&&!(x == ("__debug__":Str)))=true then (G.int.lookup x).map fun n=>fC (.int n) else none
def Ar:Const->Option FE
 | .int i=>some (fC (.int i))
 | .bool b=>some (fC (.bool b))
 | .none=>some (fC .none)
 | .str x=>some (fC (.str x))
 | _=>none
def Lg(T:Tr)(op:UnaryOp)(a:Expr):Option FE:=match op with
 | .USub=>(T.e a).map (f1 KF)
 | _=>none
def M4:Operator->Option (D->D->Option D)
 | .Add=>some aR
 | .Sub=>some Dl.dv
 | .Mult=>some ej
 | .FloorDiv=>some lK
 | .Mod=>some j8
 | _=>none
def HZ:Expr->Bool
 | .List ..=>true
 | .ListComp ..=>true
 | _=>false
def Ac:Expr->Bool
 | .List ..=>true
 | .ListComp ..=>true
 | .BinOp a .Mult _ _=>HZ a
 | .BinOp a .Add b _=>Ac a||Ac b
 | .Call (.Name x _) _ _ _=>x == ("sorted":Str)||x == ("list":Str)
 | _=>false
def CI(T:Tr)(whole a:Expr)(op:Operator)(b:Expr):Option FE :=
 if Ac whole=true then (T.f whole).map bT else (M4 op).bind fun g=>(T.e a).bind fun x=>(T.e b).map fun y=>f2 g x y
def sH(T:Tr)(op:BoolOp):List Expr->Option FE
 | []=>none
 | [a]=>T.e a
 | a::b::r=>(T.e a).bind fun x=>(sH T op (b::r)).map fun y=>match op with|.And=>gD x y|.Or=>MZ x y
def Lb:CmpOp->Option (D->D->Option D)
 | .Lt=>some Cf
 | .LtE=>some AX
 | .Gt=>some Cg
 | .GtE=>none
 | .Eq=>some bC
 | .NotEq=>some j6
 | .In=>none
 | .NotIn=>none
 | .Is=>some nS
 | .IsNot=>some nh
def Mn:CmpOp->Option (D->D->Option D)
 | .Lt=>some Cf
 | .LtE=>some AX
 | _=>none
def AB(T:Tr)(a:Expr)(ops:List CmpOp)(cs:List Expr):Option FE:=match ops,cs with
 | [op],[b]=>if behindInMarks op b=false then (Lb op).bind fun g=>(T.e a).bind fun x=>(T.e b).map fun y=>f2 g x y else none
 | [op,op'],[b,c]=>if lastMarks [op,op'] [b,c]=false then (Mn op).bind fun g=>(Mn op').bind fun g'=>(T.e a).bind fun x=>(T.e b).bind fun y=>(T.e c).map fun z=>iZ g g' x y z else none
 | _,_=>none
def tY(T:Tr):List Expr->Option (Dl.Env->Option (List D))
 | []=>some ae
 | e::es=>if isStar e=false then (T.e e).bind fun x=>(tY T es).map fun r=>aa x r else none
def Nc(T:Tr):Option Expr->Option (Dl.Env->Option (Option Int))
 | none=>some mQ
 | some e=>(T.e e).map Bx
def vo:Expr->Bool
 | .Slice ..=>true
 | .Tuple ..=>true
 | .Starred ..=>true
 | _=>false
def El(T:Tr)(a b:Expr):Option FE:=match b with
 | .Slice lo hi none _=>(T.e a).bind fun x=>(Nc T lo).bind fun l=>(Nc T hi).map fun h=>mT gG x l h
 | _=>if vo b=false then (T.e a).bind fun x=>(T.e b).map fun y=>f2 ao x y else none
def EX:List D->Option D:=fun ds=>(oneOf ds).bind fun d=>match d with
 | .list es=>(boolsOf es).map fun bs=>.bool (bs.any id)
 | _=>none
def mU:Expr->Option Expr
 | .Call (.Name x _) [e] [] _=>if x="set" then some e else none
 | _=>none
def Iv(x:Str):Option String:=if x="int" then some "int" else if x="bool" then some "bool" else if x="tuple" then some "tuple" else if x="list" then some "list" else none
def xk(G:Sg)(sc:Scope)(T:Tr)(whole:Expr)(x:Str)(args:List Expr):Option FE :=
 if (B5 sc x&&args.all fun e=>!isStar e)=true then
  match G.fn.lookup x with
  | some (n,m)=>if (args.isEmpty||x == ("__debug__":Str))=true then none else (tY T args).map fun fs=>ah n m fs
  | none =>
   if x="len" then (match args with
    | [e]=>(match mU e with
     | some e'=>if (B5 sc "set"&&!isStar e')=true then (T.e e').map fun y=>f1 jw y else none
     | none=>(tY T args).map fun fs=>aX bo fs)
    | _=>none)
   else if x="isinstance" then (match args with
    | [e,.Name y _]=>if B5 sc y=true then (Iv y).bind fun ty=>(T.e e).map fun z=>HJ ty z else none
    | _=>none)
   else if x="tuple" then (if args.length=1 then (tY T args).map fun fs=>aX aK fs else none)
   else if x="all" then (if args.length=1 then (tY T args).map fun fs=>aX lT fs else none)
   else if x="any" then (if args.length=1 then (tY T args).map fun fs=>aX EX fs else none)
   else if x="sum" then (if args.length=1 then (tY T args).map fun fs=>aX wz fs else none)
   else if x="min" then (if args.isEmpty=true then none else (tY T args).map fun fs=>aX qb fs)
   else if (x == ("list":Str)||x == ("sorted":Str))=true then (T.f whole).map bT
   else none
 else none
def AK:Expr->Bool
 | .Call ..=>true
 | _=>false
def yb(T:Tr)(o:Expr)(m:Str)(apos:Pos)(args:List Expr)(cpos:Pos):Option FE :=
 if (m == ("index":Str)&&apos.endLine == cpos.line&&!AK o)=true then (match args with
  | [e]=>if isStar e=false then (T.e o).bind fun x=>(T.e e).map fun y=>f2 nU x y else none
  | _=>none)
 else none
def Dx(G:Sg)(sc:Scope)(N:List Str)(T:Tr)(whole:Expr):Option FE:=match whole with
 | .Name x _=>yh G sc N x
 | .Constant c _ _=>Ar c
 | .UnaryOp op a _=>Lg T op a
 | .BinOp a op b _=>CI T whole a op b
 | .BoolOp op es _=>sH T op es
 | .Compare a ops cs _=>AB T a ops cs
 | .IfExp c a b _=>(T.t c).bind fun z=>(T.e a).bind fun x=>(T.e b).map fun y=>Mp z x y
 | .Tuple es _ _=>(tY T es).map aM
 | .Subscript a b _=>El T a b
 | .List ..=>(T.f whole).map bT
 | .ListComp ..=>(T.f whole).map bT
 | .Call (.Name x _) args [] _=>xk G sc T whole x args
 | .Call (.Name _ _) _ (_::_) _=>(T.f whole).map bT
 | .Call (.Attribute o m apos) args [] cpos=>yb T o m apos args cpos
 | _=>none
def LY(T:Tr)(op:BoolOp):List Expr->Option (Dl.Env->Option Bool)
 | []=>none
 | [a]=>T.t a
 | a::b::r=>(T.t a).bind fun x=>(LY T op (b::r)).map fun y=>match op with|.And=>nL x y|.Or=>mz x y
def Er:Expr->Bool
 | .Name ..=>true
 | .Call ..=>true
 | .Subscript ..=>true
 | _=>false
def stepT(T:Tr)(whole:Expr):Option (Dl.Env->Option Bool):=match whole with
 | .Compare a ops cs _=>(AB T a ops cs).map fB
 | .UnaryOp .Not a _=>(T.t a).map bA
 | .BoolOp op es _=>LY T op es
 | _=>if Er whole=true then (T.e whole).map fB else none
def sU:Expr->Bool
 | .Tuple ..=>true
 | _=>false
def L0(sc:Scope)(T:Tr)(tg iter:Expr):Option (Dl.Env->Option (List D)):=match iter with
 | .Call (.Name x _) args [] _ =>
  if x="range" then (match args with|[e]=>if (B5 sc "range"&&!isStar e)=true then (tY T args).map bq else none|_=>none)
  else if x="enumerate" then (match args with|[e]=>if (B5 sc "enumerate"&&!isStar e&&sU tg)=true then (tY T args).map bc else none|_=>none)
  else if x="zip" then (match args with|[e,e']=>if (B5 sc "zip"&&!isStar e&&!isStar e'&&sU tg)=true then (tY T args).map gN else none|_=>none)
  else (T.e iter).map aQ
 | .Set ..=>none
 | _=>(T.e iter).map aQ
def MO:Expr->Option (List Str)
 | .Name x _=>some [x]
 | .Tuple [.Name x _,.Name y _] _ _=>some [x,y]
 | _=>none
def Mu:Expr->Option (List Str)
 | .Tuple [.Name x _,.Name y _,.Name z _] _ _=>some [x,y,z]
 | tg=>MO tg
def eM(N:List Str)(scope:Scope):List Nat:=(List.range N.length).filter fun j=>match N[j]? with|some x=>decide (scope.names.lookup x=some .free)|none=>false
def Jd:Expr->Bool
 | .Set ..=>false
 | _=>true
def Ho(B:Tr)(ifs:List Expr):Option (Dl.Env->Option Bool):=match ifs with
 | []=>some fun _=>some true
 | [c]=>B.t c
 | _=>none
def tG(sc:Scope)(N:List Str)(T:Tr)(blk:Scope->List Str->Tr)(elt:Expr)(gens:List Comprehension)(scope:Scope):Option (Dl.Env->Option (List D)):=match gens with
 | [⟨tg,iter,ifs,as⟩] =>
  if as=0 then (Mu tg).bind fun xs =>
   if (iq sc scope N (xs++(eM N scope).filterMap fun j=>N[j]?) xs.length (eM N scope)&&(List.range xs.length).all fun i=>oz (xs++(eM N scope).filterMap fun j=>N[j]?) scope i (xs.getD i ""))=true then
    (L0 sc T tg iter).bind fun fi=>(Ho (blk scope (xs++(eM N scope).filterMap fun j=>N[j]?)) ifs).bind fun tt =>
     ((blk scope (xs++(eM N scope).filterMap fun j=>N[j]?)).e elt).map fun te=>aj xs.length (eM N scope) fi (match xs with|[_]=>fG 0|[_,_]=>fy 0 1|_=>E8 0 1 2) tt te
   else none
  else none
 | _=>none
def Ay:Arguments->Option Str
 | ⟨[],[⟨x,none,_⟩],none,[],[],none,[]⟩=>if x="number" then some x else if x="plan" then some x else none
 | _=>none
def rY(lam:Option Str)(sc:Scope)(N:List Str)(T:Tr)(lmb:Scope->List Str->Tr)(l:Expr)(params:Arguments)(body:Expr)(scope:Scope):Option (Dl.Env->Option (List D)) :=
 if (lam.isSome&&B5 sc "sorted"&&!isStar l)=true then
  (Ay params).bind fun p =>
   if (iq sc scope N (p::(eM N scope).filterMap fun j=>N[j]?) 1 (eM N scope)&&nq scope (p::(eM N scope).filterMap fun j=>N[j]?) p)=true then
    (T.e l).bind fun fl=>((lmb scope (p::(eM N scope).filterMap fun j=>N[j]?)).e body).map fun te=>mY (eM N scope) fl te
   else none
 else none
def sR(lam:Option Str)(sc:Scope)(N:List Str)(T:Tr)(lmb:Scope->List Str->Tr)(l:Expr)(params:Arguments)(body:Expr)(scope:Scope):Option (Dl.Env->Option (List D)):=match l with
 | .Call (.Name r _) [e] [] _ =>
  if (lam.isSome&&B5 sc "sorted"&&r == ("range":Str)&&B5 sc "range"&&!isStar e)=true then
   (Ay params).bind fun p =>
    if (iq sc scope N (p::(eM N scope).filterMap fun j=>N[j]?) 1 (eM N scope)&&nq scope (p::(eM N scope).filterMap fun j=>N[j]?) p)=true then
     (tY T [e]).bind fun fs=>((lmb scope (p::(eM N scope).filterMap fun j=>N[j]?)).e body).map fun te=>pG (eM N scope) fs te
    else none
  else none
 | _=>none
def LG:Expr->Bool
 | .Name x _=>x == ("_law_order":Str)
 | _=>false
def Au(lam:Option Str)(sc:Scope)(N:List Str)(T:Tr)(blk lmb:Scope->List Str->Tr)(whole:Expr):Option (Dl.Env->Option (List D)):=match whole with
 | .List es _=>(tY T es).map cF
 | .ListComp elt gens scope _=>tG sc N T blk elt gens scope
 | .BinOp a .Mult b _=>if HZ a=true then (T.f a).bind fun x=>(T.e b).map fun y=>nu x y else none
 | .BinOp a .Add b _=>(T.e a).bind fun x=>(T.e b).map fun y=>MN pQ x y
 | .Call (.Name x _) [l] [⟨some ky,.Lambda params body scope _,_⟩] _=>if (x == ("sorted":Str)&&ky == ("key":Str))=true then (match rY lam sc N T lmb l params body scope with|some f=>some f|none=>sR lam sc N T lmb l params body scope) else none
 | .Call (.Name x _) [e] [] _ =>
  if (B5 sc x&&!isStar e)=true then
   if x="list" then (tY T [e]).map fun fs=>fF ck fs
   else if x="sorted" then (tY T [e]).map fun fs=>if LG e=true then fF gh fs else fF fK fs
   else none
  else none
 | _=>none
def tr(G:Sg):Nat->Option Str->Scope->List Str->Tr
 | 0,_,_,_=>⟨fun _=>none,fun _=>none,fun _=>none⟩
 | n+1,lam,sc,N=>⟨Dx G sc N (tr G n lam sc N),Au lam sc N (tr G n lam sc N) (tr G n none) (tr G n none),stepT (tr G n lam sc N)⟩
structure Mc(G:Sg)(X:Cx)(j:Nat):Prop where
 fn:∀x n m,G.fn.lookup x=some (n,m)->ET X.prog X.w X.K X.mg X.base j x n m
 int:∀x i,G.int.lookup x=some i->∃t,X.mg x=some (.int i t)
 bn:Bn X
structure oF(X:Cx)(tg iter:Expr)(ifs:List Expr)(elt:Expr)(scope:Scope)(f:Dl.Env->Option (List D)):Prop where
 ex:∃ (N':List Str) (t:Nat) (cs:List Nat) (fi:Dl.Env->Option (List D)) (tgt:Dl.Env->D->Option Dl.Env) (tt:Dl.Env->Option Bool) (te:FE),f=aj t cs fi tgt tt te/\hJ X scope N' (iV t cs)/\DI X tg iter fi/\(∀x,foldedSetIterable iter X.env x=pure x) /\
  ∀fp s H,DG (aV X scope N' fp s H) tg tgt/\Lj (aV X scope N' fp s H) ifs tt/\DE (aV X scope N' fp s H) elt te
structure cI(X:Cx)(T:Tr):Prop where
 c:∀elt gens scope p f,T.f (.ListComp elt gens scope p)=some f->∃tg iter ifs,gens=[⟨tg,iter,ifs,0⟩]/\oF X tg iter ifs elt scope f
 e:∀e f,T.e e=some f->DE X e f
 f:∀e f,T.f e=some f->DF X e f
 t:∀e f,T.t e=some f->DT X e f
section
variable {G:Sg}{X:Cx}{N:List Str}{sc:Scope}{k j:Nat}{T:Tr}{pos p:Pos}
theorem B2(C:Bk X N sc k)(g:Mc G X j)(h:yh G sc N x=some f):DE X (.Name x pos) f:=by
 unfold yh at h
 split at h
 ·split at h
  ·cases h;exact C.v _ ‹_›
  ·cases h
 ·split at h
  ·rename_i hg
   obtain⟨n,hn,rfl⟩:=af h
   obtain⟨t,ht⟩:=g.int x n hn
   simp only[zI,yS] at hg
   exact GT (C.gl hg.1) ht hg.2
  ·cases h
theorem yg(h:Ar c=some f):DE X (.Constant c i pos) f:=by
 cases c<;>cases h<;>first|exact IF|exact Le|exact Ii|exact J6
theorem Fc(C:Bk X N sc k)(O:cI X T)(h:Lg T op a=some f):DE X (.UnaryOp op a pos) f:=by
 cases op<;>try cases h
 ·obtain⟨x,hx,rfl⟩:=af h;exact C.neg (O.e _ _ hx)
theorem Ec(C:Bk X N sc k)(O:cI X T)(h:CI T (.BinOp a op b pos) a op b=some f):DE X (.BinOp a op b pos) f:=by
 unfold CI at h
 split at h
 ·obtain⟨x,hx,rfl⟩:=af h;exact DF.de (O.f _ _ hx)
 ·obtain⟨g,hg,h⟩:=bs h
  obtain⟨x,hx,h⟩:=bs h
  obtain⟨y,hy,rfl⟩:=af h
  cases op<;>cases hg
  ·exact C.add (O.e _ _ hx) (O.e _ _ hy)
  ·exact C.sub (O.e _ _ hx) (O.e _ _ hy)
  ·exact C.mul (O.e _ _ hx) (O.e _ _ hy)
  ·exact C.mod (O.e _ _ hx) (O.e _ _ hy)
  ·exact C.div (O.e _ _ hx) (O.e _ _ hy)
theorem rm(O:cI X T):∀ {es:List Expr}{f:FE},sH T op es=some f->DE X (.BoolOp op es pos) f
 | [],f,h=>by cases h
 | [a],f,h=>Ie (O.e _ _ h)
 | a::b::r,f,h=>by
  unfold sH at h
  obtain⟨x,hx,h⟩:=bs h
  obtain⟨y,hy,rfl⟩:=af h
  have ih:=rm O hy
  cases op with
  | And=>exact JV (O.e _ _ hx) ih
  | Or=>exact Li (O.e _ _ hx) ih
theorem IB(C:Bk X N sc k)(hg:Lb op=some g)(hm:behindInMarks op b=false)(ha:DE X a x)(hb:DE X b y):DE X (.Compare a [op] [b] pos) (f2 g x y)/\DT X (.Compare a [op] [b] pos) (fB (f2 g x y)):=by
 cases op<;>cases hg
 ·exact⟨C.eq ha hb,C.teq ha hb⟩
 ·exact⟨C.ne ha hb,C.tne ha hb⟩
 ·exact⟨C.lt ha hb,C.tlt ha hb⟩
 ·exact⟨C.le ha hb,C.tle ha hb⟩
 ·exact⟨C.gt ha hb,C.tgt ha hb⟩
 ·exact⟨C.is0 ha hb,C.tis0 ha hb⟩
 ·exact⟨C.not0 ha hb,C.tnot0 ha hb⟩
theorem HV(h:Mn op=some g):∃r,il X (compareOp op) r/\eQ X.K r g:=by
 cases op<;>cases h
 ·exact⟨_,EC,i4⟩
 ·exact⟨_,Cp,i4⟩
theorem uI(C:Bk X N sc k)(O:cI X T){cs:List Expr}(h:AB T a ops cs=some f):DE X (.Compare a ops cs pos) f/\DT X (.Compare a ops cs pos) (fB f):=by
 unfold AB at h
 split at h
 ·split at h
  ·rename_i hm
   obtain⟨g,hg,h⟩:=bs h
   obtain⟨x,hx,h⟩:=bs h
   obtain⟨y,hy,rfl⟩:=af h
   exact IB C hg hm (O.e _ _ hx) (O.e _ _ hy)
  ·cases h
 ·split at h
  ·rename_i hm
   obtain⟨g,hg,h⟩:=bs h
   obtain⟨g',hg',h⟩:=bs h
   obtain⟨x,hx,h⟩:=bs h
   obtain⟨y,hy,h⟩:=bs h
   obtain⟨z,hz,rfl⟩:=af h
   obtain⟨r,r1,r2⟩:=HV (X:=X) hg
   obtain⟨r',r1',r2'⟩:=HV (X:=X) hg'
   exact⟨ES r1 r2 r1' r2' (O.e _ _ hx) (O.e _ _ hy) (O.e _ _ hz) hm,CS r1 r2 r1' r2' (O.e _ _ hx) (O.e _ _ hy) (O.e _ _ hz) hm⟩
  ·cases h
 ·cases h
theorem cy(O:cI X T):∀ {es:List Expr}{fs:Dl.Env->Option (List D)},tY T es=some fs->DA X es fs
 | [],fs,h=>by cases h;exact DU
 | e::es,fs,h=>by
  unfold tY at h
  split at h
  ·rename_i hs
   obtain⟨x,hx,h⟩:=bs h
   obtain⟨r,hr,rfl⟩:=af h
   exact Mf hs (O.e _ _ hx) (cy O hr)
  ·cases h
theorem E2(O:cI X T)(h:Nc T o=some f):DO X o f:=by
 cases o with
 | none=>cases h;exact Ga
 | some e=>obtain⟨x,hx,rfl⟩:=af h;exact Fg (O.e _ _ hx)
theorem yn(h:vo b=false):n8 b:=by
 cases b<;>first|(intro _ _;rfl)|cases h
theorem CC(C:Bk X N sc k)(O:cI X T)(h:El T a b=some f):DE X (.Subscript a b pos) f:=by
 unfold El at h
 split at h
 ·obtain⟨x,hx,h⟩:=bs h
  obtain⟨l,hl,h⟩:=bs h
  obtain⟨u,hu,rfl⟩:=af h
  exact C.cut (O.e _ _ hx) (E2 O hl) (E2 O hu)
 ·split at h
  ·rename_i hc
   obtain⟨x,hx,h⟩:=bs h
   obtain⟨y,hy,rfl⟩:=af h
   exact KR (O.e _ _ hx) (O.e _ _ hy) (yn hc)
  ·cases h
theorem dG{env:PySem.Env}:∀ {es:List Expr},(es.all fun e=>!isStar e)=true->(backTo pos (starEach es env)).any (·.1)=false
 | [],_=>rfl
 | e::es,h=>by
  rw[xW,zI,yS] at h
  rw[bb h.1]
  show (false||(backTo pos (starEach es env)).any (·.1))=false
  rw[dG h.2]
  rfl
theorem DL(h:mU e=some e'):∃p q,e=.Call (.Name "set" p) [e'] [] q:=by
 unfold mU at h
 split at h
 ·split at h
  ·rename_i hx;cases h;subst hx;exact⟨_,_,rfl⟩
  ·cases h
 ·cases h
theorem FP(h:Iv y=some ty):y∈da/\bootBuiltins y=some (.type ty)/\y≠"__name__"/\(y == ("__debug__":Str))=false:=by
 unfold Iv at h
 split at h
 ·rename_i e;cases h;subst e;exact⟨by decide +kernel,by decide +kernel,by decide,by decide⟩
 ·split at h
  ·rename_i e;cases h;subst e;exact⟨by decide +kernel,by decide +kernel,by decide,by decide⟩
  ·split at h
   ·rename_i e;cases h;subst e;exact⟨by decide +kernel,by decide +kernel,by decide,by decide⟩
   ·split at h
    ·rename_i e;cases h;subst e;exact⟨by decide +kernel,by decide +kernel,by decide,by decide⟩
    ·cases h
theorem Js:bootBuiltins "any"=some (.builtin "any"):=by decide +kernel
theorem Je:bootBuiltins "sum"=some (.builtin "sum"):=by decide +kernel
theorem IR:bootBuiltins "min"=some (.builtin "min"):=by decide +kernel
theorem uG(h:l.length=1):∃a,l=[a]:=by
 match l,h with
 | [a],_=>exact⟨a,rfl⟩
theorem Bc(C:Bk X N sc k)(g:Mc G X j)(hjk:j<=k)(O:cI X T)(h:xk G sc T (.Call (.Name x p) args [] pos) x args=some f):DE X (.Call (.Name x p) args [] pos) f:=by
 unfold xk at h
 split at h
 ·rename_i hg
  rw[zI] at hg
  obtain⟨hg,hs⟩:=hg
  have st1:∀ {e:Expr}{es:List Expr},args=e::es->starEach (e::es) X.env=(false,eval e X.env)::starEach es X.env:=fun {e es} q=>by
   subst q
   rw[xW,zI,yS] at hs
   exact bb hs.1
  have st2:∀ {e:Expr}{es:List Expr},args=e::es->(backTo pos (starEach es X.env)).any (·.1)=false:=fun {e es} q=>by
   subst q
   rw[xW,zI] at hs
   exact dG hs.2
  split at h
  ·rename_i n m hfn
   split at h
   ·cases h
   ·rename_i hne
    obtain⟨fs,hfs,rfl⟩:=af h
    cases args with
    | nil=>exact absurd (by simp) hne
    | cons e es =>
     have hd:(x == ("__debug__":Str))=false:=by simpa using hne
     exact GO (g.fn x n m hfn) (C.room.mono hjk) (C.gl hg) (cy O hfs) hd (st1 rfl) (st2 rfl)
  ·split at h
   ·rename_i hx
    subst hx
    split at h
    ·rename_i e
     split at h
     ·rename_i e' he'
      split at h
      ·rename_i hg2
       rw[zI,yS] at hg2
       obtain⟨y,hy,rfl⟩:=af h
       obtain⟨p1,p2,rfl⟩:=DL he'
       exact BZ C.calm (C.blt g.bn hg (by decide +kernel) EO) (C.blt g.bn hg2.1 (by decide +kernel) IY) (O.e _ _ hy) (bb hg2.2)
      ·cases h
     ·obtain⟨fs,hfs,rfl⟩:=af h
      exact JH (C.blt g.bn hg (by decide +kernel) EO) (cy O hfs) (st1 rfl)
    ·cases h
   ·split at h
    ·rename_i hx
     subst hx
     split at h
     ·rename_i e y py
      split at h
      ·rename_i hgy
       obtain⟨ty,hty,h⟩:=bs h
       obtain⟨z,hz,rfl⟩:=af h
       obtain⟨t1,t2,t3,t4⟩:=FP hty
       exact KH (C.blt g.bn hg (by decide +kernel) p6) (C.blt g.bn hgy t1 t2) (O.e _ _ hz) t3 t4 (st1 rfl)
      ·cases h
     ·cases h
    ·split at h
     ·rename_i hx
      subst hx
      split at h
      ·rename_i hl
       obtain⟨fs,hfs,rfl⟩:=af h
       obtain⟨e,rfl⟩:=uG hl
       exact C9 (C.blt g.bn hg (by decide +kernel) E5) (cy O hfs) (st1 rfl)
      ·cases h
     ·split at h
      ·rename_i hx
       subst hx
       split at h
       ·rename_i hl
        obtain⟨fs,hfs,rfl⟩:=af h
        obtain⟨e,rfl⟩:=uG hl
        exact JP C.calm (C.blt g.bn hg (by decide +kernel) JU) (cy O hfs) (st1 rfl)
       ·cases h
      ·split at h
       ·rename_i hx
        subst hx
        split at h
        ·rename_i hl
         obtain⟨fs,hfs,rfl⟩:=af h
         obtain⟨e,rfl⟩:=uG hl
         exact Ke C.calm (C.blt g.bn hg (by decide +kernel) Js) (st1 rfl) (cy O hfs)
        ·cases h
       ·split at h
        ·rename_i hx
         subst hx
         split at h
         ·rename_i hl
          obtain⟨fs,hfs,rfl⟩:=af h
          obtain⟨e,rfl⟩:=uG hl
          exact Jt C.calm (C.blt g.bn hg (by decide +kernel) Je) (st1 rfl) (cy O hfs)
         ·cases h
        ·split at h
         ·rename_i hx
          subst hx
          split at h
          ·cases h
          ·rename_i hl
           obtain⟨fs,hfs,rfl⟩:=af h
           cases args with
           | nil=>exact absurd rfl hl
           | cons e es =>
            exact JG C.calm (C.blt g.bn hg (by decide +kernel) IR) (st1 rfl) (st2 rfl) (cy O hfs)
         ·split at h
          ·obtain⟨y,hy,rfl⟩:=af h
           exact DF.de (O.f _ _ hy)
          ·cases h
 ·cases h
end
section
variable {G:Sg}{X:Cx}{N:List Str}{sc:Scope}{k j:Nat}{T:Tr}{pos p:Pos}
theorem M5{env:PySem.Env}(h:isStar e=false):((backTo cpos (starEach [e] env)).all (fun x=>!x.1)&&(backToKw cpos (keywordEach [] env)).all (fun x=>x.1.isSome)&&decide ([e].length+([]:List Keyword).length+(if ([]:List Keyword).isEmpty then 0 else 1) < 30))=true:=by
 rw[bb h];rfl
theorem md{env:PySem.Env}(h:AK o=false):attributeBase o a env w=w:=by
 cases o<;>first|rfl|cases h
theorem B8(C:Bk X N sc k)(O:cI X T)(h:yb T o m apos args cpos=some f):DE X (.Call (.Attribute o m apos) args [] cpos) f:=by
 unfold yb at h
 split at h
 ·rename_i hm
  rw[zI,zI,yS] at hm
  obtain⟨⟨hm1,hm⟩,hcl⟩:=hm
  have e1:m="index":=eq_of_beq hm1
  subst e1
  split at h
  ·rename_i e
   split at h
   ·rename_i hs
    obtain⟨x,hx,h⟩:=bs h
    obtain⟨y,hy,rfl⟩:=af h
    exact A3 (md hcl) (M5 hs) hm (bb hs) (O.e _ _ hx) (O.e _ _ hy)
   ·cases h
  ·cases h
 ·cases h
theorem Dj(C:Bk X N sc k)(g:Mc G X j)(hjk:j<=k)(O:cI X T)(h:Dx G sc N T e=some f):DE X e f:=by
 unfold Dx at h
 split at h
 ·exact B2 C g h
 ·exact yg h
 ·exact Fc C O h
 ·exact Ec C O h
 ·exact rm O h
 ·exact (uI C O h).1
 ·obtain⟨z,hz,h⟩:=bs h
  obtain⟨x,hx,h⟩:=bs h
  obtain⟨y,hy,rfl⟩:=af h
  exact LS (O.t _ _ hz) (O.e _ _ hx) (O.e _ _ hy)
 ·obtain⟨x,hx,rfl⟩:=af h;exact IS (cy O hx)
 ·exact CC C O h
 ·obtain⟨x,hx,rfl⟩:=af h;exact DF.de (O.f _ _ hx)
 ·obtain⟨x,hx,rfl⟩:=af h;exact DF.de (O.f _ _ hx)
 ·exact Bc C g hjk O h
 ·obtain⟨x,hx,rfl⟩:=af h;exact DF.de (O.f _ _ hx)
 ·exact B8 C O h
 ·cases h
theorem EG(O:cI X T):∀ {es:List Expr}{f:Dl.Env->Option Bool},LY T op es=some f->DW X (.BoolOp op es pos) f
 | [],f,h=>by cases h
 | [a],f,h=>by
  cases op with
  | And=>exact Fd (O.t _ _ h)
  | Or=>exact Iz (O.t _ _ h)
 | a::b::r,f,h=>by
  unfold LY at h
  obtain⟨x,hx,h⟩:=bs h
  obtain⟨y,hy,rfl⟩:=af h
  have ih:=EG O hy
  cases op with
  | And=>exact Jl (O.t _ _ hx) ih
  | Or=>exact KZ (O.t _ _ hx) ih
theorem Em(C:Bk X N sc k)(O:cI X T)(h:stepT T e=some f):DT X e f:=by
 unfold stepT at h
 split at h
 ·obtain⟨x,hx,rfl⟩:=af h;exact (uI C O hx).2
 ·obtain⟨x,hx,rfl⟩:=af h;exact IG (O.t _ _ hx)
 ·exact DW.dt (EG O h)
 ·split at h
  ·rename_i hp
   obtain⟨x,hx,rfl⟩:=af h
   refine Ks (O.e _ _ hx) ?_
   revert hp
   cases e<;>first|(intro hp;cases hp;done)|(intro hp _;rfl)
  ·cases h
theorem Ko{env:PySem.Env}(h:Jd e=true):∀x,foldedSetIterable e env x=pure x:=by
 cases e<;>first|(intro _;rfl)|cases h
theorem DC(C:Bk X N sc k)(B:Bn X)(O:cI X T)(h:L0 sc T tg iter=some fi):DI X tg iter fi/\∀x,foldedSetIterable iter X.env x=pure x:=by
 unfold L0 at h
 split at h
 ·refine⟨?_,fun _=>rfl⟩
  split at h
  ·rename_i hx
   subst hx
   split at h
   ·split at h
    ·rename_i hg
     rw[zI,yS] at hg
     obtain⟨x,hx,rfl⟩:=af h
     exact Dr (C.blt B hg.1 (by decide +kernel) vf) (cy O hx) (bb hg.2)
    ·cases h
   ·cases h
  ·split at h
   ·rename_i hx
    subst hx
    split at h
    ·split at h
     ·rename_i hg
      simp only[zI,yS] at hg
      obtain⟨x,hx,rfl⟩:=af h
      cases tg<;>first|exact GA (C.blt B hg.1.1 (by decide +kernel) tL) (cy O hx) (bb hg.1.2)|exact absurd hg.2 (by simp[sU])
     ·cases h
    ·cases h
   ·split at h
    ·rename_i hx
     subst hx
     split at h
     ·split at h
      ·rename_i e e' hg
       simp only[zI,yS] at hg
       obtain⟨x,hx,rfl⟩:=af h
       cases tg<;>first|exact He (C.blt B hg.1.1.1 (by decide +kernel) IL) (bb hg.1.1.2) (dG (by simp[hg.1.2])) (cy O hx)|exact absurd hg.2 (by simp[sU])
      ·cases h
     ·cases h
    ·obtain⟨x,hx,rfl⟩:=af h
     exact EV (O.e _ _ hx)
 ·cases h
 ·rename_i h1 h2
  obtain⟨x,hx,rfl⟩:=af h
  refine⟨EV (O.e _ _ hx),Ko ?_⟩
  cases iter<;>first|rfl|exact absurd rfl (h2 _ _ _)
theorem J0(h:MO tg=some xs):(∃x px,tg=.Name x px/\xs=[x])\/∃x px y py m pt,tg=.Tuple [.Name x px,.Name y py] m pt/\xs=[x,y]:=by
 unfold MO at h
 split at h
 ·cases h;exact .inl ⟨_,_,rfl,rfl⟩
 ·cases h;exact .inr ⟨_,_,_,_,_,_,rfl,rfl⟩
 ·cases h
theorem JQ(h:Mu tg=some xs):((∃x px,tg=.Name x px/\xs=[x])\/∃x px y py m pt,tg=.Tuple [.Name x px,.Name y py] m pt/\xs=[x,y])\/∃x px y py z pz m pt,tg=.Tuple [.Name x px,.Name y py,.Name z pz] m pt/\xs=[x,y,z]:=by
 unfold Mu at h
 split at h
 ·cases h;exact .inr ⟨_,_,_,_,_,_,_,_,rfl,rfl⟩
 ·exact .inl (J0 h)
theorem rP(C:Bk X N sc k)(B:Bn X)(O:cI X T)(OB:∀scope N' fp s H,Bk (aV X scope N' fp s H) N' scope k->cI (aV X scope N' fp s H) (blk scope N'))
  (h:tG sc N T blk elt [⟨tg,iter,ifs,as⟩] scope=some f):as=0/\oF X tg iter ifs elt scope f:=by
 unfold tG at h
 dsimp only at h
 split at h
 ·rename_i has
  refine⟨has,?_⟩
  obtain⟨xs,hxs,h⟩:=bs h
  split at h
  ·rename_i hok
   rw[zI] at hok
   obtain⟨fi,hfi,h⟩:=bs h
   obtain⟨tt,htt,h⟩:=bs h
   obtain⟨te,hte,rfl⟩:=af h
   obtain⟨S,CB⟩:=C.comp hok.1
   obtain⟨hd,hfold⟩:=DC C B O hfi
   refine⟨_,_,_,_,_,_,_,rfl,S,hd,hfold,fun fp s H=>?_⟩
   have C1:=CB fp s H
   have O1:=OB scope _ fp s H C1
   refine⟨?_,?_,O1.e _ _ hte⟩
   ·rcases JQ hxs with (⟨x,px,rfl,rfl⟩|⟨x,px,y,py,m,pt,rfl,rfl⟩)|⟨x,px,y,py,z,pz,m,pt,htg,rfl⟩
    ·have z:=C1.loc (i:=0) (x:=x) (List.all_eq_true.mp hok.2 0 (by simp))
     exact Gy 0 z.1 z.2.1 z.2.2.1 z.2.2.2
    ·have z:=C1.loc (i:=0) (x:=x) (List.all_eq_true.mp hok.2 0 (by simp))
     have w:=C1.loc (i:=1) (x:=y) (List.all_eq_true.mp hok.2 1 (by simp))
     exact J4 0 1 C1.calm z.1 z.2.1 z.2.2.1 w.2.1 w.2.2.1 z.2.2.2 w.2.2.2
    ·have z0:=C1.loc (i:=0) (x:=x) (List.all_eq_true.mp hok.2 0 (by simp))
     have w:=C1.loc (i:=1) (x:=y) (List.all_eq_true.mp hok.2 1 (by simp))
     have u:=C1.loc (i:=2) (x:=z) (List.all_eq_true.mp hok.2 2 (by simp))
     subst htg
     exact Ej 0 1 2 C1.calm z0.1 z0.2.1 z0.2.2.1 w.2.1 w.2.2.1 u.2.1 u.2.2.1 z0.2.2.2 w.2.2.2 u.2.2.2
   ·unfold Ho at htt
    split at htt
    ·cases htt;exact Gz
    ·exact GM (O1.t _ _ htt)
    ·cases htt
  ·cases h
 ·cases h
theorem oF.df(hc:X.calm=true)(h:oF X tg iter ifs elt scope f):DF X (.ListComp elt [⟨tg,iter,ifs,0⟩] scope pos) f:=by
 obtain⟨N',t,cs,fi,tgt,tt,te,rfl,S,hd,hfold,hY⟩:=h.ex
 exact GX hc S hd hY hfold
theorem uK(h:Ay a=some x):∃px,a=⟨[],[⟨x,none,px⟩],none,[],[],none,[]⟩/\(x="number"\/x="plan"):=by
 unfold Ay at h
 split at h
 ·split at h
  ·cases h;exact⟨_,rfl,.inl ‹_›⟩
  ·split at h
   ·cases h;exact⟨_,rfl,.inr ‹_›⟩
   ·cases h
 ·cases h
theorem bind1{x q:Str}{px:Pos}{body:Expr}{scope:Scope}{cl:List (Str×Addr)}{pm ctv u:Value}{c:Addr}(h:x="number"\/x="plan") :
  bindArgs (PySem.W.kla_fn "<lambda>" q ⟨[],[⟨x,none,px⟩],none,[],[],none,[]⟩ body scope cl pm (.ref c) ctv) ⟨[u],[]⟩=pure [(x,u)]:=by
 rcases h with rfl|rfl<;>rfl
theorem yv{lam:Option Str}(C:Bk X N sc k)(B:Bn X)(hlam:∀q,lam=some q->oY X q/\j+3<=k)(O:cI X T){lmb:Scope->List Str->Tr}
  (OL:∀scope N' qual A f c s H,Bk (fX X A qual scope N' f c s H) N' scope (k - 3)->j<=k - 3->cI (fX X A qual scope N' f c s H) (lmb scope N')) {l body:Expr}{params:Arguments}{scope:Scope}{p0 lpos kpos:Pos}{f:Dl.Env->Option (List D)}
  (h:rY lam sc N T lmb l params body scope=some f):DF X (.Call (.Name "sorted" p0) [l] [⟨some "key",.Lambda params body scope lpos,kpos⟩] pos) f:=by
 unfold rY at h
 split at h
 ·rename_i hg
  simp only[zI,yS] at hg
  obtain⟨⟨hl,hg⟩,hs⟩:=hg
  obtain⟨q,rfl⟩:=Option.isSome_iff_exists.mp hl
  obtain⟨L,hk⟩:=hlam q rfl
  obtain⟨x,hx,h2⟩:=bs h
  clear h
  obtain⟨px,rfl,hpx⟩:=uK hx
  split at h2
  ·rename_i hok
   rw[zI] at hok
   obtain⟨fl,hfl,h⟩:=bs h2
   obtain⟨te,hte,rfl⟩:=af h
   obtain⟨k',rfl⟩:∃k',k=k'+3:=⟨k - 3,by omega⟩
   exact Bk.sortK (p:=x) C (C.blt B hg (by decide +kernel) jx) L hok.1 hok.2 (fun _ _ _ _ _=>bind1 hpx) rfl (O.e _ _ hfl) (fun A f c s H C'=>(OL scope _ q A f c s H C' (by omega)).e _ _ hte) (bb hs) (by rw[bb hs];rfl) (dG (by simp[hs]))
  ·cases h2
 ·cases h
theorem za{lam:Option Str}(C:Bk X N sc k)(B:Bn X)(hlam:∀q,lam=some q->oY X q/\j+3<=k)(O:cI X T){lmb:Scope->List Str->Tr}
  (OL:∀scope N' qual A f c s H,Bk (fX X A qual scope N' f c s H) N' scope (k - 3)->j<=k - 3->cI (fX X A qual scope N' f c s H) (lmb scope N')) {l body:Expr}{params:Arguments}{scope:Scope}{p0 lpos kpos:Pos}{f:Dl.Env->Option (List D)}
  (h:sR lam sc N T lmb l params body scope=some f):DF X (.Call (.Name "sorted" p0) [l] [⟨some "key",.Lambda params body scope lpos,kpos⟩] pos) f:=by
 unfold sR at h
 split at h
 ·split at h
  ·rename_i hg
   simp only[zI,yS] at hg
   obtain⟨⟨⟨⟨hl,hg⟩,hr⟩,hgr⟩,hs⟩:=hg
   have er:=eq_of_beq hr
   subst er
   obtain⟨q,rfl⟩:=Option.isSome_iff_exists.mp hl
   obtain⟨L,hk⟩:=hlam q rfl
   obtain⟨x,hx,h2⟩:=bs h
   clear h
   obtain⟨px,rfl,hpx⟩:=uK hx
   split at h2
   ·rename_i hok
    rw[zI] at hok
    obtain⟨fl,hfl,h⟩:=bs h2
    obtain⟨te,hte,rfl⟩:=af h
    obtain⟨k',rfl⟩:∃k',k=k'+3:=⟨k - 3,by omega⟩
    exact Bk.sortR (p:=x) C (C.blt B hg (by decide +kernel) jx) (C.blt B hgr (by decide +kernel) vf) L hok.1 hok.2 (fun _ _ _ _ _=>bind1 hpx) rfl (cy O hfl) (fun A f c s H C'=>(OL scope _ q A f c s H C' (by omega)).e _ _ hte) (bb hs) (bb rfl) (by rw[bb rfl];rfl) (dG (by rfl))
   ·cases h2
  ·cases h
 ·cases h
theorem Dt(C:Bk X N sc k)(B:Bn X)(hlam:∀q,lam=some q->oY X q/\j+3<=k)(O:cI X T)
  (OB:∀scope N' fp s H,Bk (aV X scope N' fp s H) N' scope k->cI (aV X scope N' fp s H) (blk scope N'))
  (OL:∀scope N' qual A f c s H,Bk (fX X A qual scope N' f c s H) N' scope (k - 3)->j<=k - 3->cI (fX X A qual scope N' f c s H) (lmb scope N')) {e:Expr}{f:Dl.Env->Option (List D)}(h:Au lam sc N T blk lmb e=some f):DF X e f:=by
 unfold Au at h
 split at h
 ·obtain⟨x,hx,rfl⟩:=af h;exact IV (cy O hx)
 ·rename_i elt gens scope ps
  match gens,h with
  | [⟨tg,iter,ifs,as⟩],h =>
   obtain⟨rfl,q⟩:=rP C B O OB h
   exact q.df C.calm
 ·split at h
  ·obtain⟨x,hx,h⟩:=bs h
   obtain⟨y,hy,rfl⟩:=af h
   exact Kj (O.f _ _ hx) (O.e _ _ hy)
  ·cases h
 ·obtain⟨x,hx,h⟩:=bs h
  obtain⟨y,hy,rfl⟩:=af h
  exact Ij (O.e _ _ hx) (O.e _ _ hy)
 ·split at h
  ·rename_i hk
   rw[zI] at hk
   have e1:=eq_of_beq hk.1
   have e2:=eq_of_beq hk.2
   subst e1 e2
   split at h
   ·cases h;exact yv C B hlam O OL ‹_›
   ·exact za C B hlam O OL h
  ·cases h
 ·split at h
  ·rename_i hg
   rw[zI,yS] at hg
   split at h
   ·rename_i hx
    subst hx
    obtain⟨x,hx,rfl⟩:=af h
    exact GE (C.blt B hg.1 (by decide +kernel) FH) (cy O hx) (bb hg.2)
   ·split at h
    ·rename_i hx
     subst hx
     obtain⟨x,hx,rfl⟩:=af h
     split
     ·exact C4 (C.blt B hg.1 (by decide +kernel) jx) (cy O hx) (bb hg.2)
     ·exact B6 (C.blt B hg.1 (by decide +kernel) jx) (cy O hx) (bb hg.2)
    ·cases h
  ·cases h
 ·cases h
theorem FW(C:Bk X N sc k)(B:Bn X)(O:cI X T)(OB:∀scope N' fp s H,Bk (aV X scope N' fp s H) N' scope k->cI (aV X scope N' fp s H) (blk scope N'))
  {elt:Expr}{gens:List Comprehension}{scope:Scope}{p:Pos}{f:Dl.Env->Option (List D)}(h:Au lam sc N T blk lmb (.ListComp elt gens scope p)=some f):∃tg iter ifs,gens=[⟨tg,iter,ifs,0⟩]/\oF X tg iter ifs elt scope f:=by
 have h:tG sc N T blk elt gens scope=some f:=h
 match gens,h with
 | [⟨tg,iter,ifs,as⟩],h =>
  obtain⟨rfl,q⟩:=rP C B O OB h
  exact⟨tg,iter,ifs,rfl,q⟩
theorem Hy(n:Nat):∀ {lam:Option Str}{X:Cx}{N:List Str}{sc:Scope}{k:Nat},Bk X N sc k->Mc G X j->j<=k->(∀q,lam=some q->oY X q/\j+3<=k)->cI X (tr G n lam sc N):=by
 induction n with
 | zero=>intro lam X N sc k C g hjk hlam;exact⟨fun _ _ _ _ _ h=>(by cases h),fun _ _ h=>(by cases h),fun _ _ h=>(by cases h),fun _ _ h=>(by cases h)⟩
 | succ n ih =>
  intro lam X N sc k C g hjk hlam
  have O:=ih C g hjk hlam
  exact⟨fun elt gens scope p f h=>FW (lam:=lam) (lmb:=tr G n none) (p:=p) C g.bn O (fun scope N' fp s H C'=>ih C' ⟨g.fn,g.int,g.bn⟩ hjk fun q z=>by cases z) h,fun e f h=>Dj C g hjk O h,
   fun e f h=>Dt C g.bn hlam O (fun scope N' fp s H C'=>ih C' ⟨g.fn,g.int,g.bn⟩ hjk fun q z=>by cases z) (fun scope N' qual A f c s H C' hk=>ih C' ⟨g.fn,g.int,g.bn⟩ hk fun q z=>by cases z) h,
   fun e f h=>Em C O h⟩
end
end Rf
namespace Dl
open PySem L2 PySem.Spec PyProof.Rows
section
theorem rg.len{K:PySem.W.Frag}{bs:List Addr}{dss:List (List D)}(h:rg K HF H H₀ bs dss):bs.length=dss.length:=by
 induction h with
 | nil=>rfl
 | cons _ _ _ _ _ ih=>rw[zO,zO,ih]
theorem rg.at{K:PySem.W.Frag}{bs:List Addr}{dss:List (List D)}(h:rg K HF H H₀ bs dss):∀ {j:Nat}{ds:List D},dss[j]?=some ds->∃b vs,bs[j]?=some b/\H b=some (.lst vs)/\HF b=none/\H₀ b=none/\ak K HF ds vs:=by
 induction h with
 | nil=>intro j ds e;simp at e
 | cons h1 h2 h3 r _ ih =>
  intro j ds e
  cases j with
  | zero=>cases e;exact⟨_,_,rfl,h1,h2,h3,r⟩
  | succ j=>exact ih e
theorem rg.set{K:PySem.W.Frag}{bs:List Addr}{dss:List (List D)}(h:rg K HF H H₀ bs dss)(hn:bs.Nodup){us:List V}{es:List D}(r:ak K HF es us):∀ {j:Nat}{b:Addr},bs[j]?=some b->rg K HF (upd H b (.lst us)) H₀ bs (dss.set j es):=by
 induction h with
 | nil=>intro j b e;simp at e
 | @cons b0 bs ds dss vs h1 h2 h3 r0 hr ih =>
  intro j b e
  rw[kX] at hn
  cases j with
  | zero =>
   cases e
   refine .cons aE h2 h3 r (hr.imp (.refl _) fun c hc o z1 z2=>⟨?_,z2⟩)
   rw[az (show c≠b0 from fun z=>hn.1 (z ▸ hc))]
   exact z1
  | succ j =>
   have hb:b∈bs:=qE e
   refine .cons ?_ h2 h3 r0 (ih hn.2 e)
   rw[az (show b0≠b from fun z=>hn.1 (z ▸ hb))]
   exact h1
theorem fE.putN{K:PySem.W.Frag}{bs:List Addr}{dss:List (List D)}{us:List V}{es:List D}{ρ:ar}{σ:L2.St}{i j:Nat}{a b:Addr}(S:fE K HF₀ H₀ HF H ρ σ)(h:ρ[i]?=some (.nest dss))(ha:σ[i]?=some (some (.ref a)))(n:zf K HF H H₀ a bs dss)(di:∀ (j:Nat) (ds:List D) (b:Addr),ρ[j]?=some (.own ds)->σ[j]?=some (some (.ref b))->b∉a::bs)(hb:bs[j]?=some b)(r:ak K HF es us) :
  fE K HF₀ H₀ HF (upd H b (.lst us)) (ρ.set i (.nest (dss.set j es))) σ:=by
 have hl:i < ρ.length:=(List.getElem?_eq_some_iff.mp h).1
 have hbm:b∈a::bs:=zE _ (qE hb)
 obtain⟨e3,e5,_⟩:=n.there b hbm
 have gr:bJ HF₀ H₀ HF (upd H b (.lst us)):=⟨fun c o e=>by rw[az (aH e e5)];exact S.gr.hh c o e,S.gr.ff,fun c o e=>by rw[az (aH e e3)];exact S.gr.fh c o e,S.gr.nw⟩
 have old:∀ {k:Nat}{t:Slot},(ρ.set i (.nest (dss.set j es)))[k]?=some t->(∀q,t≠.nest q)->ρ[k]?=some t:=fun {k t} g hn=>by
  rw[xM] at g
  by_cases hik:i=k
  ·rw[yO hik,yO hl] at g
   cases g;exact absurd rfl (hn _)
  ·rw[yQ hik] at g;exact g
 have new:∀ {k:Nat}{q:List (List D)},(ρ.set i (.nest (dss.set j es)))[k]?=some (.nest q)->i=k/\q=dss.set j es:=fun {k q} g=>by
  rw[xM] at g
  by_cases hik:i=k
  ·rw[yO hik,yO hl] at g
   cases g;exact⟨hik,rfl⟩
  ·rw[yQ hik] at g
   exact absurd (S.one i k dss q h g) hik
 refine⟨gr,fun k e g=>S.val k e (old g fun q z=>by cases z),fun k es' g=>?_,fun k l xs ys c f1 f2=>S.inj k l xs ys c (old f1 fun q z=>by cases z) (old f2 fun q z=>by cases z),by rw[yE];exact S.len,S.tb,fun k q g=>?_,fun k l q q' g1 g2=>(new g1).1.symm.trans (new g2).1⟩
 ·have g:=old g fun q z=>by cases z
  obtain⟨c,vs,f1,f2,f3,f5,f4⟩:=S.own k es' g
  refine⟨c,vs,f1,?_,f3,f5,f4⟩
  rw[az (show c≠b from fun z=>di k es' c g f1 (z ▸ hbm))]
  exact f2
 ·obtain⟨rfl,rfl⟩:=new g
  have hn:=n.nd
  rw[kX] at hn
  refine⟨a,bs,ha,⟨?_,n.fz,n.h0,n.ins.set hn.2 r hb,n.nd⟩,fun k ds c h1 h2=>di k ds c (old h1 fun q z=>by cases z) h2⟩
  rw[az (show a≠b from fun z=>hn.1 (z ▸ qE hb))]
  exact n.hd
def Hj:Option Slot->Option (List (List D))
 | some (.nest dss)=>some dss
 | _=>none
theorem jv{ρ:ar}{i:Nat}{dss:List (List D)}(h:Hj ρ[i]?=some dss):ρ[i]?=some (.nest dss):=by
 cases hd:ρ[i]? with
 | none=>rw[hd] at h;cases h
 | some t =>
  rw[hd] at h
  cases t with
  | nest q=>cases h;rfl
  | _=>cases h
def pN(i:Nat)(fa fb f:Env->Option D):ar->Option Out:=fun ρ=>(f (aS ρ)).bind fun d=>if l6 d=true then (fa (aS ρ)).bind fun kd=>(fb (aS ρ)).bind fun ld=>match kd,ld with
 | .int k,.int l=>(Hj ρ[i]?).bind fun dss=>(wa dss.length k).bind fun j=>(dss[j]?).bind fun ds=>(wa ds.length l).map fun m=>.nx (ρ.set i (.nest (dss.set j (ds.set m d))))
 | _,_=>none else none
theorem BO{X:Cx}(i:Nat)(hN:X.N[i]?=some x)(hv:Fn X.env.scope x)(ha:DE X ea fa)(hb:DE X eb fb)(h:DE X e f)(hd:(x == ("__debug__":Str))=false)(hcd:(x == ("__classdict__":Str))=false)(hsl:n8 ea)
  (has:∀v,assign (.Subscript (.Subscript (.Name x px) ea p1) eb p2) X.env v=(do
   let ov <- holding [v] (eval (.Subscript (.Name x px) ea p1) X.env)
   let iv <- holding [v,ov] (eval eb X.env)
   standAt p2
   holding [v,ov,iv] (setItem ov iv v)
   release [v,ov,iv] []):=by intro _;rfl)
  (hs:swapsWithSole [.Subscript (.Subscript (.Name x px) ea p1) eb p2] e pos.line X.env=pure false:=by rfl) (hw:swappedStores [.Subscript (.Subscript (.Name x px) ea p1) eb p2] e X.env=pure none:=by rfl)
  (h1:(assignEach [.Subscript (.Subscript (.Name x px) ea p1) eb p2] X.env).map (·.2)=[assign (.Subscript (.Subscript (.Name x px) ea p1) eb p2) X.env]:=by rfl):DS X HF₀ H₀ (.Assign [.Subscript (.Subscript (.Name x px) ea p1) eb p2] e pos) (pN i fa fb f) :=
 cf (xr h (Ci (HA EF (mO hN hv hd hcd) ha hsl) hb set_list has) hs hw h1) fun E σ H ⟨HF,ρ,o,S,hg,q⟩=>by
  obtain⟨d,q1,hg⟩:=bs hg
  split at hg
  ·rename_i hsc
   obtain⟨kd,q2,hg⟩:=bs hg
   obtain⟨ld,q3,hg⟩:=bs hg
   obtain⟨k,rfl⟩:∃k,kd=.int k:=by cases kd<;>first|exact⟨_,rfl⟩|cases hg
   obtain⟨l,rfl⟩:∃l,ld=.int l:=by cases ld<;>first|exact⟨_,rfl⟩|cases hg
   obtain⟨dss,q4,hg⟩:=bs hg
   obtain⟨j,q5,hg⟩:=bs hg
   obtain⟨ds,q6,hg⟩:=bs hg
   obtain⟨m,q7,rfl⟩:=af hg
   refine⟨H,aS ρ,d,.refl _,S.all,q1,fun v H1 HF1 G1 r=>?_⟩
   have rv:=oM (HF':=HF) hsc r
   have S1:=S.step G1.hh
   obtain⟨a,bs,e1,n1,di⟩:=S1.nst i dss (jv q4)
   refine⟨.ref a,e1,H1,aS ρ,.int k,.refl _,S1.all,q2,fun kv H2 HF2 G2 rk=>?_⟩
   have S2:=S1.step G2.hh
   obtain⟨a',bs',e1',n2,di'⟩:=S2.nst i dss (jv q4)
   rw[e1] at e1';cases e1'
   obtain⟨b,vs,z1,z2,_⟩:=n2.ins.at q6
   simp only[Rep] at rk
   have hj:pY (bs'.map V.ref) k=some (.ref b):=by
    unfold pY
    rw[zF,n2.ins.len,q5,zC,zR,z1]
    rfl
   refine .inl ⟨a,bs'.map V.ref,k,.ref b,rfl,rk,eK.of n2.hd,hj,H2,aS ρ,.int l,.refl _,S2.all,q3,fun lv H3 HF3 G3 rl=>?_⟩
   have S3:=S2.step G3.hh
   obtain⟨a3,bs3,e3,n3,di3⟩:=S3.nst i dss (jv q4)
   rw[e1] at e3;cases e3
   obtain rfl:bs3=bs':=oo (by have:=G3.hh _ _ n2.hd;rw[n3.hd] at this;injection this with this;injection this with this)
   obtain⟨b3,vs3,w1,w2,w3,w4,w5⟩:=n3.ins.at q6
   rw[z1] at w1;cases w1
   simp only[Rep] at rl
   exact⟨b,vs3,l,m,rfl,rl,w2,by rw[w5.length];exact q7,q σ _ HF (S3.putN (jv q4) e1 n3 di3 z1 (oP rv m w5)) (.refl _)⟩
  ·cases hg
def nY:Slot->Bool|.nest _=>false|_=>true
theorem fE.setN{K:PySem.W.Frag}{ρ:ar}{σ:L2.St}{i:Nat}{a:Addr}{bs:List Addr}{dss:List (List D)}(S:fE K HF₀ H₀ HF H ρ σ)(n:zf K HF H H₀ a bs dss)(di:∀ (j:Nat) (ds:List D) (b:Addr),ρ[j]?=some (.own ds)->σ[j]?=some (some (.ref b))->b∉a::bs)(nt:ρ.all nY=true) :
  fE K HF₀ H₀ HF H (ρ.set i (.nest dss)) (σ.set i (some (.ref a))):=by
 have old:∀ {j:Nat}{t:Slot},(ρ.set i (.nest dss))[j]?=some t->nY t=true->i≠j/\ρ[j]?=some t:=fun {j t} h hn=>by
  rw[xM] at h
  by_cases hij:i=j
  ·rw[yO hij] at h
   split at h
   ·cases h;cases hn
   ·cases h
  ·rw[yQ hij] at h;exact⟨hij,h⟩
 have new:∀ {j:Nat}{q:List (List D)},(ρ.set i (.nest dss))[j]?=some (.nest q)->i=j/\q=dss/\i < ρ.length:=fun {j q} h=>by
  rw[xM] at h
  by_cases hij:i=j
  ·rw[yO hij] at h
   split at h
   ·rename_i hl;cases h;exact⟨hij,rfl,hij ▸ hl⟩
   ·cases h
  ·rw[yQ hij] at h
   have:=List.all_eq_true.mp nt _ (qE h)
   cases this
 refine⟨S.gr,fun j e h=>?_,fun j es h=>?_,fun j k xs ys b e1 e2 e3 e4=>?_,by rw[yE,yE];exact S.len,S.tb,fun j q h=>?_,fun j k q q' g1 g2=>(new g1).1.symm.trans (new g2).1⟩
 ·obtain⟨hij,h⟩:=old h rfl
  rw[xM,yQ hij];exact S.val j e h
 ·obtain⟨hij,h⟩:=old h rfl
  rw[xM,yQ hij];exact S.own j es h
 ·obtain⟨n1,e1⟩:=old e1 rfl
  obtain⟨n2,e2⟩:=old e2 rfl
  rw[xM,yQ n1] at e3
  rw[xM,yQ n2] at e4
  exact S.inj j k xs ys b e1 e2 e3 e4
 ·obtain⟨rfl,rfl,hl⟩:=new h
  rw[xM,yO rfl,yO (zS hl S.len)]
  refine⟨a,bs,rfl,n,fun k ds b h1 h2=>?_⟩
  obtain⟨hik,h1⟩:=old h1 rfl
  rw[xM,yQ hik] at h2
  exact di k ds b h1 h2
def rK(i:Nat)(fp fq:Env->Option (List D)):ar->Option Out:=fun ρ=>(fp (bx ρ)).bind fun ds=>(fq (bx ρ)).bind fun es=>if ρ.all nY=true then some (.nx (ρ.set i (.nest [ds,es]))) else none
theorem GH{X:Cx}(i:Nat)(hN:X.N.Nodup)(hi:X.N[i]?=some y)(hy:Loc X.env.scope y)(h1:DF X e1 fp)(h2:DF X e2 fq)(he:starEach [e1,e2] X.env=(false,eval e1 X.env)::starEach [e2] X.env)(he':starEach [e2] X.env=(false,eval e2 X.env)::starEach [] X.env)
  (hs:swapsWith (.List [e1,e2] lp) (some (.Name y pos')) pos.line X.env=pure false:=by rfl)
  (hf:X.fn y=true\/X.env.scope.names.lookup y=some .local:=by first|exact .inl rfl|exact .inr rfl|assumption):DS X HF₀ H₀ (.Assign [.Name y pos'] (.List [e1,e2] lp) pos) (rK i fp fq) :=
 cf (tE hN hi hy (EK (pos:=lp) (cB h1 (cB h2 gg he') he)) hs hf) fun E σ H ⟨HF,ρ,o,S,hg,q⟩=>by
  obtain⟨ds,q1,hg⟩:=bs hg
  obtain⟨es,q2,hg⟩:=bs hg
  split at hg
  ·rename_i hn
   cases hg
   refine⟨HF,bx ρ,ds,S.gr.fh,S.frz,q1,fun a1 vs1 H1 HF1 G1 n1 g1 k1 r1=>?_⟩
   have S1:=S.grow G1
   refine⟨HF1,bx ρ,es,S1.gr.fh,S1.frz,q2,fun a2 vs2 H2 HF2 G2 n2 g2 k2 r2=>⟨by rw[qY];simp,fun p hp=>?_⟩⟩
   have S2:=S1.grow G2
   have k1':H2 a1=some (.lst vs1):=G2.hh _ _ k1
   have p1:a1≠p:=fun z=>by rw[z,hp] at k1';cases k1'
   have p2:a2≠p:=fun z=>by rw[z,hp] at k2;cases k2
   have p3:a1≠a2:=fun z=>by rw[z,n2] at k1;cases k1
   have S3:fE X.K HF₀ H₀ HF2 (upd H2 p (.lst [.ref a1,.ref a2])) ρ σ:=S2.step (cJ hp)
   refine q _ _ HF2 (S3.setN (i:=i) (bs:=[a1,a2]) ⟨aE,S2.gr.fh.free hp,S2.gr.hh.free hp,.cons (by rw[az p1];exact k1') (G2.stay g1 k1) (S.gr.hh.free n1) (r1.mono G2.ff) (.cons (by rw[az p2];exact k2) g2 (S1.gr.hh.free n2) r2 .nil),by simp[p3,jP p1,jP p2]⟩ (fun j ds b z1 z2=>?_) hn) (G1.ff.trans G2.ff)
   obtain⟨c,vs,e1,e2,_⟩:=S.own j ds z1
   rw[z2] at e1;cases e1
   have b1:b≠a1:=fun z=>by rw[z,n1] at e2;cases e2
   have e2':=G1.hh _ _ e2
   have b2:b≠a2:=fun z=>by rw[z,n2] at e2';cases e2'
   have e2'':=G2.hh _ _ e2'
   have b3:b≠p:=fun z=>by rw[z,hp] at e2'';cases e2''
   simp[b1,b2,b3]
  ·cases hg
end
end Dl
namespace Rf
open PySem L2 Dl PySem.Spec PyProof.Rows
def oH:Nat->Expr->List Str
 | 0,_=>[]
 | n+1,e=>match e with
  | .Name x _=>[x]
  | .UnaryOp _ a _=>oH n a
  | .BinOp a _ b _=>oH n a++oH n b
  | .BoolOp _ es _=>es.flatMap (oH n)
  | .Compare a _ cs _=>oH n a++cs.flatMap (oH n)
  | .IfExp c a b _=>oH n c++(oH n a++oH n b)
  | .Tuple es _ _=>es.flatMap (oH n)
  | .List es _=>es.flatMap (oH n)
  | .Subscript a b _=>oH n a++oH n b
  | .Slice lo hi st _=>(lo.toList++(hi.toList++st.toList)).flatMap (oH n)
  | .Call f args kws _=>oH n f++(args.flatMap (oH n)++kws.flatMap fun k=>oH n k.value)
  | .Attribute o _ _=>oH n o
  | .ListComp elt gens _ _=>oH n elt++gens.flatMap fun g=>oH n g.iter++g.ifs.flatMap (oH n)
  | .Lambda _ b _ _=>oH n b
  | _=>[]
def nQ(N:List Str)(e:Expr):List Nat:=let ns:=oH 60 e;(List.range N.length).filter fun j=>match N[j]? with|some x=>ns.contains x|none=>false
abbrev GS:=ar->Option Out
def turns:Nat:=1000000
def ym:Expr->Bool
 | .ListComp ..=>true
 | .SetComp ..=>true
 | .DictComp ..=>true
 | _=>false
def D3(sc:Scope)(N:List Str)(T:Tr)(x:Str)(px:Pos)(e:Expr):Option GS :=
 (N.idxOf? x).bind fun i=>if oz N sc i x=true then
  (if Ac e=true then (match e with
   | .ListComp _ _ scope lp =>
    if (decide (sc.names.lookup x=some .local)&&(px.line == lp.line&&!(scope.names.any fun (n,k)=>n == x&&(k == .local || k == .cell))))=true then (T.f e).map fun f=>aL i (nQ N e) f
    else if decide (sc.names.lookup x=some .cell)=true then (T.f e).map fun f=>aL i (nQ N e) f
    else if (px.line == lp.line)=false then (T.f e).map fun f=>aL i (nQ N e) f
    else none
   | _=>(T.f e).map fun f=>if x="_law_offers" then qs i (nQ N e) f else aL i (nQ N e) f)
  else if ym e=false then (T.e e).map fun f=>aB i (nQ N e) f else none) else none
def DV(N:List Str)(sc:Scope)(T:Tr)(e:Expr):Option GS:=match e with
 | .Constant (.str _) _ _=>some fQ
 | .Call (.Attribute (.Name x _) m apos) args [] cpos =>
  (N.idxOf? x).bind fun i=>if (wg N sc i x&&apos.endLine == cpos.line&&args.all fun e=>!isStar e)=true then
   (if m="append" then (match args with
    | [a]=>(T.e a).map fun f=>kn i (nQ N a) f
    | _=>none)
   else if m="extend" then (match args with
    | [a]=>(T.f a).map fun f=>Bh i (nQ N a) f
    | _=>none)
   else if m="insert" then (match args with
    | [a,b]=>(T.e a).bind fun fk=>(T.e b).map fun f=>Cy i (nQ N b) fk f
    | _=>none)
   else none) else none
 | .Call (.Name _ _) _ _ _=>(T.e e).map gZ
 | _=>none
def MR(sc:Scope)(N:List Str)(tg:Expr):Option (ar->D->Option ar):=match tg with
 | .Name x _=>(N.idxOf? x).bind fun i=>if oz N sc i x=true then some (pW i) else none
 | .Tuple [.Name x _,.Name y _] _ _=>(N.idxOf? x).bind fun i=>(N.idxOf? y).bind fun j=>if (oz N sc i x&&oz N sc j y)=true then some (dE i j) else none
 | _=>none
def Dy(sc:Scope)(N:List Str)(T:Tr)(x:Str)(kx e:Expr):Option GS :=
 (N.idxOf? x).bind fun i=>if (wg N sc i x&&!vo kx)=true then (T.e kx).bind fun fk=>(T.e e).map fun f=>iW i (nQ N e) fk f else none
def sy(sc:Scope)(N:List Str)(T:Tr)(x y z:Str)(e:Expr):Option GS :=
 (N.idxOf? x).bind fun i=>(N.idxOf? y).bind fun j=>(N.idxOf? z).bind fun l=>if (((oz N sc i x&&oz N sc j y)&&oz N sc l z)&&AR e)=true then (T.e e).map fun f=>yr i j l (nQ N e) f else none
def ph(f:Stmt->Option GS):List Stmt->Option GS
 | []=>some fQ
 | [s]=>f s
 | s::r=>(f s).bind fun g=>(ph f r).map fun h=>av g h
def mC(x:Str):Expr->Option (Expr×Expr)
 | .List [a,b] _=>if x="_law_left" then some (a,b) else none
 | _=>none
theorem nJ{x:Str}{e:Expr}(h:mC x e=some p):∃lp,e=.List [p.1,p.2] lp:=by
 unfold mC at h
 split at h
 ·split at h
  ·cases h;exact⟨_,rfl⟩
  ·cases h
 ·cases h
def EJ(sc:Scope)(N:List Str)(T:Tr)(x:Str)(a b:Expr):Option GS :=
 (N.idxOf? x).bind fun i=>if (oz N sc i x&&!isStar a&&!isStar b)=true then (T.f a).bind fun f=>(T.f b).map fun g=>rK i f g else none
def y0(sc:Scope)(N:List Str)(T:Tr)(x:Str)(ka kb e:Expr):Option GS :=
 (N.idxOf? x).bind fun i=>if (wg N sc i x&&!vo ka&&!vo kb)=true then (T.e ka).bind fun fa=>(T.e kb).bind fun fb=>(T.e e).map fun f=>pN i fa fb f else none
def E7(sc:Scope)(N:List Str)(T:Tr):Nat->Stmt->Option GS
 | 0,_=>none
 | n+1,st=>match st with
  | .Return (some e) _=>(T.e e).map aJ
  | .If c a b _=>(T.t c).bind fun t=>(ph (E7 sc N T n) a).bind fun g=>(ph (E7 sc N T n) b).map fun h=>fH t g h
  | .Assign [.Name x px] e _=>(match mC x e with
   | some p=>EJ sc N T x p.1 p.2
   | none=>D3 sc N T x px e)
  | .Assign [.Subscript (.Name x _) kx _] e _=>Dy sc N T x kx e
  | .Assign [.Subscript (.Subscript (.Name x _) ka _) kb _] e _=>y0 sc N T x ka kb e
  | .Assign [.Tuple [.Name x _,.Name y _,.Name z _] _ _] e _=>sy sc N T x y z e
  | .For tg iter body [] _=>(L0 sc T tg iter).bind fun fi=>(MR sc N tg).bind fun t=>(ph (E7 sc N T n) body).map fun g=>cA (nQ N iter) fi t g
  | .While c body [] _=>(T.t c).bind fun t=>(ph (E7 sc N T n) body).map fun g=>Gg t g turns
  | .Expr e _=>DV N sc T e
  | .Raise ..=>some KS
  | .Pass _=>some fQ
  | _=>none
section
variable {X:Cx}{N:List Str}{sc:Scope}{k:Nat}{T:Tr}{HF₀ H₀:Hp}{pos:Pos}
theorem gY(H:∀s g,f s=some g->DS X HF₀ H₀ s g):∀ {l:List Stmt}{g:GS},ph f l=some g->Ce X HF₀ H₀ l g
 | [],g,h=>by cases h;exact FG
 | [s],g,h=>FZ (H _ _ h)
 | s::t::r,g,h=>by
  unfold ph at h
  obtain⟨x,hx,h⟩:=bs h
  obtain⟨y,hy,rfl⟩:=af h
  exact Ez (H _ _ hx) (gY H hy)
theorem jz{env:PySem.Env}(h:ym e=false):swapsWith e (some (.Name x px)) line env=pure false:=by
 cases e<;>first|rfl|cases h
theorem DD(C:Bk X N sc k)(O:cI X T)(h:D3 sc N T x px e=some g):DS X HF₀ H₀ (.Assign [.Name x px] e pos) g:=by
 unfold D3 at h
 obtain⟨i,hi,h⟩:=bs h
 split at h
 ·rename_i hloc
  obtain⟨z1,z2,z3,z4⟩:=C.loc hloc
  split at h
  ·split at h
   ·rename_i elt gens scope lp hl
    split at h
    ·rename_i hc
     rw[zI] at hc
     obtain⟨f,hf,rfl⟩:=af h
     obtain⟨tg,iter,ifs,rfl,q⟩:=O.c _ _ _ _ _ hf
     obtain⟨N',t,cs,fi,tgt,tt,te,rfl,S,hd,hfold,hY⟩:=q.ex
     exact Fe i _ C.calm S hd hY z1 z2 (C.locl hc.1) (C.swap hc.1 hc.2) hfold
    ·split at h
     ·rename_i hc
      obtain⟨f,hf,rfl⟩:=af h
      exact tJ i _ z1 z2 z3 (O.f _ _ hf) (C.noswap hc) z4
     ·split at h
      ·rename_i hc
       obtain⟨f,hf,rfl⟩:=af h
       refine tJ i _ z1 z2 z3 (O.f _ _ hf) ?_ z4
       rw[pO,hc]
       simp
      ·cases h
   ·rename_i hl hn
    obtain⟨f,hf,rfl⟩:=af h
    have hq:ym e=false:=by cases e<;>first|rfl|exact absurd rfl (hn _ _ _ _)|(rename_i hl _;cases hl;done)
    split
    ·exact cf (tE z1 z2 z3 (O.f _ _ hf) (jz hq) z4) IU
    ·exact tJ i _ z1 z2 z3 (O.f _ _ hf) (jz hq) z4
  ·split at h
   ·rename_i hc
    obtain⟨f,hf,rfl⟩:=af h
    exact IH i _ z1 z2 z3 (O.e _ _ hf) (jz hc) z4
   ·cases h
 ·cases h
theorem xw{env:PySem.Env}(h:(es.all fun e=>!isStar e)=true)(hl:es.length < 20):((backTo cpos (starEach es env)).all (fun x=>!x.1)&&(backToKw cpos (keywordEach [] env)).all (fun x=>x.1.isSome)&&decide (es.length+([]:List Keyword).length+(if ([]:List Keyword).isEmpty then 0 else 1) < 30))=true:=by
 have h1:(backTo cpos (starEach es env)).all (fun x=>!x.1)=true:=by
  have:=dG (pos:=cpos) (env:=env) h
  rw[List.all_eq_not_any_not]
  simpa using this
 rw[h1]
 simp[backToKw,keywordEach]
 omega
theorem EM(C:Bk X N sc k)(O:cI X T)(h:DV N sc T e=some g):DS X HF₀ H₀ (.Expr e pos) g:=by
 unfold DV at h
 split at h
 ·cases h;exact Iu
 ·rename_i x px m apos args cpos
  replace h:=bs h
  obtain⟨i,hi,h⟩:=h
  split at h
  ·rename_i hv
   simp only[zI] at hv
   obtain⟨⟨hv,hline⟩,hs⟩:=hv
   obtain⟨z1,z2,z3,z4⟩:=C.vis hv
   split at h
   ·rename_i hm
    subst hm
    split at h
    ·obtain⟨f,hf,rfl⟩:=af h
     exact BL i _ z1 z2 (O.e _ _ hf) z3 z4 (xw hs (by simp)) hline (bb (by simpa using hs))
    ·cases h
   ·split at h
    ·rename_i hm
     subst hm
     split at h
     ·obtain⟨f,hf,rfl⟩:=af h
      exact By i _ z1 z2 (O.f _ _ hf) z3 z4 (xw hs (by simp)) hline (bb (by simpa using hs))
     ·cases h
    ·split at h
     ·rename_i hm
      subst hm
      split at h
      ·obtain⟨fk,hfk,h⟩:=bs h
       obtain⟨f,hf,rfl⟩:=af h
       have hs':=hs
       simp only[xW,List.all_nil,Bool.and_true,zI,yS] at hs'
       exact BQ i _ z1 z2 (O.e _ _ hfk) (O.e _ _ hf) z3 z4 (xw hs (by simp)) hline (bb hs'.1) (bb hs'.2)
      ·cases h
     ·cases h
  ·cases h
 ·obtain⟨f,hf,rfl⟩:=af h
  exact Fk rfl (O.e _ _ hf)
 ·cases h
theorem JI(C:Bk X N sc k)(h:MR sc N tg=some t):L6 X HF₀ H₀ tg t:=by
 unfold MR at h
 split at h
 ·obtain⟨i,hi,h⟩:=bs h
  split at h
  ·rename_i hl
   cases h
   have z:=C.loc hl
   exact Cz i z.1 z.2.1 z.2.2.1 z.2.2.2
  ·cases h
 ·obtain⟨i,hi,h⟩:=bs h
  obtain⟨j,hj,h⟩:=bs h
  split at h
  ·rename_i hl
   rw[zI] at hl
   cases h
   have z:=C.loc hl.1
   have w:=C.loc hl.2
   exact GJ i j C.calm z.1 z.2.1 z.2.2.1 w.2.1 w.2.2.1 z.2.2.2 w.2.2.2
  ·cases h
 ·cases h
theorem y3(C:Bk X N sc k)(O:cI X T)(h:sy sc N T x y z e=some g):DS X HF₀ H₀ (.Assign [.Tuple [.Name x px,.Name y py,.Name z pz] m pt] e pos) g:=by
 unfold sy at h
 obtain⟨i,hi,h⟩:=bs h
 obtain⟨j,hj,h⟩:=bs h
 obtain⟨l,hl',h⟩:=bs h
 split at h
 ·rename_i hl
  rw[zI,zI,zI] at hl
  obtain⟨f,hf,rfl⟩:=af h
  have z:=C.loc hl.1.1.1
  have w:=C.loc hl.1.1.2
  have u:=C.loc hl.1.2
  exact C0 i j l _ C.calm z.1 z.2.1 z.2.2.1 w.2.1 w.2.2.1 u.2.1 u.2.2.1 hl.2 (O.e _ _ hf) z.2.2.2 w.2.2.2 u.2.2.2
 ·cases h
theorem Cq(C:Bk X N sc k)(O:cI X T)(h:Dy sc N T x kx e=some g):DS X HF₀ H₀ (.Assign [.Subscript (.Name x px) kx spos] e pos) g:=by
 unfold Dy at h
 obtain⟨i,hi,h⟩:=bs h
 split at h
 ·rename_i hv
  simp only[zI,yS] at hv
  obtain⟨hv,hc⟩:=hv
  obtain⟨z1,z2,z3,z4⟩:=C.vis hv
  obtain⟨fk,hfk,h⟩:=bs h
  obtain⟨f,hf,rfl⟩:=af h
  refine E4 i _ z1 z2 (O.e _ _ hfk) (O.e _ _ hf) z3 z4 (fun v=>?_) ?_ ?_ rfl
  ·cases kx<;>first|rfl|cases hc
  ·cases e<;>rfl
  ·rfl
 ·cases h
theorem D2(C:Bk X N sc k)(O:cI X T)(h:EJ sc N T x a b=some g):DS X HF₀ H₀ (.Assign [.Name x px] (.List [a,b] lp) pos) g:=by
 unfold EJ at h
 obtain⟨i,hi,h⟩:=bs h
 split at h
 ·rename_i hv
  simp only[zI,yS] at hv
  obtain⟨⟨hloc,ha⟩,hb⟩:=hv
  obtain⟨z1,z2,z3,z4⟩:=C.loc hloc
  obtain⟨f,hf,h⟩:=bs h
  obtain⟨g',hg,rfl⟩:=af h
  exact GH i z1 z2 z3 (O.f _ _ hf) (O.f _ _ hg) (bb ha) (bb hb) (jz rfl) z4
 ·cases h
theorem Bv(C:Bk X N sc k)(O:cI X T)(h:y0 sc N T x ka kb e=some g):DS X HF₀ H₀ (.Assign [.Subscript (.Subscript (.Name x px) ka p1) kb p2] e pos) g:=by
 unfold y0 at h
 obtain⟨i,hi,h⟩:=bs h
 split at h
 ·rename_i hv
  simp only[zI,yS] at hv
  obtain⟨⟨hv,ha⟩,hb⟩:=hv
  obtain⟨z1,z2,z3,z4⟩:=C.vis hv
  obtain⟨fa,hfa,h⟩:=bs h
  obtain⟨fb,hfb,h⟩:=bs h
  obtain⟨f,hf,rfl⟩:=af h
  refine BO i z1 z2 (O.e _ _ hfa) (O.e _ _ hfb) (O.e _ _ hf) z3 z4 ?_ (fun v=>?_) ?_ ?_ rfl
  ·intro o i
   cases ka<;>first|rfl|cases ha
  ·cases kb<;>first|rfl|cases hb
  ·cases e<;>rfl
  ·rfl
 ·cases h
theorem xf(C:Bk X N sc k)(B:Bn X)(O:cI X T):∀ (n:Nat) {st:Stmt}{g:GS},E7 sc N T n st=some g->DS X HF₀ H₀ st g
 | 0,st,g,h=>by cases h
 | n+1,st,g,h=>by
  have ih:=fun s g h=>xf C B O n (st:=s) (g:=g) h
  unfold E7 at h
  split at h
  ·obtain⟨f,hf,rfl⟩:=af h;exact J3 (O.e _ _ hf)
  ·obtain⟨t,ht,h⟩:=bs h
   obtain⟨a,ha,h⟩:=bs h
   obtain⟨b,hb,rfl⟩:=af h
   exact Ln (O.t _ _ ht) (gY ih ha) (gY ih hb)
  ·split at h
   ·rename_i p hp
    obtain⟨lp,rfl⟩:=nJ hp
    exact D2 C O h
   ·exact DD C O h
  ·exact Cq C O h
  ·exact Bv C O h
  ·exact y3 C O h
  ·obtain⟨fi,hfi,h⟩:=bs h
   obtain⟨t,ht,h⟩:=bs h
   obtain⟨b,hb,rfl⟩:=af h
   obtain⟨hd,hfold⟩:=DC C B O hfi
   exact Jk _ C.pass C.calm hd (JI C ht) (gY ih hb) hfold
  ·obtain⟨t,ht,h⟩:=bs h
   obtain⟨b,hb,rfl⟩:=af h
   exact DP _ C.pass (O.t _ _ ht) (gY ih hb)
  ·exact EM C O h
  ·cases h;exact KQ
  ·cases h;exact FL
  ·cases h
end
section
variable {K:PySem.W.Frag}
def oT(P:Program)(w:World)(K:PySem.W.Frag)(mg:Str->Option Value)(base:Heap)(j:Nat)(l:List (Str×Nat×(List D->Option D))):Prop:=∀x n m,l.lookup x=some (n,m)->ET P w K mg base j x n m
def ll(mg:Str->Option Value)(l:List (Str×Int)):Prop:=∀x i,l.lookup x=some i->∃t,mg x=some (.int i t)
theorem Mx:oT P w K mg base j []:=fun _ _ _ h=>by cases h
theorem Lu(F:ET P w K mg base j x n m)(h:oT P w K mg base j l):oT P w K mg base j ((x,n,m)::l):=fun y n' m' e=>by
 rw[yD] at e
 cases q:y == x with
 | true=>rw[q] at e;cases e;rw[eq_of_beq q];exact F
 | false=>rw[q] at e;exact h y n' m' e
theorem MW:ll mg []:=fun _ _ h=>by cases h
theorem Hx(F:∃t,mg x=some (.int i t))(h:ll mg l):ll mg ((x,i)::l):=fun y i' e=>by
 rw[yD] at e
 cases q:y == x with
 | true=>rw[q] at e;cases e;rw[eq_of_beq q];exact F
 | false=>rw[q] at e;exact h y i' e
theorem Hw{st:Stmt}(C:Bk X N (aI st) j)(B:Bn X)(hf:oT X.prog X.w X.K X.mg X.base j fs)(hi:ll X.mg is)
  (t:ph (E7 (aI st) N (tr ⟨fs,is⟩ 40 none (aI st) N) 40) (bY st)=some g):Ce X HF₀ H₀ (bY st) g :=
 gY (fun s g h=>xf C B (Hy (G:=⟨fs,is⟩) 40 C ⟨hf,hi,B⟩ (yP j) fun q z=>by cases z) 40 h) t
theorem NS{st:Stmt}(D:Fv K mg x st ps)(S:dZ N ps (aI st))(B:∀x∈da,mg x=none)(hf:oT P w K mg base j fs)(hi:ll mg is)
  (t:ph (E7 (aI st) N (tr ⟨fs,is⟩ 40 none (aI st) N) 40) (bY st)=some g):ET P w K mg base (j+1) x ps.length (ba g N.length):=by
 obtain⟨f,fd,hm,F,hb⟩:=D.ex
 exact Nq F S hb hm fun X hP hw hK hm' hb' C _ _ HF H=>by subst hP;subst hw;subst hK;subst hm';subst hb';exact Hw C B hf hi t
theorem NC{st:Stmt}(D:JZ K mg x st ps)(S:dZ N ps (aI st))(B:∀x∈da,mg x=none)(hf:oT P w K mg base j fs)(hi:ll mg is)
  (hq:x∈iN/\x++".<locals>."++"<lambda>"=q) (t:ph (E7 (aI st) N (tr ⟨fs,is⟩ 40 (some q) (aI st) N) 40) (bY st)=some g):ET P w K mg base (j+4) x ps.length (ba g N.length):=by
 obtain⟨f,fd,c,P',hm,F,hb,hc,hh⟩:=D.ex
 refine Nq (k:=j+3) F S hb hm fun X hP hw hK hm' hb' C h1 h2 HF H=>?_
 subst hP;subst hw;subst hK;subst hm';subst hb'
 have L:oY X q:=by
  refine⟨c,P',by rw[h1,hc],by rw[h2];exact hq.2,hh,fun HF tb=>?_⟩
  obtain⟨oc,od,kV,doc,pm,an,cdv,ct,osl,rfl,lk,_⟩:=F.ex
  have:=tb f oc od _ osl c P' lk hq.1 hc hh
  rw[<- hq.2]
  exact this
 exact gY (fun s g h=>xf C B (Hy (G:=⟨fs,is⟩) (j:=j) 40 C ⟨hf,hi,B⟩ (jX _ _) fun q' z=>by cases z;exact⟨L,yP _⟩) 40 h) t
end
abbrev tW(s:Stmt)(N:List Str)(S:Sg)(l:Option Str):Option GS:=ph (E7 (aI s) N (tr S 40 l (aI s) N) 40) (bY s)
theorem NY(a:sc.kind=.function:=by rfl)(b:sc.isCoroutine=false:=by rfl)(c:sc.isGenerator=false:=by rfl)(d:N.Nodup:=by decide +kernel)(e:N.take P.length=P:=by rfl)(f:∀x∈P,sc.names.lookup x=some .local \/ sc.names.lookup x=some .cell:=by decide +kernel)(g:∀y∈sc.names,y.2≠.free:=by decide +kernel):dZ N P sc:=⟨a,b,c,d,e,f,g⟩
section
variable {K:PySem.W.Frag}
end
end Rf
namespace Ex
open PySem L2 PySem.Spec PyProof.Rows
section
variable {X:Cx}{pins:List (Addr×Obj)}{σ:L2.St}{H H':Hp}{s s':Shared}{cls:Value}{ea:Addr}
end
section
end
open PySem L2 Dl PySem.Spec PyProof.Rows
section
end
section
variable {X:Cx}{pins:List (Addr×Obj)}{σ:L2.St}{H H':Hp}{s s':Shared}{cls:Value}{ea:Addr}
end
section
end
section
end
section
end
open PySem PySem.W PySem.Spec PySem.Calls PyProof.Rows
section
variable {K:Frag}{x D:Addr}
end
section
variable {K:PySem.W.Frag}
end
section
end
section
end
open PySem L2 Dl PySem.Spec PyProof.Rows Rf
section
variable {tS:Stmt->Option GS}
end
section
variable {K:PySem.W.Frag}
end
section
variable {K:PySem.W.Frag}{cs:List (Str×Addr)}
end
end Ex
namespace Hd
open PySem L2 Dl PySem.Spec PyProof.Rows
section
variable {K:PySem.W.Frag}
theorem LQ{st:Stmt}(hb:fv st ps)(a:PySem.W.nsIn K mainGlobals x=some (some (.ref f)))(l:K.lookup f=some (fo x st pm c))(d:PySem.W.codeIn K (.ref c) x=true)(k:PySem.W.keepIn K (.ref f)=true):iA K x st ps:=Lr hb a l d k
theorem Nn{st:Stmt}(hb:fv st ps)(a:PySem.W.nsIn K mainGlobals x=some (some (.ref f)))(l:K.lookup f=some (fo x st pm c))(d:PySem.W.codeIn K (.ref c) x=true)(k:PySem.W.keepIn K (.ref f)=true)(hh:PySem.W.codeHdIn K c (Ds K c)=true):nC K x st ps:=K2 hb a l d k hh
end
section
variable {α:Type}{R:List α->Prop}
theorem uG(h:∀a,R [a])(us:List α)(e:us.length=1):R us:=by
 obtain⟨a,rfl⟩:=List.length_eq_one_iff.mp e;exact h a
theorem Hb(us:List α)(e:us.length=n+1):∃a r,us=a::r/\r.length=n:=by
 cases us with
 | nil=>cases e
 | cons a r=>exact⟨a,r,rfl,by simpa using e⟩
theorem LA(h:∀a b,R [a,b])(us:List α)(e:us.length=2):R us:=by
 obtain⟨a,r,rfl,e'⟩:=Hb us e;exact uG (R:=fun r=>R (a::r)) (h a) r e'
theorem Kr(h:∀a b c,R [a,b,c])(us:List α)(e:us.length=3):R us:=by
 obtain⟨a,r,rfl,e'⟩:=Hb us e;exact LA (R:=fun r=>R (a::r)) (h a) r e'
theorem LC(h:∀a b c d,R [a,b,c,d])(us:List α)(e:us.length=4):R us:=by
 obtain⟨a,r,rfl,e'⟩:=Hb us e;exact Kr (R:=fun r=>R (a::r)) (h a) r e'
theorem MT(h:∀a b c d f,R [a,b,c,d,f])(us:List α)(e:us.length=5):R us:=by
 obtain⟨a,r,rfl,e'⟩:=Hb us e;exact LC (R:=fun r=>R (a::r)) (h a) r e'
end
section
variable {K:PySem.W.Frag}
theorem f1(f c:Addr)(pm:Value){st:Stmt}(hb:fv st ps:=by exact fun _ _ _ _ _ _ _ _ us hl=>uG (R:=fun us=>bindArgs _ ⟨us,[]⟩=pure (List.zip _ us)) (fun _=>rfl) us hl)(a:PySem.W.nsIn K mainGlobals x=some (some (.ref f)):=by kernel_rfl)(l:K.lookup f=some (fo x st pm c):=by kernel_rfl)(d:PySem.W.codeIn K (.ref c) x=true:=by kernel_rfl)(k:PySem.W.keepIn K (.ref f)=true:=by kernel_rfl):iA K x st ps:=LQ hb a l d k
theorem l1(f c:Addr)(pm:Value){st:Stmt}(hb:fv st ps:=by exact fun _ _ _ _ _ _ _ _ us hl=>uG (R:=fun us=>bindArgs _ ⟨us,[]⟩=pure (List.zip _ us)) (fun _=>rfl) us hl)(a:PySem.W.nsIn K mainGlobals x=some (some (.ref f)):=by kernel_rfl)(l:K.lookup f=some (fo x st pm c):=by kernel_rfl)(d:PySem.W.codeIn K (.ref c) x=true:=by kernel_rfl)(k:PySem.W.keepIn K (.ref f)=true:=by kernel_rfl)(hh:PySem.W.codeHdIn K c (Ds K c)=true:=by kernel_rfl):nC K x st ps:=Nn hb a l d k hh
theorem f2(f c:Addr)(pm:Value){st:Stmt}(hb:fv st ps:=by exact fun _ _ _ _ _ _ _ _ us hl=>LA (R:=fun us=>bindArgs _ ⟨us,[]⟩=pure (List.zip _ us)) (fun _ _=>rfl) us hl)(a:PySem.W.nsIn K mainGlobals x=some (some (.ref f)):=by kernel_rfl)(l:K.lookup f=some (fo x st pm c):=by kernel_rfl)(d:PySem.W.codeIn K (.ref c) x=true:=by kernel_rfl)(k:PySem.W.keepIn K (.ref f)=true:=by kernel_rfl):iA K x st ps:=LQ hb a l d k
theorem f3(f c:Addr)(pm:Value){st:Stmt}(hb:fv st ps:=by exact fun _ _ _ _ _ _ _ _ us hl=>Kr (R:=fun us=>bindArgs _ ⟨us,[]⟩=pure (List.zip _ us)) (fun _ _ _=>rfl) us hl)(a:PySem.W.nsIn K mainGlobals x=some (some (.ref f)):=by kernel_rfl)(l:K.lookup f=some (fo x st pm c):=by kernel_rfl)(d:PySem.W.codeIn K (.ref c) x=true:=by kernel_rfl)(k:PySem.W.keepIn K (.ref f)=true:=by kernel_rfl):iA K x st ps:=LQ hb a l d k
theorem l3(f c:Addr)(pm:Value){st:Stmt}(hb:fv st ps:=by exact fun _ _ _ _ _ _ _ _ us hl=>Kr (R:=fun us=>bindArgs _ ⟨us,[]⟩=pure (List.zip _ us)) (fun _ _ _=>rfl) us hl)(a:PySem.W.nsIn K mainGlobals x=some (some (.ref f)):=by kernel_rfl)(l:K.lookup f=some (fo x st pm c):=by kernel_rfl)(d:PySem.W.codeIn K (.ref c) x=true:=by kernel_rfl)(k:PySem.W.keepIn K (.ref f)=true:=by kernel_rfl)(hh:PySem.W.codeHdIn K c (Ds K c)=true:=by kernel_rfl):nC K x st ps:=Nn hb a l d k hh
theorem f4(f c:Addr)(pm:Value){st:Stmt}(hb:fv st ps:=by exact fun _ _ _ _ _ _ _ _ us hl=>LC (R:=fun us=>bindArgs _ ⟨us,[]⟩=pure (List.zip _ us)) (fun _ _ _ _=>rfl) us hl)(a:PySem.W.nsIn K mainGlobals x=some (some (.ref f)):=by kernel_rfl)(l:K.lookup f=some (fo x st pm c):=by kernel_rfl)(d:PySem.W.codeIn K (.ref c) x=true:=by kernel_rfl)(k:PySem.W.keepIn K (.ref f)=true:=by kernel_rfl):iA K x st ps:=LQ hb a l d k
theorem f5(f c:Addr)(pm:Value){st:Stmt}(hb:fv st ps:=by exact fun _ _ _ _ _ _ _ _ us hl=>MT (R:=fun us=>bindArgs _ ⟨us,[]⟩=pure (List.zip _ us)) (fun _ _ _ _ _=>rfl) us hl)(a:PySem.W.nsIn K mainGlobals x=some (some (.ref f)):=by kernel_rfl)(l:K.lookup f=some (fo x st pm c):=by kernel_rfl)(d:PySem.W.codeIn K (.ref c) x=true:=by kernel_rfl)(k:PySem.W.keepIn K (.ref f)=true:=by kernel_rfl):iA K x st ps:=LQ hb a l d k
end
end Hd
namespace Pg
open PySem L2 Dl PySem.Spec PyProof.Rows
def oX:ar->Option Out:=(av (fH (mz (bA (fB (HJ "int" (ab 0)))) (fB (HJ "bool" (ab 0)))) (aJ (fC (.bool false))) fQ) (aJ (iZ AX AX (ab 1) (ab 0) (ab 2))))
def bw:List D->Option D:=ba oX 3
def nM:ar->Option Out:=(aJ (ah 3 bw (aa (ab 0) (aa (fC (.int 0)) (aa (f2 Dl.dv (ab 1) (fC (.int 1))) ae)))))
def cn:List D->Option D:=ba nM 2
def qx:ar->Option Out:=(aJ (gD (HJ "tuple" (ab 0)) (iZ AX AX (ab 1) (aX bo (aa (ab 0) ae)) (ab 2))))
def bD:List D->Option D:=ba qx 3
def nv:ar->Option Out:=(av (fH (bA (fB (HJ "tuple" (ab 0)))) (aJ (fC (.bool false))) fQ) (av (fH (bA (fB (aX lT (aa (bT (aj 1 [1] (aQ (ab 0)) (fG 0) (fun _=>some true) (ah 2 cn (aa (ab 0) (aa (ab 1) ae))))) ae)))) (aJ (fC (.bool false))) fQ) (aJ (f2 bC (f1 jw (ab 0)) (aX bo (aa (ab 0) ae))))))
def fU:List D->Option D:=ba nv 2
def uE:ar->Option Out:=(aJ (gD (ah 3 bD (aa (ab 0) (aa (fC (.int 2)) (aa (fC (.int 2)) ae)))) (gD (ah 3 bw (aa (f2 ao (ab 0) (fC (.int 0))) (aa (fC (.int 0)) (aa (fC (.int 9)) ae)))) (ah 2 fU (aa (f2 ao (ab 0) (fC (.int 1))) (aa (ab 1) ae))))))
def eY:List D->Option D:=ba uE 2
def uQ:ar->Option Out:=(av (fH (bA (fB (ah 3 bD (aa (ab 0) (aa (fC (.int 3)) (aa (fC (.int 3)) ae)))))) (aJ (fC (.bool false))) fQ) (aJ (gD (ah 2 cn (aa (f2 ao (ab 0) (fC (.int 0))) (aa (ab 1) ae))) (gD (ah 2 cn (aa (f2 ao (ab 0) (fC (.int 1))) (aa (ab 2) ae))) (ah 3 bw (aa (f2 ao (ab 0) (fC (.int 2))) (aa (fC (.int 1)) (aa (fC (.int 9)) ae))))))))
def jd:List D->Option D:=ba uQ 3
def nG:ar->Option Out:=(av (fH (mz (bA (fB (ah 3 bD (aa (ab 0) (aa (fC (.int 1)) (aa (fC (.int 4)) ae)))))) (bA (fB (ah 3 bD (aa (ab 1) (aa (fC (.int 1)) (aa (fC (.int 4)) ae))))))) (aJ (fC (.bool false))) fQ) (av (fH (bA (fB (aX lT (aa (bT (aj 1 [1] (aQ (ab 0)) (fG 0) (fun _=>some true) (ah 2 eY (aa (ab 0) (aa (aX bo (aa (ab 1) ae)) ae))))) ae)))) (aJ (fC (.bool false))) fQ) (av (fH (bA (fB (aX lT (aa (bT (aj 1 [0] (aQ (ab 1)) (fG 0) (fun _=>some true) (ah 2 eY (aa (ab 0) (aa (aX bo (aa (ab 1) ae)) ae))))) ae)))) (aJ (fC (.bool false))) fQ) (aJ (gD (HJ "tuple" (ab 2)) (aX lT (aa (bT (aj 1 [0,1] (aQ (ab 2)) (fG 0) (fun _=>some true) (ah 3 jd (aa (ab 0) (aa (aX bo (aa (ab 1) ae)) (aa (aX bo (aa (ab 2) ae)) ae)))))) ae)))))))
def fY:List D->Option D:=ba nG 3
def kh:ar->Option Out:=(av (aL 1 [] (cF ae)) (av (cA [0] (bc (aa (ab 0) ae)) (dE 2 3) (Bh 1 [2,3] (aj 1 [2] (aQ (f2 ao (ab 3) (fC (.int 1)))) (fG 0) (fun _=>some true) (aM (aa (ab 1) (aa (ab 0) ae)))))) (aJ (ab 1))))
def bz:List D->Option D:=ba kh 4
def ir:ar->Option Out:=(av (fH (mz (bA (fB (ah 3 bD (aa (ab 0) (aa (fC (.int 3)) (aa (fC (.int 3)) ae)))))) (bA (fB (ah 3 fY (aa (f2 ao (ab 0) (fC (.int 0))) (aa (f2 ao (ab 0) (fC (.int 1))) (aa (f2 ao (ab 0) (fC (.int 2))) ae))))))) (aJ (fC (.bool false))) fQ) (av (aL 1 [0] (aj 1 [] (aQ (f2 ao (ab 0) (fC (.int 2)))) (fG 0) (fun _=>some true) (aM (aa (f2 ao (ab 0) (fC (.int 0))) (aa (f2 ao (ab 0) (fC (.int 1))) ae))))) (av (aL 2 [0] (fF fK (aa (ah 1 bz (aa (f2 ao (ab 0) (fC (.int 0))) ae)) ae))) (av (aL 3 [0] (fF fK (aa (bT (aj 2 [] (aQ (ah 1 bz (aa (f2 ao (ab 0) (fC (.int 1))) ae))) (fy 0 1) (fun _=>some true) (aM (aa (ab 1) (aa (ab 0) ae))))) ae))) (aJ (gD (f2 bC (ab 1) (ab 2)) (f2 bC (ab 1) (ab 3))))))))
def bB:List D->Option D:=ba ir 4
def dX:ar->Option Out:=(fH (bA (fB (ah 1 bB (aa (ab 0) ae)))) KS fQ)
def bI:List D->Option D:=ba dX 1
def dR:ar->Option Out:=(fH (bA (fB (ah 3 bw (aa (ab 0) (aa (ab 1) (aa (ab 2) ae)))))) KS fQ)
def d7:List D->Option D:=ba dR 3
def dm:ar->Option Out:=(gZ (ah 3 d7 (aa (ab 0) (aa (fC (.int 0)) (aa (f2 Dl.dv (ab 1) (fC (.int 1))) ae)))))
def c8:List D->Option D:=ba dm 2
def eN:ar->Option Out:=(gZ (ah 2 c8 (aa (ab 0) (aa (fC (.int 2)) ae))))
def ik:List D->Option D:=ba eN 1
def ij:ar->Option Out:=(aJ (f2 aR (f2 aR (mT gG (ab 0) mQ (Bx (ab 1))) (aM (aa (ab 2) ae))) (mT gG (ab 0) (Bx (f2 aR (ab 1) (fC (.int 1)))) mQ)))
def dN:List D->Option D:=ba ij 3
abbrev Bb:List Str:=["world","side","place","ways","likes","own"]
def my:ar->Option Out:=(av (aB 3 [0] (f2 ao (ab 0) (fC (.int 2)))) (av (aB 4 [0,1,2] (f2 ao (f2 ao (f2 ao (ab 0) (ab 1)) (ab 2)) (fC (.int 1)))) (av (aL 5 [1,2,3] (aj 2 [1,2] (bc (aa (ab 3) ae)) (fy 0 1) (fB (f2 bC (f2 ao (ab 1) (ab 2)) (ab 3))) (ab 0))) (aJ (bT (mY [1,3,4] (ab 5) (f2 nU (ab 3) (f2 ao (f2 ao (ab 2) (ab 0)) (f2 Dl.dv (fC (.int 1)) (ab 1))))))))))
def gR:List D->Option D:=ba my 6
def jf:ar->Option Out:=(av (aL 4 [0] (aj 1 [] (aQ (f2 ao (ab 0) (fC (.int 2)))) (fG 0) (fun _=>some true) (fC (.int 0)))) (av (aB 5 [0,1,2] (f2 ao (f2 ao (f2 ao (ab 0) (ab 1)) (ab 2)) (fC (.int 0)))) (av (cA [0,1,2] (aQ (ah 3 gR (aa (ab 0) (aa (ab 1) (aa (ab 2) ae))))) (pW 6) (av (iW 4 [0,3,5,6] (ab 6) (aX qb (aa (f2 ao (ab 3) (ab 6)) (aa (f2 ao (f2 ao (f2 ao (ab 0) (fC (.int 2))) (ab 6)) (fC (.int 2))) (aa (ab 5) ae))))) (aB 5 [4,5,6] (f2 Dl.dv (ab 5) (f2 ao (ab 4) (ab 6)))))) (aJ (aX aK (aa (ab 4) ae))))))
def cY:List D->Option D:=ba jf 7
def eF:ar->Option Out:=(av (aL 3 [0] (aj 1 [] (aQ (f2 ao (ab 0) (fC (.int 2)))) (fG 0) (fun _=>some true) (fC (.int 0)))) (av (cA [0,1] (bq (aa (aX bo (aa (f2 ao (ab 0) (ab 1)) ae)) ae)) (pW 4) (av (aB 5 [0,1,2,4] (ah 4 cY (aa (ab 0) (aa (ab 1) (aa (ab 4) (aa (ab 2) ae)))))) (aL 3 [3,5] (aj 2 [] (gN (aa (ab 3) (aa (ab 5) ae))) (fy 0 1) (fun _=>some true) (f2 aR (ab 0) (ab 1)))))) (aJ (aX aK (aa (ab 3) ae)))))
def br:List D->Option D:=ba eF 6
def uH:ar->Option Out:=(aJ (aX aK (aa (bT (aj 1 [] (aQ (f2 ao (ab 0) (fC (.int 2)))) (fG 0) (fun _=>some true) (f2 ao (ab 0) (fC (.int 2))))) ae)))
def gF:List D->Option D:=ba uH 1
def qy:ar->Option Out:=(aJ (ah 3 dN (aa (ab 0) (aa (ab 1) (aa (ab 2) ae)))))
def cD:List D->Option D:=ba qy 3
def mJ:ar->Option Out:=(av (aB 2 [0,1] (ah 3 br (aa (ab 0) (aa (fC (.int 0)) (aa (ab 1) ae))))) (av (aB 3 [0,2] (ah 3 br (aa (ab 0) (aa (fC (.int 1)) (aa (ab 2) ae))))) (av (cA [3] (bc (aa (ab 3) ae)) (dE 4 5) (fH (fB (f2 Cf (ab 5) (f2 ao (ab 2) (ab 4)))) (aJ (aM (aa (ab 4) (aa (ab 5) ae)))) fQ)) (aJ (fC .none)))))
def dD:List D->Option D:=ba mJ 6
def sO:ar->Option Out:=(av (aL 1 [] (cF ae)) (av (aB 2 [0] (ah 1 gF (aa (ab 0) ae))) (av (aB 3 [0,2] (ah 2 dD (aa (ab 0) (aa (ab 2) ae)))) (av (Gg (fB (f2 nh (ab 3) (fC .none))) (av (kn 1 [3] (ab 3)) (av (aB 2 [2,3] (ah 3 cD (aa (ab 2) (aa (f2 ao (ab 3) (fC (.int 0))) (aa (f2 ao (ab 3) (fC (.int 1))) ae))))) (aB 3 [0,2] (ah 2 dD (aa (ab 0) (aa (ab 2) ae)))))) Rf.turns) (aJ (ab 1))))))
def se:List D->Option D:=ba sO 4
def pq:ar->Option Out:=(av (aB 2 [0] (ah 1 gF (aa (ab 0) ae))) (av (cA [1] (aQ (ab 1)) (dE 3 4) (aB 2 [2,3,4] (ah 3 cD (aa (ab 2) (aa (ab 3) (aa (ab 4) ae)))))) (aJ (ab 2))))
def oA:List D->Option D:=ba pq 5
def fZ:ar->Option Out:=(av (gZ (ah 1 bI (aa (ab 0) ae))) (aJ (ah 3 br (aa (ab 0) (aa (fC (.int 0)) (aa (ah 2 oA (aa (ab 0) (aa (ah 1 se (aa (ab 0) ae)) ae))) ae))))))
def aO:List D->Option D:=ba fZ 1
def iO:ar->Option Out:=(av (fH (fB (f2 bC (ab 0) (bT (cF ae)))) (aJ (f2 ej (fC (.int 7)) (ab 1))) fQ) (aJ (f2 aR (f2 ao (ab 0) (f2 j8 (ab 1) (aX bo (aa (ab 0) ae)))) (f2 ej (fC (.int 6553)) (f2 lK (ab 1) (aX bo (aa (ab 0) ae)))))))
def eh:List D->Option D:=ba iO 2
def lM:ar->Option Out:=(av (aB 3 [0,1] (f2 j8 (f2 aR (f2 ej (f2 j8 (ah 2 eh (aa (ab 0) (aa (ab 1) ae))) (fC (.int 2147483563))) (fC (.int 69069))) (f2 ej (fC (.int 104723)) (f2 aR (ab 1) (fC (.int 1))))) (fC (.int 2147483563)))) (av (aB 3 [3] (f2 j8 (f2 aR (f2 ej (ab 3) (ab 3)) (f2 lK (ab 3) (fC (.int 3)))) (fC (.int 2147483399)))) (aJ (f2 j8 (f2 lK (f2 j8 (f2 aR (f2 ej (ab 3) (ab 3)) (f2 lK (ab 3) (fC (.int 7)))) (fC (.int 2147483647))) (fC (.int 11))) (ab 2)))))
def au:List D->Option D:=ba lM 4
def kg:ar->Option Out:=(av (aL 3 [] (cF ae)) (av (cA [2] (bc (aa (ab 2) ae)) (dE 4 5) (av (aL 6 [] (cF ae)) (av (cA [5] (bc (aa (ab 5) ae)) (dE 7 8) (Cy 6 [8] (ah 3 au (aa (ab 0) (aa (f2 aR (f2 aR (ab 1) (f2 ej (fC (.int 4)) (ab 4))) (ab 7)) (aa (f2 aR (aX bo (aa (ab 6) ae)) (fC (.int 1))) ae)))) (ab 8))) (kn 3 [6] (aX aK (aa (ab 6) ae)))))) (aJ (ab 3))))
def bG:List D->Option D:=ba kg 9
def eO:ar->Option Out:=(av (fH (nL (fB (f2 Cg (ab 2) (fC (.int 3)))) (fB (f2 bC (ah 3 au (aa (ab 0) (aa (f2 aR (ab 1) (fC (.int 64))) (aa (fC (.int 4)) ae)))) (fC (.int 0))))) (av (aB 3 [0,1] (f2 aR (fC (.int 1)) (ah 3 au (aa (ab 0) (aa (f2 aR (ab 1) (fC (.int 65))) (aa (fC (.int 2)) ae)))))) (av (aB 4 [3] (aM (aa (aM (aa (ab 3) (aa (aM (aa (fC (.int 1)) (aa (fC (.int 0)) ae))) ae))) (aa (aM (aa (ab 3) (aa (aM (aa (fC (.int 0)) (aa (fC (.int 1)) ae))) ae))) ae)))) (aJ (aM (aa (aM (aa (aM (aa (ab 3) (aa (aM (aa (fC (.int 0)) (aa (fC (.int 1)) ae))) ae))) (aa (aM (aa (ab 3) (aa (aM (aa (fC (.int 1)) (aa (fC (.int 0)) ae))) ae))) ae))) (aa (ab 4) (aa (aM (aa (aM (aa (fC (.int 0)) (aa (fC (.int 0)) (aa (fC (.int 2)) ae)))) (aa (aM (aa (fC (.int 0)) (aa (fC (.int 1)) (aa (fC (.int 2)) ae)))) (aa (aM (aa (fC (.int 1)) (aa (fC (.int 0)) (aa (fC (.int 2)) ae)))) (aa (aM (aa (fC (.int 1)) (aa (fC (.int 1)) (aa (fC (.int 2)) ae)))) ae))))) ae))))))) fQ) (av (aB 5 [0,1] (f2 aR (fC (.int 1)) (ah 3 au (aa (ab 0) (aa (ab 1) (aa (fC (.int 3)) ae)))))) (av (aB 6 [0,1] (f2 aR (fC (.int 1)) (ah 3 au (aa (ab 0) (aa (f2 aR (ab 1) (fC (.int 1))) (aa (fC (.int 3)) ae)))))) (av (aL 7 [] (cF ae)) (av (cA [5,6] (bq (aa (f2 ej (ab 5) (ab 6)) ae)) (pW 8) (fH (nL (fB (f2 Cf (aX bo (aa (ab 7) ae)) (ab 2))) (fB (f2 Cg (ah 3 au (aa (ab 0) (aa (f2 aR (f2 aR (ab 1) (fC (.int 2))) (ab 8)) (aa (fC (.int 4)) ae)))) (fC (.int 0))))) (kn 7 [0,1,6,8] (aM (aa (f2 lK (ab 8) (ab 6)) (aa (f2 j8 (ab 8) (ab 6)) (aa (f2 aR (fC (.int 1)) (ah 3 au (aa (ab 0) (aa (f2 aR (f2 aR (ab 1) (fC (.int 12))) (ab 8)) (aa (fC (.int 2)) ae))))) ae))))) fQ)) (av (aB 9 [0,1,5,7] (ah 3 bG (aa (ab 0) (aa (f2 aR (ab 1) (fC (.int 24))) (aa (bT (aj 1 [7] (bq (aa (ab 5) ae)) (fG 0) (fun _=>some true) (bT (aj 1 [0] (aQ (ab 1)) (fG 0) (fB (f2 bC (f2 ao (ab 0) (fC (.int 0))) (ab 1))) (f2 ao (ab 0) (fC (.int 1))))))) ae))))) (av (aB 10 [0,1,6,7] (ah 3 bG (aa (ab 0) (aa (f2 aR (ab 1) (fC (.int 40))) (aa (bT (aj 1 [7] (bq (aa (ab 6) ae)) (fG 0) (fun _=>some true) (bT (aj 1 [0] (aQ (ab 1)) (fG 0) (fB (f2 bC (f2 ao (ab 0) (fC (.int 1))) (ab 1))) (f2 ao (ab 0) (fC (.int 0))))))) ae))))) (av (aB 11 [0,1,8,9] (aX aK (aa (bT (aj 2 [0,1] (bc (aa (ab 9) ae)) (fy 0 1) (fun _=>some true) (aM (aa (ah 3 au (aa (ab 2) (aa (f2 aR (f2 aR (ab 3) (fC (.int 56))) (ab 0)) (aa (fC (.int 4)) ae)))) (aa (ab 1) ae))))) ae))) (av (aB 4 [0,1,8,10] (aX aK (aa (bT (aj 2 [0,1] (bc (aa (ab 10) ae)) (fy 0 1) (fun _=>some true) (aM (aa (ah 3 au (aa (ab 2) (aa (f2 aR (f2 aR (ab 3) (fC (.int 60))) (ab 0)) (aa (fC (.int 4)) ae)))) (aa (ab 1) ae))))) ae))) (aJ (aM (aa (ab 11) (aa (ab 4) (aa (aX aK (aa (ab 7) ae)) ae))))))))))))))
def bV:List D->Option D:=ba eO 12
def rL:ar->Option Out:=(aJ (aX wz (aa (bT (aj 2 [2,3] (gN (aa (f2 ao (ab 0) (fC (.int 2))) (aa (ab 1) ae))) (fy 0 1) (fB (f2 bC (f2 ao (ab 0) (ab 2)) (ab 3))) (ab 1))) ae)))
def dJ:List D->Option D:=ba rL 4
def iF:ar->Option Out:=(aJ (aX lT (aa (bT (aj 2 [0,1,2] (bc (aa (f2 ao (ab 0) (ab 2)) ae)) (fy 0 1) (fun _=>some true) (f2 AX (ah 4 dJ (aa (ab 2) (aa (ab 3) (aa (ab 4) (aa (ab 0) ae))))) (f2 ao (ab 1) (fC (.int 0)))))) ae)))
def cO:List D->Option D:=ba iF 3
def m9:ar->Option Out:=(av (aB 2 [0] (f2 ao (ab 0) (fC (.int 2)))) (av (fH (bA (fB (ah 3 bD (aa (ab 1) (aa (aX bo (aa (ab 2) ae)) (aa (aX bo (aa (ab 2) ae)) ae)))))) (aJ (fC (.bool false))) fQ) (av (fH (bA (fB (aX lT (aa (bT (aj 2 [] (gN (aa (ab 2) (aa (ab 1) ae))) (fy 0 1) (fun _=>some true) (ah 3 bw (aa (ab 1) (aa (fC (.int 0)) (aa (f2 ao (ab 0) (fC (.int 2))) ae)))))) ae)))) (aJ (fC (.bool false))) fQ) (aJ (gD (ah 3 cO (aa (ab 0) (aa (ab 1) (aa (fC (.int 0)) ae)))) (ah 3 cO (aa (ab 0) (aa (ab 1) (aa (fC (.int 1)) ae)))))))))
def ji:List D->Option D:=ba m9 3
def eP:ar->Option Out:=(av (gZ (ah 1 bI (aa (ab 0) ae))) (fH (bA (fB (ah 2 ji (aa (ab 0) (aa (ab 1) ae))))) KS fQ))
def c7:List D->Option D:=ba eP 2
abbrev pD:List Str:=["world","ways"]
def e8:ar->Option Out:=(av (aB 1 [0] (f2 ao (ab 0) (fC (.int 2)))) (aJ (bT (pG [1] (aa (aX bo (aa (ab 1) ae)) ae) (aM (aa (f2 ao (f2 ao (ab 1) (ab 0)) (fC (.int 1))) (aa (f2 ao (f2 ao (ab 1) (ab 0)) (fC (.int 0))) ae)))))))
def bp:List D->Option D:=ba e8 2
def o4:ar->Option Out:=(av (gZ (ah 1 bI (aa (ab 0) ae))) (av (aL 1 [0] (aj 1 [0] (aQ (ah 1 bp (aa (ab 0) ae))) (fG 0) (fun _=>some true) (f2 ao (f2 ao (ab 1) (fC (.int 2))) (ab 0)))) (aJ (aM (aa (f2 ao (ab 0) (fC (.int 1))) (aa (f2 ao (ab 0) (fC (.int 0))) (aa (aX aK (aa (bT (aj 3 [] (aQ (ab 1)) (E8 0 1 2) (fun _=>some true) (aM (aa (ab 1) (aa (ab 0) (aa (ab 2) ae)))))) ae)) ae)))))))
def lL:List D->Option D:=ba o4 2
def f9:ar->Option Out:=(av (gZ (ah 2 c7 (aa (ab 0) (aa (ab 1) ae)))) (aJ (aX aK (aa (bT (aj 1 [1] (aQ (ah 1 bp (aa (ab 0) ae))) (fG 0) (fun _=>some true) (f2 ao (ab 1) (ab 0)))) ae))))
def gx:List D->Option D:=ba f9 2
def g9:ar->Option Out:=(av (aB 4 [0,2,3] (f2 ao (f2 ao (f2 ao (ab 0) (fC (.int 2))) (ab 3)) (ab 2))) (av (fH (fB (f2 Cf (ah 4 dJ (aa (ab 0) (aa (ab 1) (aa (ab 2) (aa (ab 4) ae))))) (f2 ao (f2 ao (f2 ao (ab 0) (ab 2)) (ab 4)) (fC (.int 0))))) (aJ (fC (.bool true))) fQ) (av (aB 5 [0,2,4] (ah 3 gR (aa (ab 0) (aa (ab 2) (aa (ab 4) ae))))) (av (aB 6 [3,5] (mT gG (ab 5) (Bx (f2 aR (f2 nU (ab 5) (ab 3)) (fC (.int 1)))) mQ)) (aJ (aX Rf.EX (aa (bT (aj 1 [1] (aQ (ab 6)) (fG 0) (fun _=>some true) (f2 Cg (f2 ao (ab 1) (ab 0)) (fC (.int 0))))) ae)))))))
def cC:List D->Option D:=ba g9 7
def lr:ar->Option Out:=(av (fH (fB (f2 bC (f2 ao (ab 1) (ab 2)) (f2 ao (f2 ao (f2 ao (ab 0) (fC (.int 2))) (ab 2)) (fC (.int 2))))) (aJ (fC (.str "full"))) fQ) (av (fH (bA (fB (ah 4 cC (aa (ab 0) (aa (ab 1) (aa (fC (.int 0)) (aa (ab 2) ae))))))) (aJ (fC (.str "giver"))) fQ) (av (fH (bA (fB (ah 4 cC (aa (ab 0) (aa (ab 1) (aa (fC (.int 1)) (aa (ab 2) ae))))))) (aJ (fC (.str "taker"))) fQ) (aJ (fC .none)))))
def cR:List D->Option D:=ba lr 3
def eJ:ar->Option Out:=(av (cA [1] (bq (aa (aX bo (aa (ab 1) ae)) ae)) (pW 2) (fH (fB (f2 nS (ah 3 cR (aa (ab 0) (aa (ab 1) (aa (ab 2) ae)))) (fC .none))) (aJ (ab 2)) fQ)) (aJ (fC .none)))
def eC:List D->Option D:=ba eJ 3
def lu:ar->Option Out:=(aJ (f2 nS (ah 2 eC (aa (ab 0) (aa (ab 1) ae))) (fC .none)))
def lb:List D->Option D:=ba lu 2
def m6:ar->Option Out:=(av (gZ (ah 2 c7 (aa (ab 0) (aa (ab 1) ae)))) (aJ (bT (aj 1 [0,1] (bq (aa (aX bo (aa (ab 1) ae)) ae)) (fG 0) (fB (f2 nS (ah 3 cR (aa (ab 1) (aa (ab 2) (aa (ab 0) ae)))) (fC .none))) (ab 0)))))
def j1:List D->Option D:=ba m6 2
def tI:ar->Option Out:=(av (gZ (ah 2 c7 (aa (ab 0) (aa (ab 1) ae)))) (aJ (ah 2 lb (aa (ab 0) (aa (ab 1) ae)))))
def lN:List D->Option D:=ba tI 2
def gp:ar->Option Out:=(av (aB 1 [0] (ah 1 lL (aa (ab 0) ae))) (aJ (ah 2 gx (aa (ab 1) (aa (ah 1 aO (aa (ab 1) ae)) ae)))))
def b9:List D->Option D:=ba gp 2
def uX:ar->Option Out:=(aJ (aX wz (aa (bT (aj 2 [2,3] (gN (aa (ab 1) (aa (f2 ao (ab 0) (fC (.int 2))) ae))) (fy 0 1) (fB (f2 bC (f2 ao (ab 1) (ab 2)) (ab 3))) (ab 0))) ae)))
def nz:List D->Option D:=ba uX 4
def v7:ar->Option Out:=(av (cA [] (bq (aa (fC (.int 2)) ae)) (pW 2) (cA [0,2] (bc (aa (f2 ao (ab 0) (ab 2)) ae)) (dE 3 4) (fH (fB (f2 Cg (ah 4 nz (aa (ab 0) (aa (ab 1) (aa (ab 2) (aa (ab 3) ae))))) (f2 ao (ab 4) (fC (.int 0))))) (aJ (fC (.bool false))) fQ))) (aJ (fC (.bool true))))
def jc:List D->Option D:=ba v7 5
def tj:ar->Option Out:=(av (aL 1 [] (cF (aa (aM ae) ae))) (av (cA [0] (aQ (f2 ao (ab 0) (fC (.int 2)))) (pW 2) (av (aL 3 [] (cF ae)) (av (cA [1] (aQ (ab 1)) (pW 4) (aL 3 [2,3,4] (MN pQ (ab 3) (bT (aj 1 [4] (bq (aa (f2 aR (f2 ao (ab 2) (fC (.int 2))) (fC (.int 1))) ae)) (fG 0) (fun _=>some true) (f2 aR (ab 1) (aM (aa (ab 0) ae)))))))) (aB 1 [3] (ab 3))))) (aJ (bT (aj 1 [0] (aQ (ab 1)) (fG 0) (fB (ah 2 jc (aa (ab 1) (aa (ab 0) ae)))) (ab 0))))))
def r8:List D->Option D:=ba tj 5
def ug:ar->Option Out:=(av (aB 3 [] (aM ae)) (av (cA [2] (bc (aa (f2 ao (ab 2) (fC (.int 2))) ae)) (dE 4 5) (av (aB 6 [0,1,3,4,5] (f2 aR (ab 3) (aM (aa (ah 3 au (aa (ab 0) (aa (f2 aR (ab 1) (ab 4)) (aa (f2 aR (f2 ao (ab 5) (fC (.int 2))) (fC (.int 1))) ae)))) ae)))) (av (aB 7 [2,6] (ah 2 jc (aa (ab 2) (aa (f2 aR (ab 6) (f2 ej (aM (aa (fC (.int 0)) ae)) (f2 Dl.dv (aX bo (aa (f2 ao (ab 2) (fC (.int 2))) ae)) (aX bo (aa (ab 6) ae))))) ae)))) (aB 3 [3,6,7] (Mp (fB (ab 7)) (ab 6) (f2 aR (ab 3) (aM (aa (fC (.int 0)) ae)))))))) (aJ (ab 3))))
def uO:List D->Option D:=ba ug 8
def dU:ar->Option Out:=(av (gZ (ah 1 ik (aa (ab 1) ae))) (gZ (ah 2 c8 (aa (ab 2) (aa (aX bo (aa (f2 ao (ab 0) (ab 1)) ae)) ae)))))
def d6:List D->Option D:=ba dU 3
def o7:ar->Option Out:=(av (gZ (ah 1 bI (aa (ab 0) ae))) (av (gZ (ah 3 d6 (aa (ab 0) (aa (ab 1) (aa (ab 2) ae))))) (aJ (ah 4 cY (aa (ab 0) (aa (ab 1) (aa (ab 2) (aa (ab 3) ae))))))))
def iQ:List D->Option D:=ba o7 4
def nE:ar->Option Out:=(aJ (f2 bC (ah 1 aO (aa (ab 0) ae)) (ah 1 b9 (aa (ab 0) ae))))
def bR:List D->Option D:=ba nE 1
def lj:ar->Option Out:=(aJ (ah 3 dN (aa (ab 0) (aa (ab 1) (aa (ah 3 dN (aa (f2 ao (ab 0) (ab 1)) (aa (ab 2) (aa (aM (aa (ab 3) (aa (ab 4) ae))) ae)))) ae)))))
def kl:List D->Option D:=ba lj 5
def gq:ar->Option Out:=(av (gZ (ah 1 bI (aa (ab 0) ae))) (av (gZ (ah 3 d6 (aa (ab 0) (aa (ab 1) (aa (ab 2) ae))))) (av (gZ (ah 3 d7 (aa (ab 3) (aa (fC (.int 0)) (aa (fC (.int 9)) ae))))) (aJ (ah 5 kl (aa (ab 0) (aa (ab 1) (aa (ab 2) (aa (ab 3) (aa (f2 ao (f2 ao (f2 ao (ab 0) (ab 1)) (ab 2)) (fC (.int 1))) ae))))))))))
def d9:List D->Option D:=ba gq 4
open PySem L2 Dl PySem.Spec PyProof.Rows Ex
abbrev rV:List Str:=["_law_script","_law_world_here","_law_side","_law_rows","_law_alike","_law_left","_law_due","_law_place","_law_offers","_law_way","_law_row","_law_some","_law_many","_law_end","_law_bare","_law_none"]
def qj:ar->Option Out:=(av (aB 1 [0] (ah 3 bV (aa (ab 0) (aa (fC (.int 0)) (aa (fC (.int 9)) ae))))) (av (fH (fB (f2 j6 (ah 1 bR (aa (ab 1) ae)) (f2 bC (ah 1 aO (aa (ab 1) ae)) (ah 1 b9 (aa (ab 1) ae))))) (aJ (fC (.bool false))) fQ) (av (aB 2 [0] (ah 3 au (aa (ab 0) (aa (fC (.int 70)) (aa (fC (.int 2)) ae))))) (av (aL 3 [1] (fF ck (aa (ab 1) ae))) (av (iW 3 [1,2] (ab 2) (aX aK (aa (bT (aj 2 [] (aQ (f2 ao (ab 1) (ab 2))) (fy 0 1) (fun _=>some true) (aM (aa (ab 0) (aa (aX aK (aa (bT (fF gh (aa (ab 1) ae))) ae)) ae))))) ae))) (av (aB 4 [3] (aX aK (aa (ab 3) ae))) (av (fH (mz (bA (fB (ah 1 bB (aa (ab 4) ae)))) (bA (fB (ah 1 bR (aa (ab 4) ae))))) (aJ (fC (.bool false))) fQ) (av (rK 5 (aj 1 [] (aQ (f2 ao (ab 4) (fC (.int 0)))) (fG 0) (fun _=>some true) (f2 ao (ab 0) (fC (.int 0)))) (aj 1 [] (aQ (f2 ao (ab 4) (fC (.int 1)))) (fG 0) (fun _=>some true) (f2 ao (ab 0) (fC (.int 0))))) (av (aL 6 [4] (nu (cF (aa (fC (.int 0)) ae)) (aX bo (aa (f2 ao (ab 4) (fC (.int 2))) ae)))) (av (cA [2,4] (bq (aa (aX bo (aa (f2 ao (ab 4) (f2 Dl.dv (fC (.int 1)) (ab 2))) ae)) ae)) (pW 7) (av (qs 8 [6] (nu (cF (aa (fC (.int 0)) ae)) (aX bo (aa (ab 6) ae)))) (av (cA [4] (bc (aa (f2 ao (ab 4) (fC (.int 2))) ae)) (dE 9 10) (fH (fB (f2 bC (f2 ao (ab 10) (f2 Dl.dv (fC (.int 1)) (ab 2))) (ab 7))) (iW 8 [2,5,10] (ab 9) (aX qb (aa (f2 ao (ab 10) (fC (.int 2))) (aa (f2 ao (f2 ao (ab 5) (ab 2)) (f2 ao (ab 10) (ab 2))) ae)))) fQ)) (av (aB 11 [2,4,7,8] (ah 4 iQ (aa (ab 4) (aa (f2 Dl.dv (fC (.int 1)) (ab 2)) (aa (ab 7) (aa (aX aK (aa (ab 8) ae)) ae)))))) (cA [11] (bc (aa (ab 11) ae)) (dE 9 12) (av (aB 13 [2,4,9] (f2 ao (f2 ao (f2 ao (ab 4) (fC (.int 2))) (ab 9)) (ab 2))) (av (pN 5 (ab 2) (ab 13) (f2 Dl.dv (f2 ao (f2 ao (ab 5) (ab 2)) (ab 13)) (ab 12))) (iW 6 [6,9,12] (ab 9) (f2 aR (f2 ao (ab 6) (ab 9)) (ab 12)))))))))) (av (fH (mz (fB (f2 j6 (ah 1 aO (aa (ab 4) ae)) (aX aK (aa (ab 6) ae)))) (fB (f2 j6 (ah 2 j1 (aa (ab 4) (aa (aX aK (aa (ab 6) ae)) ae))) (bT (cF ae))))) (aJ (fC (.bool false))) fQ) (av (aB 14 [1] (ab 1)) (av (cA [1,2] (bq (aa (aX bo (aa (f2 ao (ab 1) (ab 2)) ae)) ae)) (pW 7) (aB 14 [2,7,14] (ah 4 d9 (aa (ab 14) (aa (ab 2) (aa (ab 7) (aa (fC (.int 0)) ae))))))) (av (aB 15 [1] (f2 ej (aM (aa (fC (.int 0)) ae)) (aX bo (aa (f2 ao (ab 1) (fC (.int 2))) ae)))) (aJ (gD (ah 1 bR (aa (ab 14) ae)) (gD (f2 bC (ah 1 aO (aa (ab 14) ae)) (ab 15)) (ah 2 lN (aa (ab 14) (aa (ab 15) ae))))))))))))))))))))
def gC:List D->Option D:=ba qj 16
end Pg
namespace Rg0
open PySem L2 Dl Rf PySem.Spec PyProof.Rows
abbrev FT:=List (Str×Nat×(List D->Option D))
def L7(st:Stmt):List Str:=((aI st).names.filter fun y=>y.2 == .local || y.2 == .cell).map (·.1)
structure Ok(P:Program)(w:World)(K:PySem.W.Frag)(mg:Str->Option Value)(base:Heap)(is:List (Str×Int))(j:Nat)(l:FT):Prop where
 of:oT P w K mg base j l
 oi:ll mg is
 ob:∀x∈da,mg x=none
 os:∃h:Heap,K.In h/\h.Ns mainGlobals mg
section
variable {K:PySem.W.Frag}{st:Stmt}{l:FT}
theorem up(h:Ok P w K mg base is j l)(e:j<=k):Ok P w K mg base is k l:=⟨fun x n m z=>(h.of x n m z).mono e,h.oi,h.ob,h.os⟩
theorem Lm(h:Ok P w K mg base is j l)(F:ET P w K mg base j x n m):Ok P w K mg base is j ((x,n,m)::l):=⟨Lu F h.of,h.oi,h.ob,h.os⟩
theorem NI(h:Ok P w K mg base is j l)(D:iA K x st ps):Fv K mg x st ps:=let ⟨_,a,b⟩:=h.os;D.mg a b
theorem NT(h:Ok P w K mg base is j l)(D:nC K x st ps):JZ K mg x st ps:=let ⟨_,a,b⟩:=h.os;D.mg a b
theorem fst(a:sc.kind=.function:=by kernel_rfl)(b:sc.isCoroutine=false:=by kernel_rfl)(c:sc.isGenerator=false:=by kernel_rfl)(d:N.Nodup:=by decide +kernel)(e:N.take P.length=P:=by kernel_rfl)(f:∀x∈P,sc.names.lookup x=some .local \/ sc.names.lookup x=some .cell:=by decide +kernel)(g:∀y∈sc.names,y.2≠.free:=by decide +kernel):dZ N P sc:=⟨a,b,c,d,e,f,g⟩
abbrev M7(st:Stmt)(n:Nat):List Str:=(L7 st).take n
theorem on(st:Stmt)(D:iA K x st (M7 st n))(h:Ok P w K mg base is j l)(t:tW st (L7 st) ⟨l,is⟩ none=some g:=by kernel_rfl)(F:dZ (L7 st) (M7 st n) (aI st):=by exact fst)(e:(M7 st n).length=n:=by kernel_rfl)(e':(L7 st).length=k:=by kernel_rfl):Ok P w K mg base is (j+1) ((x,n,ba g k)::l):=by
 have:=Lm (up h (Nat.le_succ j)) (NS (NI h D) F h.ob h.of h.oi t)
 rw[e,e'] at this
 exact this
theorem ol(st:Stmt)(N:List Str)(q:Str)(D:nC K x st (N.take n))(h:Ok P w K mg base is j l)(t:tW st N ⟨l,is⟩ (some q)=some g:=by kernel_rfl)(F:dZ N (N.take n) (aI st):=by exact fst)(hq:x∈iN/\x++".<locals>."++"<lambda>"=q:=by decide +kernel)(e:(N.take n).length=n:=by kernel_rfl)(e':N.length=k:=by kernel_rfl):Ok P w K mg base is (j+4) ((x,n,ba g k)::l):=by
 have:=Lm (up h (jX j 4)) (NC (NT h D) F h.ob h.of h.oi hq t)
 rw[e,e'] at this
 exact this
end
end Rg0
namespace K23
open PySem L2 Dl PySem.Spec PyProof.Rows
open Pg Rg0
abbrev gi:List (Str×Int):=[("MOST_PLACES",4),("MOST",9)]
abbrev Ls:FT:=("_law_plan",3,uO)::("_law_plans",1,r8)::("_law_fits",2,jc)::("_law_used",4,nz)::("_law_world",3,bV)::("_law_orders",3,bG)::("_law_drawn",3,au)::("_law_cell",2,eh)::("with_amount",4,d9)::("with_end",5,kl)::("is_single",1,bR)::("takers_best",1,b9)::("givers_best",1,aO)::("capped",2,oA)::("steps",1,se)::("refused",2,dD)::("lowered",3,cD)::("limits",1,gF)::("chosen_by_all",3,br)::("rests",2,lN)::("leaving",2,j1)::("is_still",2,lb)::("first_leaving",2,eC)::("why_kept",3,cR)::("wants_more",4,cC)::("choice",4,iQ)::("chosen_by",4,cY)::("ways_of",3,gR)::("turned_plan",2,gx)::("turned",1,lL)::("turned_order",1,bp)::("replaced",3,dN)::("check_place",3,d6)::("check_side",1,ik)::("check_number",2,c8)::("check_whole",3,d7)::("check_plan",2,c7)::("check_world",1,bI)::("is_plan",2,ji)::("keeps_amounts",3,cO)::("through",4,dJ)::("is_world",1,bB)::("liked_pairs",1,bz)::("are_parts",3,fY)::("is_way",3,jd)::("is_end",2,eY)::("are_likes",2,fU)::("is_long",3,bD)::("is_number",2,cn)::("is_whole",3,bw)::[]
theorem KN:Rf.tW (top 63) rV ⟨Ls,gi⟩ none=some qj:=by kernel_rfl
structure JK(K:PySem.W.Frag)(mg:Str->Option Value):Prop where
 o:∀P w base,Ok P w K mg base gi 56 Ls
 c:Fv K mg "law" (top 63) ["_law_script"]
theorem Kp{P:Program}{w:World}{K:PySem.W.Frag}{mg:Str->Option Value}{fa:Addr}(D:JK K mg)(hfa:mg "law"=some (.ref fa)):∃fd:FuncData,(∀ (s:Shared) (v:Value),BindsTo s fd ⟨[v],[]⟩ [("_law_script",v)])/\∀base:Heap,K.In base->base.Ns mainGlobals mg->oW P w K mg base Ky 57 fa fd ["_law_script"] (LR K 1 gC):=by
 obtain⟨f,fd,hm,F,hb⟩:=D.c.ex
 rw[hfa] at hm;cases hm
 refine⟨fd,fun s v=>?_,fun base _ _=>Hu F (Rf.NY (N:=rV)) fun X hP hw hK hm' hb' C _ _ HF H=>by subst hP;subst hw;subst hK;subst hm';subst hb';have o:=D.o X.prog X.w X.base;exact Rf.Hw C o.ob o.of o.oi KN⟩
 obtain⟨oc,od,kV,doc,pm,an,cdv,ct,osl,rfl,lk,hcd⟩:=F.ex
 exact .of_eq rfl
theorem walk{l:PySem.W.OpenLaw}{q:Program}{loose:List Str}{XP:(Str->Option Value)->Heap->Prop}{YP:World->Heap->Prop}{d:DefRec}{K:Params->PySem.W.Frag}{ts:List Addr}(hn:l.most=some 63)(hdf:d.params.defaults=[])(hname:d.name="law")
  (hY:∀ (w:World) (h:Heap),YP w h->(K w.params).In h/\∀P∈ts,h.get? P=some (PySem.W.tabObj #[])) (ht:∀w:World,mh (K w.params) ts=true) (hI:∀ (w:World) {h:Heap}{mg:Str->Option Value},(K w.params).In h->h.Ns mainGlobals mg->JK (K w.params) mg) (main:∀ns:List Int,ns.length<=63->gC [.list (ns.map PyData.int)]=some (.bool true)) :
  PySem.W.WalkO q loose XP YP l.row.toRowW d [] (fun f vs=>PySem.call f vs) :=
 Eb (n:=63) (k:=57) (x:="_law_script") (CX:=fun _=>Ky) (sp:=fun w=>LR (K w.params) 1 gC) hn (by decide) hdf ⟨rfl,by decide,by decide⟩ hY ht (fun w mg fa h KX G hmg=>Kp (hI w KX G) (by rw[<- hname];exact hmg)) (fun _ _ a ns hl hT hS=>xj hS hT (main ns hl)) fun _ _ _ _ _ z=>z
end K23
namespace Dl
open PySem L2 PySem.Spec PyProof.Rows
def ua:D->Prop|.none=>True|.bool _=>True|.int _=>True|.str x=>PyData.canLay0 (.str x)=true|_=>False
def gU(b:Nat):Nat->D->Prop
 | 0,d=>ua d
 | k+1,d=>ua d\/(∃xs,(d=.list xs\/d=.tuple xs)/\xs.length<=b/\∀x∈xs,gU b k x)
theorem gU.leaf(h:ua d):gU b k d:=by
 cases k with
 | zero=>exact h
 | succ k=>exact .inl h
theorem gU.tup(hb:xs.length<=b)(h:∀x∈xs,gU b k x):gU b (k+1) (.tuple xs):=.inr ⟨xs,.inr rfl,hb,h⟩
theorem gU.lst(hb:xs.length<=b)(h:∀x∈xs,gU b k x):gU b (k+1) (.list xs):=.inr ⟨xs,.inl rfl,hb,h⟩
theorem gU.of_tup(h:gU b k (.tuple xs)):∃j,k=j+1/\xs.length<=b/\∀x∈xs,gU b j x:=by
 cases k with
 | zero=>cases h
 | succ k =>
  rcases h with h|⟨ys,h|h,h1,h2⟩
  ·cases h
  ·cases h
  ·cases h;exact⟨k,rfl,h1,h2⟩
theorem gU.mono(hb:b<=b'):∀ {k k':Nat}{d:D},k<=k'->gU b k d->gU b' k' d
 | 0,k',d,_,h=>.leaf h
 | k+1,0,d,hk,h=>by omega
 | k+1,k'+1,d,hk,h=>by
  rcases h with h|⟨xs,h,h1,h2⟩
  ·exact .inl h
  ·exact .inr ⟨xs,h,yF h1 hb,fun x hx=>(h2 x hx).mono hb (by omega)⟩
theorem AI{b:Nat}:∀ {xs:List D},(∀x∈xs,PyData.canLay0 x=true/\x.depth<=k)->PyData.canLayAll0 xs=true/\PyData.depthAll xs<=k
 | [],_=>⟨by simp[PyData.canLayAll0],by simp[PyData.depthAll]⟩
 | x::xs,h=>by
  obtain⟨a,c⟩:=AI (b:=b) (xs:=xs) fun y hy=>h y (zE _ hy)
  obtain⟨a',c'⟩:=h x zH
  exact⟨by simp[PyData.canLayAll0,a,a'],by simp[PyData.depthAll];omega⟩
theorem gU.lay:∀ {k:Nat}{d:D},gU b k d->PyData.canLay0 d=true/\d.depth<=k:=by
 have lf:∀ {k:Nat}{d:D},ua d->PyData.canLay0 d=true/\d.depth<=k:=fun {k d} h=>by
  cases d<;>simp only[ua] at h<;>first|exact⟨h,by simp[PyData.depth]⟩|exact⟨by simp[PyData.canLay0],by simp[PyData.depth]⟩
 intro k
 induction k with
 | zero=>exact fun h=>lf h
 | succ k ih =>
  intro d h
  rcases h with h|⟨xs,h,h1,h2⟩
  ·exact lf h
  ·obtain⟨a,c⟩:=AI (b:=b) (xs:=xs) fun y hy=>ih (h2 y hy)
   rcases h with rfl|rfl
   ·exact⟨by simp[PyData.canLay0,a],by simp[PyData.depth];omega⟩
   ·exact⟨by simp[PyData.canLay0,a],by simp[PyData.depth];omega⟩
theorem gU.shaped(h:gU b k d)(hk:k<=64):SeqAt.shaped d=true:=by
 obtain⟨a,c⟩:=h.lay
 simp[SeqAt.shaped,a];omega
theorem gU.noDict(h:gU b k d):∀kv,d≠.dict kv:=by
 rintro kv rfl
 have:=h.lay.1
 simp[PyData.canLay0] at this
def nI:D->Bool|.dict _=>false|_=>true
theorem gU.nd(h:gU b k d):nI d=true:=by
 cases d<;>first|rfl|exact absurd rfl (h.noDict _)
def Nr:D->Bool|.int _=>true|.bool _=>true|_=>false
def Nk:D->Bool|.bool _=>true|_=>false
def HY:D->Bool|.tuple _=>true|_=>false
theorem kI(h:nI d=true):su (gm d) "int"=some (Nr d):=by cases d<;>first|cases h;done|exact G7 _ (by simp[gm])
theorem kB(h:nI d=true):su (gm d) "bool"=some (Nk d):=by cases d<;>first|cases h;done|exact EW _ (by simp[gm])
theorem kT(h:nI d=true):su (gm d) "tuple"=some (HY d):=by cases d<;>first|cases h;done|exact kit_tuple _ (by simp[gm])
def whole(a b:Int):D->Bool|.int i=>decide (a<=i)&&decide (i<=b)|_=>false
theorem rN:∀ {ds:List D},(∀d∈ds,∃ρ',tgt ρ d=some ρ'/\te ρ'=some (h d))->bS tgt (fun _=>some true) te ρ ds=some (ds.map h)
 | [],_=>rfl
 | d::ds,hh=>by
  obtain⟨ρ',h1,h2⟩:=hh d zH
  have ih:=rN (ds:=ds) fun y hy=>hh y (zE _ hy)
  unfold bS
  rw[h1]
  simp[h2,ih]
theorem lF:∀ {ds:List D},(∀d∈ds,∃ρ',tgt ρ d=some ρ'/\tt ρ'=some (p d)/\(p d=true->te ρ'=some (h d)))->bS tgt tt te ρ ds=some ((ds.filter p).map h)
 | [],_=>rfl
 | d::ds,hh=>by
  obtain⟨ρ',h1,h2,h3⟩:=hh d zH
  have ih:=lF (ds:=ds) fun y hy=>hh y (zE _ hy)
  unfold bS
  rw[h1]
  simp only[zC,h2]
  cases hp:p d with
  | true=>rw[yO rfl,h3 hp];simp[ih,jZ,hp]
  | false=>simp[ih,jZ,hp]
theorem ni:∀ds:List D,boolsOf (ds.map fun d=>.bool (p d))=some (ds.map p)
 | []=>rfl
 | d::ds=>by simp[boolsOf,ni ds]
theorem lS(ds:List D):lT [.list (ds.map fun d=>.bool (p d))]=some (.bool (ds.all p)):=by
 simp only[lT,oneOf,zC,ni,zD,List.all_map]
 rfl
theorem aY(h:ds.length<=4000):small ds=some ds:=yO (yF h (by decide))
theorem lP{ds:List D}{i:Nat}(h:i < ds.length):pY ds (i:Nat)=some (ds.getD i .none):=by
 have:=sW (xs:=ds) (j:=i) (v:=ds[i]) (List.getElem?_eq_some_iff.mpr ⟨h,rfl⟩)
 rw[this]
 simp[List.getD,h]
theorem An{ds:List D}(h:0 < ds.length):pY ds 0=some (ds.getD 0 .none):=lP (i:=0) h
theorem uy{ds:List D}(h:1 < ds.length):pY ds 1=some (ds.getD 1 .none):=lP (i:=1) h
theorem Hv{ds:List D}(h:2 < ds.length):pY ds 2=some (ds.getD 2 .none):=lP (i:=2) h
end Dl
namespace Wm
open PySem L2 Dl PySem.Spec PyProof.Rows Pg
theorem uS(ha:fa ρ=some (.int a))(hb:fb ρ=some (.int i))(hc:fc ρ=some (.int b)):iZ AX AX fa fb fc ρ=some (.bool (decide (a<=i)&&decide (i<=b))):=by
 simp only[iZ,ha,hb,hc,zC,AX,tR,xK]
 by_cases h:a<=i<;>simp[h]
theorem eV(i j:Int):Dl.dv (.int i) (.int j)=some (.int (i - j)):=rfl
theorem gQ(i j:Int):Dl.aR (.int i) (.int j)=some (.int (i+j)):=rfl
theorem sr(d:D):Slot.all (.val d)=some d:=rfl
theorem tQ(ds:List D):Slot.all (.own ds)=some (.list ds):=rfl
theorem AG:Slot.all .non=none:=rfl
theorem zi(d:D):Slot.frz (.val d)=some d:=rfl
theorem Aa(ds:List D):Slot.frz (.own ds)=none:=rfl
theorem AL:Slot.frz .non=none:=rfl
local macro_rules|`(tactic| simp! [$ts,*])=>`(tactic| simp only[ba,av,fH,aJ,fQ,mz,nL,bA,fB,gB,HJ,ab,fC,gD,MZ,MU,Lo,f1,f2,eV,gQ,aa,ae,ah,aX,fF,bo,ck,oneOf,fN,aS,sr,tQ,AG,zi,Aa,AL,aQ,bT,aK,aM,cF,ao,  zL,yX,xI,xR,zO,xO,List.replicate,xU,xB,qK,kO,zC,Option.bind_none,zD,Option.map_none,Nat.reduceAdd,Nat.reduceSub,jG,Nat.sub_self,xK,reduceIte,$ts,*])
theorem fw(h:nI d=true)(a b:Int):bw [d,.int a,.int b]=some (.bool (whole a b d)):=by
 simp! [bw,oX,kI h,kB h]
 cases d<;>simp[Nr,Nk,whole]
 rw[uS rfl rfl rfl]
theorem iL(h:nI d=true)(n:Int):cn [d,.int n]=some (.bool (whole 0 (n - 1) d)):=by
 simp! [cn,nM,fw h]
def long(a b:Int):D->Bool|.tuple ds=>decide (a<=(ds.length:Int))&&decide ((ds.length:Int)<=b)|_=>false
theorem dB(h:nI d=true)(a b:Int):bD [d,.int a,.int b]=some (.bool (long a b d)):=by
 simp! [bD,qx,kT h]
 cases d<;>simp[HY,long]
 rw[uS rfl (i:=_) rfl rfl]
def gV:D->Int|.int i=>i|_=>0
theorem eU(h:whole a b d=true):d=.int (gV d)/\a<=gV d/\gV d<=b:=by
 cases d<;>simp[whole] at h
 exact⟨rfl,h⟩
theorem k7:∀ {ls:List D},ls.all (whole a b)=true->ls=(ls.map gV).map PyData.int
 | [],_=>rfl
 | d::ls,h=>by
  rw[xW,zI] at h
  rw[zL,zL,<- (eU h.1).1,<- k7 h.2]
def g0(n:Int):D->Bool|.tuple ls=>ls.all (whole 0 (n - 1))&&decide ((ls.map gV).Nodup)|_=>false
theorem dk(i j:Int):bC (.int i) (.int j)=some (.bool (decide (i=j))):=by
 simp[bC,JD,SeqAt.shaped,PyData.canLay0,PyData.depth,PyData.eqv]
 rfl
theorem Cb(h:ls.all (whole a b)=true)(hl:ls.length<=100):f2 bC (f1 jw (fun _=>some (.tuple ls))) (aX bo (aa (fun _=>some (.tuple ls)) ae)) []=some (.bool (decide ((ls.map gV).Nodup))):=by
 have e:=k7 h
 have e1:jw (.tuple ls)=some (.int (many (ls.map gV))):=by
  simp only[jw,oq]
  conv=>lhs;rw[e]
  rw[cq,zC,yO]
  rw[zF]
  exact jC (Nat.add_le_add_right hl 1) (by decide)
 simp! [e1,dk]
 have:=y6 (ls.map gV)
 rw[zF] at this
 simp only[<- this,Int.ofNat_inj,yN,PyData.bool.injEq]
theorem KI(r:Dl.Env)(d:D):fG 0 (none::r) d=some (some d::r):=by simp[fG,isFree]
theorem bM{cs:List Nat}(hfi:fi ρ=some ds)(hl:ds.length<=4000)(hh:∀d∈ds,te (some d::cs.map fun j=>(ρ[j]?).getD none)=some (h d)):aj 1 cs fi (fG 0) (fun _=>some true) te ρ=some (ds.map h):=by
 simp only[aj,hfi,zC,dz,List.replicate,xI,xR]
 rw[rN (h:=h) fun d hd=>⟨_,KI _ d,hh d hd⟩,zC,aY (by rw[zF];exact hl)]
theorem lE{cs:List Nat}(hfi:fi ρ=some ds)(hl:ds.length<=4000)
  (hp:∀d∈ds,tt (some d::cs.map fun j=>(ρ[j]?).getD none)=some (p d)) (hh:∀d∈ds,p d=true->te (some d::cs.map fun j=>(ρ[j]?).getD none)=some (h d)):aj 1 cs fi (fG 0) tt te ρ=some ((ds.filter p).map h):=by
 simp only[aj,hfi,zC,dz,List.replicate,xI,xR]
 rw[lF (p:=p) (h:=h) fun d hd=>⟨_,KI _ d,hp d hd,hh d hd⟩,zC,aY (by rw[zF];exact yF (xS _ _) hl)]
theorem vh(h:gU b k d)(hb:b<=100)(n:Int):fU [d,.int n]=some (.bool (g0 n d)):=by
 simp! [fU,nv,kT h.nd]
 cases d<;>try (simp[HY,g0];done)
 rename_i ls
 obtain⟨j,rfl,hl,hf⟩:=h.of_tup
 have c:=bM (cs:=[1]) (fi:=aQ (ab 0)) (te:=(ah 2 cn (aa (ab 0) (aa (ab 1) ae)))) (h:=fun x=>.bool (whole 0 (n - 1) x)) (ρ:=[some (.tuple ls),some (.int n)]) rfl (by omega) fun x hx=>by simp! [iL (hf x hx).nd]
 simp! [HY,qB,yR,c,lS]
 cases e:ls.all (whole 0 (n - 1)) with
 | false=>simp[g0,e]
 | true =>
  have:=Cb e (yF hl hb)
  simp only[f2,f1,aX,aa,ae,zC,zD] at this
  simp! [g0,e,qB,yR,jN]
  simp only[bo,ck,oneOf,zC,fN,zD] at this
  simp! [this]
def placeOk(n:Int):D->Bool|.tuple ds=>decide (ds.length=2)&&(whole 0 9 (ds.getD 0 .none)&&g0 n (ds.getD 1 .none))|_=>false
def iy(g t:Int):D->Bool|.tuple ds=>decide (ds.length=3)&&(whole 0 (g - 1) (ds.getD 0 .none)&&(whole 0 (t - 1) (ds.getD 1 .none)&&whole 1 9 (ds.getD 2 .none)))|_=>false
theorem sf(n:Nat)(ds:List D):long (n:Int) (n:Int) (.tuple ds)=decide (ds.length=n):=by
 simp only[long]
 by_cases h:ds.length=n
 ·simp[h]
 ·rw[yB h,Bool.and_eq_false_iff,xE,xE];omega
theorem getD_mem{ds:List D}{i:Nat}(h:i < ds.length):ds.getD i .none∈ds:=by simp[List.getD,h]
theorem uj{b:Nat}(h:gU b k d)(hb:b<=100)(n:Int):eY [d,.int n]=some (.bool (placeOk n d)):=by
 simp! [eY,uE,dB h.nd]
 cases d<;>try (simp[long,placeOk];done)
 rename_i ds
 obtain⟨j,rfl,hl,hf⟩:=h.of_tup
 rw[show long 2 2 (.tuple ds)=decide (ds.length=2) from sf 2 ds]
 by_cases e:ds.length=2
 ·have f0:=hf _ (getD_mem (i:=0) (by omega))
  have f1:=hf _ (getD_mem (i:=1) (by omega))
  simp! [e,jS,An (show 0 < ds.length by omega),uy (show 1 < ds.length by omega),fw f0.nd,vh f1 hb,placeOk]
  cases whole 0 9 (ds.getD 0 .none)<;>simp
 ·simp[e,placeOk]
theorem CM{b:Nat}(h:gU b k d)(hb:b<=100)(g t:Int):jd [d,.int g,.int t]=some (.bool (iy g t d)):=by
 simp! [jd,uQ,dB h.nd]
 cases d<;>try (simp[long,iy];done)
 rename_i ds
 obtain⟨j,rfl,hl,hf⟩:=h.of_tup
 rw[show long 3 3 (.tuple ds)=decide (ds.length=3) from sf 3 ds]
 by_cases e:ds.length=3
 ·have f0:=hf _ (getD_mem (i:=0) (by omega))
  have f1:=hf _ (getD_mem (i:=1) (by omega))
  have f2':=hf _ (getD_mem (i:=2) (by omega))
  simp! [e,jS,qB,yR,An (show 0 < ds.length by omega),uy (show 1 < ds.length by omega),Hv (show 2 < ds.length by omega),fw f2'.nd,iL f0.nd,iL f1.nd,iy]
  cases whole 0 (g - 1) (ds.getD 0 .none)<;>cases whole 0 (t - 1) (ds.getD 1 .none)<;>simp
 ·simp[e,iy]
def cg:D->List D|.tuple ds=>ds|_=>[]
def mI(d:D):Bool:=long 1 4 d
def iw(g t w:D):Bool:=mI g&&(mI t&&((cg g).all (placeOk (cg t).length)&&((cg t).all (placeOk (cg g).length)&&(HY w&&(cg w).all (iy (cg g).length (cg t).length)))))
theorem iY(h:long a b d=true):d=.tuple (cg d):=by cases d<;>first|rfl|cases h
theorem nF(hg:gU b k g)(ht:gU b k t)(hw:gU b k w)(hb:b<=100):fY [g,t,w]=some (.bool (iw g t w)):=by
 simp! [fY,nG,dB hg.nd,dB ht.nd,kT hw.nd]
 unfold iw mI
 cases e1:long 1 4 g with
 | false=>simp
 | true =>
  cases e2:long 1 4 t with
  | false=>simp
  | true =>
   obtain⟨gs,rfl⟩:∃gs,g=.tuple gs:=⟨_,iY e1⟩
   obtain⟨ts,rfl⟩:∃ts,t=.tuple ts:=⟨_,iY e2⟩
   obtain⟨j,rfl,hgl,hgf⟩:=hg.of_tup
   obtain⟨j',hj,htl,htf⟩:=ht.of_tup
   have c1:=bM (cs:=[1]) (fi:=aQ (ab 0)) (te:=(ah 2 eY (aa (ab 0) (aa (aX bo (aa (ab 1) ae)) ae)))) (h:=fun x=>.bool (placeOk ts.length x)) (ρ:=[some (.tuple gs),some (.tuple ts),some w]) rfl (by omega) fun x hx=>by simp! [uj (hgf x hx) hb]
   have c2:=bM (cs:=[0]) (fi:=aQ (ab 1)) (te:=(ah 2 eY (aa (ab 0) (aa (aX bo (aa (ab 1) ae)) ae)))) (h:=fun x=>.bool (placeOk gs.length x)) (ρ:=[some (.tuple gs),some (.tuple ts),some w]) rfl (by omega) fun x hx=>by simp! [uj (htf x hx) hb]
   simp! [qB,yR,c1,lS,cg,jN]
   cases e3:gs.all (placeOk ts.length) with
   | false=>simp
   | true =>
    simp! [qB,yR,c2,lS,jN]
    cases e4:ts.all (placeOk gs.length) with
    | false=>simp
    | true =>
     cases hT:HY w with
     | false=>simp! [qB,yR,kT hw.nd,hT,vZ,Bool.and_false]
     | true =>
     obtain⟨ws,rfl⟩:∃ws,w=.tuple ws:=by cases w<;>first|exact⟨_,rfl⟩|cases hT
     obtain⟨j2,hj2,hwl,hwf⟩:=hw.of_tup
     have c3:=bM (cs:=[0,1]) (fi:=aQ (ab 2)) (te:=(ah 3 jd (aa (ab 0) (aa (aX bo (aa (ab 1) ae)) (aa (aX bo (aa (ab 2) ae)) ae))))) (h:=fun x=>.bool (iy gs.length ts.length x)) (ρ:=[some (.tuple gs),some (.tuple ts),some (.tuple ws)]) rfl (by omega) fun x hx=>by simp! [CM (hwf x hx) hb]
     simp! [qB,yR,c3,lS,jN,kT hw.nd,HY]
theorem pP:∀ (a b:List Int),PyData.eqvAll (a.map PyData.int) (b.map PyData.int)=decide (a=b)
 | [],[]=>by simp[PyData.eqvAll]
 | [],_::_=>by simp[PyData.eqvAll]
 | _::_,[]=>by simp[PyData.eqvAll]
 | i::a,j::b=>by
  rw[zL,zL,PyData.eqvAll,pP a b]
  by_cases h:i=j
  ·subst h;simp[PyData.eqv]
  ·simp[PyData.eqv,h]
theorem v8:∀ (a b:List (List Int)),PyData.eqvAll (a.map ag) (b.map ag)=decide (a=b)
 | [],[]=>by simp[PyData.eqvAll]
 | [],_::_=>by simp[PyData.eqvAll]
 | _::_,[]=>by simp[PyData.eqvAll]
 | x::a,y::b=>by
  rw[zL,zL,PyData.eqvAll,v8 a b,ag,ag,PyData.eqv,pP]
  by_cases h:x=y
  ·subst h;simp
  ·simp[h]
theorem jr(i:Int):gU b k (.int i):=.leaf trivial
theorem zr(h:r.length<=b):gU b (k+1) (ag r):=.tup (by rw[zF];exact h) fun x hx=>by
 obtain⟨i,_,rfl⟩:=List.mem_map.mp hx
 exact jr i
theorem Ew{b k:Nat}{a:List (List Int)}(h:a.length<=b)(hr:∀r∈a,r.length<=b):gU b (k+2) (.list (a.map ag)):=.lst (by rw[zF];exact h) fun x hx=>by
 obtain⟨r,hr',rfl⟩:=List.mem_map.mp hx
 exact zr (hr r hr')
theorem Bw(a:List (List Int)):∃b,a.length<=b/\∀r∈a,r.length<=b:=by
 induction a with
 | nil=>exact⟨0,yP _,fun r h=>by cases h⟩
 | cons x a ih =>
  obtain⟨b,h1,h2⟩:=ih
  refine⟨b+1+x.length,by rw[zO];omega,fun r hr=>?_⟩
  rcases List.mem_cons.mp hr with rfl|hr
  ·omega
  ·have:=h2 r hr;omega
theorem uc(a:List (List Int)):SeqAt.shaped (.list (a.map ag))=true:=by
 obtain⟨b,h1,h2⟩:=Bw a
 exact (Ew (b:=b) (k:=0) h1 h2).shaped (by decide)
theorem BP(a b:List (List Int)):bC (.list (a.map ag)) (.list (b.map ag))=some (.bool (decide (a=b))):=by
 simp only[bC,JD,uc,jR,xK,PyData.eqv,v8,zD]
def i3(d:D):List Int:=(cg ((cg d).getD 1 .none)).map gV
theorem ip(h:placeOk n d=true):∃a ds,d=.tuple ds/\ds.length=2/\ds.getD 0 .none=.int a/\0<=a/\a<=9/\ds.getD 1 .none=.tuple ((i3 d).map PyData.int)/\(i3 d).Nodup/\∀j∈i3 d,0<=j/\j<=n - 1:=by
 cases d<;>simp only[placeOk] at h<;>try cases h
 rename_i ds
 simp only[zI,zM] at h
 obtain⟨h1,h2,h3⟩:=h
 have e:i3 (.tuple ds)=(cg (ds.getD 1 .none)).map gV:=rfl
 rw[e]
 generalize hl:ds.getD 1 .none=l at h3
 cases l<;>simp only[g0] at h3<;>try cases h3
 rename_i ls
 simp only[zI,zM] at h3
 obtain⟨w1,w2,w3⟩:=eU h2
 refine⟨_,ds,rfl,h1,w1,w2,w3,?_,h3.2,fun j hj=>?_⟩
 ·rw[show cg (.tuple ls)=ls from rfl,<- k7 h3.1];exact hl
 ·obtain⟨x,hx,rfl⟩:=List.mem_map.mp hj
  exact (eU (List.all_eq_true.mp h3.1 x hx)).2
def lC(k:Nat):List D->List (List Int)|[]=>[]|p::ps=>(i3 p).map (fun j=>[((k:Nat):Int),j])++lC (k+1) ps
theorem oZ:∀ (n:Nat) {l:List Int},l.Nodup->(∀j∈l,0<=j/\j<=(n:Int) - 1)->l.length<=n:=by
 intro n l hn h
 have hs:l.map Int.toNat ⊆ List.range n:=fun x hx=>by
  obtain⟨j,hj,rfl⟩:=List.mem_map.mp hx
  have:=h j hj
  exact List.mem_range.mpr (by omega)
 have hnd:(l.map Int.toNat).Nodup:=by
  refine List.pairwise_map.mpr (hn.imp_of_mem fun {x y} hx hy hne e=>hne ?_)
  have:=h x hx;have:=h y hy;omega
 have:=List.Nodup.length_le_of_subset hnd hs
 simpa using this
theorem sC{n:Nat}:∀ {ps:List D}{k:Nat},(∀p∈ps,placeOk n p=true)->(lC k ps).length<=ps.length * n
 | [],k,_=>xY _
 | p::ps,k,h=>by
  obtain⟨_,_,_,_,_,_,_,_,hn,hr⟩:=ip (h p zH)
  have h1:=oZ n hn hr
  have h2:=sC (ps:=ps) (k:=k+1) fun q hq=>h q (zE _ hq)
  rw[lC,zQ,zF,zO,Nat.succ_mul]
  omega
def pB:ar->Option Out:=Bh 1 [2,3] (aj 1 [2] (aQ (f2 ao (ab 3) (fC (.int 1)))) (fG 0) (fun _=>some true) (aM (aa (ab 1) (aa (ab 0) ae))))
theorem JE{n:Nat}{p:D}{acc:List D}(hp:placeOk n p=true)(hn:n<=100)(ha:acc.length<=1000):pB [.val x,.own acc,.val (.int (k:Nat)),.val p]=some (.nx [.val x,.own (acc++((i3 p).map fun j=>ag [((k:Nat):Int),j])),.val (.int (k:Nat)),.val p]):=by
 obtain⟨a,ds,rfl,hl,_,_,_,h1,hnd,hr⟩:=ip hp
 have hb:=oZ n hnd hr
 generalize i3 (.tuple ds)=ls at *
 have c:=bM (cs:=[2]) (fi:=aQ (f2 ao (ab 3) (fC (.int 1)))) (te:=aM (aa (ab 1) (aa (ab 0) ae))) (h:=fun y=>.tuple [.int (k:Nat),y]) (ρ:=[some x,none,some (.int (k:Nat)),some (.tuple ds)]) (ds:=ls.map PyData.int)
  (by simp! [uy (show 1 < ds.length by omega),h1]) (by rw[zF];omega) fun y hy=>by
   simp! [aY (show [PyData.int (k:Nat),y].length<=4000 by simp)]
 have hh:hand [2,3] 0 [Slot.val x,.own acc,.val (.int (k:Nat)),.val (.tuple ds)]=[Slot.val x,.own acc,.val (.int (k:Nat)),.val (.tuple ds)]:=rfl
 simp only[pB,Bh,hh,bx,zL,yX,Slot.frz,c,zC,mi,xB,xU]
 rw[yO]
 ·simp only[zD,yZ,yY,zP]
  rfl
 ·simp only[zF]
  exact yF (show acc.length+ls.length<=1100 by omega) (by decide)
theorem rW{n:Nat}(hn:n<=100):∀ {ps:List D}{k:Nat}{acc:List D}{s2 s3:Slot},(∀p∈ps,placeOk n p=true)->acc.length+ps.length * n<=1000 ->
  ∃t2 t3,eE (dE 2 3) pB (bh k ps) [.val x,.own acc,s2,s3]=some (.nx [.val x,.own (acc++(lC k ps).map ag),t2,t3])
 | [],k,acc,s2,s3,_,_=>⟨s2,s3,by simp[bh,eE,lC]⟩
 | p::ps,k,acc,s2,s3,h,hl=>by
  have hp:=h p zH
  obtain⟨_,_,_,_,_,_,_,_,hnd,hr⟩:=ip hp
  have hb:=oZ n hnd hr
  rw[zO,Nat.succ_mul] at hl
  obtain⟨t2,t3,e⟩:=rW hn (x:=x) (ps:=ps) (k:=k+1) (acc:=acc++((i3 p).map fun j=>ag [((k:Nat):Int),j])) (s2:=.val (.int (k:Nat))) (s3:=.val p) (fun q hq=>h q (zE _ hq)) (by rw[zQ,zF];omega)
  refine⟨t2,t3,?_⟩
  have hs:dE 2 3 [.val x,.own acc,s2,s3] (.tuple [.int (k:Nat),p])=some [.val x,.own acc,.val (.int (k:Nat)),.val p]:=rfl
  simp only[bh,eE,hs,zC,JE hp hn (show acc.length<=1000 by omega)]
  rw[e]
  simp[lC,zP,wW]
theorem zj{n:Nat}{ps:List D}(h:∀p∈ps,placeOk n p=true)(hn:n<=100)(hl:ps.length * n<=1000):bz [.tuple ps]=some (.list ((lC 0 ps).map ag)):=by
 obtain⟨t2,t3,e⟩:=rW hn (x:=.tuple ps) (k:=0) (acc:=[]) (s2:=.non) (s3:=.non) h (by simpa using hl)
 have hs:aL 1 [] (cF ae) [Slot.val (.tuple ps),.non,.non,.non]=some (.nx [.val (.tuple ps),.own [],.non,.non]):=rfl
 have hh:hand [0] 0 [Slot.val (.tuple ps),.own [],.non,.non]=[Slot.val (.tuple ps),.own [],.non,.non]:=rfl
 have hf:bc (aa (ab 0) ae) (bx [Slot.val (.tuple ps),.own [],.non,.non])=some (bh 0 ps):=rfl
 simp! [bz,kh,hs,cA,hh,hf]
 rw[show Bh 1 [2,3] (aj 1 [2] (aQ (f2 ao (ab 3) (fC (.int 1)))) (fG 0) (fun _=>some true) (aM (aa (ab 1) (aa (ab 0) ae))))=pB from rfl,e]
 simp! []
def eL(d:D):List Int:=[gV ((cg d).getD 0 .none),gV ((cg d).getD 1 .none)]
theorem xt(h:iy g t d=true):∃ds c,d=.tuple ds/\ds.length=3/\ds.getD 0 .none=.int (gV (ds.getD 0 .none))/\ds.getD 1 .none=.int (gV (ds.getD 1 .none))/\ds.getD 2 .none=.int c/\1<=c/\c<=9 /\
  0<=gV (ds.getD 0 .none)/\gV (ds.getD 0 .none)<=g - 1/\0<=gV (ds.getD 1 .none)/\gV (ds.getD 1 .none)<=t - 1:=by
 cases d<;>simp only[iy] at h<;>try cases h
 rename_i ds
 simp only[zI,zM] at h
 obtain⟨h1,h2,h3,h4⟩:=h
 have a:=eU h2
 have b:=eU h3
 have c:=eU h4
 exact⟨ds,_,rfl,h1,a.1,b.1,c.1,c.2.1,c.2.2,a.2.1,a.2.2,b.2.1,b.2.2⟩
def wq(g t w:D):Bool:=decide ((cg w).map eL=pU (lC 0 (cg g)))&&decide ((cg w).map eL=pU ((lC 0 (cg t)).map List.reverse))
def Me(d:D):Bool:=long 3 3 d&&(iw ((cg d).getD 0 .none) ((cg d).getD 1 .none) ((cg d).getD 2 .none)&&wq ((cg d).getD 0 .none) ((cg d).getD 1 .none) ((cg d).getD 2 .none))
theorem jy:∀ {ps:List D}{k:Nat},∀r∈lC k ps,∃i j,r=[i,j]
 | [],k,r,h=>by cases h
 | p::ps,k,r,h=>by
  rcases List.mem_append.mp h with h|h
  ·obtain⟨j,_,rfl⟩:=List.mem_map.mp h;exact⟨_,_,rfl⟩
  ·exact jy r h
theorem lW(h:∀r∈a,∃i j,r=[i,j])(hl:a.length < 64):fK [.list (a.map ag)]=some ((pU a).map ag):=by
 have:∀ns∈a,ns≠[]:=fun ns hn=>by obtain⟨i,j,rfl⟩:=h ns hn;exact List.cons_ne_nil _ _
 simp only[fK,oneOf,zC,ki this,yO hl]
theorem qv:∀ {a:List (List Int)},(∀r∈a,∃i j,r=[i,j])->bS (fy 0 1) (fun _=>some true) (aM (aa (ab 1) (aa (ab 0) ae))) [none,none] (a.map ag)=some ((a.map List.reverse).map ag)
 | [],_=>rfl
 | r::a,h=>by
  obtain⟨i,j,rfl⟩:=h r zH
  have ih:=qv (a:=a) fun q hq=>h q (zE _ hq)
  have e:fy 0 1 [none,none] (ag [i,j])=some [some (.int i),some (.int j)]:=rfl
  rw[zL,bS,e,zC,zC,yO rfl,ih]
  simp! [aY (show [PyData.int j,.int i].length<=4000 by simp)]
  rfl
theorem B4{a:List (List Int)}(hfi:fi ρ=some (a.map ag))(hl:a.length<=4000)(h:∀r∈a,∃i j,r=[i,j]):aj 2 [] fi (fy 0 1) (fun _=>some true) (aM (aa (ab 1) (aa (ab 0) ae))) ρ=some ((a.map List.reverse).map ag):=by
 simp only[aj,hfi,zC,dz,List.replicate,xI,xR,yX]
 rw[qv h,zC,aY (by rw[zF,zF];exact hl)]
theorem vi(h:iw g t w=true):∃gs ts ws,g=.tuple gs/\t=.tuple ts/\w=.tuple ws/\1<=gs.length/\gs.length<=4/\1<=ts.length/\ts.length<=4/\(∀p∈gs,placeOk ts.length p=true)/\(∀p∈ts,placeOk gs.length p=true)/\∀x∈ws,iy gs.length ts.length x=true:=by
 simp only[iw,mI,zI] at h
 obtain⟨h1,h2,h3,h4,h5,h6⟩:=h
 cases w<;>try cases h5
 rename_i ws
 have e1:=iY h1
 have e2:=iY h2
 generalize cg g=gs at *
 generalize cg t=ts at *
 subst e1 e2
 simp only[long,zI,zM] at h1 h2
 exact⟨gs,ts,ws,rfl,rfl,rfl,by omega,by omega,by omega,by omega,List.all_eq_true.mp h3,List.all_eq_true.mp h4,List.all_eq_true.mp h6⟩
theorem o5{b:Nat}(h:gU b k d)(hb:b<=100):bB [d]=some (.bool (Me d)):=by
 unfold Me
 cases e1:long 3 3 d with
 | false=>simp! [bB,ir,dB h.nd,e1,Bool.not_false,vZ]
 | true =>
  obtain⟨ds,rfl⟩:∃ds,d=.tuple ds:=⟨_,iY e1⟩
  obtain⟨j,rfl,hl,hf⟩:=h.of_tup
  rw[show long 3 3 (.tuple ds)=decide (ds.length=3) from sf 3 ds,zM] at e1
  have f0:=hf _ (getD_mem (i:=0) (by omega))
  have f1:=hf _ (getD_mem (i:=1) (by omega))
  have f2':=hf _ (getD_mem (i:=2) (by omega))
  have i0:=An (show 0 < ds.length by omega)
  have i1:=uy (show 1 < ds.length by omega)
  have i2:=Hv (show 2 < ds.length by omega)
  have el:bD [.tuple ds,.int 3,.int 3]=some (.bool true):=by rw[dB rfl,show long 3 3 (.tuple ds)=decide (ds.length=3) from sf 3 ds,yC e1]
  rw[show cg (.tuple ds)=ds from rfl,jN]
  generalize hg:ds.getD 0 .none=g at *
  generalize ht:ds.getD 1 .none=t at *
  generalize hw:ds.getD 2 .none=w at *
  cases e2:iw g t w with
  | false=>simp! [bB,ir,el,i0,i1,i2,nF f0 f1 f2' hb,e2,Bool.not_false,qB,vZ]
  | true =>
   obtain⟨gs,ts,ws,rfl,rfl,rfl,g1,g4,t1,t4,hG,hT,hW⟩:=vi e2
   have hfw:=f2'.of_tup
   obtain⟨j2,_,hwl,_⟩:=hfw
   have q1:=sC (k:=0) hG
   have q2:=sC (k:=0) hT
   have m1:gs.length * ts.length<=16:=vX g4 t4
   have m2:ts.length * gs.length<=16:=vX t4 g4
   have l1:=zj hG (by omega) (by omega)
   have l2:=zj hT (by omega) (by omega)
   have s1:=lW (a:=lC 0 gs) jy (by omega)
   have s2:=lW (a:=(lC 0 ts).map List.reverse) (fun r hr=>by
    obtain⟨q,hq,rfl⟩:=List.mem_map.mp hr
    obtain⟨i,j,rfl⟩:=jy q hq
    exact⟨j,i,rfl⟩) (by rw[zF];omega)
   have c1:aj 1 [] (aQ (f2 ao (ab 0) (fC (.int 2)))) (fG 0) (fun _=>some true) (aM (aa (f2 ao (ab 0) (fC (.int 0))) (aa (f2 ao (ab 0) (fC (.int 1))) ae))) [some (.tuple ds),none,none,none]=some ((ws.map eL).map ag):=by
    rw[bM (ds:=ws) (h:=fun x=>ag (eL x)) (by simp! [i2]) (by omega) fun x hx=>?_,zP]
    ·rfl
    ·obtain⟨vs,c,rfl,v3,v0,v1,_⟩:=xt (hW x hx)
     simp! [An (show 0 < vs.length by omega),uy (show 1 < vs.length by omega),aY (show [vs.getD 0 PyData.none,vs.getD 1 .none].length<=4000 by simp),ag,eL,cg]
     rw[<- v0,<- v1]
   have c2:∀x y z,aj 2 [] (aQ (ah 1 bz (aa (f2 ao (ab 0) (fC (.int 1))) ae))) (fy 0 1) (fun _=>some true) (aM (aa (ab 1) (aa (ab 0) ae))) [some (.tuple ds),x,y,z]=some (((lC 0 ts).map List.reverse).map ag):=fun x y z =>
    B4 (by simp! [i1,l2]) (by omega) jy
   have st1:aL 1 [0] (aj 1 [] (aQ (f2 ao (ab 0) (fC (.int 2)))) (fG 0) (fun _=>some true) (aM (aa (f2 ao (ab 0) (fC (.int 0))) (aa (f2 ao (ab 0) (fC (.int 1))) ae)))) [Slot.val (.tuple ds),.non,.non,.non]=some (.nx [.val (.tuple ds),.own ((ws.map eL).map ag),.non,.non]):=by
    have hh:hand [0] 0 [Slot.val (.tuple ds),.non,.non,.non]=[Slot.val (.tuple ds),.non,.non,.non]:=rfl
    simp only[aL,hh,bx,zL,yX,Slot.frz,c1,zD,yZ,yY]
   have st2:aL 2 [0] (fF fK (aa (ah 1 bz (aa (f2 ao (ab 0) (fC (.int 0))) ae)) ae)) [Slot.val (.tuple ds),.own ((ws.map eL).map ag),.non,.non]=some (.nx [.val (.tuple ds),.own ((ws.map eL).map ag),.own ((pU (lC 0 gs)).map ag),.non]):=by
    have hh:hand [0] 0 [Slot.val (.tuple ds),.own ((ws.map eL).map ag),.non,.non]=[Slot.val (.tuple ds),.own ((ws.map eL).map ag),.non,.non]:=rfl
    simp only[aL,hh,bx,zL,yX,Slot.frz]
    simp! [i0,l1,s1,yZ,yY]
   have st3:aL 3 [0] (fF fK (aa (bT (aj 2 [] (aQ (ah 1 bz (aa (f2 ao (ab 0) (fC (.int 1))) ae))) (fy 0 1) (fun _=>some true) (aM (aa (ab 1) (aa (ab 0) ae))))) ae)) [Slot.val (.tuple ds),.own ((ws.map eL).map ag),.own ((pU (lC 0 gs)).map ag),.non]
      =some (.nx [.val (.tuple ds),.own ((ws.map eL).map ag),.own ((pU (lC 0 gs)).map ag),.own ((pU ((lC 0 ts).map List.reverse)).map ag)]):=by
    have hh:hand [0] 0 [Slot.val (.tuple ds),.own ((ws.map eL).map ag),.own ((pU (lC 0 gs)).map ag),.non]=[Slot.val (.tuple ds),.own ((ws.map eL).map ag),.own ((pU (lC 0 gs)).map ag),.non]:=rfl
    simp only[aL,hh,bx,zL,yX,Slot.frz]
    simp! [c2,s2,yZ,yY]
   simp! [bB,ir,el,i0,i1,i2,nF f0 f1 f2' hb,e2,qB,yR,st1,st2,st3,BP,wq,cg,jN]
   by_cases hq:List.map eL ws=pU (lC 0 gs)<;>simp[hq]
theorem y4(xs:List D):PyData.eqvAll xs []=xs.isEmpty:=by cases xs<;>simp[PyData.eqvAll]
theorem yx:SeqAt.shaped (.list [])=true:=by simp[SeqAt.shaped,PyData.canLay0,PyData.canLayAll0,PyData.depth,PyData.depthAll]
theorem D1(h:∀x∈xs,gU b k x)(hk:k<=60):bC (.list xs) (.list [])=some (.bool xs.isEmpty):=by
 have hs:SeqAt.shaped (.list xs)=true:=(gU.lst (b:=max b xs.length) (k:=k) (Nat.le_max_right _ _) fun x hx=>(h x hx).mono (Nat.le_max_left _ _) (yP _)).shaped (by omega)
 simp only[bC,JD,hs,yx,jR,xK,PyData.eqv,y4,zD]
theorem gO:small []=some []:=rfl
theorem Ck(xs:List α)(k:Nat):cut xs none (some (k:Int))=xs.take k:=by
 simp only[cut,HT.uw,HT.Ak,List.drop_zero,Nat.sub_zero]
 rw[List.take_eq_take_iff];omega
theorem va(xs:List α)(k:Nat):cut xs (some (k:Int)) none=xs.drop k:=by
 simp only[cut,HT.uw,HT.Ak]
 rw[kM (by rw[qL];omega)]
 by_cases h:k<=xs.length
 ·rw[Nat.min_eq_left h]
 ·rw[Nat.min_eq_right (by omega),List.drop_of_length_le (yP _),List.drop_of_length_le (by omega)]
theorem fW(b:Bool):gB (.bool b)=some b:=rfl
theorem yq(a b:D):small [a,b]=some [a,b]:=rfl
theorem l0:∀ (ρ:ar) (k:Nat),hand [] k ρ=ρ
 | [],k=>rfl
 | s::r,k=>by simp[hand,l0 r]
theorem ox:∀ {ps:List D}{k:Nat}{i j:Int},[i,j]∈lC k ps↔∃m p,ps[m]?=some p/\i=((k+m:Nat):Int)/\j∈i3 p
 | [],k,i,j=>by simp[lC]
 | p::ps,k,i,j=>by
  rw[lC,List.mem_append,ox (ps:=ps)]
  constructor
  ·rintro (h|⟨m,q,h1,h2,h3⟩)
   ·obtain⟨y,hy,e⟩:=List.mem_map.mp h
    injection e with e1 e2
    injection e2 with e2 _
    exact⟨0,p,rfl,by simpa using e1.symm,e2 ▸ hy⟩
   ·exact⟨m+1,q,by simpa using h1,by rw[h2];congr 1;omega,h3⟩
  ·rintro⟨m,q,h1,h2,h3⟩
   cases m with
   | zero =>
    simp at h1
    subst h1
    exact .inl (List.mem_map.mpr ⟨j,h3,by rw[h2];rfl⟩)
   | succ m=>exact .inr ⟨m,q,by simpa using h1,by rw[h2];congr 1;omega,h3⟩
theorem qt:∀ {ps:List D}{k:Nat},(∀p∈ps,(i3 p).Nodup)->(lC k ps).Nodup
 | [],k,_=>List.nodup_nil
 | p::ps,k,h=>by
  rw[lC,wV]
  refine⟨List.pairwise_map.mpr ((h p zH).imp fun hne e=>hne ?_),qt fun q hq=>h q (zE _ hq),?_⟩
  rotate_left
  ·injection e with _ e2
   injection e2
  ·rintro a ha b hb rfl
   obtain⟨y,hy,rfl⟩:=List.mem_map.mp ha
   obtain⟨m,q,h1,h2,h3⟩:=ox.mp hb
   omega
theorem Lh(h:Dl.lexLt a b=true):lexLe a b=true:=by
 unfold lexLe
 cases e:Dl.lexLt b a with
 | false=>rfl
 | true=>have:=dO h e;rw[fj] at this;cases this
theorem eu(h:p9 i j):Dl.ej (.int i) (.int j)=some (.int (i * j)):=by
 simp only[Dl.ej,tR,yO h,Option.some_or]
theorem gK(h:0 < j):Dl.j8 (.int i) (.int j)=some (.int (i % j)):=yO h
theorem iM(h:0 < j/\j < 1073741824):Dl.lK (.int i) (.int j)=some (.int (i / j)):=yO h
theorem ix(i j:Int):Dl.Cg (.int i) (.int j)=some (.bool (decide (j < i))):=rfl
theorem l7(i j:Int):Dl.Cf (.int i) (.int j)=some (.bool (decide (i < j))):=rfl
theorem kr(h:-(2 ^ 64) < i/\i < 2 ^ 64):p9 i j:=.inl h
theorem Ju(h:-(2 ^ 64) < j/\j < 2 ^ 64):p9 i j:=.inr h
theorem vb(i:Int):Dl.l6 (.int i)=true:=rfl
theorem vn(i:List D):Dl.l6 (.tuple i)=false:=rfl
def cM(ns:List Int):D:=.list (ns.map PyData.int)
theorem J9(k:Int)(hl:ns.length<=63):∃c,eh [cM ns,.int k]=some (.int c):=by
 have heq:bC (.list (ns.map PyData.int)) (.list [])=some (.bool ns.isEmpty):=by
  have:=D1 (b:=0) (k:=0) (xs:=ns.map PyData.int) (fun x hx=>by obtain⟨i,_,rfl⟩:=List.mem_map.mp hx;exact jr i) (by decide)
  rw[this];cases ns<;>rfl
 by_cases hn:ns=[]
 ·subst hn
  refine⟨7 * k,?_⟩
  rw[yX,List.isEmpty_nil] at heq
  simp! [eh,iO,cM,gO,heq,List.isEmpty_nil,eu (kr (i:=7) (j:=k) (by decide))]
 ·have hpos:(0:Int) < (ns.length:Int):=by have:=List.length_pos_iff.mpr hn;omega
  have he:ns.isEmpty=false:=by cases ns<;>first|rfl|exact absurd rfl hn
  obtain⟨j,hj⟩:=vK (vT k (show (ns.length:Int)≠0 by omega))
  have hlt:=vA k hpos
  have hx:pY (ns.map PyData.int) (k % (ns.length:Int))=some (.int (ns.getD j 0)):=by
   rw[hj]
   have:j < (ns.map PyData.int).length:=by rw[zF];omega
   rw[lP this,zJ,zR,zJ]
   rw[zN (by omega)]
   rfl
  refine⟨ns.getD j 0+6553 * (k / (ns.length:Int)),?_⟩
  simp! [eh,iO,cM,gO,heq,he,yR,zF,gK hpos,hx,iM (i:=k) (j:=(ns.length:Int)) ⟨hpos,by omega⟩,eu (kr (i:=6553) (j:=k / (ns.length:Int)) (by decide))]
theorem Fq(k many:Int)(hl:ns.length<=63)(hm:0 < many):∃r,au [cM ns,.int k,.int many]=some (.int r)/\0<=r/\r < many:=by
 obtain⟨c,hc⟩:=J9 k hl
 have m1:∀i:Int,Dl.j8 (.int i) (.int 2147483563)=some (.int (i % 2147483563)):=fun i=>gK (by decide)
 have m2:∀i:Int,Dl.j8 (.int i) (.int 2147483399)=some (.int (i % 2147483399)):=fun i=>gK (by decide)
 have m3:∀i:Int,Dl.j8 (.int i) (.int 2147483647)=some (.int (i % 2147483647)):=fun i=>gK (by decide)
 have d1:∀i:Int,Dl.lK (.int i) (.int 3)=some (.int (i / 3)):=fun i=>iM (by decide)
 have d2:∀i:Int,Dl.lK (.int i) (.int 7)=some (.int (i / 7)):=fun i=>iM (by decide)
 have d3:∀i:Int,Dl.lK (.int i) (.int 11)=some (.int (i / 11)):=fun i=>iM (by decide)
 have u1:∀i:Int,Dl.ej (.int i) (.int 69069)=some (.int (i * 69069)):=fun i=>eu (Ju (by decide))
 have u2:∀i:Int,Dl.ej (.int 104723) (.int i)=some (.int (104723 * i)):=fun i=>eu (kr (by decide))
 have b1:∀x:Int,Dl.ej (.int (x % 2147483563)) (.int (x % 2147483563))=some (.int (x % 2147483563 * (x % 2147483563))):=fun x=>eu (kr (by
  have:=vT x (show (2147483563:Int)≠0 by decide)
  have:=vA x (show (0:Int) < 2147483563 by decide)
  omega))
 have b2:∀x:Int,Dl.ej (.int (x % 2147483399)) (.int (x % 2147483399))=some (.int (x % 2147483399 * (x % 2147483399))):=fun x=>eu (kr (by
  have:=vT x (show (2147483399:Int)≠0 by decide)
  have:=vA x (show (0:Int) < 2147483399 by decide)
  omega))
 suffices h:∃x,au [cM ns,.int k,.int many]=some (.int (x % many)) by
  obtain⟨x,hx⟩:=h
  exact⟨_,hx,vT x (show many≠0 by omega),vA x hm⟩
 ·refine⟨(((((c % 2147483563 * 69069+104723 * (k+1)) % 2147483563) * ((c % 2147483563 * 69069+104723 * (k+1)) % 2147483563)+((c % 2147483563 * 69069+104723 * (k+1)) % 2147483563) / 3) % 2147483399) * ((((c % 2147483563 * 69069+104723 * (k+1)) % 2147483563) * ((c % 2147483563 * 69069+104723 * (k+1)) % 2147483563)+((c % 2147483563 * 69069+104723 * (k+1)) % 2147483563) / 3) % 2147483399)+((((c % 2147483563 * 69069+104723 * (k+1)) % 2147483563) * ((c % 2147483563 * 69069+104723 * (k+1)) % 2147483563)+((c % 2147483563 * 69069+104723 * (k+1)) % 2147483563) / 3) % 2147483399) / 7) % 2147483647 / 11,?_⟩
  simp! [au,lM,hc,m1,u1,u2,Dl.aB,vb,yZ,yY,b1,d1,m2,b2,d2,m3,d3,gK (j:=many) hm]
def dr(ns:List Int)(k many:Int):Int:=gV ((au [cM ns,.int k,.int many]).getD .none)
theorem eH(k many:Int)(hl:ns.length<=63)(hm:0 < many):au [cM ns,.int k,.int many]=some (.int (dr ns k many))/\0<=dr ns k many/\dr ns k many < many:=by
 obtain⟨r,h1,h2⟩:=Fq k many hl hm
 have:dr ns k many=r:=by simp only[dr,h1,qK,gV]
 rw[this];exact⟨h1,h2⟩
theorem u0(k many:Int)(hl:ns.length<=63)(hm:0 < many):au [cM ns,.int k,.int many]=some (.int (dr ns k many)):=(eH k many hl hm).1
theorem LJ(k many:Int)(hl:ns.length<=63)(hm:0 < many):0<=dr ns k many:=(eH k many hl hm).2.1
theorem LO(k many:Int)(hl:ns.length<=63)(hm:0 < many):dr ns k many < many:=(eH k many hl hm).2.2
def bP(r:List Int):D:=.list (r.map PyData.int)
def insI(ds:List Int)(k:Int)(d:Int):List Int:=let j:=if k < 0 then (k+(ds.length:Int)).toNat else min k.toNat ds.length;ds.take j++d::ds.drop j
theorem Bp(ds:List Int)(k d:Int):AO (ds.map PyData.int) k (.int d)=(insI ds k d).map PyData.int:=by
 simp only[AO,insI,zF,jD,zL,List.map_take,List.map_drop]
theorem insI_perm(ds:List Int)(k d:Int):(insI ds k d).Perm (d::ds):=by
 simp only[insI]
 refine List.perm_middle.trans ?_
 rw[List.take_append_drop]
def oB:ar->Option Out:=(Cy 6 [8] (ah 3 au (aa (ab 0) (aa (f2 aR (f2 aR (ab 1) (f2 ej (fC (.int 4)) (ab 4))) (ab 7)) (aa (f2 aR (aX bo (aa (ab 6) ae)) (fC (.int 1))) ae)))) (ab 8))
theorem xp{s3:Slot}(hl:ns.length<=63)(ho:order.length<=1000) :
  oB [.val (cM ns),.val (.int a),s2,s3,.val (.int k),s5,.own (order.map PyData.int),.val (.int j),.val (.int x)] =
   some (.nx [.val (cM ns),.val (.int a),s2,s3,.val (.int k),s5,.own ((insI order (dr ns (a+4 * k+j) ((order.length:Int)+1)) x).map PyData.int),.val (.int j),.val (.int x)]):=by
 have h4:Dl.ej (.int 4) (.int k)=some (.int (4 * k)):=eu (kr (by decide))
 have hd:=eH (ns:=ns) (a+4 * k+j) ((order.length:Int)+1) hl (by omega)
 have hr:uY (dr ns (a+4 * k+j) ((order.length:Int)+1))=true:=by
  simp only[uY,zI,zM]
  omega
 have hz:(order.map PyData.int).length < sizeLine:=by rw[zF];exact jC ho (by decide)
 simp! [oB,Cy,fO,vb,mi,zF,h4,hd.1]
 rw[zF] at hz
 simp only[hr,hz,jR,xK,zD,Bp,yZ,yY]
theorem CH{s3:Slot}(hl:ns.length<=63):∀ {row order:List Int}{j:Nat}{s7 s8:Slot},order.length+row.length<=1000 ->
  ∃ (o:List Int) (t7 t8:Slot),eE (dE 7 8) oB (bh j (row.map PyData.int)) [.val (cM ns),.val (.int a),s2,s3,.val (.int k),s5,.own (order.map PyData.int),s7,s8] =
   some (.nx [.val (cM ns),.val (.int a),s2,s3,.val (.int k),s5,.own (o.map PyData.int),t7,t8])/\o.Perm (row++order)
 | [],order,j,s7,s8,_=>⟨order,s7,s8,by simp[bh,eE],by simp⟩
 | x::row,order,j,s7,s8,h=>by
  rw[zO] at h
  have hp:=insI_perm order (dr ns (a+4 * k+((j:Nat):Int)) ((order.length:Int)+1)) x
  have hlen:=hp.length_eq
  rw[zO] at hlen
  obtain⟨o,t7,t8,e,p⟩:=CH (s2:=s2) (s3:=s3) (s5:=s5) (a:=a) (k:=k) hl (row:=row) (order:=insI order (dr ns (a+4 * k+((j:Nat):Int)) ((order.length:Int)+1)) x) (j:=j+1) (s7:=.val (.int (j:Nat))) (s8:=.val (.int x)) (by omega)
  refine⟨o,t7,t8,?_,p.trans ?_⟩
  ·have hs:dE 7 8 [.val (cM ns),.val (.int a),s2,s3,.val (.int k),s5,.own (order.map PyData.int),s7,s8] (.tuple [.int (j:Nat),.int x])=some [.val (cM ns),.val (.int a),s2,s3,.val (.int k),s5,.own (order.map PyData.int),.val (.int (j:Nat)),.val (.int x)]:=rfl
   simp only[zL,bh,eE,hs,zC,xp hl (show order.length<=1000 by omega),e]
  ·refine (hp.append_left row).trans ?_
   rw[xI]
   exact List.perm_middle
def pR:List (List Int)->List (List Int)->Prop|[],[]=>True|a::l,b::m=>a.Perm b/\pR l m|_,_=>False
def rB:ar->Option Out:=(av (aL 6 [] (cF ae)) (av (cA [5] (bc (aa (ab 5) ae)) (dE 7 8) oB) (kn 3 [6] (aX aK (aa (ab 6) ae)))))
theorem J7(hl:ns.length<=63)(hr:row.length<=1000)(hf:found.length<=1000) :
  ∃ (o:List Int) (t7 t8:Slot),rB [.val (cM ns),.val (.int a),.val rows,.own found,.val (.int k),.val (bP row),s6,s7,s8]=some (.nx [.val (cM ns),.val (.int a),.val rows,.own (found++[ag o]),.val (.int k),.val (bP row),.val (bP o),t7,t8])/\o.Perm row:=by
 obtain⟨o,t7,t8,e,p⟩:=CH (s2:=.val rows) (s3:=.own found) (s5:=.val (bP row)) (a:=a) (k:=k) hl (row:=row) (order:=[]) (j:=0) (s7:=s7) (s8:=s8) (by simpa using hr)
 rw[qJ] at p
 refine⟨o,t7,t8,?_,p⟩
 have h1:aL 6 [] (cF ae) [.val (cM ns),.val (.int a),.val rows,.own found,.val (.int k),.val (bP row),s6,s7,s8]=some (.nx [.val (cM ns),.val (.int a),.val rows,.own found,.val (.int k),.val (bP row),.own [],s7,s8]):=by
  simp only[aL,l0,cF,ae,zC,gO,zD,yZ,yY]
 have h2:cA [5] (bc (aa (ab 5) ae)) (dE 7 8) oB [.val (cM ns),.val (.int a),.val rows,.own found,.val (.int k),.val (bP row),.own [],s7,s8]=some (.nx [.val (cM ns),.val (.int a),.val rows,.own found,.val (.int k),.val (bP row),.own (o.map PyData.int),t7,t8]):=by
  have hh:hand [5] 0 [Slot.val (cM ns),.val (.int a),.val rows,.own found,.val (.int k),.val (bP row),.own [],s7,s8]=[Slot.val (cM ns),.val (.int a),.val rows,.own found,.val (.int k),.val (bP row),.own [],s7,s8]:=rfl
  have hq:bc (aa (ab 5) ae) (bx [Slot.val (cM ns),.val (.int a),.val rows,.own found,.val (.int k),.val (bP row),.own [],s7,s8])=some (bh 0 (row.map PyData.int)):=by
   simp only[bx,zL,yX]
   simp! [bc,bP]
  simp only[cA,hh,hq,zC]
  exact e
 have h3:kn 3 [6] (aX aK (aa (ab 6) ae)) [.val (cM ns),.val (.int a),.val rows,.own found,.val (.int k),.val (bP row),.own (o.map PyData.int),t7,t8]=some (.nx [.val (cM ns),.val (.int a),.val rows,.own (found++[ag o]),.val (.int k),.val (bP row),.val (bP o),t7,t8]):=by
  have hz:found.length < sizeLine:=jC hf (by decide)
  have hh:hand [6] 0 [Slot.val (cM ns),.val (.int a),.val rows,.own found,.val (.int k),.val (bP row),.own (o.map PyData.int),t7,t8]=[Slot.val (cM ns),.val (.int a),.val rows,.own found,.val (.int k),.val (bP row),.val (bP o),t7,t8]:=rfl
  simp only[kn,fO,hh,bx,zL,yX]
  simp! [vn,yR,mi,hz,yZ,yY,bP,ag]
 simp only[rB,av,h1,h2,h3,zC]
theorem CN{rws:D}(hl:ns.length<=63):∀ {rows:List (List Int)}{found:List D}{k:Nat}{s4 s5 s6 s7 s8:Slot},(∀r∈rows,r.length<=1000)->found.length+rows.length<=1000 ->
  ∃ (os:List (List Int)) (t4 t5 t6 t7 t8:Slot),eE (dE 4 5) rB (bh k (rows.map bP)) [.val (cM ns),.val (.int a),.val rws,.own found,s4,s5,s6,s7,s8]=some (.nx [.val (cM ns),.val (.int a),.val rws,.own (found++os.map ag),t4,t5,t6,t7,t8])/\pR os rows
 | [],found,k,s4,s5,s6,s7,s8,_,_=>⟨[],s4,s5,s6,s7,s8,by simp[bh,eE],trivial⟩
 | r::rows,found,k,s4,s5,s6,s7,s8,h,hf=>by
  rw[zO] at hf
  obtain⟨o,u7,u8,e1,p1⟩:=J7 (rows:=rws) (a:=a) (k:=((k:Nat):Int)) (s6:=s6) (s7:=s7) (s8:=s8) hl (h r zH) (show found.length<=1000 by omega)
  obtain⟨os,t4,t5,t6,t7,t8,e,p⟩:=CN hl (rws:=rws) (a:=a) (rows:=rows) (found:=found++[ag o]) (k:=k+1) (s4:=.val (.int (k:Nat))) (s5:=.val (bP r)) (s6:=.val (bP o)) (s7:=u7) (s8:=u8) (fun r' hr'=>h r' (zE _ hr')) (by rw[zQ,xF];omega)
  refine⟨o::os,t4,t5,t6,t7,t8,?_,p1,p⟩
  have hs:dE 4 5 [.val (cM ns),.val (.int a),.val rws,.own found,s4,s5,s6,s7,s8] (.tuple [.int (k:Nat),bP r])=some [.val (cM ns),.val (.int a),.val rws,.own found,.val (.int (k:Nat)),.val (bP r),s6,s7,s8]:=rfl
  simp only[zL,bh,eE,hs,zC,e1]
  rw[e,List.append_assoc]
  rfl
theorem u6(hl:ns.length<=63)(hr:∀r∈rows,r.length<=1000)(hn:rows.length<=1000):∃os:List (List Int),bG [cM ns,.int a,.list (rows.map bP)]=some (.list (os.map ag))/\pR os rows:=by
 obtain⟨os,t4,t5,t6,t7,t8,e,p⟩:=CN hl (rws:=.list (rows.map bP)) (a:=a) (rows:=rows) (found:=[]) (k:=0) (s4:=.non) (s5:=.non) (s6:=.non) (s7:=.non) (s8:=.non) hr (by simpa using hn)
 refine⟨os,?_,p⟩
 rw[xR] at e
 have h1:aL 3 [] (cF ae) [.val (cM ns),.val (.int a),.val (.list (rows.map bP)),.non,.non,.non,.non,.non,.non]=some (.nx [.val (cM ns),.val (.int a),.val (.list (rows.map bP)),.own [],.non,.non,.non,.non,.non]):=by
  simp only[aL,l0,cF,ae,zC,gO,zD,yZ,yY]
 have h2:cA [2] (bc (aa (ab 2) ae)) (dE 4 5) rB [.val (cM ns),.val (.int a),.val (.list (rows.map bP)),.own [],.non,.non,.non,.non,.non]=some (.nx [.val (cM ns),.val (.int a),.val (.list (rows.map bP)),.own (os.map ag),t4,t5,t6,t7,t8]):=by
  have hh:hand [2] 0 [Slot.val (cM ns),.val (.int a),.val (.list (rows.map bP)),.own [],.non,.non,.non,.non,.non]=[Slot.val (cM ns),.val (.int a),.val (.list (rows.map bP)),.own [],.non,.non,.non,.non,.non]:=rfl
  have hq:bc (aa (ab 2) ae) (bx [Slot.val (cM ns),.val (.int a),.val (.list (rows.map bP)),.own [],.non,.non,.non,.non,.non])=some (bh 0 (rows.map bP)):=by
   simp only[bx,zL,yX]
   simp! [bc]
  simp only[cA,hh,hq,zC]
  exact e
 unfold rB oB at h2
 simp! [bG,kg,h1,h2]
abbrev Pl:=Int×List Int
abbrev Wy:=Int×Int×Int
def aF(p:Pl):D:=.tuple [.int p.1,ag p.2]
def aq(w:Wy):D:=.tuple [.int w.1,.int w.2.1,.int w.2.2]
def ax(G T:List Pl)(W:List Wy):D:=.tuple [.tuple (G.map aF),.tuple (T.map aF),.tuple (W.map aq)]
def Ah(W:List Wy)(i:Int):List Int:=(W.filter fun w=>decide (w.1=i)).map fun w=>w.2.1
def ofT(W:List Wy)(j:Int):List Int:=(W.filter fun w=>decide (w.2.1=j)).map fun w=>w.1
abbrev r6(W:List Wy):Prop:=W.Pairwise fun a b=>a.1 < b.1\/(a.1=b.1/\a.2.1 < b.2.1)
structure Wd(G T:List Pl)(W:List Wy):Prop where
 g1:1<=G.length
 g4:G.length<=4
 t1:1<=T.length
 t4:T.length<=4
 ga:∀p∈G,0<=p.1/\p.1<=9
 ta:∀p∈T,0<=p.1/\p.1<=9
 gl:∀ (i:Nat) (p:Pl),G[i]?=some p->p.2.Perm (Ah W i)
 tl:∀ (j:Nat) (p:Pl),T[j]?=some p->p.2.Perm (ofT W j)
 wr:∀w∈W,(0<=w.1/\w.1 < G.length)/\(0<=w.2.1/\w.2.1 < T.length)/\1<=w.2.2/\w.2.2<=9
 wp:r6 W
 wl:W.length<=16
theorem sF:j∈Ah W i↔[i,j]∈W.map fun w=>[w.1,w.2.1]:=by
 simp only[Ah,List.mem_map,List.mem_filter,zM,kY,and_true]
 constructor
 ·rintro⟨w,⟨h1,h2⟩,h3⟩;exact⟨w,h1,h2,h3⟩
 ·rintro⟨w,h1,h2,h3⟩;exact⟨w,⟨h1,h2⟩,h3⟩
theorem sQ:i∈ofT W j↔[i,j]∈W.map fun w=>[w.1,w.2.1]:=by
 simp only[ofT,List.mem_map,List.mem_filter,zM,kY,and_true]
 constructor
 ·rintro⟨w,⟨h1,h2⟩,h3⟩;exact⟨w,h1,h3,h2⟩
 ·rintro⟨w,h1,h2,h3⟩;exact⟨w,⟨h1,h3⟩,h2⟩
theorem jh(h:r6 W)(i:Int):(Ah W i).Nodup:=by
 unfold Ah List.Nodup
 rw[jH,List.pairwise_filter]
 refine h.imp fun hab ha hb=>?_
 rw[zM] at ha hb
 omega
theorem j4(h:r6 W)(i:Int):(ofT W i).Nodup:=by
 unfold ofT List.Nodup
 rw[jH,List.pairwise_filter]
 refine h.imp fun hab ha hb=>?_
 rw[zM] at ha hb
 omega
theorem eR(p:Pl):i3 (aF p)=p.2:=by
 show ((p.2.map PyData.int).map gV)=p.2
 rw[zP]
 exact List.map_id _
theorem nr(ha:0<=p.1/\p.1<=9)(hn:p.2.Nodup)(hr:∀j∈p.2,0<=j/\j < n):placeOk n (aF p)=true:=by
 have e:(p.2.map PyData.int).map gV=p.2:=eR p
 have e2:(p.2.map PyData.int).all (whole 0 (n - 1))=true:=by
  rw[xJ]
  intro x hx
  obtain⟨j,hj,rfl⟩:=List.mem_map.mp hx
  have:=hr j hj
  simp only[whole,zI,zM]
  omega
 simp only[placeOk,aF,ag,zO,xO,wA,wC,g0,whole,e,e2,ha.1,ha.2,hn,jS,Bool.and_self]
theorem Bj(h:(0<=w.1/\w.1 < g)/\(0<=w.2.1/\w.2.1 < t)/\1<=w.2.2/\w.2.2<=9):iy g t (aq w)=true:=by
 obtain⟨⟨a,b⟩,⟨c,d⟩,e,f⟩:=h
 have b':w.1<=g - 1:=by omega
 have d':w.2.1<=t - 1:=by omega
 simp only[iy,aq,zO,xO,wA,wC,whole,a,b',c,d',e,f,jS,Bool.and_self]
theorem Nf(h:a < c\/(a=c/\b < d)):Dl.lexLt [a,b] [c,d]=true:=by
 show HT.lexLt [a,b] [c,d]=true
 rw[HT.dF]
 by_cases e:a=c
 ·rw[yO e,HT.dF,yQ (by omega)]
  simp only[zM];omega
 ·rw[yQ e];simp only[zM];omega
theorem Wd.glike(h:Wd G T W)(hp:p∈G):∃i:Nat,i < G.length/\p.2.Perm (Ah W i):=by
 obtain⟨i,hi,e⟩:=qU hp
 exact⟨i,hi,h.gl i p (by rw[zN hi,e])⟩
theorem Wd.tlike(h:Wd G T W)(hp:p∈T):∃i:Nat,i < T.length/\p.2.Perm (ofT W i):=by
 obtain⟨i,hi,e⟩:=qU hp
 exact⟨i,hi,h.tl i p (by rw[zN hi,e])⟩
theorem Wd.gok(h:Wd G T W):(G.map aF).all (placeOk T.length)=true:=by
 rw[xJ]
 intro x hx
 obtain⟨p,hp,rfl⟩:=List.mem_map.mp hx
 obtain⟨i,hi,q⟩:=h.glike hp
 refine nr (h.ga p hp) (q.nodup_iff.mpr (jh h.wp _)) fun j hj=>?_
 obtain⟨w,hw,e⟩:=List.mem_map.mp (sF.mp (q.mem_iff.mp hj))
 injection e with e1 e2
 injection e2 with e2 _
 have:=(h.wr w hw).2.1
 rw[e2] at this;exact this
theorem Wd.tok(h:Wd G T W):(T.map aF).all (placeOk G.length)=true:=by
 rw[xJ]
 intro x hx
 obtain⟨p,hp,rfl⟩:=List.mem_map.mp hx
 obtain⟨i,hi,q⟩:=h.tlike hp
 refine nr (h.ta p hp) (q.nodup_iff.mpr (j4 h.wp _)) fun j hj=>?_
 obtain⟨w,hw,e⟩:=List.mem_map.mp (sQ.mp (q.mem_iff.mp hj))
 injection e with e1 e2
 have:=(h.wr w hw).1
 rw[e1] at this;exact this
theorem oN{W:List Wy}{p:Wy->Bool}(h:W.length<=16):(W.filter p).length<=16:=yF (xS _ _) h
theorem zp(h:p.2.length<=16):gU 16 2 (aF p):=.tup (by simp only[zO,xO];omega) fun x hx=>by
 rcases List.mem_cons.mp hx with rfl|hx
 ·exact jr _
 ·rw[yM] at hx
  subst hx
  exact zr h
theorem Gc(w:Wy):gU 16 1 (aq w):=.tup (by simp only[zO,xO];omega) fun x hx=>by
 simp only[zT,yH,xX] at hx
 rcases hx with rfl|rfl|rfl<;>exact jr _
theorem Wd.fit(h:Wd G T W):gU 16 4 (ax G T W):=by
 refine .tup (by simp only[zO,xO];omega) fun x hx=>?_
 simp only[zT,yH,xX] at hx
 have h4:=h.g4
 have h5:=h.t4
 have h6:=h.wl
 rcases hx with rfl|rfl|rfl
 ·refine .tup (by rw[zF];omega) fun x hx=>?_
  obtain⟨p,hp,rfl⟩:=List.mem_map.mp hx
  obtain⟨i,hi,q⟩:=h.glike hp
  exact zp (by rw[q.length_eq,Ah,zF];exact oN h.wl)
 ·refine .tup (by rw[zF];omega) fun x hx=>?_
  obtain⟨p,hp,rfl⟩:=List.mem_map.mp hx
  obtain⟨i,hi,q⟩:=h.tlike hp
  exact zp (by rw[q.length_eq,ofT,zF];exact oN h.wl)
 ·refine .tup (by rw[zF];omega) fun x hx=>?_
  obtain⟨p,hp,rfl⟩:=List.mem_map.mp hx
  exact (Gc p).mono (yP _) (by decide)
theorem Bg(h0:0<=c)(h9:c<=9):Wd [(c,[0,1]),(c,[1,0])] [(c,[1,0]),(c,[0,1])] [(0,0,2),(0,1,2),(1,0,2),(1,1,2)] where
 g1:=by simp only[zO,xO];omega
 g4:=by simp only[zO,xO];omega
 t1:=by simp only[zO,xO];omega
 t4:=by simp only[zO,xO];omega
 ga:=by intro p hp;simp only[zT,yH,xX] at hp;rcases hp with rfl|rfl<;>exact⟨h0,h9⟩
 ta:=by intro p hp;simp only[zT,yH,xX] at hp;rcases hp with rfl|rfl<;>exact⟨h0,h9⟩
 gl:=by
  intro i p hp
  match i,hp with
  | 0,hp=>injection hp with hp;subst hp;exact (show List.Perm ([0,1]:List Int) (Ah [(0,0,2),(0,1,2),(1,0,2),(1,1,2)] ((0:Nat):Int)) by decide)
  | 1,hp=>injection hp with hp;subst hp;exact (show List.Perm ([1,0]:List Int) (Ah [(0,0,2),(0,1,2),(1,0,2),(1,1,2)] ((1:Nat):Int)) by decide)
 tl:=by
  intro i p hp
  match i,hp with
  | 0,hp=>injection hp with hp;subst hp;exact (show List.Perm ([1,0]:List Int) (ofT [(0,0,2),(0,1,2),(1,0,2),(1,1,2)] ((0:Nat):Int)) by decide)
  | 1,hp=>injection hp with hp;subst hp;exact (show List.Perm ([0,1]:List Int) (ofT [(0,0,2),(0,1,2),(1,0,2),(1,1,2)] ((1:Nat):Int)) by decide)
 wr:=show ∀w∈([(0,0,2),(0,1,2),(1,0,2),(1,1,2)]:List Wy),(0<=w.1/\w.1 < ((2:Nat):Int))/\(0<=w.2.1/\w.2.1 < ((2:Nat):Int))/\1<=w.2.2/\w.2.2<=9 by decide
 wp:=by decide
 wl:=by decide
def iG(f:Nat->Int):Nat->List (List Int)->List Pl|_,[]=>[]|k,r::rs=>(f k,r)::iG f (k+1) rs
theorem gL(f:Nat->Int):∀ (rs:List (List Int)) (k:Nat),(iG f k rs).length=rs.length
 | [],k=>rfl
 | r::rs,k=>by rw[iG,zO,zO,gL f rs]
theorem gy(f:Nat->Int):∀ {rs:List (List Int)}{k i:Nat}{p:Pl},(iG f k rs)[i]?=some p->∃r,rs[i]?=some r/\p=(f (k+i),r)
 | [],k,i,p,h=>by simp[iG] at h
 | r::rs,k,0,p,h=>by simp[iG] at h;exact⟨r,rfl,h.symm⟩
 | r::rs,k,i+1,p,h=>by
  simp only[iG,xB] at h
  obtain⟨y,h1,h2⟩:=gy f h
  exact⟨y,by simpa using h1,by rw[h2];congr 2;omega⟩
theorem dH:∀ {a b:List (List Int)},pR a b->a.length=b.length
 | [],[],_=>rfl
 | x::a,y::b,h=>by rw[zO,zO,dH h.2]
 | [],_::_,h=>h.elim
 | _::_,[],h=>h.elim
theorem mF:∀ {a b:List (List Int)}{i:Nat}{r:List Int},pR a b->a[i]?=some r->∃s,b[i]?=some s/\r.Perm s
 | [],[],i,r,_,h=>by simp at h
 | x::a,y::b,0,r,h,e=>by
  simp only[xU,yN] at e
  subst e
  exact⟨y,rfl,h.1⟩
 | x::a,y::b,i+1,r,h,e=>by
  simp only[xB] at e
  obtain⟨s,h1,h2⟩:=mF h.2 e
  exact⟨s,by simpa using h1,h2⟩
 | [],_::_,i,r,h,_=>h.elim
 | _::_,[],i,r,h,_=>h.elim
def j9(W:List Wy)(m:Nat):List (List Int):=(List.range m).map fun i=>Ah W ((i:Nat):Int)
def iz(W:List Wy)(m:Nat):List (List Int):=(List.range m).map fun i=>ofT W ((i:Nat):Int)
theorem FO(m1:1<=m)(m4:m<=4)(s1:1<=s)(s4:s<=4)(hf:∀k,0<=f k/\f k<=9)(hg:∀k,0<=g k/\g k<=9)
  (hm:pR mine (j9 W m)) (hy:pR yours (iz W s)) (wr:∀w∈W,(0<=w.1/\w.1 < m)/\(0<=w.2.1/\w.2.1 < s)/\1<=w.2.2/\w.2.2<=9) (wp:r6 W) (wl:W.length<=16):Wd (iG f 0 mine) (iG g 0 yours) W:=by
 have lm:(iG f 0 mine).length=m:=by rw[gL,dH hm,j9,zF,zU]
 have ly:(iG g 0 yours).length=s:=by rw[gL,dH hy,iz,zF,zU]
 have am:∀ {h:Nat->Int}{rs:List (List Int)},(∀k,0<=h k/\h k<=9)->∀p∈iG h 0 rs,0<=p.1/\p.1<=9:=fun {h rs} hh p hp=>by
  obtain⟨i,hi⟩:=List.mem_iff_getElem?.mp hp
  obtain⟨r,_,rfl⟩:=gy h hi
  exact hh _
 refine⟨by omega,by omega,by omega,by omega,am hf,am hg,fun i p hp=>?_,fun i p hp=>?_,by rw[lm,ly];exact wr,wp,wl⟩
 ·obtain⟨r,h1,rfl⟩:=gy f hp
  obtain⟨t,h2,h3⟩:=mF hm h1
  rw[j9,zR] at h2
  obtain⟨k,hk,rfl⟩:=Option.map_eq_some_iff.mp h2
  have:k=i:=by
   rw[zV] at hk
   obtain⟨h,e⟩:=hk
   rw[List.getElem_range] at e
   exact e.symm
  subst this
  exact h3
 ·obtain⟨r,h1,rfl⟩:=gy g hp
  obtain⟨t,h2,h3⟩:=mF hy h1
  rw[iz,zR] at h2
  obtain⟨k,hk,rfl⟩:=Option.map_eq_some_iff.mp h2
  have:k=i:=by
   rw[zV] at hk
   obtain⟨h,e⟩:=hk
   rw[List.getElem_range] at e
   exact e.symm
  subst this
  exact h3
theorem bO{i:Nat}{fz:List Nat}{f:Dl.Env->Option D}{ρ ρ':ar}{d:D}(hf:f (aS ρ)=some d)(hs:Dl.l6 d=false)(hh:hand fz 0 ρ=ρ')(hv:bx ρ'=aS ρ)(hr:bQ d=false\/ρ'=ρ:=by first|exact .inr rfl|exact .inl rfl):Dl.aB i fz f ρ=some (.nx (ρ'.set i (.val d))):=by
 rcases hr with hr|hr
 ·simp only[Dl.aB,hf,zC,hs,yR,qT,hh,hv,zD,hr]
 ·subst hr
  simp only[Dl.aB,hf,zC,hs,yR,qT,hh,hv,zD,ite_self]
theorem cX{i:Nat}{fz:List Nat}{f:Dl.Env->Option D}{ρ:ar}{d:D}(hf:f (aS ρ)=some d)(hs:Dl.l6 d=true):Dl.aB i fz f ρ=some (.nx (ρ.set i (.val d))):=by
 simp only[Dl.aB,hf,zC,hs,xK]
theorem HG(w:Wy):ao (aq w) (.int 0)=some (.int w.1):=rfl
theorem Hq(w:Wy):ao (aq w) (.int 1)=some (.int w.2.1):=rfl
theorem yf(a b c:D):small [a,b,c]=some [a,b,c]:=rfl
theorem LI{a b s:Int}(hs:s=1\/s=2\/s=3)(h:a < b):a / s < b / s\/(a / s=b / s/\a % s < b % s):=by rcases hs with rfl|rfl|rfl<;>omega
theorem Kv{k m s:Int}(hs:s=1\/s=2\/s=3)(hm:m=1\/m=2\/m=3)(h0:0<=k)(h:k < m * s):(0<=k / s/\k / s < m)/\0<=k % s/\k % s < s:=by
 rcases hs with rfl|rfl|rfl<;>rcases hm with rfl|rfl|rfl<;>omega
def lB:ar->Option Out:=(fH (nL (fB (f2 Cf (aX bo (aa (ab 7) ae)) (ab 2))) (fB (f2 Cg (ah 3 au (aa (ab 0) (aa (f2 aR (f2 aR (ab 1) (fC (.int 2))) (ab 8)) (aa (fC (.int 4)) ae)))) (fC (.int 0))))) (kn 7 [0,1,6,8] (aM (aa (f2 lK (ab 8) (ab 6)) (aa (f2 j8 (ab 8) (ab 6)) (aa (f2 aR (fC (.int 1)) (ah 3 au (aa (ab 0) (aa (f2 aR (f2 aR (ab 1) (fC (.int 12))) (ab 8)) (aa (fC (.int 2)) ae))))) ae))))) fQ)
abbrev st(ns:List Int)(a mo m s:Int)(x4 x7 x8 x9 x10 x11:Slot):ar:=[.val (cM ns),.val (.int a),.val (.int mo),.non,x4,.val (.int m),.val (.int s),x7,x8,x9,x10,x11]
def GN(ns:List Int)(a mo s k:Int)(W:List Wy):List Wy:=if (W.length:Int) < mo/\0 < dr ns (a+2+k) 4 then W++[(k / s,k % s,1+dr ns (a+12+k) 2)] else W
theorem IA{ns:List Int}{a mo m s k:Int}{W:List Wy}(hl:ns.length<=63)(hs:s=1\/s=2\/s=3)(hw:W.length<=9) :
  lB (st ns a mo m s .non (.own (W.map aq)) (.val (.int k)) .non .non .non)=some (.nx (st ns a mo m s .non (.own ((GN ns a mo s k W).map aq)) (.val (.int k)) .non .non .non)):=by
 have hs0:0 < s:=by omega
 have hz:W.length < sizeLine:=jC hw (by decide)
 have hd:Dl.lK (.int k) (.int s)=some (.int (k / s)):=iM ⟨hs0,by omega⟩
 have hm:Dl.j8 (.int k) (.int s)=some (.int (k % s)):=gK hs0
 have e4:=u0 (ns:=ns) (a+2+k) 4 hl (by decide)
 have e2:=u0 (ns:=ns) (a+12+k) 2 hl (by decide)
 have hh:hand [0,1,6,8] 0 (st ns a mo m s .non (.own (W.map aq)) (.val (.int k)) .non .non .non)=st ns a mo m s .non (.own (W.map aq)) (.val (.int k)) .non .non .non:=rfl
 have ha:kn 7 [0,1,6,8] (aM (aa (f2 lK (ab 8) (ab 6)) (aa (f2 j8 (ab 8) (ab 6)) (aa (f2 aR (fC (.int 1)) (ah 3 au (aa (ab 0) (aa (f2 aR (f2 aR (ab 1) (fC (.int 12))) (ab 8)) (aa (fC (.int 2)) ae))))) ae)))) (st ns a mo m s .non (.own (W.map aq)) (.val (.int k)) .non .non .non)=some (.nx (st ns a mo m s .non (.own ((W++[(k / s,k % s,1+dr ns (a+12+k) 2)]).map aq)) (.val (.int k)) .non .non .non)):=by
  simp only[kn,fO,hh,bx,zL,yX]
  simp! [vn,yR,mi,hd,hm,e2,yf,zF,hz,yZ,yY,jD]
  rfl
 by_cases c1:(W.length:Int) < mo
 ·by_cases c2:0 < dr ns (a+2+k) 4
  ·rw[show GN ns a mo s k W=W++[(k / s,k % s,1+dr ns (a+12+k) 2)] from yO ⟨c1,c2⟩,<- ha]
   simp! [lB,l7,ix,zF,c1,c2,jS,fW,e4]
  ·rw[show GN ns a mo s k W=W from yQ fun h=>c2 h.2]
   simp! [lB,l7,ix,zF,c1,c2,jS,wL,fW,e4,yR]
 ·rw[show GN ns a mo s k W=W from yQ fun h=>c1 h.1]
  simp! [lB,l7,ix,zF,c1,wL,fW,yR]
structure BU(mo s k:Int)(W:List Wy):Prop where
 mem:∀w∈W,∃j:Int,0<=j/\j < k/\w.1=j / s/\w.2.1=j % s/\1<=w.2.2/\w.2.2<=2
 ris:r6 W
 len:(W.length:Int)<=k
 lem:(W.length:Int)<=mo
theorem BU.next{ns:List Int}{a mo s k:Int}{W:List Wy}(hl:ns.length<=63)(hs:s=1\/s=2\/s=3)(hk:0<=k)(h:BU mo s k W):BU mo s (k+1) (GN ns a mo s k W):=by
 have old:∀w∈W,∃j:Int,0<=j/\j < k+1/\w.1=j / s/\w.2.1=j % s/\1<=w.2.2/\w.2.2<=2:=fun w hw=>by
  obtain⟨j,a,b,c⟩:=h.mem w hw
  exact⟨j,a,by omega,c⟩
 by_cases c:(W.length:Int) < mo/\0 < dr ns (a+2+k) 4
 ·rw[show GN ns a mo s k W=W++[(k / s,k % s,1+dr ns (a+12+k) 2)] from yO c]
  have g1:=LJ (ns:=ns) (a+12+k) 2 hl (by decide)
  have g2:=LO (ns:=ns) (a+12+k) 2 hl (by decide)
  refine⟨fun w hw=>?_,?_,?_,?_⟩
  ·rcases List.mem_append.mp hw with hw|hw
   ·exact old w hw
   ·rw[yM] at hw
    subst hw
    exact⟨k,hk,by omega,rfl,rfl,by simp only;omega,by simp only;omega⟩
  ·refine List.pairwise_append.mpr ⟨h.ris,vJ _ _,fun a ha b hb=>?_⟩
   rw[yM] at hb
   subst hb
   obtain⟨j,_,b,c1,c2,_⟩:=h.mem a ha
   rw[c1,c2]
   exact LI hs b
  ·have:=h.len;rw[zQ,xF];omega
  ·have:=c.1;rw[zQ,xF];omega
 ·rw[show GN ns a mo s k W=W from yQ c]
  exact⟨old,h.ris,by have:=h.len;omega,h.lem⟩
theorem CU{ns:List Int}{a mo m s:Int}(hl:ns.length<=63)(hs:s=1\/s=2\/s=3):∀ (n k:Nat) {W:List Wy}{x8:Slot},k+n<=9->BU mo s k W ->
  ∃W' t8,eE (pW 8) lB ((List.range' k n).map fun i=>PyData.int ((i:Nat):Int)) (st ns a mo m s .non (.own (W.map aq)) x8 .non .non .non)=some (.nx (st ns a mo m s .non (.own (W'.map aq)) t8 .non .non .non))/\(n=0/\t8=x8\/∃d,t8=.val d)/\BU mo s ((k+n:Nat):Int) W'
 | 0,k,W,x8,hk,h=>⟨W,x8,rfl,.inl ⟨rfl,rfl⟩,h⟩
 | n+1,k,W,x8,hk,h=>by
  have h':BU mo s ((k+1:Nat):Int) (GN ns a mo s k W):=by
   have:=h.next (ns:=ns) (a:=a) hl hs (by omega)
   rwa [show ((k:Int)+1)=((k+1:Nat):Int) by omega] at this
  obtain⟨W',t8,e,q,b⟩:=CU hl hs n (k+1) (W:=GN ns a mo s k W) (x8:=.val (.int (k:Nat))) (by omega) h'
  refine⟨W',t8,?_,.inr (q.elim (fun z=>⟨_,z.2⟩) id),by rw[show k+(n+1)=k+1+n by omega];exact b⟩
  have hsg:∀d,pW 8 (st ns a mo m s .non (.own (W.map aq)) x8 .non .non .non) d=some (st ns a mo m s .non (.own (W.map aq)) (.val d) .non .non .non):=fun d=>rfl
  rw[vH,zL,eE,hsg,zC,IA hl hs (by have:=h.len;omega)]
  exact e
theorem NF(W:List Wy)(i:Int)(hw:W.length<=20):aj 1 [0] (aQ (ab 1)) (fG 0) (fB (f2 bC (f2 ao (ab 0) (fC (.int 0))) (ab 1))) (f2 ao (ab 0) (fC (.int 1))) [some (.int i),some (.list (W.map aq))]=some ((Ah W i).map PyData.int):=by
 rw[lE (ds:=W.map aq) (p:=fun d=>decide (gV ((cg d).getD 0 .none)=i)) (h:=fun d=>(cg d).getD 1 .none) rfl (by rw[zF];omega) (fun d hd=>?_) fun d hd _=>?_]
 ·rw[kK,zP,Ah,zP];rfl
 ·obtain⟨w,_,rfl⟩:=List.mem_map.mp hd
  simp! [HG,dk,fW]
  rfl
 ·obtain⟨w,_,rfl⟩:=List.mem_map.mp hd
  simp! [Hq]
  rfl
theorem NV(W:List Wy)(i:Int)(hw:W.length<=20):aj 1 [0] (aQ (ab 1)) (fG 0) (fB (f2 bC (f2 ao (ab 0) (fC (.int 1))) (ab 1))) (f2 ao (ab 0) (fC (.int 0))) [some (.int i),some (.list (W.map aq))]=some ((ofT W i).map PyData.int):=by
 rw[lE (ds:=W.map aq) (p:=fun d=>decide (gV ((cg d).getD 1 .none)=i)) (h:=fun d=>(cg d).getD 0 .none) rfl (by rw[zF];omega) (fun d hd=>?_) fun d hd _=>?_]
 ·rw[kK,zP,ofT,zP];rfl
 ·obtain⟨w,_,rfl⟩:=List.mem_map.mp hd
  simp! [Hq,dk,fW]
  rfl
 ·obtain⟨w,_,rfl⟩:=List.mem_map.mp hd
  simp! [HG]
  rfl
theorem og{m:Nat}(hm:m<=1000):uY ((m:Nat):Int)=true:=by
 unfold uY
 rw[zI,zM,zM]
 have h1:(0:Int)<=(m:Int):=Int.natCast_nonneg m
 have h2:(m:Int)<=1000:=by omega
 exact⟨jW (by decide) h1,Int.lt_of_le_of_lt h2 (by decide)⟩
theorem ub{j:Int}(h:uY j=true):kq [.int j]=some ((List.range j.toNat).map fun i=>PyData.int ((i:Nat):Int)):=by
 rw[kq,yO h]
theorem sY{fi:Dl.Env->Option D}{ρ:Dl.Env}(m:Nat)(hm:m<=1000)(h:fi ρ=some (.int (m:Nat))):bq (aa fi ae) ρ=some ((List.range m).map fun i=>PyData.int ((i:Nat):Int)):=by
 have e:aa fi ae ρ=some [.int ((m:Nat):Int)]:=by simp only[aa,ae,h,zC,zD]
 have e2:bq (aa fi ae) ρ=(aa fi ae ρ).bind kq:=rfl
 rw[e2,e,zC,ub (og hm),yI]
theorem Gq{W:List Wy}{m:Nat}{i7 i5:Nat}{ρ:Dl.Env}(hw:W.length<=20)(hm:m<=1000)(h5:ab i5 ρ=some (.int (m:Nat)))(h7:(ρ[i7]?).getD none=some (.list (W.map aq))) :
  aj 1 [i7] (bq (aa (ab i5) ae)) (fG 0) (fun _=>some true) (bT (aj 1 [0] (aQ (ab 1)) (fG 0) (fB (f2 bC (f2 ao (ab 0) (fC (.int 0))) (ab 1))) (f2 ao (ab 0) (fC (.int 1))))) ρ=some ((j9 W m).map bP):=by
 rw[bM (h:=fun d=>bP (Ah W (gV d))) (sY m hm h5) (by rw[zF,zU];omega) fun d hd=>?_]
 ·rw[j9,zP,zP];rfl
 ·obtain⟨i,_,rfl⟩:=List.mem_map.mp hd
  simp only[zL,yX,h7,bT,NF W _ hw,zD,bP,gV]
theorem GF{W:List Wy}{m:Nat}{i7 i5:Nat}{ρ:Dl.Env}(hw:W.length<=20)(hm:m<=1000)(h5:ab i5 ρ=some (.int (m:Nat)))(h7:(ρ[i7]?).getD none=some (.list (W.map aq))) :
  aj 1 [i7] (bq (aa (ab i5) ae)) (fG 0) (fun _=>some true) (bT (aj 1 [0] (aQ (ab 1)) (fG 0) (fB (f2 bC (f2 ao (ab 0) (fC (.int 1))) (ab 1))) (f2 ao (ab 0) (fC (.int 0))))) ρ=some ((iz W m).map bP):=by
 rw[bM (h:=fun d=>bP (ofT W (gV d))) (sY m hm h5) (by rw[zF,zU];omega) fun d hd=>?_]
 ·rw[iz,zP,zP];rfl
 ·obtain⟨i,_,rfl⟩:=List.mem_map.mp hd
  simp only[zL,yX,h7,bT,NV W _ hw,zD,bP,gV]
def HS(c:Int):Dl.Env->Option D:=(aM (aa (ah 3 au (aa (ab 2) (aa (f2 aR (f2 aR (ab 3) (fC (.int c))) (ab 0)) (aa (fC (.int 4)) ae)))) (aa (ab 1) ae)))
theorem KL{ns:List Int}{a:Int}(c:Int)(hl:ns.length<=63):∀ (mine:List (List Int)) (k:Nat),bS (fy 0 1) (fun _=>some true) (HS c) [none,none,some (cM ns),some (.int a)] (bh k (mine.map ag))=some ((iG (fun k=>dr ns (a+c+((k:Nat):Int)) 4) k mine).map aF)
 | [],k=>rfl
 | r::mine,k=>by
  have hg:fy 0 1 [none,none,some (cM ns),some (.int a)] (.tuple [.int ((k:Nat):Int),ag r])=some [some (.int ((k:Nat):Int)),some (ag r),some (cM ns),some (.int a)]:=rfl
  have he:HS c [some (.int ((k:Nat):Int)),some (ag r),some (cM ns),some (.int a)]=some (aF (dr ns (a+c+((k:Nat):Int)) 4,r)):=by
   simp! [HS,u0 (ns:=ns) (a+c+((k:Nat):Int)) 4 hl (by decide),yq,aF]
  have ih:=KL (a:=a) c hl mine (k+1)
  rw[zL,bh,bS,hg]
  simp only[zC,xK,he,ih,zD,iG,zL]
theorem jo:∀ (ds:List D) (k:Nat),(bh k ds).length=ds.length
 | [],k=>rfl
 | d::ds,k=>by rw[bh,zO,zO,jo ds]
theorem uu{ns:List Int}{a c:Int}{i9:Nat}{ρ:Dl.Env}{mine:List (List Int)}(hl:ns.length<=63)(hm:mine.length<=1000)(h9:ab i9 ρ=some (.list (mine.map ag)))(h0:(ρ[0]?).getD none=some (cM ns))(h1:(ρ[1]?).getD none=some (.int a)) :
  aX aK (aa (bT (aj 2 [0,1] (bc (aa (ab i9) ae)) (fy 0 1) (fun _=>some true) (HS c))) ae) ρ=some (.tuple ((iG (fun k=>dr ns (a+c+((k:Nat):Int)) 4) 0 mine).map aF)):=by
 have hi:bc (aa (ab i9) ae) ρ=some (bh 0 (mine.map ag)):=by
  simp only[bc,aa,ae,h9,zC,zD,ck,oneOf,fN]
 have hc:aj 2 [0,1] (bc (aa (ab i9) ae)) (fy 0 1) (fun _=>some true) (HS c) ρ=some ((iG (fun k=>dr ns (a+c+((k:Nat):Int)) 4) 0 mine).map aF):=by
  simp only[aj,hi,zC,dz,zL,yX,h0,h1,List.replicate,xI,xR,KL c hl]
  exact aY (by rw[zF,gL];omega)
 simp only[aX,aa,ae,bT,hc,zD,zC,aK,ck,oneOf,fN]
theorem ai{g1 g2:ar->Option Out}{ρ ρ':ar}(h:g1 ρ=some (.nx ρ')):av g1 g2 ρ=g2 ρ':=by
 simp only[av,h,zC]
theorem aN{g:ar->Option Out}{n:Nat}{args:List D}{d:D}(h:g (args.map Slot.val++List.replicate (n - args.length) .non)=some (.rt d)):ba g n args=some d:=by
 simp only[ba,h,zD]
theorem iD{g:D->D->Option D}{fa fb:Dl.Env->Option D}{ρ:Dl.Env}{a b:D}(ha:fa ρ=some a)(hb:fb ρ=some b):f2 g fa fb ρ=g a b:=by
 simp only[f2,ha,hb,zC]
theorem Ik{ns:List Int}{a mo:Int}{m s:Nat}(m1:m<=3)(s1:s<=3):f2 ej (ab 5) (ab 6) (bx (st ns a mo m s .non (.own []) .non .non .non .non))=some (.int ((m * s:Nat):Int)):=by
 have h:Dl.ej (.int (m:Int)) (.int (s:Int))=some (.int ((m:Int) * (s:Int))):=eu (kr (by omega))
 rw[iD (a:=.int (m:Int)) (b:=.int (s:Int)) rfl rfl,h,Int.natCast_mul]
theorem Kk{ns:List Int}{a mo:Int}{m s:Nat}(m1:m<=3)(s1:s<=3)(hms:m * s<=9){W:List Wy}{t8:Slot}(e: eE (pW 8) lB ((List.range' 0 (m * s)).map fun i=>PyData.int ((i:Nat):Int)) (st ns a mo m s .non (.own (([]:List Wy).map aq)) .non .non .non .non)=some (.nx (st ns a mo m s .non (.own (W.map aq)) t8 .non .non .non))):cA [5,6] (bq (aa (f2 ej (ab 5) (ab 6)) ae)) (pW 8) lB (st ns a mo m s .non (.own []) .non .non .non .non)=some (.nx (st ns a mo m s .non (.own (W.map aq)) t8 .non .non .non)):=by
 have hh:hand [5,6] 0 (st ns a mo m s .non (.own []) .non .non .non .non)=st ns a mo m s .non (.own []) .non .non .non .non:=rfl
 have hr:=sY (fi:=f2 ej (ab 5) (ab 6)) (ρ:=bx (st ns a mo m s .non (.own []) .non .non .non .non)) (m * s) (by omega) (Ik m1 s1)
 rw[yJ] at hr
 rw[yX] at e
 simp only[cA,hh,hr,zC]
 exact e
structure MG(mo:Int)(G T:List Pl)(W:List Wy):Prop where
 g3:G.length<=3
 t3:T.length<=3
 w2:∀w∈W,w.2.2<=2
 ga:∀p∈G,p.1<=3
 ta:∀p∈T,p.1<=3
 wm:(W.length:Int)<=mo
theorem tm{ns:List Int}{a mo:Int}(hl:ns.length<=63)(hmo:3 < mo)(c:dr ns (a+64) 4=0):∃G T W,bV [cM ns,.int a,.int mo]=some (ax G T W)/\Wd G T W/\MG mo G T W:=by
 have e64:=u0 (ns:=ns) (a+64) 4 hl (by decide)
 have e65:=eH (ns:=ns) (a+65) 2 hl (by decide)
 refine⟨_,_,_,?_,Bg (c:=1+dr ns (a+65) 2) (by omega) (by omega),⟨by simp,by simp,by decide,fun p hp=>?_,fun p hp=>?_,by simp;omega⟩⟩
 rotate_left
 ·simp only[zT,yH,xX] at hp;rcases hp with rfl|rfl<;>(simp only;omega)
 ·simp only[zT,yH,xX] at hp;rcases hp with rfl|rfl<;>(simp only;omega)
 have s1:Dl.aB 3 [0,1] (f2 aR (fC (.int 1)) (ah 3 au (aa (ab 0) (aa (f2 aR (ab 1) (fC (.int 65))) (aa (fC (.int 2)) ae))))) [.val (cM ns),.val (.int a),.val (.int mo),.non,.non,.non,.non,.non,.non,.non,.non,.non]=some (.nx [.val (cM ns),.val (.int a),.val (.int mo),.val (.int (1+dr ns (a+65) 2)),.non,.non,.non,.non,.non,.non,.non,.non]) :=
  cX (d:=.int (1+dr ns (a+65) 2)) (by simp! [e65.1]) rfl
 generalize 1+dr ns (a+65) 2=x at *
 have s2:Dl.aB 4 [3] (aM (aa (aM (aa (ab 3) (aa (aM (aa (fC (.int 1)) (aa (fC (.int 0)) ae))) ae))) (aa (aM (aa (ab 3) (aa (aM (aa (fC (.int 0)) (aa (fC (.int 1)) ae))) ae))) ae))) [.val (cM ns),.val (.int a),.val (.int mo),.val (.int x),.non,.non,.non,.non,.non,.non,.non,.non]=some (.nx [.val (cM ns),.val (.int a),.val (.int mo),.val (.int x),.val (.tuple [aF (x,[1,0]),aF (x,[0,1])]),.non,.non,.non,.non,.non,.non,.non]) :=
  bO (d:=.tuple [aF (x,[1,0]),aF (x,[0,1])]) (by simp! [yq];rfl) rfl rfl rfl
 simp! [bV,eO,ix,e64,c,dk,jS,fW,show decide ((3:Int) < mo)=true from yC hmo,s1,s2,yq,yf,show ∀a b c d:D,small [a,b,c,d]=some [a,b,c,d] from fun _ _ _ _=>rfl]
 rfl
theorem tq{ns:List Int}{a mo:Int}(hl:ns.length<=63)(hm0:0<=mo)(c:¬ (3 < mo/\dr ns (a+64) 4=0)):∃G T W,bV [cM ns,.int a,.int mo]=some (ax G T W)/\Wd G T W/\MG mo G T W:=by
 have e64:=u0 (ns:=ns) (a+64) 4 hl (by decide)
 have em:=eH (ns:=ns) a 3 hl (by decide)
 have es:=eH (ns:=ns) (a+1) 3 hl (by decide)
 obtain⟨m,hm⟩:=vK (show 0<=1+dr ns a 3 by omega)
 obtain⟨s,hs⟩:=vK (show 0<=1+dr ns (a+1) 3 by omega)
 have m1:1<=m/\m<=3:=by omega
 have s1:1<=s/\s<=3:=by omega
 have hs':(s:Int)=1\/(s:Int)=2\/(s:Int)=3:=by omega
 have hm':(m:Int)=1\/(m:Int)=2\/(m:Int)=3:=by omega
 have t5:Dl.aB 5 [0,1] (f2 aR (fC (.int 1)) (ah 3 au (aa (ab 0) (aa (ab 1) (aa (fC (.int 3)) ae))))) [.val (cM ns),.val (.int a),.val (.int mo),.non,.non,.non,.non,.non,.non,.non,.non,.non]=some (.nx [.val (cM ns),.val (.int a),.val (.int mo),.non,.non,.val (.int (m:Nat)),.non,.non,.non,.non,.non,.non]) :=
  cX (d:=.int (m:Nat)) (by simp! [em.1,hm]) rfl
 have t6:Dl.aB 6 [0,1] (f2 aR (fC (.int 1)) (ah 3 au (aa (ab 0) (aa (f2 aR (ab 1) (fC (.int 1))) (aa (fC (.int 3)) ae))))) [.val (cM ns),.val (.int a),.val (.int mo),.non,.non,.val (.int (m:Nat)),.non,.non,.non,.non,.non,.non]=some (.nx (st ns a mo m s .non .non .non .non .non .non)) :=
  cX (d:=.int (s:Nat)) (by simp! [es.1,hs]) rfl
 have t7:aL 7 [] (cF ae) (st ns a mo m s .non .non .non .non .non .non)=some (.nx (st ns a mo m s .non (.own []) .non .non .non .non)):=by
  simp only[aL,l0,cF,ae,zC,gO,zD,yZ,yY]
 have hms:m * s<=9:=vX m1.2 s1.2
 have hms1:1<=m * s:=vX m1.1 s1.1
 obtain⟨W,t8,e,h8,I⟩:=CU (ns:=ns) (a:=a) (m:=m) (s:=s) hl hs' (m * s) 0 (W:=[]) (x8:=.non) (by omega) (mo:=mo) ⟨fun w hw=>(by cases hw),List.Pairwise.nil,by decide,hm0⟩
 rw[jG] at I
 obtain⟨d8,rfl⟩:∃d,t8=.val d:=h8.elim (fun z=>by omega) id
 have hlen9:W.length<=9:=by have:=I.len;omega
 have tf:=Kk m1.2 s1.2 hms e
 unfold lB at tf
 have hwl:W.length<=20:=by omega
 have wr:∀w∈W,(0<=w.1/\w.1 < m)/\(0<=w.2.1/\w.2.1 < s)/\1<=w.2.2/\w.2.2<=9:=fun w hw=>by
  obtain⟨j,j0,jk,ea,b,c1,c2⟩:=I.mem w hw
  have:=Kv hs' hm' j0 (by rw[<- Int.natCast_mul];exact jk)
  rw[ea,b]
  exact⟨this.1,this.2,c1,by omega⟩
 have lenG:∀r∈j9 W m,r.length<=1000:=fun r hr=>by
  obtain⟨i,_,rfl⟩:=List.mem_map.mp hr
  rw[Ah,zF]
  exact yF (xS _ _) (by omega)
 have lenT:∀r∈iz W s,r.length<=1000:=fun r hr=>by
  obtain⟨i,_,rfl⟩:=List.mem_map.mp hr
  rw[ofT,zF]
  exact yF (xS _ _) (by omega)
 obtain⟨mine,om,pm⟩:=u6 (ns:=ns) (a:=a+24) (rows:=j9 W m) hl lenG (by rw[j9,zF,zU];omega)
 obtain⟨yours,oy,py⟩:=u6 (ns:=ns) (a:=a+40) (rows:=iz W s) hl lenT (by rw[iz,zF,zU];omega)
 have lm:mine.length<=1000:=by rw[dH pm,j9,zF,zU];omega
 have ly:yours.length<=1000:=by rw[dH py,iz,zF,zU];omega
 have t9:Dl.aB 9 [0,1,5,7] (ah 3 bG (aa (ab 0) (aa (f2 aR (ab 1) (fC (.int 24))) (aa (bT (aj 1 [7] (bq (aa (ab 5) ae)) (fG 0) (fun _=>some true) (bT (aj 1 [0] (aQ (ab 1)) (fG 0) (fB (f2 bC (f2 ao (ab 0) (fC (.int 0))) (ab 1))) (f2 ao (ab 0) (fC (.int 1))))))) ae)))) (st ns a mo m s .non (.own (W.map aq)) (.val d8) .non .non .non)=some (.nx (st ns a mo m s .non (.val (.list (W.map aq))) (.val d8) (.val (.list (mine.map ag))) .non .non)):=by
  refine (bO (ρ':=st ns a mo m s .non (.val (.list (W.map aq))) (.val d8) .non .non .non) (d:=.list (mine.map ag)) ?_ rfl rfl ?_).trans rfl
  ·have q:=Gq (ρ:=aS (st ns a mo m s .non (.own (W.map aq)) (.val d8) .non .non .non)) (i5:=5) (i7:=7) hwl (show m<=1000 by omega) rfl rfl
   simp only[ah,aa,ae,bT,q,zD,zC]
   simp! [om]
  ·simp only[st,bx,aS,zL,yX];rfl
 have t10:Dl.aB 10 [0,1,6,7] (ah 3 bG (aa (ab 0) (aa (f2 aR (ab 1) (fC (.int 40))) (aa (bT (aj 1 [7] (bq (aa (ab 6) ae)) (fG 0) (fun _=>some true) (bT (aj 1 [0] (aQ (ab 1)) (fG 0) (fB (f2 bC (f2 ao (ab 0) (fC (.int 1))) (ab 1))) (f2 ao (ab 0) (fC (.int 0))))))) ae)))) (st ns a mo m s .non (.val (.list (W.map aq))) (.val d8) (.val (.list (mine.map ag))) .non .non)=some (.nx (st ns a mo m s .non (.val (.list (W.map aq))) (.val d8) (.val (.list (mine.map ag))) (.val (.list (yours.map ag))) .non)):=by
  refine (bO (ρ':=st ns a mo m s .non (.val (.list (W.map aq))) (.val d8) (.val (.list (mine.map ag))) .non .non) (d:=.list (yours.map ag)) ?_ rfl ?_ ?_).trans rfl
  ·have q:=GF (ρ:=aS (st ns a mo m s .non (.val (.list (W.map aq))) (.val d8) (.val (.list (mine.map ag))) .non .non)) (i5:=6) (i7:=7) hwl (show s<=1000 by omega) rfl rfl
   simp only[ah,aa,ae,bT,q,zD,zC]
   simp! [oy]
  ·rfl
  ·simp only[st,bx,aS,zL,yX];rfl
 have t11:Dl.aB 11 [0,1,8,9] (aX aK (aa (bT (aj 2 [0,1] (bc (aa (ab 9) ae)) (fy 0 1) (fun _=>some true) (HS 56))) ae)) (st ns a mo m s .non (.val (.list (W.map aq))) (.val d8) (.val (.list (mine.map ag))) (.val (.list (yours.map ag))) .non)=some (.nx (st ns a mo m s .non (.val (.list (W.map aq))) (.val d8) (.val (.list (mine.map ag))) (.val (.list (yours.map ag))) (.val (.tuple ((iG (fun k=>dr ns (a+56+((k:Nat):Int)) 4) 0 mine).map aF))))):=by
  refine (bO (ρ':=st ns a mo m s .non (.val (.list (W.map aq))) (.val d8) (.val (.list (mine.map ag))) (.val (.list (yours.map ag))) .non) (uu hl lm rfl rfl rfl) rfl rfl ?_).trans rfl
  simp only[st,bx,aS,zL,yX];rfl
 have t4:∀G:D,Dl.aB 4 [0,1,8,10] (aX aK (aa (bT (aj 2 [0,1] (bc (aa (ab 10) ae)) (fy 0 1) (fun _=>some true) (HS 60))) ae)) (st ns a mo m s .non (.val (.list (W.map aq))) (.val d8) (.val (.list (mine.map ag))) (.val (.list (yours.map ag))) (.val G))=some (.nx (st ns a mo m s (.val (.tuple ((iG (fun k=>dr ns (a+60+((k:Nat):Int)) 4) 0 yours).map aF))) (.val (.list (W.map aq))) (.val d8) (.val (.list (mine.map ag))) (.val (.list (yours.map ag))) (.val G))):=fun G=>by
  refine (bO (ρ':=st ns a mo m s .non (.val (.list (W.map aq))) (.val d8) (.val (.list (mine.map ag))) (.val (.list (yours.map ag))) (.val G)) (uu hl ly rfl rfl rfl) rfl rfl ?_).trans rfl
  simp only[st,bx,aS,zL,yX];rfl
 refine⟨_,_,W,?_,FO (f:=fun k=>dr ns (a+56+((k:Nat):Int)) 4) (g:=fun k=>dr ns (a+60+((k:Nat):Int)) 4) m1.1 (by omega) s1.1 (by omega) (fun k=>?_) (fun k=>?_) pm py wr I.ris (by omega),⟨by rw[gL,dH pm,j9,zF,zU];omega,by rw[gL,dH py,iz,zF,zU];omega,fun w hw=>(by obtain⟨j,_,_,_,_,_,z⟩:=I.mem w hw;exact z),fun p hp=>?_,fun p hp=>?_,I.lem⟩⟩
 ·unfold HS at t11 t4
  have tA:∀g,fH (nL (fB (f2 Cg (ab 2) (fC (.int 3)))) (fB (f2 bC (ah 3 au (aa (ab 0) (aa (f2 aR (ab 1) (fC (.int 64))) (aa (fC (.int 4)) ae)))) (fC (.int 0))))) g fQ [.val (cM ns),.val (.int a),.val (.int mo),.non,.non,.non,.non,.non,.non,.non,.non,.non]=some (.nx [.val (cM ns),.val (.int a),.val (.int mo),.non,.non,.non,.non,.non,.non,.non,.non,.non]):=fun g=>by
   by_cases c1:3 < mo
   ·have c2:¬ dr ns (a+64) 4=0:=fun z=>c ⟨c1,z⟩
    simp! [ix,e64,c1,c2,dk,wL,jS,fW,yR]
   ·simp! [ix,c1,wL,fW,yR]
  refine aN ?_
  show eO [.val (cM ns),.val (.int a),.val (.int mo),.non,.non,.non,.non,.non,.non,.non,.non,.non]=_
  unfold eO
  rw[ai (tA _),ai t5,ai t6,ai t7,ai tf,ai t9,ai t10,ai t11,ai (t4 _)]
  simp! [yf,ax]
 ·have q:=eH (ns:=ns) (a+56+((k:Nat):Int)) 4 hl (by decide)
  exact⟨q.2.1,by omega⟩
 ·have q:=eH (ns:=ns) (a+60+((k:Nat):Int)) 4 hl (by decide)
  exact⟨q.2.1,by omega⟩
 ·obtain⟨i,hi⟩:=List.getElem?_of_mem hp
  obtain⟨r,_,rfl⟩:=gy _ hi
  have q:=eH (ns:=ns) (a+56+((0+i:Nat):Int)) 4 hl (by decide)
  simp only;omega
 ·obtain⟨i,hi⟩:=List.getElem?_of_mem hp
  obtain⟨r,_,rfl⟩:=gy _ hi
  have q:=eH (ns:=ns) (a+60+((0+i:Nat):Int)) 4 hl (by decide)
  simp only;omega
theorem uJ{ns:List Int}{a mo:Int}(hl:ns.length<=63)(hm0:0<=mo):∃G T W,bV [cM ns,.int a,.int mo]=some (ax G T W)/\Wd G T W/\MG mo G T W:=by
 by_cases c:3 < mo/\dr ns (a+64) 4=0
 ·exact tm hl c.1 c.2
 ·exact tq hl hm0 c
section
theorem HR(h:r6 W):(W.map fun w=>[w.1,w.2.1]).Pairwise fun a b=>Dl.lexLt a b=true:=List.pairwise_map.mpr (h.imp fun hab=>Nf hab)
theorem Ee(h:r6 W):(W.map fun w=>[w.1,w.2.1]).Nodup:=(HR h).imp fun {a b} hab e=>by
 rw[e,fj] at hab
 cases hab
theorem Ef(h:r6 W)(hn:m.Nodup)(hm:∀r,r∈W.map (fun w=>[w.1,w.2.1])↔r∈m):W.map (fun w=>[w.1,w.2.1])=pU m :=
 DZ ((List.perm_ext_iff_of_nodup (Ee h) hn).mpr hm) ((HR h).imp fun hab=>Lh hab)
theorem Wd.wok(h:Wd G T W):Me (ax G T W)=true:=by
 have hP:(W.map aq).map eL=W.map fun w=>[w.1,w.2.1]:=by rw[zP];rfl
 have hpg:∀i j:Int,[i,j]∈W.map (fun w=>[w.1,w.2.1])↔[i,j]∈lC 0 (G.map aF):=fun i j=>by
  rw[ox]
  constructor
  ·intro hm
   obtain⟨w,hw,e⟩:=List.mem_map.mp hm
   simp only[kY,and_true] at e
   have hr:=(h.wr w hw).1
   obtain⟨p,hp⟩:∃p,G[i.toNat]?=some p:=⟨G[i.toNat]'(by omega),zN (by omega)⟩
   refine⟨i.toNat,aF p,by rw[zR,hp];rfl,by omega,?_⟩
   rw[eR,(h.gl _ p hp).mem_iff,sF,show ((i.toNat:Nat):Int)=i by omega]
   exact hm
  ·rintro⟨m,p,hp,rfl,hj⟩
   rw[zR] at hp
   obtain⟨p',hp',rfl⟩:=Option.map_eq_some_iff.mp hp
   rw[eR,(h.gl m p' hp').mem_iff,sF] at hj
   rwa [jG]
 have hpt:∀i j:Int,[i,j]∈W.map (fun w=>[w.1,w.2.1])↔[j,i]∈lC 0 (T.map aF):=fun i j=>by
  rw[ox]
  constructor
  ·intro hm
   obtain⟨w,hw,e⟩:=List.mem_map.mp hm
   simp only[kY,and_true] at e
   have hr:=(h.wr w hw).2.1
   obtain⟨p,hp⟩:∃p,T[j.toNat]?=some p:=⟨T[j.toNat]'(by omega),zN (by omega)⟩
   refine⟨j.toNat,aF p,by rw[zR,hp];rfl,by omega,?_⟩
   rw[eR,(h.tl _ p hp).mem_iff,sQ,show ((j.toNat:Nat):Int)=j by omega]
   exact hm
  ·rintro⟨m,p,hp,rfl,hj⟩
   rw[zR] at hp
   obtain⟨p',hp',rfl⟩:=Option.map_eq_some_iff.mp hp
   rw[eR,(h.tl m p' hp').mem_iff,sQ] at hj
   rwa [jG]
 have two:∀ {r:List Int},r∈W.map (fun w=>[w.1,w.2.1])->∃i j,r=[i,j]:=fun hr=>by
  obtain⟨w,_,rfl⟩:=List.mem_map.mp hr
  exact⟨_,_,rfl⟩
 have ng:∀ (L:List Pl),(∀p∈L,p.2.Nodup)->(lC 0 (L.map aF)).Nodup:=fun L hL=>qt fun p hp=>by
  obtain⟨p',hp',rfl⟩:=List.mem_map.mp hp
  rw[eR]
  exact hL p' hp'
 have e1:W.map (fun w=>[w.1,w.2.1])=pU (lC 0 (G.map aF)):=Ef h.wp (ng G fun p hp=>by
   obtain⟨i,hi,e⟩:=qU hp
   exact (h.gl i p (by rw[zN hi,e])).nodup_iff.mpr (jh h.wp i)) fun r=>⟨fun hr=>by
   obtain⟨i,j,rfl⟩:=two hr
   exact (hpg i j).mp hr,fun hr=>by
   obtain⟨i,j,rfl⟩:=jy r hr
   exact (hpg i j).mpr hr⟩
 have e2:W.map (fun w=>[w.1,w.2.1])=pU ((lC 0 (T.map aF)).map List.reverse):=Ef h.wp (by
   exact List.pairwise_map.mpr (List.Pairwise.imp (fun {a b} hne e=>hne (List.reverse_inj.mp e)) (ng T fun p hp=>by
    obtain⟨i,hi,e⟩:=qU hp
    exact (h.tl i p (by rw[zN hi,e])).nodup_iff.mpr (j4 h.wp i)))) fun r=>⟨fun hr=>by
   obtain⟨i,j,rfl⟩:=two hr
   exact List.mem_map.mpr ⟨[j,i],(hpt i j).mp hr,rfl⟩,fun hr=>by
   obtain⟨r',hr',rfl⟩:=List.mem_map.mp hr
   obtain⟨i,j,rfl⟩:=jy r' hr'
   exact (hpt j i).mpr hr'⟩
 have hw:(W.map aq).all (iy G.length T.length)=true:=by
  rw[xJ]
  intro x hx
  obtain⟨w,hw,rfl⟩:=List.mem_map.mp hx
  exact Bj (h.wr w hw)
 have hs:∀ {L:List Pl},1<=L.length->L.length<=4->mI (.tuple (L.map aF))=true:=fun {L} a b=>by
  simp only[mI,long,zF,zI,zM];omega
 have h3:long 3 3 (ax G T W)=true:=rfl
 have hg:=h.gok
 have ht:=h.tok
 unfold Me wq
 rw[h3,jN]
 simp only[ax,cg,wA,wC,hP,<- e1,<- e2,jS,Bool.and_true,iw,hs h.g1 h.g4,hs h.t1 h.t4,zF,hg,ht,hw,HY]
end
def sI(b:Bool):Int:=if b then 1 else 0
def bf(b:Bool)(w:Wy):Int:=if b then w.2.1 else w.1
def bK(b:Bool)(w:Wy):Int:=bf (!b) w
def aw(b:Bool)(G T:List Pl):List Pl:=if b then T else G
theorem dW(b:Bool)(G T:List Pl)(W:List Wy):ao (ax G T W) (.int (sI b))=some (.tuple ((aw b G T).map aF)):=by cases b<;>rfl
theorem gW(G T:List Pl)(W:List Wy):ao (ax G T W) (.int 2)=some (.tuple (W.map aq)):=rfl
theorem n6(b:Bool)(w:Wy):ao (aq w) (.int (sI b))=some (.int (bf b w)):=by cases b<;>rfl
theorem Hi(b:Bool)(w:Wy):ao (aq w) (.int (1 - sI b))=some (.int (bK b w)):=by cases b<;>rfl
theorem AY(w:Wy):ao (aq w) (.int 2)=some (.int w.2.2):=rfl
theorem Fs(p:Pl):ao (aF p) (.int 0)=some (.int p.1):=rfl
theorem Gh(p:Pl):ao (aF p) (.int 1)=some (ag p.2):=rfl
theorem pj(h:ds[i]?=some d):ao (.tuple ds) (.int ((i:Nat):Int))=some d:=by
 show pY ds (i:Nat)=_
 exact sW h
theorem Jb(h:ds[i]?=some d):ao (.list ds) (.int ((i:Nat):Int))=some d:=by
 show pY ds (i:Nat)=_
 exact sW h
theorem k8{l:List α}(h:l[i]?=some x):ao (.tuple (l.map f)) (.int ((i:Nat):Int))=some (f x):=pj (by rw[zR,h];rfl)
theorem Fb{l:List α}(h:l[i]?=some x):ao (.list (l.map f)) (.int ((i:Nat):Int))=some (f x):=Jb (by rw[zR,h];rfl)
def Kw(b:Bool)(W:List Wy)(p:Int):List Int:=(W.filter fun w=>decide (bf b w=p)).map (bK b)
theorem Wd.lik{G T:List Pl}{W:List Wy}(h:Wd G T W){b:Bool}{i:Nat}{p:Pl}(e:(aw b G T)[i]?=some p):p.2.Perm (Kw b W i):=by
 cases b
 ·exact h.gl i p e
 ·exact h.tl i p e
theorem Wd.nod(h:Wd G T W)(b:Bool)(i:Int):(Kw b W i).Nodup:=by
 cases b
 ·exact jh h.wp i
 ·exact j4 h.wp i
theorem pw{tt:Dl.Env->Option Bool}{te:Dl.Env->Option D}{r:List (Option D)}{p:Nat->D->Bool}{h:Nat->D->D}:∀ {ds:List D}{k:Nat},
  (∀i d,ds[i]?=some d->tt (some (.int ((k+i:Nat):Int))::some d::r)=some (p (k+i) d)/\(p (k+i) d=true->te (some (.int ((k+i:Nat):Int))::some d::r)=some (h (k+i) d))) ->
  bS (fy 0 1) tt te (none::none::r) (bh k ds)=some (((ds.zipIdx k).filter fun q=>p q.2 q.1).map fun q=>h q.2 q.1)
 | [],k,_=>rfl
 | d::ds,k,hh=>by
  obtain⟨h1,h2⟩:=hh 0 d rfl
  have ih:=pw (ds:=ds) (k:=k+1) fun i x hx=>by
   have:=hh (i+1) x (by simpa using hx)
   rw[show k+1+i=k+(i+1) by omega]
   exact this
  have hg:fy 0 1 (none::none::r) (.tuple [.int ((k:Nat):Int),d])=some (some (.int ((k:Nat):Int))::some d::r):=by
   simp only[fy,isFree,xU,xB,qK,wI,jR,xK,yY,yZ]
  rw[bh,bS,hg,List.zipIdx_cons]
  simp only[Nat.add_zero] at h1 h2
  simp only[zC,h1]
  cases hp:p k d with
  | true=>simp[h2 hp,ih,hp]
  | false=>simp[ih,hp]
theorem B1{cs:List Nat}{fi:Dl.Env->Option (List D)}{tt:Dl.Env->Option Bool}{te:Dl.Env->Option D}{ρ:Dl.Env}{ds:List D}{p:Nat->D->Bool}{h:Nat->D->D}(hfi:fi ρ=some (bh 0 ds))(hl:ds.length<=1000)
  (hh:∀i d,ds[i]?=some d->tt (some (.int ((i:Nat):Int))::some d::cs.map fun j=>(ρ[j]?).getD none)=some (p i d)/\(p i d=true->te (some (.int ((i:Nat):Int))::some d::cs.map fun j=>(ρ[j]?).getD none)=some (h i d))) :
  aj 2 cs fi (fy 0 1) tt te ρ=some ((ds.zipIdx.filter fun q=>p q.2 q.1).map fun q=>h q.2 q.1):=by
 have:=pw (tt:=tt) (te:=te) (r:=cs.map fun j=>(ρ[j]?).getD none) (p:=p) (h:=h) (ds:=ds) (k:=0) (by simpa using hh)
 simp only[aj,hfi,zC,dz,List.replicate,xI,xR,this]
 refine aY ?_
 rw[zF]
 refine yF (xS _ _) ?_
 rw[List.length_zipIdx]
 omega
theorem gn(f:α->Int):∀ {l m:List α},l.Perm m->(l.Pairwise fun a b=>f a<=f b)->(m.Pairwise fun a b=>f a < f b)->l=m
 | l,[],hp,_,_=>hp.eq_nil
 | [],x::m,hp,_,_=>absurd hp.symm.eq_nil (by simp)
 | y::l,x::m,hp,h1,h2=>by
  rw[List.pairwise_cons] at h1 h2
  have e:y=x:=by
   have hx:x∈y::l:=hp.mem_iff.mpr zH
   rcases List.mem_cons.mp hx with z|hx
   ·exact z.symm
   ·have hy:y∈x::m:=hp.mem_iff.mp zH
    rcases List.mem_cons.mp hy with z|hy
    ·exact z
    ·have:=h1.1 x hx
     have:=h2.1 y hy
     omega
  subst e
  rw[gn f ((List.perm_cons y).mp hp) h1.2 h2.2]
theorem pC(z:Nat->Int)(l:List α)(d:α)(f:α->Int)(h:∀i,i < l.length->z i=f (l.getD i d)):(lx z l d).Pairwise fun a b=>f a<=f b:=by
 unfold lx
 split
 ·rename_i hl
  match l,hl with
  | [],_=>exact List.Pairwise.nil
  | [a],_=>exact vJ _ _
 ·rename_i hl
  obtain⟨hp,hs⟩:=SP.dY (z:=z) (n:=l.length) (by omega)
  rw[jH] at hs ⊢
  refine hs.imp_of_mem fun {i j} hi hj hij=>?_
  have hi':i < l.length:=by have:=hp.mem_iff.mp hi;simpa using this
  have hj':j < l.length:=by have:=hp.mem_iff.mp hj;simpa using this
  rw[<- h i hi',<- h j hj']
  exact hij
def aC(W:List Wy)(i:Nat):Wy:=W.getD i (0,0,0)
theorem gf(hk:k < W.length):W[k]=aC W k:=by simp[aC,hk]
theorem l4(hk:k < W.length):W[k]?=some (aC W k):=by rw[zN hk,gf hk]
def own(b:Bool)(W:List Wy)(p:Int):List Nat:=(List.range W.length).filter fun i=>decide (bf b (aC W i)=p)
def mX(b:Bool)(W:List Wy)(p o:Int):Nat:=W.findIdx fun w=>decide (bf b w=p)&&decide (bK b w=o)
def dS(b:Bool)(W:List Wy)(p:Int)(L:List Int):List Nat:=L.map (mX b W p)
theorem bX:i∈own b W p↔i < W.length/\bf b (aC W i)=p:=by simp[own]
theorem map_range(d:α)(f:α->β)(l:List α):(List.range l.length).map (fun i=>f (l.getD i d))=l.map f:=by
 apply jK
 ·simp
 ·intro i h1 h2
  have:i < l.length:=by simpa using h2
  simp[this]
theorem sX(d:α)(q:α->Bool):∀ (l:List α),((List.range l.length).filter fun i=>q (l.getD i d)).map (fun i=>l.getD i d)=l.filter q:=by
 intro l
 have e:l=(List.range l.length).map fun i=>l.getD i d:=by
  have:=map_range d (fun x=>x) l
  simp at this
  simpa using this.symm
 conv=>rhs;rw[e]
 rw[kK]
 rfl
theorem jm(b:Bool)(W:List Wy)(p:Int):(own b W p).map (fun i=>bK b (aC W i))=Kw b W p:=by
 unfold own Kw aC
 rw[<- sX (0,0,0) (fun w=>decide (bf b w=p)) W,zP]
 rfl
theorem rZ(h:r6 W)(hi:i < W.length)(hj:j < W.length)(h1:(aC W i).1=(aC W j).1)(h2:(aC W i).2.1=(aC W j).2.1):i=j:=by
 have e:∀k,k < W.length->W[k]?=some (aC W k):=fun k hk=>by simp[aC,hk]
 rcases Nat.lt_trichotomy i j with z|z|z
 ·have:=List.pairwise_iff_getElem.mp h i j hi hj z
  have a:=e i hi
  have b:=e j hj
  rw[zN hi] at a
  rw[zN hj] at b
  rw[xG a,xG b] at this
  rcases this with z|z<;>omega
 ·exact z
 ·have:=List.pairwise_iff_getElem.mp h j i hj hi z
  have a:=e i hi
  have b:=e j hj
  rw[zN hi] at a
  rw[zN hj] at b
  rw[xG a,xG b] at this
  rcases this with z|z<;>omega
theorem vm(h:r6 W)(hi:i < W.length)(hj:j < W.length)(h1:bf b (aC W i)=bf b (aC W j))(h2:bK b (aC W i)=bK b (aC W j)):i=j:=by
 cases b
 ·exact rZ h hi hj h1 h2
 ·exact rZ h hi hj h2 h1
theorem rX(h:r6 W)(hi:i∈own b W p):mX b W p (bK b (aC W i))=i:=by
 obtain⟨hl,he⟩:=bX.mp hi
 have hw:W[i]=aC W i:=by simp[aC,hl]
 unfold mX
 have hlt:W.findIdx (fun w=>decide (bf b w=p)&&decide (bK b w=bK b (aC W i))) < W.length:=by
  apply kN
  exact⟨W[i],qD _,by rw[hw];simp[he]⟩
 have hq:=List.findIdx_getElem (w:=hlt)
 rw[zI,zM,zM] at hq
 rw[gf hlt] at hq
 exact vm h hlt hl (by rw[hq.1,he]) hq.2
theorem et{G T:List Pl}{W:List Wy}(h:Wd G T W){b:Bool}{i:Nat}(e:(aw b G T)[i]?=some p):(dS b W i p.2).Perm (own b W i):=by
 have h1:=(h.lik e).map (mX b W i)
 rw[<- jm b W i,zP] at h1
 have e2:(own b W i).map (mX b W i ∘ fun j=>bK b (aC W j))=own b W i:=by
  conv=>rhs;rw[<- List.map_id (own b W i)]
  exact yK fun j hj=>rX h.wp hj
 rw[e2] at h1
 exact h1
theorem jq{G T:List Pl}{W:List Wy}(h:Wd G T W){b:Bool}{i:Nat}{p:Pl}(e:(aw b G T)[i]?=some p){o:Int}(ho:o∈p.2):mX b W i o < W.length/\bf b (aC W (mX b W i o))=i/\bK b (aC W (mX b W i o))=o:=by
 have hm:=(h.lik e).mem_iff.mp ho
 rw[<- jm b W i] at hm
 obtain⟨j,hj,rfl⟩:=List.mem_map.mp hm
 rw[rX h.wp hj]
 obtain⟨h1,h2⟩:=bX.mp hj
 exact⟨h1,h2,rfl⟩
def kD(b:Bool)(W:List Wy)(L:List Int)(d:D):Int:=(L.findIdx fun o=>decide (o=bK b (aC W (gV d).toNat)):Nat)
theorem m7:∀ {L:List Int}{x:Int},x∈L->ur x L=some (L.findIdx fun o=>decide (o=x))
 | [],x,h=>by cases h
 | o::L,x,h=>by
  unfold ur
  by_cases e:o=x
  ·simp[e,vD]
  ·rw[yQ e]
   have hx:x∈L:=(List.mem_cons.mp h).resolve_left fun z=>e z.symm
   rw[m7 hx]
   simp[vD,e]
theorem E6{G T:List Pl}{W:List Wy}(h:Wd G T W){b:Bool}{i:Nat}{p:Pl}(e:(aw b G T)[i]?=some p)(z:Nat->Int)(hz:∀j,j < (own b W i).length->z j=kD b W p.2 (((own b W i).map fun n=>PyData.int ((n:Nat):Int)).getD j .none)) :
  lx z ((own b W i).map fun n=>PyData.int ((n:Nat):Int)) .none=(dS b W i p.2).map fun n=>PyData.int ((n:Nat):Int):=by
 refine gn (kD b W p.2) ((c4 _ _ _).trans ((et h e).symm.map _)) (pC z _ _ _ fun j hj=>hz j (by simpa using hj)) ?_
 have hn:p.2.Nodup:=(h.lik e).nodup_iff.mpr (h.nod b i)
 unfold dS
 rw[zP,jH]
 have key:∀k (hk:k < p.2.length),kD b W p.2 (PyData.int ((mX b W i p.2[k]:Nat):Int))=(k:Nat):=fun k hk=>by
  obtain⟨_,_,e3⟩:=jq h e (qD hk)
  unfold kD
  simp only[gV,yI,e3]
  congr 1
  rw[List.findIdx_eq (by exact hk)]
  refine⟨by simp,fun j hj=>?_⟩
  have:=List.pairwise_iff_getElem.mp hn j k (by omega) hk hj
  simpa using this
 refine List.pairwise_iff_getElem.mpr fun j k hj hk hjk=>?_
 show kD b W p.2 (PyData.int ((mX b W i p.2[j]:Nat):Int)) < kD b W p.2 (PyData.int ((mX b W i p.2[k]:Nat):Int))
 rw[key j hj,key k hk]
 omega
abbrev nD(n:Nat):D:=.int ((n:Nat):Int)
theorem mN:∀ {ds:List D},(∀d∈ds,te (ρ.set 0 (some d))=some (h d))->gT te ρ ds=some (ds.map h)
 | [],_=>rfl
 | d::ds,hh=>by
  unfold gT
  rw[hh d zH,zC,mN fun x hx=>hh x (zE _ hx)]
  rfl
theorem so(b:Bool)(W:List Wy)(p:Int):(own b W p).length<=W.length:=by
 unfold own
 refine yF (xS _ _) ?_
 rw[zU]
 exact yP _
theorem yo(b:Bool)(W:List Wy)(p:Int):(((W.map aq).zipIdx.filter fun q=>decide (bf b (aC W q.2)=p)).map fun q=>nD q.2)=(own b W p).map nD:=by
 have e:(W.map aq).zipIdx=(List.range W.length).map fun i=>(aq (aC W i),i):=by
  apply jK
  ·simp
  ·intro i h1 h2
   have:i < W.length:=by simpa using h2
   simp[gf this]
 rw[e,kK,zP]
 rfl
theorem rq(h:Wd G T W)(e:(aw b G T)[i]?=some p):gR [ax G T W,.int (sI b),nD i]=some (.list ((dS b W i p.2).map nD)):=by
 have hw:=h.wl
 have ep:ao (.tuple ((aw b G T).map aF)) (nD i)=some (aF p):=k8 e
 have hl:=so b W i
 have t3:Dl.aB 3 [0] (f2 ao (ab 0) (fC (.int 2))) [.val (ax G T W),.val (.int (sI b)),.val (nD i),.non,.non,.non]=some (.nx [.val (ax G T W),.val (.int (sI b)),.val (nD i),.val (.tuple (W.map aq)),.non,.non]) :=
  bO (d:=.tuple (W.map aq)) rfl rfl rfl rfl
 have t4:Dl.aB 4 [0,1,2] (f2 ao (f2 ao (f2 ao (ab 0) (ab 1)) (ab 2)) (fC (.int 1))) [.val (ax G T W),.val (.int (sI b)),.val (nD i),.val (.tuple (W.map aq)),.non,.non]=some (.nx [.val (ax G T W),.val (.int (sI b)),.val (nD i),.val (.tuple (W.map aq)),.val (ag p.2),.non]):=by
  refine bO (d:=ag p.2) ?_ rfl rfl rfl
  rw[iD (a:=aF p) (b:=.int 1) ?_ rfl,Gh]
  rw[iD (a:=.tuple ((aw b G T).map aF)) (b:=nD i) ?_ rfl,ep]
  rw[iD (a:=ax G T W) (b:=.int (sI b)) rfl rfl,dW]
 have c5:aj 2 [1,2] (bc (aa (ab 3) ae)) (fy 0 1) (fB (f2 bC (f2 ao (ab 1) (ab 2)) (ab 3))) (ab 0) [some (ax G T W),some (.int (sI b)),some (nD i),some (.tuple (W.map aq)),some (ag p.2),none]=some ((own b W i).map nD):=by
  rw[B1 (ds:=W.map aq) (p:=fun j _=>decide (bf b (aC W j)=i)) (h:=fun j _=>nD j) rfl (by rw[zF];omega) fun j d hd=>?_,yo]
  rw[zR] at hd
  obtain⟨w,hw',rfl⟩:=Dl.af hd
  have hj:j < W.length:=(List.getElem?_eq_some_iff.mp hw').1
  rw[l4 hj] at hw'
  cases hw'
  refine⟨?_,fun _=>rfl⟩
  show fB (f2 bC (f2 ao (ab 1) (ab 2)) (ab 3)) [some (nD j),some (aq (aC W j)),some (.int (sI b)),some (nD i)]=_
  simp only[fB]
  rw[iD (a:=.int (bf b (aC W j))) (b:=nD i) (by rw[iD (a:=aq (aC W j)) (b:=.int (sI b)) rfl rfl,n6]) rfl,dk]
  rfl
 have t5:aL 5 [1,2,3] (aj 2 [1,2] (bc (aa (ab 3) ae)) (fy 0 1) (fB (f2 bC (f2 ao (ab 1) (ab 2)) (ab 3))) (ab 0)) [.val (ax G T W),.val (.int (sI b)),.val (nD i),.val (.tuple (W.map aq)),.val (ag p.2),.non]=some (.nx [.val (ax G T W),.val (.int (sI b)),.val (nD i),.val (.tuple (W.map aq)),.val (ag p.2),.own ((own b W i).map nD)]):=by
  have hh:hand [1,2,3] 0 [Slot.val (ax G T W),.val (.int (sI b)),.val (nD i),.val (.tuple (W.map aq)),.val (ag p.2),.non]=[Slot.val (ax G T W),.val (.int (sI b)),.val (nD i),.val (.tuple (W.map aq)),.val (ag p.2),.non]:=rfl
  simp only[aL,hh,bx,zL,yX,Slot.frz,c5,zD,yZ,yY]
 have hk:gT (f2 nU (ab 3) (f2 ao (f2 ao (ab 2) (ab 0)) (f2 Dl.dv (fC (.int 1)) (ab 1)))) [none,some (.int (sI b)),some (.tuple (W.map aq)),some (ag p.2)] ((own b W i).map nD)=some (((own b W i).map nD).map fun d=>.int (kD b W p.2 d)):=by
  refine mN fun d hd=>?_
  obtain⟨j,hj,rfl⟩:=List.mem_map.mp hd
  obtain⟨hjl,hje⟩:=bX.mp hj
  show f2 nU (ab 3) (f2 ao (f2 ao (ab 2) (ab 0)) (f2 Dl.dv (fC (.int 1)) (ab 1))) [some (nD j),some (.int (sI b)),some (.tuple (W.map aq)),some (ag p.2)]=_
  have ew:ao (.tuple (W.map aq)) (nD j)=some (aq (aC W j)):=k8 (l4 hjl)
  rw[iD (a:=ag p.2) (b:=.int (bK b (aC W j))) rfl ?_]
  ·have hm:bK b (aC W j)∈p.2:=(h.lik e).mem_iff.mpr (by rw[<- jm];exact List.mem_map.mpr ⟨j,hj,rfl⟩)
   simp only[nU,ag,cq,zC,m7 hm,zD,kD,gV,yI]
   all_goals first|rfl|(congr 3;funext o;congr)
  ·rw[iD (a:=aq (aC W j)) (b:=.int (1 - sI b)) ?_ ?_,Hi]
   ·rw[iD (a:=.tuple (W.map aq)) (b:=nD j) rfl rfl,ew]
   ·rw[iD (a:=.int 1) (b:=.int (sI b)) rfl rfl,eV]
 have hi:intsOf (((own b W i).map nD).map fun d=>PyData.int (kD b W p.2 d))=some (((own b W i).map nD).map (kD b W p.2)):=by
  rw[show (((own b W i).map nD).map fun d=>PyData.int (kD b W p.2 d))=(((own b W i).map nD).map (kD b W p.2)).map PyData.int by simp only[zP];rfl,cq]
 have t6:aJ (bT (mY [1,3,4] (ab 5) (f2 nU (ab 3) (f2 ao (f2 ao (ab 2) (ab 0)) (f2 Dl.dv (fC (.int 1)) (ab 1)))))) [.val (ax G T W),.val (.int (sI b)),.val (nD i),.val (.tuple (W.map aq)),.val (ag p.2),.own ((own b W i).map nD)]=some (.rt (.list ((dS b W i p.2).map nD))):=by
  have es:mY [1,3,4] (ab 5) (f2 nU (ab 3) (f2 ao (f2 ao (ab 2) (ab 0)) (f2 Dl.dv (fC (.int 1)) (ab 1)))) [some (ax G T W),some (.int (sI b)),some (nD i),some (.tuple (W.map aq)),some (ag p.2),some (.list ((own b W i).map nD))]=some ((dS b W i p.2).map nD):=by
   unfold mY
   show (gT _ [none,some (.int (sI b)),some (.tuple (W.map aq)),some (ag p.2)] ((own b W i).map nD)).bind _=_
   rw[hk,zC,hi,zC,yO (by rw[zF];omega),E6 h e _ fun j hj=>?_]
   simp[hj]
  simp only[aJ,aS,zL,yX,sr,tQ,bT,es,zD]
 refine aN ?_
 show my [.val (ax G T W),.val (.int (sI b)),.val (nD i),.non,.non,.non]=_
 unfold my
 rw[ai t3,ai t4,ai t5,t6]
local macro_rules|`(tactic| dsimp! [$ts,*])=>`(tactic| simp only[ab,fC,f1,f2,aa,ae,ah,aX,fF,aQ,fN,bT,fB,gB,bA,nL,mz,bc,aS,bx,sr,tQ,AG,zi,Aa,AL,zL,yX,xU,xB,zC,zD,qK,zO,xO,Nat.reduceAdd,jG,reduceIte,yZ,yY,$ts,*])
theorem lQ(R:S->ar->Prop)(f:α->D)(st:S->α->S):∀ {l:List α}{s:S}{ρ:ar},
  (∀s ρ x,x∈l->R s ρ->∃ρ1 ρ2,tgt ρ (f x)=some ρ1/\gb ρ1=some (.nx ρ2)/\R (st s x) ρ2)->R s ρ->∃ρ',eE tgt gb (l.map f) ρ=some (.nx ρ')/\R (l.foldl st s) ρ'
 | [],s,ρ,_,h=>⟨ρ,rfl,h⟩
 | d::ds,s,ρ,hh,h=>by
  obtain⟨ρ1,ρ2,e1,e2,h2⟩:=hh s ρ d zH h
  obtain⟨ρ',e3,h3⟩:=lQ R f st (fun s ρ x hx=>hh s ρ x (zE _ hx)) h2
  refine⟨ρ',?_,h3⟩
  rw[zL,eE,e1,zC,e2]
  exact e3
theorem ku(R:ar->Prop)(f:α->D)(q:α->Bool)(out:α->D):∀ {l:List α}{ρ:ar},
  (∀ρ x,x∈l->R ρ->∃ρ1,tgt ρ (f x)=some ρ1/\(q x=true->gb ρ1=some (.rt (out x)))/\(q x=false->∃ρ2,gb ρ1=some (.nx ρ2)/\R ρ2))->R ρ ->
  (∀x,l.find? q=some x->eE tgt gb (l.map f) ρ=some (.rt (out x)))/\(l.find? q=none->∃ρ',eE tgt gb (l.map f) ρ=some (.nx ρ')/\R ρ')
 | [],ρ,_,h=>⟨fun x hx=>(by cases hx),fun _=>⟨ρ,rfl,h⟩⟩
 | x::l,ρ,hh,h=>by
  obtain⟨ρ1,e1,e2,e3⟩:=hh ρ x zH h
  rw[zL,eE,e1,zC]
  cases hq:q x with
  | true =>
   rw[List.find?_cons_of_pos (by simpa using hq),e2 hq]
   exact⟨fun y hy=>(by cases hy;rfl),fun hn=>(by cases hn)⟩
  | false =>
   obtain⟨ρ2,e4,h2⟩:=e3 hq
   rw[List.find?_cons_of_neg (by simp[hq]),e4]
   exact ku R f q out (fun ρ x hx=>hh ρ x (zE _ hx)) h2
theorem c6(h:eE tgt gb ds ρ1=o)(hi:fi (bx ρ1)=some ds)(hh:hand fz 0 ρ=ρ1):cA fz fi tgt gb ρ=o:=by
 simp only[cA,hh,hi,zC,h]
theorem sP(hh:hand fz 0 ρ=ρ')(hf:f (bx ρ')=some ds):aL i fz f ρ=some (.nx (ρ'.set i (.own ds))):=by
 simp only[aL,hh,hf,zD]
theorem gE(hf:f (bx ρ)=some ds)(hh:hand fz 0 ρ=ρ):aL i fz f ρ=some (.nx (ρ.set i (.own ds))):=sP hh hf
theorem o9(hh:hand fz 0 ρ=ρ')(hA:f (aS ρ)=some d)(hF:f (bx ρ')=some d)(hs:Dl.l6 d=false)(hr:bQ d=false\/ρ'=ρ:=by first|exact .inr rfl|exact .inl rfl):Dl.aB i fz f ρ=some (.nx (ρ'.set i (.val d))):=by
 rcases hr with hr|hr
 ·simp only[Dl.aB,hA,zC,hs,yR,qT,hh,hF,zD,hr]
 ·subst hr
  simp only[Dl.aB,hA,zC,hs,yR,qT,hh,hF,zD,ite_self]
theorem call_of(h:m ds=some d)(hf:fs ρ=some ds)(hn:ds.length=n):ah n m fs ρ=some d:=by
 unfold ah
 rw[hf,zC,yO hn,h]
theorem cons_of(h:f ρ=some d)(hs:fs ρ=some ds):aa f fs ρ=some (d::ds):=by
 unfold aa
 rw[h,hs]
 rfl
theorem aU(hf:f (aS ρ)=some d):aJ f ρ=some (.rt d):=by
 simp only[aJ,hf,zD]
theorem cU(hf:f (aS ρ)=some d):gZ f ρ=some (.nx ρ):=by
 simp only[gZ,hf,zD]
theorem dh(h:t (aS ρ)=some false):fH t g fQ ρ=some (.nx ρ):=by
 simp[fH,h,fQ]
theorem fS(h:t (aS ρ)=some true):fH t g g2 ρ=g ρ:=by
 simp[fH,h]
theorem k9(h:g1 ρ=some (.rt d)):av g1 g2 ρ=some (.rt d):=by
 simp only[av,h,zC]
theorem BJ(hf:f (aS ρ)=some d)(hs:Dl.l6 d=true)(hk:fk (aS ρ)=some (nD k))(ho:ρ[i]?=some (.own ds))(hl:k < ds.length):iW i fz fk f ρ=some (.nx (ρ.set i (.own (ds.set k d)))):=by
 have hx:wa ds.length ((k:Nat):Int)=some k:=by
  unfold wa
  rw[yO (Int.natCast_nonneg k),yO (by omega)]
  simp
 simp only[iW,fO,hf,zC,hs,xK,hk,mi,ho,hx,zD]
def lp(cont:S->Bool)(st:S->S):Nat->S->S
 | 0,s=>s
 | n+1,s=>if cont s=true then lp cont st n (st s) else s
theorem uq(R:S->ar->Prop)(cont:S->Bool)(st:S->S)(μ:S->Nat)
  (ht:∀s ρ,R s ρ->t (aS ρ)=some (cont s)) (hb:∀s ρ,R s ρ->cont s=true->∃ρ',gb ρ=some (.nx ρ')/\R (st s) ρ'/\μ (st s) < μ s) :
  ∀ (n:Nat) (s:S) (ρ:ar),μ s < n->R s ρ->∃ρ',Gg t gb n ρ=some (.nx ρ')/\R (lp cont st n s) ρ'/\cont (lp cont st n s)=false
 | 0,s,ρ,h,_=>absurd h (by omega)
 | n+1,s,ρ,h,r=>by
  rw[Gg,ht s ρ r,zC,lp]
  cases hc:cont s with
  | false=>exact⟨ρ,by simp,by simpa [hc] using r,by simpa [hc] using hc⟩
  | true =>
   obtain⟨ρ',e,r',hm⟩:=hb s ρ r hc
   obtain⟨ρ2,e2,r2,c2⟩:=uq R cont st μ ht hb n (st s) ρ' (by omega) r'
   refine⟨ρ2,?_,by simpa [hc] using r2,by simpa [hc] using c2⟩
   simp only[xK,e,zC]
   exact e2
theorem oJ{off:List Int}(h:i < off.length):ao (ag off) (nD i)=some (.int (off.getD i 0)):=k8 (f:=PyData.int) (l:=off) (by simp[h])
theorem sN{off:List Int}(h:i < off.length):ao (.list (off.map PyData.int)) (nD i)=some (.int (off.getD i 0)):=Fb (f:=PyData.int) (l:=off) (by simp[h])
theorem mP(h:i < W.length):ao (.tuple (W.map aq)) (nD i)=some (aq (aC W i)):=k8 (l4 h)
theorem Mq(a b c:Int):qb [.int a,.int b,.int c]=some (.int (min (min a b) c)):=rfl
theorem oa(l:List Int)(k:Nat)(v:Int):(l.map PyData.int).set k (.int v)=(l.set k v).map PyData.int:=by rw[List.map_set]
theorem mv(l:List Int):aK [.list (l.map PyData.int)]=some (ag l):=rfl
theorem xo(l:List D):aK [.list l]=some (.tuple l):=rfl
theorem AW(l:List D):bo [.tuple l]=some (nD l.length):=rfl
theorem GI(l:List Int):bo [ag l]=some (nD l.length):=by
 show some (PyData.int ((l.map PyData.int).length:Nat))=_
 rw[zF]
theorem BH(h:n<=1000):kq [nD n]=some ((List.range n).map nD):=by
 rw[ub (og h),yI]
theorem pf(h:fs ρ=some [nD n])(hn:n<=1000):bq fs ρ=some ((List.range n).map nD):=by
 unfold bq
 rw[h,zC,BH hn]
theorem sub_int(i j:Int):Dl.dv (.int i) (.int j)=some (.int (i - j)):=eV i j
theorem zeros(hfi:fi ρ=some ds)(hl:ds.length<=1000):aj 1 [] fi (fG 0) (fun _=>some true) (fC (.int 0)) ρ=some ((List.replicate ds.length (0:Int)).map PyData.int):=by
 rw[bM (h:=fun _=>.int 0) hfi (by omega) fun d hd=>rfl]
 simp[List.map_const']
theorem D0(h1:uY k=true)(h2:ds.length * k.toNat<=sizeLine):AN ds (.int k)=some (List.replicate k.toNat ds).flatten:=by
 simp only[AN]
 rw[yO (And.intro h1 h2)]
theorem C2:∀n,(List.replicate n [PyData.int 0]).flatten=(List.replicate n (0:Int)).map PyData.int
 | 0=>rfl
 | n+1=>by rw[xH,qQ,C2 n,xH];rfl
theorem BG(hl:n<=1000):AN [.int 0] (nD n)=some ((List.replicate n (0:Int)).map PyData.int):=by
 rw[D0 (og hl),yI,C2]
 rw[yI,xF,Nat.one_mul]
 exact yF hl (by decide)
theorem Mh(ρ:Dl.Env):cF (aa (fC (.int 0)) ae) ρ=some [.int 0]:=by
 simp only[cF,aa,fC,ae,zC,zD]
 exact aY (by simp)
theorem E3(hf:f ρ=some (nD n))(hl:n<=1000):nu (cF (aa (fC (.int 0)) ae)) f ρ=some ((List.replicate n (0:Int)).map PyData.int):=by
 have e:=BG hl
 unfold nu
 rw[Mh,zC,hf,zC,e]
theorem rM:∀ (a b:List Int),bS (fy 0 1) (fun _=>some true) (f2 aR (ab 0) (ab 1)) (none::none::r) (iR (a.map PyData.int) (b.map PyData.int))=some ((List.zipWith (·+·) a b).map PyData.int)
 | [],b=>by cases b<;>rfl
 | x::a,[]=>rfl
 | x::a,y::b=>by
  have ih:=rM (r:=r) a b
  have hg:fy 0 1 (none::none::r) (.tuple [.int x,.int y])=some (some (.int x)::some (.int y)::r):=by
   simp only[fy,isFree,xU,xB,qK,wI,jR,xK,yY,yZ]
  rw[zL,zL,iR,bS,hg,zC]
  dsimp! [gQ,ih,List.zipWith_cons_cons]
theorem CO(hfi:fi ρ=some (iR (a.map PyData.int) (b.map PyData.int)))(hl:a.length<=1000) :
  aj 2 [] fi (fy 0 1) (fun _=>some true) (f2 aR (ab 0) (ab 1)) ρ=some ((List.zipWith (·+·) a b).map PyData.int):=by
 have:=rM (r:=[]) a b
 simp only[aj,hfi,zC,dz,List.replicate,yX,qJ,this]
 refine aY ?_
 rw[zF,List.length_zipWith]
 omega
def cV(W:List Wy)(off:List Int)(left:Int)(i:Nat):Int:=min (min (off.getD i 0) (aC W i).2.2) left
def lA(W:List Wy)(off:List Int)(s:Int×List Int)(i:Nat):Int×List Int:=(s.1 - cV W off s.1 i,s.2.set i (cV W off s.1 i))
def nV(W:List Wy)(off:List Int)(amt:Int)(is:List Nat):List Int:=(is.foldl (lA W off) (amt,List.replicate W.length 0)).2
theorem Az(W:List Wy)(off:List Int):∀ (is:List Nat) (s:Int×List Int),(is.foldl (lA W off) s).2.length=s.2.length
 | [],s=>rfl
 | i::is,s=>by rw[yL,Az W off is];simp[lA]
theorem oe(W:List Wy)(off:List Int)(amt:Int)(is:List Nat):(nV W off amt is).length=W.length:=by rw[nV,Az];simp
theorem KW{W:List Wy}(e:(aw b G T)[i]?=some p):ao (.tuple ((aw b G T).map aF)) (nD i)=some (aF p):=k8 e
theorem J5{off:List Int}(hi:i < W.length)(ho:off.length=W.length)(hs:s.2.length=W.length) :
  (av (iW 4 [0,3,5,6] (ab 6) (aX qb (aa (f2 ao (ab 3) (ab 6)) (aa (f2 ao (f2 ao (f2 ao (ab 0) (fC (.int 2))) (ab 6)) (fC (.int 2))) (aa (ab 5) ae))))) (Dl.aB 5 [4,5,6] (f2 Dl.dv (ab 5) (f2 ao (ab 4) (ab 6))))) [.val (ax G T W),.val d1,.val d2,.val (ag off),.own (s.2.map PyData.int),.val (.int s.1),.val (nD i)]=some (.nx [.val (ax G T W),.val d1,.val d2,.val (ag off),.own ((lA W off s i).2.map PyData.int),.val (.int (lA W off s i).1),.val (nD i)]):=by
 have hv:(aX qb (aa (f2 ao (ab 3) (ab 6)) (aa (f2 ao (f2 ao (f2 ao (ab 0) (fC (.int 2))) (ab 6)) (fC (.int 2))) (aa (ab 5) ae)))) (aS [.val (ax G T W),.val d1,.val d2,.val (ag off),.own (s.2.map PyData.int),.val (.int s.1),.val (nD i)])=some (.int (cV W off s.1 i)):=by
  dsimp! [oJ (show i < off.length by omega),gW,mP hi,AY,Mq,cV]
 have t1:=BJ (i:=4) (fz:=[0,3,5,6]) (fk:=ab 6) (k:=i) (ds:=s.2.map PyData.int) hv rfl rfl rfl (by rw[zF];omega)
 rw[oa] at t1
 rw[ai t1]
 have hl:i < (s.2.set i (cV W off s.1 i)).length:=by rw[yE];omega
 have hg:(s.2.set i (cV W off s.1 i)).getD i 0=cV W off s.1 i:=by
  have:i < s.2.length:=by omega
  simp[this]
 have hv2:(f2 Dl.dv (ab 5) (f2 ao (ab 4) (ab 6))) (aS ([.val (ax G T W),.val d1,.val d2,.val (ag off),.own (s.2.map PyData.int),.val (.int s.1),.val (nD i)].set 4 (.own ((s.2.set i (cV W off s.1 i)).map PyData.int))))=some (.int (lA W off s i).1):=by
  dsimp! [sN hl,sub_int,hg,lA]
 rw[cX hv2 rfl]
 rfl
theorem iH{off:List Int}(h:Wd G T W)(ho:off.length=W.length)(e:(aw b G T)[i]?=some p) :
  cY [ax G T W,.int (sI b),nD i,ag off]=some (ag (nV W off p.1 (dS b W i p.2))):=by
 have hw:W.length<=16:=h.wl
 have t4:aL 4 [0] (aj 1 [] (aQ (f2 ao (ab 0) (fC (.int 2)))) (fG 0) (fun _=>some true) (fC (.int 0))) [.val (ax G T W),.val (.int (sI b)),.val (nD i),.val (ag off),.non,.non,.non]=some (.nx [.val (ax G T W),.val (.int (sI b)),.val (nD i),.val (ag off),.own ((List.replicate W.length (0:Int)).map PyData.int),.non,.non]):=by
  have z:=zeros (fi:=aQ (f2 ao (ab 0) (fC (.int 2)))) (ρ:=bx [.val (ax G T W),.val (.int (sI b)),.val (nD i),.val (ag off),.non,.non,.non]) (ds:=W.map aq) rfl (by rw[zF];omega)
  rw[zF] at z
  exact sP rfl z
 have t5:Dl.aB 5 [0,1,2] (f2 ao (f2 ao (f2 ao (ab 0) (ab 1)) (ab 2)) (fC (.int 0))) [.val (ax G T W),.val (.int (sI b)),.val (nD i),.val (ag off),.own ((List.replicate W.length (0:Int)).map PyData.int),.non,.non]=some (.nx [.val (ax G T W),.val (.int (sI b)),.val (nD i),.val (ag off),.own ((List.replicate W.length (0:Int)).map PyData.int),.val (.int p.1),.non]) :=
  cX (d:=.int p.1) (by dsimp! [dW,KW (W:=W) e,Fs]) rfl
 obtain⟨ρ',e3,hs',x,rfl⟩:=lQ (tgt:=pW 6) (gb:=(av (iW 4 [0,3,5,6] (ab 6) (aX qb (aa (f2 ao (ab 3) (ab 6)) (aa (f2 ao (f2 ao (f2 ao (ab 0) (fC (.int 2))) (ab 6)) (fC (.int 2))) (aa (ab 5) ae))))) (Dl.aB 5 [4,5,6] (f2 Dl.dv (ab 5) (f2 ao (ab 4) (ab 6)))))) (R:=fun s ρ=>s.2.length=W.length/\∃x,ρ=[.val (ax G T W),.val (.int (sI b)),.val (nD i),.val (ag off),.own (s.2.map PyData.int),.val (.int s.1),x]) nD (lA W off)
  (l:=dS b W i p.2) (s:=(p.1,List.replicate W.length (0:Int))) (ρ:=[.val (ax G T W),.val (.int (sI b)),.val (nD i),.val (ag off),.own ((List.replicate W.length (0:Int)).map PyData.int),.val (.int p.1),.non])
  (fun s ρ j hj ⟨hs,x,hρ⟩=>by
   subst hρ
   obtain⟨hjl,_⟩:=bX.mp ((et h e).mem_iff.mp hj)
   refine⟨_,_,rfl,J5 hjl ho hs,?_,.val (nD j),rfl⟩
   simp[lA,hs]) ⟨by simp,_,rfl⟩
 refine aN ?_
 show jf [.val (ax G T W),.val (.int (sI b)),.val (nD i),.val (ag off),.non,.non,.non]=_
 unfold jf
 rw[ai t4,ai t5,ai (c6 e3 (by dsimp! [rq h e]) rfl)]
 exact aU rfl
def bu(b:Bool)(G T:List Pl)(i:Nat):Pl:=(aw b G T).getD i (0,[])
def uF(b:Bool)(G T:List Pl)(W:List Wy)(off s:List Int)(i:Nat):List Int:=List.zipWith (·+·) s (nV W off (bu b G T i).1 (dS b W i (bu b G T i).2))
def bW(b:Bool)(G T:List Pl)(W:List Wy)(off:List Int):List Int:=(List.range (aw b G T).length).foldl (uF b G T W off) (List.replicate W.length 0)
theorem eX(h:i < (aw b G T).length):(aw b G T)[i]?=some (bu b G T i):=by simp[bu,h]
theorem nW{off:List Int}(h:s.length=W.length):(uF b G T W off s i).length=W.length:=by
 unfold uF
 rw[List.length_zipWith,oe,h,Nat.min_self]
theorem j5(R:S->Prop):∀ {l:List α}{s:S},(∀s x,x∈l->R s->R (f s x))->R s->R (l.foldl f s)
 | [],s,_,h=>h
 | x::l,s,hh,h=>by
  rw[yL]
  exact j5 (l:=l) R (fun s y hy=>hh s y (zE _ hy)) (hh s x zH h)
theorem mq(b:Bool)(G T:List Pl)(W:List Wy)(off:List Int):(bW b G T W off).length=W.length :=
 j5 (fun s:List Int=>s.length=W.length) (fun s i _ h=>nW h) (by simp)
theorem Wd.pl(h:Wd G T W)(b:Bool):(aw b G T).length<=4:=by
 cases b
 ·exact h.g4
 ·exact h.t4
def NM:ar->Option Out:=(av (Dl.aB 5 [0,1,2,4] (ah 4 cY (aa (ab 0) (aa (ab 1) (aa (ab 4) (aa (ab 2) ae)))))) (aL 3 [3,5] (aj 2 [] (gN (aa (ab 3) (aa (ab 5) ae))) (fy 0 1) (fun _=>some true) (f2 aR (ab 0) (ab 1)))))
theorem eB{off:List Int}(h:Wd G T W)(ho:off.length=W.length)(b:Bool) :
  br [ax G T W,.int (sI b),ag off]=some (ag (bW b G T W off)):=by
 have hw:W.length<=16:=h.wl
 have hp:=h.pl b
 have t3:aL 3 [0] (aj 1 [] (aQ (f2 ao (ab 0) (fC (.int 2)))) (fG 0) (fun _=>some true) (fC (.int 0))) [.val (ax G T W),.val (.int (sI b)),.val (ag off),.non,.non,.non]=some (.nx [.val (ax G T W),.val (.int (sI b)),.val (ag off),.own ((List.replicate W.length (0:Int)).map PyData.int),.non,.non]):=by
  have z:=zeros (fi:=aQ (f2 ao (ab 0) (fC (.int 2)))) (ρ:=bx [.val (ax G T W),.val (.int (sI b)),.val (ag off),.non,.non,.non]) (ds:=W.map aq) rfl (by rw[zF];omega)
  rw[zF] at z
  exact gE z rfl
 obtain⟨ρ',e3,hs',x,y,rfl⟩:=lQ (tgt:=pW 4) (gb:=NM) (R:=fun s ρ=>s.length=W.length/\∃x y,ρ=[.val (ax G T W),.val (.int (sI b)),.val (ag off),.own (s.map PyData.int),x,y]) nD (uF b G T W off)
  (l:=List.range (aw b G T).length) (s:=List.replicate W.length (0:Int)) (ρ:=[.val (ax G T W),.val (.int (sI b)),.val (ag off),.own ((List.replicate W.length (0:Int)).map PyData.int),.non,.non])
  (fun s ρ i hi ⟨hs,x,y,hρ⟩=>by
   subst hρ
   have ei:=eX (List.mem_range.mp hi)
   have t1:Dl.aB 5 [0,1,2,4] (ah 4 cY (aa (ab 0) (aa (ab 1) (aa (ab 4) (aa (ab 2) ae))))) [.val (ax G T W),.val (.int (sI b)),.val (ag off),.own (s.map PyData.int),.val (nD i),y]=some (.nx [.val (ax G T W),.val (.int (sI b)),.val (ag off),.own (s.map PyData.int),.val (nD i),.val (ag (nV W off (bu b G T i).1 (dS b W i (bu b G T i).2)))]):=by
    refine o9 (ρ':=[.val (ax G T W),.val (.int (sI b)),.val (ag off),.own (s.map PyData.int),.val (nD i),y]) rfl (d:=ag (nV W off (bu b G T i).1 (dS b W i (bu b G T i).2))) ?_ ?_ rfl
    ·dsimp! [iH h ho ei]
    ·dsimp! [iH h ho ei]
   have t2:aL 3 [3,5] (aj 2 [] (gN (aa (ab 3) (aa (ab 5) ae))) (fy 0 1) (fun _=>some true) (f2 aR (ab 0) (ab 1))) [.val (ax G T W),.val (.int (sI b)),.val (ag off),.own (s.map PyData.int),.val (nD i),.val (ag (nV W off (bu b G T i).1 (dS b W i (bu b G T i).2)))]=some (.nx [.val (ax G T W),.val (.int (sI b)),.val (ag off),.own ((uF b G T W off s i).map PyData.int),.val (nD i),.val (ag (nV W off (bu b G T i).1 (dS b W i (bu b G T i).2)))]):=by
    refine sP (ρ':=[.val (ax G T W),.val (.int (sI b)),.val (ag off),.val (.list (s.map PyData.int)),.val (nD i),.val (ag (nV W off (bu b G T i).1 (dS b W i (bu b G T i).2)))]) rfl (ds:=(uF b G T W off s i).map PyData.int) ?_
    exact CO (a:=s) (b:=nV W off (bu b G T i).1 (dS b W i (bu b G T i).2)) rfl (by omega)
   exact⟨_,_,rfl,(ai t1).trans t2,nW hs,_,_,rfl⟩) ⟨by simp,_,_,rfl⟩
 refine aN ?_
 show eF [.val (ax G T W),.val (.int (sI b)),.val (ag off),.non,.non,.non]=_
 unfold eF
 rw[ai t3]
 refine (ai (c6 e3 (pf (by dsimp! [dW,AW,zF]) (by omega)) rfl)).trans ?_
 exact aU rfl
theorem nZ(h:(xs++ys).length<=4000):Dl.aR (.tuple xs) (.tuple ys)=some (.tuple (xs++ys)):=by
 simp only[Dl.aR,tR,GY,aY h,zD,Option.none_or,Option.some_or]
theorem G9(h:f ρ=some d):aM (aa f ae) ρ=some (.tuple [d]):=by
 simp only[aM,aa,ae,h,zC,zD]
 rw[aY (by simp),zD]
theorem MJ(h:f ρ=some d)(h2:g ρ=some e):aM (aa f (aa g ae)) ρ=some (.tuple [d,e]):=by
 simp only[aM,aa,ae,h,h2,zC,zD]
 rw[aY (by simp),zD]
theorem ay(h:g a b=some c)(ha:fa ρ=some a)(hb:fb ρ=some b):f2 g fa fb ρ=some c:=by rw[iD ha hb,h]
theorem Dm(h:f ρ=some (.tuple ds))(h2:g ρ=some (nD k)):mT gG f mQ (Bx g) ρ=some (.tuple (ds.take k)):=by
 simp only[mT,h,mQ,Bx,h2,zC,gI,zD,gG,Ck]
theorem Es(h:f ρ=some (.tuple ds))(h2:g ρ=some (nD k)):mT gG f (Bx g) mQ ρ=some (.tuple (ds.drop k)):=by
 simp only[mT,h,mQ,Bx,h2,zC,gI,zD,gG,va]
theorem Ni(d:D)(ds:List D):ao (.tuple (d::ds)) (.int 0)=some d:=pj (i:=0) rfl
theorem Mj(c d:D)(ds:List D):ao (.tuple (c::d::ds)) (.int 1)=some d:=pj (i:=1) rfl
theorem zh(c:List Int)(i:Nat)(v:Int)(h:i < c.length):((c.map PyData.int).take i++[PyData.int v])++(c.map PyData.int).drop (i+1)=(c.set i v).map PyData.int:=by
 rw[List.set_eq_take_append_cons_drop,yO h]
 simp
theorem ND(i:Nat):Dl.aR (nD i) (.int 1)=some (nD (i+1)):=by
 rw[gQ]
 rfl
theorem w8(h:i < c.length)(hl:c.length<=1000):dN [ag c,nD i,.int v]=some (ag (c.set i v)):=by
 refine aN ?_
 show ij [.val (ag c),.val (nD i),.val (.int v)]=_
 refine aU ?_
 refine ay (a:=.tuple ((c.map PyData.int).take i++[PyData.int v])) (b:=.tuple ((c.map PyData.int).drop (i+1))) ?_ (ay (a:=.tuple ((c.map PyData.int).take i)) (b:=.tuple [.int v]) (nZ ?_) (Dm rfl rfl) (G9 rfl)) (Es rfl (ay (ND i) rfl rfl))
 ·rw[nZ,zh c i v h]
  ·rfl
  ·rw[zh c i v h];simp;omega
 ·simp;omega
theorem qq(h:i < c.length)(hl:c.length<=1000):cD [ag c,nD i,.int v]=some (ag (c.set i v)):=by
 refine aN ?_
 show qy [.val (ag c),.val (nD i),.val (.int v)]=_
 exact aU (call_of (w8 h hl) rfl rfl)
def dc(W:List Wy):List Int:=W.map fun w=>w.2.2
theorem EN(h:Wd G T W)(hf:f ρ=some (ax G T W)):(aX aK (aa (bT (aj 1 [] (aQ (f2 ao f (fC (.int 2)))) (fG 0) (fun _=>some true) (f2 ao (ab 0) (fC (.int 2))))) ae)) ρ=some (ag (dc W)):=by
 have hw:=h.wl
 have hs:(aQ (f2 ao f (fC (.int 2)))) ρ=some (W.map aq):=by
  unfold aQ
  rw[ay (gW G T W) hf rfl]
  rfl
 have e:aj 1 [] (aQ (f2 ao f (fC (.int 2)))) (fG 0) (fun _=>some true) (f2 ao (ab 0) (fC (.int 2))) ρ=some ((dc W).map PyData.int):=by
  rw[bM (h:=fun d=>.int (gV ((cg d).getD 2 .none))) hs (by rw[zF];omega) fun d hd=>?_]
  ·rw[dc,zP,zP]
   rfl
  ·obtain⟨w,hw',rfl⟩:=List.mem_map.mp hd
   rfl
 simp only[aX,aa,ae,bT,e,zD,zC,mv]
theorem lO(h:Wd G T W):gF [ax G T W]=some (ag (dc W)):=by
 refine aN ?_
 show uH [.val (ax G T W)]=_
 exact aU (EN h rfl)
theorem mf(W:List Wy):(dc W).length=W.length:=by simp[dc]
def iU(G T:List Pl)(W:List Wy)(c:List Int):List Int:=bW true G T W (bW false G T W c)
def qR(G T:List Pl)(W:List Wy)(c:List Int)(k:Nat):Bool:=decide ((iU G T W c).getD k 0 < (bW false G T W c).getD k 0)
def p7(G T:List Pl)(W:List Wy)(c:List Int):Option (Nat×Int):=((List.range W.length).find? (qR G T W c)).map fun k=>(k,(iU G T W c).getD k 0)
def yy:Option (Nat×Int)->D
 | none=>.none
 | some p=>.tuple [nD p.1,.int p.2]
theorem enum_zip:∀ (ds:List D) (k:Nat),bh k ds=(ds.zipIdx k).map fun q=>.tuple [nD q.2,q.1]
 | [],k=>rfl
 | d::ds,k=>by rw[bh,enum_zip ds (k+1),List.zipIdx_cons];rfl
theorem Bz(l:List Int):bh 0 (l.map PyData.int)=(List.range l.length).map fun k=>.tuple [nD k,.int (l.getD k 0)]:=by
 rw[enum_zip]
 apply jK
 ·simp
 ·intro i h1 h2
  have:i < l.length:=by simpa using h2
  simp[this]
theorem Iy(G T:List Pl)(W:List Wy)(c:List Int):(iU G T W c).length=W.length:=mq _ _ _ _ _
def Ml:ar->Option Out:=(fH (fB (f2 Cf (ab 5) (f2 ao (ab 2) (ab 4)))) (aJ (aM (aa (ab 4) (aa (ab 5) ae)))) fQ)
theorem jj(h:Wd G T W)(ho:c.length=W.length):dD [ax G T W,ag c]=some (yy (p7 G T W c)):=by
 have hw:W.length<=16:=h.wl
 have t2:Dl.aB 2 [0,1] (ah 3 br (aa (ab 0) (aa (fC (.int 0)) (aa (ab 1) ae)))) [.val (ax G T W),.val (ag c),.non,.non,.non,.non]=some (.nx [.val (ax G T W),.val (ag c),.val (ag (bW false G T W c)),.non,.non,.non]) :=
  bO (call_of (eB h ho false) rfl rfl) rfl rfl rfl
 have t3:Dl.aB 3 [0,2] (ah 3 br (aa (ab 0) (aa (fC (.int 1)) (aa (ab 2) ae)))) [.val (ax G T W),.val (ag c),.val (ag (bW false G T W c)),.non,.non,.non]=some (.nx [.val (ax G T W),.val (ag c),.val (ag (bW false G T W c)),.val (ag (iU G T W c)),.non,.non]) :=
  bO (call_of (eB h (mq _ _ _ _ _) true) rfl rfl) rfl rfl rfl
 have hl:=ku (tgt:=dE 4 5) (gb:=Ml) (R:=fun ρ=>∃x y,ρ=[.val (ax G T W),.val (ag c),.val (ag (bW false G T W c)),.val (ag (iU G T W c)),x,y]) (fun k=>.tuple [nD k,.int ((iU G T W c).getD k 0)]) (qR G T W c) (fun k=>.tuple [nD k,.int ((iU G T W c).getD k 0)])
  (l:=List.range W.length) (ρ:=[.val (ax G T W),.val (ag c),.val (ag (bW false G T W c)),.val (ag (iU G T W c)),.non,.non])
  (fun ρ k hk ⟨x,y,hρ⟩=>by
   subst hρ
   have hk':k < (bW false G T W c).length:=by rw[mq];exact List.mem_range.mp hk
   have hc:(fB (f2 Cf (ab 5) (f2 ao (ab 2) (ab 4)))) (aS [.val (ax G T W),.val (ag c),.val (ag (bW false G T W c)),.val (ag (iU G T W c)),.val (nD k),.val (.int ((iU G T W c).getD k 0))])=some (qR G T W c k):=by
    dsimp! [oJ hk',l7,qR]
   refine⟨[.val (ax G T W),.val (ag c),.val (ag (bW false G T W c)),.val (ag (iU G T W c)),.val (nD k),.val (.int ((iU G T W c).getD k 0))],rfl,fun hq=>?_,fun hq=>?_⟩
   ·rw[hq] at hc
    unfold Ml
    rw[fS hc]
    exact aU (MJ rfl rfl)
   ·rw[hq] at hc
    unfold Ml
    rw[dh hc]
    exact⟨_,rfl,_,_,rfl⟩) ⟨_,_,rfl⟩
 have hi:(bc (aa (ab 3) ae)) (bx [.val (ax G T W),.val (ag c),.val (ag (bW false G T W c)),.val (ag (iU G T W c)),.non,.non])=some ((List.range W.length).map fun k=>.tuple [nD k,.int ((iU G T W c).getD k 0)]):=by
  have:=Bz (iU G T W c)
  rw[Iy] at this
  rw[<- this]
  rfl
 refine aN ?_
 show mJ [.val (ax G T W),.val (ag c),.non,.non,.non,.non]=_
 unfold mJ
 rw[ai t2,ai t3]
 unfold p7
 cases hq:(List.range W.length).find? (qR G T W c) with
 | some k =>
  exact k9 (c6 (hl.1 k hq) hi rfl)
 | none =>
  obtain⟨ρ',e,x,y,rfl⟩:=hl.2 hq
  exact (ai (c6 e hi rfl)).trans (aU rfl)
theorem cm(l:List Int)(k:Nat)(v:Int)(i:Nat):(l.set k v).getD i 0=if k=i/\i < l.length then v else l.getD i 0:=by
 simp only[zJ,xM]
 by_cases h:k=i
 ·subst h
  by_cases h2:k < l.length
  ·simp[h2]
  ·simp[h2]
 ·simp[h]
theorem uC{a b:List Int}{i:Nat}(ha:i < a.length)(hb:i < b.length):(List.zipWith (·+·) a b).getD i 0=a.getD i 0+b.getD i 0:=by
 rw[zJ,zJ,zJ,List.getElem?_zipWith,zN ha,zN hb]
 rfl
def Off(off:List Int):Prop:=∀i,0<=off.getD i 0
def Mz(W:List Wy):Prop:=∀i,0<=(aC W i).2.2
theorem Wd.lim{G T:List Pl}{W:List Wy}(h:Wd G T W):Mz W:=fun i=>by
 by_cases hi:i < W.length
 ·have:=h.wr (aC W i) (by rw[<- gf hi];exact qD hi)
  omega
 ·simp only[aC,zJ]
  rw[jO (by omega)]
  simp
theorem Wd.amt{G T:List Pl}{W:List Wy}(h:Wd G T W)(b:Bool)(i:Nat):0<=(bu b G T i).1:=by
 unfold bu
 rw[zJ]
 cases e:(aw b G T)[i]? with
 | none=>simp
 | some p =>
  have hm:=qE e
  cases b
  ·exact (h.ga p hm).1
  ·exact (h.ta p hm).1
theorem Kc{W:List Wy}{off:List Int}(ho:Off off)(hl:Mz W){amt:Int}(ha:0<=amt)(is:List Nat)(i:Nat):0<=(nV W off amt is).getD i 0/\(nV W off amt is).getD i 0<=off.getD i 0:=by
 have:=j5 (l:=is) (f:=lA W off) (s:=(amt,List.replicate W.length 0)) (fun s=>0<=s.1/\∀i,0<=s.2.getD i 0/\s.2.getD i 0<=off.getD i 0) (fun s k _ ⟨h1,h2⟩=>by
  have ok:=ho k
  have lk:=hl k
  have v0:0<=cV W off s.1 k:=by unfold cV;omega
  have v1:cV W off s.1 k<=off.getD k 0:=by unfold cV;omega
  have v2:cV W off s.1 k<=s.1:=by unfold cV;omega
  refine⟨by simp only[lA];omega,fun i=>?_⟩
  simp only[lA,cm]
  split
  ·rename_i z
   rw[<- z.1]
   exact⟨v0,v1⟩
  ·exact h2 i) ⟨ha,fun i=>by
   have:=ho i
   have z:(List.replicate W.length (0:Int)).getD i 0=0:=by
    simp only[zJ,xA]
    split<;>rfl
   simp only[z]
   omega⟩
 exact this.2 i
theorem AA{W:List Wy}{off:List Int}{amt:Int}{is:List Nat}{i:Nat}(hi:i∉is):(nV W off amt is).getD i 0=0:=by
 refine j5 (l:=is) (f:=lA W off) (s:=(amt,List.replicate W.length 0)) (fun s=>s.2.getD i 0=0) (fun s k hk h=>?_) ?_
 ·simp only[lA,cm]
  have hki:¬ (k=i/\i < s.2.length):=fun z=>hi (z.1 ▸ hk)
  rw[yQ hki,h]
 ·simp only[zJ,xA]
  split<;>rfl
theorem si{G T:List Pl}{W:List Wy}(h:Wd G T W){off:List Int}(ho:Off off)(b:Bool):∀ (n:Nat),n<=(aw b G T).length ->
  ((List.range n).foldl (uF b G T W off) (List.replicate W.length 0)).length=W.length/\∀i,i < W.length->(0<=((List.range n).foldl (uF b G T W off) (List.replicate W.length 0)).getD i 0/\((List.range n).foldl (uF b G T W off) (List.replicate W.length 0)).getD i 0<=off.getD i 0)/\((n:Nat)<=bf b (aC W i)->((List.range n).foldl (uF b G T W off) (List.replicate W.length 0)).getD i 0=0)
 | 0,_=>by
  refine⟨by simp,fun i hi=>?_⟩
  have:=ho i
  have z:((List.range 0).foldl (uF b G T W off) (List.replicate W.length 0)).getD i 0=0:=by simp[zJ,hi]
  rw[z]
  exact⟨by omega,fun _=>rfl⟩
 | n+1,hn=>by
  obtain⟨h1,h2⟩:=si h ho b n (by omega)
  rw[vQ,vC,yL,List.foldl_nil]
  generalize (List.range n).foldl (uF b G T W off) (List.replicate W.length 0)=s at h1 h2
  refine⟨nW h1,fun i hi=>?_⟩
  obtain⟨h3,h4⟩:=h2 i hi
  have e:=eX (b:=b) (G:=G) (T:=T) (i:=n) (by omega)
  have hc:=Kc ho h.lim (h.amt b n) (dS b W n (bu b G T n).2) i
  have hz:(uF b G T W off s n).getD i 0=s.getD i 0+(nV W off (bu b G T n).1 (dS b W n (bu b G T n).2)).getD i 0:=uC (by omega) (by rw[oe];exact hi)
  rw[hz]
  by_cases he:bf b (aC W i)=n
  ·rw[h4 (by omega)]
   exact⟨by omega,fun z=>by omega⟩
  ·have hni:i∉dS b W n (bu b G T n).2:=fun z=>he (bX.mp ((et h e).mem_iff.mp z)).2
   rw[AA hni]
   exact⟨by omega,fun z=>by rw[h4 (by omega)];rfl⟩
theorem pF{l:List Int}{i:Nat}(h:l.length<=i):l.getD i 0=0:=by simp[zJ,h]
theorem g8{G T:List Pl}{W:List Wy}(h:Wd G T W){off:List Int}(ho:Off off)(b:Bool):Off (bW b G T W off):=fun i=>by
 by_cases hi:i < W.length
 ·exact ((si h ho b _ (yP _)).2 i hi).1.1
 ·rw[pF (by rw[mq];omega)]
  exact qC 0
theorem wt{G T:List Pl}{W:List Wy}(h:Wd G T W){off:List Int}(ho:Off off)(b:Bool){i:Nat}(hi:i < W.length):(bW b G T W off).getD i 0<=off.getD i 0 :=
 ((si h ho b _ (yP _)).2 i hi).1.2
theorem zg{G T:List Pl}{W:List Wy}(h:Wd G T W){c:List Int}(ho:Off c){p:Nat×Int}(e:p7 G T W c=some p):p.1 < W.length/\0<=p.2/\p.2 < c.getD p.1 0:=by
 unfold p7 at e
 obtain⟨k,hk,rfl⟩:=Dl.af e
 have hm:=kA hk
 have hq:=vS hk
 have hi:=List.mem_range.mp hm
 rw[qR,zM] at hq
 have a:=wt h ho false hi
 have b:=g8 h (g8 h ho false) true k
 exact⟨hi,b,by simp only;omega⟩
def mea(c:List Int):Nat:=(c.map Int.toNat).sum
theorem Al:∀ {c:List Int}{k:Nat}{v:Int},0<=v->v < c.getD k 0->mea (c.set k v) < mea c
 | [],k,v,h0,h1=>by simp at h1;omega
 | x::c,0,v,h0,h1=>by
  simp at h1
  simp only[mea,yY,zL,kG]
  omega
 | x::c,k+1,v,h0,h1=>by
  have:=Al (c:=c) (k:=k) h0 (by simpa using h1)
  simp only[mea,yZ,zL,kG] at this ⊢
  omega
theorem zc:∀ {W:List Wy},(∀w∈W,w.2.2<=9)->mea (dc W)<=9 * W.length
 | [],_=>by simp[mea,dc]
 | w::W,h=>by
  have:=zc (W:=W) fun x hx=>h x (zE _ hx)
  have:=h w zH
  simp only[mea,dc,zL,kG,zO] at *
  omega
theorem G6{G T:List Pl}{W:List Wy}(h:Wd G T W):Off (dc W):=fun i=>by
 have:=h.lim i
 by_cases hi:i < W.length
 ·simpa [dc,aC,zJ,hi] using this
 ·rw[pF (by rw[mf];omega)]
  exact qC 0
theorem zx{c:List Int}(h:Off c){k:Nat}{v:Int}(hv:0<=v):Off (c.set k v):=fun i=>by
 rw[cm]
 split
 ·exact hv
 ·exact h i
theorem o6(a:List Int):SeqAt.shaped (ag a)=true :=
 (gU.tup (b:=a.length) (k:=0) (by simp) fun x hx=>by obtain⟨i,_,rfl⟩:=List.mem_map.mp hx;exact jr _).shaped (by decide)
theorem pk(a b:List Int):PyData.eqv (ag a) (ag b)=decide (a=b):=by
 rw[ag,ag,PyData.eqv,pP]
theorem c9(h:f ρ=some (.bool b)):fB f ρ=some b:=by
 simp only[fB,h,zC,gB]
theorem dQ(h:t ρ=some b):bA t ρ=some (!b):=by
 simp only[bA,h,zD]
theorem EA(h:t ρ=some false)(h2:u ρ=some false):mz t u ρ=some false:=by
 simp only[mz,h,zC,h2]
theorem C6(a b:List Int):j6 (ag a) (ag b)=some (.bool (!decide (a=b))):=by
 simp only[j6,Kx,o6,jR,xK,pk,zD]
theorem pA(a b:List Int):bC (ag a) (ag b)=some (.bool (decide (a=b))):=by
 simp only[bC,JD,o6,jR,xK,pk,zD]
theorem Cd(a:List Int):j6 (ag a) (ag a)=some (.bool false):=by rw[C6];simp
theorem GW(x:Option (Nat×Int)):nh (yy x) .none=some (.bool x.isSome):=by cases x<;>rfl
theorem bN(hA:f (aS ρ)=some d)(hF:f (bx ρ)=some d)(hh:hand fz 0 ρ=ρ):Dl.aB i fz f ρ=some (.nx (ρ.set i (.val d))):=by
 cases hs:Dl.l6 d with
 | true=>exact cX hA hs
 | false=>exact o9 hh hA hF hs (.inr rfl)
theorem Jm(hA:f (aS ρ)=some d)(hF:f (bx ρ)=some d)(hh:hand fz 0 ρ=ρ)(ho:ρ[i]?=some (.own ds))(hl:ds.length < 4000):kn i fz f ρ=some (.nx (ρ.set i (.own (ds++[d])))):=by
 have hz:ds.length < sizeLine:=zS hl (by decide)
 have hi:fO fz f ρ=some (d,ρ):=by
  unfold fO
  rw[hA,zC,hh,hF]
  cases Dl.l6 d<;>rfl
 simp only[kn,hi,zC,mi,ho,hz,xK,zD]
theorem cK(h:Wd G T W):bI [ax G T W]=some .none:=by
 have hw:bB [ax G T W]=some (.bool true):=by rw[o5 h.fit (by decide),h.wok]
 have hc:(bA (fB (ah 1 bB (aa (ab 0) ae)))) (aS [.val (ax G T W)])=some false:=dQ (c9 (call_of hw rfl rfl))
 have:dX [.val (ax G T W)]=some (.nx [.val (ax G T W)]):=by
  unfold dX
  rw[dh hc]
 show (dX [.val (ax G T W)]).map _=_
 rw[this]
 rfl
theorem kc(h1:a<=i)(h2:i<=b):d7 [.int i,.int a,.int b]=some .none:=by
 have hw:bw [.int i,.int a,.int b]=some (.bool true):=by rw[fw rfl];simp[whole,h1,h2]
 have hc:(bA (fB (ah 3 bw (aa (ab 0) (aa (ab 1) (aa (ab 2) ae)))))) (aS [.val (.int i),.val (.int a),.val (.int b)])=some false:=dQ (c9 (call_of hw rfl rfl))
 have:dR [.val (.int i),.val (.int a),.val (.int b)]=some (.nx [.val (.int i),.val (.int a),.val (.int b)]):=by
  unfold dR
  rw[dh hc]
 show (dR [.val (.int i),.val (.int a),.val (.int b)]).map _=_
 rw[this]
 rfl
theorem iK(h1:0<=i)(h2:i<=n - 1):c8 [.int i,.int n]=some .none:=by
 have:dm [.val (.int i),.val (.int n)]=some (.nx [.val (.int i),.val (.int n)]):=by
  unfold dm
  exact cU (call_of (kc h1 h2) (cons_of rfl (cons_of rfl (cons_of (ay (sub_int n 1) rfl rfl) rfl))) rfl)
 show (dm [.val (.int i),.val (.int n)]).map _=_
 rw[this]
 rfl
theorem sM(b:Bool):ik [.int (sI b)]=some .none:=by
 have:eN [.val (.int (sI b))]=some (.nx [.val (.int (sI b))]):=by
  unfold eN
  exact cU (call_of (iK (n:=2) (i:=sI b) (by cases b<;>decide) (by cases b<;>decide)) rfl rfl)
 show (eN [.val (.int (sI b))]).map _=_
 rw[this]
 rfl
abbrev Sp:=List (Nat×Int)×List Int
def JW(G T:List Pl)(W:List Wy)(s:Sp):Bool:=(p7 G T W s.2).isSome
def spS(G T:List Pl)(W:List Wy)(s:Sp):Sp:=match p7 G T W s.2 with|some p=>(s.1++[p],s.2.set p.1 p.2)|none=>s
def low(c:List Int)(p:Nat×Int):List Int:=c.set p.1 p.2
structure Am(W:List Wy)(s:Sp):Prop where
 len:s.2.length=W.length
 off:Off s.2
 eq:s.2=s.1.foldl low (dc W)
 bd:s.1.length+mea s.2<=mea (dc W)
 mem:∀p∈s.1,p.1 < W.length
theorem Am.start(h:Wd G T W):Am W ([],dc W):=⟨mf W,G6 h,rfl,by simp,fun p hp=>by cases hp⟩
theorem tH(e:p7 G T W s.2=some p):spS G T W s=(s.1++[p],s.2.set p.1 p.2):=by
 unfold spS
 rw[e]
theorem Am.step(h:Wd G T W)(i:Am W s)(e:p7 G T W s.2=some p):Am W (spS G T W s)/\mea (spS G T W s).2 < mea s.2:=by
 obtain⟨h1,h2,h3⟩:=zg h i.off e
 have hm:=Al h2 h3
 rw[tH e]
 refine⟨⟨by simp[i.len],zx i.off h2,?_,?_,fun q hq=>?_⟩,hm⟩
 ·rw[vC,<- i.eq]
  rfl
 ·have:=i.bd
  simp only[zQ,xF]
  omega
 ·rcases List.mem_append.mp hq with z|z
  ·exact i.mem q z
  ·rw[yM] at z
   rw[z]
   exact h1
theorem Wd.mea(h:Wd G T W):mea (dc W)<=144:=by
 have:=zc (W:=W) fun w hw=>(h.wr w hw).2.2.2
 have:=h.wl
 omega
def pV(r:List (Nat×Int)):List D:=(r.map fun p=>[((p.1:Nat):Int),p.2]).map ag
theorem GD(r:List (Nat×Int))(p:Nat×Int):pV (r++[p])=pV r++[yy (some p)]:=by simp[pV];rfl
theorem Gu(r:List (Nat×Int)):(pV r).length=r.length:=by simp[pV]
def fin(G T:List Pl)(W:List Wy):Sp:=lp (JW G T W) (spS G T W) Rf.turns ([],dc W)
def Mm:ar->Option Out:=(av (kn 1 [3] (ab 3)) (av (Dl.aB 2 [2,3] (ah 3 cD (aa (ab 2) (aa (f2 ao (ab 3) (fC (.int 0))) (aa (f2 ao (ab 3) (fC (.int 1))) ae))))) (Dl.aB 3 [0,2] (ah 2 dD (aa (ab 0) (aa (ab 2) ae))))))
def HP(G T:List Pl)(W:List Wy)(s:Sp):ar:=[.val (ax G T W),.own (pV s.1),.val (ag s.2),.val (yy (p7 G T W s.2))]
theorem F0(h:Wd G T W)(i:Am W s)(e:p7 G T W s.2=some p):Mm (HP G T W s)=some (.nx (HP G T W (spS G T W s))):=by
 obtain⟨h1,h2,h3⟩:=zg h i.off e
 obtain⟨i2,hm⟩:=i.step h e
 have hb:=h.mea
 have hbd:=i.bd
 have hw:=h.wl
 have t1:kn 1 [3] (ab 3) (HP G T W s)=some (.nx [.val (ax G T W),.own (pV s.1++[yy (some p)]),.val (ag s.2),.val (yy (some p))]):=by
  unfold HP
  rw[e]
  exact Jm rfl rfl rfl rfl (by rw[Gu];omega)
 have hlow:∀ρ:Dl.Env,ab 2 ρ=some (ag s.2)->ab 3 ρ=some (yy (some p))->(ah 3 cD (aa (ab 2) (aa (f2 ao (ab 3) (fC (.int 0))) (aa (f2 ao (ab 3) (fC (.int 1))) ae)))) ρ=some (ag (s.2.set p.1 p.2)):=fun ρ a b =>
  call_of (qq (c:=s.2) (i:=p.1) (v:=p.2) (by rw[i.len];exact h1) (by rw[i.len];omega)) (cons_of a (cons_of (ay (Ni _ _) b rfl) (cons_of (ay (Mj _ _ _) b rfl) rfl))) rfl
 have t2:Dl.aB 2 [2,3] (ah 3 cD (aa (ab 2) (aa (f2 ao (ab 3) (fC (.int 0))) (aa (f2 ao (ab 3) (fC (.int 1))) ae)))) [.val (ax G T W),.own (pV s.1++[yy (some p)]),.val (ag s.2),.val (yy (some p))]=some (.nx [.val (ax G T W),.own (pV s.1++[yy (some p)]),.val (ag (s.2.set p.1 p.2)),.val (yy (some p))]) :=
  bN (hlow _ rfl rfl) (hlow _ rfl rfl) rfl
 have hl2:(s.2.set p.1 p.2).length=W.length:=by rw[yE,i.len]
 have t3:Dl.aB 3 [0,2] (ah 2 dD (aa (ab 0) (aa (ab 2) ae))) [.val (ax G T W),.own (pV s.1++[yy (some p)]),.val (ag (s.2.set p.1 p.2)),.val (yy (some p))]=some (.nx [.val (ax G T W),.own (pV s.1++[yy (some p)]),.val (ag (s.2.set p.1 p.2)),.val (yy (p7 G T W (s.2.set p.1 p.2)))]) :=
  bN (call_of (jj h hl2) rfl rfl) (call_of (jj h hl2) rfl rfl) rfl
 unfold Mm
 rw[ai t1,ai t2,t3,tH e]
 unfold HP
 rw[GD]
theorem pH(h:JW G T W s=true):∃p,p7 G T W s.2=some p:=Option.isSome_iff_exists.mp h
theorem FA(h:Wd G T W):se [ax G T W]=some (.list (pV (fin G T W).1))/\Am W (fin G T W):=by
 have hb:=h.mea
 have t1:aL 1 [] (cF ae) [.val (ax G T W),.non,.non,.non]=some (.nx [.val (ax G T W),.own [],.non,.non]):=gE (f:=cF ae) (ds:=[]) (show small []=some [] from aY (by simp)) rfl
 have t2:Dl.aB 2 [0] (ah 1 gF (aa (ab 0) ae)) [.val (ax G T W),.own [],.non,.non]=some (.nx [.val (ax G T W),.own [],.val (ag (dc W)),.non]) :=
  bN (call_of (lO h) rfl rfl) (call_of (lO h) rfl rfl) rfl
 have t3:Dl.aB 3 [0,2] (ah 2 dD (aa (ab 0) (aa (ab 2) ae))) [.val (ax G T W),.own [],.val (ag (dc W)),.non]=some (.nx (HP G T W ([],dc W))) :=
  bN (call_of (jj h (mf W)) rfl rfl) (call_of (jj h (mf W)) rfl rfl) rfl
 obtain⟨ρ',ew,⟨rfl,iv⟩,_⟩:=uq (t:=(fB (f2 nh (ab 3) (fC .none)))) (gb:=Mm) (R:=fun s ρ=>ρ=HP G T W s/\Am W s) (JW G T W) (spS G T W) (fun s=>mea s.2)
  (fun s ρ ⟨hρ,i⟩=>by
   subst hρ
   exact c9 (ay (GW _) rfl rfl))
  (fun s ρ ⟨hρ,i⟩ hc=>by
   subst hρ
   obtain⟨p,e⟩:=pH hc
   exact⟨_,F0 h i e,⟨rfl,(i.step h e).1⟩,(i.step h e).2⟩)
  Rf.turns ([],dc W) (HP G T W ([],dc W)) (jC hb (by decide)) ⟨rfl,Am.start h⟩
 refine⟨?_,iv⟩
 refine aN ?_
 show sO [.val (ax G T W),.non,.non,.non]=_
 unfold sO
 rw[ai t1,ai t2,ai t3]
 refine (ai ew).trans ?_
 exact aU rfl
theorem Gv(c:List Int)(p:Nat×Int):(low c p).length=c.length:=by simp[low]
theorem CW(h:Wd G T W)(hr:∀p∈r,p.1 < W.length):oA [ax G T W,.list (pV r)]=some (ag (r.foldl low (dc W))):=by
 have hw:=h.wl
 have t2:Dl.aB 2 [0] (ah 1 gF (aa (ab 0) ae)) [.val (ax G T W),.val (.list (pV r)),.non,.non,.non]=some (.nx [.val (ax G T W),.val (.list (pV r)),.val (ag (dc W)),.non,.non]) :=
  bN (call_of (lO h) rfl rfl) (call_of (lO h) rfl rfl) rfl
 obtain⟨ρ',e3,hs',x,y,rfl⟩:=lQ (tgt:=dE 3 4) (gb:=Dl.aB 2 [2,3,4] (ah 3 cD (aa (ab 2) (aa (ab 3) (aa (ab 4) ae))))) (R:=fun (c:List Int) ρ=>c.length=W.length/\∃x y,ρ=[.val (ax G T W),.val (.list (pV r)),.val (ag c),x,y]) (fun p:Nat×Int=>ag [((p.1:Nat):Int),p.2]) low
  (l:=r) (s:=dc W) (ρ:=[.val (ax G T W),.val (.list (pV r)),.val (ag (dc W)),.non,.non])
  (fun c ρ p hp ⟨hc,x,y,hρ⟩=>by
   subst hρ
   have el:=qq (c:=c) (i:=p.1) (v:=p.2) (by rw[hc];exact hr p hp) (by omega)
   have t:Dl.aB 2 [2,3,4] (ah 3 cD (aa (ab 2) (aa (ab 3) (aa (ab 4) ae)))) [.val (ax G T W),.val (.list (pV r)),.val (ag c),.val (nD p.1),.val (.int p.2)]=some (.nx [.val (ax G T W),.val (.list (pV r)),.val (ag (low c p)),.val (nD p.1),.val (.int p.2)]) :=
    bN (call_of el rfl rfl) (call_of el rfl rfl) rfl
   exact⟨_,_,rfl,t,by rw[Gv,hc],_,_,rfl⟩) ⟨mf W,_,_,rfl⟩
 refine aN ?_
 show pq [.val (ax G T W),.val (.list (pV r)),.non,.non,.non]=_
 unfold pq
 rw[ai t2]
 refine (ai (c6 e3 ?_ rfl)).trans (aU rfl)
 show some (pV r)=_
 rw[pV,zP]
 rfl
theorem pX(h:Wd G T W):aO [ax G T W]=some (ag (bW false G T W (fin G T W).2)):=by
 obtain⟨e1,i⟩:=FA h
 have e2:=CW h i.mem
 rw[<- i.eq] at e2
 refine aN ?_
 show fZ [.val (ax G T W)]=_
 unfold fZ
 refine (ai (cU (call_of (cK h) rfl rfl))).trans ?_
 exact aU (call_of (eB h i.len false) (cons_of rfl (cons_of rfl (cons_of (call_of e2 (cons_of rfl (cons_of (call_of e1 rfl rfl) rfl)) rfl) rfl))) rfl)
def JC(w:Wy):Wy:=(w.2.1,w.1,w.2.2)
structure Ord(W:List Wy)(π:List Nat):Prop where
 perm:π.Perm (List.range W.length)
 up:π.Pairwise fun i j=>(aC W i).2.1 < (aC W j).2.1\/((aC W i).2.1=(aC W j).2.1/\(aC W i).1 < (aC W j).1)
def fA(W:List Wy)(π:List Nat):List Wy:=π.map fun i=>JC (aC W i)
def wb(P:List Int)(π:List Nat):List Int:=π.map fun i=>P.getD i 0
section
theorem Ord.len(o:Ord W π):π.length=W.length:=by rw[o.perm.length_eq,zU]
theorem Ord.lt(o:Ord W π)(hk:k < W.length):π.getD k 0 < W.length:=by
 have h:k < π.length:=by rw[o.len];exact hk
 have:=o.perm.mem_iff.mp (qD h)
 rw[zJ,zN h]
 simpa using this
theorem d5(o:Ord W π):(fA W π).length=W.length:=by simp[fA,o.len]
theorem GU(o:Ord W π):(wb P π).length=W.length:=by simp[wb,o.len]
theorem gc(o:Ord W π)(hk:k < W.length):aC (fA W π) k=JC (aC W (π.getD k 0)):=by
 have h:k < π.length:=by rw[o.len];exact hk
 simp[aC,fA,h,zJ]
theorem tv(o:Ord W π)(hk:k < W.length):(wb P π).getD k 0=P.getD (π.getD k 0) 0:=by
 have h:k < π.length:=by rw[o.len];exact hk
 simp[wb,h,zJ]
theorem sS(b:Bool)(w:Wy):bf (!b) (JC w)=bf b w:=by cases b<;>rfl
theorem sk(b:Bool)(w:Wy):bK (!b) (JC w)=bK b w:=by cases b<;>rfl
theorem Ord.ris(o:Ord W π):r6 (fA W π):=by
 unfold r6 fA
 rw[jH]
 exact o.up
theorem Ia(h:r6 W)(hi:i < W.length)(hj:j < W.length)(e:(aC W i).1 < (aC W j).1\/((aC W i).1=(aC W j).1/\(aC W i).2.1 < (aC W j).2.1)):i < j:=by
 rcases Nat.lt_or_ge i j with q|q
 ·exact q
 ·exfalso
  rcases Nat.eq_or_lt_of_le q with q|q
  ·subst q;omega
  ·have:=List.pairwise_iff_getElem.mp h j i hj hi q
   rw[gf hi,gf hj] at this
   omega
theorem yj(p:l.Perm (List.range n))(h:l.Pairwise (· < ·)):l=List.range n:=by
 refine gn (fun i=>((i:Nat):Int)) p (h.imp fun {a b} q=>by omega) (List.pairwise_lt_range.imp fun {a b} q=>by omega)
theorem map_getD(l:List Nat):(List.range l.length).map (fun k=>l.getD k 0)=l:=by
 apply jK
 ·simp
 ·intro i h1 h2
  simp[h2]
theorem Ord.back(h:r6 W)(o:Ord W π)(o':Ord (fA W π) π'):π'.map (fun k=>π.getD k 0)=List.range W.length:=by
 have hl:(fA W π).length=W.length:=d5 o
 refine yj ?_ ?_
 ·have:=(o'.perm.map fun k=>π.getD k 0)
  rw[hl,<- o.len,map_getD] at this
  exact this.trans o.perm
 ·rw[jH]
  refine o'.up.imp_of_mem fun {i j} hi hj q=>?_
  have hi':i < W.length:=by have:=o'.perm.mem_iff.mp hi;rw[hl] at this;simpa using this
  have hj':j < W.length:=by have:=o'.perm.mem_iff.mp hj;rw[hl] at this;simpa using this
  rw[gc o hi',gc o hj'] at q
  exact Ia h (o.lt hi') (o.lt hj') q
theorem AE(h:r6 W)(o:Ord W π)(o':Ord (fA W π) π'):fA (fA W π) π'=W:=by
 have hl:(fA W π).length=W.length:=d5 o
 have e:fA (fA W π) π'=(π'.map fun k=>π.getD k 0).map fun i=>aC W i:=by
  unfold fA
  rw[zP]
  refine yK fun k hk=>?_
  have hk':k < W.length:=by have:=o'.perm.mem_iff.mp hk;rw[hl] at this;simpa using this
  have:=gc o hk'
  unfold fA at this
  rw[this];rfl
 rw[e,o.back h o']
 have:=map_range (0,0,0) (fun w:Wy=>w) W
 simpa [aC] using this
theorem Dw(o:Ord W π)(b:Bool)(p:Int):((own (!b) (fA W π) p).map fun k=>π.getD k 0).Perm (own b W p):=by
 have hl:(fA W π).length=W.length:=d5 o
 have e:((own (!b) (fA W π) p).map fun k=>π.getD k 0)=π.filter fun i=>decide (bf b (aC W i)=p):=by
  conv=>rhs;rw[<- map_getD π,kK,o.len]
  unfold own
  rw[hl]
  congr 1
  refine List.filter_congr fun k hk=>?_
  have hk':k < W.length:=by simpa using hk
  rw[gc o hk',sS];rfl
 rw[e]
 exact o.perm.filter _
theorem D7(o:Ord W π)(b:Bool)(p:Int):(Kw (!b) (fA W π) p).Perm (Kw b W p):=by
 have hl:(fA W π).length=W.length:=d5 o
 rw[<- jm,<- jm]
 have:=(Dw o b p).map fun i=>bK b (aC W i)
 rw[zP] at this
 refine List.Perm.trans (List.Perm.of_eq ?_) this
 refine yK fun k hk=>?_
 have hk':k < W.length:=by have:=(bX.mp hk).1;rwa [hl] at this
 show bK (!b) (aC (fA W π) k)=bK b (aC W (π.getD k 0))
 rw[gc o hk',sk]
theorem Ord.wd(h:Wd G T W)(o:Ord W π):Wd T G (fA W π) where
 g1:=h.t1
 g4:=h.t4
 t1:=h.g1
 t4:=h.g4
 ga:=h.ta
 ta:=h.ga
 gl:=fun i p e=>(h.tl i p e).trans (D7 o true i).symm
 tl:=fun i p e=>(h.gl i p e).trans (D7 o false i).symm
 wr:=fun w hw=>by
  obtain⟨i,hi,rfl⟩:=List.mem_map.mp hw
  have hi':i < W.length:=by have:=o.perm.mem_iff.mp hi;simpa using this
  have:=h.wr (aC W i) (by rw[<- gf hi'];exact qD _)
  exact⟨this.2.1,this.1,this.2.2⟩
 wp:=o.ris
 wl:=by rw[d5 o];exact h.wl
theorem tK(b:Bool)(G T:List Pl):aw (!b) T G=aw b G T:=by cases b<;>rfl
theorem Et(b:Bool)(G T:List Pl)(i:Nat):bu (!b) T G i=bu b G T i:=by unfold bu;rw[tK]
def pS(b:Bool)(W:List Wy)(P:List Int)(p:Int):Int:=((own b W p).map fun i=>P.getD i 0).sum
theorem u5{l m:List Int}(p:l.Perm m):l.sum=m.sum:=by
 induction p with
 | nil=>rfl
 | cons x _ ih=>simp[ih]
 | swap x y l=>simp only[kG];omega
 | trans _ _ h1 h2=>exact h1.trans h2
theorem DQ(o:Ord W π)(b:Bool)(p:Int):pS (!b) (fA W π) (wb P π) p=pS b W P p:=by
 have hl:(fA W π).length=W.length:=d5 o
 have:=u5 ((Dw o b p).map fun i=>P.getD i 0)
 unfold pS
 rw[<- this,zP]
 congr 1
 refine yK fun k hk=>?_
 have hk':k < W.length:=by have:=(bX.mp hk).1;rwa [hl] at this
 exact tv o hk'
theorem JR(h:Wd G T W)(o:Ord W π){b:Bool}{i:Nat}{p:Pl}(e:(aw b G T)[i]?=some p){x:Int}(hx:x∈p.2):mX (!b) (fA W π) i x < W.length/\π.getD (mX (!b) (fA W π) i x) 0=mX b W i x:=by
 have e':(aw (!b) T G)[i]?=some p:=by rw[tK];exact e
 obtain⟨h1,h2,h3⟩:=jq (o.wd h) e' hx
 obtain⟨g1,g2,g3⟩:=jq h e hx
 rw[d5 o] at h1
 rw[gc o h1,sS] at h2
 rw[gc o h1,sk] at h3
 exact⟨h1,vm h.wp (o.lt h1) g1 (by rw[h2,g2]) (by rw[h3,g3])⟩
end
def qd(L:List Int)(x:Int):Nat:=L.findIdx fun o=>decide (o=x)
def sT(b:Bool)(G T:List Pl)(W:List Wy)(P:List Int)(k:Nat):Bool :=
 decide (pS b W P (bf b (aC W k)) < (bu b G T (bf b (aC W k)).toNat).1) ||
 ((bu b G T (bf b (aC W k)).toNat).2.drop (qd (bu b G T (bf b (aC W k)).toNat).2 (bK b (aC W k))+1)).any fun o=>decide (0 < P.getD (mX b W (bf b (aC W k)) o) 0)
def j7(G T:List Pl)(W:List Wy)(P:List Int)(k:Nat):Nat :=
 if P.getD k 0=(aC W k).2.2 then 0 else if sT false G T W P k=false then 1 else if sT true G T W P k=false then 2 else 3
def v9(G T:List Pl)(W:List Wy)(P:List Int):List Nat:=(List.range W.length).filter fun k=>decide (j7 G T W P k=3)
section
theorem Wd.end_pl(h:Wd G T W)(b:Bool)(hk:k < W.length):0<=bf b (aC W k)/\(bf b (aC W k)).toNat < (aw b G T).length/\((bf b (aC W k)).toNat:Int)=bf b (aC W k):=by
 have:=h.wr (aC W k) (by rw[<- gf hk];exact qD _)
 cases b
 ·simp only[bf,aw,yR,qT];omega
 ·simp only[bf,aw,xK];omega
theorem rh:∀ {l:List α},(∀x∈l,p x=q x)->l.any p=l.any q
 | [],_=>rfl
 | a::l,h=>by rw[vF,vF,h a zH,rh fun x hx=>h x (zE _ hx)]
theorem Eg(h:Wd G T W)(o:Ord W π)(b:Bool)(hk:k < W.length):sT (!b) T G (fA W π) (wb P π) k=sT b G T W P (π.getD k 0):=by
 obtain⟨h1,h2,h3⟩:=h.end_pl b (o.lt hk)
 unfold sT
 rw[gc o hk,sS,sk,Et,DQ o]
 congr 1
 rw[<- h3]
 simp only[yI]
 refine rh fun x hx=>?_
 obtain⟨e1,e2⟩:=JR h o (eX h2) (List.mem_of_mem_drop hx)
 rw[tv o e1,e2]
theorem Io(h:Wd G T W)(o:Ord W π)(hk:k < W.length):(j7 T G (fA W π) (wb P π) k=3)↔(j7 G T W P (π.getD k 0)=3):=by
 have e1:=Eg (P:=P) h o false hk
 have e2:=Eg (P:=P) h o true hk
 simp only[Bool.not_false,qB] at e1 e2
 unfold j7
 rw[tv o hk,gc o hk,e1,e2]
 have:(JC (aC W (π.getD k 0))).2.2=(aC W (π.getD k 0)).2.2:=rfl
 rw[this]
 cases sT false G T W P (π.getD k 0)<;>cases sT true G T W P (π.getD k 0)<;>simp<;>split<;>simp
theorem K4(h:Wd G T W)(o:Ord W π):((v9 T G (fA W π) (wb P π)).map fun k=>π.getD k 0).Perm (v9 G T W P):=by
 have hl:(fA W π).length=W.length:=d5 o
 have e:((v9 T G (fA W π) (wb P π)).map fun k=>π.getD k 0)=π.filter fun i=>decide (j7 G T W P i=3):=by
  conv=>rhs;rw[<- map_getD π,kK,o.len]
  unfold v9
  rw[hl]
  congr 1
  refine List.filter_congr fun k hk=>?_
  have hk':k < W.length:=by simpa using hk
  exact decide_eq_decide.mpr (Io h o hk')
 rw[e]
 exact o.perm.filter _
theorem Jh(h:Wd G T W)(o:Ord W π):(v9 T G (fA W π) (wb P π)=[])↔(v9 G T W P=[]):=by
 have:=(K4 (P:=P) h o).length_eq
 rw[zF] at this
 rw[<- List.length_eq_zero_iff,<- List.length_eq_zero_iff,this]
structure Pn(G T:List Pl)(W:List Wy)(P:List Int):Prop where
 len:P.length=W.length
 bd:∀k,k < W.length->0<=P.getD k 0/\P.getD k 0<=(aC W k).2.2
 am:∀ (b:Bool) (i:Nat),i < (aw b G T).length->pS b W P i<=(bu b G T i).1
theorem Pn.tu(h:Wd G T W)(o:Ord W π)(p:Pn G T W P):Pn T G (fA W π) (wb P π) where
 len:=by rw[GU o,d5 o]
 bd:=fun k hk=>by
  rw[d5 o] at hk
  rw[tv o hk,gc o hk]
  exact p.bd _ (o.lt hk)
 am:=fun b i hi=>by
  have:=p.am (!b) i (by rw[<- tK b T G] at hi;exact hi)
  rw[<- DQ o (!b),<- Et (!b),Bool.not_not] at this
  exact this
end
section
variable {off:List Int}
theorem Ag(h:Wd G T W)(b:Bool):∀ (n:Nat),n<=(aw b G T).length ->
  ((List.range n).foldl (uF b G T W off) (List.replicate W.length 0)).length=W.length/\∀k,k < W.length ->
   ((List.range n).foldl (uF b G T W off) (List.replicate W.length 0)).getD k 0=if bf b (aC W k) < n then (nV W off (bu b G T (bf b (aC W k)).toNat).1 (dS b W (bf b (aC W k)).toNat (bu b G T (bf b (aC W k)).toNat).2)).getD k 0 else 0
 | 0,_=>by
  refine⟨by simp,fun k hk=>?_⟩
  obtain⟨h1,_,_⟩:=h.end_pl b hk
  rw[yQ (by omega)]
  simp[zJ,hk]
 | n+1,hn=>by
  obtain⟨h1,h2⟩:=Ag h b n (by omega)
  rw[vQ,vC,yL,List.foldl_nil]
  generalize (List.range n).foldl (uF b G T W off) (List.replicate W.length 0)=s at h1 h2
  refine⟨nW h1,fun k hk=>?_⟩
  have hz:(uF b G T W off s n).getD k 0=s.getD k 0+(nV W off (bu b G T n).1 (dS b W n (bu b G T n).2)).getD k 0:=uC (by omega) (by rw[oe];exact hk)
  rw[hz,h2 k hk]
  obtain⟨g1,_,_⟩:=h.end_pl b hk
  have e:=eX (b:=b) (G:=G) (T:=T) (i:=n) (by omega)
  by_cases he:bf b (aC W k)=n
  ·have hn':(bf b (aC W k)).toNat=n:=by omega
   rw[yQ (by omega),yO (by omega),hn']
   omega
  ·have hni:k∉dS b W n (bu b G T n).2:=fun z=>he (bX.mp ((et h e).mem_iff.mp z)).2
   rw[AA hni]
   by_cases hlt:bf b (aC W k) < n
   ·rw[yO hlt,yO (by omega)];omega
   ·rw[yQ hlt,yQ (by omega)];rfl
theorem CL(h:Wd G T W)(b:Bool)(hk:k < W.length):(bW b G T W off).getD k 0=(nV W off (bu b G T (bf b (aC W k)).toNat).1 (dS b W (bf b (aC W k)).toNat (bu b G T (bf b (aC W k)).toNat).2)).getD k 0:=by
 have:=(Ag (off:=off) h b _ (yP _)).2 k hk
 obtain⟨_,h2,h3⟩:=h.end_pl b hk
 rw[yO (by omega)] at this
 exact this
theorem z9{amt:Int}:∀ (is:List Nat) (s:Int×List Int),is.Nodup->(∀i∈is,i < s.2.length/\s.2.getD i 0=0) ->
  ((is.foldl (lA W off) s).2.length=s.2.length)/\(is.map fun i=>(is.foldl (lA W off) s).2.getD i 0).sum=s.1 - (is.foldl (lA W off) s).1/\∀j,j∉is->(is.foldl (lA W off) s).2.getD j 0=s.2.getD j 0
 | [],s,_,_=>⟨rfl,by simp,fun _ _=>rfl⟩
 | i::is,s,hn,hz=>by
  rw[kX] at hn
  obtain⟨hi,h0⟩:=hz i zH
  have hs:∀j∈is,j < (lA W off s i).2.length/\(lA W off s i).2.getD j 0=0:=fun j hj=>by
   obtain⟨a,b⟩:=hz j (zE _ hj)
   refine⟨by simpa [lA] using a,?_⟩
   simp only[lA,cm]
   have hne:¬ (i=j/\j < s.2.length):=fun z=>hn.1 (z.1 ▸ hj)
   rw[yQ hne,b]
  obtain⟨r1,r2,r3⟩:=z9 (amt:=amt) is (lA W off s i) hn.2 hs
  rw[yL]
  refine⟨by rw[r1];simp[lA],?_,fun j hj=>?_⟩
  ·rw[zL,kG,r2,r3 i hn.1]
   simp only[lA,cm]
   rw[yO ⟨trivial,hi⟩]
   omega
  ·rw[r3 j fun z=>hj (zE _ z)]
   simp only[lA,cm]
   have hne:¬ (i=j/\j < s.2.length):=fun z=>hj (z.1 ▸ zH)
   rw[yQ hne]
theorem uW(ho:Off off)(hl:Mz W):∀ (is:List Nat) (s:Int×List Int),0<=s.1->0<=(is.foldl (lA W off) s).1
 | [],s,h=>h
 | i::is,s,h=>by
  rw[yL]
  refine uW ho hl is _ ?_
  simp only[lA,cV]
  have:=ho i;have:=hl i
  omega
theorem Hc(h:Wd G T W)(ho:Off off)(hi:i < (aw b G T).length) :
  ((own b W i).map fun k=>(nV W off (bu b G T i).1 (dS b W i (bu b G T i).2)).getD k 0).sum<=(bu b G T i).1:=by
 have e:=eX hi
 have pm:=et h e
 rw[<- u5 (pm.map fun k=>(nV W off (bu b G T i).1 (dS b W i (bu b G T i).2)).getD k 0)]
 have hn:(dS b W i (bu b G T i).2).Nodup:=pm.nodup_iff.mpr (List.nodup_range.filter _)
 obtain⟨_,r2,_⟩:=z9 (W:=W) (off:=off) (amt:=0) (dS b W i (bu b G T i).2) ((bu b G T i).1,List.replicate W.length 0) hn fun k hk=>by
  have hk':=(bX.mp (pm.mem_iff.mp hk)).1
  refine⟨by simpa using hk',by simp[zJ,hk']⟩
 have:=uW ho h.lim (dS b W i (bu b G T i).2) ((bu b G T i).1,List.replicate W.length 0) (h.amt b i)
 unfold nV
 rw[r2]
 show (bu b G T i).1 - _<=(bu b G T i).1
 omega
theorem AH(h:Wd G T W)(ho:Off off)(hi:i < (aw b G T).length):pS b W (bW b G T W off) i<=(bu b G T i).1:=by
 refine jW (Int.le_of_eq ?_) (Hc h ho hi)
 unfold pS
 congr 1
 refine yK fun k hk=>?_
 obtain⟨hk',he⟩:=bX.mp hk
 have:=CL (off:=off) h b hk'
 rw[he,yI] at this
 exact this
theorem Be(h:∀k,k < W.length->P.getD k 0=Q.getD k 0):pS b W P p=pS b W Q p:=by
 unfold pS
 congr 1
 exact yK fun k hk=>h k (bX.mp hk).1
theorem Gf(h:Wd G T W)(ho:Off c)(hc:∀k,k < W.length->c.getD k 0<=(aC W k).2.2)(e:p7 G T W c=none):Pn G T W (bW false G T W c) where
 len:=mq _ _ _ _ _
 bd:=fun k hk=>⟨g8 h ho false k,jW (wt h ho false hk) (hc k hk)⟩
 am:=fun b i hi=>by
  cases b
  ·exact AH h ho hi
  ·have hke:∀k,k < W.length->(iU G T W c).getD k 0=(bW false G T W c).getD k 0:=fun k hk=>by
    have h1:=wt h (g8 h ho false) true hk
    have h2:qR G T W c k=false:=by
     unfold p7 at e
     rw[Option.map_eq_none_iff] at e
     have:=List.find?_eq_none.mp e k (by simpa using hk)
     simpa using this
    unfold qR at h2
    have h3:=wH h2
    unfold iU at h3 ⊢
    omega
   rw[<- Be hke]
   exact AH h (g8 h ho false) hi
end
def zs(n:Nat):List Int:=List.replicate n 0
section
variable {W:List Wy}{G T:List Pl}{d:Nat->Int}
end
section
variable {P off:List Int}
theorem ER:∀ (xs:List Nat),(∀i∈xs,0<=off.getD i 0)->0<=(xs.map fun i=>off.getD i 0).sum
 | [],_=>by simp
 | i::xs,h=>by
  have:=ER xs fun j hj=>h j (zE _ hj)
  have:=h i zH
  rw[zL,kG];omega
theorem Af:∀ (xs:List Nat),(∀i∈xs,0<=P.getD i 0)->(0 < (xs.map fun i=>P.getD i 0).sum↔(xs.any fun i=>decide (0 < P.getD i 0))=true)
 | [],_=>by simp
 | i::xs,h=>by
  have ih:=Af xs fun j hj=>h j (zE _ hj)
  have h0:=ER (off:=P) xs fun j hj=>h j (zE _ hj)
  have hi:=h i zH
  rw[zL,kG,vF,jE,zM,<- ih]
  omega
theorem F2(h:Wd G T W){b:Bool}(hk:k < W.length) :
  let i:=(bf b (aC W k)).toNat
  let L:=(bu b G T i).2
  dS b W i L=(L.take (qd L (bK b (aC W k)))).map (mX b W i)++k::(L.drop (qd L (bK b (aC W k))+1)).map (mX b W i):=by
 intro i L
 obtain⟨h1,h2,h3⟩:=h.end_pl b hk
 have e:=eX h2
 have hm:bK b (aC W k)∈L:=by
  rw[(h.lik e).mem_iff,<- jm]
  exact List.mem_map.mpr ⟨k,bX.mpr ⟨hk,h3.symm⟩,rfl⟩
 have hlt:qd L (bK b (aC W k)) < L.length:=by
  unfold qd
  exact kN ⟨_,hm,by simp⟩
 have hg:L[qd L (bK b (aC W k))]=bK b (aC W k):=by
  have:=List.findIdx_getElem (w:=hlt)
  exact yT this
 have hx:mX b W i (bK b (aC W k))=k:=rX h.wp (bX.mpr ⟨hk,h3.symm⟩)
 unfold dS
 conv=>lhs;rw[<- List.take_append_drop (qd L (bK b (aC W k))) L,vB hlt,hg,jD,zL,hx]
end
theorem qu{tt:Dl.Env->Option Bool}{te:Dl.Env->Option D}{r:List (Option D)}{x y h:Nat->D}{p:Nat->Bool}:∀ (is:List Nat),
  (∀i∈is,tt (some (x i)::some (y i)::r)=some (p i)/\(p i=true->te (some (x i)::some (y i)::r)=some (h i))) ->
  bS (fy 0 1) tt te (none::none::r) (is.map fun i=>.tuple [x i,y i])=some ((is.filter p).map h)
 | [],_=>rfl
 | i::is,hh=>by
  obtain⟨h1,h2⟩:=hh i zH
  have ih:=qu is fun j hj=>hh j (zE _ hj)
  have hg:fy 0 1 (none::none::r) (.tuple [x i,y i])=some (some (x i)::some (y i)::r):=by
   simp only[fy,isFree,xU,xB,qK,wI,jR,xK,yY,yZ]
  rw[zL,bS,hg]
  simp only[zC,h1]
  cases hp:p i with
  | true=>simp[h2 hp,ih,hp]
  | false=>simp[ih,hp]
theorem l5{cs:List Nat}{fi:Dl.Env->Option (List D)}{tt:Dl.Env->Option Bool}{te:Dl.Env->Option D}{ρ:Dl.Env}{n:Nat}{x y h:Nat->D}{p:Nat->Bool}(hfi:fi ρ=some ((List.range n).map fun i=>.tuple [x i,y i]))(hl:n<=1000)
  (hh:∀i,i < n->tt (some (x i)::some (y i)::cs.map fun j=>(ρ[j]?).getD none)=some (p i)/\(p i=true->te (some (x i)::some (y i)::cs.map fun j=>(ρ[j]?).getD none)=some (h i))) :
  aj 2 cs fi (fy 0 1) tt te ρ=some (((List.range n).filter p).map h):=by
 have:=qu (tt:=tt) (te:=te) (r:=cs.map fun j=>(ρ[j]?).getD none) (p:=p) (h:=h) (List.range n) fun i hi=>hh i (by simpa using hi)
 simp only[aj,hfi,zC,dz,List.replicate,xI,xR,this]
 refine aY ?_
 rw[zF]
 refine yF (xS _ _) ?_
 rw[zU]
 omega
theorem rF{W:List Wy}{P:List Int}(h:P.length=W.length):iR (W.map aq) (P.map PyData.int)=(List.range W.length).map fun i=>.tuple [aq (aC W i),.int (P.getD i 0)]:=by
 apply List.ext_getElem?
 intro i
 by_cases hi:i < W.length
 ·have hz:i < (iR (W.map aq) (P.map PyData.int)).length:=by rw[me];simp[h];exact hi
  rw[zN hz]
  obtain⟨x,y,e1,e2,e3⟩:=oR (zN hz)
  rw[zR,l4 hi] at e1
  rw[zR,zN (by omega)] at e2
  cases e1
  have e2:PyData.int P[i]=y:=by simpa using e2
  rw[e3,<- e2]
  have:i < P.length:=by omega
  simp[hi,this,zJ]
 ·rw[jO (by rw[me];simp;omega),jO (by simp;omega)]
def Sm(P:List Int):Prop:=∀k,-1000000<=P.getD k 0/\P.getD k 0<=1000000
theorem F9(hs:Sm P)(hw:W.length<=16)(b:Bool)(p:Int):JA ((own b W p).map fun i=>P.getD i 0)=true:=by
 unfold JA
 rw[zI,zM,xJ]
 refine⟨?_,fun x hx=>?_⟩
 ·have:=so b W p
  rw[zF]
  omega
 ·obtain⟨i,_,rfl⟩:=List.mem_map.mp hx
  rw[zI,zM,zM]
  exact hs i
theorem rO(h:Wd G T W)(hp:P.length=W.length)(hs:Sm P)(b:Bool)(p:Int):dJ [ax G T W,ag P,.int (sI b),.int p]=some (.int (pS b W P p)):=by
 have hw:=h.wl
 refine aN ?_
 show rL [.val (ax G T W),.val (ag P),.val (.int (sI b)),.val (.int p)]=_
 have hz:gN (aa (f2 ao (ab 0) (fC (.int 2))) (aa (ab 1) ae)) [some (ax G T W),some (ag P),some (.int (sI b)),some (.int p)]=some ((List.range W.length).map fun i=>.tuple [aq (aC W i),.int (P.getD i 0)]):=by
  rw[<- rF hp]
  rfl
 have c:aj 2 [2,3] (gN (aa (f2 ao (ab 0) (fC (.int 2))) (aa (ab 1) ae))) (fy 0 1) (fB (f2 bC (f2 ao (ab 0) (ab 2)) (ab 3))) (ab 1) [some (ax G T W),some (ag P),some (.int (sI b)),some (.int p)]=some ((own b W p).map fun i=>.int (P.getD i 0)):=by
  rw[l5 (p:=fun i=>decide (bf b (aC W i)=p)) (h:=fun i=>.int (P.getD i 0)) hz (by omega) fun i hi=>⟨?_,fun _=>rfl⟩]
  ·rfl
  ·show fB (f2 bC (f2 ao (ab 0) (ab 2)) (ab 3)) [some (aq (aC W i)),some (.int (P.getD i 0)),some (.int (sI b)),some (.int p)]=_
   exact c9 (by rw[iD (a:=.int (bf b (aC W i))) (b:=.int p) (ay (n6 b _) rfl rfl) rfl,dk])
 refine aU ?_
 have e:((own b W p).map fun i=>PyData.int (P.getD i 0))=((own b W p).map fun i=>P.getD i 0).map PyData.int:=by rw[zP];rfl
 show aX wz (aa (bT (aj 2 [2,3] (gN (aa (f2 ao (ab 0) (fC (.int 2))) (aa (ab 1) ae))) (fy 0 1) (fB (f2 bC (f2 ao (ab 0) (ab 2)) (ab 3))) (ab 1))) ae) [some (ax G T W),some (ag P),some (.int (sI b)),some (.int p)]=_
 rw[e] at c
 simp only[aX,aa,ae,bT,c,zD,zC]
 show wz [.list (((own b W p).map fun i=>P.getD i 0).map PyData.int)]=_
 simp only[wz,ck,oneOf,fN,zC,cq,F9 hs hw b p,xK]
 rfl
theorem yd(L:List Pl):bh 0 (L.map aF)=(List.range L.length).map fun i=>.tuple [nD i,aF (L.getD i (0,[]))]:=by
 rw[enum_zip]
 apply jK
 ·simp
 ·intro i h1 h2
  have:i < L.length:=by simpa using h2
  simp[this,zJ]
theorem rz(is:List Nat):lT [.list (is.map fun i=>.bool (p i))]=some (.bool (is.all p)):=by
 have:∀is:List Nat,boolsOf (is.map fun i=>PyData.bool (p i))=some (is.map p):=fun is=>by
  induction is with
  | nil=>rfl
  | cons i is ih=>simp[boolsOf,ih]
 simp only[lT,oneOf,zC,this,zD,List.all_map]
 rfl
theorem Ax(h:Wd G T W)(hp:P.length=W.length)(hs:Sm P)(b:Bool):cO [ax G T W,ag P,.int (sI b)]=some (.bool ((List.range (aw b G T).length).all fun i=>decide (pS b W P i<=(bu b G T i).1))):=by
 have hl:=h.pl b
 refine aN ?_
 show iF [.val (ax G T W),.val (ag P),.val (.int (sI b))]=_
 have he:bc (aa (f2 ao (ab 0) (ab 2)) ae) [some (ax G T W),some (ag P),some (.int (sI b))]=some ((List.range (aw b G T).length).map fun i=>.tuple [nD i,aF (bu b G T i)]):=by
  have:=yd (aw b G T)
  unfold bu
  rw[<- this]
  cases b<;>rfl
 have c:=l5 (cs:=[0,1,2]) (tt:=fun _=>some true) (te:=f2 AX (ah 4 dJ (aa (ab 2) (aa (ab 3) (aa (ab 4) (aa (ab 0) ae))))) (f2 ao (ab 1) (fC (.int 0)))) (p:=fun _=>true) (h:=fun i=>.bool (decide (pS b W P i<=(bu b G T i).1))) he (by omega) fun i hi=>⟨rfl,fun _=>ay (a:=.int (pS b W P i)) (b:=.int (bu b G T i).1) rfl (call_of (rO h hp hs b i) rfl rfl) rfl⟩
 refine aU ?_
 show aX lT (aa (bT (aj 2 [0,1,2] (bc (aa (f2 ao (ab 0) (ab 2)) ae)) (fy 0 1) (fun _=>some true) (f2 AX (ah 4 dJ (aa (ab 2) (aa (ab 3) (aa (ab 4) (aa (ab 0) ae))))) (f2 ao (ab 1) (fC (.int 0)))))) ae) [some (ax G T W),some (ag P),some (.int (sI b))]=_
 simp only[aX,aa,ae,bT,c,zD,zC]
 rw[show (List.range (aw b G T).length).filter (fun _=>true)=List.range (aw b G T).length by simp,rz]
theorem pL(ha:fa ρ=some (.bool true))(hb:fb ρ=some d):gD fa fb ρ=some d:=by
 simp only[gD,ha,zC,hb]
theorem Gx(ha:fa ρ=some (.bool false)):gD fa fb ρ=some (.bool false):=by
 simp only[gD,ha,zC]
theorem FQ(ha:fa ρ=some (.bool a))(hb:fb ρ=some (.bool b)):gD fa fb ρ=some (.bool (a&&b)):=by
 cases a
 ·exact Gx ha
 ·exact pL ha hb
theorem i6(h:f ρ=some d):aX g (aa f ae) ρ=g [d]:=by
 simp only[aX,aa,ae,h,zD,zC]
theorem k5{l:List α}(h:f ρ=some (.tuple (l.map k))):aX bo (aa f ae) ρ=some (nD l.length):=by
 rw[i6 h,AW,zF]
def L3(W:List Wy)(P:List Int):Bool:=(List.range W.length).all fun k=>decide (0<=P.getD k 0)&&decide (P.getD k 0<=(aC W k).2.2)
def Mr(b:Bool)(G T:List Pl)(W:List Wy)(P:List Int):Bool:=(List.range (aw b G T).length).all fun i=>decide (pS b W P i<=(bu b G T i).1)
def Lw(G T:List Pl)(W:List Wy)(P:List Int):Bool:=L3 W P&&(Mr false G T W P&&Mr true G T W P)
theorem Fw(hp:P.length=W.length):Lw G T W P=true↔Pn G T W P:=by
 simp only[Lw,L3,Mr,zI,xJ,List.mem_range,zM]
 constructor
 ·rintro⟨h1,h2,h3⟩
  exact⟨hp,h1,fun b=>by cases b<;>assumption⟩
 ·intro p
  exact⟨p.bd,p.am false,p.am true⟩
theorem JB(P:List Int):nI (ag P)=true:=rfl
theorem Ca(h:Wd G T W)(hp:P.length=W.length)(hs:Sm P):ji [ax G T W,ag P]=some (.bool (Lw G T W P)):=by
 have hw:=h.wl
 have hlen:(P.map PyData.int).length=W.length:=by rw[zF,hp]
 refine aN ?_
 show m9 [.val (ax G T W),.val (ag P),.non]=_
 unfold m9
 have t1:Dl.aB 2 [0] (f2 ao (ab 0) (fC (.int 2))) [.val (ax G T W),.val (ag P),.non]=some (.nx [.val (ax G T W),.val (ag P),.val (.tuple (W.map aq))]):=bO (d:=.tuple (W.map aq)) rfl rfl rfl rfl
 rw[ai t1]
 have el:bD [ag P,nD W.length,nD W.length]=some (.bool true):=by
  rw[show nD W.length=.int ((W.length:Nat):Int) from rfl,dB (JB P)]
  simp[long,ag,hp]
 have hl:∀ρ:Dl.Env,ab 2 ρ=some (.tuple (W.map aq))->aX bo (aa (ab 2) ae) ρ=some (nD W.length):=fun ρ hr=>k5 hr
 have c1:(bA (fB (ah 3 bD (aa (ab 1) (aa (aX bo (aa (ab 2) ae)) (aa (aX bo (aa (ab 2) ae)) ae)))))) (aS [.val (ax G T W),.val (ag P),.val (.tuple (W.map aq))])=some false :=
  dQ (c9 (call_of el (cons_of rfl (cons_of (hl _ rfl) (cons_of (hl _ rfl) rfl))) rfl))
 rw[ai (dh c1)]
 have hz:gN (aa (ab 2) (aa (ab 1) ae)) [some (ax G T W),some (ag P),some (.tuple (W.map aq))]=some ((List.range W.length).map fun i=>.tuple [aq (aC W i),.int (P.getD i 0)]):=by
  rw[<- rF hp]
  rfl
 have c2:=l5 (cs:=[]) (tt:=fun _=>some true) (te:=ah 3 bw (aa (ab 1) (aa (fC (.int 0)) (aa (f2 ao (ab 0) (fC (.int 2))) ae)))) (p:=fun _=>true) (h:=fun k=>.bool (decide (0<=P.getD k 0)&&decide (P.getD k 0<=(aC W k).2.2))) hz (by omega)
  fun i hi=>⟨rfl,fun _=>call_of (fw (d:=.int (P.getD i 0)) rfl 0 (aC W i).2.2) rfl rfl⟩
 have hall:(fB (aX lT (aa (bT (aj 2 [] (gN (aa (ab 2) (aa (ab 1) ae))) (fy 0 1) (fun _=>some true) (ah 3 bw (aa (ab 1) (aa (fC (.int 0)) (aa (f2 ao (ab 0) (fC (.int 2))) ae)))))) ae))) [some (ax G T W),some (ag P),some (.tuple (W.map aq))]=some (L3 W P):=by
  refine c9 ?_
  simp only[aX,aa,ae,bT,c2,zD,zC]
  rw[show (List.range W.length).filter (fun _=>true)=List.range W.length by simp,rz]
  rfl
 have k0:=Ax h hp hs false
 have k1:=Ax h hp hs true
 cases hb:L3 W P with
 | false =>
  rw[hb] at hall
  refine k9 ((fS (dQ hall)).trans ?_)
  rw[Lw,hb]
  exact aU rfl
 | true =>
  rw[hb] at hall
  rw[ai (dh (dQ hall)),Lw,hb,jN]
  exact aU (FQ (call_of k0 rfl rfl) (call_of k1 rfl rfl))
theorem Kl(hk:k < W.length):aC W k∈W:=gf hk ▸ qD hk
theorem Pn.smP(h:Wd G T W)(p:Pn G T W P):Sm P:=fun k=>by
 by_cases hk:k < W.length
 ·have:=p.bd k hk
  have:=(h.wr _ (Kl hk)).2.2.2
  omega
 ·rw[zJ,jO (by rw[p.len];omega)]
  simp
section
theorem p5(h:Wd G T W)(p:Pn G T W P):ji [ax G T W,ag P]=some (.bool true):=by
 rw[Ca h p.len (p.smP h),(Fw p.len).mpr p]
theorem gX(h:Wd G T W)(p:Pn G T W P):c7 [ax G T W,ag P]=some .none:=by
 have:eP [.val (ax G T W),.val (ag P)]=some (.nx [.val (ax G T W),.val (ag P)]):=by
  unfold eP
  refine (ai (cU (call_of (cK h) rfl rfl))).trans ?_
  exact dh (dQ (c9 (call_of (p5 h p) rfl rfl)))
 show (eP [.val (ax G T W),.val (ag P)]).map _=_
 rw[this]
 rfl
end
def l9(W:List Wy)(i:Nat):List Int:=[(aC W i).2.1,(aC W i).1]
def fJ(W:List Wy):List (List Int):=(List.range W.length).map (l9 W)
def cE(W:List Wy):List Nat:=lx (fun i=>rk (fJ W) ((fJ W).getD i [])) (List.range W.length) 0
theorem DJ(z:Nat->Int)(n:Nat):lx z ((List.range n).map nD) .none=(lx z (List.range n) 0).map nD:=by
 unfold lx
 rw[zF]
 split
 ·rfl
 ·rename_i h
  rw[zP]
  obtain⟨hp,_⟩:=SP.dY (z:=z) (n:=(List.range n).length) (by omega)
  refine yK fun i hi=>?_
  have hi':i < (List.range n).length:=by have:=hp.mem_iff.mp hi;simpa using this
  rw[zU] at hi'
  simp[hi']
theorem CT(hi:i < W.length):(fJ W).getD i []=l9 W i:=by
 simp[fJ,hi]
theorem fM(h:r6 W):Ord W (cE W) where
 perm:=c4 _ _ _
 up:=by
  have hp:(cE W).Perm (List.range W.length):=c4 _ _ _
  have hs:(cE W).Pairwise fun i j=>rk (fJ W) (l9 W i)<=rk (fJ W) (l9 W j):=by
   refine pC _ _ _ (fun i=>rk (fJ W) (l9 W i)) fun i hi=>?_
   rw[zU] at hi
   have e:(List.range W.length).getD i 0=i:=by simp[hi]
   show rk (fJ W) ((fJ W).getD i [])=rk (fJ W) (l9 W ((List.range W.length).getD i 0))
   rw[e,CT hi]
  have hn:(cE W).Nodup:=hp.nodup_iff.mpr List.nodup_range
  refine (hs.and hn).imp_of_mem fun {i j} hi hj hij=>?_
  have hi':i < W.length:=by have:=hp.mem_iff.mp hi;simpa using this
  have hj':j < W.length:=by have:=hp.mem_iff.mp hj;simpa using this
  obtain⟨hle,hne⟩:=hij
  have mj:l9 W j∈fJ W:=List.mem_map.mpr ⟨j,by simpa using hj',rfl⟩
  have n1:Dl.lexLt (l9 W j) (l9 W i)=false:=by
   rw[Aj mj,xE]
   omega
  simp only[l9,HT.lexLt] at n1
  by_cases e1:(aC W j).2.1=(aC W i).2.1
  ·rw[yO e1] at n1
   by_cases e2:(aC W j).1=(aC W i).1
   ·exact absurd (rZ h hj' hi' e2 e1).symm hne
   ·rw[yQ e2,xE] at n1
    exact .inr ⟨e1.symm,by omega⟩
  ·rw[yQ e1,xE] at n1
   exact .inl (by omega)
theorem tup_is(h:fs ρ=some ds)(hl:ds.length<=1000):aM fs ρ=some (.tuple ds):=by
 simp only[aM,h,zC,aY (show ds.length<=4000 by omega),zD]
theorem Nb(w:Wy):ao (aq w) (.int 0)=some (.int w.1):=rfl
theorem MP(w:Wy):ao (aq w) (.int 1)=some (.int w.2.1):=rfl
section
theorem iT(h:Wd G T W):bp [ax G T W]=some (.list ((cE W).map nD)):=by
 have hw:=h.wl
 have t1:Dl.aB 1 [0] (f2 ao (ab 0) (fC (.int 2))) [.val (ax G T W),.non]=some (.nx [.val (ax G T W),.val (.tuple (W.map aq))]):=bO (d:=.tuple (W.map aq)) rfl rfl rfl rfl
 have hl:(aX bo (aa (ab 1) ae)) [some (ax G T W),some (.tuple (W.map aq))]=some (nD W.length):=k5 (l:=W) (k:=aq) rfl
 have hk:gT (aM (aa (f2 ao (f2 ao (ab 1) (ab 0)) (fC (.int 1))) (aa (f2 ao (f2 ao (ab 1) (ab 0)) (fC (.int 0))) ae))) [none,some (.tuple (W.map aq))] ((List.range W.length).map nD)=some (((List.range W.length).map nD).map fun d=>ag (l9 W (gV d).toNat)):=by
  refine mN fun d hd=>?_
  obtain⟨j,hj,rfl⟩:=List.mem_map.mp hd
  have hj':j < W.length:=by simpa using hj
  have a:∀ρ:Dl.Env,ab 1 ρ=some (.tuple (W.map aq))->ab 0 ρ=some (nD j)->(f2 ao (ab 1) (ab 0)) ρ=some (aq (aC W j)):=fun ρ e1 e2=>ay (mP hj') e1 e2
  show aM (aa (f2 ao (f2 ao (ab 1) (ab 0)) (fC (.int 1))) (aa (f2 ao (f2 ao (ab 1) (ab 0)) (fC (.int 0))) ae)) [some (nD j),some (.tuple (W.map aq))]=_
  have c2:(aa (f2 ao (f2 ao (ab 1) (ab 0)) (fC (.int 1))) (aa (f2 ao (f2 ao (ab 1) (ab 0)) (fC (.int 0))) ae)) [some (nD j),some (.tuple (W.map aq))]=some [.int (aC W j).2.1,.int (aC W j).1] :=
   cons_of (ay (MP (aC W j)) (a _ rfl rfl) rfl) (cons_of (ay (Nb (aC W j)) (a _ rfl rfl) rfl) rfl)
  rw[tup_is c2 (by simp)]
  simp[gV,l9,ag]
 have hr:rowsOf (((List.range W.length).map nD).map fun d=>ag (l9 W (gV d).toNat))=some (fJ W):=by
  have e:(((List.range W.length).map nD).map fun d=>ag (l9 W (gV d).toNat))=(fJ W).map ag:=by
   simp only[zP,fJ]
   refine yK fun j hj=>?_
   simp[gV]
  rw[e,ki]
  intro ns hns
  obtain⟨j,_,rfl⟩:=List.mem_map.mp hns
  exact List.cons_ne_nil _ _
 refine aN ?_
 show e8 [.val (ax G T W),.non]=_
 unfold e8
 rw[ai t1]
 refine aU ?_
 have es:pG [1] (aa (aX bo (aa (ab 1) ae)) ae) (aM (aa (f2 ao (f2 ao (ab 1) (ab 0)) (fC (.int 1))) (aa (f2 ao (f2 ao (ab 1) (ab 0)) (fC (.int 0))) ae))) [some (ax G T W),some (.tuple (W.map aq))]=some ((cE W).map nD):=by
  unfold pG
  rw[cons_of hl rfl,zC]
  show (if (0:Int)<=((W.length:Nat):Int)/\((W.length:Nat):Int) < 64 then _ else none)=_
  rw[yO ⟨by omega,by omega⟩,yI]
  show (gT _ [none,some (.tuple (W.map aq))] ((List.range W.length).map nD)).bind _=_
  rw[hk,zC,hr,zD]
  exact jF some (DJ _ _)
 show bT _ [some (ax G T W),some (.tuple (W.map aq))]=_
 simp only[bT,es,zD]
theorem m8{cs:List Nat}{fi:Dl.Env->Option (List D)}{te:Dl.Env->Option D}{ρ:Dl.Env}{is:List Nat}{f:Nat->D}(hfi:fi ρ=some (is.map nD))(hl:is.length<=1000)(hh:∀i∈is,te (some (nD i)::cs.map fun j=>(ρ[j]?).getD none)=some (f i)):aj 1 cs fi (fG 0) (fun _=>some true) te ρ=some (is.map f):=by
 rw[bM (h:=fun d=>f (gV d).toNat) hfi (by rw[zF];omega) fun d hd=>?_]
 ·rw[zP]
  refine jF some (yK fun i _=>?_)
  simp[gV]
 ·obtain⟨i,hi,rfl⟩:=List.mem_map.mp hd
  rw[hh i hi]
  simp[gV]
theorem uN(h:m ds=some (.list es))(hf:fs ρ=some ds)(hn:ds.length=n):aQ (ah n m fs) ρ=some es:=by
 simp only[aQ,call_of h hf hn,zC,fN]
theorem zw(h:r6 W)(hi:i∈cE W):i < W.length:=by
 have:=(fM h).perm.mem_iff.mp hi
 simpa using this
theorem uk(h:r6 W):(cE W).length=W.length:=(fM h).len
theorem nj:∀ (l:List Wy),bS (E8 0 1 2) (fun _=>some true) (aM (aa (ab 1) (aa (ab 0) (aa (ab 2) ae)))) (none::none::none::r) (l.map aq)=some ((l.map JC).map aq)
 | []=>rfl
 | w::l=>by
  have ih:=nj (r:=r) l
  have hg:E8 0 1 2 (none::none::none::r) (aq w)=some (some (.int w.1)::some (.int w.2.1)::some (.int w.2.2)::r):=rfl
  rw[zL,bS,hg,zC]
  have e:aM (aa (ab 1) (aa (ab 0) (aa (ab 2) ae))) (some (.int w.1)::some (.int w.2.1)::some (.int w.2.2)::r)=some (aq (JC w)):=rfl
  simp only[zC,xK,e,ih,zD,zL]
theorem vp(h:Wd G T W):lL [ax G T W]=some (ax T G (fA W (cE W))):=by
 have hw:=h.wl
 have hn:=uk h.wp
 refine aN ?_
 show o4 [.val (ax G T W),.non]=_
 unfold o4
 refine (ai (cU (call_of (cK h) rfl rfl))).trans ?_
 have c:aj 1 [0] (aQ (ah 1 bp (aa (ab 0) ae))) (fG 0) (fun _=>some true) (f2 ao (f2 ao (ab 1) (fC (.int 2))) (ab 0)) [some (ax G T W),none]=some ((cE W).map fun i=>aq (aC W i)) :=
  m8 (uN (iT h) rfl rfl) (by omega) fun i hi=>ay (mP (zw h.wp hi)) rfl rfl
 have t2:aL 1 [0] (aj 1 [0] (aQ (ah 1 bp (aa (ab 0) ae))) (fG 0) (fun _=>some true) (f2 ao (f2 ao (ab 1) (fC (.int 2))) (ab 0))) [.val (ax G T W),.non]=some (.nx [.val (ax G T W),.own ((cE W).map fun i=>aq (aC W i))]):=gE c rfl
 rw[ai t2]
 refine aU ?_
 have e3:aj 3 [] (aQ (ab 1)) (E8 0 1 2) (fun _=>some true) (aM (aa (ab 1) (aa (ab 0) (aa (ab 2) ae)))) [some (ax G T W),some (.list ((cE W).map fun i=>aq (aC W i)))]=some ((fA W (cE W)).map aq):=by
  have:=nj (r:=[]) ((cE W).map fun i=>aC W i)
  rw[zP,zP] at this
  have hf:aQ (ab 1) [some (ax G T W),some (.list ((cE W).map fun i=>aq (aC W i)))]=some ((cE W).map fun i=>aq (aC W i)):=rfl
  unfold aj
  rw[hf,zC]
  show (bS (E8 0 1 2) (fun _=>some true) (aM (aa (ab 1) (aa (ab 0) (aa (ab 2) ae)))) [none,none,none] ((cE W).map fun i=>aq (aC W i))).bind small=_
  rw[show ((cE W).map fun i=>aq (aC W i))=List.map (aq ∘ fun i=>aC W i) (cE W) from rfl,this,zC]
  rw[aY (by simp;omega),fA]
  simp only[zP]
  rfl
 show aM (aa (f2 ao (ab 0) (fC (.int 1))) (aa (f2 ao (ab 0) (fC (.int 0))) (aa (aX aK (aa (bT (aj 3 [] (aQ (ab 1)) (E8 0 1 2) (fun _=>some true) (aM (aa (ab 1) (aa (ab 0) (aa (ab 2) ae)))))) ae)) ae))) [some (ax G T W),some (.list ((cE W).map fun i=>aq (aC W i)))]=_
 have e4:(aX aK (aa (bT (aj 3 [] (aQ (ab 1)) (E8 0 1 2) (fun _=>some true) (aM (aa (ab 1) (aa (ab 0) (aa (ab 2) ae)))))) ae)) [some (ax G T W),some (.list ((cE W).map fun i=>aq (aC W i)))]=some (.tuple ((fA W (cE W)).map aq)):=by
  simp only[aX,aa,ae,bT,e3,zD,zC,xo]
 exact tup_is (ds:=[.tuple (T.map aF),.tuple (G.map aF),.tuple ((fA W (cE W)).map aq)]) (cons_of (ay (a:=ax G T W) (b:=.int 1) (c:=.tuple (T.map aF)) rfl rfl rfl) (cons_of (ay (a:=ax G T W) (b:=.int 0) (c:=.tuple (G.map aF)) rfl rfl rfl) (cons_of e4 rfl))) (by simp)
theorem p4(h:Wd G T W)(p:Pn G T W P):gx [ax G T W,ag P]=some (ag (wb P (cE W))):=by
 have hw:=h.wl
 have hn:=uk h.wp
 refine aN ?_
 show f9 [.val (ax G T W),.val (ag P)]=_
 unfold f9
 refine (ai (cU (call_of (gX h p) rfl rfl))).trans ?_
 have c:aj 1 [1] (aQ (ah 1 bp (aa (ab 0) ae))) (fG 0) (fun _=>some true) (f2 ao (ab 1) (ab 0)) [some (ax G T W),some (ag P)]=some ((cE W).map fun i=>.int (P.getD i 0)) :=
  m8 (uN (iT h) rfl rfl) (by omega) fun i hi=>ay (oJ (by rw[p.len];exact zw h.wp hi)) rfl rfl
 refine aU ?_
 show aX aK (aa (bT (aj 1 [1] (aQ (ah 1 bp (aa (ab 0) ae))) (fG 0) (fun _=>some true) (f2 ao (ab 1) (ab 0)))) ae) [some (ax G T W),some (ag P)]=_
 simp only[aX,aa,ae,bT,c,zD,zC,xo]
 simp[ag,wb]
end
theorem FJ(h:f ρ=some (.list ds))(h2:g ρ=some (nD k)):mT gG f (Bx g) mQ ρ=some (.list (ds.drop k)):=by
 have:=va ds k
 simp only[mT,h,Bx,h2,mQ,gI,gG,zC,zD,this]
theorem BN(is:List Nat):Rf.EX [.list (is.map fun i=>.bool (p i))]=some (.bool (is.any p)):=by
 have:∀is:List Nat,boolsOf (is.map fun i=>PyData.bool (p i))=some (is.map p):=fun is=>by
  induction is with
  | nil=>rfl
  | cons i is ih=>simp[boolsOf,ih]
 simp only[Rf.EX,oneOf,zC,this,zD,wQ]
 rfl
theorem lJ(f:α->β)(p:β->Bool)(q:α->Bool):∀ (l:List α),(∀x∈l,p (f x)=q x)->(l.map f).findIdx p=l.findIdx q
 | [],_=>rfl
 | x::l,h=>by
  rw[zL,vD,vD,h x zH,lJ f p q l fun y hy=>h y (zE _ hy)]
section
theorem J1(h:Wd G T W){b:Bool}{i:Nat}(e:(aw b G T)[i]?=some p){k:Nat}(hk:k < W.length)(he:bf b (aC W k)=i):nU (.list ((dS b W i p.2).map nD)) (nD k)=some (nD (qd p.2 (bK b (aC W k)))):=by
 have ko:k∈own b W i:=bX.mpr ⟨hk,he⟩
 have km:k∈dS b W i p.2:=(et h e).mem_iff.mpr ko
 have e1:(dS b W i p.2).map nD=((dS b W i p.2).map fun j=>((j:Nat):Int)).map PyData.int:=by rw[zP];rfl
 have m1:((k:Nat):Int)∈(dS b W i p.2).map fun j=>((j:Nat):Int):=List.mem_map.mpr ⟨k,km,rfl⟩
 rw[e1]
 show (intsOf _).bind _=_
 rw[cq,zC,m7 m1,zD]
 have e2:((dS b W i p.2).map fun j=>((j:Nat):Int)).findIdx (fun o=>decide (o=((k:Nat):Int)))=qd p.2 (bK b (aC W k)):=by
  unfold dS qd
  rw[zP]
  refine lJ _ _ _ _ fun x hx=>?_
  obtain⟨hl,h1,h2⟩:=jq h e hx
  show decide (((mX b W i x:Nat):Int)=(k:Int))=decide (x=bK b (aC W k))
  rw[decide_eq_decide]
  constructor
  ·intro z
   have z:mX b W i x=k:=by omega
   rw[<- z,h2]
  ·intro z
   rw[z,rX h.wp ko]
 rw[e2]
theorem mn(h:Wd G T W)(hp:P.length=W.length)(hs:Sm P)(b:Bool){k:Nat}(hk:k < W.length):cC [ax G T W,ag P,.int (sI b),nD k]=some (.bool (sT b G T W P k)):=by
 have hw:=h.wl
 obtain⟨z1,z2,z3⟩:=h.end_pl b hk
 have hx:(aw b G T)[(bf b (aC W k)).toNat]?=some (bu b G T (bf b (aC W k)).toNat):=by
  rw[zN z2]
  simp[bu,z2]
 have hL:∀x∈(bu b G T (bf b (aC W k)).toNat).2,_:=fun x hx'=>jq h hx hx'
 have hb:(bu b G T (bf b (aC W k)).toNat).2.length<=16:=by
  have:=(et h hx).length_eq
  have h2:=so b W ((bf b (aC W k)).toNat:Int)
  unfold dS at this
  rw[zF] at this
  omega
 have ei:=J1 h hx hk z3.symm
 have ew:=rq h hx
 generalize hpl:bu b G T (bf b (aC W k)).toNat=pl at *
 generalize hj:(bf b (aC W k)).toNat=j at *
 have ez:PyData.int (bf b (aC W k))=nD j:=by rw[<- z3]
 refine aN ?_
 show g9 [.val (ax G T W),.val (ag P),.val (.int (sI b)),.val (nD k),.non,.non,.non]=_
 unfold g9
 have t4:Dl.aB 4 [0,2,3] (f2 ao (f2 ao (f2 ao (ab 0) (fC (.int 2))) (ab 3)) (ab 2)) [.val (ax G T W),.val (ag P),.val (.int (sI b)),.val (nD k),.non,.non,.non]=some (.nx [.val (ax G T W),.val (ag P),.val (.int (sI b)),.val (nD k),.val (nD j),.non,.non]):=by
  rw[<- ez]
  exact cX (d:=.int (bf b (aC W k))) (ay (n6 b _) (ay (mP hk) rfl rfl) rfl) rfl
 rw[ai t4]
 have ep:ao (.tuple ((aw b G T).map aF)) (nD j)=some (aF pl):=k8 hx
 have ct:(fB (f2 Cf (ah 4 dJ (aa (ab 0) (aa (ab 1) (aa (ab 2) (aa (ab 4) ae))))) (f2 ao (f2 ao (f2 ao (ab 0) (ab 2)) (ab 4)) (fC (.int 0))))) (aS [.val (ax G T W),.val (ag P),.val (.int (sI b)),.val (nD k),.val (nD j),.non,.non])=some (decide (pS b W P j < pl.1)):=by
  refine c9 (ay (l7 _ _) (call_of (rO h hp hs b j) rfl rfl) ?_)
  refine ay (a:=aF pl) (b:=.int 0) rfl (ay ep (ay (dW b G T W) rfl rfl) rfl) rfl
 have hm:sT b G T W P k=(decide (pS b W P j < pl.1)||(pl.2.drop (qd pl.2 (bK b (aC W k))+1)).any fun o=>decide (0 < P.getD (mX b W j o) 0)):=by
  unfold sT
  rw[hj,hpl,z3]
 rw[hm]
 cases hc:decide (pS b W P j < pl.1) with
 | true =>
  rw[hc] at ct
  exact k9 ((fS ct).trans (aU rfl))
 | false =>
  rw[hc] at ct
  rw[ai (dh ct),Bool.false_or]
  have t5:Dl.aB 5 [0,2,4] (ah 3 gR (aa (ab 0) (aa (ab 2) (aa (ab 4) ae)))) [.val (ax G T W),.val (ag P),.val (.int (sI b)),.val (nD k),.val (nD j),.non,.non]=some (.nx [.val (ax G T W),.val (ag P),.val (.int (sI b)),.val (nD k),.val (nD j),.val (.list ((dS b W j pl.2).map nD)),.non]) :=
   bN (call_of ew rfl rfl) (call_of ew rfl rfl) rfl
  rw[ai t5]
  have cu:∀ρ:Dl.Env,ab 5 ρ=some (.list ((dS b W j pl.2).map nD))->ab 3 ρ=some (nD k)->(mT gG (ab 5) (Bx (f2 aR (f2 nU (ab 5) (ab 3)) (fC (.int 1)))) mQ) ρ=some (.list (((dS b W j pl.2).map nD).drop (qd pl.2 (bK b (aC W k))+1))):=fun ρ a c =>
   FJ a (ay (gQ _ _) (ay ei a c) rfl)
  have t6:Dl.aB 6 [3,5] (mT gG (ab 5) (Bx (f2 aR (f2 nU (ab 5) (ab 3)) (fC (.int 1)))) mQ) [.val (ax G T W),.val (ag P),.val (.int (sI b)),.val (nD k),.val (nD j),.val (.list ((dS b W j pl.2).map nD)),.non]=some (.nx [.val (ax G T W),.val (ag P),.val (.int (sI b)),.val (nD k),.val (nD j),.val (.list ((dS b W j pl.2).map nD)),.val (.list (((dS b W j pl.2).drop (qd pl.2 (bK b (aC W k))+1)).map nD))]):=by
   rw[List.map_drop]
   exact bN (cu _ rfl rfl) (cu _ rfl rfl) rfl
  rw[ai t6]
  have c:aj 1 [1] (aQ (ab 6)) (fG 0) (fun _=>some true) (f2 Cg (f2 ao (ab 1) (ab 0)) (fC (.int 0))) [some (ax G T W),some (ag P),some (.int (sI b)),some (nD k),some (nD j),some (.list ((dS b W j pl.2).map nD)),some (.list (((dS b W j pl.2).drop (qd pl.2 (bK b (aC W k))+1)).map nD))]=some (((dS b W j pl.2).drop (qd pl.2 (bK b (aC W k))+1)).map fun i=>.bool (decide (0 < P.getD i 0))):=by
   refine m8 rfl ?_ fun i hi=>?_
   ·rw[qL,dS,zF]
    omega
   ·have hi':=List.mem_of_mem_drop hi
    unfold dS at hi'
    obtain⟨x,hx',rfl⟩:=List.mem_map.mp hi'
    exact ay (ix _ _) (ay (oJ (by rw[hp];exact (hL x hx').1)) rfl rfl) rfl
  refine aU ?_
  show aX Rf.EX (aa (bT (aj 1 [1] (aQ (ab 6)) (fG 0) (fun _=>some true) (f2 Cg (f2 ao (ab 1) (ab 0)) (fC (.int 0))))) ae) [some (ax G T W),some (ag P),some (.int (sI b)),some (nD k),some (nD j),some (.list ((dS b W j pl.2).map nD)),some (.list (((dS b W j pl.2).drop (qd pl.2 (bK b (aC W k))+1)).map nD))]=_
  simp only[aX,aa,ae,bT,c,zD,zC,BN]
  unfold dS
  rw[<- List.map_drop,wQ]
  rfl
def KJ:Nat->D|0=>.str "full" | 1=>.str "giver" | 2=>.str "taker" | _=>.none
theorem oC(h:Wd G T W)(hp:P.length=W.length)(hs:Sm P)(hk:k < W.length):cR [ax G T W,ag P,nD k]=some (KJ (j7 G T W P k)):=by
 refine aN ?_
 show lr [.val (ax G T W),.val (ag P),.val (nD k)]=_
 unfold lr j7
 have c1:(fB (f2 bC (f2 ao (ab 1) (ab 2)) (f2 ao (f2 ao (f2 ao (ab 0) (fC (.int 2))) (ab 2)) (fC (.int 2))))) (aS [.val (ax G T W),.val (ag P),.val (nD k)])=some (decide (P.getD k 0=(aC W k).2.2)) :=
  c9 (ay (dk _ _) (ay (oJ (by rw[hp];exact hk)) rfl rfl) (ay (a:=aq (aC W k)) (b:=.int 2) rfl (ay (mP hk) rfl rfl) rfl))
 have w0:=mn h hp hs false hk
 have w1:=mn h hp hs true hk
 have c2:(bA (fB (ah 4 cC (aa (ab 0) (aa (ab 1) (aa (fC (.int 0)) (aa (ab 2) ae))))))) (aS [.val (ax G T W),.val (ag P),.val (nD k)])=some (!(sT false G T W P k)):=dQ (c9 (call_of w0 rfl rfl))
 have c3:(bA (fB (ah 4 cC (aa (ab 0) (aa (ab 1) (aa (fC (.int 1)) (aa (ab 2) ae))))))) (aS [.val (ax G T W),.val (ag P),.val (nD k)])=some (!(sT true G T W P k)):=dQ (c9 (call_of w1 rfl rfl))
 by_cases e1:P.getD k 0=(aC W k).2.2
 ·rw[yC e1] at c1
  rw[yO e1]
  exact k9 ((fS c1).trans (aU rfl))
 ·rw[yB e1] at c1
  rw[yQ e1,ai (dh c1)]
  cases e2:sT false G T W P k with
  | false =>
   rw[e2] at c2
   rw[yO rfl]
   exact k9 ((fS c2).trans (aU rfl))
  | true =>
   rw[e2] at c2
   rw[yQ (by simp),ai (dh c2)]
   cases e3:sT true G T W P k with
   | false =>
    rw[e3] at c3
    rw[yO rfl]
    exact k9 ((fS c3).trans (aU rfl))
   | true =>
    rw[e3] at c3
    rw[yQ (by simp),ai (dh c3)]
    exact aU rfl
theorem Eu(G T:List Pl)(W:List Wy)(P:List Int)(k:Nat):j7 G T W P k<=3:=by
 unfold j7
 split
 ·omega
 ·split
  ·omega
  ·split<;>omega
theorem ze(n:Nat)(h:n<=3):nS (KJ n) .none=some (.bool (decide (n=3))):=by
 match n,h with
 | 0,_=>rfl
 | 1,_=>rfl
 | 2,_=>rfl
 | 3,_=>rfl
theorem uM{W:List Wy}{P:List Int}(hp:P.length=W.length)(hf:f ρ=some (ag P)):(aa (aX bo (aa f ae)) ae) ρ=some [nD W.length]:=by
 have:=GI P
 rw[hp] at this
 refine cons_of ?_ rfl
 rw[i6 hf,this]
theorem nR(h:Wd G T W)(hp:P.length=W.length)(hs:Sm P):eC [ax G T W,ag P]=some (match (List.range W.length).find? fun k=>decide (j7 G T W P k=3) with|some k=>nD k|none=>.none):=by
 have hw:=h.wl
 refine aN ?_
 show eJ [.val (ax G T W),.val (ag P),.non]=_
 unfold eJ
 obtain⟨f1,f2'⟩:=ku (tgt:=pW 2) (gb:=fH (fB (f2 nS (ah 3 cR (aa (ab 0) (aa (ab 1) (aa (ab 2) ae)))) (fC .none))) (aJ (ab 2)) fQ) (fun ρ=>∃x,ρ=[.val (ax G T W),.val (ag P),x]) nD (fun k=>decide (j7 G T W P k=3)) nD
  (l:=List.range W.length) (ρ:=[.val (ax G T W),.val (ag P),.non])
  (fun ρ k hk hρ=>by
   obtain⟨x,rfl⟩:=hρ
   have hk':k < W.length:=by simpa using hk
   have c:(fB (f2 nS (ah 3 cR (aa (ab 0) (aa (ab 1) (aa (ab 2) ae)))) (fC .none))) (aS [.val (ax G T W),.val (ag P),.val (nD k)])=some (decide (j7 G T W P k=3)) :=
    c9 (ay (ze _ (Eu G T W P k)) (call_of (oC h hp hs hk') rfl rfl) rfl)
   refine⟨_,rfl,fun hq=>?_,fun hq=>?_⟩
   ·show fH _ _ _ [.val (ax G T W),.val (ag P),.val (nD k)]=_
    rw[hq] at c
    exact (fS c).trans (aU rfl)
   ·rw[hq] at c
    exact⟨_,dh c,_,rfl⟩) ⟨_,rfl⟩
 have hr:bq (aa (aX bo (aa (ab 1) ae)) ae) [some (ax G T W),some (ag P),none]=some ((List.range W.length).map nD):=pf (uM hp rfl) (by omega)
 cases e:(List.range W.length).find? fun k=>decide (j7 G T W P k=3) with
 | some k=>exact k9 (c6 (f1 k e) hr rfl)
 | none =>
  obtain⟨ρ',e',x,rfl⟩:=f2' e
  exact (ai (c6 e' hr rfl)).trans (aU rfl)
theorem wY(h:Wd G T W)(hp:P.length=W.length)(hs:Sm P):lb [ax G T W,ag P]=some (.bool (decide (v9 G T W P=[]))):=by
 refine aN ?_
 show lu [.val (ax G T W),.val (ag P)]=_
 unfold lu
 refine aU (ay ?_ (call_of (nR h hp hs) rfl rfl) rfl)
 cases e:(List.range W.length).find? fun k=>decide (j7 G T W P k=3) with
 | some k =>
  have:v9 G T W P≠[]:=fun z=>by
   have hm:=kA e
   have hq:=vS e
   have:k∈v9 G T W P:=List.mem_filter.mpr ⟨hm,hq⟩
   rw[z] at this
   cases this
  rw[yB this]
  rfl
 | none =>
  have:v9 G T W P=[]:=by
   rw[List.find?_eq_none] at e
   exact List.filter_eq_nil_iff.mpr e
  rw[yC this]
  rfl
theorem F7(h:Wd G T W)(p:Pn G T W P):lN [ax G T W,ag P]=some (.bool (decide (v9 G T W P=[]))):=by
 refine aN ?_
 show tI [.val (ax G T W),.val (ag P)]=_
 unfold tI
 refine (ai (cU (call_of (gX h p) rfl rfl))).trans ?_
 exact aU (call_of (wY h p.len (p.smP h)) rfl rfl)
theorem nN:∀ (is:List Nat),(∀i∈is,tt (some (nD i)::r)=some (q i)/\(q i=true->te (some (nD i)::r)=some (f i)))->bS (fG 0) tt te (none::r) (is.map nD)=some ((is.filter q).map f)
 | [],_=>rfl
 | i::is,h=>by
  have ih:=nN (tt:=tt) (te:=te) (r:=r) (f:=f) (q:=q) is fun j hj=>h j (zE _ hj)
  obtain⟨h1,h2⟩:=h i zH
  have hg:fG 0 (none::r) (nD i)=some (some (nD i)::r):=rfl
  rw[zL,bS,hg,zC,h1,zC,jZ]
  cases e:q i with
  | true =>
   rw[yO rfl,yO rfl,h2 e,zC,ih]
   rfl
  | false =>
   rw[yQ (by simp),yQ (by simp),ih]
theorem xv{cs:List Nat}{fi:Dl.Env->Option (List D)}{tt:Dl.Env->Option Bool}{te:Dl.Env->Option D}{ρ:Dl.Env}{is:List Nat}{f:Nat->D}{q:Nat->Bool}(hfi:fi ρ=some (is.map nD))(hl:is.length<=1000)(hh:∀i∈is,tt (some (nD i)::cs.map fun j=>(ρ[j]?).getD none)=some (q i)/\(q i=true->te (some (nD i)::cs.map fun j=>(ρ[j]?).getD none)=some (f i))):aj 1 cs fi (fG 0) tt te ρ=some ((is.filter q).map f):=by
 have:=nN is hh
 simp only[aj,hfi,zC,dz,List.replicate,xI,xR,this]
 refine aY ?_
 rw[zF]
 refine yF (xS _ _) ?_
 omega
theorem B9(h:Wd G T W)(p:Pn G T W P):j1 [ax G T W,ag P]=some (.list ((v9 G T W P).map nD)):=by
 have hw:=h.wl
 have hp:=p.len
 refine aN ?_
 show m6 [.val (ax G T W),.val (ag P)]=_
 unfold m6
 refine (ai (cU (call_of (gX h p) rfl rfl))).trans ?_
 have c:aj 1 [0,1] (bq (aa (aX bo (aa (ab 1) ae)) ae)) (fG 0) (fB (f2 nS (ah 3 cR (aa (ab 1) (aa (ab 2) (aa (ab 0) ae)))) (fC .none))) (ab 0) [some (ax G T W),some (ag P)]=some ((v9 G T W P).map nD) :=
  xv (pf (uM hp rfl) (by omega)) (by rw[zU];omega) fun k hk=>⟨c9 (ay (ze _ (Eu G T W P k)) (call_of (oC h hp (p.smP h) (by simpa using hk)) rfl rfl) rfl),fun _=>rfl⟩
 refine aU ?_
 show bT _ [some (ax G T W),some (ag P)]=_
 simp only[bT,c,zD]
theorem p8(h:Wd G T W)(hb:aO [ax T G (fA W (cE W))]=some (ag c))(p:Pn T G (fA W (cE W)) c):b9 [ax G T W]=some (ag (wb c (cE (fA W (cE W))))):=by
 have o:=fM h.wp
 have h':=o.wd h
 refine aN ?_
 show gp [.val (ax G T W),.non]=_
 unfold gp
 have t1:Dl.aB 1 [0] (ah 1 lL (aa (ab 0) ae)) [.val (ax G T W),.non]=some (.nx [.val (ax G T W),.val (ax T G (fA W (cE W)))]):=bN (call_of (vp h) rfl rfl) (call_of (vp h) rfl rfl) rfl
 rw[ai t1]
 exact aU (call_of (p4 h' p) (cons_of rfl (cons_of (call_of hb rfl rfl) rfl)) rfl)
end
theorem lI(f:Nat->D)(R:Nat->ar->Prop):∀ (n k:Nat) (ρ:ar),
  (∀j ρ,k<=j->j < k+n->R j ρ->∃ρ1 ρ2,tgt ρ (f j)=some ρ1/\gb ρ1=some (.nx ρ2)/\R (j+1) ρ2)->R k ρ->∃ρ',eE tgt gb ((List.range' k n).map f) ρ=some (.nx ρ')/\R (k+n) ρ'
 | 0,k,ρ,_,h=>⟨ρ,rfl,h⟩
 | n+1,k,ρ,hh,h=>by
  obtain⟨ρ1,ρ2,e1,e2,h2⟩:=hh k ρ (yP _) (by omega) h
  obtain⟨ρ',e3,h3⟩:=lI f R n (k+1) ρ2 (fun j ρ a b=>hh j ρ (by omega) (by omega)) h2
  refine⟨ρ',?_,by rw[show k+(n+1)=k+1+n by omega];exact h3⟩
  rw[vH,zL,eE,e1,zC,e2]
  exact e3
theorem HN(hl:n<=1000):Dl.ej (.tuple [.int 0]) (nD n)=some (ag (zs n)):=by
 have e:uV (.tuple [.int 0]) (nD n)=some (ag (zs n)):=by
  show (if uY ((n:Nat):Int)=true/\[PyData.int 0].length * ((n:Nat):Int).toNat<=sizeLine then some (PyData.tuple (List.replicate ((n:Nat):Int).toNat [PyData.int 0]).flatten) else none)=_
  have hz:[PyData.int 0].length * n<=sizeLine:=by
   rw[xF,Nat.one_mul]
   exact yF hl (by decide)
  rw[yI,yO ⟨og hl,hz⟩,C2]
  rfl
 show ((tR p9 fun i j=>PyData.int (i * j)) (.tuple [.int 0]) (nD n)).or (uV (.tuple [.int 0]) (nD n))=_
 rw[e]
 rfl
section
end
section
theorem B3(W:List Wy):bh 0 (W.map aq)=(List.range' 0 W.length).map fun i=>.tuple [nD i,aq (aC W i)]:=by
 rw[<- yJ,enum_zip]
 apply jK
 ·simp
 ·intro i h1 h2
  have:i < W.length:=by simpa using h2
  simp[gf this]
end
theorem td(cont:S->Bool)(st:S->S)(μ:S->Nat)(I:S->Prop)(hb:∀s,I s->cont s=true->I (st s)/\μ (st s) < μ s):∀ (n:Nat) (s:S),μ s < n->I s->cont (lp cont st n s)=false/\I (lp cont st n s)
 | 0,s,h,_=>absurd h (by omega)
 | n+1,s,h,i=>by
  rw[lp]
  cases hc:cont s with
  | false=>exact⟨by simpa [hc] using hc,by simpa using i⟩
  | true =>
   obtain⟨i2,hm⟩:=hb s i hc
   have:=td cont st μ I hb n (st s) (by omega) i2
   simpa using this
section
theorem Dh(hk:k < W.length):(dc W).getD k 0=(aC W k).2.2:=by
 unfold dc
 rw[zJ,zR,l4 hk]
 rfl
theorem zv(h:Wd G T W):p7 G T W (fin G T W).2=none/\Am W (fin G T W)/\∀k,k < W.length->(fin G T W).2.getD k 0<=(aC W k).2.2:=by
 have hb:=h.mea
 obtain⟨h1,i,h2⟩:=td (JW G T W) (spS G T W) (fun s=>mea s.2) (fun s=>Am W s/\∀k,k < W.length->s.2.getD k 0<=(aC W k).2.2)
  (fun s ⟨i,l⟩ hc=>by
   obtain⟨p,e⟩:=pH hc
   obtain⟨a,b,c⟩:=zg h i.off e
   obtain⟨i2,hm⟩:=i.step h e
   refine⟨⟨i2,fun k hk=>?_⟩,hm⟩
   rw[tH e]
   show (s.2.set p.1 p.2).getD k 0<=_
   by_cases z:k=p.1
   ·subst z
    have:=l p.1 a
    have hl:p.1 < s.2.length:=by rw[i.len];exact a
    rw[show (s.2.set p.1 p.2).getD p.1 0=p.2 by simp[hl]]
    omega
   ·rw[show (s.2.set p.1 p.2).getD k 0=s.2.getD k 0 by simp[kW (jP z)]]
    exact l k hk) Rf.turns ([],dc W) (jC hb (by decide)) ⟨Am.start h,fun k hk=>by rw[Dh hk];omega⟩
 refine⟨?_,i,h2⟩
 have:JW G T W (fin G T W)=false:=h1
 unfold JW at this
 exact Option.isNone_iff_eq_none.mp (by simpa using this)
def tU(G T:List Pl)(W:List Wy):List Int:=bW false G T W (fin G T W).2
theorem mS(h:Wd G T W):Pn G T W (tU G T W):=by
 obtain⟨h1,i,h2⟩:=zv h
 exact Gf h i.off h2 h1
theorem oI(h:Wd G T W):aO [ax G T W]=some (ag (tU G T W)):=pX h
theorem nB:∀ {l:List D},(∀d∈l,PyData.eqv d d=true)->PyData.eqvAll l l=true
 | [],_=>by simp[PyData.eqvAll]
 | d::l,h=>by
  rw[PyData.eqvAll,h d zH,nB fun x hx=>h x (zE _ hx)]
  rfl
theorem Ka(a:List Int):PyData.eqv (ag a) (ag a)=true:=by rw[pk];simp
theorem IE(a:Int):PyData.eqv (.int a) (.int a)=true:=by
 have:=Ka [a]
 rw[ag,PyData.eqv,zL,yX,PyData.eqvAll] at this
 simp only[zI] at this
 exact this.1
theorem Bl(a:Bool):j6 (.bool a) (.bool a)=some (.bool false):=by cases a<;>simp[j6,Kx,SeqAt.shaped,PyData.canLay0,PyData.depth,PyData.eqv]
theorem pK(h:Wd G T W):bB [ax G T W]=some (.bool true):=by rw[o5 h.fit (by decide),h.wok]
end
def sm(l:List Nat)(f:Nat->Int):Int:=(l.map f).sum
theorem bj(q:Nat)(l:List Nat)(f:Nat->Int):sm (q::l) f=f q+sm l f:=by simp[sm]
theorem pI(l r:List Nat)(f:Nat->Int):sm (l++r) f=sm l f+sm r f:=by simp[sm]
theorem js(q:Nat)(f:Nat->Int):sm [q] f=f q:=by simp[sm]
theorem eZ:∀ {l:List Nat}{f g:Nat->Int},(∀q∈l,f q=g q)->sm l f=sm l g
 | [],_,_,_=>rfl
 | q::l,f,g,h=>by rw[bj,bj,h q zH,eZ fun x hx=>h x (zE _ hx)]
theorem Dg:∀ {l:List Nat}{f g:Nat->Int},(∀q∈l,f q<=g q)->sm l f<=sm l g
 | [],_,_,_=>qC _
 | q::l,f,g,h=>by
  have h1:=h q zH
  have h2:=Dg (l:=l) fun x hx=>h x (zE _ hx)
  rw[bj,bj]
  omega
theorem qk(h:∀q∈l,0<=f q):0<=sm l f:=by
 have:sm l (fun _=>0)=0:=by induction l with
  | nil=>rfl
  | cons q l ih=>rw[bj,ih fun x hx=>h x (zE _ hx)];rfl
 rw[<- this]
 exact Dg h
theorem JS(h:∀q∈l,0<=f q)(hp:p∈l):f p<=sm l f:=by
 obtain⟨xs,ys,rfl⟩:=List.append_of_mem hp
 rw[pI,bj]
 have h1:=qk (l:=xs) fun q hq=>h q (qM _ hq)
 have h2:=qk (l:=ys) fun q hq=>h q (yG _ (zE _ hq))
 omega
theorem A0(p:l.Perm r)(f:Nat->Int):sm l f=sm r f:=by
 induction p with
 | nil=>rfl
 | cons x _ ih=>rw[bj,bj,ih]
 | swap x y l=>rw[bj,bj,bj,bj];omega
 | trans _ _ h1 h2=>rw[h1,h2]
def ch(m:Nat->Int):Int->List Nat->Nat->Int
 | _,[],_=>0
 | a,q::r,k=>if k=q then min (m q) a else ch m (a - min (m q) a) r k
theorem bL(m:Nat->Int)(a:Int)(q:Nat)(r:List Nat):ch m a (q::r) q=min (m q) a:=by simp[ch]
theorem bF(h:k≠q):ch m a (q::r) k=ch m (a - min (m q) a) r k:=by simp[ch,h]
theorem wu:∀ {a:Int}{l:List Nat}{k:Nat},k∉l->ch m a l k=0
 | _,[],_,_=>rfl
 | a,q::r,k,h=>by
  rw[zT,not_or] at h
  rw[bF h.1,wu h.2]
theorem HW:∀ {a:Int}{l:List Nat},(∀q∈l,0<=m q)->0<=a->∀k,0<=ch m a l k/\ch m a l k<=a/\(k∈l->ch m a l k<=m k)
 | a,[],_,ha,k=>⟨qC _,ha,fun h=>by cases h⟩
 | a,q::r,hm,ha,k=>by
  have h0:=hm q zH
  by_cases e:k=q
  ·subst e
   rw[bL]
   exact⟨by omega,by omega,fun _=>by omega⟩
  ·rw[bF e]
   obtain⟨h1,h2,h3⟩:=HW (m:=m) (a:=a - min (m q) a) (l:=r) (fun x hx=>hm x (zE _ hx)) (by omega) k
   refine⟨h1,by omega,fun hk=>?_⟩
   rcases List.mem_cons.mp hk with z|z
   ·exact absurd z e
   ·exact h3 z
theorem AV:∀ {a a':Int}{l:List Nat}{k:Nat},a<=a'->ch m a l k<=ch m a' l k
 | _,_,[],_,_=>qC _
 | a,a',q::r,k,h=>by
  by_cases e:k=q
  ·subst e
   rw[bL,bL]
   omega
  ·rw[bF e,bF e]
   exact AV (by omega)
theorem o8:∀ {a:Int}{l:List Nat},(∀q∈l,m q=m' q)->∀k,ch m a l k=ch m' a l k
 | _,[],_,_=>rfl
 | a,q::r,h,k=>by
  have h0:=h q zH
  by_cases e:k=q
  ·subst e
   rw[bL,bL,h0]
  ·rw[bF e,bF e,h0]
   exact o8 (fun x hx=>h x (zE _ hx)) k
def up:List Nat->Nat->List Nat
 | [],_=>[]
 | q::r,k=>if k=q then [q] else q::up r k
theorem ib(q:Nat)(r:List Nat):up (q::r) q=[q]:=by simp[up]
theorem ig(h:k≠q):up (q::r) k=q::up r k:=by simp[up,h]
theorem iI:∀ {l:List Nat}{k q:Nat},q∈up l k->q∈l
 | [],_,_,h=>by cases h
 | x::l,k,q,h=>by
  by_cases e:k=x
  ·subst e
   rw[ib,yM] at h
   exact h ▸ zH
  ·rw[ig e] at h
   rcases List.mem_cons.mp h with z|z
   ·exact z ▸ zH
   ·exact zE _ (iI z)
theorem A1:∀ {l:List Nat}{k:Nat},k∈l->k∈up l k
 | x::l,k,h=>by
  by_cases e:k=x
  ·subst e
   rw[ib]
   exact zH
  ·rw[ig e]
   rcases List.mem_cons.mp h with z|z
   ·exact absurd z e
   ·exact zE _ (A1 z)
theorem sE:∀ {xs ys:List Nat}{k:Nat},k∉xs->up (xs++k::ys) k=xs++[k]
 | [],ys,k,_=>ib _ _
 | x::xs,ys,k,h=>by
  rw[zT,not_or] at h
  rw[xI,ig h.1,sE h.2]
  rfl
theorem Gr(hn:l.Nodup)(hk:k∈l):∃ys,l=up l k++ys/\(∀q∈ys,q∉up l k):=by
 obtain⟨xs,ys,rfl⟩:=List.append_of_mem hk
 have hx:k∉xs:=fun z=>by
  rw[wV] at hn
  exact hn.2.2 k z k zH rfl
 refine⟨ys,by rw[sE hx];simp,fun q hq hq2=>?_⟩
 rw[sE hx] at hq2
 rw[show xs++k::ys=(xs++[k])++ys by simp,wV] at hn
 exact hn.2.2 q hq2 q hq rfl
theorem zd:∀ {a:Int}{l:List Nat}{k:Nat},l.Nodup->k∈l->ch m a l k < m k->sm (up l k) (ch m a l)=a
 | a,q::r,k,hn,hk,h=>by
  rw[kX] at hn
  by_cases e:k=q
  ·subst e
   rw[bL] at h
   rw[ib,js,bL]
   omega
  ·rw[bF e] at h
   have hk':k∈r:=by
    rcases List.mem_cons.mp hk with z|z
    ·exact absurd z e
    ·exact z
   have ih:=zd hn.2 hk' h
   rw[ig e,bj,bL,eZ (g:=ch m (a - min (m q) a) r) fun x hx=>bF fun z=>hn.1 (z ▸ iI hx),ih]
   omega
theorem HI:∀ {a:Int}{l:List Nat}{k:Nat},l.Nodup->(∀x∈l,0<=m x)->0<=a->k∈l->sm (up l k) (ch m a l)=min a (sm (up l k) m)
 | a,q::r,k,hn,hm,ha,hk=>by
  rw[kX] at hn
  have h0:=hm q zH
  have hr:∀y∈r,0<=m y:=fun y hy=>hm y (zE _ hy)
  by_cases e:k=q
  ·subst e
   rw[ib,js,js,bL]
   omega
  ·have hk':k∈r:=by
    rcases List.mem_cons.mp hk with z|z
    ·exact absurd z e
    ·exact z
   have ih:=HI (m:=m) (a:=a - min (m q) a) hn.2 hr (by omega) hk'
   have hs:=qk (l:=up r k) fun y hy=>hr y (iI hy)
   rw[ig e,bj,bj,bL,eZ (g:=ch m (a - min (m q) a) r) fun x hx=>bF fun z=>hn.1 (z ▸ iI hx),ih]
   omega
theorem Ea:∀ {a:Int}{l:List Nat},l.Nodup->(∀x∈l,x≠p->m' x=m x)->m' p<=ch m a l p->(∀k∈l,k≠p->ch m a l k<=ch m' a l k)/\(p∈l->ch m' a l p=m' p)
 | _,[],_,_,_=>⟨fun _ h=>absurd h yH,fun h=>absurd h yH⟩
 | a,q::r,hn,h,hp=>by
  rw[kX] at hn
  by_cases e:q=p
  ·subst e
   rw[bL] at hp
   have hs:∀x∈r,m' x=m x:=fun x hx=>h x (zE _ hx) fun z=>hn.1 (z ▸ hx)
   refine⟨fun k hk hne=>?_,fun _=>?_⟩
   ·rw[bF hne,bF hne,o8 (m:=m') (m':=m) hs]
    exact AV (by omega)
   ·rw[bL];omega
  ·have hq:=h q zH e
   rw[bF (jP e)] at hp
   obtain⟨i1,i2⟩:=Ea (m:=m) (m':=m') (p:=p) (a:=a - min (m q) a) hn.2 (fun x hx=>h x (zE _ hx)) hp
   refine⟨fun k hk hne=>?_,fun hk=>?_⟩
   ·by_cases e2:k=q
    ·subst e2
     rw[bL,bL,hq]
     exact qC _
    ·rw[bF e2,bF e2,hq]
     rcases List.mem_cons.mp hk with z|z
     ·exact absurd z e2
     ·exact i1 k z hne
   ·rw[bF (jP e),hq]
    rcases List.mem_cons.mp hk with z|z
    ·exact absurd z.symm e
    ·exact i2 z
theorem HE:∀ {a:Int}{l:List Nat},l.Nodup->(∀q∈l,0<=X q/\X q<=m q)->sm l X<=a->(∀k∈l,X k=m k\/sm (up l k) X=a)->∀k∈l,ch m a l k=X k
 | _,[],_,_,_,_,_,h=>by cases h
 | a,q::r,hn,hX,hs,h,k,hk=>by
  rw[kX] at hn
  have h0:=hX q zH
  have hr:∀y∈r,0<=X y/\X y<=m y:=fun y hy=>hX y (zE _ hy)
  have hnn:=qk (l:=r) fun y hy=>(hr y hy).1
  rw[bj] at hs
  have e0:min (m q) a=X q:=by
   rcases h q zH with z|z
   ·omega
   ·rw[ib,js] at z
    omega
  by_cases e:k=q
  ·subst e
   rw[bL,e0]
  ·rw[bF e,e0]
   rcases List.mem_cons.mp hk with z|z
   ·exact absurd z e
   ·refine HE hn.2 hr (by omega) (fun j hj=>?_) k z
    have hjq:j≠q:=fun w=>hn.1 (w ▸ hj)
    rcases h j (zE _ hj) with w|w
    ·exact .inl w
    ·rw[ig hjq,bj] at w
     exact .inr (by omega)
def bg(b:Bool)(W:List Wy)(k:Nat):Nat:=(bf b (aC W k)).toNat
def lst(b:Bool)(G T:List Pl)(W:List Wy)(i:Nat):List Nat:=dS b W i (bu b G T i).2
def amt(b:Bool)(G T:List Pl)(i:Nat):Int:=(bu b G T i).1
def mm(W:List Wy)(off:List Int)(q:Nat):Int:=min (off.getD q 0) (aC W q).2.2
def vl(P:List Int)(q:Nat):Int:=P.getD q 0
section
variable {G T:List Pl}{W:List Wy}{P X c off:List Int}{b:Bool}{i k q:Nat}
theorem cG(h:Wd G T W)(b:Bool)(hk:k < W.length):bg b W k < (aw b G T).length:=(h.end_pl b hk).2.1
theorem iS(h:Wd G T W)(hi:i < (aw b G T).length):(lst b G T W i).Perm (own b W i):=et h (eX hi)
theorem cZ(h:Wd G T W)(hi:i < (aw b G T).length):(lst b G T W i).Nodup:=(iS h hi).nodup_iff.mpr (List.nodup_range.filter _)
theorem cN(h:Wd G T W)(hi:i < (aw b G T).length):q∈lst b G T W i↔q < W.length/\bg b W q=i:=by
 rw[(iS h hi).mem_iff,bX]
 constructor
 ·rintro⟨h1,h2⟩
  exact⟨h1,by unfold bg;rw[h2];simp⟩
 ·rintro⟨h1,h2⟩
  have:=(h.end_pl b h1).2.2
  unfold bg at h2
  rw[h2] at this
  exact⟨h1,this.symm⟩
theorem cH(h:Wd G T W)(b:Bool)(hk:k < W.length):k∈lst b G T W (bg b W k):=(cN h (cG h b hk)).mpr ⟨hk,rfl⟩
theorem HC(h:Wd G T W)(ho:Off off)(q:Nat):0<=mm W off q:=by
 have h1:=ho q
 have h2:=h.lim q
 unfold mm
 omega
theorem xn:∀ (is:List Nat) (a:Int) (l:List Int),is.Nodup->(∀i∈is,i < l.length)->∀k,(is.foldl (lA W off) (a,l)).2.getD k 0=if k∈is then ch (mm W off) a is k else l.getD k 0
 | [],a,l,_,_,k=>by simp
 | q::is,a,l,hn,hl,k=>by
  rw[kX] at hn
  have ih:=xn is (a - cV W off a q) (l.set q (cV W off a q)) hn.2 (fun i hi=>by rw[yE];exact hl i (zE _ hi)) k
  rw[yL]
  show (is.foldl (lA W off) (a - cV W off a q,l.set q (cV W off a q))).2.getD k 0=_
  rw[ih]
  have hq:=hl q zH
  by_cases e:k=q
  ·subst e
   rw[yQ hn.1,yO zH,bL,cm,yO ⟨rfl,hq⟩]
   rfl
  ·rw[bF e]
   by_cases hk:k∈is
   ·rw[yO hk,yO (zE _ hk)]
    rfl
   ·rw[yQ hk,yQ (by rw[zT,not_or];exact⟨e,hk⟩),cm,yQ (fun z=>e z.1.symm)]
theorem mE(h:Wd G T W)(b:Bool)(off:List Int)(hk:k < W.length):(bW b G T W off).getD k 0=ch (mm W off) (amt b G T (bg b W k)) (lst b G T W (bg b W k)) k:=by
 have hi:=cG h b hk
 rw[CL h b hk]
 show (nV W off (amt b G T (bg b W k)) (lst b G T W (bg b W k))).getD k 0=_
 unfold nV
 rw[xn _ _ _ (cZ h hi) (fun j hj=>by rw[xP];exact ((cN h hi).mp hj).1),yO (cH h b hk)]
theorem C7(h:Wd G T W)(b:Bool)(i:Nat):0<=amt b G T i:=h.amt b i
theorem Df(h:Wd G T W)(hi:i < (aw b G T).length):pS b W P i=sm (lst b G T W i) (vl P):=by
 unfold pS
 rw[A0 (iS h hi)]
 rfl
def Fl(b:Bool)(G T:List Pl)(W:List Wy)(P:List Int)(k:Nat):Prop:=sm (up (lst b G T W (bg b W k)) k) (vl P)=amt b G T (bg b W k)
def Rs(G T:List Pl)(W:List Wy)(P:List Int):Prop:=∀k,k < W.length->P.getD k 0=(aC W k).2.2\/Fl false G T W P k\/Fl true G T W P k
theorem Pn.nn(p:Pn G T W P)(q:Nat):0<=vl P q:=by
 by_cases hq:q < W.length
 ·exact (p.bd q hq).1
 ·unfold vl
  rw[pF (by rw[p.len];omega)]
  omega
theorem Pn.le_sm(h:Wd G T W)(p:Pn G T W P)(hi:i < (aw b G T).length):sm (lst b G T W i) (vl P)<=amt b G T i:=by
 rw[<- Df h hi]
 exact p.am b i hi
theorem zq(h:Wd G T W)(p:Pn G T W P)(b:Bool)(hk:k < W.length):sT b G T W P k=false↔Fl b G T W P k:=by
 obtain⟨z1,z2,z3⟩:=h.end_pl b hk
 have hc:lst b G T W (bg b W k)=((bu b G T (bg b W k)).2.take (qd (bu b G T (bg b W k)).2 (bK b (aC W k)))).map (mX b W (bg b W k))++k::((bu b G T (bg b W k)).2.drop (qd (bu b G T (bg b W k)).2 (bK b (aC W k))+1)).map (mX b W (bg b W k)):=F2 h hk
 have hn:=cZ (b:=b) h z2
 change (lst b G T W (bg b W k)).Nodup at hn
 have hle:=p.le_sm h z2
 change sm (lst b G T W (bg b W k)) (vl P)<=amt b G T (bg b W k) at hle
 have hth:=Df (P:=P) h z2
 have hy:sT b G T W P k=(decide (pS b W P ((bg b W k:Nat):Int) < amt b G T (bg b W k))||(((bu b G T (bg b W k)).2.drop (qd (bu b G T (bg b W k)).2 (bK b (aC W k))+1)).map (mX b W (bg b W k))).any fun q=>decide (0 < vl P q)):=by
  unfold sT
  rw[wQ]
  unfold bg amt
  rw[z3]
  rfl
 change pS b W P ((bg b W k:Nat):Int)=sm (lst b G T W (bg b W k)) (vl P) at hth
 unfold Fl
 rw[hy,hth]
 revert hc
 generalize ((bu b G T (bg b W k)).2.take (qd (bu b G T (bg b W k)).2 (bK b (aC W k)))).map (mX b W (bg b W k))=xs
 generalize ((bu b G T (bg b W k)).2.drop (qd (bu b G T (bg b W k)).2 (bK b (aC W k))+1)).map (mX b W (bg b W k))=ys
 intro hc
 have hx:k∉xs:=fun z=>by
  rw[hc,wV] at hn
  exact hn.2.2 k z k zH rfl
 rw[hc,sE hx]
 rw[hc] at hle
 have e:sm (xs++k::ys) (vl P)=sm (xs++[k]) (vl P)+sm ys (vl P):=by
  rw[<- pI]
  simp
 have hnn:=qk (l:=ys) fun q _=>p.nn q
 have hpos:=Af (P:=P) ys fun q _=>p.nn q
 change (0 < sm ys (vl P)↔(ys.any fun q=>decide (0 < vl P q))=true) at hpos
 rw[e] at hle ⊢
 rw[Bool.or_eq_false_iff,xE]
 constructor
 ·rintro⟨h1,h2⟩
  have:¬ 0 < sm ys (vl P):=fun z=>by rw[hpos.mp z] at h2;cases h2
  omega
 ·intro h1
  refine⟨by omega,?_⟩
  cases hh:(ys.any fun q=>decide (0 < vl P q)) with
  | false=>rfl
  | true=>have:=hpos.mpr hh;omega
theorem lV(h:Wd G T W)(p:Pn G T W P):v9 G T W P=[]↔Rs G T W P:=by
 unfold v9
 rw[List.filter_eq_nil_iff]
 constructor
 ·intro hh k hk
  have:=hh k (by simpa using hk)
  rw[zM] at this
  unfold j7 at this
  by_cases e1:P.getD k 0=(aC W k).2.2
  ·exact .inl e1
  ·rw[yQ e1] at this
   by_cases e2:sT false G T W P k=false
   ·exact .inr (.inl ((zq h p false hk).mp e2))
   ·rw[yQ e2] at this
    by_cases e3:sT true G T W P k=false
    ·exact .inr (.inr ((zq h p true hk).mp e3))
    ·rw[yQ e3] at this
     exact absurd rfl this
 ·intro hh k hk
  rw[zM]
  unfold j7
  rcases hh k (by simpa using hk) with e|e|e
  ·rw[yO e];omega
  ·rw[yO ((zq h p false (by simpa using hk)).mpr e)]
   split<;>omega
  ·rw[yO ((zq h p true (by simpa using hk)).mpr e)]
   split
   ·omega
   ·split<;>omega
theorem AJ(e:p7 G T W c=some (k,q')):k < W.length/\q'=(iU G T W c).getD k 0/\(iU G T W c).getD k 0 < (bW false G T W c).getD k 0:=by
 unfold p7 at e
 obtain⟨j,hj,e2⟩:=Dl.af e
 cases e2
 have hm:=kA hj
 have hq:=vS hj
 rw[qR,zM] at hq
 exact⟨List.mem_range.mp hm,rfl,hq⟩
theorem Hm(e:p7 G T W c=none)(hk:k < W.length):(bW false G T W c).getD k 0<=(iU G T W c).getD k 0:=by
 unfold p7 at e
 rw[Option.map_eq_none_iff] at e
 have:=List.find?_eq_none.mp e k (by simpa using hk)
 rw[qR,zM] at this
 omega
end
section
variable {P X c off:List Int}
theorem D4(h:Wd G T W)(hk:k < W.length)(hq:q∈lst b G T W (bg b W k)):q < W.length/\bg b W q=bg b W k:=(cN h (cG h b hk)).mp hq
theorem xy(h:Wd G T W)(hi:i < (aw b G T).length)(hq:q∈lst b G T W i):vl (bW b G T W off) q=ch (mm W off) (amt b G T i) (lst b G T W i) q:=by
 obtain⟨h1,h2⟩:=(cN h hi).mp hq
 have:=mE h b off h1
 rw[h2] at this
 exact this
theorem JM(h:Wd G T W)(ho:Off off)(b:Bool)(hk:k < W.length):sm (up (lst b G T W (bg b W k)) k) (vl (bW b G T W off))=min (amt b G T (bg b W k)) (sm (up (lst b G T W (bg b W k)) k) (mm W off)):=by
 have hi:=cG h b hk
 rw[eZ fun q hq=>xy h hi (iI hq)]
 exact HI (cZ h hi) (fun q _=>HC h ho q) (C7 h b _) (cH h b hk)
theorem ux(h:Wd G T W)(b:Bool)(hk:k < W.length)(e:(bW b G T W off).getD k 0 < mm W off k):Fl b G T W (bW b G T W off) k:=by
 have hi:=cG h b hk
 rw[mE h b off hk] at e
 unfold Fl
 rw[eZ fun q hq=>xy h hi (iI hq)]
 exact zd (cZ h hi) (cH h b hk) e
theorem wy(h:Wd G T W)(ho:Off off)(b:Bool)(hk:k < W.length):0<=(bW b G T W off).getD k 0/\(bW b G T W off).getD k 0<=mm W off k:=by
 have hi:=cG h b hk
 rw[mE h b off hk]
 have:=HW (m:=mm W off) (a:=amt b G T (bg b W k)) (l:=lst b G T W (bg b W k)) (fun q _=>HC h ho q) (C7 h b _) k
 exact⟨this.1,this.2.2 (cH h b hk)⟩
theorem Dc(h:Wd G T W)(p:Pn G T W X)(b:Bool)(hk:k < W.length):sm (up (lst b G T W (bg b W k)) k) (vl X)<=amt b G T (bg b W k):=by
 have hi:=cG h b hk
 have:=p.le_sm h hi
 obtain⟨ys,e,_⟩:=Gr (cZ h hi) (cH h b hk)
 rw[e,pI] at this
 have hn:=qk (l:=ys) fun q _=>p.nn q
 omega
end
section
variable {P X c off:List Int}
theorem qp(h:Wd G T W)(ho:Off c)(hk:k < W.length):0<=(iU G T W c).getD k 0/\(iU G T W c).getD k 0<=(bW false G T W c).getD k 0/\(bW false G T W c).getD k 0<=c.getD k 0/\(bW false G T W c).getD k 0<=(aC W k).2.2/\mm W (bW false G T W c) k=(bW false G T W c).getD k 0:=by
 have h1:=wy h ho false hk
 have h2:=wy h (g8 h ho false) true hk
 change 0<=(iU G T W c).getD k 0/\(iU G T W c).getD k 0<=_ at h2
 unfold mm at h1 h2 ⊢
 omega
def Jn(G T:List Pl)(W:List Wy)(c:List Int):Prop:=∀k,k < W.length->c.getD k 0 < (aC W k).2.2->Fl true G T W (iU G T W c) k
theorem Jg(h:Wd G T W)(ho:Off c)(hl:c.length=W.length)(e:p7 G T W c=some (k,v))(hq:q < W.length):(iU G T W c).getD q 0<=(bW false G T W (c.set k v)).getD q 0:=by
 obtain⟨hk,rfl,hlt⟩:=AJ e
 obtain⟨b0,b1,b2,b3,b4⟩:=qp h ho hk
 obtain⟨d0,d1,d2,d3,d4⟩:=qp h ho hq
 have hi:=cG h false hq
 have hm:∀x,x≠k->mm W (c.set k ((iU G T W c).getD k 0)) x=mm W c x:=fun x hx=>by
  unfold mm
  rw[cm,yQ (fun z=>hx z.1.symm)]
 have hmk:mm W (c.set k ((iU G T W c).getD k 0)) k=(iU G T W c).getD k 0:=by
  unfold mm
  rw[cm,yO ⟨rfl,by rw[hl];exact hk⟩]
  omega
 rw[mE h false _ hq]
 by_cases z:bg false W q=bg false W k
 ·have hkL:k∈lst false G T W (bg false W q):=by rw[z];exact cH h false hk
  have hA:vl (bW false G T W c) k=ch (mm W c) (amt false G T (bg false W q)) (lst false G T W (bg false W q)) k:=xy h hi hkL
  unfold vl at hA
  obtain⟨l1,l2⟩:=Ea (m:=mm W c) (m':=mm W (c.set k ((iU G T W c).getD k 0))) (p:=k) (a:=amt false G T (bg false W q)) (l:=lst false G T W (bg false W q)) (cZ h hi) (fun x _ hx=>hm x hx) (by rw[hmk,<- hA];exact b1)
  by_cases y:q=k
  ·subst y
   rw[l2 hkL,hmk]
   exact qC _
  ·have:=l1 q (cH h false hq) y
   rw[<- mE h false c hq] at this
   omega
 ·rw[o8 (m:=mm W (c.set k ((iU G T W c).getD k 0))) (m':=mm W c) fun x hx=>hm x fun w=>by
   subst w
   exact z ((cN h hi).mp hx).2.symm]
  rw[<- mE h false c hq]
  exact d1
theorem Jn.step(h:Wd G T W)(ho:Off c)(hl:c.length=W.length)(j:Jn G T W c)(e:p7 G T W c=some (k,v)):Jn G T W (c.set k v):=fun q hq hlim=>by
 have ho':Off (c.set k v):=zx ho (zg h ho e).2.1
 have fq:Fl true G T W (iU G T W c) q:=by
  obtain⟨hk,rfl,hlt⟩:=AJ e
  by_cases z:q=k
  ·subst z
   exact ux h true hq (by rw[(qp h ho hq).2.2.2.2];exact hlt)
  ·rw[cm,yQ (fun w=>z w.1.symm)] at hlim
   exact j q hq hlim
 have hu:=JM h (g8 h ho' false) true hq
 change sm _ (vl (iU G T W (c.set k v)))=_ at hu
 unfold Fl at fq ⊢
 have hs:sm (up (lst true G T W (bg true W q)) q) (vl (iU G T W c))<=sm (up (lst true G T W (bg true W q)) q) (mm W (bW false G T W (c.set k v))):=Dg fun x hx=>by
  have hx':=(D4 h hq (iI hx)).1
  have h1:=Jg h ho hl e hx'
  have h2:=qp h ho hx'
  unfold vl mm
  omega
 rw[hu]
 omega
theorem LD(h:Wd G T W):Jn G T W (fin G T W).2:=by
 have hb:=h.mea
 obtain⟨_,_,h2⟩:=td (JW G T W) (spS G T W) (fun s=>mea s.2) (fun s=>Am W s/\Jn G T W s.2)
  (fun s ⟨i,j⟩ hc=>by
   obtain⟨⟨k,v⟩,e⟩:=pH hc
   obtain⟨i2,hm⟩:=i.step h e
   refine⟨⟨i2,?_⟩,hm⟩
   rw[tH e]
   exact j.step h i.off i.len e) Rf.turns ([],dc W) (jC hb (by decide)) ⟨Am.start h,fun k hk hl=>by rw[Dh hk] at hl;omega⟩
 exact h2
theorem w6(h:Wd G T W):Rs G T W (tU G T W):=fun k hk=>by
 obtain⟨hnone,i,hlim⟩:=zv h
 have j:=LD h
 have heq:∀q,q < W.length->(tU G T W).getD q 0=(iU G T W (fin G T W).2).getD q 0:=fun q hq=>by
  have h1:=Hm hnone hq
  have h2:=(qp h i.off hq).2.1
  unfold tU
  omega
 obtain⟨d0,d1,d2,d3,d4⟩:=qp h i.off hk
 by_cases e:(tU G T W).getD k 0=(aC W k).2.2
 ·exact .inl e
 ·by_cases e2:(tU G T W).getD k 0 < mm W (fin G T W).2 k
  ·exact .inr (.inl (ux h false hk e2))
  ·have h3:=(wy h i.off false hk).2
   have:(fin G T W).2.getD k 0 < (aC W k).2.2:=by
    unfold tU at e e2
    unfold mm at e2 h3
    omega
   have f:=j k hk this
   refine .inr (.inr ?_)
   unfold Fl at f ⊢
   rw[<- f]
   exact eZ fun q hq=>heq q (D4 h hk (iI hq)).1
end
section
variable {P X c off:List Int}
theorem ie(h:P.length=X.length)(e:∀k,k < P.length->P.getD k 0=X.getD k 0):P=X:=by
 apply jK h
 intro k h1 h2
 have:=e k h1
 simpa [h1,h2] using this
theorem Rs.tu(h:Wd G T W)(o:Ord W π)(p:Pn G T W P)(r:Rs G T W P):Rs T G (fA W π) (wb P π):=(lV (o.wd h) (p.tu h o)).mp ((Jh h o).mpr ((lV h p).mpr r))
def G0(G T:List Pl)(W:List Wy):List Int:=wb (tU T G (fA W (cE W))) (cE (fA W (cE W)))
theorem HK(h:Wd G T W):Pn G T W (G0 G T W):=by
 have o:=fM h.wp
 have h':=o.wd h
 have o':=fM h'.wp
 have:=(mS h').tu h' o'
 rwa [AE h.wp o o'] at this
theorem K7(h:Wd G T W):Rs G T W (G0 G T W):=by
 have o:=fM h.wp
 have h':=o.wd h
 have o':=fM h'.wp
 have:=(w6 h').tu h' o' (mS h')
 rwa [AE h.wp o o'] at this
end
section
theorem zy(h:Wd G T W):b9 [ax G T W]=some (ag (G0 G T W)):=by
 have h':=(fM h.wp).wd h
 exact p8 h (oI h') (mS h')
theorem i8(h:Wd G T W):bR [ax G T W]=some (.bool (decide (tU G T W=G0 G T W))):=by
 refine aN ?_
 show nE [.val (ax G T W)]=_
 exact aU (ay (pA _ _) (call_of (oI h) rfl rfl) (call_of (zy h) rfl rfl))
end
theorem yw(h:f ρ=some ds):bT f ρ=some (.list ds):=by
 simp only[bT,h,zD]
theorem zt(h:f ρ=some (.tuple ds)):aQ f ρ=some ds:=by
 simp only[aQ,h,zC,fN]
theorem JF(h:fs ρ=some ds)(hl:ds.length<=1000):cF fs ρ=some ds:=by
 simp only[cF,h,zC,aY (show ds.length<=4000 by omega)]
theorem nil_of(ρ:Dl.Env):bT (cF ae) ρ=some (.list []):=yw (JF (ds:=[]) rfl (by simp))
theorem JN(h:t (aS ρ)=some false):fH t g g2 ρ=g2 ρ:=by
 simp[fH,h]
theorem Cs(l:List Nat):PyData.eqvAll (l.map nD) (l.map nD)=true:=nB fun d hd=>by
 obtain⟨i,_,rfl⟩:=List.mem_map.mp hd
 exact IE _
theorem uT{l:List Nat}:SeqAt.shaped (.list (l.map nD))=true :=
 (gU.lst (b:=l.length) (k:=0) (by simp) fun x hx=>by obtain⟨i,_,rfl⟩:=List.mem_map.mp hx;exact jr _).shaped (by decide)
theorem A5(l:List Nat):j6 (.list (l.map nD)) (.list (l.map nD))=some (.bool false):=by
 simp only[j6,Kx,uT,jR,xK,PyData.eqv,Cs,zD,qB]
theorem u4(hf:f ρ=some (ax G T W))(hg:g ρ=some (.int (sI b))):(aa (aX bo (aa (f2 ao f g) ae)) ae) ρ=some [nD (aw b G T).length] :=
 cons_of (k5 (l:=aw b G T) (k:=aF) (ay (dW b G T W) hf hg)) rfl
section
theorem ui(h:Wd G T W)(p:Pn G T W P)(r:Rs G T W P):lN [ax G T W,ag P]=some (.bool true):=by
 rw[F7 h p,yC ((lV h p).mpr r)]
end
section
end
structure Wk(G T G' T':List Pl):Prop where
 len:∀b,(aw b G' T').length=(aw b G T).length
 lik:∀b i,(bu b G' T' i).2=(bu b G T i).2
 gv:∀i,amt false G' T' i<=amt false G T i
 tk:∀i,amt true G T i<=amt true G' T' i
section
end
def sA(L:List Pl)(i:Nat)(a:Int):List Pl:=L.set i (a,(L.getD i (0,[])).2)
theorem lz(L:List Pl)(i:Nat)(a:Int):(sA L i a).length=L.length:=by simp[sA]
theorem Lc(hi:i < L.length)(k:Nat):(sA L i a).getD k (0,[])=if k=i then (a,(L.getD i (0,[])).2) else L.getD k (0,[]):=by
 unfold sA
 by_cases e:k=i
 ·subst e
  simp[hi]
 ·rw[yQ e]
  simp[kW (jP e)]
theorem wo{L:List Pl}{i:Nat}{a:Int}{k:Nat}{p:Pl}(h:(sA L i a)[k]?=some p):∃p',L[k]?=some p'/\p.2=p'.2/\(p.1=a\/p.1=p'.1):=by
 unfold sA at h
 by_cases e:i=k
 ·subst e
  have hl:i < L.length:=by
   have:=(List.getElem?_eq_some_iff.mp h).1
   simpa using this
  rw[vN hl] at h
  cases h
  exact⟨L[i],zN hl,by simp[hl],.inl rfl⟩
 ·rw[kW e] at h
  exact⟨p,h,rfl,.inr rfl⟩
section
variable {P X off:List Int}
theorem DY{L:List Pl}{p:Pl}(ha:0<=a/\a<=9)(hL:∀p∈L,0<=p.1/\p.1<=9)(hp:p∈sA L i a):0<=p.1/\p.1<=9:=by
 obtain⟨k,hk,e⟩:=qU hp
 obtain⟨p',h1,_,h2⟩:=wo (p:=p) (k:=k) (by rw[zN hk,e])
 rcases h2 with z|z
 ·rw[z];exact ha
 ·rw[z];exact hL p' (qE h1)
theorem Wd.gA(h:Wd G T W)(ha:0<=a/\a<=9):Wd (sA G i a) T W where
 g1:=by rw[lz];exact h.g1
 g4:=by rw[lz];exact h.g4
 t1:=h.t1
 t4:=h.t4
 ga:=fun p hp=>DY ha h.ga hp
 ta:=h.ta
 gl:=fun k p hp=>by
  obtain⟨p',h1,h2,_⟩:=wo hp
  rw[h2]
  exact h.gl k p' h1
 tl:=h.tl
 wr:=fun w hw=>by rw[lz];exact h.wr w hw
 wp:=h.wp
 wl:=h.wl
theorem Wd.tA(h:Wd G T W)(ha:0<=a/\a<=9):Wd G (sA T i a) W where
 g1:=h.g1
 g4:=h.g4
 t1:=by rw[lz];exact h.t1
 t4:=by rw[lz];exact h.t4
 ga:=h.ga
 ta:=fun p hp=>DY ha h.ta hp
 gl:=h.gl
 tl:=fun k p hp=>by
  obtain⟨p',h1,h2,_⟩:=wo hp
  rw[h2]
  exact h.tl k p' h1
 wr:=fun w hw=>by rw[lz];exact h.wr w hw
 wp:=h.wp
 wl:=h.wl
theorem ny(h:i < ds.length)(hl:ds.length<=1000):dN [.tuple ds,nD i,d]=some (.tuple (ds.set i d)):=by
 have e:(ds.take i++[d])++ds.drop (i+1)=ds.set i d:=by
  rw[List.set_eq_take_append_cons_drop,yO h]
  simp
 refine aN ?_
 show ij [.val (.tuple ds),.val (nD i),.val d]=_
 unfold ij
 refine aU (ay (a:=.tuple (ds.take i++[d])) (b:=.tuple (ds.drop (i+1))) ?_ (ay (a:=.tuple (ds.take i)) (b:=.tuple [d]) (nZ ?_) (Dm rfl rfl) (G9 rfl)) (Es rfl (ay (gQ _ _) rfl rfl)))
 ·rw[nZ,e]
  rw[e,yE]
  omega
 ·simp
  omega
def Nd(b:Bool)(G T:List Pl)(W:List Wy)(i:Nat)(a:Int):D:=match b with|false=>ax (sA G i a) T W|true=>ax G (sA T i a) W
theorem wx(h:Wd G T W)(hi:i < (aw b G T).length):kl [ax G T W,.int (sI b),nD i,.int a,ag (bu b G T i).2]=some (Nd b G T W i a):=by
 have hl:=h.pl b
 have e1:=ny (ds:=(aw b G T).map aF) (d:=aF (a,(bu b G T i).2)) (i:=i) (by rw[zF];exact hi) (by rw[zF];omega)
 rw[<- List.map_set] at e1
 have e2:=ny (ds:=[.tuple (G.map aF),.tuple (T.map aF),.tuple (W.map aq)]) (d:=.tuple (((aw b G T).set i (a,(bu b G T i).2)).map aF)) (i:=(sI b).toNat) (show (sI b).toNat < 3 by cases b<;>decide) (show 3<=1000 by decide)
 refine aN ?_
 show lj [.val (ax G T W),.val (.int (sI b)),.val (nD i),.val (.int a),.val (ag (bu b G T i).2)]=_
 unfold lj
 refine aU (call_of (ds:=[ax G T W,.int (sI b),.tuple (((aw b G T).set i (a,(bu b G T i).2)).map aF)]) ?_ (cons_of rfl (cons_of rfl (cons_of (call_of e1 (cons_of (ay (dW b G T W) rfl rfl) (cons_of rfl (cons_of (tup_is (ds:=[.int a,ag (bu b G T i).2]) rfl (by simp)) rfl))) rfl) rfl))) rfl)
 rw[show PyData.int (sI b)=nD (sI b).toNat by cases b<;>rfl]
 refine Eq.trans e2 ?_
 cases b<;>rfl
theorem iJ(h:Wd G T W)(b:Bool)(hi:i < (aw b G T).length):d6 [ax G T W,.int (sI b),nD i]=some .none:=by
 have:dU [.val (ax G T W),.val (.int (sI b)),.val (nD i)]=some (.nx [.val (ax G T W),.val (.int (sI b)),.val (nD i)]):=by
  unfold dU
  refine (ai (cU (call_of (sM b) rfl rfl))).trans ?_
  exact cU (call_of (iK (n:=((aw b G T).length:Nat)) (i:=(i:Nat)) (by omega) (by omega)) (cons_of rfl (cons_of (k5 (l:=aw b G T) (k:=aF) (ay (dW b G T W) rfl rfl)) rfl)) rfl)
 show (dU [.val (ax G T W),.val (.int (sI b)),.val (nD i)]).map _=_
 rw[this]
 rfl
theorem pZ(h:Wd G T W)(hi:i < (aw b G T).length)(ha:0<=a/\a<=9):d9 [ax G T W,.int (sI b),nD i,.int a]=some (Nd b G T W i a):=by
 refine aN ?_
 show gq [.val (ax G T W),.val (.int (sI b)),.val (nD i),.val (.int a)]=_
 unfold gq
 refine (ai (cU (call_of (cK h) rfl rfl))).trans ?_
 refine (ai (cU (call_of (iJ h b hi) rfl rfl))).trans ?_
 refine (ai (cU (call_of (kc ha.1 ha.2) rfl rfl))).trans ?_
 exact aU (call_of (wx h hi) (cons_of rfl (cons_of rfl (cons_of rfl (cons_of rfl (cons_of (ay (a:=aF (bu b G T i)) (b:=.int 1) rfl (ay (k8 (eX hi)) (ay (dW b G T W) rfl rfl) rfl) rfl) rfl))))) rfl)
theorem BF(h:Wd G T W)(ho:off.length=W.length)(hi:i < (aw b G T).length):iQ [ax G T W,.int (sI b),nD i,ag off]=some (ag (nV W off (amt b G T i) (lst b G T W i))):=by
 have e:=iH h ho (eX hi)
 refine aN ?_
 show o7 [.val (ax G T W),.val (.int (sI b)),.val (nD i),.val (ag off)]=_
 unfold o7
 refine (ai (cU (call_of (cK h) rfl rfl))).trans ?_
 refine (ai (cU (call_of (iJ h b hi) rfl rfl))).trans ?_
 exact aU (call_of e rfl rfl)
end
section
def ext(l:Int)(r:List Int):List (List Int):=(List.range (l+1).toNat).map fun m=>r++[((m:Nat):Int)]
theorem pb:∀ (l:List α),(∀x∈l,tt (some (g x)::r)=some (q x)/\(q x=true->te (some (g x)::r)=some (f x)))->bS (fG 0) tt te (none::r) (l.map g)=some ((l.filter q).map f)
 | [],_=>rfl
 | x::l,h=>by
  have ih:=pb (tt:=tt) (te:=te) (r:=r) (g:=g) (f:=f) (q:=q) l fun y hy=>h y (zE _ hy)
  obtain⟨h1,h2⟩:=h x zH
  have hg:fG 0 (none::r) (g x)=some (some (g x)::r):=rfl
  rw[zL,bS,hg,zC,h1,zC,jZ]
  cases e:q x with
  | true =>
   rw[yO rfl,yO rfl,h2 e,zC,ih]
   rfl
  | false =>
   rw[yQ (by simp),yQ (by simp),ih]
theorem A6{α:Type}{cs:List Nat}{fi:Dl.Env->Option (List D)}{tt:Dl.Env->Option Bool}{te:Dl.Env->Option D}{ρ:Dl.Env}{l:List α}{g f:α->D}{q:α->Bool}(hfi:fi ρ=some (l.map g))(hl:l.length<=3000)(hh:∀x∈l,tt (some (g x)::cs.map fun j=>(ρ[j]?).getD none)=some (q x)/\(q x=true->te (some (g x)::cs.map fun j=>(ρ[j]?).getD none)=some (f x))):aj 1 cs fi (fG 0) tt te ρ=some ((l.filter q).map f):=by
 have:=pb l hh
 simp only[aj,hfi,zC,dz,List.replicate,xI,xR,this]
 refine aY ?_
 rw[zF]
 refine yF (xS _ _) ?_
 omega
theorem BD{α:Type}{cs:List Nat}{fi:Dl.Env->Option (List D)}{tt:Dl.Env->Option Bool}{te:Dl.Env->Option D}{ρ:Dl.Env}{l:List α}{g f:α->D}{q:α->Bool}(hfi:fi ρ=some (l.map g))(hl:l.length<=1000)(hh:∀x∈l,tt (some (g x)::cs.map fun j=>(ρ[j]?).getD none)=some (q x)/\(q x=true->te (some (g x)::cs.map fun j=>(ρ[j]?).getD none)=some (f x))):aj 1 cs fi (fG 0) tt te ρ=some ((l.filter q).map f):=A6 hfi (by omega) hh
end
section
end
section
theorem CK(P:List Int):bh 0 (P.map PyData.int)=(List.range P.length).map fun i=>.tuple [nD i,.int (P.getD i 0)]:=by
 rw[enum_zip]
 apply jK
 ·simp
 ·intro i h1 h2
  have:i < P.length:=by simpa using h2
  simp[this]
end
def sh(k q:Nat):Nat:=if q < k then q else q+1
def nk(k:Nat):Nat->Bool:=fun q=>!decide (q=k)
section
variable {G T:List Pl}{W:List Wy}{P X:List Int}{b:Bool}{i k q:Nat}
end
theorem Ei{f:Nat->Nat}:∀ {l:List Nat}{k:Nat},l.Pairwise (fun x y=>f x < f y)->k∈l->up l k=l.filter (fun q=>decide (f q < f k))++[k]
 | [],_,_,h=>by cases h
 | x::l,k,hp,hk=>by
  rw[List.pairwise_cons] at hp
  by_cases e:k=x
  ·subst e
   rw[ib,List.filter_cons_of_neg (by simp),List.filter_eq_nil_iff.mpr fun y hy=>by
    have:=hp.1 y hy
    rw[zM]
    omega]
   rfl
  ·have hk':k∈l:=by
    rcases List.mem_cons.mp hk with z|z
    ·exact absurd z e
    ·exact z
   rw[ig e,Ei hp.2 hk',List.filter_cons_of_pos (by rw[zM];exact hp.1 k hk')]
   rfl
section
variable {G T:List Pl}{W:List Wy}{X:List Int}{b:Bool}{i k q p:Nat}
def GR(b:Bool)(G T:List Pl)(W:List Wy):Prop:=∀i,i < (aw b G T).length->(lst b G T W i).Pairwise fun x y=>bg (!b) W x < bg (!b) W y
def lf(b:Bool)(G T:List Pl)(W:List Wy)(X:List Int)(i p:Nat):Int:=amt b G T i - sm ((lst b G T W i).filter fun q=>decide (bg (!b) W q < p)) (vl X)
theorem Dk(h:Wd G T W)(a:GR b G T W)(hk:k < W.length):sm (up (lst b G T W (bg b W k)) k) (vl X)=amt b G T (bg b W k) - lf b G T W X (bg b W k) (bg (!b) W k)+vl X k:=by
 rw[Ei (a _ (cG h b hk)) (cH h b hk),pI,js]
 unfold lf
 omega
theorem xb(h:Wd G T W)(a:GR b G T W)(x:Pn G T W X)(r:Rs G T W X){m:Nat->Int}(hk:k < W.length)(hm:∀q∈lst (!b) G T W (bg (!b) W k),m q=min (aC W q).2.2 (lf b G T W X (bg b W q) (bg (!b) W k))) :
  ch m (amt (!b) G T (bg (!b) W k)) (lst (!b) G T W (bg (!b) W k)) k=X.getD k 0:=by
 have hi:=cG h (!b) hk
 refine HE (X:=vl X) (cZ h hi) (fun q hq=>?_) (x.le_sm h hi) (fun q hq=>?_) k (cH h (!b) hk)
 ·obtain⟨hqW,hqp⟩:=(cN h hi).mp hq
  refine⟨x.nn q,?_⟩
  rw[hm q hq]
  have h1:=(x.bd q hqW).2
  have h2:=Dc h x b hqW
  rw[Dk h a hqW,hqp] at h2
  show vl X q<=_
  have h3:vl X q<=(aC W q).2.2:=h1
  omega
 ·obtain⟨hqW,hqp⟩:=(cN h hi).mp hq
  have h1:=(x.bd q hqW).2
  have h2:=Dc h x b hqW
  rw[Dk h a hqW,hqp] at h2
  rw[hm q hq]
  have key:∀c,Fl c G T W X q->vl X q=min (aC W q).2.2 (lf b G T W X (bg b W q) (bg (!b) W k))\/sm (up (lst (!b) G T W (bg (!b) W k)) q) (vl X)=amt (!b) G T (bg (!b) W k):=fun c f=>by
   by_cases e:c=b
   ·subst e
    refine .inl ?_
    unfold Fl at f
    rw[Dk h a hqW,hqp] at f
    have h3:vl X q<=(aC W q).2.2:=h1
    omega
   ·have e:c=!b:=by cases c<;>cases b<;>first|rfl|exact absurd rfl e
    subst e
    refine .inr ?_
    unfold Fl at f
    rw[hqp] at f
    exact f
  rcases r q hqW with e|e|e
  ·refine .inl ?_
   have h3:vl X q=(aC W q).2.2:=e
   omega
  ·exact key false e
  ·exact key true e
theorem EE(h:Wd G T W)(hi:i < (aw b G T).length){Y:List Int}(e:∀q,q < W.length->bg (!b) W q < p->X.getD q 0=Y.getD q 0):lf b G T W X i p=lf b G T W Y i p:=by
 unfold lf
 rw[eZ (l:=(lst b G T W i).filter fun q=>decide (bg (!b) W q < p)) (f:=vl X) (g:=vl Y) fun q hq=>by
  rw[List.mem_filter,zM] at hq
  exact e q ((cN h hi).mp hq.1).1 hq.2]
theorem Hg(h:Wd G T W)(a:GR b G T W)(x:Pn G T W X)(r:Rs G T W X){Y:List Int}(y:Pn G T W Y)(s:Rs G T W Y):X=Y:=by
 have key:∀n k,k < W.length->bg (!b) W k=n->X.getD k 0=Y.getD k 0:=fun n=>by
  induction n using Nat.strongRecOn with
  | ind n ih =>
   intro k hk e
   rw[<- xb h a x r (m:=fun q=>min (aC W q).2.2 (lf b G T W X (bg b W q) (bg (!b) W k))) hk fun q _=>rfl]
   refine xb h a y s hk fun q hq=>?_
   have hqW:=((cN h (cG h (!b) hk)).mp hq).1
   show min _ _=min _ _
   rw[EE h (cG h b hqW) fun z hz hlt=>ih _ (by omega) z hz rfl]
 exact ie (by rw[x.len,y.len]) fun k hk=>key _ k (by rw[<- x.len];exact hk) rfl
theorem GQ(b:Bool)(G T:List Pl)(W:List Wy)(X:List Int)(i:Nat):lf b G T W X i 0=amt b G T i:=by
 unfold lf
 rw[List.filter_eq_nil_iff.mpr fun q _=>by simp]
 simp[sm]
theorem GB(h:Wd G T W)(hi:i < (aw b G T).length):lf b G T W X i (p+1)=lf b G T W X i p - sm (own b W i) (fun q=>if bg (!b) W q=p then vl X q else 0):=by
 unfold lf
 rw[<- A0 (iS h hi)]
 have:∀l:List Nat,sm (l.filter fun q=>decide (bg (!b) W q < p+1)) (vl X)=sm (l.filter fun q=>decide (bg (!b) W q < p)) (vl X)+sm l (fun q=>if bg (!b) W q=p then vl X q else 0):=fun l=>by
  induction l with
  | nil=>rfl
  | cons z l ih =>
   rw[bj]
   by_cases c:bg (!b) W z < p
   ·rw[List.filter_cons_of_pos (by rw[zM];omega),List.filter_cons_of_pos (by rw[zM];exact c),bj,bj,ih,yQ (by omega)]
    omega
   ·by_cases c2:bg (!b) W z=p
    ·rw[List.filter_cons_of_pos (by rw[zM];omega),List.filter_cons_of_neg (by rw[zM];exact c),bj,ih,yO c2]
     omega
    ·rw[List.filter_cons_of_neg (by rw[zM];omega),List.filter_cons_of_neg (by rw[zM];exact c),ih,yQ c2]
     omega
 rw[this]
 omega
end
theorem Av(h:l.Nodup):(fI l).Pairwise (· < ·):=by
 have hn:(fI l).Nodup:=(ju l).nodup_iff.mpr h
 refine (List.Pairwise.and (oV l) hn).imp fun {a b} z=>?_
 have:=z.1
 have:=z.2
 omega
def aW(b:Bool)(G:List Pl):List Pl:=if b then G.map fun p=>(p.1,fI p.2) else G
section
variable {G T:List Pl}{W:List Wy}{b:Bool}{i k:Nat}
theorem fT:(aW b G).length=G.length:=by cases b<;>simp[aW]
theorem tM{p:Pl}(e:(aW b G)[i]?=some p):∃q,G[i]?=some q/\p.1=q.1/\p.2.Perm q.2:=by
 cases b
 ·exact⟨p,e,rfl,.refl _⟩
 ·rw[aW,yO rfl,zR] at e
  obtain⟨q,hq,rfl⟩:=Option.map_eq_some_iff.mp e
  exact⟨q,hq,rfl,ju _⟩
theorem Ai{p:Pl}(hp:p∈aW b G):∃q∈G,p.1=q.1:=by
 obtain⟨i,hi⟩:=List.mem_iff_getElem?.mp hp
 obtain⟨q,e,z,_⟩:=tM hi
 exact⟨q,qE e,z⟩
theorem xq(h:Wd G T W)(b c:Bool):Wd (aW b G) (aW c T) W where
 g1:=by rw[fT];exact h.g1
 g4:=by rw[fT];exact h.g4
 t1:=by rw[fT];exact h.t1
 t4:=by rw[fT];exact h.t4
 ga:=fun p hp=>let ⟨q,h1,h2⟩:=Ai hp;h2 ▸ h.ga q h1
 ta:=fun p hp=>let ⟨q,h1,h2⟩:=Ai hp;h2 ▸ h.ta q h1
 gl:=fun i p e=>let ⟨q,h1,_,h3⟩:=tM e;h3.trans (h.gl i q h1)
 tl:=fun i p e=>let ⟨q,h1,_,h3⟩:=tM e;h3.trans (h.tl i q h1)
 wr:=fun w hw=>by rw[fT,fT];exact h.wr w hw
 wp:=h.wp
 wl:=h.wl
theorem z8(h:Wd G T W)(hi:i < (aw b G T).length){o:Int}(ho:o∈(bu b G T i).2):((bg (!b) W (mX b W i o):Nat):Int)=o:=by
 obtain⟨a1,_,a3⟩:=jq h (eX hi) ho
 have:=(h.end_pl (!b) a1).2.2
 unfold bg
 rw[this]
 cases b<;>exact a3
theorem E1(h:Wd G T W)(hs:∀i,i < (aw b G T).length->(bu b G T i).2.Pairwise (· < ·)):GR b G T W:=fun i hi=>by
 unfold lst dS
 rw[jH]
 refine (List.Pairwise.imp_of_mem ?_ (hs i hi))
 intro x y hx hy hlt
 have h1:=z8 h hi hx
 have h2:=z8 h hi hy
 omega
theorem nH(h:Wd G T W)(hi:i < (aw b G T).length):(bu b G T i).2.Nodup:=by
 have e:=eX hi
 cases b
 ·exact (h.gl i _ e).nodup_iff.mpr (jh h.wp _)
 ·exact (h.tl i _ e).nodup_iff.mpr (j4 h.wp _)
theorem CZ(h:Wd G T W):GR false (aW true G) T W:=E1 (xq h true false) fun i hi=>by
 have hi':i < G.length:=by have:=hi;rw[show (aw false (aW true G) T).length=(aW true G).length from rfl,fT] at this;exact this
 have e:bu false (aW true G) T i=((bu false G T i).1,fI (bu false G T i).2):=by
  show (aW true G).getD i (0,[])=((G.getD i (0,[])).1,fI (G.getD i (0,[])).2)
  simp[aW,hi']
 rw[e]
 exact Av (nH (b:=false) h hi')
theorem ED(h:Wd G T W):GR true G (aW true T) W:=E1 (xq h false true) fun i hi=>by
 have hi':i < T.length:=by have:=hi;rw[show (aw true G (aW true T)).length=(aW true T).length from rfl,fT] at this;exact this
 have e:bu true G (aW true T) i=((bu true G T i).1,fI (bu true G T i).2):=by
  show (aW true T).getD i (0,[])=((T.getD i (0,[])).1,fI (T.getD i (0,[])).2)
  simp[aW,hi']
 rw[e]
 exact Av (nH (b:=true) h hi')
end
section
variable {off off':List Int}
abbrev cS(b:Bool)(G T:List Pl)(W:List Wy)(off:List Int)(i:Nat):List Int:=nV W off (amt b G T i) (lst b G T W i)
theorem LN(h:Wd G T W)(hi:i < (aw b G T).length)(k:Nat):(cS b G T W off i).getD k 0=ch (mm W off) (amt b G T i) (lst b G T W i) k:=by
 unfold cS nV
 rw[xn _ _ _ (cZ h hi) (fun j hj=>by rw[xP];exact ((cN h hi).mp hj).1)]
 split
 ·rfl
 ·rename_i hn
  rw[wu hn]
  by_cases z:k < W.length<;>simp[z]
theorem Ek:(cS b G T W off i).length=W.length:=oe ..
end
def rf(n:Nat)(f:Nat->Int):List Int:=(List.range n).map f
theorem bU:(rf n f).length=n:=by simp[rf]
theorem ke(hk:k < n):(rf n f).getD k 0=f k:=by simp[rf,hk]
theorem fu{f g:Nat->Int}(h:∀q,q < n->f q=g q):rf n f=rf n g:=yK fun q hq=>h q (by simpa using hq)
theorem xx{f:Nat->Int}(j:Nat)(v:Int):(rf n f).set j v=rf n fun q=>if q=j then v else f q:=by
 refine ie (by rw[yE,bU,bU]) fun k hk=>?_
 rw[yE,bU] at hk
 rw[ke hk]
 by_cases e:k=j
 ·subst e
  rw[yO rfl]
  simp[rf,hk]
 ·rw[yQ e]
  rw[zJ,kW (jP e)]
  simp[rf,hk]
section
variable {G T:List Pl}{W:List Wy}{X:List Int}{b:Bool}{i k q p:Nat}
def rQ(b:Bool)(W:List Wy)(X:List Int)(p q:Nat):Int:=if bg (!b) W q=p then vl X q else 0
def qa(b:Bool)(G T:List Pl)(W:List Wy)(X:List Int)(p j q:Nat):Int:=if q < j/\bg (!b) W q=p then min (aC W q).2.2 (lf b G T W X (bg b W q) p) else 0
def lD(b:Bool)(G T:List Pl)(W:List Wy)(X:List Int)(p j i:Nat):Int:=lf b G T W X i p - sm ((List.range j).filter fun q=>decide (bg b W q=i)) (rQ b W X p)
def nX(b:Bool)(W:List Wy)(X:List Int)(p j q:Nat):Int:=(if bg (!b) W q < p then vl X q else 0)+if q < j then rQ b W X p q else 0
theorem Iw(h:Wd G T W)(a:GR b G T W)(x:Pn G T W X)(r:Rs G T W X)(hp:p < (aw (!b) G T).length):cS (!b) G T W (rf W.length (qa b G T W X p W.length)) p=rf W.length (rQ b W X p):=by
 refine ie (by rw[Ek,bU]) fun k hk=>?_
 rw[Ek] at hk
 rw[LN h hp,ke hk]
 unfold rQ
 split
 ·rename_i e
  subst e
  refine xb h a x r hk fun q hq=>?_
  obtain⟨hqW,hqp⟩:=(cN h hp).mp hq
  unfold mm
  rw[ke hqW]
  unfold qa
  rw[yO ⟨hqW,hqp⟩]
  omega
 ·rename_i e
  exact wu fun z=>e ((cN h hp).mp z).2
theorem Fh(n:Nat):rf n (qa b G T W X p 0)=List.replicate n 0:=by
 refine ie (by rw[bU,xP]) fun k hk=>?_
 rw[bU] at hk
 rw[ke hk]
 simp[qa,hk]
theorem JT(n:Nat)(e:bg (!b) W k=p):(rf n (qa b G T W X p k)).set k (min (aC W k).2.2 (lf b G T W X (bg b W k) p))=rf n (qa b G T W X p (k+1)):=by
 rw[xx]
 refine fu fun q _=>?_
 unfold qa
 by_cases z:q=k
 ·subst z
  rw[yO rfl,yO ⟨by omega,e⟩]
 ·rw[yQ z]
  by_cases y:q < k/\bg (!b) W q=p
  ·rw[yO y,yO ⟨by omega,y.2⟩]
  ·rw[yQ y,yQ fun x=>y ⟨by omega,x.2⟩]
theorem LF(n:Nat)(e:¬ bg (!b) W k=p):rf n (qa b G T W X p k)=rf n (qa b G T W X p (k+1)):=fu fun q _=>by
 unfold qa
 by_cases y:q < k/\bg (!b) W q=p
 ·rw[yO y,yO ⟨by omega,y.2⟩]
 ·rw[yQ y,yQ fun x=>y ⟨by
   have:q≠k:=fun z=>e (z ▸ x.2)
   omega,x.2⟩]
theorem IW:(rf n (lD b G T W X p k)).set (bg b W k) (lD b G T W X p k (bg b W k) - rQ b W X p k)=rf n (lD b G T W X p (k+1)):=by
 rw[xx]
 refine fu fun i _=>?_
 unfold lD
 rw[vQ,List.filter_append,pI]
 by_cases z:i=bg b W k
 ·subst z
  rw[yO rfl,List.filter_cons_of_pos (by simp),List.filter_nil,js]
  omega
 ·rw[yQ z,List.filter_cons_of_neg (by rw[zM];exact fun y=>z y.symm),List.filter_nil]
  simp[sm]
theorem FB(h:Wd G T W):rf (aw b G T).length (lD b G T W X p W.length)=rf (aw b G T).length (lD b G T W X (p+1) 0):=fu fun i hi=>by
 unfold lD
 rw[GB h hi,List.range_zero,List.filter_nil]
 have e:(List.range W.length).filter (fun q=>decide (bg b W q=i))=own b W i:=by
  unfold own
  refine List.filter_congr fun q hq=>decide_eq_decide.mpr ?_
  have:=(h.end_pl b (k:=q) (by simpa using hq)).2.2
  unfold bg
  omega
 rw[e]
 have:sm ([]:List Nat) (rQ b W X (p+1))=0:=by simp[sm]
 rw[this]
 have:sm (own b W i) (rQ b W X p)=sm (own b W i) fun q=>if bg (!b) W q=p then vl X q else 0:=rfl
 omega
theorem DB:rf n (lD b G T W X 0 0)=rf n (amt b G T):=fu fun i _=>by
 unfold lD
 rw[GQ]
 simp[sm]
theorem EU:lD b G T W X p 0 i=lf b G T W X i p:=by
 unfold lD
 simp[sm]
theorem Kn:(rf n (nX b W X p k)).set k (nX b W X p k k+rQ b W X p k)=rf n (nX b W X p (k+1)):=by
 rw[xx]
 refine fu fun q _=>?_
 unfold nX
 by_cases z:q=k
 ·subst z
  rw[yO rfl,yQ (by omega:¬ q < q),yO (by omega:q < q+1)]
  omega
 ·rw[yQ z]
  by_cases y:q < k
  ·rw[yO y,yO (by omega:q < k+1)]
  ·rw[yQ y,yQ (by omega:¬ q < k+1)]
theorem Fp:rf n (nX b W X p n)=rf n (nX b W X (p+1) 0):=fu fun q hq=>by
 unfold nX rQ
 rw[yO hq,yQ (by omega:¬ q < 0)]
 by_cases y:bg (!b) W q < p
 ·rw[yO y,yQ (by omega),yO (by omega)]
 ·by_cases z:bg (!b) W q=p
  ·rw[yQ y,yO z,yO (by omega)]
   omega
  ·rw[yQ y,yQ z,yQ (by omega)]
theorem Ey:rf n (nX b W X 0 0)=List.replicate n 0:=by
 refine ie (by rw[bU,xP]) fun k hk=>?_
 rw[bU] at hk
 rw[ke hk]
 simp[nX,hk]
theorem GZ(h:Wd G T W)(x:Pn G T W X):rf W.length (nX b W X (aw (!b) G T).length 0)=X:=by
 refine ie (by rw[bU,x.len]) fun k hk=>?_
 rw[bU] at hk
 rw[ke hk]
 unfold nX
 rw[yO (cG h (!b) hk),yQ (by omega)]
 show vl X k+0=vl X k
 omega
def zA(L:List Pl)(j:Nat):List Pl:=(List.range j).foldl (fun L i=>sA L i 0) L
theorem Br(L:List Pl)(j:Nat):zA L (j+1)=sA (zA L j) j 0:=by
 unfold zA
 rw[vQ,vC]
 rfl
theorem x5(L:List Pl)(j:Nat):(zA L j).length=L.length:=by
 induction j with
 | zero=>rfl
 | succ j ih=>rw[Br,lz,ih]
theorem EH{L:List Pl}:∀ {j:Nat},j<=L.length->∀k,k < j->((zA L j).getD k (0,[])).1=0
 | 0,_,k,hk=>by omega
 | j+1,hj,k,hk=>by
  rw[Br,Lc (by rw[x5];omega)]
  split
  ·rfl
  ·exact EH (by omega) k (by omega)
theorem Hn(h:Wd G T W):∀j,Wd (zA G j) T W
 | 0=>h
 | j+1=>by rw[Br];exact (Hn h j).gA (by omega)
theorem HX(h:Wd G T W):∀j,Wd G (zA T j) W
 | 0=>h
 | j+1=>by rw[Br];exact (HX h j).tA (by omega)
theorem bare(h:Wd G T W)(b:Bool)(h0:∀i,i < (aw b G T).length->amt b G T i=0)(x:Pn G T W X):X=List.replicate W.length 0:=by
 refine ie (by rw[x.len,xP]) fun k hk=>?_
 rw[x.len] at hk
 have h1:=Dc h x b hk
 rw[h0 _ (cG h b hk)] at h1
 have h2:=A1 (cH h b hk)
 have h3:=x.nn k
 have h4:=JS (f:=vl X) (fun q _=>x.nn q) h2
 have h5:(List.replicate W.length (0:Int)).getD k 0=0:=by simp[hk]
 rw[h5]
 show vl X k=0
 omega
end
namespace K23M
theorem gM{α:Type}{f:α->D}(h:∀x,bQ (f x)=true):∀ (l:List α),cQ (l.map f)=true
 | []=>by simp[cQ]
 | x::l=>by rw[zL,cQ,gM h l,h x];rfl
theorem AQ(l:List Int):bQ (ag l)=true:=by rw[ag,bQ];exact gM (fun _=>by simp[bQ]) l
theorem Cw(p:Pl):bQ (aF p)=true:=by simp[aF,bQ,cQ,AQ]
theorem Gb(w:Wy):bQ (aq w)=true:=by simp[aq,bQ,cQ]
theorem C3(G T:List Pl)(W:List Wy):bQ (ax G T W)=true:=by
 have h1:=gM Cw G
 have h2:=gM Cw T
 have h3:=gM Gb W
 simp only[ax,bQ,cQ,h1,h2,h3,Bool.and_true]
theorem mK{i:Nat}{fz:List Nat}{f:Dl.Env->Option D}{ρ:ar}{d:D}(hA:f (aS ρ)=some d)(hF:f (bx (hand fz 0 ρ))=some d)(hn:bQ d=true):Dl.aB i fz f ρ=some (.nx (ρ.set i (.val d))):=by
 by_cases hs:Dl.l6 d=true
 ·simp only[Dl.aB,hA,zC,hs,xK]
 ·simp only[Dl.aB,hA,hF,zC,hs,qT,zD,hn,xK,yR]
theorem Fj{i:Nat}{fz:List Nat}{f:Dl.Env->Option (List D)}{ρ ρ1:ar}{ds:List D}(hh:hand fz 0 ρ=ρ1)(hf:f (bx ρ1)=some ds)(hn:cQ ds=true):qs i fz f ρ=some (.nx (ρ.set i (.own ds))):=by
 simp only[qs,hh,hf,zC,hn,xK]
theorem tw{n k:Nat}(hl:k < n):wa n ((k:Nat):Int)=some k:=by
 unfold wa
 rw[yO (Int.natCast_nonneg k),yO (by omega)]
 simp
theorem AC{n k:Nat}{fz:List Nat}{fk f:Dl.Env->Option D}{ρ:ar}{l:List Int}{v:Int}(hA:f (aS ρ)=some (.int v))(hk:fk (aS ρ)=some (nD k))(ho:ρ[n]?=some (.own (l.map PyData.int)))(hl:k < l.length):iW n fz fk f ρ=some (.nx (ρ.set n (.own ((l.set k v).map PyData.int)))):=by
 have:fO fz f ρ=some (.int v,ρ):=by
  unfold fO
  rw[hA,zC]
  rfl
 simp only[iW,this,zC,hk,mi,ho,zF,tw hl,zD,oa]
def nst(b:Bool)(L M:List Int):Slot:=.nest (if b then [M.map PyData.int,L.map PyData.int] else [L.map PyData.int,M.map PyData.int])
theorem Gd{n k:Nat}{fa fk f:Dl.Env->Option D}{ρ:ar}{L M:List Int}{v:Int}(b:Bool)(hA:f (aS ρ)=some (.int v))(ha:fa (aS ρ)=some (.int (sI b)))(hk:fk (aS ρ)=some (nD k))(ho:ρ[n]?=some (nst b L M))(hl:k < L.length):pN n fa fk f ρ=some (.nx (ρ.set n (nst b (L.set k v) M))):=by
 have hs:Dl.l6 (.int v)=true:=rfl
 cases b
 ·have hi:wa 2 (sI false)=some 0:=rfl
  simp only[pN,hA,ha,hk,zC,hs,xK,ho,nst,yR,qT,Hj,zO,xO,jG,hi,xU,zF,tw hl,zD,oa,yY]
 ·have hi:wa 2 (sI true)=some 1:=rfl
  simp only[pN,hA,ha,hk,zC,hs,xK,ho,nst,Hj,zO,xO,jG,hi,xU,xB,zF,tw hl,zD,oa,yY,yZ]
section
variable {G T:List Pl}{W:List Wy}{X:List Int}{b:Bool}{i k q p:Nat}
abbrev en(d0 d1:D)(b:Bool)(x3:Slot)(dw:D)(lf:Slot)(du:Slot)(x7 x8 x9 x10 x11 x12 x13:Slot):ar:=[.val d0,.val d1,.val (.int (sI b)),x3,.val dw,lf,du,x7,x8,x9,x10,x11,x12,x13,.non,.non]
def iB:ar->Option Out:=(fH (fB (f2 bC (f2 ao (ab 10) (f2 Dl.dv (fC (.int 1)) (ab 2))) (ab 7))) (iW 8 [2,5,10] (ab 9) (aX qb (aa (f2 ao (ab 10) (fC (.int 2))) (aa (f2 ao (f2 ao (ab 5) (ab 2)) (f2 ao (ab 10) (ab 2))) ae)))) fQ)
def tB:ar->Option Out:=(av (Dl.aB 13 [2,4,9] (f2 ao (f2 ao (f2 ao (ab 4) (fC (.int 2))) (ab 9)) (ab 2))) (av (pN 5 (ab 2) (ab 13) (f2 Dl.dv (f2 ao (f2 ao (ab 5) (ab 2)) (ab 13)) (ab 12))) (iW 6 [6,9,12] (ab 9) (f2 aR (f2 ao (ab 6) (ab 9)) (ab 12)))))
def oB:ar->Option Out:=(av (qs 8 [6] (nu (cF (aa (fC (.int 0)) ae)) (aX bo (aa (ab 6) ae)))) (av (cA [4] (bc (aa (f2 ao (ab 4) (fC (.int 2))) ae)) (dE 9 10) iB) (av (Dl.aB 11 [2,4,7,8] (ah 4 iQ (aa (ab 4) (aa (f2 Dl.dv (fC (.int 1)) (ab 2)) (aa (ab 7) (aa (aX aK (aa (ab 8) ae)) ae)))))) (cA [11] (bc (aa (ab 11) ae)) (dE 9 12) tB))))
def zB:ar->Option Out:=(Dl.aB 14 [2,7,14] (ah 4 d9 (aa (ab 14) (aa (ab 2) (aa (ab 7) (aa (fC (.int 0)) ae))))))
theorem MK(b:Bool):ao (aq (aC W k)) (.int (1 - sI b))=some (.int (bf (!b) (aC W k))):=by cases b<;>rfl
theorem zk(h:Wd G T W)(hk:k < W.length):bf b (aC W k)=((bg b W k:Nat):Int):=(h.end_pl b hk).2.2.symm
theorem z7(h:Wd G T W)(hk:k < W.length)(b:Bool):ao (aq (aC W k)) (.int (sI b))=some (nD (bg b W k)):=by
 rw[n6,zk h hk]
theorem JJ{d0 d1:D}{x3 x11 x12 x13:Slot}{M du:List Int}(h:Wd G T W)(hk:k < W.length) :
  iB (en d0 d1 b x3 (ax G T W) (nst b (rf (aw b G T).length (lD b G T W X p 0)) M) (.own (du.map PyData.int)) (.val (nD p)) (.own ((rf W.length (qa b G T W X p k)).map PyData.int)) (.val (nD k)) (.val (aq (aC W k))) x11 x12 x13)=some (.nx (en d0 d1 b x3 (ax G T W) (nst b (rf (aw b G T).length (lD b G T W X p 0)) M) (.own (du.map PyData.int)) (.val (nD p)) (.own ((rf W.length (qa b G T W X p (k+1))).map PyData.int)) (.val (nD k)) (.val (aq (aC W k))) x11 x12 x13)):=by
 have hp:=cG h b hk
 have ec:∀ρ:Dl.Env,ab 10 ρ=some (aq (aC W k))->ab 2 ρ=some (.int (sI b))->ab 7 ρ=some (nD p)->fB (f2 bC (f2 ao (ab 10) (f2 Dl.dv (fC (.int 1)) (ab 2))) (ab 7)) ρ=some (decide (bg (!b) W k=p)):=fun ρ e1 e2 e3 =>
  c9 ((ay (dk _ _) (ay (MK b) e1 (ay (eV _ _) rfl e2)) e3).trans (by rw[zk h hk];congr 2;exact decide_eq_decide.mpr (by omega)))
 unfold iB
 by_cases e:bg (!b) W k=p
 ·rw[fS ((ec _ rfl rfl rfl).trans (by rw[yC e]))]
  refine (AC (k:=k) (l:=rf W.length (qa b G T W X p k)) (v:=min (aC W k).2.2 (lf b G T W X (bg b W k) p)) ?_ rfl rfl (by rw[bU];exact hk)).trans ?_
  ·have e1:f2 ao (ab 10) (fC (.int 2)) (aS (en d0 d1 b x3 (ax G T W) (nst b (rf (aw b G T).length (lD b G T W X p 0)) M) (.own (du.map PyData.int)) (.val (nD p)) (.own ((rf W.length (qa b G T W X p k)).map PyData.int)) (.val (nD k)) (.val (aq (aC W k))) x11 x12 x13))=some (.int (aC W k).2.2):=ay (AY _) rfl rfl
   have e2:f2 ao (f2 ao (ab 5) (ab 2)) (f2 ao (ab 10) (ab 2)) (aS (en d0 d1 b x3 (ax G T W) (nst b (rf (aw b G T).length (lD b G T W X p 0)) M) (.own (du.map PyData.int)) (.val (nD p)) (.own ((rf W.length (qa b G T W X p k)).map PyData.int)) (.val (nD k)) (.val (aq (aC W k))) x11 x12 x13))=some (.int (lf b G T W X (bg b W k) p)):=by
    refine ay (a:=.list ((rf (aw b G T).length (lD b G T W X p 0)).map PyData.int)) (b:=nD (bg b W k)) ((sN (by rw[bU];exact hp)).trans (by rw[ke hp,EU])) ?_ (ay (z7 h hk b) rfl rfl)
    cases b<;>exact ay (b:=.int (sI _)) rfl rfl rfl
   have e3:=cons_of e1 (cons_of (fs:=ae) (ds:=[]) e2 rfl)
   simp only[aX,e3,zC]
   rfl
  ·rw[JT _ e]
   rfl
 ·rw[JN ((ec _ rfl rfl rfl).trans (by rw[yB e])),LF _ e]
  rfl
theorem Im{d0 d1:D}{x3 x7 x8 x10 x11 x13:Slot}{M:List Int}(h:Wd G T W)(hk:k < W.length) :
  tB (en d0 d1 b x3 (ax G T W) (nst b (rf (aw b G T).length (lD b G T W X p k)) M) (.own ((rf W.length (nX b W X p k)).map PyData.int)) x7 x8 (.val (nD k)) x10 x11 (.val (.int (rQ b W X p k))) x13)=some (.nx (en d0 d1 b x3 (ax G T W) (nst b (rf (aw b G T).length (lD b G T W X p (k+1))) M) (.own ((rf W.length (nX b W X p (k+1))).map PyData.int)) x7 x8 (.val (nD k)) x10 x11 (.val (.int (rQ b W X p k))) (.val (nD (bg b W k))))):=by
 have hp:=cG h b hk
 unfold tB
 have e13:∀ρ:Dl.Env,ab 4 ρ=some (ax G T W)->ab 9 ρ=some (nD k)->ab 2 ρ=some (.int (sI b))->f2 ao (f2 ao (f2 ao (ab 4) (fC (.int 2))) (ab 9)) (ab 2) ρ=some (nD (bg b W k)):=fun ρ e4 e9 e2=>ay (z7 h hk b) (ay (mP hk) (ay (gW G T W) e4 rfl) e9) e2
 refine (ai (cX (e13 _ rfl rfl rfl) rfl)).trans ?_
 refine (ai (Gd (k:=bg b W k) (L:=rf (aw b G T).length (lD b G T W X p k)) (M:=M) (v:=lD b G T W X p k (bg b W k) - rQ b W X p k) b ?_ rfl rfl rfl (by rw[bU];exact hp))).trans ?_
 ·refine ay (eV _ _) (ay (a:=.list ((rf (aw b G T).length (lD b G T W X p k)).map PyData.int)) (b:=nD (bg b W k)) ((sN (by rw[bU];exact hp)).trans (by rw[ke hp])) ?_ rfl) rfl
  cases b<;>exact ay (b:=.int (sI _)) rfl rfl rfl
 ·rw[IW]
  refine (AC (k:=k) (l:=rf W.length (nX b W X p k)) (v:=nX b W X p k k+rQ b W X p k) ?_ rfl rfl (by rw[bU];exact hk)).trans ?_
  ·exact ay (gQ _ _) (ay ((sN (by rw[bU];exact hk)).trans (by rw[ke hk])) rfl rfl) rfl
  ·rw[Kn]
   rfl
theorem IJ{f:Dl.Env->Option D}{ρ:Dl.Env}(hf:f ρ=some (ax G T W)):bc (aa (f2 ao f (fC (.int 2))) ae) ρ=some ((List.range' 0 W.length).map fun k=>.tuple [nD k,aq (aC W k)]):=by
 unfold bc
 rw[cons_of (ay (gW G T W) hf rfl) rfl,<- B3]
 rfl
theorem xp{d0 d1:D}{x3 x8 x9 x10 x11 x12 x13:Slot}{M:List Int}(h:Wd G T W)(a:GR b G T W)(x:Pn G T W X)(r:Rs G T W X)(hp:p < (aw (!b) G T).length) :
  ∃y8 y9 y10 y11 y12 y13,oB (en d0 d1 b x3 (ax G T W) (nst b (rf (aw b G T).length (lD b G T W X p 0)) M) (.own ((rf W.length (nX b W X p 0)).map PyData.int)) (.val (nD p)) x8 x9 x10 x11 x12 x13)=some (.nx (en d0 d1 b x3 (ax G T W) (nst b (rf (aw b G T).length (lD b G T W X (p+1) 0)) M) (.own ((rf W.length (nX b W X (p+1) 0)).map PyData.int)) (.val (nD p)) y8 y9 y10 y11 y12 y13)):=by
 have hw:=h.wl
 obtain⟨ρ1,e1,x9,x10,rfl⟩:=lI (tgt:=dE 9 10) (gb:=iB) (fun k=>.tuple [nD k,aq (aC W k)]) (fun k ρ=>∃x9 x10,ρ=en d0 d1 b x3 (ax G T W) (nst b (rf (aw b G T).length (lD b G T W X p 0)) M) (.own ((rf W.length (nX b W X p 0)).map PyData.int)) (.val (nD p)) (.own ((rf W.length (qa b G T W X p k)).map PyData.int)) x9 x10 x11 x12 x13) W.length 0 (en d0 d1 b x3 (ax G T W) (nst b (rf (aw b G T).length (lD b G T W X p 0)) M) (.own ((rf W.length (nX b W X p 0)).map PyData.int)) (.val (nD p)) (.own ((rf W.length (qa b G T W X p 0)).map PyData.int)) x9 x10 x11 x12 x13)
  (fun k ρ _ hk hρ=>by
   obtain⟨x9,x10,rfl⟩:=hρ
   exact⟨_,_,rfl,JJ h (by omega),_,_,rfl⟩) ⟨_,_,rfl⟩
 rw[jG] at e1
 obtain⟨ρ2,e2,y9,y12,y13,rfl⟩:=lI (tgt:=dE 9 12) (gb:=tB) (fun k=>.tuple [nD k,.int ((rf W.length (rQ b W X p)).getD k 0)]) (fun k ρ=>∃y9 y12 y13,ρ=en d0 d1 b x3 (ax G T W) (nst b (rf (aw b G T).length (lD b G T W X p k)) M) (.own ((rf W.length (nX b W X p k)).map PyData.int)) (.val (nD p)) (.own ((rf W.length (qa b G T W X p W.length)).map PyData.int)) y9 x10 (.val (ag (rf W.length (rQ b W X p)))) y12 y13) W.length 0 (en d0 d1 b x3 (ax G T W) (nst b (rf (aw b G T).length (lD b G T W X p 0)) M) (.own ((rf W.length (nX b W X p 0)).map PyData.int)) (.val (nD p)) (.own ((rf W.length (qa b G T W X p W.length)).map PyData.int)) x9 x10 (.val (ag (rf W.length (rQ b W X p)))) x12 x13)
  (fun k ρ _ hk hρ=>by
   obtain⟨y9,y12,y13,rfl⟩:=hρ
   have hk':k < W.length:=by omega
   refine⟨_,_,rfl,?_,.val (nD k),.val (.int (rQ b W X p k)),.val (nD (bg b W k)),rfl⟩
   rw[ke hk']
   exact Im h hk') ⟨_,_,_,rfl⟩
 rw[jG,FB h,Fp] at e2
 have ech:∀ρ:Dl.Env,ab 4 ρ=some (ax G T W)->ab 2 ρ=some (.int (sI b))->ab 7 ρ=some (nD p)->ab 8 ρ=some (.list ((rf W.length (qa b G T W X p W.length)).map PyData.int))->ah 4 iQ (aa (ab 4) (aa (f2 Dl.dv (fC (.int 1)) (ab 2)) (aa (ab 7) (aa (aX aK (aa (ab 8) ae)) ae)))) ρ=some (ag (rf W.length (rQ b W X p))):=fun ρ f4 f2' f7 f8=>by
  refine call_of ((BF h (by rw[bU]) hp).trans (by rw[<- Iw h a x r hp])) (cons_of f4 (cons_of (ay (by rw[eV];cases b<;>rfl) rfl f2') (cons_of f7 (cons_of ((i6 f8).trans (mv _)) rfl)))) rfl
 refine⟨.own ((rf W.length (qa b G T W X p W.length)).map PyData.int),y9,x10,.val (ag (rf W.length (rQ b W X p))),y12,y13,?_⟩
 ·unfold oB
  refine (ai (Fj rfl (E3 (n:=W.length) ?_ (by omega)) (gM (fun _=>by simp[bQ]) _))).trans ?_
  ·refine (i6 (g:=bo) (f:=ab 6) (d:=.list ((rf W.length (nX b W X p 0)).map PyData.int)) rfl).trans ?_
   show some (nD _)=_
   rw[zF,bU]
  ·rw[<- Fh (b:=b) (G:=G) (T:=T) (W:=W) (X:=X) (p:=p)]
   refine (ai (c6 e1 (IJ rfl) rfl)).trans ?_
   refine (ai (mK (ech _ rfl rfl rfl rfl) (ech _ rfl rfl rfl rfl) (AQ _))).trans ?_
   refine c6 e2 ?_ rfl
   show some (bh 0 ((rf W.length (rQ b W X p)).map PyData.int))=_
   rw[CK,bU,yJ]
theorem FC{n:Nat}{fp fq:Dl.Env->Option (List D)}{ρ:ar}{ds es:List D}(h1:fp (bx ρ)=some ds)(h2:fq (bx ρ)=some es)(h3:ρ.all nY=true):rK n fp fq ρ=some (.nx (ρ.set n (.nest [ds,es]))):=by
 simp only[rK,h1,h2,zC,h3,xK]
theorem IM{n:Nat}{fz:List Nat}{fk f:Dl.Env->Option D}{ρ:ar}{ds:List D}{d:D}(hA:f (aS ρ)=some d)(hF:f (bx ρ)=some d)(hh:hand fz 0 ρ=ρ)(hk:fk (aS ρ)=some (nD k))(ho:ρ[n]?=some (.own ds))(hl:k < ds.length):iW n fz fk f ρ=some (.nx (ρ.set n (.own (ds.set k d)))):=by
 have:fO fz f ρ=some (d,ρ):=by
  unfold fO
  rw[hA,zC]
  split
  ·rfl
  ·rw[hh,hF]
   rfl
 simp only[iW,this,zC,hk,mi,ho,tw hl,zD]
theorem Gs(h:Wd G T W)(hi:i < (aw b G T).length):(bu b G T i).2.length<=16:=by
 have h1:(lst b G T W i).length=(bu b G T i).2.length:=by simp[lst,dS]
 have h2:(own b W i).length<=W.length:=by
  have:=xS (fun j=>decide (bf b (aC W j)=((i:Nat):Int))) (List.range W.length)
  rw[zU] at this
  exact this
 have h3:=(iS h hi).length_eq
 have:=h.wl
 omega
theorem A8{l:List Int}(hl:l.length < 64):gh [ag l]=some ((fI l).map PyData.int):=by
 simp only[gh,oneOf,zC,ag,cq,hl,xK]
theorem uA(h:Wd G T W)(b:Bool){ρ:Dl.Env}(e1:ab 1 ρ=some (ax G T W))(e2:ab 2 ρ=some (.int (sI b))):(aX aK (aa (bT (aj 2 [] (aQ (f2 ao (ab 1) (ab 2))) (fy 0 1) (fun _=>some true) (aM (aa (ab 0) (aa (aX aK (aa (bT (fF gh (aa (ab 1) ae))) ae)) ae))))) ae)) ρ=some (.tuple ((aw b (aW (!b) G) (aW b T)).map aF)):=by
 have h4:=h.pl b
 have hfi:aQ (f2 ao (ab 1) (ab 2)) ρ=some ((List.range (aw b G T).length).map fun i=>.tuple [.int (bu b G T i).1,ag (bu b G T i).2]):=by
  refine (zt (ay (dW b G T W) e1 e2)).trans ?_
  exact jF some (map_range (0,[]) aF (aw b G T)).symm
 have c:=l5 (ρ:=ρ) (cs:=[]) (tt:=fun _=>some true) (te:=(aM (aa (ab 0) (aa (aX aK (aa (bT (fF gh (aa (ab 1) ae))) ae)) ae)))) (p:=fun _=>true) (h:=fun i=>aF ((bu b G T i).1,fI (bu b G T i).2)) hfi (by omega) fun i hi=>⟨rfl,fun _=>by
  have es:fF gh (aa (ab 1) ae) (some (.int (bu b G T i).1)::some (ag (bu b G T i).2)::[])=some ((fI (bu b G T i).2).map PyData.int):=by
   show gh [ag (bu b G T i).2]=_
   exact A8 (by have:=Gs h hi;omega)
  exact tup_is (ds:=[.int (bu b G T i).1,ag (fI (bu b G T i).2)]) (cons_of rfl (cons_of ((i6 (yw es)).trans (mv _)) rfl)) (by simp)⟩
 rw[i6 (yw c),xo,List.filter_eq_self.mpr fun _ _=>rfl]
 refine jF some (jF PyData.tuple ?_)
 refine (map_range (0,[]) (fun p:Pl=>aF (p.1,fI p.2)) (aw b G T)).trans ?_
 cases b
 ·show _=(aW true G).map aF
  rw[aW,yO rfl,zP]
  rfl
 ·show _=(aW true T).map aF
  rw[aW,yO rfl,zP]
  rfl
theorem CJ(h:Wd G T W)(c:Bool){ρ:Dl.Env}(e4:ab 4 ρ=some (ax G T W)):(aj 1 [] (aQ (f2 ao (ab 4) (fC (.int (sI c))))) (fG 0) (fun _=>some true) (f2 ao (ab 0) (fC (.int 0)))) ρ=some ((rf (aw c G T).length (amt c G T)).map PyData.int):=by
 have h4:=h.pl c
 have z:=BD (ρ:=ρ) (fi:=aQ (f2 ao (ab 4) (fC (.int (sI c))))) (cs:=[]) (tt:=fun _=>some true) (te:=f2 ao (ab 0) (fC (.int 0))) (g:=aF) (f:=fun p=>.int p.1) (q:=fun _=>true) (l:=aw c G T) (zt (ay (dW c G T W) e4 rfl)) (by omega) fun p _=>⟨rfl,fun _=>ay (a:=aF p) (b:=.int 0) rfl rfl rfl⟩
 rw[List.filter_eq_self.mpr fun _ _=>rfl] at z
 refine z.trans (jF some ?_)
 rw[rf,zP]
 exact (map_range (0,[]) (fun p:Pl=>PyData.int p.1) (aw c G T)).symm
def zG(b:Bool)(G:List Pl)(j:Nat):List Pl:=if b then G else zA G j
theorem Lx(h:Wd G T W)(b:Bool)(j:Nat):Wd (zG b G j) (zG (!b) T j) W:=by
 cases b
 ·exact Hn h j
 ·exact HX h j
theorem Ht(b:Bool)(j:Nat):(aw b (zG b G j) (zG (!b) T j)).length=(aw b G T).length:=by
 cases b
 ·exact x5 G j
 ·exact x5 T j
theorem KO(b:Bool):∀i,i < (aw b (zG b G (aw b G T).length) (zG (!b) T (aw b G T).length)).length->amt b (zG b G (aw b G T).length) (zG (!b) T (aw b G T).length) i=0:=fun i hi=>by
 rw[Ht] at hi
 cases b
 ·exact EH (L:=G) (yP _) i hi
 ·exact EH (L:=T) (yP _) i hi
theorem Mi(b:Bool)(j:Nat):Nd b (zG b G j) (zG (!b) T j) W j 0=ax (zG b G (j+1)) (zG (!b) T (j+1)) W:=by
 cases b
 ·show ax (sA (zA G j) j 0) T W=ax (zA G (j+1)) T W
  rw[Br]
 ·show ax G (sA (zA T j) j 0) W=ax G (zA T (j+1)) W
  rw[Br]
theorem main(ns:List Int)(hl:ns.length<=63):gC [.list (ns.map PyData.int)]=some (.bool true):=by
 obtain⟨G,T,W,ew,h,few⟩:=uJ (ns:=ns) (a:=0) (mo:=9) hl (by omega)
 have hw:=h.wl
 have hd70:=eH (ns:=ns) 70 2 hl (by omega)
 obtain⟨b,eb⟩:∃b:Bool,dr ns 70 2=sI b:=by
  rcases (by omega:dr ns 70 2=0\/dr ns 70 2=1) with z|z
  ·exact⟨false,z⟩
  ·exact⟨true,z⟩
 have ed:=hd70.1
 rw[eb] at ed
 have hA:Wd (aW (!b) G) (aW b T) W:=xq h (!b) b
 have aA:GR b (aW (!b) G) (aW b T) W:=by
  cases b
  ·exact CZ h
  ·exact ED h
 have x:=mS hA
 have r:=w6 hA
 have eS:=Hg hA aA x r (HK hA) (K7 hA)
 have hpl:=h.pl b
 have hplA:=hA.pl (!b)
 have ep:∀c:Bool,(.own (([.tuple (G.map aF),.tuple (T.map aF),.tuple (W.map aq)]:List D).set (sI b).toNat (.tuple ((aw b (aW (!b) G) (aW b T)).map aF))):Slot)=.own [.tuple ((aW (!b) G).map aF),.tuple ((aW b T).map aF),.tuple (W.map aq)]:=fun _=>by cases b<;>rfl
 obtain⟨ρ1,e1,x7,x8,x9,x10,x11,x12,x13,rfl⟩:=lI (tgt:=pW 7) (gb:=oB) nD (fun p ρ=>∃x7 x8 x9 x10 x11 x12 x13,ρ=en (cM ns) (ax G T W) b (.own [.tuple ((aW (!b) G).map aF),.tuple ((aW b T).map aF),.tuple (W.map aq)]) (ax (aW (!b) G) (aW b T) W) (nst b (rf (aw b (aW (!b) G) (aW b T)).length (lD b (aW (!b) G) (aW b T) W (tU (aW (!b) G) (aW b T) W) p 0)) (rf (aw (!b) (aW (!b) G) (aW b T)).length (amt (!b) (aW (!b) G) (aW b T)))) (.own ((rf W.length (nX b W (tU (aW (!b) G) (aW b T) W) p 0)).map PyData.int)) x7 x8 x9 x10 x11 x12 x13) (aw (!b) (aW (!b) G) (aW b T)).length 0 (en (cM ns) (ax G T W) b (.own [.tuple ((aW (!b) G).map aF),.tuple ((aW b T).map aF),.tuple (W.map aq)]) (ax (aW (!b) G) (aW b T) W) (nst b (rf (aw b (aW (!b) G) (aW b T)).length (lD b (aW (!b) G) (aW b T) W (tU (aW (!b) G) (aW b T) W) 0 0)) (rf (aw (!b) (aW (!b) G) (aW b T)).length (amt (!b) (aW (!b) G) (aW b T)))) (.own ((rf W.length (nX b W (tU (aW (!b) G) (aW b T) W) 0 0)).map PyData.int)) .non .non .non .non .non .non .non)
  (fun p ρ _ hp hρ=>by
   obtain⟨x7,x8,x9,x10,x11,x12,x13,rfl⟩:=hρ
   obtain⟨y8,y9,y10,y11,y12,y13,e⟩:=xp (d0:=cM ns) (d1:=ax G T W) (x3:=.own [.tuple ((aW (!b) G).map aF),.tuple ((aW b T).map aF),.tuple (W.map aq)]) (x8:=x8) (x9:=x9) (x10:=x10) (x11:=x11) (x12:=x12) (x13:=x13) (M:=rf (aw (!b) (aW (!b) G) (aW b T)).length (amt (!b) (aW (!b) G) (aW b T))) hA aA x r (show p < (aw (!b) (aW (!b) G) (aW b T)).length by omega)
   exact⟨_,_,rfl,e,_,_,_,_,_,_,_,rfl⟩) ⟨_,_,_,_,_,_,_,rfl⟩
 rw[jG,DB,Ey,GZ hA x,<- yJ] at e1
 generalize rf (aw b (aW (!b) G) (aW b T)).length (lD b (aW (!b) G) (aW b T) W (tU (aW (!b) G) (aW b T) W) (aw (!b) (aW (!b) G) (aW b T)).length 0)=LL at e1
 obtain⟨ρ2,e2,y7,rfl⟩:=lI (tgt:=pW 7) (gb:=zB) nD (fun j ρ=>∃y7,ρ=[.val (cM ns),.val (ax G T W),.val (.int (sI b)),.own [.tuple ((aW (!b) G).map aF),.tuple ((aW b T).map aF),.tuple (W.map aq)],.val (ax (aW (!b) G) (aW b T) W),nst b LL (rf (aw (!b) (aW (!b) G) (aW b T)).length (amt (!b) (aW (!b) G) (aW b T))),.own ((tU (aW (!b) G) (aW b T) W).map PyData.int),y7,x8,x9,x10,x11,x12,x13,.val (ax (zG b G j) (zG (!b) T j) W),.non]) (aw b G T).length 0 [.val (cM ns),.val (ax G T W),.val (.int (sI b)),.own [.tuple ((aW (!b) G).map aF),.tuple ((aW b T).map aF),.tuple (W.map aq)],.val (ax (aW (!b) G) (aW b T) W),nst b LL (rf (aw (!b) (aW (!b) G) (aW b T)).length (amt (!b) (aW (!b) G) (aW b T))),.own ((tU (aW (!b) G) (aW b T) W).map PyData.int),x7,x8,x9,x10,x11,x12,x13,.val (ax (zG b G 0) (zG (!b) T 0) W),.non]
  (fun j ρ _ hj hρ=>by
   obtain⟨y7,rfl⟩:=hρ
   have ec:=(pZ (b:=b) (i:=j) (a:=0) (Lx h b j) (by rw[Ht];omega) (by omega)).trans (by rw[Mi])
   refine⟨_,_,rfl,mK (call_of ec rfl rfl) (call_of ec rfl rfl) (C3 _ _ _),.val (nD j),rfl⟩) ⟨_,rfl⟩
 rw[jG,<- yJ] at e2
 have hZ:=Lx h b (aw b G T).length
 have hz:=KO (G:=G) (T:=T) b
 have b1:=bare hZ b hz (mS hZ)
 have b2:=bare hZ b hz (HK hZ)
 have e0:((([.tuple (G.map aF),.tuple (T.map aF),.tuple (W.map aq)]:List D).set (sI b).toNat (.tuple ((aw b (aW (!b) G) (aW b T)).map aF))))=[.tuple ((aW (!b) G).map aF),.tuple ((aW b T).map aF),.tuple (W.map aq)]:=by cases b<;>rfl
 have ens:(.nest [(rf (aw false (aW (!b) G) (aW b T)).length (amt false (aW (!b) G) (aW b T))).map PyData.int,(rf (aw true (aW (!b) G) (aW b T)).length (amt true (aW (!b) G) (aW b T))).map PyData.int]:Slot)=nst b (rf (aw b (aW (!b) G) (aW b T)).length (amt b (aW (!b) G) (aW b T))) (rf (aw (!b) (aW (!b) G) (aW b T)).length (amt (!b) (aW (!b) G) (aW b T))):=by cases b<;>rfl
 refine aN ?_
 show (av (Dl.aB 1 [0] (ah 3 bV (aa (ab 0) (aa (fC (.int 0)) (aa (fC (.int 9)) ae))))) (av (fH (fB (f2 j6 (ah 1 bR (aa (ab 1) ae)) (f2 bC (ah 1 aO (aa (ab 1) ae)) (ah 1 b9 (aa (ab 1) ae))))) (aJ (fC (.bool false))) fQ) (av (Dl.aB 2 [0] (ah 3 au (aa (ab 0) (aa (fC (.int 70)) (aa (fC (.int 2)) ae))))) (av (aL 3 [1] (fF ck (aa (ab 1) ae))) (av (iW 3 [1,2] (ab 2) (aX aK (aa (bT (aj 2 [] (aQ (f2 ao (ab 1) (ab 2))) (fy 0 1) (fun _=>some true) (aM (aa (ab 0) (aa (aX aK (aa (bT (fF gh (aa (ab 1) ae))) ae)) ae))))) ae))) (av (Dl.aB 4 [3] (aX aK (aa (ab 3) ae))) (av (fH (mz (bA (fB (ah 1 bB (aa (ab 4) ae)))) (bA (fB (ah 1 bR (aa (ab 4) ae))))) (aJ (fC (.bool false))) fQ) (av (rK 5 (aj 1 [] (aQ (f2 ao (ab 4) (fC (.int 0)))) (fG 0) (fun _=>some true) (f2 ao (ab 0) (fC (.int 0)))) (aj 1 [] (aQ (f2 ao (ab 4) (fC (.int 1)))) (fG 0) (fun _=>some true) (f2 ao (ab 0) (fC (.int 0))))) (av (aL 6 [4] (nu (cF (aa (fC (.int 0)) ae)) (aX bo (aa (f2 ao (ab 4) (fC (.int 2))) ae)))) (av (cA [2,4] (bq (aa (aX bo (aa (f2 ao (ab 4) (f2 Dl.dv (fC (.int 1)) (ab 2))) ae)) ae)) (pW 7) oB) (av (fH (mz (fB (f2 j6 (ah 1 aO (aa (ab 4) ae)) (aX aK (aa (ab 6) ae)))) (fB (f2 j6 (ah 2 j1 (aa (ab 4) (aa (aX aK (aa (ab 6) ae)) ae))) (bT (cF ae))))) (aJ (fC (.bool false))) fQ) (av (Dl.aB 14 [1] (ab 1)) (av (cA [1,2] (bq (aa (aX bo (aa (f2 ao (ab 1) (ab 2)) ae)) ae)) (pW 7) zB) (av (Dl.aB 15 [1] (f2 ej (aM (aa (fC (.int 0)) ae)) (aX bo (aa (f2 ao (ab 1) (fC (.int 2))) ae)))) (aJ (gD (ah 1 bR (aa (ab 14) ae)) (gD (f2 bC (ah 1 aO (aa (ab 14) ae)) (ab 15)) (ah 2 lN (aa (ab 14) (aa (ab 15) ae)))))))))))))))))))) [.val (cM ns),.non,.non,.non,.non,.non,.non,.non,.non,.non,.non,.non,.non,.non,.non,.non]=_
 refine (ai (bN (call_of ew rfl rfl) (call_of ew rfl rfl) rfl)).trans ?_
 refine (ai (dh (c9 (ay (Bl _) (call_of (i8 h) rfl rfl) (ay (pA _ _) (call_of (oI h) rfl rfl) (call_of (zy h) rfl rfl)))))).trans ?_
 refine (ai (bN (call_of ed rfl rfl) (call_of ed rfl rfl) rfl)).trans ?_
 refine (ai (gE (ds:=[.tuple (G.map aF),.tuple (T.map aF),.tuple (W.map aq)]) rfl rfl)).trans ?_
 refine (ai (IM (k:=(sI b).toNat) (ds:=[.tuple (G.map aF),.tuple (T.map aF),.tuple (W.map aq)]) (uA h b rfl rfl) (uA h b rfl rfl) rfl (by cases b<;>rfl) rfl (show (sI b).toNat < 3 by cases b<;>decide))).trans ?_
 rw[e0]
 refine (ai (mK (d:=ax (aW (!b) G) (aW b T) W) rfl rfl (C3 _ _ _))).trans ?_
 refine (ai (dh (EA (dQ (b:=true) (c9 (call_of (pK hA) rfl rfl))) (dQ (b:=true) (c9 (call_of ((i8 hA).trans (by rw[yC eS])) rfl rfl)))))).trans ?_
 refine (ai (FC (CJ hA false rfl) (CJ hA true rfl) rfl)).trans ?_
 rw[ens]
 refine (ai (gE (E3 (k5 (l:=W) (k:=aq) (ay (gW _ _ _) rfl rfl)) (by omega)) rfl)).trans ?_
 refine (ai (c6 e1 (pf (u4 (b:=!b) rfl (ay (by rw[eV];cases b<;>rfl) rfl rfl)) (by omega)) rfl)).trans ?_
 have lv:v9 (aW (!b) G) (aW b T) W (tU (aW (!b) G) (aW b T) W)=[]:=(lV hA x).mpr r
 have el:=B9 hA x
 rw[lv] at el
 refine (ai (dh (EA (c9 (ay (Cd _) (call_of (oI hA) rfl rfl) ((i6 rfl).trans (mv _)))) (c9 (ay (A5 []) (call_of el (cons_of rfl (cons_of ((i6 rfl).trans (mv _)) rfl)) rfl) (nil_of _)))))).trans ?_
 refine (ai (bN rfl rfl rfl)).trans ?_
 have zz:ax G T W=ax (zG b G 0) (zG (!b) T 0) W:=by cases b<;>rfl
 refine (ai (c6 (e2) (pf (u4 (b:=b) rfl rfl) (by omega)) (by rw[<- zz];rfl))).trans ?_
 refine (ai (bN (d:=ag (List.replicate W.length 0)) (ay (HN (n:=W.length) (by omega)) (G9 rfl) (k5 (l:=W) (k:=aq) (ay (gW _ _ _) rfl rfl))) (ay (HN (n:=W.length) (by omega)) (G9 rfl) (k5 (l:=W) (k:=aq) (ay (gW _ _ _) rfl rfl))) rfl)).trans ?_
 have eq1:aO [ax (zG b G (aw b G T).length) (zG (!b) T (aw b G T).length) W]=some (ag (List.replicate W.length 0)):=(oI hZ).trans (by rw[b1])
 have pn0:=mS hZ
 have rs0:=w6 hZ
 rw[b1] at pn0 rs0
 exact aU (pL (call_of ((i8 hZ).trans (by rw[yC (b1.trans b2.symm)])) rfl rfl) (pL (ay ((pA _ _).trans (by rw[yC rfl])) (call_of eq1 rfl rfl) rfl) (call_of (ui hZ pn0 rs0) rfl rfl)))
end
end K23M
end Wm
namespace K23
open PySem L2 Dl PySem.Spec PyProof.Rows Pg Hd PySem.W Rg0
theorem main(ns:List Int)(h:ns.length<=63):gC [.list (ns.map PyData.int)]=some (.bool true):=Wm.K23M.main ns h
theorem ins(P:Params){h:Heap}{mg:Str->Option Value}(X:(Kf P).In h)(G:h.Ns mainGlobals mg):JK (Kf P) mg:=⟨fun _ _ _=>by
 have B:∀x∈da,mg x=none:=fun x hx=>mg_none_of X G (Dl.Ja (by kernel_rfl) x hx)
 refine on (top 62) (f3 377 376 tV) ?_
 refine on (top 61) (f1 370 369 tV) ?_
 refine on (top 60) (f2 365 364 tV) ?_
 refine on (top 59) (f4 358 357 tV) ?_
 refine on (top 58) (f3 353 352 tV) ?_
 refine on (top 57) (f3 348 347 tV) ?_
 refine on (top 56) (f3 341 340 tV) ?_
 refine on (top 55) (f2 334 333 tV) ?_
 refine on (top 53) (f4 327 326 L5) ?_
 refine on (top 52) (f5 320 319 L5) ?_
 refine on (top 50) (f1 313 312 Np) ?_
 refine on (top 48) (f1 306 305 we) ?_
 refine on (top 47) (f1 299 298 we) ?_
 refine on (top 46) (f2 292 291 we) ?_
 refine on (top 45) (f1 285 284 we) ?_
 refine on (top 44) (f2 278 277 we) ?_
 refine on (top 43) (f3 271 270 we) ?_
 refine on (top 42) (f1 264 263 we) ?_
 refine on (top 41) (f3 259 258 we) ?_
 refine on (top 39) (f2 254 253 tT) ?_
 refine on (top 38) (f2 247 246 tT) ?_
 refine on (top 37) (f2 242 241 tT) ?_
 refine on (top 36) (f2 235 234 tT) ?_
 refine on (top 35) (f3 228 227 tT) ?_
 refine on (top 34) (f4 221 220 tT) ?_
 refine on (top 33) (f4 216 215 tT) ?_
 refine on (top 32) (f4 209 208 tT) ?_
 refine ol (top 31) Bb "ways_of.<locals>.<lambda>" (l3 204 203 tT) ?_
 refine on (top 29) (f2 199 198 fR) ?_
 refine on (top 28) (f1 194 193 fR) ?_
 refine ol (top 27) pD "turned_order.<locals>.<lambda>" (l1 189 188 fR) ?_
 refine on (top 26) (f3 182 181 fR) ?_
 refine on (top 25) (f3 175 174 fR) ?_
 refine on (top 24) (f1 168 167 fR) ?_
 refine on (top 23) (f2 161 160 fR) ?_
 refine on (top 22) (f3 154 153 fR) ?_
 refine on (top 21) (f2 147 146 fR) ?_
 refine on (top 20) (f1 140 139 fR) ?_
 refine on (top 19) (f2 133 132 fR) ?_
 refine on (top 18) (f3 128 127 fR) ?_
 refine on (top 17) (f4 123 122 fR) ?_
 refine on (top 16) (f1 118 117 fR) ?_
 refine on (top 15) (f1 113 112 fR) ?_
 refine on (top 14) (f3 108 107 fR) ?_
 refine on (top 13) (f3 103 102 fR) ?_
 refine on (top 12) (f2 96 95 fR) ?_
 refine on (top 11) (f2 89 88 fR) ?_
 refine on (top 10) (f3 84 83 fR) ?_
 refine on (top 9) (f2 77 76 fR) ?_
 refine on (top 8) (f3 70 69 fR) ?_
 exact⟨Rf.Mx,(Rf.Hx ⟨257,mg_of X G (by kernel_rfl)⟩ (Rf.Hx ⟨259,mg_of X G (by kernel_rfl)⟩ Rf.MW)),B,⟨_,X,G⟩⟩,iA.mg (f1 382 381 tV) X G⟩
theorem NQ(w:World):mh (Kf w.params) [184,201]=true:=by kernel_rfl
end K23
open PySem PySem.W PyProof.Rows
theorem PySem.Challenge.cw_stillflow_k23_whole_single_holds : PySem.Challenge.rw_stillflow_k23_whole_single.Holds := by
 refine holds_law K23.Mw fun k1=>?_
 refine holds_open (XP:=XL K23.vw []) (YP:=K23.hk.says) K23.left K23.hk.of K23.hk.keeps (fun s e=>xl_of s (Bool.and_eq_true_iff.mp e).1) XL.keeps (by rfl) (by rfl) (by rfl) (fun s e=>recFacts_of (Bool.and_eq_true_iff.mp e).2) (by rfl) k1 (by decide +kernel) ⟨rfl,rfl,rfl,rfl,rfl,by decide +kernel⟩ ?hw ?hc
 case hw=>w_witness2
 case hc=>exact K23.walk (l:=PySem.Challenge.rw_stillflow_k23_whole_single) (K:=K23.Kf) (ts:=[184,201]) rfl rfl rfl (fun w h Y=>⟨Y.1,Y.2⟩) K23.NQ (fun w=>K23.ins w.params) K23.main
