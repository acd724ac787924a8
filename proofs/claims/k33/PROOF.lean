import PyProof.Rows.All
import Wide.All
import OpenK.AllK
import Wide.FinOn
import PyProof.EqAt
import PyProof.EqKinds
import PyProof.TupleCall
import Lean
import PySem.SetTable
import PyProof.Draws
import PyProof.ListRange
import KE.KIsAll
import PySem.Challenge.RW_stillflow_k33_whole_lists
set_option Elab.async false
set_option linter.all false
set_option maxRecDepth 100000
set_option maxHeartbeats 4000000
set_option genSizeOf false
set_option genInjectivity false
local macro_rules|`(↑$x)=>`(some $x)
abbrev Γ:=@List
abbrev Δ:=@Option
abbrev Θ:=PySem.Value
abbrev Ξ:=PySem.Shared
abbrev Φ:=PySem.W.Frag
abbrev Ψ:=PySem.Addr
abbrev Ω:=PySem.Stmt
abbrev γ:=PySem.Expr
abbrev δ:=PySem.World
abbrev ε:=PySem.Program
abbrev ζ:=PySem.Scope
abbrev η:=PySem.FuncData
abbrev θ:=Bool
abbrev ι:=PySem.Heap
abbrev ξ:=PySem.Around
abbrev zA:=@Option.bind_some
abbrev zB:=@Option.map_some
abbrev zC:=@List.mem_cons_of_mem
abbrev zD:=@List.length_map
abbrev zE:=@List.mem_cons_self
abbrev zF:=@Bool.and_eq_true
abbrev zG:=@List.getD_eq_getElem?_getD
abbrev zH:=@List.size_toArray
abbrev zI:=@List.map_cons
abbrev zJ:=@decide_eq_true_eq
abbrev zK:=@List.getElem?_eq_getElem
abbrev zL:=@List.length_cons
abbrev zM:=@List.map_map
abbrev zN:=@List.length_append
abbrev zO:=@List.getElem?_map
abbrev zP:=@Nat.lt_of_lt_of_le
abbrev zQ:=@List.mem_cons
abbrev zR:=@List.length_range
abbrev zS:=@List.mem_range
abbrev zT:=@List.getElem?_eq_some_iff
abbrev zU:=@PySem.Heap.get?_push_of_some
abbrev zV:=@PySem.wpAny_bind
abbrev zW:=@PySem.wpAny_pure
abbrev zX:=@PySem.Heap.get?_push_size
abbrev zY:=@PySem.Heap.lt_size
abbrev zZ:=@decide_eq_false
abbrev yA:=@decide_eq_true
abbrev yB:=@List.lookup_cons
abbrev yC:=@List.length_set
abbrev yD:=@Nat.le_trans
abbrev yE:=@List.mem_append_right
abbrev yF:=@List.not_mem_nil
abbrev yG:=@Int.toNat_natCast
abbrev yH:=@List.range_eq_range'
abbrev yI:=@List.map_congr_left
abbrev yJ:=@List.foldl_cons
abbrev yK:=@List.mem_singleton
abbrev yL:=@Option.some.injEq
abbrev yM:=@if_pos
abbrev yN:=@Nat.le_refl
abbrev yO:=@if_neg
abbrev yP:=@Bool.false_eq_true
abbrev yQ:=@Bool.not_eq_true'
abbrev yR:=@of_decide_eq_true
abbrev yS:=@Nat.ne_of_lt
abbrev yT:=@List.getElem?_append_left
abbrev yU:=@List.getElem?_append_right
abbrev yV:=@List.map_nil
abbrev yW:=@List.set_cons_zero
abbrev yX:=@List.set_cons_succ
abbrev yY:=@List.getElem?_replicate
abbrev yZ:=@List.getElem?_cons_succ
abbrev xA:=@Bool.false_ne_true
abbrev xB:=@PySem.wpAny_mono
abbrev xC:=@decide_eq_false_iff_not
abbrev xD:=@List.length_singleton
abbrev xE:=@Option.some.inj
abbrev xF:=@List.replicate_succ
abbrev xG:=@List.cons_append
abbrev xH:=@List.all_eq_true
abbrev xI:=@if_true
abbrev xJ:=@List.getElem?_set
abbrev xK:=@PySem.Heap.size_push
abbrev xM:=@List.length_nil
abbrev xN:=@List.length_replicate
abbrev xO:=@PySem.Heap.get?_update_other
abbrev xP:=@List.nil_append
abbrev xQ:=@List.length_filter_le
abbrev xR:=@List.getElem?_cons_zero
abbrev xS:=@PySem.wpAny_pyIter_tuple
abbrev xU:=@List.all_cons
abbrev xV:=@or_false
abbrev xW:=@Nat.zero_le
abbrev xX:=@PySem.wpAny_truthy_bool
abbrev xY:=@PySem.wpAny_holding
abbrev xZ:=@Bool.not_true
abbrev qA:=@Int.le_refl
abbrev qB:=@List.getElem_mem
abbrev qC:=@List.mem_of_getElem?
abbrev qD:=@PySem.wpAny_callSpecial?_slot
abbrev qE:=@Array.getD_eq_getD_getElem?
abbrev qF:=@Nat.lt_irrefl
abbrev qG:=@List.append_nil
abbrev qH:=@Option.getD_some
abbrev qJ:=@List.length_drop
abbrev qK:=@List.mem_append_left
abbrev qL:=@PySem.wpAny_pyIter_list
abbrev qM:=@PySem.wpAny_newObj_type
abbrev qN:=@List.flatten_cons
abbrev qP:=@PySem.F.plainAttrs_list
abbrev qQ:=@if_false
abbrev qS:=@List.getElem_of_mem
abbrev qT:=@PyProof.Rows.callWith_type1
abbrev qU:=@PySem.wpAny_field
abbrev qV:=@PySem.sizeLine_eq
abbrev qX:=@PySem.wpAny_call_entry
abbrev qY:=@PySem.call_meets
abbrev qZ:=@PySem.wpAny_Call_Name_kw
abbrev jA:=@Nat.lt_of_le_of_lt
abbrev jB:=@List.map_append
abbrev jC:=@Bool.or_eq_true
abbrev jD:=@congrArg
abbrev jE:=@Nat.zero_add
abbrev jF:=@List.pairwise_map
abbrev jG:=@PyProof.Rows.slot_tuple_getitem
abbrev jH:=@List.filterMap_cons
abbrev jI:=@List.ext_getElem
abbrev jJ:=@Nat.ne_of_gt
abbrev jK:=@PySem.Calls.spliced_cons
abbrev jL:=@PySem.wpAny_passesOwn
abbrev jM:=@Bool.true_and
abbrev jN:=@List.getElem?_eq_none
abbrev jO:=@Ne.symm
abbrev jP:=@Nat.lt_succ_of_lt
abbrev jQ:=@and_self
abbrev jR:=@decide_true
abbrev jS:=@PySem.F.slot_tuple_iterator_next
abbrev jT:=@PySem.codeAny_mono
abbrev jU:=@Nat.le_of_lt
abbrev jV:=@Int.le_trans
abbrev jW:=@Nat.le_add_right
abbrev jX:=@List.length_take
abbrev jY:=@List.filter_cons
abbrev jZ:=@List.mem_of_find?_eq_some
abbrev kA:=@Array.getElem?_eq_getElem
abbrev kC:=@PySem.mem_of_lookup
abbrev kE:=@PyProof.Rows.listUpdate_at
abbrev kF:=@List.sum_cons
abbrev kG:=@PyProof.Rows.get?_update_seq
abbrev kH:=@PySem.codeAny_builtin
abbrev kJ:=@List.filter_map
abbrev kK:=@PySem.wpAny_seqItems
abbrev kL:=@PySem.Calls.spliced_nil
abbrev kM:=@List.take_of_length_le
abbrev kN:=@List.findIdx_lt_length_of_exists
abbrev kO:=@Option.getD_none
abbrev kP:=@Nat.lt_succ_self
abbrev kR:=@PySem.wpAny_newList
abbrev kU:=@PySem.wpAny_attempt
abbrev kW:=@List.getElem?_set_ne
abbrev kX:=@List.nodup_cons
abbrev kY:=@List.cons.injEq
abbrev kZ:=@PySem.wpAny_setField_rec
abbrev vA:=@Int.emod_lt_of_pos
abbrev vB:=@List.drop_eq_getElem_cons
abbrev vC:=@List.reverse_cons
abbrev vD:=@List.foldl_append
abbrev vE:=@List.findIdx_cons
abbrev vF:=@PySem.wpAny_standAt
abbrev vG:=@List.any_cons
abbrev vH:=@PySem.F.args_tuple_add_2
abbrev vI:=@List.range'_succ
abbrev vJ:=@PySem.F.entry_tuple_add
abbrev vK:=@List.pairwise_singleton
abbrev vL:=@Int.eq_ofNat_of_zero_le
abbrev vM:=@beq_iff_eq
abbrev vN:=@PyProof.Rows.listItems_at
abbrev vO:=@PySem.F.slot_tuple_add
abbrev vP:=@List.range_succ_eq_map
abbrev vQ:=@List.getElem?_set_self
abbrev vR:=@PySem.wpAny_execs_nil
abbrev vS:=@Nat.not_lt_zero
abbrev vT:=@List.range_succ
abbrev vU:=@List.of_mem_zip
abbrev vV:=@List.find?_some
abbrev vW:=@Int.emod_nonneg
abbrev vX:=@PySem.F.slot_zip_next
abbrev vY:=@List.getElem?_toArray
abbrev vZ:=@Nat.mul_le_mul
abbrev wA:=@PyProof.Rows.IntsAre.length
abbrev wC:=@Bool.false_and
abbrev wD:=@PySem.codeAny_call_builtin
abbrev wF:=@List.getD_cons_zero
abbrev wG:=@List.getD_cons_succ
abbrev wH:=@Array.length_toList
abbrev wI:=@PySem.wpAny_rule
abbrev wJ:=@of_decide_eq_false
abbrev wK:=@Option.isNone_none
abbrev wL:=@PySem.F.args_tuple_mul_2
abbrev wM:=@PySem.Code.quiet_builtin
abbrev wN:=@PySem.wpAny_typeOf
abbrev wQ:=@decide_false
abbrev wR:=@PySem.concat_meets
abbrev wU:=@Nat.lt_trans
abbrev wV:=@List.any_map
abbrev wW:=@PySem.wpAny_pyIter_enum
abbrev wX:=@List.take_add_one
abbrev wY:=@List.nodup_append
abbrev wZ:=@Function.comp_def
abbrev Za:=@PySem.F.entry_tuple_mul
local macro_rules|`(tactic|simp?[$t,*] $[$l:location]?)=>`(tactic|simp only[$t,*] $[$l]?)
local macro_rules|`(tactic|let ⟨$a,*⟩:=$e)=>do
 let rec f(n:Nat)(t:Lean.Syntax):Lean.MacroM (Lean.TSyntax `rcasesPat):=match n with
 |0=>Lean.Macro.throwUnsupported
 |n+1=>match t with
  |`(⟨$b,*⟩)=>do
    let c<-b.getElems.mapM fun x=>do `(Lean.Parser.Tactic.rcasesPatLo|$(<-f n x):rcasesPat)
    `(rcasesPat|⟨$c,*⟩)
  |`($x:ident)=>`(rcasesPat|$x:ident)
  |_=>`(rcasesPat|_)
 `(tactic|obtain $(<-f 9 (<-`(⟨$a,*⟩))):rcasesPat:=$e)
local macro_rules|`(tactic|lia)=>`(tactic|omega)
local macro_rules|`(def $i:declId $s:optDeclSig $v:declVal)=>`(noncomputable def $i:declId $s:optDeclSig $v:declVal)
local macro_rules|`(abbrev $i:declId $s:optDeclSig $v:declVal)=>`(noncomputable abbrev $i:declId $s:optDeclSig $v:declVal)
namespace L2
open PySem
def gy(s:Ω):Arguments:=match s with
 | .FunctionDef _ a _ _ _ _ _ _ _ _=>a
 | _=>{ posonlyargs:=[],args:=[],vararg:=none,kwonlyargs:=[],kw_defaults:=[],kwarg:=none,defaults:=[] }
def b8(s:Ω):Γ Ω:=match s with
 | .FunctionDef _ _ b _ _ _ _ _ _ _=>b
 | _=>[]
def aG(s:Ω):ζ:=match s with
 | .FunctionDef _ _ _ _ _ _ c _ _ _=>c
 | _=>{ kind:=.function,names:=[],isGenerator:=false,isCoroutine:=false }
end L2
namespace Hd
open PySem L2 PySem.Spec PyProof.Rows
def en(P:Params)(x:String)(t:Nat)(v:Θ):DictEntry:=⟨PyData.keyHash P (Str.ofString x),.str (Str.ofString x) t,v⟩
def fo(x:Str)(st:Ω)(p:Θ)(c:Ψ):Obj:=⟨.type "function",none,.func (W.fnOf x x (gy st) (b8 st) (aG st) .none .none .none p none (.ref c) .none),#[]⟩
def co(vs:Γ Θ):Obj:=⟨.type "code",none,.fields vs.toArray,#[]⟩
def MG(n:Nat):Θ:=if n=0 then .none else .ref n
def eH(x:Str)(t l n a b c d e f u:Nat):Obj:=co [.str x t,.str x (t+1),.str "/claim/cut.py" (t+2),.int l 0,.int n 0,.int 0 0,.int 0 0,.int 3 0,MG a,.bool true,.int 181 0,MG b,MG c,MG d,MG e,MG f,.int u 0,.int l 0,.str "/claim/cut.py" (u+1)]
def LP{S A B C D E F J O:Type}{x:Δ S}{f:S->A×B×C×D×E×F×J}{o:S->O}{g:A×B×C×D×E×F×J}{v:O}(k:x.map (λs=>(f s).1)=↑g.1)(m:x.map (λs=>(f s).2.1)=↑g.2.1)(n:x.map (λs=>(f s).2.2.1)=↑g.2.2.1)(H:x.map (λs=>((f s).2.2.2.1,(f s).2.2.2.2.1))=↑(g.2.2.2.1,g.2.2.2.2.1))(h4:x.map (λs=>(f s).2.2.2.2.2.1)=↑g.2.2.2.2.2.1)(p:x.map (λs=>(f s).2.2.2.2.2.2)=↑g.2.2.2.2.2.2)(q:x.map o=↑v):x.map (λs=>(f s,o s))=↑(g,v):=by
 let⟨a,b,c,d,e,i,j⟩:=g;cases x with
 | none=>cases k
 | some s =>
  simp?[zB,yL,Prod.mk.injEq] at k m n H h4 p q ⊢;refine⟨?_,q⟩;generalize f s=t at *;let⟨r,u,w,y,z,I,G⟩:=t;dsimp only at *;let⟨H,l⟩:=H;subst k m n H l h4 p;rfl
end Hd
namespace K33
open PySem L2 PySem.Spec PyProof.Rows Hd PySem.W
abbrev top(i:Nat):Ω:=PySem.Challenge.pw_stillflow_k33_whole_lists.main.body.getD i (.Pass ⟨0,0,0,0⟩)
def vw:ε:=W.view PySem.Challenge.pw_stillflow_k33_whole_lists [1,2,3,4,5,7,8,9,10,11,12,13,14,15,16,17,18,19,20,21,22,23,24,25,26,27,28,29,30,32,33,34,35,36,37,38,40,41,42,43,44,45,46,48,49,50,51,52,53,54,55,56,57,59,60,62,63,64,65,66]
def gC:Θ:=(.str "stillflow.worlds" 271)
def Bq:Θ:=(.str "stillflow.flows" 439)
def B6:Θ:=(.str "stillflow.finding" 493)
def vh:Θ:=(.str "stillflow.listing" 556)
def On:Θ:=(.str "stillflow.changes" 619)
def GR:Θ:=(.str "law_stillflow_k33_whole_lists" 642)
def Kf(P:Params):Φ:=[(3,⟨.type "dict",none,.dict #[en P "__name__" 165 (.str "law_stillflow_k33_whole_lists" 642),en P "__doc__" 166 .none,en P "__package__" 167 .none,en P "__loader__" 168 (.builtin "__main__.__loader__#opaque"),en P "__spec__" 169 .none,en P "__annotations__" 170 (.ref 6),en P "__builtins__" 171 (.ref 4),en P "__file__" 173 (.str "/claim/cut.py" 172),en P "__cached__" 174 .none,en P "FlowError" 206 (.ref 24),en P "NoWorld" 222 (.ref 37),en P "NoPlan" 238 (.ref 49),en P "NoPlace" 254 (.ref 61),en P "TooMany" 270 (.ref 73),en P "MOST_PLACES" 274 (.int 4 273),en P "MOST" 276 (.int 9 275),en P "is_whole" 285 (.ref 82),en P "is_number" 293 (.ref 89),en P "is_long" 302 (.ref 96),en P "are_likes" 308 (.ref 101),en P "is_end" 316 (.ref 108),en P "is_way" 325 (.ref 115),en P "are_parts" 331 (.ref 120),en P "liked_pairs" 337 (.ref 125),en P "is_world" 343 (.ref 130),en P "through" 349 (.ref 135),en P "keeps_amounts" 355 (.ref 140),en P "is_plan" 361 (.ref 145),en P "check_world" 368 (.ref 152),en P "check_plan" 376 (.ref 159),en P "check_whole" 385 (.ref 166),en P "check_number" 393 (.ref 173),en P "check_side" 400 (.ref 180),en P "check_place" 409 (.ref 187),en P "replaced" 418 (.ref 194),en P "turned_order" 426 (.ref 201),en P "turned" 432 (.ref 206),en P "turned_plan" 438 (.ref 211),en P "ways_of" 446 (.ref 216),en P "chosen_by" 452 (.ref 221),en P "wants_more" 458 (.ref 226),en P "why_kept" 467 (.ref 233),en P "first_leaving" 476 (.ref 240),en P "is_still" 484 (.ref 247),en P "rests" 492 (.ref 254),en P "chosen_by_all" 500 (.ref 259),en P "limits" 506 (.ref 264),en P "lowered" 515 (.ref 271),en P "refused" 527 (.ref 278),en P "steps" 537 (.ref 285),en P "capped" 548 (.ref 292),en P "givers_best" 555 (.ref 299),en P "MOST_LISTED" 559 (.int 3000 558),en P "check_many" 568 (.ref 306),en P "within_limits" 574 (.ref 311),en P "all_plans" 580 (.ref 316),en P "all_rests" 586 (.ref 321),en P "is_alike" 592 (.ref 326),en P "always" 598 (.ref 331),en P "through_all" 604 (.ref 336),en P "totals" 612 (.ref 343),en P "short" 618 (.ref 348),en P "with_end" 631 (.ref 355),en P "with_amount" 641 (.ref 362),en P "_law_cell" 651 (.ref 369),en P "_law_drawn" 661 (.ref 376),en P "_law_orders" 676 (.ref 383),en P "_law_world" 682 (.ref 388),en P "law" 688 (.ref 393)] 69,#[]⟩),
 (81,eH "is_whole" 277 15 3 76 77 0 78 79 80 283),
 (82,fo "is_whole" (top 9) gC 81),
 (88,eH "is_number" 286 19 2 83 84 0 85 86 87 291),
 (89,fo "is_number" (top 10) gC 88),
 (95,eH "is_long" 294 21 3 90 91 0 92 93 94 300),
 (96,fo "is_long" (top 11) gC 95),
 (100,eH "are_likes" 303 23 2 97 98 0 0 0 99 306),
 (101,fo "are_likes" (top 12) gC 100),
 (107,eH "is_end" 309 29 2 102 103 0 104 105 106 314),
 (108,fo "is_end" (top 13) gC 107),
 (114,eH "is_way" 317 31 3 109 110 0 111 112 113 323),
 (115,fo "is_way" (top 14) gC 114),
 (119,eH "are_parts" 326 35 3 116 117 0 0 0 118 329),
 (120,fo "are_parts" (top 15) gC 119),
 (124,eH "liked_pairs" 332 43 1 121 122 0 0 0 123 335),
 (125,fo "liked_pairs" (top 16) gC 124),
 (129,eH "is_world" 338 48 1 126 127 0 0 0 128 341),
 (130,fo "is_world" (top 17) gC 129),
 (134,eH "through" 344 55 4 131 132 0 0 0 133 347),
 (135,fo "through" (top 18) gC 134),
 (139,eH "keeps_amounts" 350 57 3 136 137 0 0 0 138 353),
 (140,fo "keeps_amounts" (top 19) gC 139),
 (144,eH "is_plan" 356 59 2 141 142 0 0 0 143 359),
 (145,fo "is_plan" (top 20) gC 144),
 (151,eH "check_world" 362 66 1 146 147 0 148 149 150 366),
 (152,fo "check_world" (top 21) gC 151),
 (158,eH "check_plan" 369 69 2 153 154 0 155 156 157 374),
 (159,fo "check_plan" (top 22) gC 158),
 (165,eH "check_whole" 377 73 3 160 161 0 162 163 164 383),
 (166,fo "check_whole" (top 23) gC 165),
 (172,eH "check_number" 386 76 2 167 168 0 169 170 171 391),
 (173,fo "check_number" (top 24) gC 172),
 (179,eH "check_side" 394 78 1 174 175 0 176 177 178 398),
 (180,fo "check_side" (top 25) gC 179),
 (186,eH "check_place" 401 80 3 181 182 0 183 184 185 407),
 (187,fo "check_place" (top 26) gC 186),
 (193,eH "replaced" 410 83 3 188 189 0 190 191 192 416),
 (194,fo "replaced" (top 27) gC 193),
 (200,eH "turned_order" 419 85 1 195 196 0 197 198 199 424),
 (201,fo "turned_order" (top 28) gC 200),
 (205,eH "turned" 427 88 1 202 203 0 0 0 204 430),
 (206,fo "turned" (top 29) gC 205),
 (210,eH "turned_plan" 433 92 2 207 208 0 0 0 209 436),
 (211,fo "turned_plan" (top 30) gC 210),
 (215,eH "ways_of" 441 96 3 212 213 0 0 0 214 444),
 (216,fo "ways_of" (top 32) Bq 215),
 (220,eH "chosen_by" 447 101 4 217 218 0 0 0 219 450),
 (221,fo "chosen_by" (top 33) Bq 220),
 (225,eH "wants_more" 453 108 4 222 223 0 0 0 224 456),
 (226,fo "wants_more" (top 34) Bq 225),
 (232,eH "why_kept" 459 115 3 227 228 0 229 230 231 465),
 (233,fo "why_kept" (top 35) Bq 232),
 (239,eH "first_leaving" 468 123 2 234 235 0 236 237 238 474),
 (240,fo "first_leaving" (top 36) Bq 239),
 (246,eH "is_still" 477 128 2 241 242 0 243 244 245 482),
 (247,fo "is_still" (top 37) Bq 246),
 (253,eH "rests" 485 130 2 248 249 0 250 251 252 490),
 (254,fo "rests" (top 38) Bq 253),
 (258,eH "chosen_by_all" 495 134 3 255 256 0 0 0 257 498),
 (259,fo "chosen_by_all" (top 40) B6 258),
 (263,eH "limits" 501 140 1 260 261 0 0 0 262 504),
 (264,fo "limits" (top 41) B6 263),
 (270,eH "lowered" 507 142 3 265 266 0 267 268 269 513),
 (271,fo "lowered" (top 42) B6 270),
 (277,eH "refused" 516 144 2 272 273 0 274 275 276 525),
 (278,fo "refused" (top 43) B6 277),
 (284,eH "steps" 528 151 1 279 280 0 281 282 283 535),
 (285,fo "steps" (top 44) B6 284),
 (291,eH "capped" 538 160 2 286 287 0 288 289 290 546),
 (292,fo "capped" (top 45) B6 291),
 (298,eH "givers_best" 549 165 1 293 294 0 295 296 297 553),
 (299,fo "givers_best" (top 46) B6 298),
 (305,eH "check_many" 560 170 1 300 301 0 302 303 304 566),
 (306,fo "check_many" (top 49) vh 305),
 (310,eH "within_limits" 569 176 1 307 308 0 0 0 309 572),
 (311,fo "within_limits" (top 50) vh 310),
 (315,eH "all_plans" 575 184 1 312 313 0 0 0 314 578),
 (316,fo "all_plans" (top 51) vh 315),
 (320,eH "all_rests" 581 188 1 317 318 0 0 0 319 584),
 (321,fo "all_rests" (top 52) vh 320),
 (325,eH "is_alike" 587 190 2 322 323 0 0 0 324 590),
 (326,fo "is_alike" (top 53) vh 325),
 (330,eH "always" 593 192 1 327 328 0 0 0 329 596),
 (331,fo "always" (top 54) vh 330),
 (335,eH "through_all" 599 195 3 332 333 0 0 0 334 602),
 (336,fo "through_all" (top 55) vh 335),
 (342,eH "totals" 605 197 1 337 338 0 339 340 341 610),
 (343,fo "totals" (top 56) vh 342),
 (347,eH "short" 613 200 2 344 345 0 0 0 346 616),
 (348,fo "short" (top 57) vh 347),
 (354,eH "with_end" 621 206 5 349 350 0 351 352 353 629),
 (355,fo "with_end" (top 59) On 354),
 (361,eH "with_amount" 632 208 4 356 357 0 358 359 360 639),
 (362,fo "with_amount" (top 60) On 361),
 (368,eH "_law_cell" 644 214 2 363 364 0 365 366 367 649),
 (369,fo "_law_cell" (top 62) GR 368),
 (375,eH "_law_drawn" 652 218 3 370 371 0 372 373 374 659),
 (376,fo "_law_drawn" (top 63) GR 375),
 (382,eH "_law_orders" 662 222 3 377 378 0 379 380 381 674),
 (383,fo "_law_orders" (top 64) GR 382),
 (387,eH "_law_world" 677 230 3 384 385 0 0 0 386 680),
 (388,fo "_law_world" (top 65) GR 387),
 (392,eH "law" 683 246 1 389 390 0 0 0 391 686),
 (393,fo "law" (top 66) GR 392)]
def hk:W.Hook:=W.kmHook Kf [3,81,82,88,89,95,96,100,101,107,108,114,115,119,120,124,125,129,130,134,135,139,140,144,145,151,152,158,159,165,166,172,173,179,180,186,187,193,194,200,201,205,206,210,211,215,216,220,221,225,226,232,233,239,240,246,247,253,254,258,259,263,264,270,271,277,278,284,285,291,292,298,299,305,306,310,311,315,316,320,321,325,326,330,331,335,336,342,343,347,348,354,355,361,362,368,369,375,376,382,383,387,388,392,393] (λ_=>rfl) [196,213]
abbrev rn(w:δ):=openEnds treeTable PySem.Challenge.pw_stillflow_k33_whole_lists w 6000
abbrev sn(s:Ξ):=openSeen vw [] (importedModules PySem.Challenge.pw_stillflow_k33_whole_lists.main.body) (λs=>xlAt vw [] s&&recOk [] s) true s
abbrev gd:=openGood vw []
def P6(w:δ):(rn w).map (λs=>(sn s).1)=↑(gd.1):=by kernel_rfl
def Qc(w:δ):(rn w).map (λs=>(sn s).2.1)=↑(gd.2.1):=by kernel_rfl
def Ql(w:δ):(rn w).map (λs=>(sn s).2.2.1)=↑(gd.2.2.1):=by kernel_rfl
def Qn(w:δ):(rn w).map (λs=>((sn s).2.2.2.1,(sn s).2.2.2.2.1))=↑((gd.2.2.2.1,gd.2.2.2.2.1)):=by kernel_rfl
def P8(w:δ):(rn w).map (λs=>(sn s).2.2.2.2.2.1)=↑(gd.2.2.2.2.2.1):=by kernel_rfl
def Qo(w:δ):(rn w).map (λs=>(sn s).2.2.2.2.2.2)=↑(gd.2.2.2.2.2.2):=by kernel_rfl
def Qy(w:δ):(rn w).map (λs=>hk.obs s)=↑(hk.val w):=by kernel_rfl
def left:LeftO PySem.Challenge.pw_stillflow_k33_whole_lists vw [] (λs=>xlAt vw [] s&&recOk [] s) hk.obs hk.val 6000:=λw=>LP (P6 w) (Qc w) (Ql w) (Qn w) (P8 w) (Qo w) (Qy w)
def OO:PySem.Challenge.rw_stillflow_k33_whole_lists.wellSaid=true:=by kernel_rfl
end K33
namespace L2
open PySem PySem.Spec PyProof.Rows
abbrev rM:=Sum Int Str
def BZ:rM->Θ->θ
 | .inl k,v=>Value.isInt k v
 | .inr x,v=>Value.isStrOf x v
def PB(w:δ):rM->Int
 | .inl k=>hashInt k
 | .inr x=>hashStr w x
def bH:∀ {k:rM}{v:Θ},BZ k v=true->(∃i t,k=Sum.inl i/\v=Value.int i t)\/(∃x t,k=Sum.inr x/\v=Value.str x t)
 | .inl i,v,h=>by
  let⟨t,e⟩:=Value.isInt_shape (k:=i) (v:=v) h;exact .inl ⟨i,t,rfl,e⟩
 | .inr x,v,h=>by
  let⟨t,e⟩:=Value.isStrOf_shape (x:=x) (v:=v) h;exact .inr ⟨x,t,rfl,e⟩
def CH(i:Int)(t:Tok):BZ (.inl i) (.int i t)=true:=by simp[BZ,Value.isInt]
def Mo(a b:Int):decide ((Sum.inl a:rM)=Sum.inl b)=(a == b):=by
 by_cases e:a=b
 .subst e;simp
 .have h:¬ (Sum.inl a:rM)=Sum.inl b:=λq=>e (Sum.inl.inj q);rw[zZ h];exact (beq_eq_false_iff_ne.mpr e).symm
def Mr(a b:Str):decide ((Sum.inr a:rM)=Sum.inr b)=decide (a=b):=by
 by_cases e:a=b
 .subst e;simp
 .have h:¬ (Sum.inr a:rM)=Sum.inr b:=λq=>e (Sum.inr.inj q);rw[zZ h,zZ e]
def K1(a:Int)(b:Str):decide ((Sum.inl a:rM)=Sum.inr b)=false:=zZ (λq=>nomatch q)
def K4(a:Str)(b:Int):decide ((Sum.inr a:rM)=Sum.inl b)=false:=zZ (λq=>nomatch q)
def iQ(prog:ε)(w:δ):PySem.KeyKind prog w rM where
 is:=BZ
 hash:=PB w
 inj:=λv a b A B=>by
  rcases bH A with ⟨i,t,rfl,rfl⟩|⟨x,t,rfl,rfl⟩
  .rcases bH B with ⟨j,u,rfl,e⟩|⟨y,u,rfl,e⟩
   .injection e with E _;rw[E]
   .exact nomatch e
  .rcases bH B with ⟨j,u,rfl,e⟩|⟨y,u,rfl,e⟩
   .exact nomatch e
   .injection e with E _;rw[E]
 byValue:=λk v h=>by
  rcases bH h with ⟨i,t,rfl,rfl⟩|⟨x,t,rfl,rfl⟩<;>rfl
 pyHash:=λH h=>by
  rcases bH H with ⟨i,t,rfl,rfl⟩|⟨x,t,rfl,rfl⟩
  .exact wpAny_pyHash_int h
  .exact wpAny_pyHash_str h
 eqBool:=λU H h=>by
  rcases bH U with ⟨i,t,rfl,rfl⟩|⟨x,t,rfl,rfl⟩
  .rcases bH H with ⟨j,u,rfl,rfl⟩|⟨y,u,rfl,rfl⟩
   .rw[Mo] at h;exact wpAny_eqBool_int h
   .rw[K1] at h;exact SeqAt.EqAt.int_str i t y u _ _ _ _ h
  .rcases bH H with ⟨j,u,rfl,rfl⟩|⟨y,u,rfl,rfl⟩
   .rw[K4] at h;exact SeqAt.EqAt.str_int x t j u _ _ _ _ h
   .rw[Mr] at h;exact wpAny_eqBool_str h
 «strs»:=λk x t v h=>by
  rcases bH h with ⟨i,u,rfl,e⟩|⟨y,u,rfl,e⟩
  .exact nomatch e
  .injection e with E _
   subst E;cases v<;>rfl
def vj(prog:ε)(w:δ)(i:Int)(t:Tok):(iQ prog w).is (.inl i) (.int i t)=true:=CH i t
inductive V where
 | QB|bl (b:θ)|int (i:Int)|str (x:Str)|byt (b:Array UInt8)|flt (b:UInt64)|ref (a:Ψ)|ty (n:String)
 deriving DecidableEq
def RelV:V->Θ->Prop
 | .QB,u=>u=Value.none
 | .bl b,u=>u=Value.bool b
 | .int i,u=>∃t,u=Value.int i t
 | .str x,u=>∃t,u=Value.str x t
 | .byt b,u=>∃t,u=Value.bytes b t
 | .flt b,u=>∃t,u=Value.float b t
 | .ref a,u=>u=Value.ref a
 | .ty n,u=>u=Value.type n
abbrev az:Γ V->Γ Θ->Prop:=Paired RelV
def az.length(r:az xs us):xs.length=us.length:=Paired.length r
def az.get:∀ {xs:Γ V}{us:Γ Θ}{i:Nat}{x:V},az xs us->xs[i]?=↑x->∃u,us[i]?=↑u/\RelV x u
 | _,_,_,_,.nil,e=>by simp at e
 | _,_,0,_,.cons r _,e=>by simp at e;subst e;exact⟨_,rfl,r⟩
 | _,_,i+1,x,.cons _ t,e=>by
  let⟨u,H,a⟩:=az.get (i:=i) (x:=x) t (by simpa using e);exact⟨u,by simpa using H,a⟩
def az.set(r:RelV x u):∀ {xs:Γ V}{us:Γ Θ}(i:Nat),az xs us->az (xs.set i x) (us.set i u)
 | _,_,_,.nil=>.nil
 | _,_,0,.cons _ t=>.cons r t
 | _,_,i+1,.cons q t=>.cons q (az.set r i t)
def az.append:∀ {xs ys:Γ V}{us w:Γ Θ},az xs us->az ys w->az (xs++ys) (us++w)
 | _,_,_,_,.nil,s=>s
 | _,_,_,_,.cons r t,s=>.cons r (az.append t s)
def az.take:∀ {xs:Γ V}{us:Γ Θ}(n:Nat),az xs us->az (xs.take n) (us.take n)
 | _,_,0,_=>.nil
 | _,_,_+1,.nil=>.nil
 | _,_,n+1,.cons r t=>.cons r (az.take n t)
def az.drop:∀ {xs:Γ V}{us:Γ Θ}(n:Nat),az xs us->az (xs.drop n) (us.drop n)
 | _,_,0,r=>r
 | _,_,_+1,.nil=>.nil
 | _,_,n+1,.cons _ t=>az.drop n t
def Od:Δ V->Δ Θ->Prop
 | some v,↑u=>RelV v u
 | none,none=>True
 | _,_=>False
def KV:Γ (κ×V)->Γ (κ×Θ)->Prop:=Paired λ(p:κ×V) (q:κ×Θ)=>p.1=q.1/\RelV p.2 q.2
def kV:rM->V
 | .inl i=>.int i
 | .inr x=>.str x
inductive HO where
  | lst (xs:Γ V)
  | tup (xs:Γ V)
  | dK (Ru:Γ (rM×V))|dT (xs:Γ (Γ rM×Ψ×Θ))
  | set (S:Int->θ) (n:Nat)
  | ins (C dx:Ψ) (fs:Γ (Str×V))
  | own (x:Ψ)
  | xd (fs:Γ (Str×V))
  | met (f x:Ψ)
  | rng (lo hi:Int)
  | RC (o:Obj) (u:HO)
  | tab (q:Str)
 | UX (q:Str)
  | ext (φ:ι->Prop)
abbrev Hp:=Ψ->Δ HO
def upd(H:Hp)(a:Ψ)(o:HO):Hp:=λb=>if b=a then ↑o else H b
def aI:upd H a o a=↑o:=by unfold upd;rw[yM rfl]
def aB(h:b≠a):upd H a o b=H b:=by unfold upd;rw[yO h]
def aL{H:Hp}{a b:Ψ}{o:HO}(h:H a=↑o)(h':H b=none):a≠b:=by
 intro e;subst e;rw[h] at h';cases h'
def nK(h:ι)(a:Ψ)(its:Array Θ):Prop:=IsTup h a its/\∃o,h.get? a=↑o/\o.dict=none
def nK.new(h:ι)(its:Array Θ):nK (h.push { cls:=.type "tuple",data:=.seq its }) h.objs.size its:=⟨IsTup.new _ _,_,zX _ rfl,rfl⟩
section
variable (P:ε) (w:δ)
def c8(H:Hp)(h:ι)(a:Ψ):HO->Prop
 | .lst s=>s.length<=sizeLine/\∃ (i:Γ Θ) (n:Nat),az s i/\h.get? a=some { cls:=.type "list",data:=.seq i.toArray n }
 | .tup s=>s.length<=sizeLine/\∃i:Γ Θ,az s i/\nK h a i.toArray
 | .dK R=>R.length<=sizeLine/\(a == sysModules)=false/\∃V,KV R V/\h.DictOf (iQ P w) a V
 | .dT s=>s.length<=sizeLine/\(a == sysModules)=false /\
   ∃o E k,h.get? a=↑o/\o.ExactDict/\o.data=.dict E k/\E.toList=s.map (entryOfKey (tupleKind (iQ P w)))/\(s.map (·.1)).Nodup
 | .set S n=>h.SetOf (intKind P w) a S n
 | .ins C d F=>H d=↑(.own a)/\F.length<=1000/\d≠a/\h.get? a=↑(W.instObj C d) /\
   ∃m,h.Ns1 d m/\(∀f,Od (F.lookup f) (m f))/\PySem.Within m (F.map (·.1))
 | .own _=>∃o,h.get? a=↑o
 | .xd F=>∃m,h.Ns1 a m/\∀f,Od (F.lookup f) (m f)
 | .rng l I=>∃t u v,h.get? a=some { cls:=.type "range",data:=.fields #[.int l t,.int I u,.int 1 v] }
 | .RC o u=>h.get? a=↑o/\c8 H h a u
 | .tab q=>∃b:Array Θ,h.get? a=some { cls:=.none,data:=.fields b }/\TriplesOk b.toList/\∀p v,codeAmong p b.toList=↑v->∃c,v=.ref c/\H c=↑(.UX q)
 | .UX q=>h.CodeRec (.ref a) q
 | .met f x=>h.get? a=↑(W.methodObj (.ref f) (.ref x))
 | .ext e=>e h/\(∃o,h.get? a=↑o)/\∀g j:ι,e g->(∀o,g.get? a=↑o->j.get? a=↑o)->e j
def o7(H:Hp)(h:ι):Prop:=∀a o,H a=↑o->c8 P w H h a o
end
def c8.lt(x:c8 P w H h a o):a < h.objs.size:=by
 cases o with
 | lst X=>let⟨_,_,_,_,e⟩:=x;exact zY e
 | tup X=>let⟨_,_,_,p⟩:=x;exact p.1.lt
 | dK R=>let⟨_,_,_,_,o,_,_,e,_⟩:=x;exact zY e
 | dT R=>let⟨_,_,o,_,_,e,_⟩:=x;exact zY e
 | set S n=>let⟨o,_,_,_,e,_⟩:=x;exact zY e
 | ins C d s=>let⟨_,_,_,e,_⟩:=x;exact zY e
 | own y=>let⟨_,e⟩:=x;exact zY e
 | xd s=>let⟨_,⟨_,_,_,e,_⟩,_⟩:=x;exact zY e
 | rng l i=>let⟨_,_,_,e⟩:=x;exact zY e
 | RC b u=>let⟨e,_⟩:=x;exact zY e
 | tab q=>let⟨_,e,_⟩:=x;exact zY e
 | UX q=>let⟨_,_,_,_,E,e,_⟩:=x;cases E;exact zY e
 | met f y=>exact zY (show h.get? a=↑_ from x)
 | ext c=>let⟨_,⟨_,e⟩,_⟩:=x;exact zY e
def Paired.XI:∀ {l₁:Γ α}{Y:Γ β},Paired F l₁ Y->(∀a b,F a b->G a b)->Paired G l₁ Y
 | _,_,.nil,_=>.nil
 | _,_,.cons r t,f=>.cons (f _ _ r) (Paired.XI t f)
def P3:HO->Prop
 | .tup _=>True
 | .UX _=>True
 | _=>False
def c8.SY(x:c8 P w H h a o)(k:∀b u,(b=a\/H b=↑(.own a))->h.get? b=↑u->h'.get? b=↑u)
  (G:∀b,H b=↑(.own a)->H' b=↑(.own a)) (ht:∀b u,H b=↑u->P3 u->H' b=↑u):c8 P w H' h' a o:=by
 induction o with
 | lst X=>let⟨z,i,n,r,e⟩:=x;exact⟨z,i,n,r,k _ _ (.inl rfl) e⟩
 | tup X=>let⟨z,i,r,⟨O,e,c⟩,J,g,A⟩:=x;exact⟨z,i,r,⟨O,k _ _ (.inl rfl) e,c⟩,J,k _ _ (.inl rfl) g,A⟩
 | dK R=>let⟨z,y,V,r,O,s,E,e,c⟩:=x;exact⟨z,y,V,r,O,s,E,k _ _ (.inl rfl) e,c⟩
 | dT R =>
  let⟨z,y,O,s,E,e,c⟩:=x;exact⟨z,y,O,s,E,k _ _ (.inl rfl) e,c⟩
 | set S n=>let⟨O,s,E,t,e,c⟩:=x;exact⟨O,s,E,t,k _ _ (.inl rfl) e,c⟩
 | ins C Q F =>
  let⟨d,z,N,e,m,⟨D,s,E,g,c⟩,r⟩:=x;exact⟨G _ d,z,N,k _ _ (.inl rfl) e,m,⟨D,s,E,k _ _ (.inr d) g,c⟩,r⟩
 | own y=>let⟨O,e⟩:=x;exact⟨O,k _ _ (.inl rfl) e⟩
 | xd F=>let⟨m,⟨D,s,E,e,c⟩,r⟩:=x;exact⟨m,⟨D,s,E,k _ _ (.inl rfl) e,c⟩,r⟩
 | rng Y U=>let⟨t,u,v,e⟩:=x;exact⟨t,u,v,k _ _ (.inl rfl) e⟩
 | RC O u I=>let⟨e,q⟩:=x;exact⟨k _ _ (.inl rfl) e,I q⟩
 | tab q=>let⟨L,e,t,c⟩:=x;exact⟨L,k a _ (.inl rfl) e,t,λj v z=>let ⟨l,Z,M⟩:=c j v z;⟨l,Z,ht _ _ M trivial⟩⟩
 | UX q=>let⟨c,K,V,t,B,e,r⟩:=x;cases B;exact⟨_,K,V,t,rfl,k _ _ (.inl rfl) e,r⟩
 | met f y =>
  have e:h.get? a=↑(W.methodObj (.ref f) (.ref y)):=x;show h'.get? a=↑(W.methodObj (.ref f) (.ref y));exact k a _ (.inl rfl) e
 | ext φ=>let⟨p,⟨o,e⟩,T⟩:=x;exact⟨T _ _ p λo q=>k _ _ (.inl rfl) q,⟨o,k _ _ (.inl rfl) e⟩,T⟩
def o7.lt(x:o7 P w H h)(e:H a=↑o):a < h.objs.size:=(x a o e).lt
def o7.fresh(x:o7 P w H h)(e:h.objs.size<=a):H a=none:=by
 cases q:H a with
 | none=>rfl
 | some u=>exact absurd (zP (x.lt q) e) (qF _)
def o7.kept(x:o7 P w H h)(k:∀b u,h.get? b=↑u->h'.get? b=↑u):o7 P w H h':=λa o e =>
 (x a o e).SY (λb u _ q=>k b u q) (λ_ q=>q) λ_ _ q _=>q
def o7.laid(x:o7 P w H h)(k:∀b u,h.get? b=↑u->h'.get? b=↑u)(p:h.objs.size<=a)(n:c8 P w (upd H a o) h' a o):o7 P w (upd H a o) h':=λb u e=>by
 have N:=x.fresh p;by_cases B:b=a
 .subst B;rw[aI] at e;cases e;exact n
 .rw[aB B] at e;exact (x b u e).SY (λc v _ q=>k c v q) (λc q=>by rw[aB (aL q N)];exact q) λc s q _=>by rw[aB (aL q N)];exact q
def Rd(H:Hp)(a:Ψ)(u:HO):Prop:=H a=↑u\/∃o,H a=↑(.RC o u)
def Rd.ok(r:Rd H a u)(x:o7 P w H h):c8 P w H h a u:=by
 rcases r with r|⟨o,r⟩
 .exact x a u r
 .let⟨_,q⟩:=x a _ r;exact q
def Nt:Δ HO->Prop
 | some (.lst _)=>True
 | some (.dK _)=>True
 | some (.dT _)=>True
 | some (.set _ _)=>True
 | some (.ins _ _ _)=>True
 | some (.ext _)=>True
 | _=>False
def o7.write(o:o7 P w H h)(m:Nt (H x))(E:e=x\/H e=↑(.own x))(k:∀b u,b≠e->h.get? b=↑u->h'.get? b=↑u)(d:∃u,h'.get? e=↑u)
  (n:c8 P w (upd H x U) h' x U):o7 P w (upd H x U) h':=λb u q=>by
 have Y:∀c y,H c=↑(.own y)->c≠x:=λc y r z=>by subst z;rw[r] at m;exact m
 have a:∀c u,H c=↑u->P3 u->c≠x:=λc u r R z=>by subst z;rw[r] at m;cases u<;>first|exact m|exact R
 by_cases B:b=x
 .subst B;rw[aI] at q;cases q;exact n
 .rw[aB B] at q;by_cases X:b=e
  .have Q:H b=↑(.own x):=by
    rcases E with z|z
    .exact absurd (X.trans z) B
    .rw[X];exact z
   rw[q] at Q;cases Q;let⟨v,V⟩:=d;exact⟨v,by rw[X];exact V⟩
  .refine (o b u q).SY (λc v hc r=>k c v ?_ r) (λc r=>by rw[aB (Y c b r)];exact r) λc s r R=>by rw[aB (a c s r R)];exact r
   rcases hc with rfl|hc
   .exact X
   .rintro rfl;rcases E with z|z
    .exact Y c b hc z
    .rw[hc] at z;cases z;exact B rfl
def Ou:HO->Prop
 | .tab _=>True
 | .UX _=>True
 | _=>False
def Ou.Wj(h:Ou u):¬ Nt (↑u):=by cases u<;>first|exactλz=>z|exact h.elim
structure J2(H H':Hp)(h h':Heap):Prop where
 st:∀b u,H b=↑u->Ou u->H' b=↑u
 gr:∀b q ps,H b=↑(.tab q)->h.get? b=some { cls:=.none,data:=.fields ps }->∃more:Array Θ,h'.get? b=some { cls:=.none,data:=.fields (ps++more) }
def J2.kept(k:∀b u,(∃q,H b=↑(.tab q))->h.get? b=↑u->h'.get? b=↑u)(st:∀b u,H b=↑u->Ou u->H' b=↑u):J2 H H' h h' :=
 ⟨st,λb q p e z=>⟨#[],by rw[Array.append_empty];exact k b _ ⟨q,e⟩ z⟩⟩
def J2.trans(a:J2 H H1 h U)(b:J2 H1 H2 U h2):J2 H H2 h h2 :=
 ⟨λc u q t=>b.st c u (a.st c u q t) t,λc q p e z=>by
  let⟨m,Z⟩:=a.gr c q p e z;let⟨M,d⟩:=b.gr c q _ (a.st c _ e trivial) Z;exact⟨m++M,by rw[d,Array.append_assoc]⟩⟩
structure Un(fs ex:List Addr)(H H':Hp)(h h':Heap):Prop where
 keep:∀b o,h.get? b=↑o->H b=none->b∉fs->b∉ex->h'.get? b=↑o
 slot:∀b o,h.get? b=↑o->H b=none->b∈fs->b∉ex->∃sl,h'.get? b=some { o with slots:=sl }
 free:∀b o,h.get? b=↑o->H b=none->b∉ex->H' b=none
 there:∀b o,h.get? b=↑o->b∉ex->∃o',h'.get? b=↑o'
 S3:∀b xs,H b=↑(.tup xs)->H' b=↑(.tup xs)
 Ss:∀b o u,H b=↑(.RC o u)->H' b=↑(.RC o u)
 RU:J2 H H' h h'
def Un.any(u:Un fs ex H H1 h U)(q:h.get? b=↑ob)(n:H b=none)(x:b∉ex):∃s,U.get? b=some { ob with slots:=s }:=by
 by_cases B:b∈fs
 .exact u.slot b ob q n B x
 .exact⟨ob.slots,u.keep b ob q n B x⟩
def Un.kept(k:∀b u,h.get? b=↑u->h'.get? b=↑u):Un fs ex H H h h' :=
 ⟨λb o q _ _ _=>k b o q,λb o q _ _ _=>⟨o.slots,k b o q⟩,λ_ _ _ n _=>n,λb o q _=>⟨o,k b o q⟩,λ_ _ q=>q,λ_ _ _ q=>q,.kept (λb u _ e=>k b u e) λ_ _ e _=>e⟩
def Un.refl:Un fs ex H H h h:=Un.kept λ_ _ q=>q
def Un.laid(k:∀b u,h.get? b=↑u->h'.get? b=↑u)(p:h.objs.size<=a)(N:H a=none):Un fs ex H (upd H a o) h h' where
 keep:=λb u q _ _ _=>k b u q
 slot:=λb u q _ _ _=>⟨u.slots,k b u q⟩
 free:=λb u q n _=>by rw[aB (yS (zP (zY q) p))];exact n
 there:=λb u q _=>⟨u,k b u q⟩
 S3:=λb x q=>by rw[aB (aL q N)];exact q
 Ss:=λb u x q=>by rw[aB (aL q N)];exact q
 RU:=.kept (λb u _ e=>k b u e) λb u q _=>by rw[aB (aL q N)];exact q
def Un.write(m:Nt (H x))(E:e=x\/H e=↑(.own x))(k:∀b u,b≠e->h.get? b=↑u->h'.get? b=↑u)(Y:∃u,h'.get? e=↑u):Un fs ex H (upd H x o) h h':=by
 have a:∀b,H b=none->b≠x:=λb n z=>by subst z;rw[n] at m;exact m
 have B:∀b,H b=none->b≠e:=λb n z=>by
  subst z;rcases E with r|r
  .exact a b n r
  .rw[n] at r;cases r
 have M:∀b u,H b=↑u->¬ Nt (↑u)->b≠x:=λb u q N z=>by subst z;rw[q] at m;exact N m
 refine⟨λb u q n _ _=>k b u (B b n) q,λb u q n _ _=>⟨u.slots,k b u (B b n) q⟩,λb u q n _=>by rw[aB (a b n)];exact n,λb u q _=>?_,
  λb s q=>by rw[aB (M b _ q λz=>z)];exact q,λb u s q=>by rw[aB (M b _ q λz=>z)];exact q,.kept (λb u z e=>k b u (λr=>by subst r;rcases E with r|r<;>first|(subst r;rcases z with ⟨q,z⟩;rw[z] at m;exact m)|(rcases z with ⟨q,z⟩;rw[z] at r;cases r)) e) λb u q N=>by rw[aB (M b _ q (N.Wj))];exact q⟩
 by_cases X:b=e
 .subst X;exact Y
 .exact⟨u,k b u X q⟩
def Ov(h:ι)(H:Hp):Γ Ψ:=(List.range h.objs.size).filter λa=>(H a).isSome
def uB(h:ι)(H:Hp):ι:=W.hideAll h (Ov h H)
def Cw(h:ι)(H:Hp):(uB h H).objs.size=h.objs.size:=W.hideAll_size _ _
def Fn(e:h.get? b=↑o)(n:H b=none):(uB h H).get? b=↑o :=
 W.hideAll_get _ e λm=>by
  have q:(H b).isSome=true:=(List.mem_filter.mp m).2;rw[n] at q;simp at q
def Jy(e:(uB h H).get? b=↑o):h.get? b=↑o/\H b=none:=by
 have E:h.get? b=↑o:=W.of_hideAll (Ov h H) e;refine⟨E,?_⟩;cases q:H b with
 | none=>rfl
 | some x =>
  have m:b∈Ov h H:=List.mem_filter.mpr ⟨List.mem_range.mpr (zY E),by simp[q]⟩;have z:(uB h H).get? b=none:=W.hideAll_none (Ov h H) m;rw[z] at e;cases e
def Ot(g:Str->Δ Θ)(b:ι):Prop:=∃m o,g "__builtins__"=↑(.ref m)/\m≠builtinsNs/\m≠mainGlobals/\b.get? m=↑o/\o.cls=.type "module"/\o.dict=↑builtinsNs/\o.data=.plain
structure Mod(K:W.Frag)(mg:Str->Option Value)(base:Heap):Prop where
 YI:K.In base
 glob:base.Ns mainGlobals mg
 blt:∃mb,base.Ns builtinsNs mb/\∀x:Str,x≠"__name__"->mb x=bootBuiltins x
 nolimit:base.NoLimit
 bmd:Ot mg base
structure Cx where
 prog:ε
 w:δ
 K:Φ
 mg:Str->Δ Θ
 base:ι
 A:ξ
 N:Γ Str
 Q2:Ξ
 QF:Hp
 env:Env
 outer:Γ Env
 stack:Γ Env
 ex:Γ Ψ
 fn:Str->θ
 calm:θ
 pn:Γ (Ψ×Obj)
 xe:Θ->Ξ->Prop
def ED(l:Γ Env):Γ Ψ:=l.filterMap (·.frame)
abbrev Cx.fs(X:Cx):Γ Ψ:=ED X.outer
def JF(sc:ζ)(x:Str):Prop:=sc.names.lookup x=↑.local \/ sc.names.lookup x=↑.cell\/sc.names.lookup x=↑.free
def Loc(sc:ζ)(x:Str):Prop:=sc.names.lookup x=↑.local \/ sc.names.lookup x=↑.cell
def Look(env:Env)(h:ι)(m:Str->Δ Θ)(x:Str)(u:Θ):Prop :=
 (env.kindOf x=↑.local /\ m x=↑u)\/((env.kindOf x=↑.cell\/env.kindOf x=↑.free)/\∃c,env.cells.lookup x=↑c/\h.IsCell c (↑u))
structure Cx.Ok(X:Cx):Prop where
 mod:Mod X.K X.mg X.base
 kind:X.env.scope.kind=.function
 glob:X.env.globals=mainGlobals
 blt:X.env.builtins=builtinsNs
 above:X.Q2.heap.objs.size<=X.env.locals
 inj:∀x y c,X.env.cells.lookup x=↑c->X.env.cells.lookup y=↑c->x=y
 has:∀x,(X.env.kindOf x=↑.cell\/X.env.kindOf x=↑.free)->∃c,X.env.cells.lookup x=↑c
 Y2:∀x c,X.fn x=true->X.env.cells.lookup x=↑c->X.Q2.heap.objs.size<=c
 hd:X.calm=true->X.A.handled=none
 frames:X.A.frames=↑X.stack
 stk:X.stack=X.outer\/(X.stack=X.env::X.outer/\X.env.frame=↑X.env.locals)
 exf:∀b∈X.ex,b≠X.env.locals/\∀x c,X.env.cells.lookup x=↑c->c≠b
 bs:∀b o,X.base.get? b=↑o->X.Q2.heap.get? b=↑o/\X.QF b=none
 WW:X.base.objs.size<=X.Q2.heap.objs.size
 UY:∀b o,X.base.get? b=↑o->b∉X.ex
 Vu:∀b∈X.ex,b∉X.fs
 RV:X.Q2.heap.FunFrames X.base X.outer
 YJ:∀b∈X.fs,X.QF b=none
structure Inv(X:Cx)(pins:List (Addr×Obj))(σ:List (Option V))(H:Hp)(s:Shared):Prop where
 ok:X.Ok
 os:s.os=X.Q2.os
 bare:AllBare s.gens
 base:Un X.fs X.ex X.QF H X.Q2.heap s.heap
 loc:∃m,s.heap.Ns X.env.locals m/\∀ (i:Nat) (x:Str) (v:V),X.N[i]?=↑x->σ[i]?=↑(↑v)->JF X.env.scope x->∃u,RelV v u/\Look X.env s.heap m x u
 cell:∀x c,X.env.cells.lookup x=↑c->∃v,s.heap.IsCell c v
 free:H X.env.locals=none
 Q8:∀x c,X.env.cells.lookup x=↑c->H c=none
 pin:∀p∈X.pn++pins,s.heap.get? p.1=↑p.2/\H p.1=none/\p.1≠X.env.locals/\p.1∉X.fs/\∀v,p.2.data≠.cell v
 QK:o7 X.prog X.w H s.heap
 len:σ.length=X.N.length
def Cx.Ok.acs{X:Cx}(k:X.Ok)(e:X.base.get? b=↑o):b∉X.fs:=λH=>by
 have:=(k.RV.mem H).1;rw[e] at this;cases this
def Inv.bs{X:Cx}{s:Ξ}(I:Inv X pins σ H s):∀b o,X.base.get? b=↑o->s.heap.get? b=↑o/\H b=none:=λb o e =>
 ⟨I.base.keep b o (I.ok.bs b o e).1 (I.ok.bs b o e).2 (I.ok.acs e) (I.ok.UY b o e),I.base.free b o (I.ok.bs b o e).1 (I.ok.bs b o e).2 (I.ok.UY b o e)⟩
def Inv.bk(I:Inv X pins σ H s):∀b o,X.base.get? b=↑o->s.heap.get? b=↑o:=λb o e=>(I.bs b o e).1
def Inv.mod(I:Inv X pins σ H s):Mod X.K X.mg X.base:=I.ok.mod
def Inv.UE(I:Inv X pins σ H s):X.K.In s.heap:=I.ok.mod.YI.keeps I.bk
def Inv.nolimit(I:Inv X pins σ H s):s.heap.NoLimit:=I.ok.mod.nolimit.keeps I.bk
def Inv.lt(I:Inv X pins σ H s):X.env.locals < s.heap.objs.size:=let ⟨_,n,_⟩:=I.loc;n.lt
def Inv.sz(I:Inv X pins σ H s):X.Q2.heap.objs.size<=s.heap.objs.size:=yD I.ok.above (jU I.lt)
def Inv.acu(I:Inv X pins σ H s)(h:s.heap.objs.size<=a):a∉X.fs:=λb=>by
 let⟨_,o,O,_⟩:=I.ok.RV.mem b;exact absurd (zP (zY O) (yD I.sz h)) (qF _)
def Inv.XM(I:Inv X pins σ H s):∀x c,X.env.cells.lookup x=↑c->c≠X.env.locals:=λx c e z=>by
 let⟨v,o,O,d⟩:=I.cell x c e;let⟨m,⟨a,E,p,R,Y,_⟩,_⟩:=I.loc;rw[z,R] at O;cases O;rw[Y] at d;cases d
def Inv.RV(I:Inv X pins σ H s):s.heap.FunFrames X.base X.outer:=by
 have a:∀ (l:Γ Env),(∀b∈ED l,b∈X.fs)->X.Q2.heap.FunFrames X.base l->s.heap.FunFrames X.base l:=by
  intro l
  induction l with
  | nil=>intro _ _;trivial
  | cons v r i =>
   intro S g;let⟨k,⟨L,o,f,n,O,d⟩,R⟩:=g;have c:L∈X.fs:=S L (by unfold ED;rw[jH,f];exact zE);let⟨j,e⟩:=I.base.slot L o O (I.ok.YJ L c) c λz=>I.ok.Vu L z c;exact⟨k,⟨L,_,f,n,e,d⟩,i (λb B=>S b (by unfold ED;rw[jH,f];exact zC _ B)) R⟩
 exact a X.outer (λ_ B=>B) I.ok.RV
def Inv.stack(I:Inv X pins σ H s):s.heap.FunFrames X.base X.stack:=by
 rcases I.ok.stk with e|⟨e,f⟩
 .rw[e];exact I.RV
 .rw[e];let⟨m,n,_⟩:=I.loc;refine .cons (by rw[I.ok.kind];decide) f n ?_ I.RV;exact Heap.get?_none_of_le (yD I.ok.WW I.ok.above)
def Inv.T8(I:Inv X pins σ H s):∀b∈ED X.stack,b∈X.env.locals::X.fs:=λb B=>by
 rcases I.ok.stk with e|⟨e,f⟩
 .rw[e] at B;exact zC _ B
 .rw[e] at B;unfold ED at B;rw[jH,f] at B;exact B
def Inv.S5(I:Inv X pins σ H s):∀b∈ED X.stack,H b=none:=λb B=>by
 rcases List.mem_cons.mp (I.T8 b B) with e|B
 .rw[e];exact I.free
 .let⟨_,o,O,_⟩:=I.ok.RV.mem B;exact I.base.free b o O (I.ok.YJ b B) λz=>I.ok.Vu b z B
def Inv.step{g':Array GenState}{t':Nat}{d':Drawn}{ch:Γ Ψ}(I:Inv X pins σ H s)
  (g:∀b∈ch,(b∈X.ex\/X.Q2.heap.objs.size<=b)/\b≠X.env.locals/\(∀x c,X.env.cells.lookup x=↑c->c≠b)/\∀p∈X.pn++pins,p.1≠b)
  (P:∀b o,b≠X.env.locals->b∉X.fs->b∉ch->s.heap.get? b=↑o->H b=none->h'.get? b=↑o)
  (t:∀b o,b≠X.env.locals->b∈X.fs->b∉ch->s.heap.get? b=↑o->H b=none->∃S,h'.get? b=some { o with slots:=S }) (f:∀b o,b∉ch->s.heap.get? b=↑o->H b=none->H' b=none)
  (T:∀b o,b∉ch->s.heap.get? b=↑o->∃j,h'.get? b=↑j)
  (J:∀b xs,H b=↑(.tup xs)->H' b=↑(.tup xs)) (M:∀b o u,H b=↑(.RC o u)->H' b=↑(.RC o u)) (R:J2 H H' s.heap h')
  (ns:∀m,s.heap.Ns X.env.locals m->h'.Ns X.env.locals m) (Q:o7 X.prog X.w H' h') (W:AllBare g') :
  Inv X pins σ H' { s with heap:=h',gens:=g',drawn:=d',toks:=t' }:=by
 have L:∀b o,X.Q2.heap.get? b=↑o->b≠X.env.locals:=λb o e=>yS (zP (zY e) I.ok.above);have C:∀b o,X.Q2.heap.get? b=↑o->b∉X.ex->b∉ch:=λb o e a B=>by
  rcases (g b B).1 with z|z
  .exact a z
  .exact absurd (zP (zY e) z) (qF _)
 have K:∀x c,X.env.cells.lookup x=↑c->∀v,s.heap.IsCell c v->h'.IsCell c v:=λx c e v z=>by
  let⟨o,O,D⟩:=z;have U:c∉ch:=λz=>(g c z).2.2.1 x c e rfl;by_cases hc:c∈X.fs
  .let⟨S,q⟩:=t c o (I.XM x c e) hc U O (I.Q8 x c e);exact⟨_,q,D⟩
  .exact⟨o,P c o (I.XM x c e) hc U O (I.Q8 x c e),D⟩
 refine⟨I.ok,I.os,W,⟨λb o e n B a=>?_,λb o e n B a=>?_,λb o e n a=>?_,λb o e a=>?_,λb xs e=>J b xs (I.base.S3 b xs e),λb o xs e=>M b o xs (I.base.Ss b o xs e),I.base.RU.trans R⟩,?_,λx c e=>?_,?_,λx c e=>?_,λp F=>?_,Q,I.len⟩
 .exact P b o (L b o e) B (C b o e a) (I.base.keep b o e n B a) (I.base.free b o e n a)
 .let⟨S,E⟩:=I.base.slot b o e n B a;let⟨A,y⟩:=t b _ (L b o e) B (C b o e a) E (I.base.free b o e n a);exact⟨A,y⟩
 .let⟨j,E⟩:=I.base.there b o e a;exact f b j (C b o e a) E (I.base.free b o e n a)
 .let⟨j,E⟩:=I.base.there b o e a;exact T b j (C b o e a) E
 .let⟨m,Z,Y⟩:=I.loc;refine⟨m,ns m Z,λi x v E y V=>?_⟩;let⟨u,r,l⟩:=Y i x v E y V;refine⟨u,r,?_⟩;rcases l with l|⟨k,c,e,z⟩
  .exact .inl l
  .exact .inr ⟨k,c,e,K x c e _ z⟩
 .let⟨v,z⟩:=I.cell x c e;exact⟨v,K x c e v z⟩
 .let⟨m,⟨o,_,_,O,_⟩,_⟩:=I.loc;exact f _ o (λz=>(g _ z).2.1 rfl) O I.free
 .let⟨v,o,O,D⟩:=I.cell x c e;exact f c o (λz=>(g c z).2.2.1 x c e rfl) O (I.Q8 x c e)
 .let⟨e,n,N,G,d⟩:=I.pin p F;have U:p.1∉ch:=λz=>(g p.1 z).2.2.2 p F rfl;exact⟨P p.1 p.2 N G U e n,f p.1 p.2 U e n,N,G,d⟩
def Inv.un{t':Nat}(I:Inv X pins σ H s)(u:Un X.fs [] H H' s.heap h')(Q:o7 X.prog X.w H' h'):Inv X pins σ H' { s with heap:=h',toks:=t' }:=by
 let⟨m,⟨o,S,P,O,r⟩,_⟩:=id I.loc;let⟨l,L⟩:=u.any O I.free (by simp);exact I.step (g':=s.gens) (d':=s.drawn) (ch:=[]) (λ_ z=>nomatch z) (λb o _ B _ e n=>u.keep b o e n B (by simp)) (λb o _ B _ e n=>u.slot b o e n B (by simp)) (λb o _ e n=>u.free b o e n (by simp)) (λb o _ e=>u.there b o e (by simp)) u.S3 u.Ss u.RU (λc M=>by
  let⟨d,E,p,R,a⟩:=M;rw[O] at R;cases R;exact⟨_,E,p,L,a⟩) Q I.bare
def Inv.call{t':Nat}{d':Drawn}{ch:Γ Ψ}(I:Inv X pins σ H s)(u:Un (ED X.stack) ch H H' s.heap h')(Q:o7 X.prog X.w H' h')(g:AllBare g')
  (T:∀b∈ch,(b∈X.ex\/X.Q2.heap.objs.size<=b)/\b≠X.env.locals/\(∀x c,X.env.cells.lookup x=↑c->c≠b)/\∀p∈X.pn++pins,p.1≠b) :
  Inv X pins σ H' { s with heap:=h',gens:=g',drawn:=d',toks:=t' }:=by
 let⟨m,⟨o,d,P,O,r⟩,_⟩:=id I.loc;let⟨l,L⟩:=u.any O I.free λz=>(T _ z).2.1 rfl;exact I.step (ch:=ch) T (λb o L B hc e n=>u.keep b o e n (λz=>(List.mem_cons.mp (I.T8 b z)).elim L B) hc) (λb o _ _ hc e n=>u.any e n hc) (λb o hc e n=>u.free b o e n hc) (λb o hc e=>u.there b o e hc) u.S3 u.Ss u.RU (λf M=>by
  let⟨i,S,E,R,a⟩:=M;rw[O] at R;cases R;exact⟨_,S,E,L,a⟩) Q g
def Inv.turned{t':Nat}(I:Inv X pins σ H s)(k:∀b o,b≠it->s.heap.get? b=↑o->h'.get? b=↑o)(N:H it=none)(L:it≠X.env.locals)
  (a:it∈X.ex\/X.Q2.heap.objs.size<=it) (d:∀x c,X.env.cells.lookup x=↑c->c≠it) (f:∀p∈X.pn++pins,p.1≠it):Inv X pins σ H { s with heap:=h',toks:=t' }:=by
 have t:∀b u,H b=↑u->b≠it:=λb u e z=>by rw[z,N] at e;cases e
 refine I.step (g':=s.gens) (d':=s.drawn) (ch:=[it]) (λb B=>?_) (λb o _ _ hc e _=>k b o (λz=>hc (by simp[z])) e) (λb o _ _ hc e _=>⟨o.slots,k b o (λz=>hc (by simp[z])) e⟩) (λ_ _ _ _ n=>n)
  (λb o hc e=>⟨o,k b o (λz=>hc (by simp[z])) e⟩) (λ_ _ e=>e) (λ_ _ _ e=>e) (.kept (λb u z e=>k b u (λr=>by subst r;rcases z with ⟨q,z⟩;rw[N] at z;cases z) e) λ_ _ e _=>e) (λm M=>?_) (λb u e=>?_) I.bare
 .have e:b=it:=by simpa using B
  subst e;exact⟨a,L,d,f⟩
 .let⟨o,S,E,O,r⟩:=M;exact⟨o,S,E,k _ o (jO L) O,r⟩
 .refine (I.QK b u e).SY (λc v hc q=>k c v ?_ q) (λ_ q=>q) λ_ _ q _=>q;rcases hc with z|z
  .rw[z];exact t b u e
  .exact t c _ z
def Inv.tok(I:Inv X pins σ H s)(t:Nat):Inv X pins σ H { s with toks:=t }:=I.un (h':=s.heap) (t':=t) Un.refl I.QK
def Inv.kept{t':Nat}(I:Inv X pins σ H s)(k:∀b u,s.heap.get? b=↑u->h'.get? b=↑u):Inv X pins σ H { s with heap:=h',toks:=t' }:=I.un (Un.kept k) (I.QK.kept k)
def Inv.laid{t':Nat}(I:Inv X pins σ H s)(k:∀b u,s.heap.get? b=↑u->h'.get? b=↑u)(p:s.heap.objs.size<=a)(n:c8 X.prog X.w (upd H a o) h' a o) :
  Inv X pins σ (upd H a o) { s with heap:=h',toks:=t' }:=I.un (Un.laid k p (I.QK.fresh p)) (I.QK.laid k p n)
def Inv.write{t':Nat}(I:Inv X pins σ H s)(m:Nt (H x))(E:e=x\/H e=↑(.own x))(k:∀b u,b≠e->s.heap.get? b=↑u->h'.get? b=↑u)(Y:∃u,h'.get? e=↑u)
  (n:c8 X.prog X.w (upd H x o) h' x o):Inv X pins σ (upd H x o) { s with heap:=h',toks:=t' }:=I.un (Un.write m E k Y) (I.QK.write m E k Y n)
def Inv.UG(I:Inv X pins σ H s)(h:∀p∈U,s.heap.get? p.1=↑p.2/\H p.1=none/\p.1≠X.env.locals/\p.1∉X.fs/\∀v,p.2.data≠.cell v):Inv X U σ H s :=
 ⟨I.ok,I.os,I.bare,I.base,I.loc,I.cell,I.free,I.Q8,λp P=>(List.mem_append.mp P).elim (λz=>I.pin p (qK _ z)) (h p),I.QK,I.len⟩
def vx{N:Γ Str}(H:N.Nodup){i j:Nat}(a:N[i]?=↑x)(b:N[j]?=↑x):i=j:=by
 let⟨c,e⟩:=List.getElem?_eq_some_iff.mp a;let⟨d,E⟩:=List.getElem?_eq_some_iff.mp b;exact (List.getElem_inj H).mp (e.trans E.symm)
def sU{M:Model}{A:ξ}{E:Θ->Ξ->Prop}{i:Nat}{Q:Unit->Ξ->Prop}(I:Inv X pins σ H s)(hN:X.N.Nodup)(hi:X.N[i]?=↑x)(g:Loc X.env.scope x)(r:RelV v u)
  (h:∀s',Inv X pins (σ.set i (↑v)) H s'->(∃a,Heap.SameBut a s.heap s'.heap/\(a=X.env.locals\/X.env.cells.lookup x=↑a))->Q () s') (hf:X.fn x=true\/X.env.scope.names.lookup x=↑.local:=by first|exact .inl rfl|exact .inr rfl|assumption):wpAny M A (storeName X.env x u) Q E s:=by
 let⟨m,U,hl⟩:=id I.loc;have P:(X.env.scope.kind == .class||(X.env.scope.kind == .module&&X.env.locals != X.env.globals))=false:=by rw[I.ok.kind];rfl
 have Y5:i < σ.length:=by rw[I.len];exact (List.getElem?_eq_some_iff.mp hi).1
 have O:=I.XM;have t:∀ {a:Ψ}{C:ι},(∃o,s.heap.get? a=↑o/\H a=none)->Heap.SameBut a s.heap C->o7 X.prog X.w H C:=λ{a C} ha S b ob e=>by
  let⟨_,_,Rw⟩:=ha;refine (I.QK b ob e).SY (λc W hc q=>(S.2 c ?_).trans q) (λ_ q=>q) λ_ _ q _=>q;rintro rfl;rcases hc with rfl|hc
  .rw[Rw] at e;cases e
  .rw[Rw] at hc;cases hc
 rcases g with K|K
 .refine wpAny_storeName_local K U (λC XN S=>?_) P;let⟨oL,_,_,Y,_⟩:=id U;refine h _ ⟨I.ok,I.os,I.bare,⟨λb o e n B g=>?_,λb o e n B g=>?_,I.base.free,λb o e g=>?_,I.base.S3,I.base.Ss,I.base.RU.trans (.kept (λb u z e=>(S.2 b (λr=>by rcases z with ⟨q,z⟩;rw[r,I.free] at z;cases z)).trans e) λ_ _ e _=>e)⟩,⟨_,XN,λj y v' f l T=>?_⟩,λy c e=>?_,I.free,I.Q8,λp Z=>?_,t ⟨oL,Y,I.free⟩ S,by simpa using I.len⟩ ⟨_,S,.inl rfl⟩
  .exact (S.2 b (yS (zP (zY e) I.ok.above))).trans (I.base.keep b o e n B g)
  .let⟨sl,f⟩:=I.base.slot b o e n B g;exact⟨sl,(S.2 b (yS (zP (zY e) I.ok.above))).trans f⟩
  .let⟨o',f⟩:=I.base.there b o e g;exact⟨o',(S.2 b (yS (zP (zY e) I.ok.above))).trans f⟩
  .by_cases J:j=i
   .subst J;rw[hi] at f;cases f;rw[vQ Y5] at l;cases l;exact⟨u,r,.inl ⟨K,by simp⟩⟩
   .rw[kW (jO J)] at l;let⟨u',r',q⟩:=hl j y v' f l T;refine⟨u',r',?_⟩;rcases q with ⟨k,e⟩|⟨k,c,e,z⟩
    .refine .inl ⟨k,?_⟩;have:y≠x:=λe=>J (vx hN f (e ▸ hi));simp[this,e]
    .exact .inr ⟨k,c,e,z.sameBut S (O y c e)⟩
  .let⟨W,z⟩:=I.cell y c e;exact⟨W,z.sameBut S (O y c e)⟩
  .let⟨e,n,L,nf,d⟩:=I.pin p Z;exact⟨(S.2 p.1 L).trans e,n,L,nf,d⟩
 .have V:X.fn x=true:=by
   rcases hf with z|z
   .exact z
   .rw[z] at K;cases K
  let⟨c,hc⟩:=I.ok.has x (.inl K);let⟨W,z⟩:=I.cell x c hc;refine wpAny_storeName_cell I.ok.kind K hc z (λC Su S=>?_);let⟨oc,F,R⟩:=id z;refine h { s with heap:=C } ⟨I.ok,I.os,I.bare,⟨λb o e n B g=>?_,λb o e n B g=>?_,I.base.free,λb o e g=>?_,I.base.S3,I.base.Ss,I.base.RU.trans (.kept (λb u z e=>(S.2 b (λr=>by rcases z with ⟨q,z⟩;rw[r,I.Q8 x c hc] at z;cases z)).trans e) λ_ _ e _=>e)⟩,⟨m,U.sameBut S (jO (O x c hc)),λj y v' f l T=>?_⟩,λy G e=>?_,I.free,I.Q8,λp Z=>?_,t ⟨oc,F,I.Q8 x c hc⟩ S,by simpa using I.len⟩ ⟨c,S,.inr hc⟩
  .exact (S.2 b (yS (zP (zY e) (I.ok.Y2 x c V hc)))).trans (I.base.keep b o e n B g)
  .let⟨sl,f⟩:=I.base.slot b o e n B g;exact⟨sl,(S.2 b (yS (zP (zY e) (I.ok.Y2 x c V hc)))).trans f⟩
  .let⟨o',f⟩:=I.base.there b o e g;exact⟨o',(S.2 b (yS (zP (zY e) (I.ok.Y2 x c V hc)))).trans f⟩
  .by_cases J:j=i
   .subst J;rw[hi] at f;cases f;rw[vQ Y5] at l;cases l;exact⟨u,r,.inr ⟨.inl K,c,hc,Su⟩⟩
   .rw[kW (jO J)] at l;let⟨u',r',q⟩:=hl j y v' f l T;refine⟨u',r',?_⟩;rcases q with q|⟨k,G,e,z'⟩
    .exact .inl q
    .refine .inr ⟨k,G,e,z'.sameBut S ?_⟩;rintro rfl;exact J (vx hN f (I.ok.inj _ _ _ e hc ▸ hi))
  .by_cases D:G=c
   .subst D;exact⟨_,Su⟩
   .let⟨w2,z2⟩:=I.cell y G e;exact⟨w2,z2.sameBut S D⟩
  .let⟨e,n,L,nf,d⟩:=I.pin p Z;refine⟨(S.2 p.1 ?_).trans e,n,L,nf,d⟩;intro q;rw[q,F] at e;have q':oc=p.2:=xE e;exact d W (by rw[<- q'];exact R)
def xx{M:Model}{A:ξ}{E:Θ->Ξ->Prop}(I:Inv X pins σ H s)(n:X.N.Nodup)(hi:X.N[i]?=↑x)(b:Loc X.env.scope x)(r:RelV v u)
  (h:∀s',Inv X pins (σ.set i (↑v)) H s'->Q () s') (f:X.fn x=true\/X.env.scope.names.lookup x=↑.local:=by first|exact .inl rfl|exact .inr rfl|assumption):wpAny M A (storeName X.env x u) Q E s :=
 sU I n hi b r (λs' a _=>h s' a) f
def Inv.WX{ch:Γ Ψ}(I:Inv X pins σ H s)(o:s'.os=s.os)(u:Un (ED X.stack) ch H H' s.heap s'.heap)(Q:o7 X.prog X.w H' s'.heap)(G:AllBare s'.gens)
  (T:∀b∈ch,(b∈X.ex\/X.Q2.heap.objs.size<=b)/\b≠X.env.locals/\(∀x c,X.env.cells.lookup x=↑c->c≠b)/\∀p∈X.pn++pins,p.1≠b):Inv X pins σ H' s':=by
 let⟨a,g,d,t,O⟩:=s';have e:O=s.os:=o;subst e;exact I.call (g':=g) (t':=t) (d':=d) u Q G T
abbrev XK:=Θ->Δ Ψ->Hp->Prop
abbrev St:=Γ (Δ V)
abbrev VK:=V->Hp->Prop
abbrev TE:=St->Hp->VK->Prop
abbrev TT:=St->Hp->(θ->Hp->Prop)->Prop
abbrev TA:=St->Hp->(Γ V->Hp->Prop)->Prop
structure Ends where
 nx:St->Hp->Prop
 rt:VK
 bk:St->Hp->Prop:=λ_ _=>False
 ct:St->Hp->Prop:=λ_ _=>False
abbrev TS:=Ends->St->Hp->Prop
def EP(X:Cx)(pins:Γ (Ψ×Obj))(σ:St)(Q:VK)(u:Θ)(s':Ξ):Prop:=∃v H,Inv X pins σ H s'/\RelV v u/\Q v H
def TP(X:Cx)(pins:Γ (Ψ×Obj))(σ:St)(Q:θ->Hp->Prop)(b:θ)(s':Ξ):Prop:=∃H,Inv X pins σ H s'/\Q b H
def AP(X:Cx)(pins:Γ (Ψ×Obj))(σ:St)(Q:Γ V->Hp->Prop)(us:Γ Θ)(s':Ξ):Prop:=∃v H,Inv X pins σ H s'/\az v us/\Q v H
def SP(X:Cx)(pins:Γ (Ψ×Obj))(D:Ends)(f:Flow)(s':Ξ):Prop :=
 match f with
 | .next=>∃a H,Inv X pins a H s'/\D.nx a H
 | .brk=>∃a H,Inv X pins a H s'/\D.bk a H
 | .cont=>∃a H,Inv X pins a H s'/\D.ct a H
 | .ret u=>∃v a H,Inv X pins a H s'/\RelV v u/\D.rt v H
def PE(X:Cx)(e:γ)(t:TE):Prop :=
 ∀ (p:Γ (Ψ×Obj)) (s:Ξ) (a:St) (H:Hp) (Q:VK),Inv X p a H s->t a H Q->wpAny (model X.prog X.w) X.A (eval e X.env) (EP X p a Q) X.xe s
def PT(X:Cx)(e:γ)(t:TT):Prop :=
 ∀ (p:Γ (Ψ×Obj)) (s:Ξ) (a:St) (H:Hp) (Q:θ->Hp->Prop),Inv X p a H s->t a H Q->wpAny (model X.prog X.w) X.A (isTrue e X.env (eval e X.env)) (TP X p a Q) X.xe s
def PW(X:Cx)(e:γ)(t:TT):Prop :=
 ∀ (W:Sem Θ) (p:Γ (Ψ×Obj)) (s:Ξ) (a:St) (H:Hp) (Q:θ->Hp->Prop),Inv X p a H s->t a H Q->wpAny (model X.prog X.w) X.A (isTrue e X.env W) (TP X p a Q) X.xe s
def PW.pt(h:PW X e t):PT X e t:=h _
def PA(X:Cx)(es:Γ γ)(t:TA):Prop :=
 ∀ (P:Pos) (p:Γ (Ψ×Obj)) (s:Ξ) (a:St) (H:Hp) (Q:Γ V->Hp->Prop),Inv X p a H s->t a H Q->wpAny (model X.prog X.w) X.A (spliced (backTo P (starEach es X.env))) (AP X p a Q) X.xe s
def PS(X:Cx)(st:Ω)(t:TS):Prop :=
 ∀ (p:Γ (Ψ×Obj)) (s:Ξ) (a:St) (H:Hp) (D:Ends),Inv X p a H s->t D a H->wpAny (model X.prog X.w) X.A (exec st X.env) (SP X p D) X.xe s
def AO(X:Cx)(st:Γ Ω)(t:TS):Prop :=
 ∀ (p:Γ (Ψ×Obj)) (s:Ξ) (a:St) (H:Hp) (D:Ends),Inv X p a H s->t D a H->wpAny (model X.prog X.w) X.A (execs st X.env) (SP X p D) X.xe s
def bO(h:wpAny M A t Q E s)(H:∀a s,Q a s->U a s):wpAny M A t U E s:=xB h H λ_ _ x=>x
section
def Pu(i:Nat):TE:=λa H Q=>∃v,a[i]?=↑(↑v)/\Q v H
def tC(v:V):TE:=λ_ H Q=>Q v H
def p7(n:X.N[i]?=↑x)(V:JF X.env.scope x)(d:(x == ("__debug__":Str))=false:=by decide)(S:(x == ("__classdict__":Str))=false:=by decide):PE X (.Name x pos) (Pu i):=by
 intro p s b H Q I h;let⟨v,e,h⟩:=h;let⟨m,a,L⟩:=I.loc;let⟨u,r,l⟩:=L i x v n e V;have fin:EP X p b Q u s:=⟨v,H,I,r,h⟩
 rcases l with ⟨k,M⟩|⟨k,c,hc,W⟩
 .exact wpAny_Name (wpAny_loadName_local I.ok.kind k a M fin) d
 .rcases k with k|k
  .exact wpAny_Name (wpAny_loadName_cell I.ok.kind k hc W fin) d
  .exact wpAny_Name (wpAny_loadName_free I.ok.kind k hc W fin S) d
def uZ{i j pos}:PE X (.Constant (.int i) j pos) (tC (.int i)):=λ_ _ _ H _ I h=>wpAny_Constant_int ⟨.int i,H,I.tok _,⟨_,rfl⟩,h⟩
def NI{b j pos}:PE X (.Constant (.bool b) j pos) (tC (.bl b)):=λ_ _ _ H _ I h=>Constant_bool ⟨.bl b,H,I,rfl,h⟩
def LO{j pos}:PE X (.Constant .none j pos) (tC .QB):=λ_ _ _ H _ I h=>Constant_none ⟨.QB,H,I,rfl,h⟩
def Lx{x j pos}:PE X (.Constant (.str x) j pos) (tC (.str x)):=λ_ _ _ H _ I h=>Calls.Constant_str ⟨.str x,H,I.tok _,⟨_,rfl⟩,h⟩
def Gl(X:Cx)(x:Str):Prop:=X.env.kindOf x=↑.globalImplicit
def vb{E:Θ->Ξ->Prop}{pos:Pos}(I:Inv X pins σ H s)(g:Gl X x)(m:X.mg x=↑u)(h:Q u s)
  (d:(x == ("__debug__":Str))=false:=by decide):wpAny (model X.prog X.w) X.A (eval (.Name x pos) X.env) Q E s :=
 Calls.Name_function_global I.ok.kind g (Calls.loadGlobal_global (by rw[I.ok.glob];exact I.mod.glob.keeps I.bk) m h) d
def dJ{E:Θ->Ξ->Prop}{pos:Pos}(I:Inv X pins σ H s)(g:Gl X x)(m:X.mg x=none)(v:bootBuiltins x=↑u)(h:Q u s)
  (n:x≠"__name__":=by decide) (d:(x == ("__debug__":Str))=false:=by decide):wpAny (model X.prog X.w) X.A (eval (.Name x pos) X.env) Q E s:=by
 let⟨M,a,b⟩:=I.mod.blt;exact Calls.Name_function_global I.ok.kind g (Calls.loadGlobal_builtin (by rw[I.ok.glob];exact I.mod.glob.keeps I.bk) m (by rw[I.ok.blt];exact a.keeps I.bk) ((b x n).trans v) h) d
def IJ(g:Gl X x)(m:X.mg x=↑u)(r:RelV v u)(d:(x == ("__debug__":Str))=false:=by decide):PE X (.Name x pos) (tC v) :=
 λ_ _ _ H _ I h=>vb I g m ⟨v,H,I,r,h⟩ d
def Ig(g:Gl X x)(m:X.mg x=none)(V:bootBuiltins x=↑u)(r:RelV v u)(n:x≠"__name__":=by decide)(d:(x == ("__debug__":Str))=false:=by decide):PE X (.Name x pos) (tC v) :=
 λ_ _ _ H _ I h=>dJ I g m V ⟨v,H,I,r,h⟩ n d
def tB(t:TE):TT:=λb H Q=>t b H λx a=>∃c,x=.bl c/\Q c a
def L8(h:PE X e t)(E:∀w,isTrue e X.env w=(do let v <- w;standAt e.pos;holding [v] (truthy v)):=by intro _;rfl):PT X e (tB t):=by
 intro p s c H Q I hw;refine isTrue_plain (bO (h p s c H _ I hw) λv S z=>?_) (E _);let⟨x,a,i,r,b⟩:=z;let⟨d,rfl,q⟩:=b;cases r;exact xX ⟨a,i,q⟩
variable {rest:Γ γ}
def OA(t u:TT):TT:=λb H Q=>t b H λc a=>if c=true then u b a Q else Q false a
def P9(t u:TT):TT:=λb H Q=>t b H λc a=>if c=true then Q true a else u b a Q
def Pv(t:TT):TT:=λb H Q=>t b H λc a=>Q (!c) a
def IF(A:PT X a tA):PW X (.BoolOp .And [a] pos) tA:=by
 intro w p s b H Q I h;refine isTrue_and (bO (A p s b H Q I h) λc S e=>?_);cases c with
 | true=>exact isTrue_and_nil e
 | false=>exact e
def Lp(A:PT X a tA):PW X (.BoolOp .Or [a] pos) tA:=by
 intro w p s b H Q I h;refine isTrue_or (bO (A p s b H Q I h) λc S e=>?_);cases c with
 | false=>exact isTrue_or_nil e
 | true=>exact e
def Ln(A:PT X a tA)(B:PW X (.BoolOp .And (b::rest) pos) U):PW X (.BoolOp .And (a::b::rest) pos) (OA tA U):=by
 intro w p s e H Q I h;refine isTrue_and (bO (A p s e H _ I h) λc S z=>?_);let⟨d,i,q⟩:=z;cases c with
 | true=>exact B w p S e d Q i q
 | false=>exact⟨d,i,q⟩
def NJ(A:PT X a tA)(B:PW X (.BoolOp .Or (b::rest) pos) U):PW X (.BoolOp .Or (a::b::rest) pos) (P9 tA U):=by
 intro w p s e H Q I h;refine isTrue_or (bO (A p s e H _ I h) λc S z=>?_);let⟨d,i,q⟩:=z;cases c with
 | true=>exact⟨d,i,q⟩
 | false=>exact B w p S e d Q i q
def KR(A:PT X a tA):PT X (.UnaryOp .Not a pos) (Pv tA):=by
 intro p s d H Q I h;exact isTrue_not (A p s d H (λc b=>Q (!c) b) I h)
def Nd(ta tb:TE):TE:=λb H Q=>ta b H λx a=>∃c,x=.bl c/\if c=true then tb b a Q else Q (.bl false) a
def Pj(ta tb:TE):TE:=λb H Q=>ta b H λx a=>∃c,x=.bl c/\if c=true then Q (.bl true) a else tb b a Q
def K8{op}(h:PE X a t):PE X (.BoolOp op [a] pos) t:=λp s b H Q I hw=>BoolOp_one (h p s b H Q I hw)
def Kr(A:PE X a ta)(B:PE X (.BoolOp .And (b::rest) pos) tb):PE X (.BoolOp .And (a::b::rest) pos) (Nd ta tb):=by
 intro p s e H Q I h;refine BoolOp_and (bO (A p s e H _ I h) λv S z=>?_);let⟨x,d,i,r,q⟩:=z;let⟨c,rfl,q⟩:=q;cases r;refine xX ?_;cases c with
 | true=>exact B p S e d Q i q
 | false=>exact⟨.bl false,d,i,rfl,q⟩
def Ka(A:PE X a ta)(B:PE X (.BoolOp .Or (b::rest) pos) tb):PE X (.BoolOp .Or (a::b::rest) pos) (Pj ta tb):=by
 intro p s e H Q I h;refine BoolOp_or (bO (A p s e H _ I h) λv S z=>?_);let⟨x,d,i,r,q⟩:=z;let⟨c,rfl,q⟩:=q;cases r;refine xX ?_;cases c with
 | false=>exact B p S e d Q i q
 | true=>exact⟨.bl true,d,i,rfl,q⟩
def Qp(t:TT)(ta tb:TE):TE:=λa H Q=>t a H λc b=>if c=true then ta a b Q else tb a b Q
def Fg(hc:PT X c tA)(A:PE X a ta)(B:PE X b tb):PE X (.IfExp c a b pos) (Qp tA ta tb):=by
 intro p s e H Q I h;refine wpAny_IfExp (bO (hc p s e H _ I h) λd S z=>?_);let⟨f,i,q⟩:=z;cases d with
 | true=>exact A p S e f Q i q
 | false=>exact B p S e f Q i q
end
def iw(K:Φ)(H:Hp)(a:Ψ)(xs:Γ V):Prop :=
 Rd H a (.lst xs) \/
  ∃ (o:Obj) (i:Array Θ) (n:Nat),K.lookup a=↑o/\o.cls=.type "list"/\o.dict=none/\o.data=.seq i n/\i.size<=sizeLine/\az xs i.toList
def f9(K:Φ)(H:Hp)(a:Ψ)(xs:Γ V):Prop :=
 Rd H a (.tup xs) \/
  ∃ (o:Obj) (i:Array Θ) (n:Nat),K.lookup a=↑o/\o.cls=.type "tuple"/\o.dict=none/\o.data=.seq i n/\i.size<=sizeLine/\az xs i.toList
def PH:Θ->Δ V
 | .none=>↑.QB
 | .bool b=>↑(.bl b)
 | .int i _=>↑(.int i)
 | .str x _=>↑(.str x)
 | .bytes b _=>↑(.byt b)
 | .float b _=>↑(.flt b)
 | .ref a=>↑(.ref a)
 | .type n=>↑(.ty n)
 | _=>none
def RelV.abs(r:RelV x u):PH u=↑x:=by
 cases x with
 | QB=>cases r;rfl
 | bl _=>cases r;rfl
 | int _=>let⟨t,rfl⟩:=r;rfl
 | str _=>let⟨t,rfl⟩:=r;rfl
 | byt _=>let⟨t,rfl⟩:=r;rfl
 | flt _=>let⟨t,rfl⟩:=r;rfl
 | ref _=>cases r;rfl
 | ty _=>cases r;rfl
def RelV.inj(r:RelV x u)(q:RelV y u):x=y:=xE (r.abs.symm.trans q.abs)
def az.inj(h:az xs us):az ys us->xs=ys:=by
 induction h generalizing ys with
 | nil=>intro h;cases h;rfl
 | cons r t i=>intro h;cases h with|cons R T=>rw[r.inj R,i T]
def iw.of{K:Φ}(h:H a=↑(.lst xs)):iw K H a xs:=.inl (.inl h)
def Inv.list(I:Inv X pins σ H s)(h:iw X.K H a xs):∃its:Γ Θ,az xs its/\PlainL s.heap a its.toArray/\xs.length<=sizeLine:=by
 rcases h with h|⟨o,its,n,k,hc,d,S,Z,r⟩
 .let⟨z,its,n,r,e⟩:=h.ok I.QK;exact⟨its,r,⟨_,n,e,rfl,rfl,rfl⟩,z⟩
 .refine⟨its.toList,r,⟨o,n,I.UE a o k,hc,d,by simpa using S⟩,?_⟩;have e:=r.length;simp?[wH] at e;lia
def Inv.tuple(I:Inv X pins σ H s)(h:f9 X.K H a xs):∃its:Γ Θ,az xs its/\IsTup s.heap a its.toArray/\xs.length<=sizeLine:=by
 rcases h with h|⟨o,its,n,k,hc,_,S,Z,r⟩
 .let⟨z,its,r,p⟩:=h.ok I.QK;exact⟨its,r,p.1,z⟩
 .refine⟨its.toList,r,⟨o,I.UE a o k,hc,n,by simpa using S⟩,?_⟩;have e:=r.length;simp?[wH] at e;lia
def Inv.Td(I:Inv X pins σ H s)(h:iw X.K H a xs)(h':iw X.K H a ys):xs=ys:=by
 let⟨S,r,⟨o,n,e,_,_,d⟩,_⟩:=I.list h;let⟨i,R,⟨O,N,E,_,_,D⟩,_⟩:=I.list h';rw[e] at E;cases E;rw[d] at D;injection D with b _
 have:S=i:=by simpa using jD Array.toList b
 subst this;exact r.inj R
def Inv.SG(I:Inv X pins σ H s)(h:f9 X.K H a xs)(h':f9 X.K H a ys):xs=ys:=by
 let⟨S,r,⟨o,e,_,n,d⟩,_⟩:=I.tuple h;let⟨i,R,⟨O,E,_,N,D⟩,_⟩:=I.tuple h';rw[e] at E;cases E;rw[d] at D;injection D with b _
 have:S=i:=by simpa using jD Array.toList b
 subst this;exact r.inj R
abbrev Cx.Sv(X:Cx)(E:Θ->Ξ->Prop):Cx:={ X with xe:=E }
abbrev Cx.nox(X:Cx):Cx:=X.Sv λ_ _=>False
def Cx.Ok.Sv{X:Cx}(o:X.Ok)(E:Θ->Ξ->Prop):(X.Sv E).Ok :=
 ⟨o.mod,o.kind,o.glob,o.blt,o.above,o.inj,o.has,o.Y2,o.hd,o.frames,o.stk,o.exf,o.bs,o.WW,o.UY,o.Vu,o.RV,o.YJ⟩
def Cx.Ok.Rj{X:Cx}{E:Θ->Ξ->Prop}(o:(X.Sv E).Ok):X.Ok :=
 ⟨o.mod,o.kind,o.glob,o.blt,o.above,o.inj,o.has,o.Y2,o.hd,o.frames,o.stk,o.exf,o.bs,o.WW,o.UY,o.Vu,o.RV,o.YJ⟩
def Inv.Sv(I:Inv X pins σ H s)(E:Θ->Ξ->Prop):Inv (X.Sv E) pins σ H s:=⟨I.ok.Sv E,I.os,I.bare,I.base,I.loc,I.cell,I.free,I.Q8,I.pin,I.QK,I.len⟩
def Inv.Rj(I:Inv (X.Sv E) pins σ H s):Inv X pins σ H s:=⟨I.ok.Rj,I.os,I.bare,I.base,I.loc,I.cell,I.free,I.Q8,I.pin,I.QK,I.len⟩
def SP.Rj{D:Ends}(h:SP (X.Sv E) pins D f s'):SP X pins D f s':=by
 cases f with
 | next=>let⟨a,H,I,q⟩:=h;exact⟨a,H,I.Rj,q⟩
 | brk=>let⟨a,H,I,q⟩:=h;exact⟨a,H,I.Rj,q⟩
 | cont=>let⟨a,H,I,q⟩:=h;exact⟨a,H,I.Rj,q⟩
 | ret u=>let⟨v,a,H,I,r,q⟩:=h;exact⟨v,a,H,I.Rj,r,q⟩
def AO.nox{st:Γ Ω}(h:AO X.nox st t):AO X st t:=λp s a H D I hw =>
 xB (h p s a H D (I.Sv _) hw) (λ_ _ q=>q.Rj) λ_ _ z=>False.elim z
section
variable {st:Ω}{rest:Γ Ω}
def E1:TS:=λD a H=>D.nx a H
def ON(t u:TS):TS:=λD a H=>t { D with nx:=u D } a H
def Hn:AO X [] E1:=λ_ _ a H _ I h=>vR ⟨a,H,I,h⟩
def D2(c:PS X st t)(d:AO X rest u):AO X (st::rest) (ON t u):=by
 intro p s e H D I h;refine wpAny_execs_cons (bO (c p s e H { D with nx:=u D } I h) λf S q=>?_);cases f with
 | next =>
  let⟨a,b,i,q⟩:=q;exact d p S a b D i q
 | ret v=>exact q
 | brk=>exact q
 | cont=>exact q
def Hm(a:PS X st t):AO X [st] t:=by
 intro p s b H D I h;refine wpAny_execs_cons (bO (a p s b H D I h) λf S q=>?_);cases f with
 | next=>exact vR q
 | ret v=>exact q
 | brk=>exact q
 | cont=>exact q
def Hu:PS X (.Pass pos) E1:=λ_ _ a H _ I h=>wpAny_Pass ⟨a,H,I,h⟩
def Inv.quiet(I:Inv X pins σ H s):interactive X.env=false:=by simp[interactive,I.ok.kind]
def Mj{x j pos pos'}:PS X (.Expr (.Constant (.str x) j pos) pos') E1:=λ_ s a H _ I h=>wpAny_Expr (Calls.Constant_str (show SP X _ _ .next { s with toks:=s.toks+1 } from ⟨a,H,I.tok _,h⟩)) I.quiet
def ND(te:TE):TS:=λD a H=>te a H λ_ b=>D.nx a b
def o9(E:PE X e te)(hs:swapsWith e none pos.line X.env=pure false:=by rfl):PS X (.Expr e pos) (ND te):=by
 intro p s a H D I h;exact wpAny_Expr_any (bO (E p s a H _ I h) λv S z=>by let⟨x,b,i,r,q⟩:=z;exact ⟨a,b,i,q⟩) I.quiet hs
def O5(te:TE):TS:=λD a H=>te a H D.rt
def KY(E:PE X e te):PS X (.Return (↑e) pos) (O5 te):=by
 intro p s a H D I h;exact wpAny_Return_some (bO (E p s a H _ I h) λv S z=>by let⟨x,b,i,r,q⟩:=z;exact ⟨x,a,b,i,r,q⟩)
def Pw(c:TT)(t u:TS):TS:=λD a H=>c a H λb d=>if b=true then t D a d else u D a d
def N3(hc:PT X c U)(A:AO X a t)(B:AO X b u):PS X (.If c a b pos) (Pw U t u):=by
 intro p s e H D I h;refine wpAny_If (bO (hc p s e H _ I h) λd S z=>?_);let⟨f,i,q⟩:=z;cases d with
 | true=>exact A p S e f D i q
 | false=>exact B p S e f D i q
end
abbrev TG:=V->St->Hp->(St->Hp->Prop)->Prop
abbrev NS:=Γ V->St->Hp->(St->Hp->Prop)->Prop
def PG(X:Cx)(T:γ)(t:TG):Prop :=
 ∀ (p:Γ (Ψ×Obj)) (s:Ξ) (c:St) (H:Hp) (v:V) (u:Θ) (Q:St->Hp->Prop),Inv X p c H s->RelV v u->t v c H Q ->
  wpAny (model X.prog X.w) X.A (assign T X.env u) (λ_ S=>∃a b,Inv X p a b S/\Q a b) X.xe s
def Oi(X:Cx)(ts:Γ γ)(t:NS):Prop :=
 ∀ (p:Γ (Ψ×Obj)) (s:Ξ) (c:St) (H:Hp) (v:Γ V) (u:Γ Θ) (Q:St->Hp->Prop),Inv X p c H s->az v u->t v c H Q ->
  wpAny (model X.prog X.w) X.A (assignInOrder ((assignEach ts X.env).map (·.2)) u) (λ_ S=>∃a b,Inv X p a b S/\Q a b) X.xe s
abbrev NR:=V->V->V->Hp->(Hp->Prop)->Prop
def NT(X:Cx)(t:NR):Prop :=
 ∀ (p:Γ (Ψ×Obj)) (s:Ξ) (b:St) (H:Hp) (o i v:V) (O I u:Θ) (Q:Hp->Prop),Inv X p b H s->RelV o O->RelV i I->RelV v u->t o i v H Q ->
  wpAny (model X.prog X.w) X.A (setItem O I u) (λ_ S=>∃a,Inv X p b a S/\Q a) X.xe s
def vp(i:Nat):TG:=λv a H Q=>Q (a.set i (↑v)) H
def fx(n:X.N.Nodup)(hi:X.N[i]?=↑x)(b:Loc X.env.scope x)(f:X.fn x=true\/X.env.scope.names.lookup x=↑.local:=by first|exact .inl rfl|exact .inr rfl|assumption):PG X (.Name x pos) (vp i):=by
 intro p s c H v u Q I r h;exact wpAny_assign_Name (xx I n hi b r (λS a=>⟨_,H,a,h⟩) f)
def OT:NS:=λv a H Q=>v=[]/\Q a H
def Nw(t:TG)(u:NS):NS:=λs c H Q=>∃v r,s=v::r/\t v c H λa b=>u r a b Q
def uN:Oi X [] OT:=by
 intro p s a H v u Q I r h;let⟨e,h⟩:=h;subst e;cases r;exact assignInOrder_nil ⟨a,H,I,h⟩
def fX(b:PG X e t)(c:Oi X es u)
  (hs:(assignEach (e::es) X.env).map (·.2)=assign e X.env::(assignEach es X.env).map (·.2):=by rfl):Oi X (e::es) (Nw t u):=by
 intro p s d H f U Q I r h;let⟨v,V,E,h⟩:=h;subst E;cases r with
 | cons r R =>
  rw[hs];refine assignInOrder_cons (bO (b p s d H _ _ _ I r h) λ_ S z=>?_);let⟨Y,a,i,q⟩:=z;exact c p S Y a _ _ Q i R q
def Pm(K:Φ)(n:Nat)(t:NS):TG:=λv b H Q=>∃a x,v=.ref a/\f9 K H a x/\x.length=n/\t x b H Q
def AH{k:Nat}(hc:X.calm=true)(h:Oi X es t)
  (N:(assignEach es X.env).length=n:=by rfl) (S:(assignEach es X.env).findIdx? (·.1)=none:=by rfl):PG X (.Tuple es k pos) (Pm X.K n t):=by
 intro p s c H v u Q I r hw;let⟨a,g,E,q,l,hw⟩:=hw;subst E;cases r;let⟨f,R,ht,z⟩:=I.tuple q;refine assign_Tuple_tuple (I.ok.hd hc) ht (by simp[N,<- l,R.length]) S λd x=>?_;have i:Inv X p c H { s with heap:=d }:=I.kept (t':=s.toks) λb o e=>x b o (yS (zY e)) e;exact h p _ c H g _ Q i (by simpa using R) hw
def gT(O T:TE)(t:NR):TG:=λv a H Q=>O a H λo b=>T a b λi c=>t o i v c λd=>Q a d
def Ko(j:PE X o to)(hi:PE X i ti)(hs:NT X t)
  (A:∀v,assign (.Subscript o i pos) X.env v=(do
   let O <- holding [v] (eval o X.env)
   let V <- holding [v,O] (eval i X.env)
   standAt pos
   holding [v,O,V] (setItem O V v)
   release [v,O,V] []):=by intro _;rfl):PG X (.Subscript o i pos) (gT to ti t):=by
 intro p s a H v u Q I r h;rw[A];refine zV (xY (bO (j p s a H _ I h) λO S z=>?_));let⟨x,b,e,R,q⟩:=z;refine zV (xY (bO (hi p S a b _ e q) λV n z=>?_));let⟨y,c,f,m,k⟩:=z;refine zV (vF (zV (xY (bO (hs p n a c x y v O V u _ f R m r k) λ_ w z=>?_))));let⟨d,g,l⟩:=z;exact wpAny_release ⟨a,d,g,l⟩
def Ez(te:TE)(g:TG):TS:=λD a H=>te a H λx b=>g x a b D.nx
def Lo(E:PE X e te)(G:PG X tg g)(hs:swapsWithSole [tg] e pos.line X.env=pure false:=by rfl)(hw:swappedStores [tg] e X.env=pure none:=by rfl)
  (c:(assignEach [tg] X.env).map (·.2)=[assign tg X.env]:=by rfl):PS X (.Assign [tg] e pos) (Ez te g):=by
 intro p s a H D I h;refine wpAny_Assign_stores (bO (E p s a H _ I h) λv S z=>?_) hs hw;let⟨x,b,i,r,Q⟩:=z;rw[c];exact bO (G p S a b x v _ i r Q) λ_ d q=>q
def Gn(n:X.N.Nodup)(hi:X.N[i]?=↑x)(d:Loc X.env.scope x)(E:PE X e te)(hs:swapsWith e (↑(.Name x pos')) pos.line X.env=pure false:=by rfl)(f:X.fn x=true\/X.env.scope.names.lookup x=↑.local:=by first|exact .inl rfl|exact .inr rfl|assumption) :
  PS X (.Assign [.Name x pos'] e pos) (Ez te (vp i)):=by
 intro p s g H D I h;refine wpAny_Assign_Name (bO (E p s g H _ I h) λv S z=>?_) hs;let⟨y,a,b,r,q⟩:=z;exact xx b n hi d r (λj c=>⟨_,a,c,q⟩) f
def K3(c:TT)(tb:TS):TS:=λD a H=>∃W:Nat->St->Hp->Prop,(∃m,W m a H)/\∀m a H,W m a H ->
 c a H λb f=>if b=true then ∃N:St->Hp->Prop,(∀d e,N d e->∃M,M < m/\W M d e)/\tb { D with nx:=N,ct:=N,bk:=D.nx } a f else D.nx a f
def Gf(P:PassesOwn (model X.prog X.w) X.A X.env X.xe)(hc:PT X c U)(B:AO X body tb):PS X (.While c body [] pos) (K3 U tb):=by
 intro p s E H D I h;let⟨W,⟨u,z⟩,turn⟩:=h;refine wpAny_While (codeAny_whileLoop (λn S=>∃d j,Inv X p d j S/\W n d j) ?_ u ⟨E,H,I,z⟩);rintro n x ⟨Y,k,t,C⟩;refine jL P (bO (hc p x Y k _ t (turn n Y k C)) λb y z=>?_);let⟨l,o,q⟩:=z;cases b with
 | true =>
  let⟨N,r,q⟩:=q;rw[yM rfl];refine jL P (bO (B p y Y l _ o q) λf F Q=>?_);cases f with
  | next =>
   let⟨V,a,i,e⟩:=Q;let⟨M,m,g⟩:=r V a e;exact⟨M,m,V,a,i,g⟩
  | cont =>
   let⟨V,a,i,e⟩:=Q;let⟨M,m,g⟩:=r V a e;exact⟨M,m,V,a,i,g⟩
  | brk=>exact Q
  | ret v=>exact Q
 | false =>
  rw[yO xA];exact vR ⟨Y,l,o,q⟩
structure It where
 go:Nat->Hp->Prop
 WZ:Nat->Hp->V->Hp->Prop
 stop:Nat->Hp->Prop
def ck(X:Cx)(pins:Γ (Ψ×Obj))(H:Hp)(b:Ψ):Prop :=
 H b=none/\b≠X.env.locals/\b∉X.fs/\(b∈X.ex\/X.Q2.heap.objs.size<=b)/\(∀x c,X.env.cells.lookup x=↑c->c≠b)/\∀p∈X.pn++pins,p.1≠b
def Inv.RD(I:Inv X pins σ H s)(B:s.heap.objs.size<=b)(n:H' b=none):ck X pins H' b:=by
 refine⟨n,jJ (zP I.lt B),I.acu B,.inr (yD I.sz B),λx c e z=>?_,λp P z=>?_⟩
 .let⟨v,q⟩:=I.cell x c e;exact absurd (zP q.lt (by rw[z];exact B)) (qF _)
 .exact absurd (zP (zY (I.pin p P).1) (by rw[z];exact B)) (qF _)
structure Turn(P:Program)(w:World)(K:W.Frag)(tg:Expr)(J:It)(fp:List Addr)(it:Addr)(tn:Nat->Heap->Prop):Prop where
 mem:it∈fp
 obj:∀i h,tn i h->∀b∈fp,∃o,h.get? b=↑o/\∀v,o.data≠.cell v
 keep:∀i h h',tn i h->(∀b∈fp,∀o,h.get? b=↑o->h'.get? b=↑o)->tn i h'
 item:∀ (X:Cx),X.prog=P->X.w=w->X.K=K->X.calm=true->∀ (i:Nat) (pins:Γ (Ψ×Obj)) (s:Ξ) (σ:St) (H:Hp) (E:Θ->Ξ->Prop),Inv X pins σ H s->(∀b∈fp,ck X pins H b)->tn i s.heap->J.go i H ->
  wpAny (model P w) X.A (pyNext (.ref it)) (λr s1=>∃u,r=↑u /\
   wpAny (model P w) X.A (letOwnedTupleGo tg (.ref it) u) (λ_ s2=>∃x H',Inv X pins σ H' s2/\RelV x u/\J.WZ i H x H'/\tn (i+1) s2.heap/\∀b∈fp,H' b=none) E s1) E s
 done:∀ (X:Cx),X.prog=P->X.w=w->X.K=K->X.calm=true->∀ (i:Nat) (pins:Γ (Ψ×Obj)) (s:Ξ) (σ:St) (H:Hp) (E:Θ->Ξ->Prop),Inv X pins σ H s->(∀b∈fp,ck X pins H b)->tn i s.heap->J.stop i H ->
  wpAny (model P w) X.A (pyNext (.ref it)) (λr s1=>r=none/\Inv X pins σ H s1) E s
 self:∀ (A:ξ) (i:Nat) (s:Ξ) (Q:Θ->Ξ->Prop) (E:Θ->Ξ->Prop),tn i s.heap->Q (.ref it) s->wpAny (model P w) A (pyIter (.ref it)) Q E s
abbrev TI:=St->Hp->(It->Hp->Prop)->Prop
def PN(X:Cx)(pins:Γ (Ψ×Obj))(σ:St)(tg:γ)(R:It->Hp->Prop)(i:Θ)(s2:Ξ):Prop :=
 ∃ (t:Ψ) (f:Γ Ψ) (n:Nat->ι->Prop) (J:It) (H:Hp),i=.ref t/\Inv X pins σ H s2/\Turn X.prog X.w X.K tg J f t n/\n 0 s2.heap/\(∀b∈f,ck X pins H b)/\R J H
def PI(X:Cx)(tg iter:γ)(wi:TI):Prop :=
 ∀ (p:Γ (Ψ×Obj)) (s:Ξ) (a:St) (H:Hp) (R:It->Hp->Prop),Inv X p a H s->wi a H R ->
  wpAny (model X.prog X.w) X.A (eval iter X.env) (λv S=>wpAny (model X.prog X.w) X.A (pyIter v) (PN X p a tg R) X.xe S) X.xe s
def D9(O:s.heap.get? it=↑o)(hc:o.cls=.type n)(d:o.data=.fields vs)
  (N:["enumerate","zip","dict_itemiterator","dict_reverseitemiterator","odict_iterator","itertools.zip_longest","itertools.pairwise"].contains n=false) (H:Q () s):wpAny M A (letOwnedTupleGo tg (.ref it) u) Q E s:=by
 unfold letOwnedTupleGo;cases tg<;>first
  | exact zW H
  | (cases u<;>first
    | exact zW H
    | (refine zV (wpAny_load O ?_)
       rw[hc,d];show wpAny M A (if (["enumerate","zip","dict_itemiterator","dict_reverseitemiterator","odict_iterator","itertools.zip_longest","itertools.pairwise"].contains n&&vs[0]? == some (rawInt _))=true then _ else _) Q E s;rw[yO (by intro h;rw[N,wC] at h;cases h)];exact zW H))
def OK(K:Φ)(a:Ψ):It :=
 ⟨λi H=>∃s x,iw K H a s/\s[i]?=↑x,λi H x b=>b=H/\∀s,iw K H a s->s[i]?=↑x,λi H=>∃s,iw K H a s/\s.length<=i⟩
def Ph(K:Φ)(a:Ψ):It :=
 ⟨λi H=>∃s x,f9 K H a s/\s[i]?=↑x,λi H x b=>b=H/\∀s,f9 K H a s->s[i]?=↑x,λi H=>∃s,f9 K H a s/\s.length<=i⟩
def Om(lo:Int)(n:Nat):It:=⟨λi _=>i < n,λi H x a=>a=H/\x=.int (lo+i),λi _=>n<=i⟩
def Dc{K:Φ}(a T:Ψ):Turn P w K tg (OK K a) [T] T (λi h=>h.IsListIter T a i) where
 mem:=by simp
 obj:=λi h t b B=>by
  have e:b=T:=by simpa using B
  subst e;let⟨o,e,c,d⟩:=t;exact⟨o,e,λv z=>by rw[d] at z;cases z⟩
 keep:=λi h f t k=>t.at λo e=>k T (by simp) o e
 item:=by
  intro X y hw r hc i S s D H E I F t G;subst y hw r;let⟨V,x,q,A⟩:=G;let⟨C,R,p,Z⟩:=I.list q;let⟨u,U,N⟩:=R.get A;let⟨g,j,M,l,m,n⟩:=F T (by simp);refine wpAny_pyNext_list_item t p.isList (x:=u) (by simpa using U) λf Q O=>?_;have J:Inv X S D H { s with heap:=f }:=I.turned (t':=s.toks) (λb o B e=>(O.2 b B).trans e) g j l m n;let⟨o,e,c,d⟩:=id Q;exact⟨u,rfl,D9 (s:={ s with heap:=f }) e c d (by decide) ⟨x,H,J,N,⟨rfl,λys Y=>by rw[I.Td Y q];exact A⟩,Q,λb B=>(F b B).1⟩⟩
 done:=by
  intro X y hw r hc i S s D H E I F t G;subst y hw r;let⟨V,q,A⟩:=G;let⟨C,R,p,Z⟩:=I.list q;let⟨g,j,M,l,m,n⟩:=F T (by simp);have hl:=R.length;exact wpAny_pyNext_list_end (I.ok.hd hc) t p.isList (by simp;lia) λf L=>⟨rfl,I.turned (t':=s.toks) (λb o B e=>L b o B e) g j l m n⟩
 self:=λ_ _ _ _ _ t h=>wpAny_pyIter_listiter t h
def AN{K:Φ}(a T:Ψ):Turn P w K tg (Ph K a) [T] T (λi h=>h.IsTupleIter T a i) where
 mem:=by simp
 obj:=λi h t b B=>by
  have e:b=T:=by simpa using B
  subst e;let⟨o,e,c,d⟩:=t;exact⟨o,e,λv z=>by rw[d] at z;cases z⟩
 keep:=λi h g t k=>t.at λo e=>k T (by simp) o e
 item:=by
  intro X A hw y hc i S s D H E I F t G;subst A hw y;let⟨V,x,q,C⟩:=G;let⟨f,R,p,Z⟩:=I.tuple q;let⟨u,U,N⟩:=R.get C;let⟨j,l,M,m,n,r⟩:=F T (by simp);refine wpAny_pyNext_tuple_item t (show s.heap.IsTuple a f.toArray from p) (x:=u) (by simpa using U) λg Q O=>?_;have J:Inv X S D H { s with heap:=g }:=I.turned (t':=s.toks) (λb o B e=>(O.2 b B).trans e) j l m n r;let⟨o,e,c,d⟩:=id Q;exact⟨u,rfl,D9 (s:={ s with heap:=g }) e c d (by decide) ⟨x,H,J,N,⟨rfl,λys Y=>by rw[I.SG Y q];exact C⟩,Q,λb B=>(F b B).1⟩⟩
 done:=by
  intro X A hw y hc i S s D H E I F t G;subst A hw y;let⟨V,q,C⟩:=G;let⟨f,R,p,Z⟩:=I.tuple q;let⟨j,l,M,m,n,r⟩:=F T (by simp);have hl:=R.length;exact wpAny_pyNext_tuple_end (I.ok.hd hc) t (show s.heap.IsTuple a f.toArray from p) (by simp;lia) λg L=>⟨rfl,I.turned (t':=s.toks) (λb o B e=>L b o B e) j l m n r⟩
 self:=λ_ _ _ _ _ t h=>wpAny_pyIter_tupleiter t h
def Ak{K:Φ}(T:Ψ)(lo:Int)(n:Nat):Turn P w K tg (Om lo n) [T] T (λi h=>IsRangeIter h T (lo+(i:Nat) * 1) ((n:Int) - (i:Nat)) 1) where
 mem:=by simp
 obj:=λi h S b B=>by
  have e:b=T:=by simpa using B
  subst e;exact⟨_,S,λv z=>by
   have Z:Data.fields _=Data.cell v:=z;cases Z⟩
 keep:=λi h a S k=>k T (by simp) _ S
 item:=by
  intro X m hw l hc i p s r H E I f S G;subst m hw l;let⟨F,c,y,d,g,j⟩:=f T (by simp);have W:=Walks.range (prog:=X.prog) (w:=X.w) (I.ok.hd hc) T lo 1 n;refine W.item i s _ _ G S λv a q V Q A=>?_;let⟨t,rfl⟩:=V;have u:Inv X p r H { s with heap:=a,toks:=q }:=I.turned (λb o B e=>A b o (by simpa using B) e) F c d g j;refine⟨_,rfl,D9 (s:={ s with heap:=a,toks:=q }) (n:="range_iterator") Q rfl rfl (by decide) ⟨.int (lo+i),H,u,⟨t,?_⟩,⟨rfl,rfl⟩,Q,λb B=>(f b B).1⟩⟩;rw[Int.mul_one]
 done:=by
  intro X m hw l hc i p s r H E I f S G;subst m hw l;let⟨F,c,y,d,g,j⟩:=f T (by simp);exact wpAny_pyNext_range_end (I.ok.hd hc) S (by have:n<=i:=G;lia) λa x=>⟨rfl,I.turned (t':=s.toks) (λb o B e=>x b o B e) F c d g j⟩
 self:=λ_ _ _ _ _ S h=>wpAny_pyIter_rangeiter S h
def D3{lo:Int}{t u v:Tok}{k:Nat}(I:Inv X pins σ H s)(d:-(2 ^ 62)<=lo)(f:lo < 2 ^ 62)(g:-(2 ^ 62)<=hi)(h4:hi < 2 ^ 62)
  (q:R (Om lo (hi - lo).toNat) H):wpAny (model X.prog X.w) X.A (pyIter (.ref s.heap.objs.size)) (PN X pins σ tg R) E { s with heap:=s.heap.push { cls:=.type "range",data:=.fields #[.int lo t,.int hi u,.int 1 v] },toks:=k }:=by
 refine wpAny_pyIter_range (IsRange.new ..) (small_one d f g h4) ?_;have i:Inv X pins σ H { s with heap:=s.heap.push { cls:=.type "range",data:=.fields #[.int lo t,.int hi u,.int 1 v] },toks:=k }:=I.kept λb o e=>zU _ e;refine⟨(s.heap.push { cls:=.type "range",data:=.fields #[.int lo t,.int hi u,.int 1 v] }).objs.size,[(s.heap.push { cls:=.type "range",data:=.fields #[.int lo t,.int hi u,.int 1 v] }).objs.size],_,_,H,rfl,
  i.kept (t':=k) λb o e=>zU _ e,Ak _ lo (hi - lo).toNat,?_,λb B=>?_,q⟩
 .have a:lo+((0:Nat):Int) * 1=lo:=by simp
  have c:(((hi - lo).toNat:Nat):Int) - ((0:Nat):Int)=Builtin.Range.rangeSize lo hi 1:=by rw[rangeSize_one];split<;>lia
  show IsRangeIter _ _ (lo+((0:Nat):Int) * 1) ((((hi - lo).toNat:Nat):Int) - ((0:Nat):Int)) 1;rw[a,c];exact zX _ rfl
 .have e:b=(s.heap.push { cls:=.type "range",data:=.fields #[.int lo t,.int hi u,.int 1 v] }).objs.size:=by simpa using B
  subst e;exact i.RD (yN _) (i.QK.fresh (yN _))
def M0(ta:TA):TI:=λb H R=>ta b H λv a=>∃j:Int,v=[.int j]/\-(2 ^ 62)<=j/\j < 2 ^ 62/\R (Om 0 j.toNat) a
def DB(g:Gl X "range")(m:X.mg "range"=none)(A:PA X [a] ta)(hs:starEach [a] X.env=[(false,eval a X.env)]:=by rfl):PI X tg (.Call (.Name "range" p) [a] [] pos) (M0 ta):=by
 intro P s f H R I h;refine Call_ (dJ I g m boot_range (qT (bO (A pos P s f H _ I h) λu S z=>?_) hs rfl));let⟨v,k,i,c,Q⟩:=z;let⟨j,e,Q,b,q⟩:=Q;subst e;cases c with
 | cons r d =>
  cases d;let⟨t,rfl⟩:=r;exact call_range_1 (D3 i (by lia) (by lia) Q b (by simpa using q))
def Pr(wi:TI)(g:TG)(tb:TS):TS:=λD a H=>wi a H λJ d=>∃W:Nat->Nat->St->Hp->Prop,(∃m,W 0 m a d)/\∀i m a H,W i m a H ->
 (J.stop i H/\D.nx a H)\/(J.go i H/\∃N:St->Hp->Prop,(∀c b,N c b->∃M,M < m/\W (i+1) M c b)/\∀x b,J.WZ i H x b->g x a b λU e=>tb { D with nx:=N,ct:=N,bk:=D.nx } U e)
def oa(fp:Γ Ψ)(h:ι):Γ (Ψ×Obj):=fp.filterMap λb=>(h.get? b).map λo=>(b,o)
def cQ(H:b∈fp)(e:h.get? b=↑o):(b,o)∈oa fp h:=List.mem_filterMap.mpr ⟨b,H,by rw[e];rfl⟩
def C5(P:p∈oa fp h):p.1∈fp/\h.get? p.1=↑p.2:=by
 let⟨b,H,e⟩:=List.mem_filterMap.mp P;cases q:h.get? b with
 | none=>rw[q] at e;cases e
 | some o =>
  rw[q] at e;have E:(b,o)=p:=xE e;subst E;exact⟨H,q⟩
def Inv.pinned(I:Inv X pins σ H s)(c:∀b∈fp,ck X pins H b)(O:∀b∈fp,∃o,s.heap.get? b=↑o/\∀v,o.data≠.cell v):Inv X (pins++oa fp s.heap) σ H s :=
 I.UG λp P=>(List.mem_append.mp P).elim (λz=>I.pin p (yE _ z)) λz=>by
  let⟨B,e⟩:=C5 z;let⟨f,F,a,_⟩:=c p.1 B;let⟨o,E,d⟩:=O p.1 B;rw[e] at E;cases E;exact⟨e,f,F,a,d⟩
def Inv.QZ(I:Inv X (pins++pl) σ H s):Inv X pins σ H s:=I.UG λp P=>I.pin p (yE _ (qK _ P))
def LB{pos:Pos}(P:PassesOwn (model X.prog X.w) X.A X.env X.xe)(hc:X.calm=true)(hi:PI X tg iter wi)(hg:PG X tg g)(B:AO X body tb)
  (hs:∀x,foldedSetIterable iter X.env x=pure x:=by intro _;rfl):PS X (.For tg iter body [] pos) (Pr wi g tb):=by
 intro p s σ H D I h;refine wpAny_For (bO (hi p s σ H _ I h) λv s1 h1=>bO h1 λitv s2 h2=>?_) hs;let⟨it,F,tn,J,H2,e,I2,T,RE,Z,W,⟨m0,w0⟩,turn⟩:=h2;subst e;have O:∀ {l:Hp},(∀b∈F,l b=none)->∀b∈F,ck X p l b:=λhn b B=>⟨hn b B,(Z b B).2⟩
 refine codeAny_forLoop_any (λn s'=>∃i k l,Inv X p k l s'/\tn i s'.heap/\(∀b∈F,l b=none)/\W i n k l) ?_ m0 ⟨0,σ,H2,I2,RE,λb B=>(Z b B).1,w0⟩;rintro n s3 ⟨i,t,C,Q,U,y,w3⟩;rcases turn i n t C w3 with ⟨S,qn⟩|⟨go,N,hN,step⟩
 .refine jL P (bO (T.done X rfl rfl rfl hc i p s3 t C X.xe Q (O y) U S) λr s4 z=>?_);let⟨R,I4⟩:=z;subst R;exact vR ⟨t,C,I4,qn⟩
 .refine jL P (bO (T.item X rfl rfl rfl hc i p s3 t C X.xe Q (O y) U go) λr s4 z=>?_);let⟨u,R,h4⟩:=z;subst R;refine jL P (bO h4 λ_ s5 z=>?_);let⟨x,M,I5,r5,y5,Y,G⟩:=z;have E:=I5.pinned (O G) (T.obj _ _ Y);refine jL P (bO (hg _ s5 t M x u _ E r5 (step x M y5)) λ_ s6 z=>?_);let⟨L,H6,I6,q6⟩:=z;refine jL P (bO (B _ s6 L H6 _ I6 q6) λf K q=>?_);have j:∀ {V:St}{a:Hp},Inv X (p++oa F s5.heap) V a K->N V a->∃m,m < n/\∃i k l,Inv X p k l K/\tn i K.heap/\(∀b∈F,l b=none)/\W i m k l:=λ{V a} c z=>by
   let⟨m',hm,w7⟩:=hN V a z;refine⟨m',hm,i+1,V,a,c.QZ,T.keep _ _ _ Y λb B o e=>(c.pin (b,o) (yE _ (yE _ (cQ B e)))).1,λb B=>?_,w7⟩;let⟨o,e,d⟩:=T.obj _ _ Y b B;exact (c.pin (b,o) (yE _ (yE _ (cQ B e)))).2.1
  cases f with
  | next=>let⟨V,a,c,z⟩:=q;exact j c z
  | cont=>let⟨V,a,c,z⟩:=q;exact j c z
  | brk=>let⟨V,a,c,q⟩:=q;exact⟨V,a,c.QZ,q⟩
  | ret v=>let⟨x7,V,a,c,r7,q⟩:=q;exact⟨x7,V,a,c.QZ,r7,q⟩
abbrev R2:=V->V->Hp->VK->Prop
def gY(X:Cx)(f:Θ->Θ->Sem Θ)(r:R2):Prop :=
 ∀ (p:Γ (Ψ×Obj)) (s:Ξ) (a:St) (H:Hp) (x y:V) (v u:Θ) (Q:VK),Inv X p a H s->RelV x v->RelV y u->r x y H Q ->
  wpAny (model X.prog X.w) X.A (f v u) (EP X p a Q) X.xe s
def PD(X:Cx)(f:Θ->Sem Θ)(r:V->Hp->VK->Prop):Prop :=
 ∀ (p:Γ (Ψ×Obj)) (s:Ξ) (a:St) (H:Hp) (x:V) (v:Θ) (Q:VK),Inv X p a H s->RelV x v->r x H Q ->
  wpAny (model X.prog X.w) X.A (f v) (EP X p a Q) X.xe s
def fJ(X:Cx)(f:Θ)(r:Γ V->Hp->VK->Prop):Prop :=
 ∀ (p:Γ (Ψ×Obj)) (s:Ξ) (a:St) (H:Hp) (x:Γ V) (u:Γ Θ) (Q:VK),Inv X p a H s->az x u->r x H Q ->
  wpAny (model X.prog X.w) X.A (call f u) (EP X p a Q) X.xe s
def Na(r:R2)(ta tb:TE):TE:=λa H Q=>ta a H λx b=>tb a b λy c=>r x y c Q
def Qx(r:V->Hp->VK->Prop)(ta:TE):TE:=λb H Q=>ta b H λx a=>r x a Q
def rI(C:Int->Int->Prop)(g:Int->Int->V):R2:=λx y H Q=>∃i j,x=.int i/\y=.int j/\C i j/\Q (g i j) H
def Hc(g:Int->Int->V):R2:=λx y H Q=>∃i j,x=.int i/\y=.int j/\Q (g i j) H
def rU(g:Int->V):V->Hp->VK->Prop:=λx H Q=>∃i,x=.int i/\Q (g i) H
def Mm(g:PE X a ta)(B:PE X b tb){pins:Γ (Ψ×Obj)}{σ:St}{R:V->V->Hp->Prop}(I:Inv X pins σ H s)
  (h:ta σ H λx d=>tb σ d λy c=>R x y c) {Q:Θ->Ξ->Prop}{f:Θ->Θ->Sem Θ}
  (F:∀v u s2 x y c,Inv X pins σ c s2->RelV x v->RelV y u->R x y c->wpAny (model X.prog X.w) X.A (f v u) Q X.xe s2) :
  wpAny (model X.prog X.w) X.A (eval a X.env) (λv J=>wpAny (model X.prog X.w) X.A (eval b X.env) (λu W=>wpAny (model X.prog X.w) X.A (f v u) Q X.xe W) X.xe J) X.xe s:=by
 refine bO (g pins s σ H _ I h) λv S z=>?_;let⟨x,d,i,r,q⟩:=z;refine bO (B pins S σ d _ i q) λu s2 z=>?_;let⟨y,c,e,k,j⟩:=z;exact F v u s2 x y c e r k j
def MK(o:gY X (binaryOp op) r)(A:PE X a ta)(B:PE X b tb):PE X (.BinOp a op b pos) (Na r ta tb):=by
 intro p s d H Q I h;exact wpAny_BinOp (Mm A B I h λv u S x y c i R Y q=>o p S d c x y v u Q i R Y q)
def F6(o:PD X (unaryOp op) r)(A:PE X a ta):PE X (.UnaryOp op a pos) (Qx r ta):=by
 intro p s b H Q I h;exact UnaryOp_ (bO (A p s b H _ I h) λv S z=>by let⟨x,c,i,R,q⟩:=z;exact o p S b c x v Q i R q)
def Pi{f:Θ->Θ->Sem Θ}{C:Int->Int->Prop}{g:Int->Int->Int}
  (r:∀ (i j:Int) (t u:Tok) (s:Ξ) (Q:Θ->Ξ->Prop) (E:Θ->Ξ->Prop),C i j->Q (.int (g i j) s.toks) { s with toks:=s.toks+1 }->wpAny (model X.prog X.w) X.A (f (.int i t) (.int j u)) Q E s) :
  gY X f (rI C λi j=>.int (g i j)):=by
 intro p s a H x y v u Q I R Y h;let⟨i,j,rfl,rfl,hc,q⟩:=h;let⟨t,rfl⟩:=R;let⟨T,rfl⟩:=Y;exact r i j t T s _ _ hc ⟨.int (g i j),H,I.tok _,⟨_,rfl⟩,q⟩
def Nz{f:Θ->Θ->Sem Θ}{g:Int->Int->Int}
  (r:∀ (i j:Int) (t u:Tok) (s:Ξ) (Q:Θ->Ξ->Prop) (E:Θ->Ξ->Prop),Q (.int (g i j) s.toks) { s with toks:=s.toks+1 }->wpAny (model X.prog X.w) X.A (f (.int i t) (.int j u)) Q E s) :
  gY X f (Hc λi j=>.int (g i j)):=by
 intro p s a H x y v u Q I R Y h;let⟨i,j,rfl,rfl,q⟩:=h;let⟨t,rfl⟩:=R;let⟨T,rfl⟩:=Y;exact r i j t T s _ _ ⟨.int (g i j),H,I.tok _,⟨_,rfl⟩,q⟩
def MA{f:Θ->Θ->Sem Θ}{g:Int->Int->θ}
  (r:∀ (i j:Int) (t u:Tok) (s:Ξ) (Q:Θ->Ξ->Prop) (E:Θ->Ξ->Prop),Q (.bool (g i j)) s->wpAny (model X.prog X.w) X.A (f (.int i t) (.int j u)) Q E s) :
  gY X f (Hc λi j=>.bl (g i j)):=by
 intro p s a H x y v u Q I R Y h;let⟨i,j,rfl,rfl,q⟩:=h;let⟨t,rfl⟩:=R;let⟨T,rfl⟩:=Y;exact r i j t T s _ _ ⟨.bl (g i j),H,I,rfl,q⟩
def Hx(i j:Int):Prop:=0 < j/\j < 1073741824
def rS(i j:Int):Prop:=(-(2 ^ 64) < i/\i < 2 ^ 64)\/(-(2 ^ 64) < j/\j < 2 ^ 64)
def rS.ok(h:rS i j):IntMulOk i j:=by
 rcases h with ⟨H,a⟩|⟨H,a⟩
 .exact .of_left (intBits_le_64 H a)
 .exact .of_right (intBits_le_64 H a)
def LA:gY X (binaryOp .Add) (Hc λi j=>.int (i+j)):=Nz λ_ _ _ _ _ _ _ q=>add_int q
def KA:gY X (binaryOp .Sub) (Hc λi j=>.int (i - j)):=Nz λ_ _ _ _ _ _ _ q=>sub_int q
def Ku:gY X (binaryOp .Mult) (rI rS λi j=>.int (i * j)):=Pi λ_ _ _ _ _ _ _ hc q=>mul_int q hc.ok
def Jp:gY X (binaryOp .FloorDiv) (rI Hx λi j=>.int (i / j)):=Pi λi j _ _ _ _ _ hc q=>by
 have H:(0:Int) < j:=hc.1;have a:j < 1073741824:=hc.2;exact floordiv_int (by lia) (by rw[Int.fdiv_eq_ediv_of_nonneg i (by lia)];exact q) (.inl (PyProof.noPylong_small (by lia)))
def KI:gY X (binaryOp .Mod) (rI (λ_ j=>0 < j) λi j=>.int (i % j)):=Pi λi j _ _ _ _ _ hc q=>by
 have H:(0:Int) < j:=hc;exact mod_int' (by lia) (by rw[Int.fmod_eq_emod_of_nonneg i (by lia)];exact q)
def P7{f:Θ->Sem Θ}{g:Int->Int}
  (r:∀ (i:Int) (t:Tok) (s:Ξ) (Q:Θ->Ξ->Prop) (E:Θ->Ξ->Prop),Q (.int (g i) s.toks) { s with toks:=s.toks+1 }->wpAny (model X.prog X.w) X.A (f (.int i t)) Q E s) :
  PD X f (rU λi=>.int (g i)):=by
 intro p s a H x v Q I R h;let⟨i,rfl,q⟩:=h;let⟨t,rfl⟩:=R;exact r i t s _ _ ⟨.int (g i),H,I.tok _,⟨_,rfl⟩,q⟩
def Ai:PD X (unaryOp .USub) (rU λi=>.int (-i)):=P7 λ_ _ _ _ _ q=>neg_int q
def EN(I:Inv X pins σ H s)(q:Q (.bl k) H)(e:k=U):EP X pins σ Q (.bool U) s:=by
 subst e;exact⟨.bl k,H,I,rfl,q⟩
def F9:gY X (compareOp .Lt) (Hc λi j=>.bl (decide (i < j))):=MA λ_ _ _ _ _ _ _ q=>lt_int q
def DR:gY X (compareOp .LtE) (Hc λi j=>.bl (decide (i<=j))):=MA λ_ _ _ _ _ _ _ q=>le_int q
def JR:gY X (compareOp .Gt) (Hc λi j=>.bl (decide (j < i))):=MA λ_ _ _ _ _ _ _ q=>gt_int q
def DQ:gY X (compareOp .Is) (λx y H Q=>y=.QB/\Q (.bl (decide (x=.QB))) H):=by
 intro p s a H x y v u Q I r R h;let⟨rfl,q⟩:=h;cases R;refine is_none_gen (EN I q ?_);cases x<;>first
  | (cases r;rfl)
  | (let⟨t,rfl⟩:=r;rfl)
def BC:gY X (compareOp .IsNot) (λx y H Q=>y=.QB/\Q (.bl (!decide (x=.QB))) H):=by
 intro p s a H x y v u Q I r R h;let⟨rfl,q⟩:=h;cases R;refine isnot_none_gen (EN I q ?_);cases x<;>first
  | (cases r;rfl)
  | (let⟨t,rfl⟩:=r;rfl)
def gY.or(h:gY X f r)(h':gY X f U):gY X f (λx y H Q=>r x y H Q\/U x y H Q):=by
 intro p s a H x y v u Q I R Y q;rcases q with q|q
 .exact h p s a H x y v u Q I R Y q
 .exact h' p s a H x y v u Q I R Y q
def dv(b:γ)(h:op≠.In:=by decide)(H:op≠.NotIn:=by decide):behindInMarks op b=false:=by
 have e:(op == CmpOp.In)=false:=by cases op<;>first|rfl|exact absurd rfl h
 have E:(op == CmpOp.NotIn)=false:=by cases op<;>first|rfl|exact absurd rfl H
 cases b<;>simp[behindInMarks,e,E]
def IZ(o:gY X (compareOp op) r)(A:PE X a ta)(B:PE X b tb)(m:behindInMarks op b=false):PE X (.Compare a [op] [b] pos) (Na r ta tb):=by
 intro p s d H Q I h;exact wpAny_Compare1 (Mm A B I h λv u S x y c i R Y q=>o p S d c x y v u Q i R Y q) m
def JX(t:TE):TT:=λb H Q=>t b H λx a=>∃k,x=.bl k/\Q k a
def HS(o:gY X (compareOp op) r)(A:PE X a ta)(B:PE X b tb)(M:behindInMarks op b=false):PT X (.Compare a [op] [b] pos) (JX (Na r ta tb)):=by
 intro p s d H Q I h;refine wpAny_isTrue_Compare1 (bO (A p s d H _ I h) λv S ⟨x,f,j,R,q⟩=>bO (B p S d f _ j q) λu D ⟨y,g,l,w,n⟩ =>
  bO (o p D d g x y v u _ l R w n) λc E ⟨z,i,m,C,k,e,t⟩=>?_) M
 subst e;cases C;exact xX ⟨i,m,t⟩
def zz(r R:R2)(ta tb t:TE):TE:=λa H Q=>ta a H λx c=>tb a c λy d=>r x y d λz b=>∃k,z=.bl k /\
 (if k=true then t a b λw e=>R y w e Q else Q (.bl false) b)
def FD(O:gY X (compareOp op) r)(W:gY X (compareOp U) r')(A:PE X a ta)(B:PE X b tb)(hc:PE X c tc)
  (M:lastMarks [op,U] [b,c]=false:=by with_unfolding_all rfl):PE X (.Compare a [op,U] [b,c] pos) (zz r r' ta tb tc):=by
 intro p s f H Q I h;refine Compare_chain (bO (A p s f H _ I h) λv S ⟨x,j,n,E,w⟩=>chain_link (bO (B p S f j _ n w) λu J ⟨y,l,o,R,C⟩ =>
  bO (O p J f l x y v u _ o E R C) λd K ⟨z,g,i,F,k,e,q⟩=>?_)) M
 subst e;cases F;refine xX ?_;cases k with
 | false=>exact ite_ff ⟨.bl false,g,i,rfl,q⟩
 | true=>exact ite_tt (chain_last (bO (hc p K f g _ i q) λN L z=>by let⟨Z,m,t,G,D⟩:=z;exact W p L f m y Z u N Q t R G D))
def FQ(O:gY X (compareOp op) r)(W:gY X (compareOp U) r')(C:PE X a ta)(D:PE X b tb)(hc:PE X c tc)
  (M:lastMarks [op,U] [b,c]=false:=by with_unfolding_all rfl):PT X (.Compare a [op,U] [b,c] pos) (JX (zz r r' ta tb tc)):=by
 intro p s f H Q I h;refine isTrue_chain (bO (C p s f H _ I h) λv V ⟨x,j,o,N,G⟩=>test_link (bO (D p V f j _ o G) λu Y ⟨y,l,t,R,J⟩ =>
  bO (O p Y f l x y v u _ t N R J) λd Z ⟨z,g,i,P,k,e,q⟩=>?_)) M
 subst e;cases P;refine xX ?_;cases k with
 | false =>
  let⟨k',E,F⟩:=q;cases E;exact ite_ff ⟨g,i,F⟩
 | true =>
  refine ite_tt (test_last (bO (hc p Z f g _ i q) λw' s4 ⟨z',m,w,S,K⟩=>bO (W p s4 f m y z' u w' _ w R S K) λd' s5 z=>?_));let⟨z2,n,A,T,k2,B,L⟩:=z;subst B;cases T;exact xX ⟨n,A,L⟩
def p9:(sizeLine:Nat) < 2 ^ 63:=by rw[qV];decide
def vals1(r:az [x] us):∃u,us=[u]/\RelV x u:=by
 cases r with
 | cons R a=>cases a;exact⟨_,rfl,R⟩
def vals2(r:az [x,y] us):∃u w,us=[u,w]/\RelV x u/\RelV y w:=by
 cases r with
 | cons R a =>
  cases a with
  | cons b c=>cases c;exact⟨_,_,rfl,R,b⟩
section
variable {K:Φ}
end
structure dF(k:Nat)(A:Around):Prop where
 hd:A.handled=none
 dp:A.depth+3 * k+5 < recursionLimit
 un:A.units+16 * k+200 < cLine
def dF.mono(r:dF k A)(h:j<=k):dF j A:=⟨r.hd,by have:=r.dp;lia,by have:=r.un;lia⟩
def dF.deeper(r:dF (k+1) A)(env:Env):dF k (A.deeper env) :=
 ⟨r.hd,by have:=r.dp;show A.depth+1+3 * k+5 < _;lia,by have:=r.un;show A.units+3+16 * k+200 < _;lia⟩
def dF.in1(r:dF (k+1) A):dF k A.in1 :=
 ⟨r.hd,by have:=r.dp;show A.depth+3 * k+5 < _;lia,by have:=r.un;show A.units+1+16 * k+200 < _;lia⟩
def dF.depth(r:dF k A):A.depth < recursionLimit:=by have:=r.dp;lia
def dF.units(r:dF k A):A.units+64 < cLine:=by have:=r.un;lia
def Np:TA:=λ_ H Q=>Q [] H
def Nm(ta:TE)(t:TA):TA:=λa H Q=>ta a H λx b=>t a b λs c=>Q (x::s) c
def iR:PA X [] Np:=λ_ _ _ _ H Q I h=>kL ⟨[],H,I,.nil,h⟩
def dg(A:PE X e te)(r:PA X es t)(hs:starEach (e::es) X.env=(false,eval e X.env)::starEach es X.env:=by rfl):PA X (e::es) (Nm te t):=by
 intro P p s a H Q I h;rw[hs];show wpAny _ _ (spliced ((false,eval e X.env)::backTo P (starEach es X.env))) _ _ s;refine jK (bO (A p s a H _ I h) λu S z=>?_);let⟨x,b,i,R,q⟩:=z;exact bO (r P p S a b _ i q) λU k z=>by let⟨j,c,d,g,f⟩:=z;exact ⟨x::j,c,d,.cons R g,f⟩
def O6(t:TA):TE:=λb H Q=>t b H λx a=>x.length<=sizeLine/\∀p,a p=none->Q (.ref p) (upd a p (.tup x))
def OH(t:TA):TE:=λb H Q=>t b H λx a=>x.length<=sizeLine/\∀p,a p=none->Q (.ref p) (upd a p (.lst x))
def KP{x1}(h:PA X es t):PE X (.Tuple es x1 pos) (O6 t):=by
 intro p s d H Q I c;refine wpAny_Tuple_spliced (bO (h pos p s d H _ I c) λU S ⟨x,a,i,r,z,q⟩=>⟨by rw[<- r.length];exact z,?_⟩);have f:a S.heap.objs.size=none:=i.QK.fresh (yN _);refine⟨.ref S.heap.objs.size,upd a S.heap.objs.size (.tup x),i.laid (t':=S.toks) (λb u e=>zU _ e) (yN _) ?_,rfl,q _ f⟩;exact⟨z,U,r,⟨_,zX _ rfl,rfl,_,rfl⟩,_,zX _ rfl,rfl⟩
def Mp(h:PA X es t):PE X (.List es pos) (OH t):=by
 intro p s d H Q I c;refine wpAny_List_spliced (bO (h pos p s d H _ I c) λU S ⟨x,a,i,r,z,q⟩=>⟨by rw[<- r.length];exact z,?_⟩);have f:a S.heap.objs.size=none:=i.QK.fresh (yN _);refine⟨.ref S.heap.objs.size,upd a S.heap.objs.size (.lst x),i.laid (t':=S.toks) (λb u e=>zU _ e) (yN _) ?_,rfl,q _ f⟩;exact⟨z,U,0,r,zX _ rfl⟩
abbrev Sp:=Γ V->Hp->VK->XK->Prop
abbrev JE:=Γ Env->Hp->Ξ->XK->Θ->Ξ->Prop
structure HQ(P:Program)(w:World)(K:W.Frag)(mg:Str->Option Value)(base:Heap)(A:Around)(outer:List Env)(s:Shared)(H:Hp):Prop where
 frames:A.frames=↑outer
 mod:Mod K mg base
 bs:∀b o,base.get? b=↑o->s.heap.get? b=↑o/\H b=none
 WW:base.objs.size<=s.heap.objs.size
 RV:s.heap.FunFrames base outer
 YJ:∀b∈ED outer,H b=none
 QK:o7 P w H s.heap
 bare:AllBare s.gens
def CE(o:Γ Env)(P:ε)(w:δ)(H:Hp)(s:Ξ)(Q:VK)(u:Θ)(s':Ξ):Prop :=
 ∃v a,s'.os=s.os/\AllBare s'.gens/\Un (ED o) [] H a s.heap s'.heap/\o7 P w a s'.heap/\RelV v u/\Q v a
def CR(CX:JE)(o:Γ Env)(P:ε)(w:δ)(H:Hp)(s:Ξ)(Q:VK)(E:XK)(r:Result)(s':Ξ):Prop :=
 match r with
 | .ok (.ret u)=>CE o P w H s Q u s'
 | .ok _=>False
 | .error e=>CX o H s E e s'
structure oV(P:Program)(w:World)(K:W.Frag)(mg:Str->Option Value)(base:Heap)(CX:JE)(k:Nat)(f:Addr)(fd:FuncData)(ps:List Str)(sp:Sp):Prop where
 len:∀vs H Q E,sp vs H Q E->vs.length=ps.length
 run:∀ (A:ξ) (outer:Γ Env) (s:Ξ) (H:Hp) (args:Args) (us:Γ Θ) (vs:Γ V) (Q:VK) (E:XK),dF k A->HQ P w K mg base A outer s H->BindsTo s fd args (ps.zip us)->az vs us->sp vs H Q E ->
  codeAny (model P w) A (.call (.ref f) args) (CR CX outer P w H s Q E) s
def oV.mono{K:Φ}(F:oV P w K mg base CX j f fd ps sp)(h:j<=k) :
  oV P w K mg base CX k f fd ps sp:=⟨F.len,λA o s H a u v Q E r=>F.run A o s H a u v Q E (r.mono h)⟩
def Inv.acz(I:Inv X pins σ H s):HQ X.prog X.w X.K X.mg X.base X.A X.stack s H :=
 ⟨I.ok.frames,I.ok.mod,I.bs,yD I.ok.WW I.sz,I.stack,I.S5,I.QK,I.bare⟩
def Inv.after(I:Inv X pins σ H s)(h:CE X.stack X.prog X.w H s Q u s'):EP X pins σ Q u s':=by
 let⟨v,a,o,e,n,K,r,q⟩:=h;let⟨c,g,d,t,x⟩:=s';obtain rfl:x=s.os:=o;exact⟨v,a,I.call (h':=c) (g':=g) (d':=d) (t':=t) (ch:=[]) n K e (λb z=>absurd z (by simp)),r,q⟩
def JM(sp:Sp)(W:Γ V)(E:XK)(t:TA):TE:=λb H Q=>t b H λv a=>sp (v++W) a Q E
def Binds(K:Φ)(f:η)(ps:Γ Str)(ds:Γ Θ):Prop :=
 ∀ (s:Ξ) (u:Γ Θ),K.In s.heap->(u++ds).length=ps.length->BindsTo s f ⟨u,[]⟩ (ps.zip (u++ds))
def Binds.all{K:Φ}(h:∀us:Γ Θ,us.length=ps.length->bindArgs fd ⟨us,[]⟩=pure (ps.zip us)):Binds K fd ps []:=λs us _ l=>by
 rw[qG] at l ⊢;exact .of_eq (h us l)
def uG(CX:JE)(X:Cx)(E:XK):Prop:=∀ (p:Γ (Ψ×Obj)) (a:St) (H:Hp) (s:Ξ) (e:Θ) (S:Ξ),Inv X p a H s->CX X.stack H s E e S->X.xe e S
def GM(F:oV X.prog X.w X.K X.mg X.base CX k f fd ps sp)(a:dF k X.A)(b:Binds X.K fd ps ds)(d:az U ds)(x:uG CX X E)
  (I:Inv X pins σ H s) (r:az vs us) (h:sp (vs++U) H Q E):wpAny (model X.prog X.w) X.A (call (.ref f) us) (EP X pins σ Q) X.xe s:=by
 have R:az (vs++U) (us++ds):=r.append d;have L:(us++ds).length=ps.length:=by rw[<- R.length];exact F.len _ _ _ _ h
 refine wpAny_call (jT (F.run X.A X.stack s H ⟨us,[]⟩ (us++ds) (vs++U) Q E a I.acz (b s us I.UE L) R h) λr S q=>?_);cases r with
 | error e=>exact x pins σ H s e S I q
 | ok l =>
  cases l with
  | ret u=>exact I.after q
  | next=>exact False.elim q
  | brk=>exact False.elim q
  | cont=>exact False.elim q
def HE(F:oV X.prog X.w X.K X.mg X.base CX k f fd ps sp)(l:dF k X.A)(g:Gl X x)(m:X.mg x=↑(.ref f))(j:W.keepIn X.K (.ref f)=true)(b:Binds X.K fd ps ds)(d:az U ds)(n:uG CX X E)
  (a:PA X (e::es) t) (T:(x == ("__debug__":Str))=false:=by decide) (c:starEach (e::es) X.env=(false,eval e X.env)::starEach es X.env:=by rfl) (R:(backTo pos (starEach es X.env)).any (·.1)=false:=by rfl) :
  PE X (.Call (.Name x p) (e::es) [] pos) (JM sp U E t):=by
 intro P s o H Q I h;refine qZ (vb I g m ?_ T);refine W.callWith_K (h₀:=X.base) I.ok.mod.YI j (bO (a pos P s o H _ I h) λv S ⟨V,u,i,r,q⟩=>⟨i.UE,?_⟩) c R;exact GM F l b d n i r q
def D0(F:oV X.prog X.w X.K X.mg X.base CX k f fd ps sp)(r:dF k X.A)(g:Gl X x)(m:X.mg x=↑(.ref f))(a:W.keepIn X.K (.ref f)=true)(b:Binds X.K fd ps ds)(d:az U ds)(c:uG CX X E)
  (T:(x == ("__debug__":Str))=false:=by decide):PE X (.Call (.Name x p) [] [] pos) (JM sp U E Np):=by
 intro P s e H Q I h;refine qZ (vb I g m ?_ T);exact W.callWith_K0 I.UE a (GM (us:=[]) F r b d c I .nil h)
structure d6(N P:List Str)(sc:Scope):Prop where
 kind:sc.kind=.function
 co:sc.isCoroutine=false
 gen:sc.isGenerator=false
 nd:N.Nodup
 pre:N.take P.length=P
 par:∀x∈P,sc.names.lookup x=↑.local \/ sc.names.lookup x=↑.cell
 XR:∀y∈sc.names,y.2≠.free
def sO{k:Str->Δ NameKind}:∀ {b:Γ (Str×Θ)}{m:Str->Δ Θ},(∀v,(x,v)∉b)->bindL k b m x=m x
 | [],_,_=>rfl
 | (n,v)::r,m,h=>by
  unfold bindL;rw[sO λw hw=>h w (zC _ hw)];split
  .have:x≠n:=by rintro rfl;exact h v zE
   simp[this]
  .rfl
def tG{k:Str->Δ NameKind}:∀ {b:Γ (Str×Θ)}{m:Str->Δ Θ},(∀v,(x,v)∉b)->bindC k b m x=m x
 | [],_,_=>rfl
 | (n,v)::r,m,h=>by
  unfold bindC;rw[tG λw hw=>h w (zC _ hw)];split
  .rfl
  .have:x≠n:=by rintro rfl;exact h v zE
   simp[this]
def se{k:Str->Δ NameKind}:∀ {P:Γ Str}{vs:Γ Θ}{i:Nat}{m:Str->Δ Θ},P.Nodup->P[i]?=↑x->vs[i]?=↑v->k x=↑.local ->
  bindL k (P.zip vs) m x=↑v
 | [],_,_,_,_,h,_,_=>by simp at h
 | _::_,[],_,_,_,_,h,_=>by simp at h
 | p::P,w::vs,0,m,n,H,a,K=>by
  simp at H a;subst H;subst a;show bindL k ((p,w)::P.zip vs) m p=_;unfold bindL;rw[sO λv V=>(List.nodup_cons.mp n).1 (vU V).1,yM K];simp
 | p::P,w::vs,i+1,m,n,H,a,K=>by
  show bindL k ((p,w)::P.zip vs) m x=_;unfold bindL;exact se (i:=i) (List.nodup_cons.mp n).2 (by simpa using H) (by simpa using a) K
def tv{k:Str->Δ NameKind}:∀ {P:Γ Str}{vs:Γ Θ}{i:Nat}{m:Str->Δ Θ},P.Nodup->P[i]?=↑x->vs[i]?=↑v->k x≠some .local ->
  bindC k (P.zip vs) m x=↑v
 | [],_,_,_,_,h,_,_=>by simp at h
 | _::_,[],_,_,_,_,h,_=>by simp at h
 | p::P,w::vs,0,m,n,H,a,K=>by
  simp at H a;subst H;subst a;show bindC k ((p,w)::P.zip vs) m p=_;unfold bindC;rw[tG λv V=>(List.nodup_cons.mp n).1 (vU V).1,yO K];simp
 | p::P,w::vs,i+1,m,n,H,a,K=>by
  show bindC k ((p,w)::P.zip vs) m x=_;unfold bindC;exact tv (i:=i) (List.nodup_cons.mp n).2 (by simpa using H) (by simpa using a) K
def start(N:Γ Str)(vs:Γ V):St:=vs.map some++List.replicate (N.length - vs.length) none
def C7(CX:JE)(P:ε)(w:δ)(K:Φ)(m:Str->Δ Θ)(b:ι)(N:Γ Str)(qual:Str)(scope:ζ)(f:Ψ)(c:Θ)(A:ξ)(o:Γ Env)(s:Ξ)(H:Hp)(E:XK):Cx where
 prog:=P
 w:=w
 K:=K
 mg:=m
 base:=b
 A:=A.deeper (envOfC qual scope s.heap.objs.size f c)
 N:=N
 Q2:=s
 QF:=H
 env:=envOfC qual scope s.heap.objs.size f c
 outer:=o
 stack:=envOfC qual scope s.heap.objs.size f c::o
 ex:=[]
 calm:=true
 fn:=λ_=>true
 pn:=[]
 xe:=λe d=>wpAny (model P w) (A.deeper (envOfC qual scope s.heap.objs.size f c)) (leaving (envOfC qual scope s.heap.objs.size f c) e) (λ_ S=>CX o H s E e S) (λa S=>CX o H s E a S) d
def pL{sc:ζ}{n:Nat}(h:sc.names.lookup x=↑.cell):∃c,(cellsFrom n sc.names []).lookup x=↑c:=by
 have q:=W.cellsFrom_some sc.names n [] (.inl h);exact Option.isSome_iff_exists.mp q
def C8{CX:JE}{K:Φ}{M:Str->Δ Θ}{ps:Γ Str}{scope:ζ}{C:Θ}{A:ξ}{o:Γ Env}{s:Ξ}{E:XK}{us:Γ Θ}{vs:Γ V}
  (S:d6 N ps scope) (F:A.handled=none) (g:HQ P w K M base A o s H) (hl:vs.length=ps.length) (r:az vs us)
  (x:InCallC s s.heap.objs.size (bindL (envOfC qual scope s.heap.objs.size f C).kindOf (ps.zip us) λ_=>none) (cellsFrom (s.heap.objs.size+1) scope.names []) (bindC (envOfC qual scope s.heap.objs.size f C).kindOf (ps.zip us) λ_=>none) s1) :
  Inv (C7 CX P w K M base N qual scope f C A o s H E) [] (start N vs) H s1:=by
 have G:ps.length<=N.length:=by have:=jD List.length S.pre;rw[jX] at this;lia
 let⟨m,T,rfl,B⟩:=x.done;have t:∀b:Ψ,b∉(C7 CX P w K M base N qual scope f C A o s H E).ex:=λb z=>absurd (show b∈([]:Γ Ψ) from z) (by simp);refine⟨⟨g.mod,S.kind,rfl,rfl,yN _,λy z c m d=>?_,λy Y=>?_,λy c _ h=>?_,λ_=>F,Around.frames_deeper g.frames,.inr ⟨rfl,rfl⟩,λb z=>absurd z (t b),g.bs,g.WW,λb _ _=>t b,λb z=>absurd z (t b),g.RV,g.YJ⟩,
  rfl,g.bare,Un.kept B,⟨_,x.toInCall.ns,λi y v m d J=>?_⟩,λy c h=>⟨_,x.cell y c h⟩,g.QK.fresh (yN _),λy c h=>?_,λp j=>absurd (show p∈([]:Γ (Ψ×Obj)) from j) (by simp),g.QK.kept B,?_⟩
 .exact name_of_addr x.apart (kC m) (kC d)
 .have Y:scope.names.lookup y=↑.cell\/scope.names.lookup y=↑.free:=Y;rcases Y with Y|Y
  .exact pL Y
  .exact absurd rfl (S.XR _ (kC Y))
 .exact jU (x.above y c (kC h))
 .have I:i < vs.length:=by
   unfold start at d;by_cases I:i < vs.length
   .exact I
   .rw[yU (by simpa using I)] at d;rw[yY] at d;split at d<;>cases d
  have D:vs[i]?=↑v:=by
   unfold start at d;rw[yT (by simpa using I),zO] at d;cases e:vs[i]? with
   | none=>rw[e] at d;cases d
   | some a=>rw[e] at d;cases d;rfl
  let⟨u,U,R⟩:=r.get D;have j:ps[i]?=↑y:=by
   rw[<- S.pre,List.getElem?_take_of_lt (by lia)];exact m
  have l:ps.Nodup:=by rw[<- S.pre];exact S.nd.sublist (List.take_sublist _ _)
  refine⟨u,R,?_⟩;rcases S.par y (qC j) with k|k
  .exact .inl ⟨k,se l j U k⟩
  .let⟨c,e⟩:=pL (n:=s.heap.objs.size+1) k;refine .inr ⟨.inl k,c,e,?_⟩;have q:=x.cell y c e;rw[tv l j U (by show scope.names.lookup y≠_;rw[k];decide)] at q;exact q
 .exact g.QK.fresh (jU (x.above y c (kC h)))
 .unfold start;show _=N.length;rw[zN,zD,xN];lia
def MM{K:Φ}{p:Θ}
  {C:Array (Δ Θ)}{N ps:Γ Str}{sp:Sp}(lk:K.lookup f=↑⟨oc,od,.func (W.fnOf name qual params body scope dV p doc pm an U ct),C⟩) (B:W.codeIn K U qual=true) (S:d6 N ps scope)
  (l:∀vs H Q E,sp vs H Q E->vs.length=ps.length)
  (D:∀ (A:ξ) (O:Γ Env) (s:Ξ) (H:Hp) (vs:Γ V) (Q:VK) (E:XK),dF k (A.deeper (envOfC qual scope s.heap.objs.size f U))->sp vs H Q E ->
   ∃t,AO (C7 CX P w K mg base N qual scope f U A O s H E) body t/\t { nx:=λ_ H'=>Q .QB H',rt:=Q } (start N vs) H) :
  oV P w K mg base CX (k+1) f (W.fnOf name qual params body scope dV p doc pm an U ct) ps sp:=by
 refine⟨l,λA O s H j us vs Q E R d M r Y=>?_⟩;have Z:=l _ _ _ _ Y;have X:K.In s.heap:=d.mod.YI.keeps λb o e=>(d.bs b o e).1;have m:s.heap.NoLimit:=d.mod.nolimit.keeps λb o e=>(d.bs b o e).1;have F:∀y∈ps.zip us,scope.names.lookup y.1=↑.local \/ (scope.names.lookup y.1=↑.cell/\((cellsFrom (s.heap.objs.size+1) scope.names []).lookup y.1).isSome=true):=λz hy=>by
  let⟨n,v⟩:=z
  rcases S.par n (vU hy).1 with q|q
  .exact .inl q
  .exact .inr ⟨q,W.cellsFrom_some _ _ _ (.inl q)⟩
 refine codeAny_call_function R.depth (X _ _ lk) rfl S.co S.gen rfl (W.codeRec_of X B) (M _ _ _ _ ?_);refine wpAny_newFunctionEnv_cells S.kind F λG T z x=>?_;subst T;refine⟨m.keeps x.toInCall.keep,codeAny_func ?_⟩;let⟨t,ht,hq⟩:=D A O s H vs Q E (R.deeper _) Y;have I:Inv (C7 CX P w K mg base N qual scope f U A O s H E) [] (start N vs) H z:=C8 S R.hd d Z r x;refine xB (ht [] z (start N vs) H _ I hq) (λL i c=>?_) λe i c=>c;have fin:∀ {a:St}{H':Hp}{v:V}{u:Θ},Inv (C7 CX P w K mg base N qual scope f U A O s H E) [] a H' i->RelV v u->Q v H'->CE O P w H s Q u i :=
  λ{a H' v u} J g q=>⟨v,H',J.os,J.bare,J.base,J.QK,g,q⟩
 cases L with
 | ret u =>
  let⟨v,a,H',J,g,q⟩:=c;exact fin J g q
 | next =>
  let⟨a,H',J,q⟩:=c;exact fin (v:=V.QB) (u:=Value.none) J rfl q
 | brk =>
  let⟨_,_,_,q⟩:=c;exact False.elim q
 | cont =>
  let⟨_,_,_,q⟩:=c;exact False.elim q
section
variable {id T:String}
def Ow(r:Γ V->Hp->VK->Prop)(t:TA):TE:=λb H Q=>t b H λv a=>r v a Q
def ny(hc:fJ X (.builtin id) r)(g:Gl X x)(m:X.mg x=none)(v:bootBuiltins x=↑(.builtin id))(A:PA X (e::es) t)(n:x≠"__name__":=by decide)(T:(x == ("__debug__":Str))=false:=by decide)
  (E:starEach (e::es) X.env=(false,eval e X.env)::starEach es X.env:=by rfl) (R:(backTo pos (starEach es X.env)).any (·.1)=false:=by rfl):PE X (.Call (.Name x p) (e::es) [] pos) (Ow r t):=by
 intro P s a H Q I h;refine qZ (dJ I g m v ?_ n T);exact PyProof.Rows.callWith_builtin1 (bO (A pos P s a H _ I h) λu S z=>by let⟨V,b,i,c,q⟩:=z;exact hc P S a b V u Q i c q) E R
def sY(hc:fJ X (.type T) r)(g:Gl X x)(m:X.mg x=none)(v:bootBuiltins x=↑(.type T))(A:PA X (e::es) t)(n:x≠"__name__":=by decide)(E:(x == ("__debug__":Str))=false:=by decide)
  (c:starEach (e::es) X.env=(false,eval e X.env)::starEach es X.env:=by rfl) (R:(backTo pos (starEach es X.env)).any (·.1)=false:=by rfl):PE X (.Call (.Name x p) (e::es) [] pos) (Ow r t):=by
 intro P s a H Q I h;refine qZ (dJ I g m v ?_ n E);exact qT (bO (A pos P s a H _ I h) λu S z=>by let⟨V,b,i,d,q⟩:=z;exact hc P S a b V u Q i d q) c R
end
end L2
namespace HT
open PySem PyProof.Rows
def lexLt:Γ Int->Γ Int->θ
 | [],[]=>false
 | [],_::_=>true
 | _::_,[]=>false
 | x::s,y::Y=>if x=y then lexLt s Y else decide (x < y)
def bY(x y:Int)(xs ys:Γ Int):lexLt (x::xs) (y::ys)=if x=y then lexLt xs ys else decide (x < y):=rfl
section
open PySem.SeqAt
open PySem.AutoSeq1 (wpAny_loadPart')
open PySem.MeetsSeq PySem.MeetsSeq2 PySem.MeetsSeq3
end
def IE(ht:IsTup s.heap t vs.toArray)(B:IsTup s.heap b ws.toArray)(v:vs≠[])
  (f:ws=[]->Q (.ref t) s) (g:ws≠[]->Q (.ref s.heap.objs.size) { s with heap:=s.heap.push { cls:=.type "tuple",data:=.seq (vs++ws).toArray } })
  (hsz:vs.length+ws.length<=sizeLine):wpAny (model prog w) A (binaryOp .Add (.ref t) (.ref b)) Q E s:=by
 let⟨⟨cls,a,d,l⟩,o,hc,n,c⟩:=id ht;let⟨⟨y,Y,D,O⟩,V,U,N,H⟩:=id B;simp only at hc c U H;subst hc c U H;have e:vs.toArray++ws.toArray=(vs++ws).toArray:=by simp
 by_cases hw:ws=[]
 .exact wR ⟨_,o,rfl⟩ ⟨_,V,rfl⟩ noFill_tuple_add seq_tuple_add vO vJ (vH _ _)
   (tuple_addW1 t b vs.toArray ws.toArray n N a Y l O (by simpa using v) (by simp[hw])) ⟨o,V,f hw⟩
 .refine wR ⟨_,o,rfl⟩ ⟨_,V,rfl⟩ noFill_tuple_add seq_tuple_add vO vJ (vH _ _)
   (tuple_addW2 t b vs.toArray ws.toArray n N a Y l O (by simpa using v) (by simpa using hw) (by rw[zH,zH];exact hsz)) ⟨o,V,?_⟩
  rw[e];exact g hw
def cW(n d:Nat):Δ Int->Nat
 | none=>d
 | some v=>if v < 0 then (v+(n:Int)).toNat else min v.toNat n
def wo(n d:Nat):cW n d none=d:=rfl
def BH(n d k:Nat):cW n d (↑(k:Int))=min k n:=by
 show (if (k:Int) < 0 then ((k:Int)+(n:Int)).toNat else min (k:Int).toNat n)=min k n;rw[yO (by lia),yG]
def Lm(n d:Nat)(D:d<=n)(o:Δ Int):cW n d o<=n:=by
 cases o with
 | none=>exact D
 | some v =>
  show (if v < 0 then (v+(n:Int)).toNat else min v.toNat n)<=n;by_cases H:v < 0
  .rw[yM H];lia
  .rw[yO H];exact Nat.min_le_right _ _
def Bg(v:Int)(n d:Nat):(if v < 0 then max (v+(n:Int)) 0 else min v (n:Int))=((cW n d (↑v):Nat):Int):=by
 show (if v < 0 then max (v+(n:Int)) 0 else min v (n:Int))=(((if v < 0 then (v+(n:Int)).toNat else min v.toNat n):Nat):Int)
 by_cases H:v < 0
 .simp?[yM H];lia
 .simp?[yO H];lia
def Ah(lo hi:Δ Int)(n:Nat):Builtin.Slice.sliceAdjust lo hi 1 (n:Int)=(((cW n 0 lo:Nat):Int),((cW n n hi:Nat):Int)):=by
 have H:¬ ((1:Int) < 0):=by lia
 unfold Builtin.Slice.sliceAdjust;simp?[H,qQ];refine Prod.ext ?_ ?_
 .cases lo with
  | none=>rfl
  | some v=>exact Bg v n 0
 .cases hi with
  | none=>rfl
  | some v=>exact Bg v n n
def AC(i j:Nat):Builtin.Slice.slicePlaces (i:Int) (j:Int) 1=j - i:=by
 unfold Builtin.Slice.slicePlaces;have H:(1:Int) > 0:=by lia
 simp?[H,xI,Int.ediv_one];split<;>lia
def rC(p:IsPart v o)(h:Q o s):wpAny (model prog w) A (Builtin.Slice.slicePartIndex v) Q E s:=by
 cases p with
 | none=>exact slicePart_none h
 | int i t=>exact slicePart_int h
def ip{v:Θ}{lo hi:Δ Int}{n:Nat}{Q:Int×Int×Nat->Ξ->Prop}(hs:s.heap.IsSliceOf sl v U .none)(pl:IsPart v lo)(p:IsPart U hi)
  (h:Q (((cW n 0 lo:Nat):Int),1,cW n n hi - cW n 0 lo) s):wpAny (model prog w) A (Builtin.Slice.sliceApplied (.ref sl) (pure (n:Int))) Q E s:=by
 let⟨o,S,W,R⟩:=id hs;unfold Builtin.Slice.sliceApplied Builtin.Slice.sliceFields;refine zV (zV (qU S R (x:=v) rfl (zV (qU S R (x:=U) rfl (zV (qU S R (x:=.none) rfl (zW ?_)))))));refine zV (slicePart_none ?_);show wpAny _ _ (if ((1:Int) == 0)=true then _ else _) _ _ s;rw[yO (by decide)];refine zV (rC pl (zV (rC p (zV (zW ?_)))));show wpAny _ _ (match Builtin.Slice.sliceAdjust lo hi 1 (n:Int) with|(lo,hi)=>pure (lo,(1:Int),Builtin.Slice.slicePlaces lo hi 1)) _ _ s;rw[Ah lo hi n];show wpAny _ _ (pure (((cW n 0 lo:Nat):Int),(1:Int),Builtin.Slice.slicePlaces ((cW n 0 lo:Nat):Int) ((cW n n hi:Nat):Int) 1)) _ _ s;rw[AC];exact zW h
def Fz(xs:Array Θ)(i k:Nat):((List.range k).filterMap λ(m:Nat)=>xs[((i:Int)+(m:Int) * 1).toNat]?).toArray=((xs.toList.drop i).take k).toArray:=by
 have e:(λ(m:Nat)=>xs[((i:Int)+(m:Int) * 1).toNat]?)=λm=>xs[i+m]?:=by
  funext m;have:((i:Int)+(m:Int) * 1).toNat=i+m:=by lia
  rw[this]
 rw[e];have:=pick_run xs i k;rw[List.filterMap_map] at this;have E:((λx=>xs[x]?) ∘ λx=>i+x)=λm=>xs[i+m]?:=rfl;rw[E] at this;rw[this]
def mU{i:Array Θ}{v:Θ}{lo:Δ Int}(ht:IsTup s.heap t i)(hs:s.heap.IsSliceOf sl v vu .none)(pl:IsPart v lo)(p:IsPart vu hi)
  (hw:¬ (cW i.size 0 lo=0/\cW i.size i.size hi=i.size))
  (h:Q (.ref s.heap.objs.size) { s with heap:=s.heap.push { cls:=.type "tuple",data:=.seq ((i.toList.drop (cW i.size 0 lo)).take (cW i.size i.size hi - cW i.size 0 lo)).toArray } })
  (hsz:i.size<=sizeLine):wpAny (model prog w) A (getItem (.ref t) (.ref sl)) Q E s:=by
 have U:sizeOk (.seq ((i.toList.drop (cW i.size 0 lo)).take (cW i.size i.size hi - cW i.size 0 lo)).toArray):=by
  show ((i.toList.drop (cW i.size 0 lo)).take (cW i.size i.size hi - cW i.size 0 lo)).toArray.size<=sizeLine;rw[zH,jX,qJ,wH];lia
 have j:cW i.size i.size hi<=i.size:=Lm _ _ (yN _) hi;let⟨o,S,W,R⟩:=id hs;have X:s.TypeIs (.ref sl) "slice":=⟨o,S,W⟩
 unfold getItem
 try with_reducible refine xY ?_
 first|refine zV (zW ?_)|skip
 refine zV (wpAny_sequenceKey ht.typeIs (by decide) ?_);refine zV (qD (name:=Str.ofString "__getitem__") ht.typeIs jG
  (qX jG ht.typeIs entry_tuple_getitem ?_ (args_tuple_getitem _ _)))
 show wpAny _ _ (Builtin.Tuple.tupleItemsOf (.ref t) >>= _) _ _ s;refine zV (tupleItemsOf_ ht ?_);refine zV (wN X ?_);rw[yM (by decide)];refine zV (ip hs pl p ?_);have Y:¬ ((((cW i.size 0 lo:Nat):Int) == 0&&(1:Int) == 1&&(cW i.size i.size hi - cW i.size 0 lo) == i.size)=true):=by
  intro q;rw[zF,zF] at q;have a:((cW i.size 0 lo:Nat):Int)=0:=eq_of_beq q.1.1;have b:cW i.size i.size hi - cW i.size 0 lo=i.size:=eq_of_beq q.2;exact hw ⟨by lia,by lia⟩
 show wpAny _ _ (if (((cW i.size 0 lo:Nat):Int) == 0&&(1:Int) == 1&&(cW i.size i.size hi - cW i.size 0 lo) == i.size)=true then _ else _) _ _ s;rw[yO Y,Fz]
 first
  | exact zV (m:=Builtin.Tuple.tupleExact _) (qM (zW ⟨_,rfl,zW h⟩) U)
  | exact zV (m:=Builtin.Tuple.tupleExact _) (qM (zV (zW (zW ⟨_,rfl,zW h⟩))) U)
  | exact zV (zV (m:=Builtin.Tuple.tupleExact _) (qM (zW (zW ⟨_,rfl,zW h⟩)) U))
  | exact zV (zV (m:=Builtin.Tuple.tupleExact _) (qM (zW ⟨_,rfl,zW h⟩) U))
end HT
namespace L2
open PySem PySem.Spec PyProof.Rows
abbrev TO:=St->Hp->(Δ Int->Hp->Prop)->Prop
def PO(X:Cx)(e:Δ γ)(t:TO):Prop :=
 ∀ (p:Γ (Ψ×Obj)) (s:Ξ) (a:St) (H:Hp) (Q:Δ Int->Hp->Prop),Inv X p a H s->t a H Q ->
  wpAny (model X.prog X.w) X.A (evalPart e X.env) (λu S=>∃o b,Inv X p a b S/\IsPart u o/\Q o b) X.xe s
def Je:TO:=λ_ H Q=>Q none H
def Nh(t:TE):TO:=λb H Q=>t b H λx a=>∃i,x=.int i/\Q (↑i) a
def intsAre_of:∀ {us:Γ Θ},az (ns.map V.int) us->IntsAre us ns:=by
 induction ns with
 | nil=>intro us r;rw[yV] at r;cases r;exact .nil
 | cons n ns i =>
  intro us r;rw[zI] at r;cases r with
  | cons R a =>
   let⟨t,e⟩:=R;subst e;exact .cons n t (i a)
section
variable {lo hi:Δ γ}
def Ia:PO X none Je:=by
 intro p s a H Q I h;rw[evalPart_none];exact zW ⟨none,H,I,.none,h⟩
def pf(h:PE X e te):PO X (↑e) (Nh te):=by
 intro p s d H Q I hw;rw[evalPart_some];refine bO (h p s d H _ I hw) λu S z=>?_;let⟨x,a,b,r,c⟩:=z;let⟨i,rfl,q⟩:=c;let⟨t,rfl⟩:=r;exact⟨↑i,a,b,.int i t,q⟩
def JV(X:Cx)(r:V->Δ Int->Δ Int->Hp->VK->Prop):Prop :=
 ∀ (p:Γ (Ψ×Obj)) (s:Ξ) (a:St) (H:Hp) (x:V) (v L u:Θ) (l i:Δ Int) (S:Ψ) (Q:VK),Inv X p a H s->RelV x v->s.heap.IsSliceOf S L u .none->IsPart L l->IsPart u i->r x l i H Q ->
  ∃T id,typeLookup (.type T) "__getitem__"=pure (↑(.builtin id))/\s.TypeIs v T/\wpAny (model X.prog X.w) X.A (getItem v (.ref S)) (EP X p a Q) X.xe s
def JV.or(h:JV X r)(h':JV X r'):JV X (λx lo hi H Q=>r x lo hi H Q\/r' x lo hi H Q):=by
 intro p s a H x v V U lo hi L Q I R S l u q;rcases q with q|q
 .exact h p s a H x v V U lo hi L Q I R S l u q
 .exact h' p s a H x v V U lo hi L Q I R S l u q
def Qv(r:V->Δ Int->Δ Int->Hp->VK->Prop)(te:TE)(T t:TO):TE:=λa H Q=>te a H λx b=>T a b λl c=>t a c λu d=>r x l u d Q
def Fs(R:JV X r)(E:PE X e te)(hl:PO X lo tl)(m:PO X hi th):PE X (.Subscript e (.Slice lo hi none p2) pos) (Qv r te tl th):=by
 intro p s a H Q I h;refine Subscript_ (bO (E p s a H _ I h) λv C z=>?_);let⟨x,d,i,B,o⟩:=z;refine wpAny_Slice (bO (hl p C a d _ i o) λV D ⟨l,f,g,P,y⟩=>bO (m p D a f _ g y) λU S ⟨u,c,j,n,z⟩=>?_);rw[evalPart_none];refine zW ?_;have k:Inv X p a c { S with heap:=S.heap.push { cls:=.type "slice",data:=.fields #[V,U,.none] } }:=j.kept (t':=S.toks) λb O q=>zU _ q;let⟨T,id,t,ht,G⟩:=R p { S with heap:=S.heap.push { cls:=.type "slice",data:=.fields #[V,U,.none] } } a c x v V U l u S.heap.objs.size Q k B (Heap.IsSliceOf.new ..) P n z;show wpAny (model X.prog X.w) X.A (subscriptTail e (.Slice lo hi none p2) v (.ref S.heap.objs.size)) (EP X p a Q) X.xe { S with heap:=S.heap.push { cls:=.type "slice",data:=.fields #[V,U,.none] } };exact tail_any (ops:=[.ref S.heap.objs.size,v]) ht t G (by with_unfolding_all rfl)
def Hr(xs:Γ V)(lo hi:Δ Int):Γ V:=(xs.drop (HT.cW xs.length 0 lo)).take (HT.cW xs.length xs.length hi - HT.cW xs.length 0 lo)
def vy(xs:Γ V)(lo hi:Δ Int):(Hr xs lo hi).length<=xs.length:=by
 unfold Hr;rw[jX,qJ];lia
def Pk(K:Φ):V->Δ Int->Δ Int->Hp->VK->Prop:=λx l i H Q=>∃a s,x=.ref a/\f9 K H a s /\
 ¬ (HT.cW s.length 0 l=0/\HT.cW s.length s.length i=s.length)/\∀p,H p=none->Q (.ref p) (upd H p (.tup (Hr s l i)))
def Lc:JV X (Pk X.K):=by
 intro p s f H x v V U l i L Q I R d P u h;let⟨a,S,rfl,e,hw,q⟩:=h;cases R;let⟨c,r,ht,z⟩:=I.tuple e;have n:c.toArray.size=S.length:=by rw[zH];exact r.length.symm
 refine⟨"tuple",_,PyProof.Rows.slot_tuple_getitem.lookup,ht.typeIs,?_⟩;refine HT.mU ht d P u (by rw[n];exact hw) ?_ (by rw[n];exact z);rw[n];refine⟨.ref s.heap.objs.size,_,I.laid (t':=s.toks) (o:=.tup (Hr S l i)) (λb O q=>zU _ q) (yN _) ?_,rfl,q _ (I.QK.fresh (yN _))⟩;exact⟨yD (vy S l i) z,_,(r.drop (HT.cW S.length 0 l)).take (HT.cW S.length S.length i - HT.cW S.length 0 l),nK.new _ _⟩
def Nj(K:Φ):R2:=λx y H Q=>∃a b X s,x=.ref a/\y=.ref b/\f9 K H a X/\f9 K H b s/\X≠[]/\X.length+s.length<=sizeLine /\
 (s=[]->Q (.ref a) H)/\(s≠[]->∀p,H p=none->Q (.ref p) (upd H p (.tup (X++s))))
def az.RQ(r:az xs us):us=[]↔xs=[]:=by
 cases r with
 | nil=>simp
 | cons _ _=>simp
def HP:gY X (binaryOp .Add) (Nj X.K):=by
 intro p s k H x y v u Q I g Y h;let⟨a,b,S,j,rfl,rfl,A,B,c,Z,e,f⟩:=h;cases g;cases Y;let⟨i,R,P,_⟩:=I.tuple A;let⟨F,r,d,_⟩:=I.tuple B;refine HT.IE P d (λz=>c (R.RQ.mp z)) (λz=>⟨.ref a,H,I,rfl,e (r.RQ.mp z)⟩) (λz=>?_) (by rw[<- R.length,<- r.length];exact Z);refine⟨.ref s.heap.objs.size,_,I.laid (t':=s.toks) (o:=.tup (S++j)) (λb O q=>zU _ q) (yN _) ?_,rfl,f (λw=>z (r.RQ.mpr w)) _ (I.QK.fresh (yN _))⟩;exact⟨by rw[zN];exact Z,_,R.append r,nK.new _ _⟩
end
def GQ(n:Nat)(i:Int):Δ Nat:=if 0<=i then (if i < n then ↑i.toNat else none) else if -(n:Int)<=i then ↑(i+n).toNat else none
def ud(xs:Γ α)(i:Int):Δ α:=(GQ xs.length i).bind λj=>xs[j]?
def Bx(h:GQ n i=↑j):seqIndex? i n=↑j/\j < n/\-(n:Int)<=i/\i < n:=by
 unfold GQ at h;by_cases a:0<=i
 .rw[yM a] at h;by_cases H:i < n
  .rw[yM H] at h;have e:i.toNat=j:=xE h;exact⟨by rw[seqIndex_of a H,e],by lia,by lia,H⟩
  .rw[yO H] at h;cases h
 .rw[yO a] at h;by_cases H:-(n:Int)<=i
  .rw[yM H] at h;have e:(i+n).toNat=j:=xE h;exact⟨by rw[seqIndex_neg (by lia) H,e],by lia,H,by lia⟩
  .rw[yO H] at h;cases h
def tT(h:ud xs i=↑v):∃j,seqIndex? i xs.length=↑j/\xs[j]?=↑v/\j < xs.length/\-(xs.length:Int)<=i/\i < xs.length:=by
 unfold ud at h;cases e:GQ xs.length i with
 | none=>rw[e] at h;cases h
 | some j =>
  rw[e] at h;let⟨H,a,b,c⟩:=Bx e;exact⟨j,H,h,a,b,c⟩
def uP{α:Type}{xs:Γ α}{j:Nat}{v:α}(h:xs[j]?=↑v):ud xs (j:Int)=↑v:=by
 have H:j < xs.length:=(List.getElem?_eq_some_iff.mp h).1;have e:GQ xs.length (j:Int)=↑j:=by
  unfold GQ;rw[yM (by lia),yM (by lia)];simp
 unfold ud;rw[e];exact h
def uF(b:γ):Prop:=∀o i,subscripted b false o i=operate [o,i] (getItem o i)
def GU(X:Cx)(r:R2):Prop :=
 ∀ (E e:γ) (p:Γ (Ψ×Obj)) (s:Ξ) (a:St) (H:Hp) (x y:V) (v u:Θ) (Q:VK),Inv X p a H s->RelV x v->RelV y u->r x y H Q ->
  subscripted e false v u=operate [v,u] (getItem v u)->wpAny (model X.prog X.w) X.A (subscriptTail E e v u) (EP X p a Q) X.xe s
def P5(X:Cx)(id:String)(r:V->Γ V->Hp->VK->Prop):Prop :=
 ∀ (p:Γ (Ψ×Obj)) (s:Ξ) (a:St) (H:Hp) (x:V) (S:Γ V) (v:Θ) (u:Γ Θ) (Q:VK),Inv X p a H s->RelV x v->az S u->r x S H Q ->
  wpAny (model X.prog X.w) X.A (call (.builtin id) (v::u)) (EP X p a Q) X.xe s
section
def GU.or(h:GU X r)(h':GU X U):GU X (λx y H Q=>r x y H Q\/U x y H Q):=by
 intro V e p s a H x y v u Q I R Y q S;rcases q with q|q
 .exact h V e p s a H x y v u Q I R Y q S
 .exact h' V e p s a H x y v u Q I R Y q S
def Nv(R:GU X r)(A:PE X a ta)(B:PE X b tb)(hs:uF b):PE X (.Subscript a b pos) (Na r ta tb):=by
 intro p s e H Q I h;exact Subscript_ (Mm A B I h λv u S x y c i d Y q=>R a b p S e c x y v u Q i d Y q (hs _ _))
def NN(K:Φ):R2:=λx y H Q=>∃p s i v,x=.ref p/\y=.int i/\iw K H p s/\ud s i=↑v/\Q v H
def MN(K:Φ):R2:=λx y H Q=>∃p s i v,x=.ref p/\y=.int i/\f9 K H p s/\ud s i=↑v/\Q v H
def MX:R2:=λx y H Q=>∃z i c,x=.str z/\y=.int i/\z.length<=sizeLine/\ud z.cps.toList i=↑c/\Q (.str ⟨#[c]⟩) H
def Ie:GU X (NN X.K):=by
 intro V e P s d H x y v u Q I R Y h c;let⟨p,B,i,z,rfl,rfl,n,m,q⟩:=h;cases R;let⟨t,rfl⟩:=Y;let⟨S,r,l,Z⟩:=I.list n;let⟨j,a,f,A,g,k⟩:=tT m;let⟨w,E,U⟩:=r.get f;have L:=r.length;have N:=p9;have fin:EP X P d Q w s:=⟨z,H,I,U,q⟩
 by_cases b:0<=i
 .have J:i.toNat=j:=by
   rw[seqIndex_of b k] at a;exact xE a
  exact item_listR l.isList b (by lia) (by rw[J];simpa using E) fin c
 .have J:(i+(S.toArray.size:Int)).toNat=j:=by
   rw[seqIndex_neg (by lia) g] at a;rw[zH,<- L];exact xE a
  exact subscriptTail_builtinR (x:=w) l.isList.typeIs slot_list_getitem.lookup
   (wpAny_getItem_list_neg (Q:=λr o=>r=w/\EP X P d Q r o) l.isList (by lia) (by rw[zH]<;>lia) (by lia) (by rw[J];simpa using E) ⟨rfl,fin⟩) c
def qr:GU X (MN X.K):=by
 intro V e P s a H x y v u Q I R Y h S;let⟨p,A,i,z,rfl,rfl,f,d,q⟩:=h;cases R;let⟨t,rfl⟩:=Y;let⟨g,r,l,Z⟩:=I.tuple f;let⟨j,b,c,m,n,o⟩:=tT d;let⟨w,E,U⟩:=r.get c;have L:=r.length;have N:=p9;have fin:EP X P a Q w s:=⟨z,H,I,U,q⟩
 exact subscriptTail_builtinR (x:=w) l.typeIs slot_tuple_getitem.lookup
  (getItem_tuple (j:=j) (Q:=λr k=>r=w/\EP X P a Q r k) l (by lia) (by lia) (by rw[zH,<- L];exact b) (by simpa using E) ⟨rfl,fin⟩) S
def Lz:GU X MX:=by
 intro V e p s o H x y v u Q I r R h S;let⟨z,i,c,rfl,rfl,Z,k,q⟩:=h;let⟨t,rfl⟩:=r;let⟨T,rfl⟩:=R;let⟨j,a,d,m,f,g⟩:=tT k;have l:z.cps.toList.length=z.length:=by simp[Str.length]
 rw[l] at a f g;have n:=p9;exact tail_any (typeIs_str s z t) slot_str_getitem.lookup (getItem_str (c:=c) (by
  have E:decide (i < -(2 ^ 63:Int))=false:=zZ (by lia);have b:decide (i >= 2 ^ 63)=false:=zZ (by lia);rw[E,b,Bool.or_false]) (by rw[a];simpa using d) ⟨.str ⟨#[c]⟩,H,I.tok _,⟨_,rfl⟩,q⟩) S
def P1(K:Φ):R2:=λx y H Q=>NN K x y H Q\/MN K x y H Q\/MX x y H Q
def Mi:GU X (P1 X.K):=Ie.or (qr.or Lz)
def z8(its:Γ Θ)(n j:Nat)(u:Θ):Obj.mapSeq (·.setIfInBounds j u) { cls:=.type "list",data:=.seq its.toArray n }={ cls:=.type "list",data:=.seq (its.set j u).toArray n }:=by
 simp[Obj.mapSeq]
def Inv.lst(I:Inv X pins σ H s)(h:H p=↑(.lst xs)) :
  ∃ (its:Γ Θ) (n:Nat),az xs its/\s.heap.get? p=some { cls:=.type "list",data:=.seq its.toArray n }/\xs.length<=sizeLine:=by
 let⟨z,its,n,r,e⟩:=I.QK p _ h;exact⟨its,n,r,e,z⟩
def Inv.XW{ys:Γ V}{its its':Γ Θ}{n N:Nat}{f:Obj->Obj}(I:Inv X pins σ H s)(h:H p=↑(.lst xs))
  (o:s.heap.get? p=some { cls:=.type "list",data:=.seq its.toArray n }) (F:f { cls:=.type "list",data:=.seq its.toArray n }={ cls:=.type "list",data:=.seq its'.toArray N }) (r:az ys its') (z:ys.length<=sizeLine) (t:Nat) :
  Inv X pins σ (upd H p (.lst ys)) { s with heap:=s.heap.update p f,toks:=t }:=by
 have e:(s.heap.update p f).get? p=some { cls:=.type "list",data:=.seq its'.toArray N }:=by
  rw[Heap.get?_update_self f o (by rw[F]<;>rfl),F]
 refine I.write (x:=p) (e:=p) (by rw[h];trivial) (.inl rfl) (λb u B q=>(xO _ _ (jO B)).trans q) ⟨_,e⟩ ?_;exact⟨z,its',N,r,e⟩
def M5:V->V->V->Hp->(Hp->Prop)->Prop:=λo i v H Q=>∃p x k j,o=.ref p/\i=.int k/\H p=↑(.lst x)/\GQ x.length k=↑j/\Q (upd H p (.lst (x.set j v)))
def set_list:NT X M5:=by
 intro P s m H o i v A y u Q I g R V h;let⟨p,x,k,j,rfl,rfl,f,J,q⟩:=h;cases g;let⟨t,rfl⟩:=R;let⟨S,n,r,O,z⟩:=I.lst f;let⟨a,w,d,e⟩:=Bx J;have l:=r.length;have N:=p9;have b:Inv X P m (upd H p (.lst (x.set j v))) { s with heap:=s.heap.update p (Obj.mapSeq (·.setIfInBounds j u)) } :=
  I.XW f O (z8 S n j u) (r.set V j) (by rw[yC];exact z) s.toks
 by_cases c:0<=k
 .have K:k.toNat=j:=by
   rw[seqIndex_of c e] at a;exact xE a
  exact W.ki_setAt O c (by lia) (by rw[zH,<- l];exact e) (by rw[K];exact⟨_,b,q⟩)
 .have K:(k+(S.toArray.size:Int)).toNat=j:=by
   rw[seqIndex_neg (by lia) d] at a;rw[zH,<- l];exact xE a
  exact W.ki_setBack O (by lia) (by rw[zH,<- l];exact d) (by lia) (by rw[K];exact⟨_,b,q⟩)
def uo:fJ X (.builtin "len") (λxs H Q=>∃p ys,xs=[.ref p]/\(iw X.K H p ys\/f9 X.K H p ys)/\Q (.int ys.length) H):=by
 intro P s b H xs U Q I r h;let⟨p,ys,rfl,a,q⟩:=h;let⟨u,rfl,x⟩:=vals1 r;cases x;have N:=p9;rcases a with a|a
 .let⟨i,R,l,z⟩:=I.list a;have n:=R.length;exact Calls.call_len_list l.isList (by simp?[zH]<;>lia) ⟨.int ys.length,H,I.tok _,⟨s.toks+1,by rw[zH,n]⟩,q⟩
 .let⟨i,R,l,z⟩:=I.tuple a;have n:=R.length;exact len_tuple l (by simp?[zH]<;>lia) ⟨.int ys.length,H,I.tok _,⟨s.toks+1,by rw[zH,n]⟩,q⟩
def rT:fJ X (.type "tuple") (λxs H Q=>∃p ys,xs=[.ref p]/\((iw X.K H p ys/\∀l,H l=none->Q (.ref l) (upd H l (.tup ys)))\/(f9 X.K H p ys/\Q (.ref p) H))):=by
 intro P s f H xs U Q I r h;let⟨p,ys,rfl,h⟩:=h;let⟨u,rfl,x⟩:=vals1 r;cases x;rcases h with ⟨c,q⟩|⟨c,q⟩
 .let⟨i,R,L,z⟩:=I.list c;have n:=R.length;refine call_tuple_list L.isList (λa k=>?_) (by simp?[zH]<;>lia);have d:Inv X P f H { s with heap:=a }:=I.kept (t':=s.toks) k;have g:Inv X P f (upd H a.objs.size (.tup ys)) { s with heap:=a.push { cls:=.type "tuple",data:=.seq i.toArray } } :=
   d.laid (t':=s.toks) (λb o e=>zU _ e) (yN _) (show c8 X.prog X.w _ _ _ (.tup ys) from ⟨z,i,R,nK.new _ _⟩)
  exact⟨.ref a.objs.size,_,g,rfl,q _ (d.QK.fresh (yN _))⟩
 .let⟨i,R,L,z⟩:=I.tuple c;exact call_tuple_same L ⟨.ref p,H,I,rfl,q⟩
def P4(K:Φ)(T:String)(x:V)(H:Hp):Prop:=match x with
 | .str _=>T="str"
 | .int _=>T="int"
 | .ref p=>(T="list"/\∃s,iw K H p s)\/(T="tuple"/\∃s,f9 K H p s) \/
   (T="dict"/\((∃R,H p=↑(.dK R))\/∃R,H p=↑(.dT R)))\/(T="set"/\∃S n,H p=↑(.set S n))
 | _=>False
def K5(I:Inv X pins σ H s)(r:RelV x v)(y:P4 X.K T x H) :
  s.TypeIs v T/\∀a,v=.ref a->∃O,s.heap.get? a=↑O/\O.dict=none:=by
 cases x with
 | str z =>
  let⟨t,rfl⟩:=r;cases (show T="str" from y);exact⟨typeIs_str s z t,λ_ e=>nomatch e⟩
 | int i =>
  let⟨t,rfl⟩:=r;cases (show T="int" from y);exact⟨typeIs_int s i t,λ_ e=>nomatch e⟩
 | ref p =>
  cases r;rcases y with ⟨rfl,w,q⟩|⟨rfl,w,q⟩|⟨rfl,k⟩|⟨rfl,S,n,k⟩
  .let⟨f,_,l,_⟩:=I.list q;refine⟨l.isList.typeIs,λa e=>?_⟩;cases e;let⟨o,n,e,c,d,_⟩:=l;exact⟨o,e,d⟩
  .rcases q with q|⟨o,f,n,k,hc,d,_⟩
   .let⟨_,_,_,⟨o,g,b,_⟩,u,j,m⟩:=q.ok I.QK;exact⟨⟨o,g,b⟩,λa e=>by cases e;exact⟨u,j,m⟩⟩
   .exact⟨⟨o,I.UE p o k,hc⟩,λa e=>by cases e;exact⟨o,I.UE _ o k,d⟩⟩
  .have z:∃o,s.heap.get? p=↑o/\o.ExactDict:=by
    rcases k with ⟨R,k⟩|⟨R,k⟩
    .let⟨_,_,_,_,o,_,_,e,E,_⟩:=I.QK p _ k;exact⟨o,e,E⟩
    .let⟨_,_,o,_,_,e,E,_⟩:=I.QK p _ k;exact⟨o,e,E⟩
   let⟨o,e,E⟩:=z;refine⟨⟨o,e,E.1⟩,λa b=>?_⟩;cases b;exact⟨o,e,E.2.1⟩
  .let⟨o,_,_,_,e,E,_⟩:=I.QK p _ k;refine⟨⟨o,e,E.1⟩,λa b=>?_⟩;cases b;exact⟨o,e,E.2.1⟩
 | _=>exact False.elim y
def Qf(K:Φ)(T:String)(r:V->Γ V->Hp->VK->Prop)(o:TE)(t:TA):TE:=λb H Q=>o b H λx a=>P4 K T x a/\t b a λs c=>r x s c Q
variable {T id:String}
def yg(P:PlainAttrs T)(S:Slot T name id)(y:typeOf (.builtin id)=pure (.type "method_descriptor"))(m:P5 X id r)(O:PE X o to)(l:PA X (e::es) t)
  (J:attributeBase o name X.env (eval o X.env)=eval o X.env:=by rfl)
  (k:((backTo U (starEach (e::es) X.env)).all (λx=>!x.1)&&(backToKw U (keywordEach [] X.env)).all (λx=>x.1.isSome)
   &&decide ((e::es).length+([]:Γ Keyword).length+(if ([]:Γ Keyword).isEmpty then 0 else 1) < 30))=true:=by rfl)
  (q:(apos.endLine == U.line)=true:=by rfl) (hs:starEach (e::es) X.env=(false,eval e X.env)::starEach es X.env:=by rfl) (f:(backTo U (starEach es X.env)).any (·.1)=false:=by rfl) :
  PE X (.Call (.Attribute o name apos) (e::es) [] U) (Qf X.K T r to t):=by
 intro p s a H Q I h;refine wpAny_Call_method_late J k q rfl (bO (O p s a H _ I h) λv z ⟨x,b,i,R,Y,n⟩=>?_);let⟨g,j⟩:=K5 i R Y;refine⟨T,id,P,S,y,g,j,?_⟩;have A:=l U p z a b _ i n;rw[hs] at A ⊢;refine Calls.callWith_builtin (by show (false||(backTo U (starEach es X.env)).any (·.1))=false;rw[f]<;>rfl) (Calls.evalArgs_plain ?_);exact bO A λC B z=>by let⟨V,c,d,w,u⟩:=z;exact m p B a c x V v C Q d R w u
/- xs.append(e),list.index on a Zb tuple .. are P5 facts of 06m -/
end
def Oe(X:Cx)(id:String)(r:V->Γ V->Hp->VK->Prop):Prop :=
 ∀ (p:Γ (Ψ×Obj)) (s:Ξ) (a:St) (H:Hp) (x:V) (S:Γ V) (v:Θ) (u:Γ Θ) (Q:VK),Inv X p a H s->RelV x v->az S u->r x S H Q ->
  wpAny (model X.prog X.w) X.A (call (.builtin id) (v::u)) (EP X p a Q) X.xe s
def az.one(h:az [x] us):∃u,us=[u]/\RelV x u:=by
 cases h with|cons r t=>cases t;exact⟨_,rfl,r⟩
def az.two(h:az [x,y] us):∃u v,us=[u,v]/\RelV x u/\RelV y v:=by
 cases h with|cons r t=>let⟨v,rfl,q⟩:=az.one t;exact⟨_,_,rfl,r,q⟩
def az.reverse(h:az xs us):az xs.reverse us.reverse:=by
 induction h with
 | nil=>exact .nil
 | cons r t i=>rw[vC,vC];exact az.append i (.cons r .nil)
def az.rep(h:az xs us):∀k:Nat,az (List.replicate k xs).flatten (List.replicate k us).flatten
 | 0=>.nil
 | k+1=>by
  rw[xF,xF,qN,qN];exact az.append h (az.rep h k)
def foldl_rep(its:Γ Θ):∀ (k:Nat) (acc:Γ Θ),
  List.foldl (λx1 x=>x1++x) acc.toArray (List.replicate k its.toArray)=(acc++(List.replicate k its).flatten).toArray
 | 0,acc=>by simp
 | k+1,acc=>by
  have e:acc.toArray++its.toArray=(acc++its).toArray:=by simp
  have E:(acc++its)++(List.replicate k its).flatten=acc++(List.replicate (k+1) its).flatten:=by
   rw[xF,qN,List.append_assoc]
  rw[<- E,<- foldl_rep its k (acc++its),<- e,xF,yJ]
section
variable {xs ys zs:Γ V}
def Inv.XY{its its':Γ Θ}{n:Nat}{f:Array Θ->Array Θ}{t':Nat}(I:Inv X pins σ H s)(a:H l=↑(.lst xs))
  (e:s.heap.get? l=some { cls:=.type "list",data:=.seq its.toArray n }) (F:f its.toArray=its'.toArray) (v:az ys its') (z:ys.length<=sizeLine) :
  Inv X pins σ (upd H l (.lst ys)) { s with heap:=s.heap.update l (Obj.mapSeq f),toks:=t' }:=by
 have q:=PySem.IsL.update e f;rw[F] at q;refine I.write (x:=l) (e:=l) (by rw[a];exact trivial) (.inl rfl) (λB u b U=>(xO s.heap (Obj.mapSeq f) (jO b)).trans U) ⟨_,q⟩ ?_;exact⟨z,its',_,v,q⟩
def Inv.XZ{t':Nat}(I:Inv X pins σ H s)(v:az ys its)(z:ys.length<=sizeLine) :
  Inv X pins σ (upd H s.heap.objs.size (.lst ys)) { s with heap:=s.heap.push { cls:=.type "list",data:=.seq its.toArray },toks:=t' } :=
 I.laid (λ_ _ q=>zU _ q) (yN _) ⟨z,its,0,v,zX _ rfl⟩
def Inv.fresh(I:Inv X pins σ H s):H s.heap.objs.size=none:=I.QK.fresh (yN _)
def Inv.Wo(I:Inv X pins σ H s)(a:H l=↑(.lst xs)):xs.length<=sizeLine/\∃ (its:Γ Θ) (n:Nat),az xs its/\xs.length=its.length/\s.heap.get? l=some { cls:=.type "list",data:=.seq its.toArray n }:=by
 let⟨z,its,n,r,e⟩:=I.QK l _ a;exact⟨z,its,n,r,r.length,e⟩
def F2(h:n<=sizeLine):Builtin.List.listTooLong n=false:=by
 unfold Builtin.List.listTooLong;exact zZ (by lia)
end
def IC:V->Γ V->Hp->VK->Prop:=λx v H Q=>∃l s y,x=.ref l/\v=[y]/\H l=↑(.lst s)/\s.length < sizeLine/\Q .QB (upd H l (.lst (s++[y])))
def sN:Oe X "list.append" IC:=by
 intro p s d H x S v U Q I b V h;let⟨l,c,y,rfl,rfl,a,Z,q⟩:=h;cases b;let⟨u,rfl,R⟩:=V.one;let⟨z,i,n,r,L,e⟩:=I.Wo a;refine qY F.slot_list_append ⟨_,e,rfl⟩ F.entry_list_append (F.args_list_append_2 _ _) (PySem.list_append l i.toArray n u (by rw[zH];lia)) ⟨e,?_⟩;refine⟨.QB,_,I.XY (its':=i++[u]) a e (by simp) (r.append (.cons R .nil)) ?_,rfl,q⟩;rw[zN,xD];lia
def Jw:V->Γ V->Hp->VK->Prop:=λx v H Q=>∃l b s z,x=.ref l/\v=[.ref b]/\H l=↑(.lst s)/\H b=↑(.lst z)/\s.length+z.length<=sizeLine/\Q .QB (upd H l (.lst (s++z)))
def CU:Oe X "list.extend" Jw:=by
 intro p s w H x k v S Q I g V h;let⟨l,b,m,t,rfl,rfl,a,B,j,q⟩:=h;cases g;let⟨u,rfl,U⟩:=V.one;cases U;let⟨z,i,n,r,L,e⟩:=I.Wo a;let⟨o,R,N,f,d,E⟩:=I.Wo B;have Z:i.toArray.size+R.toArray.size<=sizeLine:=by rw[zH,zH];lia
 have c:¬ (!i.toArray.isEmpty&&Builtin.List.listTooLong (i.toArray.size+R.toArray.size))=true:=by
  rw[F2 Z,Bool.and_false];exact xA
 refine qY F.slot_list_extend ⟨_,e,rfl⟩ F.entry_list_extend (F.args_list_extend_2 _ _)
  (AutoSeq1.list_extend_list_list_0 l i.toArray n b R.toArray N c (by rw[zH];lia) (by lia)) ⟨e,E,?_⟩
 refine⟨.QB,_,I.XY (its':=i++R) a e (by simp) (r.append f) ?_,rfl,q⟩;rw[zN];lia
def len_rep(xs:Γ α)(k:Nat):(List.replicate k xs).flatten.length=k * xs.length:=by
 induction k with
 | zero=>simp
 | succ k i=>rw[xF,qN,zN,i,Nat.succ_mul,Nat.add_comm]
end L2
namespace Att
open PySem PySem.W PySem.Calls PyProof.Rows
variable {n:Nat}
def RL:∀ (ns:Γ Int) (vs:Γ Θ),WellAll P h vs (ns.map WData.int)->IntsAre vs ns:=by
 intro ns
 induction ns with
 | nil =>
  intro vs w;rw[yV] at w;cases w;exact .nil
 | cons n ns i =>
  intro vs w;rw[zI] at w;cases w with
  | cons a b =>
   cases a;exact .cons _ _ (i _ b)
def U1{l:OpenLaw}(N:l.most=↑n){P:Params}{h:ι}{s:Γ WData}{v:Γ Θ}
  (W:l.row.toRowW.claim.pre s=true) (w:WellAll P h v s) :
  ∃a vs ns,v=[Value.ref a]/\s=[WData.list (ns.map WData.int)]/\h.get? a=some { cls:=.type "list",data:=.seq vs.toArray }/\IntsAre vs ns/\ns.length<=n:=by
 have e:WShape.hasAll [] s [.list .int]=true:=(pre_splitW W).1;have hc:l.pre.holds [] { args:=s }=true:=(pre_splitW W).2;let⟨d,r,rfl,f,g⟩:=hasAllW_cons e;obtain rfl:=hasAllW_nil g;let⟨x,rfl,i⟩:=hasW_list f;let⟨ns,rfl⟩:=items_int i;have H:ns.length<=n:=by
  unfold OpenLaw.pre at hc;have b:(WTm.not (.lt (.lit (.int (n:Int))) (.len (.arg 0)))).holds [] { args:=[.list (ns.map .int)] }=true:=by
   have b:=(holds_andW hc).1;rw[N] at b;exact b
  have c:=condW_of b (w_not (w_lt w_lit (w_len_list (w_arg rfl))));rw[zD] at c;refine Nat.le_of_not_lt λq=>?_;have Q:(n:Int) < ((ns.length:Nat):Int):=by lia
  first
   | (rw[y Q] at c;exact absurd c (by decide))
   | (simp at c;lia)
 cases w with
 | cons j k =>
  cases k;cases j with
  | list o S=>exact⟨_,_,ns,rfl,rfl,o,RL ns _ S,H⟩
def U2(l:OpenLaw)(a:Γ WData):l.row.toRowW.claim.post a (.bool true) a=true :=
 postW_of (r:=l.row.toRowW) (X:=(true == true))
  (show WShape.has [] (.bool true) .bool=true by first|rfl|decide|simp[WShape.has,WShape.arms,WShape.armsAll])
  (show (WTm.eq .res (.lit (.bool true))).value [] { args:=a,res:=↑(.bool true),after:=a }=↑(.bool (true == true)) from w_eq_bool (w_res rfl) w_lit) rfl
def Tf{l:OpenLaw}{q:ε}{e:Γ Str}{XP:(Str->Δ Θ)->ι->Prop}{YP:δ->ι->Prop}{d:DefRec}
  (N:l.most=↑n) (Z:d.params.defaults=[])
  (C:∀ (w:δ) (b Q:Ξ) (m M:Str->Δ Θ) (fa:Ψ) (o:Obj) (p D c:Θ) (a:Ψ) (vs:Γ Θ) (ns:Γ Int),
   Ground q e [] XP w b m M Q.heap->YP w Q.heap ->
   Q.heap.get? fa=↑o->o.data=.func (docDef d.name d.params d.body d.scope p D c)->Q.heap.CodeRec D d.name->m d.name=↑(.ref fa) ->
   Q.heap.get? a=some { cls:=.type "list",data:=.seq vs.toArray }->IntsAre vs ns->ns.length<=n->Q.gens=#[] ->
   codeAny (model l.prog w) callerA (.call (.ref fa) ⟨[.ref a],[]⟩) (λr s'=>r=.ok (.ret (.bool true))/\OldK Q.heap s'.heap/\s'.os=Q.os/\AllBare s'.gens) Q) :
  WalkO q e XP YP l.row.toRowW d [] (λf vs=>PySem.call f vs):=by
 intro w b Q m M G Y fa o p D c V I B u S g z x A v J i K F W O;obtain rfl:V=.none:=Dflts.none g Z;obtain rfl:I=.none:=Dflts.noKw g;let⟨a,vs,ns,rfl,rfl,X,s,H⟩:=U1 N i W;refine enter_call (jT (C w b Q m M fa o p D c a vs ns G Y B (fd_plain u) S z X s H x) λr s' E=>?_);let⟨rfl,j,k,t⟩:=E;exact⟨.inl ⟨.bool true,.bool true,[],rfl,λ_=>rfl,.bool true,U2 l _,λ_=>⟨List.Pairwise.nil,λ_ y=>(nomatch y)⟩⟩,j,k,t⟩
section
variable {K:Frag}
end
end Att
namespace L2
open PySem PySem.Spec PyProof.Rows
variable {B:Prop}
def rX:∀ {vs:Γ Θ}{ns:Γ Int},IntsAre vs ns->az (ns.map V.int) vs
 | _,_,.nil=>.nil
 | _,_,.cons n t h=>.cons ⟨t,rfl⟩ (rX h)
abbrev MF:JE:=λ_ _ _ _ _ _=>False
abbrev E0:XK:=λ_ _ _=>False
def J4:uG MF X E0:=λ_ _ _ _ _ _ _ h=>h.elim
structure HK(K:W.Frag)(x qual:Str)(st:Stmt)(f:Addr)(fd:FuncData):Prop where
 ex:∃ (oc:Θ) (od:Δ Ψ) (kV doc pm:Θ) (an:Δ Ψ) (Rx ct:Θ) (Vp:Array (Δ Θ)),
  fd=W.fnOf x qual (gy st) (b8 st) (aG st) .none kV doc pm an Rx ct/\K.lookup f=↑⟨oc,od,.func fd,Vp⟩/\W.codeIn K Rx qual=true
 kp:W.keepIn K (.ref f)=true
section
variable {K:Φ}
def HK.binds{st:Ω}(F:HK K x qual st f fd)
  (h:∀ (k d p:Θ) (a:Δ Ψ) (R c:Θ) (us:Γ Θ),us.length=ps.length->bindArgs (W.fnOf x qual (gy st) (b8 st) (aG st) .none k d p a R c) ⟨us,[]⟩=pure (ps.zip us)):Binds K fd ps []:=by
 let⟨o,O,k,d,p,a,R,c,V,rfl,l,S⟩:=F.ex;exact .all (h k d p a R c)
def uT{st:Ω}{V:Θ}(l:K.lookup f=↑⟨oc,od,.func (W.fnOf x qual (gy st) (b8 st) (aG st) .none V doc pm an U ct),Vp⟩)
  (c:W.codeIn K U qual=true) (k:W.keepIn K (.ref f)=true):HK K x qual st f (W.fnOf x qual (gy st) (b8 st) (aG st) .none V doc pm an U ct):=⟨⟨oc,od,V,doc,pm,an,U,ct,Vp,rfl,l,c⟩,k⟩
end
def Aa{A B:Prop}(h:B):if false=true then A else B:=by
 rw[yO xA];exact h
def Aw{A B:Prop}(h:A):if true=true then A else B:=by
 rw[yM rfl];exact h
def aO(H H':Hp):Prop:=∀b o,H b=↑o->H' b=↑o
def aO.refl(H:Hp):aO H H:=λ_ _ h=>h
def aO.trans(a:aO H H1)(b:aO H1 H2):aO H H2:=λc o h=>b c o (a c o h)
def aO.free(e:aO H H')(h:H' l=Option.none):H l=Option.none:=by
 cases q:H l with
 | none=>rfl
 | some o =>
  rw[e l o q] at h;cases h
def aO.seq{K:Φ}(e:aO H H')(h:iw K H a xs):iw K H' a xs:=by
 rcases h with (h|⟨o,h⟩)|h
 .exact .inl (.inl (e _ _ h))
 .exact .inl (.inr ⟨o,e _ _ h⟩)
 .exact .inr h
def bK:∀ (s:Γ (Str×NameKind)) (n:Nat) (acc:Γ (Str×Ψ)),cellsFrom n s acc=cellsFrom n s []++acc
 | [],_,_=>rfl
 | (e,k)::r,n,acc=>by
  unfold cellsFrom;split
  .rw[bK r (n+1) ((e,n)::acc),bK r (n+1) [(e,n)]];simp
  .exact bK r n acc
def jb:∀ {l m:Γ (Str×α)},(l++m).lookup x=↑c->l.lookup x=↑c\/(l.lookup x=none/\m.lookup x=↑c)
 | [],_,h=>.inr ⟨rfl,h⟩
 | (k,v)::r,m,h=>by
  have i:=@jb α x c r m;rw[xG,yB] at h;rw[yB];cases e:x == k with
  | true=>rw[e] at h;exact .inl h
  | false=>rw[e] at h;exact i h
def jf:∀ {l m:Γ (Str×α)},l.lookup x=↑c->(l++m).lookup x=↑c
 | [],_,h=>by cases h
 | (k,v)::r,m,h=>by
  have i:=@jf α x c r m;rw[yB] at h;rw[xG,yB];cases e:x == k with
  | true=>rw[e] at h;exact h
  | false=>rw[e] at h;exact i h
def hU:∀ {l m:Γ (Str×α)},l.lookup x=none->(l++m).lookup x=m.lookup x
 | [],_,_=>rfl
 | (k,v)::r,m,h=>by
  have i:=@hU α x r m;rw[yB] at h;rw[xG,yB];cases e:x == k with
  | true=>rw[e] at h;cases h
  | false=>rw[e] at h;exact i h
def fY:∀ (s:Γ (Str×NameKind)) (n:Nat) (x:Str) (c:Ψ),(x,c)∈cellsFrom n s []->(x,NameKind.cell)∈s
 | [],_,_,_,h=>by cases h
 | (e,k)::r,n,x,c,h=>by
  unfold cellsFrom at h;split at h
  .rename_i H;rw[bK] at h;rcases List.mem_append.mp h with h|h
   .exact zC _ (fY r _ x c h)
   .have:(x,c)=(e,n):=by simpa using h
    cases this;have:k=.cell:=by simpa using H
    subst this;exact zE
  .exact zC _ (fY r n x c h)
def dE(env:Env):Γ (Str×NameKind)->Γ (Str×Ψ)->Γ (Str×Ψ)
 | [],a=>a
 | (n,k)::r,a=>if k == .free then dE env r ((n,(env.cells.lookup n).getD 0)::a) else dE env r a
def lR(env:Env):∀ (s:Γ (Str×NameKind)) (acc:Γ (Str×Ψ)),(∀x∈s,x.2=.free->∃c,env.cells.lookup x.1=↑c) ->
  (forIn s acc (λ(p:Str×NameKind) (cs:Γ (Str×Ψ))=>(if p.2 == .free then (do let a <- cellOf env p.1;pure (.yield ((p.1,a)::cs))) else pure (.yield cs):Sem (ForInStep (Γ (Str×Ψ))))))=pure (dE env s acc)
 | [],acc,_=>rfl
 | (n,k)::r,acc,h=>by
  rw[List.forIn_cons];have R:=λx X=>h x (zC _ X);unfold dE;by_cases H:k=.free
  .let⟨c,hc⟩:=h (n,k) zE H;subst H;have e:cellOf env n=pure c:=by
    have S:env.cells.lookup n=↑c:=hc;unfold cellOf;rw[S]
   have S:env.cells.lookup n=↑c:=hc;simp?[beq_self_eq_true,xI,e,pure_bind,S,qH];exact lR env r _ R
  .have b:(k == NameKind.free)=false:=by simpa using H
   simp?[b,yP,qQ,pure_bind];exact lR env r _ R
def l9{env:Env}(h:∀x∈scope.names,x.2=.free->∃c,env.cells.lookup x.1=↑c):closureFor scope env=pure (dE env scope.names []):=by
 have:=lR env scope.names [] h;unfold closureFor;exact (bind_pure _).trans this
def k8{env:Env}:∀ {s:Γ (Str×NameKind)}{acc:Γ (Str×Ψ)},(∀x∈s,x.2=.free->∃c,env.cells.lookup x.1=↑c)->(∀x c,(x,c)∈acc->env.cells.lookup x=↑c) ->
  ∀x c,(x,c)∈dE env s acc->env.cells.lookup x=↑c
 | [],acc,_,a,x,c,m=>a x c m
 | (n,k)::r,acc,h,a,x,c,m=>by
  unfold dE at m;have R:=λx X=>h x (zC _ X);split at m
  .rename_i K;have Q:k=.free:=by simpa using K
   let⟨C,hc⟩:=h (n,k) zE Q;have hc:env.cells.lookup n=↑C:=hc;refine k8 R (λy d H=>?_) x c m;rcases List.mem_cons.mp H with e|H
   .cases e;rw[hc];rfl
   .exact a y d H
  .exact k8 R a x c m
def fL{env:Env}:∀ {s:Γ (Str×NameKind)}{acc:Γ (Str×Ψ)}{x:Str},(s.lookup x=↑.free\/∃c,acc.lookup x=↑c)->∃c,(dE env s acc).lookup x=↑c
 | [],acc,x,h=>by
  rcases h with h|h
  .cases h
  .exact h
 | (n,k)::r,acc,x,h=>by
  unfold dE;split
  .rename_i H;refine fL ?_;rcases h with h|⟨c,h⟩
   .rw[yB] at h;cases e:x == n with
    | true=>exact .inr ⟨_,by rw[yB,e]⟩
    | false=>rw[e] at h;exact .inl h
   .refine .inr ?_;rw[yB];cases e:x == n with
    | true=>exact⟨_,rfl⟩
    | false=>exact⟨c,h⟩
  .rename_i H;refine fL ?_;rcases h with h|h
   .rw[yB] at h;cases e:x == n with
    | true =>
     rw[e] at h;cases h;exact absurd rfl H
    | false=>rw[e] at h;exact .inl h
   .exact .inr h
def mV{env:Env}:∀ {s:Γ (Str×NameKind)}{x:Str}{k:NameKind},s.lookup x=↑k ->
  (s.map λ(n,k)=>if (k == NameKind.free&&env.scope.kind == .function&&env.kindOf n == some .cell) then (n,NameKind.cell) else (n,k)).lookup x=↑(if (k == NameKind.free&&env.scope.kind == .function&&env.kindOf x == some .cell) then NameKind.cell else k)
 | [],_,_,h=>by cases h
 | (n,k)::r,x,K,h=>by
  have i:=@mV env r x K;rw[zI];dsimp only;cases H:x == n with
  | true =>
   have e:x=n:=by simpa using H
   subst e;rw[yB,H] at h;cases h;split<;>simp[yB, *]
  | false =>
   rw[yB,H] at h;have i:=i h;split
   .rw[yB,H];exact i
   .rw[yB,H];exact i
def oS{env:Env}:∀ {s:Γ (Str×NameKind)}{x:Str},s.lookup x=none ->
  (s.map λ(n,k)=>if (k == NameKind.free&&env.scope.kind == .function&&env.kindOf n == some .cell) then (n,NameKind.cell) else (n,k)).lookup x=none
 | [],_,h=>rfl
 | (n,k)::r,x,h=>by
  have i:=@oS env r x;rw[zI];dsimp only;cases H:x == n with
  | true=>rw[yB,H] at h;cases h
  | false =>
   rw[yB,H] at h;split
   .rw[yB,H];exact i h
   .rw[yB,H];exact i h
def eF(X:Cx)(scope:ζ)(C:Ψ):Env :=
 { scope:=relabel scope X.env,locals:=C,globals:=X.env.globals,cells:=cellsFrom (C+1) scope.names (dE X.env scope.names []),qual:=X.env.qual,func:=none,code:=X.env.code,frame:=X.env.frame,builtins:=X.env.builtins }
def aR(X:Cx)(scope:ζ)(N:Γ Str)(fp:Γ Ψ)(s:Ξ)(H:Hp):Cx :=
 { X with N:=N,Q2:=s,QF:=H,env:=eF X scope s.heap.objs.size,outer:=X.stack,ex:=fp,fn:=λx=>decide (scope.names.lookup x=↑.cell),pn:=[],xe:=λ_ _=>False }
def Ap{M:Model}{A:ξ}{E:Θ->Ξ->Prop}{g:Ψ}{l:Γ (Str×Ψ)}{qual:Str}{env:Env}
  (q:∀h',h'.Ns s.heap.objs.size (λ_=>none)->(∀b o,s.heap.get? b=↑o->h'.get? b=↑o)->CellsOk h' (s.heap.objs.size+1) (cellsFrom (s.heap.objs.size+1) scope.names []) ->
   Q { scope:=scope,locals:=s.heap.objs.size,globals:=g,cells:=cellsFrom (s.heap.objs.size+1) scope.names l,qual:=qual,func:=none,code:=env.code,frame:=env.frame,builtins:=env.builtins } { s with heap:=h' }) :
  wpAny M A (newFunctionEnv scope g l [] qual none .none (↑env)) Q E s:=by
 simp?[newFunctionEnv,Option.isSome_some,xI];refine zV (wpAny_alloc ?_);refine zV (wpAny_layCells _ (λn k c=>by cases H:k == NameKind.cell<;>simp[H]) _ _ _ _ ?_);have O:=cellsFrom_ok scope.names (s.heap.push { cls:=.type "dict",data:=.dict #[] }) (s.heap.objs.size+1) [] ⟨λ_ _ m=>(nomatch m),List.Pairwise.nil⟩ (by rw[xK];exact yN _);rw[xK] at O;rw[show ({ s with heap:=s.heap.push { cls:=.type "dict",data:=.dict #[] } }:Ξ).heap.objs.size=s.heap.objs.size+1 from xK ..];rw[List.forIn_nil];refine zV (zW (zW ?_));exact q _ ((Heap.Ns.new s.heap (.type "dict")).keeps (pushCells_keeps _ _)) (λb o e=>pushCells_keeps _ _ b o (zU _ e)) O
section
variable {X:Cx}{pins:Γ (Ψ×Obj)}{σ σ':St}{H:Hp}{s:Ξ}{fp:Γ Ψ}{scope:ζ}{N:Γ Str}{h4:ι}
def kj(o:X.Ok)(R:∀x∈scope.names,x.2=.free->X.env.kindOf x.1=↑.cell\/X.env.kindOf x.1=↑.free):∀x∈scope.names,x.2=.free->∃c,X.env.cells.lookup x.1=↑c :=
 λx H k=>o.has x.1 (R x H k)
def nW(h:scope.names.lookup x=↑k):(eF X scope C).kindOf x=↑k\/(k=.free/\(eF X scope C).kindOf x=↑.cell):=by
 have q:=mV (env:=X.env) h;have Q:(eF X scope C).kindOf x=↑(if (k == NameKind.free&&X.env.scope.kind == .function&&X.env.kindOf x == some .cell) then NameKind.cell else k):=q;rw[Q];split
 .rename_i hc;have:k=.free:=by
   simp?[zF,vM] at hc;exact hc.1.1
  exact .inr ⟨this,rfl⟩
 .exact .inl rfl
def lG(h:(eF X scope C).kindOf x=↑k):scope.names.lookup x=↑k\/(k=.cell/\scope.names.lookup x=↑.free):=by
 cases e:scope.names.lookup x with
 | none =>
  have q:(eF X scope C).kindOf x=none:=oS (env:=X.env) e;rw[q] at h;cases h
 | some K =>
  rcases nW (X:=X) (C:=C) e with q|⟨q,Q⟩
  .rw[q] at h;cases h;exact .inl rfl
  .rw[Q] at h;cases h;subst q;exact .inr ⟨rfl,rfl⟩
def Ea(I:Inv X pins σ H s)(F:∀b∈fp,ck X pins H b)(G:∀b∈fp,b < s.heap.objs.size)(hk:scope.kind=.function)
  (A:∀x∈scope.names,x.2=.free->X.env.kindOf x.1=↑.cell\/X.env.kindOf x.1=↑.free)
  (Sn:h4.Ns s.heap.objs.size (λ_=>none)) (R:∀b o,s.heap.get? b=↑o->h4.get? b=↑o) (U:CellsOk h4 (s.heap.objs.size+1) (cellsFrom (s.heap.objs.size+1) scope.names []))
  (X1:∀ {x:Str},(x,NameKind.cell)∈scope.names->(x,NameKind.free)∈scope.names->False) (X2:∀ (i:Nat) (x:Str) (v:V),N[i]?=↑x->σ'[i]?=↑(↑v)->scope.names.lookup x=↑.free/\∃j:Nat,X.N[j]?=↑x/\σ[j]?=↑(↑v)) (f:σ'.length=N.length) (t':Nat) :
  Inv (aR X scope N fp s H) [] σ' H { s with heap:=h4,toks:=t' }:=by
 have So:=kj I.ok A;have D:∀x c,(dE X.env scope.names []).lookup x=↑c->X.env.cells.lookup x=↑c:=λx c e=>k8 So (λ_ _ z=>by cases z) x c (mem_of_lookup e);have l:∀x c,(eF X scope s.heap.objs.size).cells.lookup x=↑c->(x,c)∈cellsFrom (s.heap.objs.size+1) scope.names []\/X.env.cells.lookup x=↑c:=λx c e=>by
  have e:(cellsFrom (s.heap.objs.size+1) scope.names (dE X.env scope.names [])).lookup x=↑c:=e;rw[bK] at e;rcases jb e with q|⟨_,q⟩
  .exact .inl (mem_of_lookup q)
  .exact .inr (D x c q)
 have O:∀x c,X.env.cells.lookup x=↑c->c < s.heap.objs.size:=λx c e=>let ⟨_,q⟩:=I.cell x c e;q.lt;have w:∀x c,(x,c)∈cellsFrom (s.heap.objs.size+1) scope.names []->s.heap.objs.size < c:=λx c e=>(U.empty x c e).2;refine⟨⟨I.ok.mod,?_,I.ok.glob,I.ok.blt,yN _,?_,?_,?_,I.ok.hd,I.ok.frames,.inl rfl,?_,I.bs,yD I.ok.WW I.sz,?_,?_,I.stack,I.S5⟩,rfl,I.bare,Un.kept R,⟨_,Sn,?_⟩,?_,I.QK.fresh (yN _),?_,
  λp hp=>absurd (show p∈([]:Γ (Ψ×Obj)) from hp) (by simp),I.QK.kept R,f⟩
 .show (relabel scope X.env).kind=_;exact hk
 .intro x y c E t;rcases l x c E with a|a<;>rcases l y c t with b|b
  .exact name_of_addr U.apart a b
  .exact absurd (wU (w x c a) (O y c b)) (qF _)
  .exact absurd (wU (w y c b) (O x c a)) (qF _)
  .exact I.ok.inj x y c a b
 .intro x g;show ∃c,(cellsFrom (s.heap.objs.size+1) scope.names (dE X.env scope.names [])).lookup x=↑c;refine Option.isSome_iff_exists.mp (W.cellsFrom_some _ _ _ ?_);rcases g with g|g
  .rcases lG g with q|⟨_,q⟩
   .exact .inl q
   .exact .inr (Option.isSome_iff_exists.mpr (fL (.inl q)))
  .rcases lG g with q|⟨q,_⟩
   .exact .inr (Option.isSome_iff_exists.mpr (fL (.inl q)))
   .cases q
 .intro x c r e;have r:scope.names.lookup x=↑.cell:=yR r;have e:(cellsFrom (s.heap.objs.size+1) scope.names (dE X.env scope.names [])).lookup x=↑c:=e;let⟨J,S⟩:=pL (n:=s.heap.objs.size+1) r;rw[bK,jf S] at e;cases e;exact jU (w x c (mem_of_lookup S))
 .intro b B;refine⟨yS (G b B),λx c e z=>?_⟩;rcases l x c e with a|a
  .exact absurd (wU (w x c a) (by rw[z];exact G b B)) (qF _)
  .exact (F b B).2.2.2.2.1 x c a z
 .intro b o e B;let⟨f0,Q,Y,Z,f4,f5⟩:=F b B;rcases Z with z|z
  .exact I.ok.UY b o e z
  .exact absurd (zP (zY (I.ok.bs b o e).1) z) (qF _)
 .intro b B hz;let⟨f0,Q,Y,Z,f4,f5⟩:=F b B;rcases List.mem_cons.mp (I.T8 b hz) with z|z
  .exact Q z
  .exact Y z
 .intro i x v E t e3;let⟨T,j,hj,hv⟩:=X2 i x v E t;have hm:(x,NameKind.free)∈scope.names:=mem_of_lookup T;let⟨m,hn,hl⟩:=I.loc;have kx:=A _ hm rfl;let⟨u,ru,lk⟩:=hl j x v hj hv (kx.elim (λk=>.inr (.inl k)) λk=>.inr (.inr k));refine⟨u,ru,.inr ⟨?_,?_⟩⟩
  .rcases nW (X:=X) (C:=s.heap.objs.size) T with q|⟨_,q⟩
   .exact .inr q
   .exact .inl q
  .rcases lk with ⟨k,_⟩|⟨_,c,ec,ic⟩
   .have k:X.env.kindOf x=↑.local:=k;rcases kx with K|K<;>· rw[k] at K;cases K
   .let⟨J,S⟩:=fL (env:=X.env) (acc:=[]) (.inl T);have L:=D x J S;rw[ec] at L;cases L;refine⟨c,?_,ic.keeps R⟩;show (cellsFrom (s.heap.objs.size+1) scope.names (dE X.env scope.names [])).lookup x=↑c;rw[bK];cases P:(cellsFrom (s.heap.objs.size+1) scope.names []).lookup x with
    | none=>rw[hU P];exact S
    | some d =>
     have M:=fY _ _ _ _ (mem_of_lookup P);exact (X1 M hm).elim
 .intro x c e;rcases l x c e with a|a
  .exact⟨_,(U.empty x c a).1⟩
  .let⟨v,q⟩:=I.cell x c a;exact⟨v,q.keeps R⟩
 .intro x c e;rcases l x c e with a|a
  .exact I.QK.fresh (jU (w x c a))
  .exact I.Q8 x c a
end
abbrev w8(ifs:Γ γ)(env:Env):Sem θ:=forIn ifs true λc r=>if r=true then do let o <- isTrue c env (eval c env);pure (ForInStep.yield o) else pure (ForInStep.yield r)
def MJ(X:Cx)(ifs:Γ γ)(t:TT):Prop :=
 ∀ (p:Γ (Ψ×Obj)) (s:Ξ) (a:St) (H:Hp) (Q:θ->Hp->Prop),Inv X p a H s->t a H Q->wpAny (model X.prog X.w) X.A (w8 ifs X.env) (TP X p a Q) X.xe s
def HW:MJ X [] (λ_ H Q=>Q true H):=λ_ _ _ H _ I h=>wpAny_tests_nil ⟨H,I,h⟩
def G7(h:PT X c t):MJ X [c] t:=λp s a H Q I q=>wpAny_tests_one (h p s a H Q I q)
def ui{R:Result->Ξ->Prop}{elt t iter:γ}{ifs:Γ γ}{scope:ζ}{pos:Pos}{acc:Θ}{env:Env}(I:Nat->Ξ->Prop)
  (turn:∀n s,I n s->wpAny (model prog w) A (pyNext it) (λr Q=>match r with
   | none=>R (.ok .next) Q
   | some v=>wpAny (model prog w) A (letOwnedTupleGo t it v) (λ_ W=>wpAny (model prog w) A (assign t env v) (λ_ l =>
     wpAny (model prog w) A (w8 ifs env) (λo V =>
      if o=true then wpAny (model prog w) A (eval elt env) (λx b =>
       wpAny (model prog w) A (call (.builtin "list.append") [acc,x]) (λ_ Z=>∃m,m < n/\I m Z) (λ_ _=>False) b) (λ_ _=>False) V
      else ∃m,m < n/\I m V) (λ_ _=>False) l) (λ_ _=>False) W) (λ_ _=>False) Q) (λ_ _=>False) s)
  (n:Nat) (h:I n s) :
  codeAny (model prog w) A (.compLoop (.ListComp elt [⟨t,iter,ifs,0⟩] scope pos) 0 it acc env) R s:=by
 refine codeAny_loop rfl I (λn s c=>?_) n h;show wpAny _ A ((compTurn (.ListComp elt [⟨t,iter,ifs,0⟩] scope pos) 0 it acc env).onRaise (λx=>do noteFrame x env;theTreesLotGoes x)) _ _ s;refine wpAny_noted ?_;rw[compTurn_list];refine zV (vF (zV (xB (turn n s c) (λr Q g=>?_) λ_ _ H=>H.elim)));cases r with
 | none=>exact zW g
 | some v =>
  refine zV (xB g (λ_ W z=>?_) λ_ _ H=>H.elim);refine zV (xB z (λ_ l a=>zV (xB a (λo V i=>?_) λ_ _ H=>H.elim)) λ_ _ H=>H.elim);cases o with
  | false=>exact zW ⟨rfl,i⟩
  | true =>
   exact zV (zV (xB i (λx b C=>zV (xB C (λ_ Z D=>zW (zW ⟨rfl,D⟩)) λ_ _ H=>H.elim)) λ_ _ H=>H.elim))
def Cn(X:Cx)(pins:Γ (Ψ×Obj))(σ:St)(Q:VK)(acc:Θ)(C:Ψ)(r:Result)(s5:Ξ):Prop :=
 ∃ (D:Ψ) (H:Hp) (m:Str->Δ Θ),acc=.ref D/\r=.ok .next/\Inv X pins σ H s5/\s5.heap.Ns C m/\ck X pins H C/\Q (.ref D) H
def DV(J:It)(g:TG)(tt:TT)(te:TE)(D:Ψ)(a:St)(j:Hp)(Q:VK):Prop :=
 ∃W:Nat->Nat->St->Hp->Prop,(∃m,W 0 m a j)/\∀i m f H,W i m f H ->
  (J.stop i H/\Q (.ref D) H)\/(J.go i H/\∀x c,J.WZ i H x c->g x f c λU k=>tt U k λb d =>
   if b=true then te U d λv e=>∃y,e D=↑(.lst y)/\y.length < sizeLine/\∃M,M < m/\W (i+1) M U (upd e D (.lst (y++[v])))
   else ∃M,M < m/\W (i+1) M U d)
section
variable {X:Cx}{pins:Γ (Ψ×Obj)}{σ σ':St}{H:Hp}{s:Ξ}{scope:ζ}{N:Γ Str}
 {tg iter elt:γ}{ifs:Γ γ}{pos:Pos}{g:TG}{tt:TT}{te:TE}
def r6(hc:X.calm=true)(I:Inv X pins σ H s)(T:Turn X.prog X.w X.K tg J fp it tn)(st:tn 0 s.heap)(hf:∀b∈fp,ck X pins H b)(hk:scope.kind=.function)
  (Rw:∀x∈scope.names,x.2=.free->X.env.kindOf x.1=↑.cell\/X.env.kindOf x.1=↑.free) (X1:∀ {x:Str},(x,NameKind.cell)∈scope.names->(x,NameKind.free)∈scope.names->False)
  (X2:∀ (i:Nat) (x:Str) (v:V),N[i]?=↑x->σ'[i]?=↑(↑v)->scope.names.lookup x=↑.free/\∃j:Nat,X.N[j]?=↑x/\σ[j]?=↑(↑v)) (hlen:σ'.length=N.length)
  (hY:∀fp s H,PG (aR X scope N fp s H) tg g/\MJ (aR X scope N fp s H) ifs tt/\PE (aR X scope N fp s H) elt te)
  (hrd:∀D,H D=none->DV J g tt te D σ' (upd H D (.lst [])) Q) {E:Θ->Ξ->Prop} :
  wpAny (model X.prog X.w) X.A (newList []) (λacc Vy=>wpAny (model X.prog X.w) X.A (newFunctionEnv scope X.env.globals (dE X.env scope.names []) [] X.env.qual none .none (↑X.env)) (λVz Wr =>
   codeAny (model X.prog X.w) X.A (.compStart (.ListComp elt [⟨tg,iter,ifs,0⟩] scope pos) 0 (.ref it) acc { Vz with scope:=relabel scope X.env }) (Cn X pins σ Q acc Vz.locals) Wr) E Vy) E s:=by
 refine qM ?_;have Wa:∀b∈fp,b < s.heap.objs.size:=λb hb=>let ⟨o,e,_⟩:=T.obj _ _ st b hb;zY e;have I3:=I.XZ (ys:=[]) (its:=[]) (t':=s.toks) .nil (xW _);have hD:H s.heap.objs.size=none:=I.fresh;let⟨W,⟨m0,w0⟩,turn⟩:=hrd _ hD;generalize e3:({ s with heap:=s.heap.push { cls:=.type "list",data:=.seq ([]:Γ Θ).toArray },toks:=s.toks }:Ξ)=s3 at I3;have e3h:s3.heap=s.heap.push { cls:=.type "list",data:=.seq ([]:Γ Θ).toArray }:=by rw[<- e3]
 generalize hH3:upd H s.heap.objs.size (.lst [])=H3 at I3 w0 turn;have QR:s.heap.objs.size < s3.heap.objs.size:=by rw[e3h,xK];exact kP _
 have YQ:∀b o,s.heap.get? b=↑o->s3.heap.get? b=↑o:=λb o e=>by rw[e3h];exact zU _ e
 generalize s.heap.objs.size=D at *;have f3:∀b∈fp,ck X pins H3 b:=λb hb=>by
  let⟨f0,f⟩:=hf b hb;refine⟨?_,f⟩;rw[<- hH3,aB (yS (Wa b hb))];exact f0
 have Sk:tn 0 s3.heap:=T.keep _ _ _ st λb _ o e=>YQ b o e;refine Ap λh4 Sn hkp UJ=>?_;dsimp only;have I4:=Ea (N:=N) (σ':=σ') (fp:=fp) I3 f3 (λb hb=>wU (Wa b hb) QR) hk Rw Sn hkp UJ X1 X2 hlen s3.toks;have fC:∀H',H' s3.heap.objs.size=none->ck X pins H' s3.heap.objs.size:=λH' hn=>I3.RD (yN _) hn;let⟨hg,htt,W5⟩:=hY fp s3 H3;have efp:∀b∈fp,∀H':Hp,H' b=none->ck (aR X scope N fp s3 H3) [] H' b:=λb hb H' hn=>by
  refine⟨hn,(I4.ok.exf b hb).1,I4.ok.Vu b hb,.inl hb,(I4.ok.exf b hb).2,λp hp=>?_⟩;cases hp
 have loop:codeAny (model X.prog X.w) X.A (.compLoop (.ListComp elt [⟨tg,iter,ifs,0⟩] scope pos) 0 (.ref it) (.ref D) (eF X scope s3.heap.objs.size)) (Cn X pins σ Q (.ref D) s3.heap.objs.size) { s3 with heap:=h4 }:=by
  refine ui (λn s'=>∃i σ' H',Inv (aR X scope N fp s3 H3) [] σ' H' s'/\tn i s'.heap/\(∀b∈fp,H' b=none)/\W i n σ' H') ?_ m0
   ⟨0,σ',H3,I4,T.keep _ _ _ Sk λb _ o e=>hkp b o e,λb hb=>(f3 b hb).1,w0⟩
  rintro n s5 ⟨i,σ5,H5,I5,YL,fr5,w5⟩;rcases turn i n σ5 H5 w5 with ⟨stop,q⟩|⟨go,step⟩
  .refine bO (T.done (aR X scope N fp s3 H3) rfl rfl rfl hc i [] s5 σ5 H5 _ I5 (λb hb=>efp b hb H5 (fr5 b hb)) YL stop) λr s6 z=>?_;let⟨hr,I6⟩:=z;subst hr;let⟨m,hn6,_⟩:=I6.loc;refine⟨D,H5,m,rfl,rfl,I3.WX I6.os I6.base I6.QK I6.bare (λb hb=>?_),hn6,fC H5 I6.free,q⟩;let⟨f0,f1,f2,f4,f5,f6⟩:=f3 b hb;exact⟨f4,f1,f5,f6⟩
  .refine bO (T.item (aR X scope N fp s3 H3) rfl rfl rfl hc i [] s5 σ5 H5 _ I5 (λb hb=>efp b hb H5 (fr5 b hb)) YL go) λr s6 z=>?_;let⟨u,hr,h6⟩:=z;subst hr;refine bO h6 λ_ s7 z=>?_;let⟨x,H7,I7,r7,y7,st7,fr7⟩:=z;have I7':=I7.pinned (λb hb=>efp b hb H7 (fr7 b hb)) (T.obj _ _ st7);have again:∀ {pl:Γ (Ψ×Obj)}{σ9:St}{H9:Hp}{s9:Ξ}{n':Nat},Inv (aR X scope N fp s3 H3) ([]++oa fp s7.heap) σ9 H9 s9->W (i+1) n' σ9 H9->∃i σ' H',Inv (aR X scope N fp s3 H3) [] σ' H' s9/\tn i s9.heap/\(∀b∈fp,H' b=none)/\W i n' σ' H':=λ{pl σ9 H9 s9 n'} I9 w9=>by
    refine⟨i+1,σ9,H9,I9.QZ,T.keep _ _ _ st7 λb hb o e=>(I9.pin (b,o) (yE _ (yE _ (cQ hb e)))).1,λb hb=>?_,w9⟩;let⟨o,e,d⟩:=T.obj _ _ st7 b hb;exact (I9.pin (b,o) (yE _ (yE _ (cQ hb e)))).2.1
   refine bO (hg _ s7 σ5 H7 x u _ I7' r7 (step x H7 y7)) λ_ s8 z=>?_;let⟨σ8,H8,I8,q8⟩:=z;refine bO (htt _ s8 σ8 H8 _ I8 q8) λok s9 z=>?_;let⟨H9,I9,q9⟩:=z;cases ok with
   | false =>
    rw[yO (by decide)] at q9;rw[yO (by decide)];let⟨m',hm,w9⟩:=q9;exact⟨m',hm,again (pl:=[]) I9 w9⟩
   | true =>
    rw[yM rfl] at q9;rw[yM rfl];refine bO (W5 _ s9 σ8 H9 _ I9 q9) λy s10 z=>?_;let⟨v,H10,I10,r10,ys,acI,hz,m',hm,w10⟩:=z;refine bO (sN (X:=aR X scope N fp s3 H3) _ s10 σ8 H10 (.ref D) [v] (.ref D) [y] (λ_ H'=>W (i+1) m' σ8 H') I10 rfl (.cons r10 .nil) ⟨D,ys,v,rfl,rfl,acI,hz,w10⟩) λ_ s11 z=>?_;let⟨_,H11,I11,_,w11⟩:=z;exact⟨m',hm,again (pl:=[]) I11 w11⟩
 exact codeAny_compStart_list loop (T.self _ 0 _ _ _ (T.keep _ _ _ Sk λb _ o e=>hkp b o e) loop)
end
def GF(wi:TI)(g:TG)(tt:TT)(te:TE)(Rr:St->St):TE:=λb H Q=>wi b H λJ a=>∀D,a D=none->DV J g tt te D (Rr b) (upd a D (.lst [])) Q
structure iJ(X:Cx)(scope:Scope)(N:List Str)(Rr:St->St):Prop where
 kind:scope.kind=.function
 free:∀x∈scope.names,x.2=.free->X.env.kindOf x.1=↑.cell\/X.env.kindOf x.1=↑.free
 dup:∀ {x:Str},(x,NameKind.cell)∈scope.names->(x,NameKind.free)∈scope.names->False
 loc:∀x∈scope.names,x.2=.local -> scope.names.lookup x.1=↑.local
 cap:∀ (σ:St) (i:Nat) (x:Str) (v:V),N[i]?=↑x->(Rr σ)[i]?=↑(↑v)->scope.names.lookup x=↑.free/\∃j:Nat,X.N[j]?=↑x/\σ[j]?=↑(↑v)
 len:∀σ:St,(Rr σ).length=N.length
section
variable {X:Cx}{scope:ζ}{N:Γ Str}{Rr:St->St}{tg iter elt:γ}{ifs:Γ γ}{pos:Pos}{wi:TI}{g:TG}{tt:TT}{te:TE}
def Ik(hc:X.calm=true)(S:iJ X scope N Rr)(hi:PI X tg iter wi)
  (hY:∀fp s H,PG (aR X scope N fp s H) tg g/\MJ (aR X scope N fp s H) ifs tt/\PE (aR X scope N fp s H) elt te)
  (hs:∀x,foldedSetIterable iter X.env x=pure x:=by intro _;rfl):PE X (.ListComp elt [⟨tg,iter,ifs,0⟩] scope pos) (GF wi g tt te Rr):=by
 intro pins s σ H Q I h;rw[eval_ListComp];refine wpAny_comprehension_free (use:=none) rfl hs (l9 (kj I.ok S.free)) S.kind S.loc (bO (hi pins s σ H _ I h) λv s1 h1=>bO h1 λitv s2 h2=>?_);let⟨it,fp,tn,J,H2,e,I2,T,RE,f2,rd⟩:=h2;subst e;refine bO (r6 (iter:=iter) (pos:=pos) (E:=X.xe) hc I2 T RE f2 S.kind S.free S.dup (S.cap σ) (S.len σ) hY rd) λacc s3 h3=>bO h3 λVz s4 h4=>?_;refine jT h4 λr s5 h5=>?_;let⟨D,H5,m,rfl,rfl,I5,hn,fC,q⟩:=h5;refine⟨m,hn,λh' sb=>?_⟩;let⟨f0,f1,Ws,f3,f4,f5⟩:=fC;exact⟨.ref D,H5,I5.turned (t':=s5.toks) (λb o hb e=>(sb.2 b hb).trans e) f0 f1 f3 f4 f5,rfl,q⟩
def Hw(hc:X.calm=true)(S:iJ X scope N Rr)(hi:PI X tg iter wi)
  (hY:∀fp s H,PG (aR X scope N fp s H) tg g/\MJ (aR X scope N fp s H) ifs tt/\PE (aR X scope N fp s H) elt te)
  (hN:X.N.Nodup) (hiy:X.N[i]?=↑y) (hy:X.env.scope.names.lookup y=↑.local)
  (hsw:swapsWith (.ListComp elt [⟨tg,iter,ifs,0⟩] scope pos) (↑(.Name y py)) RX.line X.env=pure true)
  (hs:∀x,foldedSetIterable iter X.env x=pure x:=by intro _;rfl):PS X (.Assign [.Name y py] (.ListComp elt [⟨tg,iter,ifs,0⟩] scope pos) RX) (Ez (GF wi g tt te Rr) (vp i)):=by
 intro pins s σ H D I h;rw[exec_Assign_Name_used _ _ _ _ hsw];refine zV (vF (zV ?_));show wpAny _ X.A (do let _ <- comprehension (.ListComp elt [⟨tg,iter,ifs,0⟩] scope pos) scope X.env _ (newList []) false (eval iter X.env) (↑(assign (.Name y py) X.env))) _ _ s;refine zV (xB (wpAny_comprehension_free (use:=↑(assign (.Name y py) X.env)) (Q:=λ_ s'=>SP X pins D .next s') rfl hs (l9 (kj I.ok S.free)) S.kind S.loc
  (bO (hi pins s σ H _ I h) λv s1 h1=>bO h1 λitv s2 h2=>?_)) (λ_ s' hq=>zW (zW hq)) λ_ _ e=>e)
 let⟨it,fp,tn,J,H2,e,I2,T,RE,f2,rd⟩:=h2;subst e;refine bO (r6 (iter:=iter) (pos:=pos) (E:=X.xe) hc I2 T RE f2 S.kind S.free S.dup (S.cap σ) (S.len σ) hY rd) λacc s3 h3=>bO h3 λVz s4 h4=>?_;refine jT h4 λr s5 h5=>?_;let⟨D',H5,m,rfl,rfl,I5,hn,fC,q⟩:=h5;show wpAny _ X.A (assign (.Name y py) X.env (.ref D')) _ _ _;refine wpAny_assign_Name (sU (v:=.ref D') I5 hN hiy (.inl hy) rfl (λs6 I6 z=>?_) (.inr hy));let⟨a,sa,ha⟩:=z;let⟨f0,f1,Ws,f3,f4,f5⟩:=fC;have QS:Vz.locals≠a:=by
  rcases ha with z|z
  .rw[z];exact f1
  .exactλw=>f4 y a z w.symm
 refine⟨m,hn.sameBut sa QS,λh' sb=>?_⟩;exact⟨_,H5,I6.turned (t':=s6.toks) (λb o hb e=>(sb.2 b hb).trans e) f0 f1 f3 f4 f5,q⟩
end
abbrev OU(X:Cx)(qual:Str)(scope:ζ)(f c L:Ψ):Env:=W.envX qual scope L f (.ref c) (dE X.env scope.names [])
def gG(X:Cx)(A:ξ)(qual:Str)(scope:ζ)(N:Γ Str)(f c:Ψ)(s:Ξ)(H:Hp):Cx where
 prog:=X.prog
 w:=X.w
 K:=X.K
 mg:=X.mg
 base:=X.base
 A:=A.deeper (OU X qual scope f c s.heap.objs.size)
 N:=N
 Q2:=s
 QF:=H
 env:=OU X qual scope f c s.heap.objs.size
 outer:=X.stack
 stack:=OU X qual scope f c s.heap.objs.size::X.stack
 ex:=[]
 fn:=λ_=>false
 calm:=true
 pn:=[]
 xe:=λ_ _=>False
def Iw(I:Inv X pins σ H s)(hd:A.handled=none)(hA:A.frames=↑X.stack)(S:iJ X scope N Rr)(W6:∀x∈scope.names,x.2≠.cell)(W7:N[0]?=↑p)(hp:scope.names.lookup p=↑.local)(hNd:N.Nodup)(r:RelV v u)
  (Sn:h1.Ns s.heap.objs.size (λx=>[(p,u)].reverse.lookup x)) (Ry:∀b o,s.heap.get? b=↑o->h1.get? b=↑o) (t':Nat) :
  Inv (gG X A qual scope N f c s H) [] ((Rr σ).set 0 (↑v)) H { s with heap:=h1,toks:=t' }:=by
 have So:=kj I.ok S.free;have W3:∀x c,(dE X.env scope.names []).lookup x=↑c->X.env.cells.lookup x=↑c:=λx c e=>k8 So (λ_ _ z=>by cases z) x c (mem_of_lookup e);have V8:∀b:Ψ,b∉(gG X A qual scope N f c s H).ex:=λb z=>absurd (show b∈([]:Γ Ψ) from z) (by simp);refine⟨⟨I.ok.mod,S.kind,rfl,rfl,yN _,λx y d e1 e2=>I.ok.inj x y d (W3 x d e1) (W3 y d e2),λx hx=>?_,λx d z=>?_,λ_=>hd,Around.frames_deeper hA,.inr ⟨rfl,rfl⟩,λb z=>absurd z (V8 b),I.bs,yD I.ok.WW I.sz,λb _ _=>V8 b,λb z=>absurd z (V8 b),I.stack,I.S5⟩,
  rfl,I.bare,Un.kept Ry,⟨_,Sn,λi x w e1 e2 e3=>?_⟩,λx d e=>?_,I.QK.fresh (yN _),λx d e=>I.Q8 x d (W3 x d e),λq hq=>absurd (show q∈([]:Γ (Ψ×Obj)) from hq) (by simp),I.QK.kept Ry,?_⟩
 .rcases hx with hx|hx
  .exact absurd rfl (W6 _ (mem_of_lookup (show scope.names.lookup x=↑.cell from hx)))
  .exact fL (.inl hx)
 .cases z
 .cases i with
  | zero =>
   have e1:N[0]?=↑x:=e1;rw[W7] at e1;cases e1;have hl:0 < (Rr σ).length:=by rw[S.len];exact (List.getElem?_eq_some_iff.mp W7).1
   rw[vQ hl] at e2;cases e2;exact⟨u,r,.inl ⟨hp,by simp⟩⟩
  | succ i =>
   have e2':(Rr σ)[i+1]?=↑(↑w):=by
    rw[kW (by lia)] at e2;exact e2
   let⟨Tg,j,hj,hv⟩:=S.cap σ (i+1) x w e1 e2';have hm:(x,NameKind.free)∈scope.names:=mem_of_lookup Tg;let⟨m,hn,hl⟩:=I.loc;have kx:=S.free _ hm rfl;let⟨u',ru,lk⟩:=hl j x w hj hv (kx.elim (λk=>.inr (.inl k)) λk=>.inr (.inr k));refine⟨u',ru,.inr ⟨.inr Tg,?_⟩⟩;rcases lk with ⟨k,_⟩|⟨_,c',ec,ic⟩
   .have k:X.env.kindOf x=↑.local:=k;rcases kx with k'|k'<;>· rw[k] at k';cases k'
   .let⟨c'',Su⟩:=fL (env:=X.env) (acc:=[]) (.inl Tg);have e':=W3 x c'' Su;rw[ec] at e';cases e';exact⟨c',Su,ic.keeps Ry⟩
 .let⟨w,q⟩:=I.cell x d (W3 x d e);exact⟨w,q.keeps Ry⟩
 .rw[yC];exact S.len σ
def yr(I:Inv X pins σ H s)(R:dF (k+1) A)(D:A.frames=↑X.stack)(S:iJ X scope N Rr)(a:∀x∈scope.names,x.2≠.cell)
  (m:N[0]?=↑p) (P:scope.names.lookup p=↑.local) (d:N.Nodup) (l:scope.isCoroutine=false) (V:scope.isGenerator=false)
  (F:s.heap.get? f=↑(W.kla_obj name qual params body scope (dE X.env scope.names []) pm c U)) (B:H c=↑(.UX qual)) (E:bindArgs (W.kla_fn name qual params body scope (dE X.env scope.names []) pm (.ref c) U) ⟨[u],[]⟩=pure [(p,u)])
  (r:RelV v u) (Y:PE (gG X A qual scope N f c s H) body te) (q:te ((Rr σ).set 0 (↑v)) H Q) :
  wpAny (model X.prog X.w) A (call (.ref f) [u]) (EP X pins σ Q) (λ_ _=>False) s:=by
 have J:s.heap.CodeRec (.ref c) qual:=I.QK c _ B;refine wpAny_call (W.kla_callFunE R.depth F rfl l V rfl J ?_);rw[E];refine zW (wpAny_newFunctionEnv a (λy G=>?_) (λC n Z=>⟨?_,?_⟩) S.kind)
 .rw[List.mem_singleton.mp G];exact P
 .exact I.nolimit.fresh _ Z
 .have t:∀b o,s.heap.get? b=↑o->C.get? b=↑o:=λb o e=>Z.extBut b o (yS (zY e)) (zU _ e);have j:=Iw (qual:=qual) (f:=f) (c:=c) I R.hd D S a m P d r n t (s.toks+[(p,u)].length);refine W.kla_codeExpr (xB (Y [] _ _ H Q j q) (λw M z=>?_) λe M h=>False.elim h);let⟨O,g,i,L,K⟩:=z;exact⟨O,g,I.WX i.os i.base i.QK i.bare (λb z=>absurd (show b∈([]:Γ Ψ) from z) (by simp)),L,K⟩
def Af{pos:Pos}(l:Γ Θ)(h:TriplesOk l)(e:codeAmong pos' (l++[rawInt pos.line,rawInt pos.col,c])=↑v):codeAmong pos' l=↑v\/v=c:=by
 fun_induction TriplesOk l with
 | case1 =>
  simp?[xP,codeAmong,rawInt] at e;split at e
  .cases e;exact .inr rfl
  .cases e
 | case2 a t b u x rest ih =>
  simp?[xG,codeAmong] at e ⊢;split at e
  .rename_i hc;rw[yM hc];exact .inl e
  .rename_i hc;rw[yO hc];exact ih h e
 | case3 l h1 h2=>exact h.elim
def ym(I:Inv X pins σ H s)(S:iJ X scope N Rr)(hq:X.env.qual++"<lambda>"=qual)(SK:X.env.code=.ref c)(C:W.CodeHd X.base c P)(T:H P=↑(.tab qual))(hB:Ot X.mg X.base)
  (VC:defaultsOf params X.env=([],[]))
  (h:∀ (f a:Ψ) (pm Z:Θ) (s':Ξ) (H':Hp),Inv X pins σ H' s'->s'.heap.get? f=↑(W.kla_obj "<lambda>" qual params body scope (dE X.env scope.names []) pm a Z)->H' f=none->H' a=↑(.UX qual)->aO H H'->ck X pins H' f->(∀b,H' b≠none->H b≠none\/H' b=↑(.UX qual))->Q (.ref f) s') :
  wpAny (model X.prog X.w) X.A (eval (.Lambda params body scope RM) X.env) Q X.xe s:=by
 have So:=l9 (kj I.ok S.free);have j:=C.keeps I.bk;have hg:s.heap.Ns mainGlobals X.mg:=by
  let⟨o,es,ep,e,r⟩:=I.ok.mod.glob;exact⟨o,es,ep,I.bk _ _ e,r⟩
 have m:X.base.get? P=none:=by
  cases e:X.base.get? P with
  | none=>rfl
  | some o=>rw[(I.bs P o e).2] at T;cases T
 let⟨E,L,ht,UJ⟩:=I.QK P _ T;have B:s.heap.BuiltinsAt X.mg P:=by
  let⟨bm,o,b1,b2,b3,G,b5⟩:=hB;exact⟨bm,o,b1,b2,b3,(λz=>by rw[z,m] at G;cases G),I.bk _ _ G,b5⟩
 refine W.kla_eval VC ?_;rw[hq];cases M:codeAmong RM E.toList with
 | some cv =>
  let⟨a,rfl,Su⟩:=UJ RM cv M;refine W.kla_makeFunctionHit So I.ok.glob hg SK j L ht M B λZ g Y k x=>?_;have V:∀b o,s.heap.get? b=↑o->(g.push (W.kla_obj "<lambda>" qual params body scope (dE X.env scope.names []) ((X.mg "__name__").getD .none) a Z)).get? b=↑o:=λb o e=>zU _ (k b o e);have i:H g.objs.size=none:=I.QK.fresh x;exact h _ a _ Z _ H (I.kept (t':=Y) V) (zX _ rfl) i Su (.refl _) (I.RD x i) λb z=>.inl z
 | none =>
  have O:mainGlobals≠P:=λz=>by
   let⟨o,es,ep,e,r⟩:=I.ok.mod.glob;rw[z,m] at e;cases e
  refine W.kla_makeFunction So I.ok.glob hg SK j L ht M O B λa Z g Y hx K U0 R p=>?_;have i:H a=none:=I.QK.fresh K;have x:s.heap.objs.size<=g.objs.size:=jU (jA K U0);have nP:∀ {b:Ψ}{u:HO},H b=↑u->(∀q,u≠.tab q)->b≠P:=λ{b u} e QS z=>by subst z;rw[T] at e;cases e;exact QS _ rfl
  have k:∀b o,b≠P->s.heap.get? b=↑o->(g.push (W.kla_obj "<lambda>" qual params body scope (dE X.env scope.names []) ((X.mg "__name__").getD .none) a Z)).get? b=↑o:=λb o B e=>zU _ (hx b o B e);have hPc:P≠a:=λz=>by rw[<- z,T] at i;cases i
  have U:∀b u,H b=↑u->upd H a (.UX qual) b=↑u:=λb u e=>by rw[aB (aL e i)];exact e
  have un:Un X.fs [] H (upd H a (.UX qual)) s.heap (g.push (W.kla_obj "<lambda>" qual params body scope (dE X.env scope.names []) ((X.mg "__name__").getD .none) a Z)):=by
   refine⟨λb o e n _ _=>k b o (λz=>by rw[z,T] at n;cases n) e,λb o e n _ _=>⟨o.slots,k b o (λz=>by rw[z,T] at n;cases n) e⟩,λb o e n _=>?_,λb o e _=>?_,λb xs e=>U b _ e,λb o u e=>U b _ e,⟨λb u e _=>U b u e,λb q ps' e z=>?_⟩⟩
   .rw[aB (yS (zP (zY e) K))];exact n
   .by_cases B:b=P
    .subst B;exact⟨_,zU _ p⟩
    .exact⟨o,k b o B e⟩
   .by_cases B:b=P
    .subst B;rw[L] at z;cases z;exact⟨_,zU _ p⟩
    .exact⟨#[],by rw[Array.append_empty];exact k b _ B z⟩
  have QK:o7 X.prog X.w (upd H a (.UX qual)) (g.push (W.kla_obj "<lambda>" qual params body scope (dE X.env scope.names []) ((X.mg "__name__").getD .none) a Z)):=by
   intro b u e;by_cases l:b=a
   .subst l;rw[aI] at e;cases e;let⟨J,oc,vs,t,e0,e1,r⟩:=R;exact⟨J,oc,vs,t,e0,zU _ e1,r⟩
   .rw[aB l] at e;by_cases B:b=P
    .subst B;rw[T] at e;cases e;refine⟨_,zU _ p,?_,λy v hv=>?_⟩
     .have:=TriplesOk_snoc RM.line RM.col (.ref a) E.toList ht;simpa using this
     .have YR:codeAmong y (E.toList++[rawInt RM.line,rawInt RM.col,.ref a])=↑v:=by simpa using hv
      rcases Af E.toList ht YR with z|z
      .let⟨J,z1,z2⟩:=UJ y v z;exact⟨J,z1,U _ _ z2⟩
      .exact⟨a,z,aI⟩
    .exact (I.QK b u e).SY (λd o D eo=>k d o (by
      rcases D with rfl|D
      .exact B
      .exact nP D λq z=>by cases z) eo) (λd D=>U d _ D) λd o D _=>U d _ D
  have I':=I.un (t':=Y) un QK;have F:upd H a (.UX qual) g.objs.size=none:=by
   rw[aB (jJ U0)];exact I.QK.fresh x
  refine h _ a _ Z _ _ I' (zX _ rfl) F aI U (I.RD x F) λb z=>?_;by_cases l:b=a
  .subst l;exact .inr aI
  .rw[aB l] at z;exact .inl z
end L2
namespace Dl
open PySem L2 PySem.Spec PyProof.Rows
abbrev D:=PyData
abbrev mq(ns:Γ Int):D:=.tuple (ns.map PyData.int)
def qm(K:Φ)(H:Hp):Γ (D×D)->Γ (Γ rM×Ψ×Θ)->Prop
 | [],x=>x=[]
 | p::l,x=>∃n b r,p=(mq n,.bool true)/\x=(n.map Sum.inl,b,.bool true)::r/\f9 K H b (n.map V.int)/\qm K H l r
mutual
def Rep(K:Φ)(H:Hp):D->V->Prop
 | .none,v=>v=.QB
 | .bool b,v=>v=.bl b
 | .int i,v=>v=.int i
 | .str x,v=>v=.str x
 | .tuple d,v=>∃a s,v=.ref a/\f9 K H a s/\ak K H d s
 | .list d,v=>∃a s,v=.ref a/\iw K H a s/\ak K H d s
 | .dict l,v=>∃a X,v=.ref a/\H a=↑(.dT X)/\qm K H l X
def ak(K:Φ)(H:Hp):Γ D->Γ V->Prop
 | [],s=>s=[]
 | d::S,s=>∃v r,s=v::r/\Rep K H d v/\ak K H S r
end
def ax{K:Φ}(e:aO H H')(h:f9 K H a xs):f9 K H' a xs:=by
 rcases h with (h|⟨o,h⟩)|h
 .exact .inl (.inl (e _ _ h))
 .exact .inl (.inr ⟨o,e _ _ h⟩)
 .exact .inr h
def qm.mono{K:Φ}{H H':Hp}(e:aO H H'):∀ {l:Γ (D×D)}{xs:Γ (Γ rM×Ψ×Θ)},qm K H l xs->qm K H' l xs
 | [],_,h=>h
 | p::l,_,⟨n,b,r,a,c,d,f⟩=>⟨n,b,r,a,c,ax e d,qm.mono e f⟩
mutual
theorem Rep.mono{K:Φ}{H H':Hp}(e:aO H H'):∀ {d:D}{v:V},Rep K H d v->Rep K H' d v
 | .none,_,h=>h
 | .bool _,_,h=>h
 | .int _,_,h=>h
 | .str _,_,h=>h
 | .tuple S,_,h=>by
  simp?[Rep] at h ⊢;let⟨a,s,rfl,q,r⟩:=h;exact⟨a,s,rfl,ax e q,ak.mono e r⟩
 | .list S,_,h=>by
  simp?[Rep] at h ⊢;let⟨a,s,rfl,q,r⟩:=h;exact⟨a,s,rfl,e.seq q,ak.mono e r⟩
 | .dict l,_,h=>by
  simp?[Rep] at h ⊢;let⟨a,x,b,c,f⟩:=h;exact⟨a,x,b,e _ _ c,f.mono e⟩
theorem ak.mono{K:Φ}{H H':Hp}(e:aO H H'):∀ {ds:Γ D}{vs:Γ V},ak K H ds vs->ak K H' ds vs
 | [],_,h=>h
 | d::ds,_,h=>by
  simp?[ak] at h ⊢;let⟨v,r,rfl,a,b⟩:=h;exact⟨v,r,rfl,Rep.mono e a,ak.mono e b⟩
end
section
variable {K:Φ}
def ak.nil:ak K H [] []:=by simp[ak]
def ak.cons(a:Rep K H d v)(b:ak K H ds vs):ak K H (d::ds) (v::vs):=by
 simp?[ak];exact⟨v,vs,rfl,a,b⟩
def ak.cons_inv(h:ak K H (d::ds) vs):∃v r,vs=v::r/\Rep K H d v/\ak K H ds r:=by simpa only[ak] using h
def ak.nil_inv(h:ak K H [] vs):vs=[]:=by simpa only[ak] using h
def ak.length:∀ {ds:Γ D}{vs:Γ V},ak K H ds vs->vs.length=ds.length
 | [],_,h=>by rw[h.nil_inv];rfl
 | d::ds,_,h=>by let⟨v,r,rfl,_,b⟩:=h.cons_inv;simp[ak.length b]
def ak.get:∀ {ds:Γ D}{vs:Γ V}{i:Nat}{v:V},ak K H ds vs->vs[i]?=↑v->∃d,ds[i]?=↑d/\Rep K H d v
 | [],_,i,v,h,e=>by rw[h.nil_inv] at e;simp at e
 | d::ds,_,i,v,h,e=>by
  let⟨j,r,rfl,a,b⟩:=h.cons_inv;cases i with
  | zero=>simp at e;subst e;exact⟨d,rfl,a⟩
  | succ i=>simp at e;let⟨c,f,g⟩:=ak.get b e;exact⟨c,by simpa using f,g⟩
def ak.getD:∀ {ds:Γ D}{vs:Γ V}{i:Nat}{d:D},ak K H ds vs->ds[i]?=↑d->∃v,vs[i]?=↑v/\Rep K H d v
 | [],_,i,d,h,e=>by simp at e
 | d::ds,_,i,j,h,e=>by
  let⟨g,r,rfl,a,b⟩:=h.cons_inv;cases i with
  | zero=>simp at e;subst e;exact⟨g,rfl,a⟩
  | succ i=>simp at e;let⟨v,c,f⟩:=ak.getD b e;exact⟨v,by simpa using c,f⟩
def ak.append:∀ {ds es:Γ D}{vs us:Γ V},ak K H ds vs->ak K H es us->ak K H (ds++es) (vs++us)
 | [],_,_,_,h,g=>by rw[h.nil_inv];exact g
 | d::ds,_,_,_,h,g=>by let⟨v,r,rfl,a,b⟩:=h.cons_inv;exact ak.cons a (ak.append b g)
def ak.take:∀ {ds:Γ D}{vs:Γ V}(n:Nat),ak K H ds vs->ak K H (ds.take n) (vs.take n)
 | [],_,n,h=>by rw[h.nil_inv];simp[ak]
 | d::ds,_,0,h=>by simp[ak]
 | d::ds,_,n+1,h=>by let⟨v,r,rfl,a,b⟩:=h.cons_inv;exact ak.cons a (ak.take n b)
def ak.drop:∀ {ds:Γ D}{vs:Γ V}(n:Nat),ak K H ds vs->ak K H (ds.drop n) (vs.drop n)
 | [],_,n,h=>by rw[h.nil_inv];simp[ak]
 | d::ds,_,0,h=>h
 | d::ds,_,n+1,h=>by let⟨v,r,rfl,a,b⟩:=h.cons_inv;exact ak.drop n b
def ak.reverse:∀ {ds:Γ D}{vs:Γ V},ak K H ds vs->ak K H ds.reverse vs.reverse
 | [],_,h=>by rw[h.nil_inv];simp[ak]
 | d::ds,_,h=>by
  let⟨v,r,rfl,a,b⟩:=h.cons_inv;rw[vC,vC];exact ak.append (ak.reverse b) (ak.cons a ak.nil)
end
structure bM(HF H QH H':Hp):Prop where
 hh:aO H H'
 ff:aO HF QH
 fh:aO QH H'
 nw:∀a o,QH a=↑o->HF a=↑o\/H a=none
def bM.refl(s:aO HF H):bM HF H HF H:=⟨.refl _,.refl _,s,λ_ _ e=>.inl e⟩
def bM.trans(a:bM HF H U H1)(b:bM U H1 Rh H2):bM HF H Rh H2 :=
 ⟨a.hh.trans b.hh,a.ff.trans b.ff,b.fh,λx o e=>(b.nw x o e).elim (λz=>a.nw x o z) λz=>.inr (a.hh.free z)⟩
def dk(h:H p=none):aO H (upd H p o):=λb u e=>by rw[aB (aL e h)];exact e
def bM.new(s:aO HF H)(h:H p=none):bM HF H (upd HF p o) (upd H p o):=by
 have f:HF p=none:=s.free h;refine⟨dk h,dk f,λb u e=>?_,λb u e=>?_⟩
 .by_cases B:b=p
  .subst B;rw[aI] at e ⊢;exact e
  .rw[aB B] at e ⊢;exact s b u e
 .by_cases B:b=p
  .subst B;exact .inr h
  .rw[aB B] at e;exact .inl e
def bM.own(s:aO HF H)(h:H p=none):bM HF H HF (upd H p o) :=
 ⟨dk h,.refl _,λb u e=>by rw[aB (aL (s b u e) h)];exact s b u e,λ_ _ e=>.inl e⟩
def bM.freeze(g:bM HF H U H1)(h:H p=none)(a:H1 p=↑o)(f:U p=none):bM HF H (upd U p o) H1 :=
 ⟨g.hh,g.ff.trans (dk f),λb u e=>by
  by_cases B:b=p
  .subst B;rw[aI] at e;rw[a,<- e]
  .rw[aB B] at e;exact g.fh b u e,λb u e=>by
  by_cases B:b=p
  .subst B;exact .inr h
  .rw[aB B] at e;exact g.nw b u e⟩
def js:Γ Str:=["ways_of","turned_order","fairest"]
def fP(K:Φ)(HF:Hp):Prop:=∀ (f:Ψ) (o:Θ) (O:Δ Ψ) (d:η) (s:Array (Δ Θ)) (c P:Ψ),K.lookup f=↑⟨o,O,.func d,s⟩->d.qualname∈js->d.code=.ref c->W.codeHdIn K c P=true->HF P=↑(.tab (d.qualname++".<locals>."++"<lambda>"))
def fP.mono{K:Φ}(h:fP K HF)(e:aO HF U):fP K U:=λf o O F s c P a b d q=>e _ _ (h f o O F s c P a b d q)
abbrev Env:=Γ (Δ D)
structure cE(K:W.Frag)(HF:Hp)(ρ:Env)(σ:L2.St):Prop where
 get:∀ (i:Nat) (d:D),ρ[i]?=↑(↑d)->∃v,σ[i]?=↑(↑v)/\Rep K HF d v
 len:ρ.length<=σ.length
 tb:fP K HF
def cE.mono{K:Φ}(h:cE K HF ρ σ)(e:aO HF U):cE K U ρ σ:=⟨λi d q=>let ⟨v,a,b⟩:=h.get i d q;⟨v,a,b.mono e⟩,h.len,h.tb.mono e⟩
def tD(K:Φ)(f:Env->Δ D):TE:=λc H Q=>∃F b d,aO F H/\cE K F b c/\f b=↑d/\∀v a q,bM F H q a->Rep K q d v->Q v a
def DE(X:Cx)(e:γ)(f:Env->Δ D):Prop:=PE X e (tD X.K f)
def tF(K:Φ)(f:Env->Δ (Γ D)):TE:=λe H Q=>∃F c d,aO F H/\cE K F c e/\f c=↑d /\
 ∀a v b q,bM F H q b->H a=none->q a=none->b a=↑(.lst v)->ak K q d v->Q (.ref a) b
def DF(X:Cx)(e:γ)(f:Env->Δ (Γ D)):Prop:=PE X e (tF X.K f)
def KJ(K:Φ)(f:Env->Δ θ):TT:=λd H Q=>∃F c b,aO F H/\cE K F c d/\f c=↑b/\∀a q,bM F H q a->Q b a
def DT(X:Cx)(e:γ)(f:Env->Δ θ):Prop:=PT X e (KJ X.K f)
def OM(K:Φ)(f:Env->Δ (Γ D)):TA:=λc H Q=>∃F b d,aO F H/\cE K F b c/\f b=↑d/\∀v a q,bM F H q a->ak K q d v->Q v a
def DA(X:Cx)(es:Γ γ)(f:Env->Δ (Γ D)):Prop:=PA X es (OM X.K f)
def aW(h:PE X e t)(i:∀σ H Q,t' σ H Q->t σ H Q):PE X e t':=λp s σ H Q I q=>h p s σ H Q I (i σ H Q q)
def uu(h:PT X e t)(i:∀σ H Q,t' σ H Q->t σ H Q):PT X e t':=λp s σ H Q I q=>h p s σ H Q I (i σ H Q q)
def EH(h:PA X e t)(i:∀σ H Q,t' σ H Q->t σ H Q):PA X e t':=λP p s σ H Q I q=>h P p s σ H Q I (i σ H Q q)
def bs(h:x.bind f=↑b):∃a,x=↑a/\f a=↑b:=by
 cases x with
 | none=>cases h
 | some a=>exact⟨a,rfl,h⟩
def DF.de(h:DF X e f):DE X e (λρ=>(f ρ).map PyData.list):=aW h λk H Q z=>by
 let⟨b,ρ,d,m,o,F,q⟩:=z;have F:(f ρ).map PyData.list=↑d:=F;cases E:f ρ with
 | none=>rw[E] at F;cases F
 | some s =>
  rw[E] at F;obtain rfl:PyData.list s=d:=xE F;refine⟨b,ρ,s,m,o,E,λa v j c g A W i r=>q _ _ (upd c a (.lst v)) (g.freeze A i W) ?_⟩;simp?[Rep];exact⟨a,v,rfl,.inl (.inl aI),r.mono (dk W)⟩
def ab(i:Nat):Env->Δ D:=λa=>(a[i]?).getD none
def Mz(i:Nat)(n:X.N[i]?=↑x)(V:JF X.env.scope x)(D:(x == ("__debug__":Str))=false:=by decide)(S:(x == ("__classdict__":Str))=false:=by decide):DE X (.Name x pos) (ab i) :=
 aW (p7 n V D S) λg H Q z=>by
  let⟨F,c,d,s,E,f,q⟩:=z;have f:(c[i]?).getD none=↑d:=f;cases e:c[i]? with
  | none=>rw[e] at f;cases f
  | some o =>
   rw[e] at f;have f:o=↑d:=f;subst f;let⟨v,a,b⟩:=E.get i d e;exact⟨v,a,q v H F (.refl s) b⟩
def fC(d:D):Env->Δ D:=λ_=>↑d
def KM{i j pos}:DE X (.Constant (.int i) j pos) (fC (.int i)):=aW uZ λb H Q z=>by let⟨F,a,d,s,e,f,q⟩:=z;cases f;exact q _ H F (.refl s) (by simp[Rep])
def Ny{b j pos}:DE X (.Constant (.bool b) j pos) (fC (.bool b)):=aW NI λc H Q z=>by let⟨F,a,d,s,e,f,q⟩:=z;cases f;exact q _ H F (.refl s) (by simp[Rep])
def Kx{j pos}:DE X (.Constant .none j pos) (fC .none):=aW LO λb H Q z=>by let⟨F,a,d,s,e,f,q⟩:=z;cases f;exact q _ H F (.refl s) (by simp[Rep])
def Mf{x j pos}:DE X (.Constant (.str x) j pos) (fC (.str x)):=aW Lx λb H Q z=>by let⟨F,a,d,s,e,f,q⟩:=z;cases f;exact q _ H F (.refl s) (by simp[Rep])
def Jf(g:Gl X x)(m:X.mg x=↑(.int i t))(D:(x == ("__debug__":Str))=false:=by decide):DE X (.Name x pos) (fC (.int i)) :=
 aW (IJ (v:=.int i) g m ⟨t,rfl⟩ D) λb H Q z=>by let⟨F,a,d,s,e,f,q⟩:=z;cases f;exact q _ H F (.refl s) (by simp[Rep])
def eN(K:Φ)(r:R2)(g:D->D->Δ D):Prop:=∀F H x y V b d Q,aO F H->Rep K F x V->Rep K F y b->g x y=↑d->(∀v a q,bM F H q a->Rep K q d v->Q v a)->r V b H Q
def f2(g:D->D->Δ D)(f f2:Env->Δ D):Env->Δ D:=λa=>(f a).bind λx=>(f2 a).bind λy=>g x y
def IB{X:Cx}{fa fb:Env->Δ D}(n:eN X.K r g):∀σ H Q,tD X.K (f2 g fa fb) σ H Q->Na r (tD X.K fa) (tD X.K fb) σ H Q:=λσ H Q z=>by
 let⟨F,b,d,S,e,f,q⟩:=z;let⟨x,o,f⟩:=bs f;let⟨y,Y,m⟩:=bs f;exact⟨F,b,x,S,e,o,λV w j G p=>⟨j,b,y,G.fh,e.mono G.ff,Y,λu i R a s=>n R i x y V u d Q a.fh (p.mono a.ff) s m λv c k l t=>q v c k ((G.trans a).trans l) t⟩⟩
def xo(o:gY X (binaryOp op) r)(R:eN X.K r g)(H:DE X a fa)(B:DE X b fb):DE X (.BinOp a op b pos) (f2 g fa fb):=aW (MK o H B) (IB R)
def iZ(o:gY X (compareOp op) r)(R:eN X.K r g)(H:DE X a fa)(B:DE X b fb)(m:behindInMarks op b=false):DE X (.Compare a [op] [b] pos) (f2 g fa fb):=aW (IZ o H B m) (IB R)
def vg(C:Int->Int->Prop)[∀i j,Decidable (C i j)](g:Int->Int->D):D->D->Δ D
 | .int i,.int j=>if C i j then ↑(g i j) else none
 | _,_=>none
def Fo{K:Φ}{C:Int->Int->Prop}[∀i j,Decidable (C i j)]{G:Int->Int->Int}:eN K (rI C λi j=>.int (G i j)) (vg C λi j=>.int (G i j)):=by
 intro F H x y v V d Q s r R g q;cases x<;>cases y<;>simp?[vg] at g<;>try cases g
 rename_i i j;simp?[Rep] at r R;by_cases hc:C i j
 .rw[yM hc] at g;cases g;exact⟨i,j,r,R,hc,q _ H F (.refl s) (by simp[Rep])⟩
 .rw[yO hc] at g;cases g
def D7{K:Φ}{g:Int->Int->Int}:eN K (Hc λi j=>.int (g i j)) (vg (λ_ _=>True) λi j=>.int (g i j)):=by
 intro F H x y v V d Q s r R G q;cases x<;>cases y<;>simp?[vg] at G<;>try cases G
 rename_i i j;simp?[Rep] at r R;exact⟨i,j,r,R,q _ H F (.refl s) (by simp[Rep])⟩
def kf{K:Φ}{g:Int->Int->θ}:eN K (Hc λi j=>.bl (g i j)) (vg (λ_ _=>True) λi j=>.bool (g i j)):=by
 intro F H x y v V d Q s r R G q;cases x<;>cases y<;>simp?[vg] at G<;>try cases G
 rename_i i j;simp?[Rep] at r R;exact⟨i,j,r,R,q _ H F (.refl s) (by simp[Rep])⟩
noncomputable instance (i j:Int):Decidable (rS i j):=by unfold rS;infer_instance
noncomputable instance (i j:Int):Decidable (Hx i j):=by unfold Hx;infer_instance
section
variable {X:Cx}{a b c:γ}{fa fb fc:Env->Δ D}{pos:Pos}{rest:Γ γ}
def lu(fa fb:Env->Δ D):Env->Δ D:=λa=>(fa a).bind fun|.bool true=>fb a|.bool false=>↑(.bool false)|_=>none
def Qu(fa fb:Env->Δ D):Env->Δ D:=λa=>(fa a).bind fun|.bool true=>↑(.bool true)|.bool false=>fb a|_=>none
def NH:D->Δ D|.bool b=>↑(.bool (!b))|_=>none
def Pd(fa:Env->Δ D):Env->Δ D:=λa=>(fa a).bind NH
def Kt{op}(h:DE X a fa):DE X (.BoolOp op [a] pos) fa:=K8 h
def LY(A:DE X a fa)(B:DE X (.BoolOp .And (b::rest) pos) fb):DE X (.BoolOp .And (a::b::rest) pos) (lu fa fb):=aW (Kr A B) λo H Q z=>by
 let⟨F,i,d,s,e,f,q⟩:=z;let⟨x,n,f⟩:=bs f;refine⟨F,i,x,s,e,n,λV l c G R=>?_⟩;cases x<;>try cases f
 rename_i k;simp?[Rep] at R;refine⟨k,R,?_⟩;cases k with
 | true=>exact Aw ⟨c,i,d,G.fh,e.mono G.ff,f,λv j m g r=>q v j m (G.trans g) r⟩
 | false=>cases f;exact Aa (q _ l c G (by simp[Rep]))
def gB:D->Δ θ|.bool b=>↑b|_=>none
def fB(f:Env->Δ D):Env->Δ θ:=λa=>(f a).bind gB
def Au:∀σ H (Q:θ->Hp->Prop),KJ X.K (fB f) σ H Q->tD X.K f σ H λx a=>∃c,x=.bl c/\Q c a:=λσ H Q z=>by
 let⟨b,i,k,s,e,F,q⟩:=z;let⟨x,d,F⟩:=bs F;refine⟨b,i,x,s,e,d,λv a G g r=>?_⟩;cases x<;>try cases F
 simp?[Rep] at r;exact⟨_,r,q a G g⟩
def A2(h:DE X a f)(e:∀w,isTrue a X.env w=(do let v <- w;standAt a.pos;holding [v] (truthy v)):=by intro _;rfl):DT X a (fB f):=uu (L8 h e) Au
def iE(o:gY X (compareOp op) r)(R:eN X.K r g)(A:DE X a fa)(B:DE X b fb)(m:behindInMarks op b=false):DT X (.Compare a [op] [b] pos) (fB (f2 g fa fb)) :=
 uu (HS o A B m) λc H Q h=>IB R c H _ (Au c H Q h)
def fU(fa fb:Env->Δ θ):Env->Δ θ:=λa=>(fa a).bind fun|true=>fb a|false=>↑false
def nI(fa fb:Env->Δ θ):Env->Δ θ:=λa=>(fa a).bind fun|true=>↑true|false=>fb a
def bT(fa:Env->Δ θ):Env->Δ θ:=λa=>(fa a).map (!·)
variable {ta tb:Env->Δ θ}
def DW(X:Cx)(e:γ)(f:Env->Δ θ):Prop:=PW X e (KJ X.K f)
def DY(h:PW X e t)(i:∀σ H Q,t' σ H Q->t σ H Q):PW X e t':=λw p s σ H Q I q=>h w p s σ H Q I (i σ H Q q)
def DW.dt(h:DW X a ta):DT X a ta:=PW.pt h
def G0(H:DT X a ta):DW X (.BoolOp .And [a] pos) ta:=IF H
def KG(H:DT X a ta):DW X (.BoolOp .Or [a] pos) ta:=Lp H
def Li(A:DT X a ta)(B:DW X (.BoolOp .And (b::rest) pos) tb):DW X (.BoolOp .And (a::b::rest) pos) (fU ta tb):=DY (Ln A B) λn H Q z=>by
 let⟨F,i,d,s,e,f,q⟩:=z;let⟨x,m,f⟩:=bs f;refine⟨F,i,x,s,e,m,λk c G=>?_⟩;cases x with
 | true=>exact Aw ⟨c,i,d,G.fh,e.mono G.ff,f,λj l g=>q j l (G.trans g)⟩
 | false=>cases f;exact Aa (q k c G)
def Nb(A:DT X a ta)(B:DW X (.BoolOp .Or (b::rest) pos) tb):DW X (.BoolOp .Or (a::b::rest) pos) (nI ta tb):=DY (NJ A B) λn H Q z=>by
 let⟨F,i,d,s,e,f,q⟩:=z;let⟨x,m,f⟩:=bs f;refine⟨F,i,x,s,e,m,λk c G=>?_⟩;cases x with
 | false=>exact Aa ⟨c,i,d,G.fh,e.mono G.ff,f,λj l g=>q j l (G.trans g)⟩
 | true=>cases f;exact Aw (q k c G)
def KN(A:DT X a ta):DT X (.UnaryOp .Not a pos) (bT ta):=uu (KR A) λi H Q z=>by
 let⟨F,b,d,s,o,f,q⟩:=z;have f:(ta b).map (!·)=↑d:=f;cases e:ta b with
 | none=>rw[e] at f;cases f
 | some k=>rw[e] at f;cases f;exact⟨F,b,k,s,o,e,λc G g=>q c G g⟩
def PM(t:Env->Δ θ)(fa fb:Env->Δ D):Env->Δ D:=λa=>(t a).bind fun|true=>fa a|false=>fb a
def Ob(hc:DT X c ta)(A:DE X a fa)(B:DE X b fb):DE X (.IfExp c a b pos) (PM ta fa fb):=aW (Fg hc A B) λn H Q z=>by
 let⟨F,j,d,s,o,f,q⟩:=z;let⟨x,l,f⟩:=bs f;refine⟨F,j,x,s,o,l,λm k G=>?_⟩;cases x with
 | true=>exact Aw ⟨k,j,d,G.fh,o.mono G.ff,f,λv e i g r=>q v e i (G.trans g) r⟩
 | false=>exact Aa ⟨k,j,d,G.fh,o.mono G.ff,f,λv e i g r=>q v e i (G.trans g) r⟩
def kc(g g':D->D->Δ D)(fa fb fc:Env->Δ D):Env->Δ D:=λa=>(fa a).bind λx=>(fb a).bind λy=>(g x y).bind fun|.bool true=>(fc a).bind λz=>g' y z|.bool false=>↑(.bool false)|_=>none
def BO(D:eN X.K r g)(I:eN X.K U g'):∀σ H Q,tD X.K (kc g g' fa fb fc) σ H Q->zz r U (tD X.K fa) (tD X.K fb) (tD X.K fc) σ H Q:=λσ H Q z=>by
 let⟨F,i,d,S,e,f,q⟩:=z;let⟨x,E,f⟩:=bs f;let⟨y,Y,f⟩:=bs f;let⟨z,Z,f⟩:=bs f;refine⟨F,i,x,S,e,E,λO T t a L=>⟨t,i,y,a.fh,e.mono a.ff,Y,λV o A b l=>D A o x y O V z _ b.fh (L.mono b.ff) l Z λW p R j m=>?_⟩⟩;cases z<;>try cases f
 rename_i k;simp?[Rep] at m;refine⟨k,m,?_⟩;have G:=(a.trans b).trans j;cases k with
 | false=>cases f;exact Aa (q _ p R G (by simp[Rep]))
 | true =>
  let⟨w,hw,C⟩:=bs f;exact Aw ⟨R,i,w,G.fh,e.mono G.ff,hw,λP s J c M=>I J s y w V P d Q c.fh (l.mono (j.ff.trans c.ff)) M C λv n u B N=>q v n u ((G.trans c).trans B) N⟩
def Gw(o:gY X (compareOp op) r)(d:eN X.K r g)(W:gY X (compareOp U) r')(R:eN X.K r' g')(H:DE X a fa)(B:DE X b fb)(hc:DE X c fc)
  (m:lastMarks [op,U] [b,c]=false:=by with_unfolding_all rfl):DE X (.Compare a [op,U] [b,c] pos) (kc g g' fa fb fc):=aW (FD o W H B hc m) (BO d R)
def Es(o:gY X (compareOp op) r)(e:eN X.K r g)(W:gY X (compareOp U) r')(R:eN X.K r' g')(A:DE X a fa)(B:DE X b fb)(hc:DE X c fc)
  (m:lastMarks [op,U] [b,c]=false:=by with_unfolding_all rfl):DT X (.Compare a [op,U] [b,c] pos) (fB (kc g g' fa fb fc)) :=
 uu (FQ o W A B hc m) λd H Q h=>BO e R d H _ (Au d H Q h)
def af:Env->Δ (Γ D):=λ_=>↑[]
def aa(f:Env->Δ D)(g:Env->Δ (Γ D)):Env->Δ (Γ D):=λa=>(f a).bind λx=>(g a).map (x::·)
def qj:DA X [] af:=EH iR λb H Q z=>by let⟨F,a,d,s,e,f,q⟩:=z;cases f;exact q [] H F (.refl s) ak.nil
def mX(k:DE X e f)(hs:DA X es g)(S:starEach (e::es) X.env=(false,eval e X.env)::starEach es X.env:=by rfl):DA X (e::es) (aa f g) :=
 EH (dg k hs S) λt H Q z=>by
  let⟨i,a,d,s,o,F,q⟩:=z;let⟨x,l,F⟩:=bs F;have F:(g a).map (x::·)=↑d:=F;cases E:g a with
  | none=>rw[E] at F;cases F
  | some n =>
   rw[E] at F;cases F;exact⟨i,a,x,s,o,l,λv p j G r=>⟨j,a,n,G.fh,o.mono G.ff,E,λV c R b m=>q (v::V) c R (G.trans b) (ak.cons (r.mono b.ff) m)⟩⟩
variable {es:Γ γ}{fs:Env->Δ (Γ D)}
def small(ds:Γ D):Δ (Γ D):=if ds.length<=sizeLine then ↑ds else none
def fS{ds es:Γ D}(h:small ds=↑es):es=ds/\ds.length<=sizeLine:=by
 unfold small at h;split at h
 .cases h;exact⟨rfl,‹_›⟩
 .cases h
def aF(g:Env->Δ (Γ D)):Env->Δ D:=λa=>(g a).bind λd=>(small d).map PyData.tuple
def gc(g:Env->Δ (Γ D)):Env->Δ (Γ D):=λa=>(g a).bind small
def K0{x1}(h:DA X es fs):DE X (.Tuple es x1 pos) (aF fs):=aW (KP h) λc H Q z=>by
 let⟨F,a,d,m,o,f,q⟩:=z;let⟨s,x,f⟩:=bs f;have f:(small s).map PyData.tuple=↑d:=f;cases e:small s with
 | none=>rw[e] at f;cases f
 | some E =>
  rw[e] at f;cases f;let⟨rfl,Z⟩:=fS e;refine⟨F,a,_,m,o,x,λv b G g r=>⟨by rw[r.length];exact Z,λp P=>q _ _ (upd G p (.tup v)) (g.trans (.new g.fh P)) ?_⟩⟩;simp?[Rep];exact⟨p,v,rfl,.inl (.inl aI),r.mono (dk (g.fh.free P))⟩
def K2(h:DA X es fs):DF X (.List es pos) (gc fs):=aW (Mp h) λc H Q z=>by
 let⟨F,a,d,s,e,f,q⟩:=z;let⟨D,x,f⟩:=bs f;let⟨rfl,Z⟩:=fS f;exact⟨F,a,_,s,e,x,λv b G g r=>⟨by rw[r.length];exact Z,λp P=>q p v _ G (g.trans (.own g.fh P)) (g.hh.free P) (g.fh.free P) aI r⟩⟩
def aw:D->D->Δ D
 | .tuple d,.int i=>ud d i
 | .list d,.int i=>ud d i
 | _,_=>none
def yx{K:Φ}(r:ak K HF ds vs)(h:ud ds i=↑d):∃v,ud vs i=↑v/\Rep K HF d v:=by
 unfold ud at h ⊢;rw[r.length];let⟨j,H,h⟩:=bs h;let⟨v,a,b⟩:=r.getD h;exact⟨v,by rw[H];exact a,b⟩
def Mu{K:Φ}:eN K (P1 K) aw:=by
 intro F H x y f i d Q s R b g q;cases x<;>cases y<;>simp?[aw] at g<;>try cases g
 .simp?[Rep] at R b;let⟨a,e,rfl,S,r⟩:=R;let⟨v,V,c⟩:=yx r g;exact .inl ⟨a,e,_,v,rfl,b,s.seq S,V,q v H F (.refl s) c⟩
 .simp?[Rep] at R b;let⟨a,e,rfl,S,r⟩:=R;let⟨v,V,c⟩:=yx r g;exact .inr (.inl ⟨a,e,_,v,rfl,b,ax s S,V,q v H F (.refl s) c⟩)
def M3(H:DE X a fa)(B:DE X b fb)(hs:uF b:=by intro _ _;rfl):DE X (.Subscript a b pos) (f2 aw fa fb):=aW (Nv Mi H B hs) (IB Mu)
def qv{h:ι}:∀ {ns:Γ Int}{us:Γ Θ},az (ns.map V.int) us->∃s,ReadsAll h us (ns.map PyData.int) s
 | [],_,r=>by cases r;exact⟨_,.nil⟩
 | n::ns,_,r=>by
  rw[zI] at r ⊢;cases r with
  | cons a b =>
   let⟨t,rfl⟩:=a;let⟨s,q⟩:=qv b;exact⟨_,.cons (.int n t) q⟩
def r8{pins:Γ (Ψ×Obj)}{σ:L2.St}{H HF:Hp}{s:Ξ}(I:Inv X pins σ H s)(m:aO HF H):∀ {l:Γ (D×D)}{xs:Γ (Γ rM×Ψ×Θ)},qm X.K HF l xs ->
  ∃a B,ReadsAll s.heap ((xs.map (entryOfKey (tupleKind (iQ X.prog X.w)))).map (·.key)) (l.map (·.1)) a/\ReadsAll s.heap ((xs.map (entryOfKey (tupleKind (iQ X.prog X.w)))).map (·.val)) (l.map (·.2)) B
 | [],_,h=>by
  cases (show _=[] from h);exact⟨_,_,.nil,.nil⟩
 | p::l,_,⟨N,b,r,c,d,e,f⟩=>by
  subst c d;let⟨a,B,q,Q⟩:=r8 I m f;let⟨i,v,⟨o,O,hc,n,g⟩,_⟩:=I.tuple (ax m e);let⟨C,j⟩:=qv (h:=s.heap) v;exact⟨_,_,.cons (.tuple O hc g (by simpa using j)) q,.cons (.bool true) Q⟩
mutual
theorem fO{pins:Γ (Ψ×Obj)}{σ:L2.St}{H HF:Hp}{s:Ξ}(I:Inv X pins σ H s)(m:aO HF H):∀ {d:D}{v:V}{u:Θ},Rep X.K HF d v->RelV v u->∃A,Reads s.heap u d A
 | .none,_,_,h,r=>by simp?[Rep] at h;subst h;cases r;exact⟨_,.none⟩
 | .bool b,_,_,h,r=>by simp?[Rep] at h;subst h;cases r;exact⟨_,.bool b⟩
 | .int i,_,_,h,r=>by simp?[Rep] at h;subst h;let⟨t,rfl⟩:=r;exact⟨_,.int i t⟩
 | .str i,_,_,h,r=>by simp?[Rep] at h;subst h;let⟨t,rfl⟩:=r;exact⟨_,.str i t⟩
 | .tuple k,_,_,h,r=>by
  simp?[Rep] at h;let⟨a,z,rfl,S,R⟩:=h;cases r;let⟨f,g,⟨o,O,hc,n,c⟩,_⟩:=I.tuple (ax m S);let⟨A,q⟩:=oz I m R g;exact⟨A,.tuple O hc c (by simpa using q)⟩
 | .list k,_,_,h,r=>by
  simp?[Rep] at h;let⟨a,z,rfl,S,R⟩:=h;cases r;let⟨f,g,p,_⟩:=I.list (m.seq S);let⟨o,O,hc,n,c⟩:=p.isList;let⟨A,q⟩:=oz I m R g;exact⟨_,.list O hc c (by simpa using q)⟩
 | .dict l,_,_,h,r=>by
  simp?[Rep] at h;let⟨a,B,rfl,e,j⟩:=h;cases r;let⟨_,_,o,F,P,O,x,c,E,_⟩:=(show c8 X.prog X.w H s.heap a (.dT B) from I.QK a _ (m _ _ e))
  let⟨A,C,Q,y⟩:=r8 I m j;exact⟨_,.dict O x.1 c (by rw[E];exact Q) (by rw[E];exact y)⟩
theorem oz{pins:Γ (Ψ×Obj)}{σ:L2.St}{H HF:Hp}{s:Ξ}(I:Inv X pins σ H s)(m:aO HF H):∀ {ds:Γ D}{vs:Γ V}{us:Γ Θ},ak X.K HF ds vs->az vs us->∃A,ReadsAll s.heap us ds A
 | [],_,_,h,r=>by rw[h.nil_inv] at r;cases r;exact⟨_,.nil⟩
 | d::ds,_,_,h,r=>by
  let⟨v,c,rfl,a,b⟩:=h.cons_inv;cases r with
  | cons r R =>
   let⟨A,q⟩:=fO I m a r;let⟨B,p⟩:=oz I m b R;exact⟨_,.cons q p⟩
end
def Oo(K:Φ)(g:D->D->Δ θ):R2:=λv V H Q=>∃F x y k,aO F H/\Rep K F x v/\Rep K F y V/\g x y=↑k/\Q (.bl k) H
def oA{K:Φ}:eN K (Oo K g) (λx y=>(g x y).map PyData.bool):=by
 intro F H x y v V d Q s r R G q;have G:(g x y).map PyData.bool=↑d:=G;cases e:g x y with
 | none=>rw[e] at G;cases G
 | some k=>rw[e] at G;cases G;exact⟨F,x,y,k,s,r,R,e,q _ H F (.refl s) (by simp[Rep])⟩
def LH(x y:D):Δ θ:=if SeqAt.shaped x=true/\SeqAt.shaped y=true then ↑(PyData.eqv x y) else none
def ME(x y:D):Δ θ:=if SeqAt.shaped x=true/\SeqAt.shaped y=true then ↑(!PyData.eqv x y) else none
def FV(u:X.A.units+64 < cLine):gY X (compareOp .Eq) (Oo X.K LH):=by
 intro p s f H v V U e Q I c Y h;let⟨F,x,y,k,m,r,R,g,q⟩:=h;unfold LH at g;split at g<;>cases g;rename_i a;let⟨S,b⟩:=fO I m r c;let⟨d,B⟩:=fO I m R Y;exact eq_dataH b B a.1 a.2 u ⟨.bl _,H,I,rfl,q⟩
def GD(u:X.A.units+64 < cLine):gY X (compareOp .NotEq) (Oo X.K ME):=by
 intro p s f H v V U e Q I c Y h;let⟨F,x,y,k,m,r,R,g,q⟩:=h;unfold ME at g;split at g<;>cases g;rename_i a;let⟨S,b⟩:=fO I m r c;let⟨d,B⟩:=fO I m R Y;exact ne_dataH b B a.1 a.2 u ⟨.bl _,H,I,rfl,q⟩
def items:D->Δ (Γ D)|.tuple d=>↑d|.list d=>↑d|_=>none
end
def Oa(K:Φ)(n:Nat)(m:Γ D->Δ D):Sp:=λV H Q _=>∃F s d,aO F H/\fP K F/\ak K F s V/\s.length=n/\m s=↑d/\∀v a q,bM F H q a->Rep K q d v->Q v a
structure DK(P:Program)(w:World)(K:W.Frag)(mg:Str->Option Value)(base:Heap)(k:Nat)(x:Str)(n:Nat)(m:List D->Option D):Prop where
 ex:∃ (f:Ψ) (fd:η) (ps:Γ Str),oV P w K mg base MF k f fd ps (Oa K n m)/\mg x=↑(.ref f)/\W.keepIn K (.ref f)=true/\Binds K fd ps []
def DK.mono{K:Φ}(F:DK P w K mg base k x n m)(h:k<=j):DK P w K mg base j x n m:=by
 let⟨f,D,p,a,b,c,d⟩:=F.ex;exact⟨f,D,p,a.mono h,b,c,d⟩
def ah(n:Nat)(m:Γ D->Δ D)(fs:Env->Δ (Γ D)):Env->Δ D:=λa=>(fs a).bind λd=>if d.length=n then m d else none
def Jd(F:DK X.prog X.w X.K X.mg X.base k x n m)(C:dF k X.A)(u:Gl X x)(l:DA X (e::es) fs)(T:(x == ("__debug__":Str))=false:=by decide)
  (t:starEach (e::es) X.env=(false,eval e X.env)::starEach es X.env:=by rfl) (R:(backTo pos (starEach es X.env)).any (·.1)=false:=by rfl):DE X (.Call (.Name x p) (e::es) [] pos) (ah n m fs):=by
 let⟨f,P,U,O,M,y,B⟩:=F.ex;refine aW (HE (E:=E0) O C u M y B .nil J4 l T t R) λW H Q z=>?_;let⟨c,J,d,S,o,a,q⟩:=z;let⟨s,D,a⟩:=bs a;split at a
 .rename_i L;exact⟨c,J,s,S,o,D,λV N i G I=>⟨i,s,d,G.fh,o.tb.mono G.ff,by rw[qG];exact I,L,a,λv b j g r=>q v b j (G.trans g) r⟩⟩
 .cases a
def Ec(K:Φ)(r:Γ V->Hp->VK->Prop)(g:Γ D->Δ D):Prop:=∀F H s S d Q,aO F H->ak K F s S->g s=↑d->(∀v a q,bM F H q a->Rep K q d v->Q v a)->r S H Q
def bp(g:Γ D->Δ D)(fs:Env->Δ (Γ D)):Env->Δ D:=λa=>(fs a).bind g
def Nq{X:Cx}{fs:Env->Δ (Γ D)}(hs:Ec X.K r g):∀σ H Q,tD X.K (bp g fs) σ H Q->Ow r (OM X.K fs) σ H Q:=λσ H Q z=>by
 let⟨F,k,d,m,o,f,q⟩:=z;let⟨s,x,f⟩:=bs f;exact⟨F,k,s,m,o,x,λV b c G R=>hs c b s V d Q G.fh R f λv a e i j=>q v a e (G.trans i) j⟩
def Kd(K:Φ)(r:Γ V->Hp->VK->Prop)(g:Γ D->Δ (Γ D)):Prop:=∀F H d v e Q,aO F H->ak K F d v->g d=↑e ->
 (∀a u b q,bM F H q b->H a=none->q a=none->b a=↑(.lst u)->ak K q e u->Q (.ref a) b)->r v H Q
def m8(g:Γ D->Δ (Γ D))(fs:Env->Δ (Γ D)):Env->Δ (Γ D):=λa=>(fs a).bind g
def NP{X:Cx}{fs:Env->Δ (Γ D)}(hs:Kd X.K r g):∀σ H Q,tF X.K (m8 g fs) σ H Q->Ow r (OM X.K fs) σ H Q:=λσ H Q z=>by
 let⟨F,n,d,m,o,f,q⟩:=z;let⟨s,x,f⟩:=bs f;exact⟨F,n,s,m,o,x,λv c e G R=>hs e c s v d Q G.fh R f λa u b i j A W k l=>q a u b i (G.trans j) (G.hh.free A) W k l⟩
structure ou(X:Cx)(x:Str)(v:Value):Prop where
 gl:Gl X x
 mg:X.mg x=none
 bt:bootBuiltins x=↑v
def j9{id:String}(hc:fJ X (.builtin id) r)(hs:Ec X.K r g)(B:ou X x (.builtin id))(a:DA X (e::es) fs)(n:x≠"__name__":=by decide)(T:(x == ("__debug__":Str))=false:=by decide)
  (H:starEach (e::es) X.env=(false,eval e X.env)::starEach es X.env:=by rfl) (R:(backTo pos (starEach es X.env)).any (·.1)=false:=by rfl):DE X (.Call (.Name x p) (e::es) [] pos) (bp g fs) :=
 aW (ny hc B.gl B.mg B.bt a n T H R) (Nq hs)
def Gc{id:String}(hc:fJ X (.builtin id) r)(hs:Kd X.K r g)(B:ou X x (.builtin id))(a:DA X (e::es) fs)(n:x≠"__name__":=by decide)(T:(x == ("__debug__":Str))=false:=by decide)
  (H:starEach (e::es) X.env=(false,eval e X.env)::starEach es X.env:=by rfl) (R:(backTo pos (starEach es X.env)).any (·.1)=false:=by rfl):DF X (.Call (.Name x p) (e::es) [] pos) (m8 g fs) :=
 aW (ny hc B.gl B.mg B.bt a n T H R) (NP hs)
def CT(hc:fJ X (.type T) r)(hs:Ec X.K r g)(B:ou X x (.type T))(a:DA X (e::es) fs)(n:x≠"__name__":=by decide)(t:(x == ("__debug__":Str))=false:=by decide)
  (H:starEach (e::es) X.env=(false,eval e X.env)::starEach es X.env:=by rfl) (R:(backTo pos (starEach es X.env)).any (·.1)=false:=by rfl):DE X (.Call (.Name x p) (e::es) [] pos) (bp g fs) :=
 aW (sY hc B.gl B.mg B.bt a n t H R) (Nq hs)
def gq:D->Δ (Γ D)|.tuple d=>↑d|.list d=>↑d|_=>none
def oneOf:Γ D->Δ D|[d]=>↑d|_=>none
def fZ(h:oneOf ds=↑d):ds=[d]:=by
 cases ds with
 | nil=>cases h
 | cons x r=>cases r with
  | nil=>cases h;rfl
  | cons _ _=>cases h
def lX(h:gq d=↑ds):d=.tuple ds\/d=.list ds:=by
 cases d<;>cases h
 .exact .inr rfl
 .exact .inl rfl
def eK:Γ D->Δ (Γ D):=λd=>(oneOf d).bind gq
def kh{ds es:Γ D}(h:eK ds=↑es):ds=[.tuple es]\/ds=[.list es]:=by
 let⟨d,H,a⟩:=bs h;rw[fZ H];rcases lX a with rfl|rfl
 .exact .inl rfl
 .exact .inr rfl
def bE:Γ D->Δ D:=λd=>(eK d).map λe=>.int e.length
def ag{α c:Type}{x:Δ α}{f:α->c}{b:c}(h:x.map f=↑b):∃a,x=↑a/\f a=b:=by
 cases x with
 | none=>cases h
 | some a=>exact⟨a,rfl,xE h⟩
def Jq{K:Φ}:Ec K (λxs H Q=>∃p ys,xs=[.ref p]/\(iw K H p ys\/f9 K H p ys)/\Q (.int ys.length) H) bE:=by
 intro F H D V d Q s r g q;let⟨e,c,rfl⟩:=ag g;rcases kh c with rfl|rfl
 all_goals
  let⟨v,f,rfl,a,b⟩:=r.cons_inv;rw[b.nil_inv];simp?[Rep] at a;let⟨p,u,rfl,h,R⟩:=a
 .exact⟨p,u,rfl,.inr (ax s h),q _ H F (.refl s) (by simp[Rep,R.length])⟩
 .exact⟨p,u,rfl,.inl (s.seq h),q _ H F (.refl s) (by simp[Rep,R.length])⟩
def LL(B:ou X "len" (.builtin "len"))(a:DA X [e] fs)(H:starEach [e] X.env=(false,eval e X.env)::starEach [] X.env:=by rfl):DE X (.Call (.Name "len" p) [e] [] pos) (bp bE fs) :=
 j9 uo Jq B a (by decide) (by decide) H rfl
def cD{K:Φ}(h:HF l=none)(r:ak K HF ds vs):Rep K (upd HF l (.tup vs)) (.tuple ds) (.ref l):=by
 simp?[Rep];exact⟨l,vs,rfl,.inl (.inl aI),r.mono (dk h)⟩
def CS{K:Φ}:Ec K (λxs H Q=>∃p ys,xs=[.ref p]/\((iw K H p ys/\∀l,H l=none->Q (.ref l) (upd H l (.tup ys)))\/(f9 K H p ys/\Q (.ref p) H))) (λds=>(eK ds).map PyData.tuple):=by
 intro F H ds V d Q s r g q;let⟨e,c,rfl⟩:=ag g;rcases kh c with rfl|rfl
 all_goals
  let⟨v,f,rfl,a,b⟩:=r.cons_inv;rw[b.nil_inv];have A:=a;simp?[Rep] at a;let⟨p,u,rfl,h,R⟩:=a
 .exact⟨p,u,rfl,.inr ⟨ax s h,q _ H F (.refl s) A⟩⟩
 .exact⟨p,u,rfl,.inl ⟨s.seq h,λl L=>q _ _ _ (.new s L) (cD (s.free L) R)⟩⟩
def EM(B:ou X "tuple" (.type "tuple"))(a:DA X [e] fs)(H:starEach [e] X.env=(false,eval e X.env)::starEach [] X.env:=by rfl):DE X (.Call (.Name "tuple" p) [e] [] pos) (bp (λds=>(eK ds).map PyData.tuple) fs) :=
 CT rT CS B a (by decide) (by decide) H rfl
def gP:D->String|.none=>"NoneType" | .bool _=>"bool" | .int _=>"int" | .str _=>"str" | .tuple _=>"tuple" | .list _=>"list" | .dict _=>"dict"
def uh(a b:String):Δ θ:=if ((Value.type a) == (Value.type b))=true then ↑true else if W.kitMeta b=true then (fastBuiltinMro a).map (·.contains (Value.type b)) else none
def Jo:∀a∈["NoneType","bool","int","str","tuple","list"],uh a "int"=↑(a == "int"||a == "bool"):=by decide +kernel
def GB:∀a∈["NoneType","bool","int","str","tuple","list"],uh a "bool"=↑(a == "bool"):=by decide +kernel
def kit_tuple:∀a∈["NoneType","bool","int","str","tuple","list"],uh a "tuple"=↑(a == "tuple"):=by decide +kernel
def ET{A:ξ}{E:Θ->Ξ->Prop}(I:Inv X pins σ H s)(m:aO HF H)(r:Rep X.K HF d v)(R:RelV v u)
  (e:uh (gP d) T=↑k) (h:∀g,Q (.bool k) { s with toks:=g }):wpAny (model X.prog X.w) A (call (.builtin "isinstance") [u,.type T]) Q E s:=by
 have b:W.kitOne X.K (.type (gP d)) (.type T)=↑k:=e;cases d<;>simp?[Rep] at r
 .subst r;cases R;exact W.kia_one W.kitx_none I.UE True.intro b (λz=>nomatch z) h
 .subst r;cases R;exact W.kia_one W.kitx_bool I.UE True.intro b (λz=>nomatch z) h
 .subst r;let⟨t,rfl⟩:=R;exact W.kia_one W.kitx_int I.UE True.intro b (λz=>nomatch z) h
 .subst r;let⟨t,rfl⟩:=R;exact W.kia_one W.kitx_str I.UE True.intro b (λz=>nomatch z) h
 .let⟨a,V,rfl,S,f⟩:=r;cases R;let⟨i,R,p,_⟩:=I.list (m.seq S);let⟨o,O,hc,n,D⟩:=p.isList;exact W.kia_one W.kitx_list I.UE ⟨o,O,hc⟩ b (λz=>nomatch z) h
 .let⟨a,V,rfl,S,f⟩:=r;cases R;let⟨i,R,⟨o,O,hc,n,D⟩,_⟩:=I.tuple (ax m S);exact W.kia_one W.kitx_tuple I.UE ⟨o,O,hc⟩ b (λz=>nomatch z) h
 .let⟨a,j,rfl,c,_⟩:=r;cases R;let⟨_,_,o,l,P,O,x,_⟩:=(show c8 X.prog X.w H s.heap a (.dT j) from I.QK a _ (m _ _ c))
  exact W.kia_one W.kitx_dict I.UE ⟨o,O,x.1⟩ b (λz=>nomatch z) h
def J8(T:String)(f:Env->Δ D):Env->Δ D:=λa=>(f a).bind λd=>(uh (gP d) T).map PyData.bool
def MS(B:ou X "isinstance" (.builtin "isinstance"))(C:ou X U (.type T))(h:DE X e f)(n:U≠"__name__":=by decide)(D:(U == ("__debug__":Str))=false:=by decide)
  (E:starEach [e,.Name U pT] X.env=(false,eval e X.env)::starEach [.Name U pT] X.env:=by rfl):DE X (.Call (.Name "isinstance" p) [e,.Name U pT] [] pos) (J8 T f):=by
 have hc:fJ X (.builtin "isinstance") (λS H Q=>∃F d v k,S=[v,.ty T]/\aO F H/\Rep X.K F d v/\uh (gP d) T=↑k/\Q (.bl k) H):=by
  intro P s w H S J Q I r h;let⟨F,d,v,k,rfl,m,l,b,q⟩:=h;cases r with
  | cons A t =>
   cases t with
   | cons j N =>
    cases N;cases j;exact ET I m l A b λy=>⟨.bl k,H,I.tok _,rfl,q⟩
 refine aW (ny hc B.gl B.mg B.bt (dg h (dg (Ig (v:=.ty T) C.gl C.mg C.bt rfl n D) iR) E) (by decide) (by decide) E rfl) λw H Q z=>?_;let⟨F,u,d,m,o,a,q⟩:=z;let⟨x,i,a⟩:=bs a;let⟨k,b,rfl⟩:=ag a;exact⟨F,u,x,m,o,i,λV c G g R=>⟨G,x,V,k,rfl,g.fh,R,b,q _ c G g (by simp[Rep])⟩⟩
def Jl:D->D->Δ D
 | .tuple x,.tuple y=>(small (x++y)).map PyData.tuple
 | _,_=>none
def Bt(K:Φ):R2:=λx y H Q=>∃a b s Y,x=.ref a/\y=.ref b/\f9 K H a s/\f9 K H b Y/\s.length+Y.length<=sizeLine /\
 (s=[]->Q (.ref b) H)/\(Y=[]->Q (.ref a) H)/\(∀p,H p=none->Q (.ref p) (upd H p (.tup (s++Y))))
def C6:gY X (binaryOp .Add) (Bt X.K):=by
 intro P s J H x y v u Q I r R h;let⟨a,b,S,G,rfl,rfl,A,B,z,q,t,w⟩:=h;by_cases f:S=[]
 .cases r;cases R;let⟨i,E,l,_⟩:=I.tuple A;let⟨F,T,m,_⟩:=I.tuple B;let⟨⟨C,j,D,L⟩,o,hc,n,g⟩:=id l;let⟨⟨M,Y,d,O⟩,V,U,N,c⟩:=id m;simp only at hc g U c;subst hc g U c;have e:i=[]:=(L2.az.RQ E).mpr f;exact wR ⟨_,o,rfl⟩ ⟨_,V,rfl⟩ noFill_tuple_add seq_tuple_add vO vJ (vH _ _)
   (tuple_addW0 a b i.toArray F.toArray n N j Y L O (by simp[e])) ⟨o,V,⟨.ref b,H,I,rfl,q f⟩⟩
 .exact HP P s J H _ _ v u Q I r R ⟨a,b,S,G,rfl,rfl,A,B,f,z,t,λ_ p k=>w p k⟩
def Ji{K:Φ}:eN K (Bt K) Jl:=by
 intro F H x y V l d Q s r c g q;cases x<;>cases y<;>simp?[Jl] at g<;>try cases g
 rename_i X Y;let⟨E,i,rfl⟩:=ag g;let⟨rfl,z⟩:=fS i;have R:=r;have f:=c;simp?[Rep] at r c;let⟨a,v,rfl,j,A⟩:=r;let⟨b,u,rfl,k,B⟩:=c;refine⟨a,b,v,u,rfl,rfl,ax s j,ax s k,by rw[A.length,B.length,<- zN];exact z,λe=>?_,λe=>?_,λp P=>q _ _ _ (.new s P) (cD (s.free P) (A.append B))⟩
 .have:X=[]:=by have:=A.length;rw[e] at this;exact List.length_eq_zero_iff.mp this.symm
  subst this;exact q _ H F (.refl s) f
 .have:Y=[]:=by have:=B.length;rw[e] at this;exact List.length_eq_zero_iff.mp this.symm
  subst this;rw[qG] at q;exact q _ H F (.refl s) R
structure r0(K:W.Frag)(J:It)(HF:Hp)(ds:List D):Prop where
 go:∀i d Rk QU,ds[i]?=↑d->aO HF QU->aO QU Rk->J.go i Rk/\∀x T9,J.WZ i Rk x T9->∃W8,bM QU Rk W8 T9/\Rep K W8 d x
 stop:∀Rk QU,aO HF QU->aO QU Rk->J.stop ds.length Rk
def P2(K:Φ)(f:Env->Δ (Γ D)):TI:=λc H R=>∃F b d,aO F H/\cE K F b c/\f b=↑d/\∀J a Q,bM F H Q a->r0 K J Q d->R J a
def DI(X:Cx)(tg iter:γ)(f:Env->Δ (Γ D)):Prop:=PI X tg iter (P2 X.K f)
def Cz{K:Φ}(h:iw K HF a vs)(r:ak K HF ds vs):r0 K (OK K a) HF ds where
 go:=λi d R Q e s S=>by
  let⟨v,H,V⟩:=r.getD e;have q:=S.seq (s.seq h);refine⟨⟨vs,v,q,H⟩,λx T ⟨E,y⟩=>⟨Q,by rw[E];exact .refl S,?_⟩⟩;have:=y vs q;rw[H] at this;cases this;exact V.mono s
 stop:=λR Q s S=>⟨vs,S.seq (s.seq h),by rw[r.length];exact yN _⟩
def Fk{K:Φ}(h:f9 K HF a vs)(r:ak K HF ds vs):r0 K (Ph K a) HF ds where
 go:=λi d R Q e s S=>by
  let⟨v,H,V⟩:=r.getD e;have q:=ax S (ax s h);refine⟨⟨vs,v,q,H⟩,λx T ⟨E,y⟩=>⟨Q,by rw[E];exact .refl S,?_⟩⟩;have:=y vs q;rw[H] at this;cases this;exact V.mono s
 stop:=λR Q s S=>⟨vs,ax S (ax s h),by rw[r.length];exact yN _⟩
def Av{K:Φ}{lo:Int}:r0 K (Om lo n) HF ((List.range n).map λi=>PyData.int (lo+(i:Nat))) where
 go:=λi d k Q e S s=>by
  rw[zO] at e;let⟨j,J,rfl⟩:=ag e;let⟨H,o⟩:=List.getElem?_eq_some_iff.mp J;have R:i < n:=by simpa using H
  have:j=i:=by rw[<- o];simp
  subst this;exact⟨R,λx T z=>by let⟨E,X⟩:=z;exact ⟨Q,by rw[E];exact .refl s,by simp[Rep,X]⟩⟩
 stop:=λk Q S s=>by
  show n<=_;simp
section
variable {X:Cx}{tg l e:γ}{f:Env->Δ D}{fs:Env->Δ (Γ D)}{pos p:Pos}
def uz(h:PI X tg l t)(i:∀σ H R,t' σ H R->t σ H R):PI X tg l t':=λp s σ H R I q=>h p s σ H R I (i σ H R q)
def L0(hl:PE X l tl):PI X tg l (λσ H R=>tl σ H λx c=>∃a,x=.ref a/\((∃xs,iw X.K c a xs/\R (OK X.K a) c)\/∃xs,f9 X.K c a xs/\R (Ph X.K a) c)):=by
 intro p s σ H R I h;refine bO (hl p s σ H _ I h) λv S z=>?_;let⟨x,c,i,r,f⟩:=z;let⟨a,e,q⟩:=f;subst e;cases r;rcases q with ⟨xs,Q,q⟩|⟨xs,Q,q⟩
 .let⟨d,V,P,Z⟩:=i.list Q;refine qL P.isList ⟨S.heap.objs.size,[S.heap.objs.size],_,_,c,rfl,i.kept (t':=S.toks) λb o e=>zU _ e,Dc a _,⟨_,zX _ rfl,rfl,rfl⟩,λb B=>?_,q⟩;cases List.mem_singleton.mp B;exact i.RD (yN _) i.fresh
 .let⟨d,V,P,Z⟩:=i.tuple Q;refine xS (show S.heap.IsTuple a d.toArray from P) ⟨S.heap.objs.size,[S.heap.objs.size],_,_,c,rfl,i.kept (t':=S.toks) λb o e=>zU _ e,AN a _,⟨_,zX _ rfl,rfl,rfl⟩,λb B=>?_,q⟩;cases List.mem_singleton.mp B;exact i.RD (yN _) i.fresh
def aM(f:Env->Δ D):Env->Δ (Γ D):=λa=>(f a).bind gq
def Gy(h:DE X l f):DI X tg l (aM f):=uz (L0 h) λk H R z=>by
 let⟨d,j,D,m,e,F,q⟩:=z;let⟨x,i,F⟩:=bs F;refine⟨d,j,x,m,e,i,λV c Q g r=>?_⟩;rcases lX F with rfl|rfl
 .simp?[Rep] at r;let⟨a,v,rfl,s,b⟩:=r;exact⟨a,rfl,.inr ⟨v,ax g.fh s,q _ c Q g (Fk s b)⟩⟩
 .simp?[Rep] at r;let⟨a,v,rfl,s,b⟩:=r;exact⟨a,rfl,.inl ⟨v,g.fh.seq s,q _ c Q g (Cz s b)⟩⟩
def Dj(i:Int):θ:=decide (-(2 ^ 62)<=i)&&decide (i < 2 ^ 62)
def lO:Γ D->Δ (Γ D)
 | [.int j]=>if Dj j then ↑((List.range j.toNat).map λi=>PyData.int ((i:Nat):Int)) else none
 | _=>none
def wk(h:lO ds=↑es):∃j,ds=[.int j]/\Dj j=true/\es=(List.range j.toNat).map λi=>PyData.int ((i:Nat):Int):=by
 unfold lO at h;split at h
 .split at h
  .cases h;exact⟨_,rfl,‹_›,rfl⟩
  .cases h
 .cases h
def bA(fs:Env->Δ (Γ D)):Env->Δ (Γ D):=λa=>(fs a).bind lO
def E3(B:ou X "range" (.type "range"))(h:DA X [e] fs)(hs:starEach [e] X.env=[(false,eval e X.env)]:=by rfl):DI X tg (.Call (.Name "range" p) [e] [] pos) (bA fs) :=
 uz (DB B.gl B.mg h hs) λl H R z=>by
  let⟨F,k,D,s,o,f,q⟩:=z;let⟨x,d,f⟩:=bs f;let⟨j,rfl,J,rfl⟩:=wk f;refine⟨F,k,_,s,o,d,λV c Q g i=>?_⟩;let⟨v,r,rfl,a,b⟩:=i.cons_inv;rw[b.nil_inv];simp?[Rep] at a;subst a;unfold Dj at J;rw[zF] at J;refine⟨j,rfl,yR J.1,yR J.2,q _ c Q g ?_⟩;have:=Av (K:=X.K) (HF:=Q) (lo:=0) (n:=j.toNat);simpa using this
def Ox(K:Φ)(f:Env->D->Δ Env):TG:=λv e H Q=>∃F c d b,aO F H/\cE K F c e/\Rep K F d v/\f c d=↑b/\∀a,cE K F b a->cE K F c a->Q a H
def DG(X:Cx)(tg:γ)(f:Env->D->Δ Env):Prop:=PG X tg (Ox X.K f)
def pP(h:PG X tg t)(i:∀v σ H Q,t' v σ H Q->t v σ H Q):PG X tg t':=λp s σ H v u Q I r q=>h p s σ H v u Q I r (i v σ H Q q)
def isFree(ρ:Env)(i:Nat):θ:=((ρ[i]?).getD none).isNone
def iL{K:Φ}(o:cE K HF ρ σ)(r:Rep K HF d v):cE K HF (ρ.set i (↑d)) (σ.set i (↑v)):=by
 refine⟨λj e h=>?_,by rw[yC,yC];exact o.len,o.tb⟩;rw[xJ] at h ⊢;by_cases Q:i=j
 .rw[yM Q] at h ⊢;by_cases l:i < ρ.length
  .rw[yM l] at h;cases h;rw[yM (zP l o.len)];exact⟨v,rfl,r⟩
  .rw[yO l] at h;cases h
 .rw[yO Q] at h ⊢;exact o.get j e h
def lq{K:Φ}(o:cE K HF ρ σ)(f:isFree ρ i=true):cE K HF ρ (σ.set i (↑v)):=by
 refine⟨λj e h=>?_,by rw[yC];exact o.len,o.tb⟩;have Q:i≠j:=by
  intro z;subst z;unfold isFree at f;rw[h] at f;cases f
 rw[xJ,yO Q];exact o.get j e h
def fG(i:Nat):Env->D->Δ Env:=λa d=>if isFree a i=true then ↑(a.set i (↑d)) else none
def IL(i:Nat)(n:X.N.Nodup)(hi:X.N[i]?=↑x)(a:Loc X.env.scope x)(f:X.fn x=true\/X.env.scope.names.lookup x=↑.local:=by first|exact .inl rfl|exact .inr rfl|assumption):DG X (.Name x pos) (fG i) :=
 pP (fx n hi a f) λv g H Q z=>by
  let⟨F,c,d,b,s,e,r,f,q⟩:=z;unfold fG at f;split at f
  .cases f;exact q _ (iL e r) (lq e ‹_›)
  .cases f
def fy(i j:Nat):Env->D->Δ Env:=λa d=>match d with
 | .tuple [x,y]=>if isFree a i=true/\isFree a j=true then ↑((a.set i (↑x)).set j (↑y)) else none
 | _=>none
def Mb(i j:Nat){p P:Pos}{k:Nat}(hc:X.calm=true)(n:X.N.Nodup)(hi:X.N[i]?=↑x)(l:Loc X.env.scope x)(J:X.N[j]?=↑y)(Y:Loc X.env.scope y)
  (f:X.fn x=true\/X.env.scope.names.lookup x=↑.local:=by first|exact .inl rfl|exact .inr rfl|assumption) (W:X.fn y=true\/X.env.scope.names.lookup y=↑.local:=by first|exact .inl rfl|exact .inr rfl|assumption) :
  DG X (.Tuple [.Name x p,.Name y P] k pos) (fy i j) :=
 pP (AH hc (fX (fx n hi l f) (fX (fx n J Y W) uN))) λv G H Q z=>by
  let⟨F,E,d,t,m,e,r,f,q⟩:=z;unfold fy at f;split at f
  .rename_i C D;split at f
   .rename_i b;cases f;simp?[Rep] at r;let⟨a,S,rfl,s,R⟩:=r;let⟨V,u,rfl,A,B⟩:=R.cons_inv;let⟨o,w,rfl,c,g⟩:=B.cons_inv;rw[g.nil_inv] at s;exact⟨a,_,rfl,ax m s,rfl,V,_,rfl,o,_,rfl,rfl,q _ (iL (iL e A) c) (lq (lq e b.1) b.2)⟩
   .cases f
  .cases f
def cq(tgt:Env->D->Δ Env)(tt:Env->Δ θ)(te:Env->Δ D)(ρ:Env):Γ D->Δ (Γ D)
 | []=>↑[]
 | d::s=>(tgt ρ d).bind λa=>(tt a).bind λb=>if b=true then (te a).bind λx=>(cq tgt tt te ρ s).map (x::·) else cq tgt tt te ρ s
def NC(X:Cx)(ifs:Γ γ)(f:Env->Δ θ):Prop:=MJ X ifs (KJ X.K f)
def IP:NC X [] (λ_=>↑true):=λp s a H Q I z=>by let⟨F,c,b,m,e,f,q⟩:=z;exact HW p s a H Q I (by cases f;exact q H F (.refl m))
def Jb(h:DT X c t):NC X [c] t:=G7 h
def j7(t:Nat)(cs:Γ Nat)(σ:L2.St):L2.St:=List.replicate t none++cs.map λj=>(σ[j]?).getD none
def dz(t:Nat)(cs:Γ Nat)(ρ:Env):Env:=List.replicate t none++cs.map λj=>(ρ[j]?).getD none
def BP{K:Φ}{cs:Γ Nat}(E:cE K HF ρ σ):cE K HF (dz t cs ρ) (j7 t cs σ):=by
 refine⟨λi d h=>?_,by simp[dz,j7],E.tb⟩;unfold dz at h;unfold j7;by_cases H:i < t
 .rw[yT (by simpa using H),yY,yM H] at h;cases h
 .rw[yU (by simpa using H),zO,xN] at h;rw[yU (by simpa using H),zO,xN];let⟨j,J,h⟩:=ag h;rw[J];cases e:ρ[j]? with
  | none=>rw[e] at h;cases h
  | some o =>
   rw[e] at h;have h:o=↑d:=h;subst h;let⟨v,a,b⟩:=E.get j d e;exact⟨v,by show some ((σ[j]?).getD none)=_;rw[a];rfl,b⟩
def aj(t:Nat)(cs:Γ Nat)(fi:Env->Δ (Γ D))(tgt:Env->D->Δ Env)(tt:Env->Δ θ)(te:Env->Δ D):Env->Δ (Γ D):=λa=>(fi a).bind λd=>(cq tgt tt te (dz t cs a) d).bind small
variable {elt iter:γ}{ifs:Γ γ}{scope:ζ}{N:Γ Str}{t:Nat}{cs:Γ Nat}{fi:Env->Δ (Γ D)}{tgt:Env->D->Δ Env}{tt:Env->Δ θ}{te:Env->Δ D}
def F8:∀σ H Q,tF X.K (aj t cs fi tgt tt te) σ H Q->GF (P2 X.K fi) (Ox X.K tgt) (KJ X.K tt) (tD X.K te) (j7 t cs) σ H Q:=λσ H Q z=>by
 let⟨HF,W,O,sm,eo,F,q⟩:=z;let⟨s,hx,F⟩:=bs F;let⟨af4,ho,F⟩:=bs F;let⟨rfl,hz⟩:=fS F;refine⟨HF,W,s,sm,eo,hx,λJ H1 L k it n B=>?_⟩;have P:=BP (t:=t) (cs:=cs) (eo.mono k.ff);have U:L n=none:=k.fh.free B;refine⟨λi m p f=>m+i=s.length/\∃a S Y r,bM L H1 a f/\a n=none/\f n=↑(.lst Y)/\ak X.K a S Y/\cE X.K a (dz t cs W) p/\cq tgt tt te (dz t cs W) (s.drop i)=↑r/\S++r=O,
  ⟨s.length,rfl,L,[],[],O,.own k.fh B,U,aI,ak.nil,P,ho,rfl⟩,?_⟩
 rintro i m p f ⟨hm,a,S,Y,r,G,Zm,D,C,M,hc,V⟩;by_cases hi:i < s.length
 .refine .inr ?_;have hd:s.drop i=s[i]::s.drop (i+1):=vB hi;have he:s[i]?=↑s[i]:=List.getElem?_eq_some_iff.mpr ⟨hi,rfl⟩;generalize s[i]=d at hd he;rw[hd] at hc;unfold cq at hc;let⟨j,h1,hc⟩:=bs hc;let⟨b,h2,hc⟩:=bs hc;let⟨go,WZ⟩:=it.go i d f a he G.ff G.fh;refine⟨go,λx H2 y=>?_⟩;let⟨Z,c,rx⟩:=WZ x H2 y;refine⟨Z,_,d,j,c.fh,M.mono c.ff,rx,h1,λUH E Zn=>?_⟩;refine⟨Z,j,b,c.fh,E,h2,λH3 Rv g=>?_⟩;have l:∀R I,bM a f R I->R n=none:=λR I u=>by
   cases e4:R n with
   | none=>rfl
   | some o =>
    rcases u.nw n o e4 with z|z
    .rw[Zm] at z;cases z
    .rw[D] at z;cases z
  cases b with
  | false =>
   refine Aa ⟨m - 1,by lia,by lia,Rv,S,Y,r,(G.trans c).trans g,l _ _ (c.trans g),(c.trans g).hh _ _ D,C.mono (c.trans g).ff,Zn.mono g.ff,by simpa using hc,V⟩
  | true =>
   rw[yM rfl] at hc;let⟨z,h3,hc⟩:=bs hc;let⟨W9,h4,rfl⟩:=ag hc;refine Aw ⟨Rv,j,z,g.fh,E.mono g.ff,h3,λv I R u rv=>?_⟩;have A:=(c.trans g).trans u;have n4:=l _ _ A;have T:=A.hh _ _ D;have N:Y.length < sizeLine:=by
    have e1:=C.length;have e2:O.length=S.length+(W9.length+1):=by rw[<- V];simp
    lia
   refine⟨Y,T,N,m - 1,by lia,by lia,R,S++[z],Y++[v],W9,?_,n4,aI,(C.mono A.ff).append (ak.cons rv ak.nil),Zn.mono (g.ff.trans u.ff),h4,by simp[<- V]⟩;have w:=G.trans A;refine⟨λb o e=>?_,w.ff,λb o e=>?_,w.nw⟩
   .rw[aB (aL e B)];exact w.hh b o e
   .rw[aB (aL e n4)];exact w.fh b o e
 .have Rg:i=s.length:=by lia
  subst Rg;rw[List.drop_length] at hc;cases hc;rw[qG] at V;subst V;exact .inl ⟨it.stop f a G.ff G.fh,q n Y f a (k.trans G) (k.hh.free B) Zm D C⟩
def Jk(hc:X.calm=true)(S:iJ X scope N (j7 t cs))(hi:DI X tg iter fi)
  (Y:∀fp s H,DG (aR X scope N fp s H) tg tgt/\NC (aR X scope N fp s H) ifs tt/\DE (aR X scope N fp s H) elt te)
  (hs:∀x,foldedSetIterable iter X.env x=pure x:=by intro _;rfl):DF X (.ListComp elt [⟨tg,iter,ifs,0⟩] scope pos) (aj t cs fi tgt tt te):=aW (Ik (g:=Ox X.K tgt) (tt:=KJ X.K tt) (te:=tD X.K te) hc S hi Y hs) F8
end
inductive Slot where
 | QB|val (d:D)|own (ds:Γ D)
abbrev au:=Γ Slot
def Slot.all:Slot->Δ D|.QB=>none|.val d=>↑d|.own s=>↑(.list s)
def Slot.RC:Slot->Δ D|.val d=>↑d|_=>none
def Slot.Ua:Slot->Slot|.own d=>.val (.list d)|s=>s
def aV(ρ:au):Env:=ρ.map Slot.all
def bV(ρ:au):Env:=ρ.map Slot.RC
def hand(fz:Γ Nat):Nat->au->au
 | _,[]=>[]
 | k,s::r=>(if fz.contains k=true then s.Ua else s)::hand fz (k+1) r
def hV(fz:Γ Nat):∀ (ρ:au) (k i:Nat),(hand fz k ρ)[i]?=(ρ[i]?).map λs=>if fz.contains (k+i)=true then s.Ua else s
 | [],k,i=>by simp[hand]
 | s::r,k,0=>by simp[hand]
 | s::r,k,i+1=>by
  simp?[hand,yZ];rw[hV fz r (k+1) i,Nat.add_assoc,Nat.add_comm 1 i]
def yw(fz:Γ Nat):∀ (ρ:au) (k:Nat),(hand fz k ρ).length=ρ.length
 | [],k=>rfl
 | s::r,k=>by simp[hand,yw fz r (k+1)]
structure jj(K:W.Frag)(QD QF HF H:Hp)(ρ:au)(σ:L2.St):Prop where
 gr:bM QD QF HF H
 val:∀ (i:Nat) (d:D),ρ[i]?=↑(.val d)->∃v,σ[i]?=↑(↑v)/\Rep K HF d v
 own:∀ (i:Nat) (ds:Γ D),ρ[i]?=↑(.own ds)->∃a vs,σ[i]?=↑(↑(.ref a))/\H a=↑(.lst vs)/\HF a=none/\QF a=none/\ak K HF ds vs
 inj:∀ (i j:Nat) (ds es:Γ D) (a:Ψ),ρ[i]?=↑(.own ds)->ρ[j]?=↑(.own es)->σ[i]?=↑(↑(.ref a))->σ[j]?=↑(↑(.ref a))->i=j
 len:ρ.length<=σ.length
 tb:fP K HF
section
variable {K:Φ}
def jj.all(S:jj K QD QF HF H ρ σ):cE K H (aV ρ) σ:=by
 refine⟨λi d h=>?_,by simpa [aV] using S.len,S.tb.mono S.gr.fh⟩;unfold aV at h;rw[zO] at h;let⟨s,c,h⟩:=ag h;cases s with
 | QB=>cases h
 | val e=>cases h;let⟨v,a,b⟩:=S.val i _ c;exact⟨v,a,b.mono S.gr.fh⟩
 | own D =>
  cases h;let⟨a,V,E,f,j,_,g⟩:=S.own i D c;exact⟨.ref a,E,by simp?[Rep];exact⟨a,V,rfl,iw.of f,g.mono S.gr.fh⟩⟩
def jj.RC(S:jj K QD QF HF H ρ σ):cE K HF (bV ρ) σ:=by
 refine⟨λi d h=>?_,by simpa [bV] using S.len,S.tb⟩;unfold bV at h;rw[zO] at h;let⟨s,a,h⟩:=ag h;cases s with
 | QB=>cases h
 | val e=>cases h;exact S.val i _ a
 | own D=>cases h
def jj.grow(S:jj K QD QF HF H ρ σ)(g:bM HF H U H'):jj K QD QF U H' ρ σ where
 gr:=S.gr.trans g
 val:=λi d h=>let ⟨v,a,b⟩:=S.val i d h;⟨v,a,b.mono g.ff⟩
 own:=λi s h=>by
  let⟨a,V,c,E,f,k,j⟩:=S.own i s h;refine⟨a,V,c,g.hh _ _ E,?_,k,j.mono g.ff⟩;cases e:U a with
  | none=>rfl
  | some o =>
   rcases g.nw a o e with z|z
   .rw[f] at z;cases z
   .rw[E] at z;cases z
 inj:=S.inj
 len:=S.len
 tb:=S.tb.mono g.ff
def jj.step(S:jj K QD QF HF H ρ σ)(g:aO H H'):jj K QD QF HF H' ρ σ:=S.grow ⟨g,.refl _,S.gr.fh.trans g,λ_ _ e=>.inl e⟩
def jj.hand(S:jj K QD QF HF H ρ σ)(fz:Γ Nat):∃Q,aO HF Q/\jj K QD QF Q H (hand fz 0 ρ) σ:=by
 let P:Ψ->Prop:=λa=>∃i D,fz.contains i=true/\ρ[i]?=↑(.own D)/\σ[i]?=↑(↑(.ref a));have C:=Classical.propDecidable;let Q:Hp:=λa=>if P a then H a else HF a
 have r:∀a,P a->HF a=none/\QF a=none:=λa z=>by
  let⟨i,D,_,c,f⟩:=z
  let⟨A,V,E,l,m,p,n⟩:=S.own i D c;rw[f] at E;cases E;exact⟨m,p⟩
 have k:aO HF Q:=λb o e=>by
  show (if P b then H b else HF b)=↑o;by_cases h:P b
  .rw[(r b h).1] at e;cases e
  .rw[yO h];exact e
 have w:aO Q H:=λb o e=>by
  have e:(if P b then H b else HF b)=↑o:=e;by_cases h:P b
  .rw[yM h] at e;exact e
  .rw[yO h] at e;exact S.gr.fh b o e
 refine⟨Q,k,⟨S.gr.hh,S.gr.ff.trans k,w,λb o e=>?_⟩,λi d h=>?_,λi D h=>?_,λi j D q a c f=>?_,by rw[yw];exact S.len,S.tb.mono k⟩
 .have e:(if P b then H b else HF b)=↑o:=e;by_cases h:P b
  .exact .inr (r b h).2
  .rw[yO h] at e;exact S.gr.nw b o e
 .rw[hV] at h;let⟨s,g,h⟩:=ag h;rw[jE] at h;cases s with
  | QB=>split at h<;>cases h
  | val e =>
   have:Slot.val e=Slot.val d:=by split at h<;>exact h
   cases this;let⟨v,a,b⟩:=S.val i _ g;exact⟨v,a,b.mono k⟩
  | own D =>
   split at h
   .rename_i hc;cases h;let⟨a,V,E,l,m,p,n⟩:=S.own i D g;refine⟨.ref a,E,?_⟩;simp?[Rep];refine⟨a,V,rfl,.inl (.inl ?_),n.mono k⟩;show (if P a then H a else HF a)=_;rw[yM ⟨i,D,hc,g,E⟩];exact l
   .cases h
 .rw[hV] at h;let⟨s,g,h⟩:=ag h;rw[jE] at h;cases s with
  | QB=>split at h<;>cases h
  | val e=>split at h<;>cases h
  | own q =>
   split at h
   .cases h
   .rename_i hc;cases h;let⟨a,V,E,l,m,p,n⟩:=S.own i D g;refine⟨a,V,E,l,?_,p,n.mono k⟩;show (if P a then H a else HF a)=none;rw[yO ?_]
    .exact m
    .rintro⟨j,q,J,c,f⟩;have:=S.inj i j D q a g c E f;subst this;exact hc J
 .rw[hV] at c f;let⟨s,g,c⟩:=ag c;let⟨u,t,f⟩:=ag f;rw[jE] at c f;cases s with
  | QB=>split at c<;>cases c
  | val e=>split at c<;>cases c
  | own x =>
   cases u with
   | QB=>split at f<;>cases f
   | val e=>split at f<;>cases f
   | own y=>exact S.inj i j _ _ a g t
def jj.U3(S:jj K QD QF HF H ρ σ)(r:Rep K HF d v):jj K QD QF HF H (ρ.set i (.val d)) (σ.set i (↑v)):=by
 have n:∀ {j:Nat}{s:Slot},(ρ.set i (.val d))[j]?=↑s->(∀e,s≠.val e)->i≠j/\ρ[j]?=↑s:=λ{j s} h N=>by
  rw[xJ] at h;by_cases Q:i=j
  .rw[yM Q] at h;split at h
   .cases h;exact absurd rfl (N _)
   .cases h
  .rw[yO Q] at h;exact⟨Q,h⟩
 refine⟨S.gr,λj e h=>?_,λj D h=>?_,λj k D E a b c f g=>?_,by rw[yC,yC];exact S.len,S.tb⟩
 .rw[xJ] at h ⊢;by_cases Q:i=j
  .rw[yM Q] at h ⊢;split at h
   .rename_i l;cases h;rw[yM (zP l S.len)];exact⟨v,rfl,r⟩
   .cases h
  .rw[yO Q] at h ⊢;exact S.val j e h
 .let⟨Q,h⟩:=n h λe z=>by cases z
  rw[xJ,yO Q];exact S.own j D h
 .let⟨m,b⟩:=n b λe z=>by cases z
  let⟨o,c⟩:=n c λe z=>by cases z
  rw[xJ,yO m] at f;rw[xJ,yO o] at g;exact S.inj j k D E a b c f g
def jj.acN(S:jj K QD QF HF H ρ σ)(hs:aO H H')(g:H' a=↑(.lst vs))(l:HF a=none)(m:QF a=none)(r:ak K HF ds vs)
  (F:∀j es,i≠j->ρ[j]?=↑(.own es)->σ[j]?≠some (↑(.ref a))):jj K QD QF HF H' (ρ.set i (.own ds)) (σ.set i (↑(.ref a))):=by
 have S:=S.step hs;refine⟨S.gr,λj e h=>?_,λj es h=>?_,λj k x y b d f E c=>?_,by rw[yC,yC];exact S.len,S.tb⟩
 .rw[xJ] at h ⊢;by_cases Q:i=j
  .rw[yM Q] at h;split at h<;>cases h
  .rw[yO Q] at h ⊢;exact S.val j e h
 .rw[xJ] at h ⊢;by_cases Q:i=j
  .rw[yM Q] at h ⊢;split at h
   .rename_i L;cases h;rw[yM (zP L S.len)];exact⟨a,vs,rfl,g,l,m,r⟩
   .cases h
  .rw[yO Q] at h ⊢;exact S.own j es h
 .rw[xJ] at d f E c;by_cases Q:i=j
  .by_cases Y:i=k
   .exact Q.symm.trans Y
   .rw[yM Q] at d E;rw[yO Y] at f c;split at E
    .cases E;exact absurd c (F k y Y f)
    .cases E
  .by_cases Y:i=k
   .rw[yO Q] at d E;rw[yM Y] at f c;split at c
    .cases c;exact absurd E (F j x Q d)
    .cases c
   .rw[yO Q] at d E;rw[yO Y] at f c;exact S.inj j k x y b d f E c
end
inductive Out where
 | nx (ρ:au)|rt (d:D)
def Cg(K:Φ)(QD QF HF:Hp)(E:Ends):Out->Prop
 | .nx b=>∀a H Q,jj K QD QF Q H b a->aO HF Q->E.nx a H
 | .rt d=>∀v H Q,bM QD QF Q H->Rep K Q d v->E.rt v H
def tS(K:Φ)(QD QF:Hp)(g:au->Δ Out):TS:=λE b H=>∃F a o,jj K QD QF F H a b/\g a=↑o/\Cg K QD QF F E o
def DS(X:Cx)(QD QF:Hp)(st:Ω)(g:au->Δ Out):Prop:=PS X st (tS X.K QD QF g)
def DJ(X:Cx)(QD QF:Hp)(st:Γ Ω)(g:au->Δ Out):Prop:=AO X st (tS X.K QD QF g)
section
variable {X:Cx}{QD QF:Hp}{st:Ω}{rest:Γ Ω}{g g1 g2:au->Δ Out}{e:γ}{pos:Pos}
def c9(h:PS X st t)(i:∀E σ H,t' E σ H->t E σ H):PS X st t':=λp s σ H E I q=>h p s σ H E I (i E σ H q)
def B8(h:AO X rest t)(i:∀E σ H,t' E σ H->t E σ H):AO X rest t':=λp s σ H E I q=>h p s σ H E I (i E σ H q)
def e9:au->Δ Out:=λa=>↑(.nx a)
def av(g1 g2:au->Δ Out):au->Δ Out:=λb=>(g1 b).bind fun|.nx a=>g2 a|.rt d=>↑(.rt d)
def Cg.mono{K:Φ}(s:aO HF U)(h:Cg K QD QF HF E o):Cg K QD QF U E o:=by
 cases o with
 | nx c=>exactλa H R S b=>h a H R S (s.trans b)
 | rt d=>exact h
def Hy:DJ X QD QF [] e9:=B8 Hn λE a H z=>by let⟨F,b,o,S,g,q⟩:=z;cases g;exact q a H F S (.refl _)
def F5(c:DS X QD QF st g1)(e:DJ X QD QF rest g2):DJ X QD QF (st::rest) (av g1 g2):=B8 (D2 c e) λE k H z=>by
 let⟨F,f,o,S,g,q⟩:=z
 let⟨O,h,g⟩:=bs g;refine⟨F,f,O,S,h,?_⟩;cases O with
 | nx a=>exactλi j Q b s=>⟨Q,a,o,b,g,q.mono s⟩
 | rt d=>cases g;exact q
def HY(H:DS X QD QF st g1):DJ X QD QF [st] g1:=Hm H
def HI:DS X QD QF (.Pass pos) e9:=c9 Hu λE a H z=>by let⟨F,b,o,S,g,q⟩:=z;cases g;exact q a H F S (.refl _)
def KE{x j pos pos'}:DS X QD QF (.Expr (.Constant (.str x) j pos) pos') e9:=c9 Mj λE a H z=>by let⟨F,b,o,S,g,q⟩:=z;cases g;exact q a H F S (.refl _)
def fF(t:Env->Δ θ)(g1 g2:au->Δ Out):au->Δ Out:=λa=>(t (aV a)).bind λb=>if b=true then g1 a else g2 a
def NG(hc:DT X c t)(A:DJ X QD QF a g1)(B:DJ X QD QF b g2):DS X QD QF (.If c a b pos) (fF t g1 g2):=c9 (N3 hc A B) λE f H z=>by
 let⟨F,d,o,S,g,q⟩:=z
 let⟨b,h,g⟩:=bs g;refine⟨H,aV d,b,.refl _,S.all,h,λe Q G=>?_⟩;cases b with
 | true=>exact Aw ⟨F,d,o,S.step G.hh,g,q⟩
 | false=>exact Aa ⟨F,d,o,S.step G.hh,g,q⟩
def wz:∀ (ρ:au) (k n:Nat),k+ρ.length<=n->bV (hand (List.range n) k ρ)=aV ρ
 | [],k,n,h=>rfl
 | s::r,k,n,h=>by
  have H:(List.range n).contains k=true:=by simp at h ⊢;lia
  have i:=wz r (k+1) n (by simp at h;lia);unfold bV aV at i ⊢;rw[hand,yM H,zI,zI,i];cases s<;>rfl
def aK(f:Env->Δ D):au->Δ Out:=λa=>(f (aV a)).map Out.rt
def L9(h:DE X e f):DS X QD QF (.Return (↑e) pos) (aK f):=c9 (KY h) λE j H z=>by
 let⟨F,a,o,S,g,q⟩:=z
 let⟨d,h,rfl⟩:=ag g;let⟨Q,i,s⟩:=S.hand (List.range a.length);refine⟨Q,aV a,d,s.gr.fh,?_,h,λv b c G r=>q v b c (s.gr.trans G) r⟩;have:=s.RC;rw[wz a 0 a.length (by lia)] at this;exact this
def qs:D->θ|.none=>true|.bool _=>true|.int _=>true|.str _=>true|_=>false
def v5{K:Φ}(h:qs d=true)(r:Rep K HF d v):Rep K U d v:=by
 cases d<;>cases h<;>(simp?[Rep] at r ⊢;exact r)
mutual
def lC:D->θ
 | .tuple d=>tY d
 | .list _=>false
 | .dict _=>false
 | _=>true
def tY:Γ D->θ
 | []=>true
 | d::s=>lC d&&tY s
end
mutual
theorem vm{K:Φ}{H b:Hp}(ht:∀a xs,f9 K H a xs->f9 K b a xs):∀ {d:D}{v:V},lC d=true->Rep K H d v->Rep K b d v
 | .none,_,_,r=>by simp?[Rep] at r ⊢;exact r
 | .bool _,_,_,r=>by simp?[Rep] at r ⊢;exact r
 | .int _,_,_,r=>by simp?[Rep] at r ⊢;exact r
 | .str _,_,_,r=>by simp?[Rep] at r ⊢;exact r
 | .tuple S,v,h,r=>by
  simp?[lC] at h;simp?[Rep] at r ⊢;let⟨a,s,e,q,R⟩:=r;exact⟨a,s,e,ht _ _ q,sP ht h R⟩
 | .list _,_,h,_=>by simp[lC] at h
 | .dict _,_,h,_=>by simp[lC] at h
theorem sP{K:Φ}{H c:Hp}(ht:∀a xs,f9 K H a xs->f9 K c a xs):∀ {ds:Γ D}{vs:Γ V},tY ds=true->ak K H ds vs->ak K c ds vs
 | [],_,_,r=>by simp?[ak] at r ⊢;exact r
 | d::ds,vs,h,r=>by
  simp?[tY,zF] at h;simp?[ak] at r ⊢;let⟨v,R,e,a,b⟩:=r;exact⟨v,R,e,vm ht h.1 a,sP ht h.2 b⟩
end
def jj.back{K:Φ}(S:jj K QD QF HF H ρ σ)(p:jj K QD QF QG H RY σ)(C:aO HF QG)(G:bM QG H U H'):∃R,aO HF R/\jj K QD QF R H' ρ σ/\(∀d v,lC d=true->Rep K U d v->Rep K R d v)/\∀b o,R b=↑o->U b=↑o:=by
 have L:=Classical.propDecidable;let O:Ψ->Prop:=λa=>∃ (i:Nat) (c:Γ D),ρ[i]?=↑(Slot.own c)/\σ[i]?=↑(↑(V.ref a));let R:Hp:=λa=>if O a then none else U a
 have m:∀a,O a->HF a=none/\∃s,H a=↑(.lst s):=λa z=>by
  let⟨i,c,x,g⟩:=z
  let⟨F,s,E,f,j,_,_⟩:=S.own i c x;rw[g] at E;cases E;exact⟨j,s,f⟩
 have g:∀a,¬ O a->R a=U a:=λa n=>yO n;have l:∀a,O a->R a=none:=λa n=>yM n;have A:aO HF R:=λb o e=>by
  have y:¬ O b:=λz=>by rw[(m b z).1] at e;cases e
  rw[g b y];exact G.ff b o (C b o e)
 have B:∀b o,R b=↑o->U b=↑o:=λb o e=>by
  by_cases z:O b
  .rw[l b z] at e;cases e
  .rwa [g b z] at e
 have k:=p.gr.trans G;refine⟨R,A,⟨⟨k.hh,S.gr.ff.trans A,λb o e=>G.fh b o (B b o e),λb o e=>k.nw b o (B b o e)⟩,λi d h=>?_,λi c h=>?_,S.inj,S.len,S.tb.mono A⟩,λd v N r=>vm (λa X q=>?_) N r,B⟩
 .let⟨v,E,r⟩:=S.val i d h;exact⟨v,E,r.mono A⟩
 .let⟨a,s,E,f,j,w,u⟩:=S.own i c h;exact⟨a,s,E,G.hh _ _ f,l a ⟨i,c,h,E⟩,w,u.mono A⟩
 .have t:∀o,U a=↑o->(∀s,o≠.lst s)->R a=↑o:=λo e Q=>by
   by_cases z:O a
   .let⟨_,s,f⟩:=m a z;have:=G.hh _ _ f;rw[G.fh a o e] at this;cases this;exact absurd rfl (Q s)
   .rw[g a z];exact e
  rcases q with (q|⟨o,q⟩)|q
  .exact .inl (.inl (t _ q λs z=>by cases z))
  .exact .inl (.inr ⟨o,t _ q λs z=>by cases z⟩)
  .exact .inr q
def aD(i:Nat)(fz:Γ Nat)(f:Env->Δ D):au->Δ Out:=λa=>(f (aV a)).bind λd=>if qs d=true then ↑(.nx (a.set i (.val d))) else (f (bV (hand fz 0 a))).map λb=>.nx ((if lC b=true then a else hand fz 0 a).set i (.val b))
def MR:∀E σ H,tS X.K QD QF (aD i fz f) E σ H->Ez (tD X.K f) (vp i) E σ H:=λE σ H z=>by
 let⟨F,m,o,S,g,q⟩:=z
 let⟨d,h,g⟩:=bs g;split at g
 .rename_i k;cases g;exact⟨H,aV m,d,.refl _,S.all,h,λv a Q G r=>q _ a F ((S.step G.hh).U3 (v5 k r)) (.refl _)⟩
 .let⟨D,j,rfl⟩:=ag g;let⟨c,b,s⟩:=S.hand fz;refine⟨c,_,D,s.gr.fh,s.RC,j,λv a Q G r=>?_⟩;by_cases n:lC D=true
  .rw[yM n] at q;let⟨R,l,e,B,_⟩:=S.back s b G;exact q _ a R (e.U3 (B D v n r)) l
  .rw[yO n] at q;exact q _ a Q ((s.grow G).U3 r) (b.trans G.ff)
def KO(i:Nat)(fz:Γ Nat)(H:X.N.Nodup)(hi:X.N[i]?=↑x)(a:Loc X.env.scope x)(E:DE X e f)(hs:swapsWith e (↑(.Name x pos')) pos.line X.env=pure false:=by rfl)
  (F:X.fn x=true\/X.env.scope.names.lookup x=↑.local:=by first|exact .inl rfl|exact .inr rfl|assumption):DS X QD QF (.Assign [.Name x pos'] e pos) (aD i fz f):=c9 (Gn H hi a E hs F) MR
def aN(i:Nat)(fz:Γ Nat)(f:Env->Δ (Γ D)):au->Δ Out:=λa=>(f (bV (hand fz 0 a))).map λd=>.nx ((hand fz 0 a).set i (.own d))
def Gj:∀E σ H,tS X.K QD QF (aN i fz f) E σ H->Ez (tF X.K f) (vp i) E σ H:=λE σ H z=>by
 let⟨t,w,o,S,n,q⟩:=z
 let⟨D,h,rfl⟩:=ag n;let⟨Q,p,s⟩:=S.hand fz;refine⟨Q,_,D,s.gr.fh,s.RC,h,λa v c d G A F m r=>q _ c d ?_ (p.trans G.ff)⟩;have g:=s.grow G;refine g.acN (.refl _) m F (s.gr.hh.free A) r λj l _ J z=>?_;let⟨b,u,k,e,_⟩:=s.own j l J;rw[k] at z;cases z;rw[A] at e;cases e
def u6(i:Nat)(fz:Γ Nat)(H:X.N.Nodup)(hi:X.N[i]?=↑x)(a:Loc X.env.scope x)(E:DF X e f)(hs:swapsWith e (↑(.Name x pos')) pos.line X.env=pure false:=by rfl)
  (F:X.fn x=true\/X.env.scope.names.lookup x=↑.local:=by first|exact .inl rfl|exact .inr rfl|assumption):DS X QD QF (.Assign [.Name x pos'] e pos) (aN i fz f):=c9 (Gn H hi a E hs F) Gj
def G6(i:Nat)(fz:Γ Nat){cs:Γ Nat}
  (hc:X.calm=true) (S:iJ X scope N (j7 t cs)) (hi:DI X tg iter fi)
  (b:∀fp s H,DG (aR X scope N fp s H) tg tgt/\NC (aR X scope N fp s H) ifs tt/\DE (aR X scope N fp s H) elt te)
  (n:X.N.Nodup) (Y:X.N[i]?=↑y) (c:X.env.scope.names.lookup y=↑.local)
  (w:swapsWith (.ListComp elt [⟨tg,iter,ifs,0⟩] scope pos) (↑(.Name y py)) U.line X.env=pure true)
  (hs:∀x,foldedSetIterable iter X.env x=pure x:=by intro _;rfl):DS X QD QF (.Assign [.Name y py] (.ListComp elt [⟨tg,iter,ifs,0⟩] scope pos) U) (aN i fz (aj t cs fi tgt tt te)) :=
 c9 (Hw (g:=Ox X.K tgt) (tt:=KJ X.K tt) (te:=tD X.K te) hc S hi b n Y c w hs) λE a H q=>by
  have:=Gj E a H q;exact F8 a H _ this
def Qj(K:Φ)(QD QF:Hp)(f:au->D->Δ au):TG:=λv e H Q=>∃F c d a,jj K QD QF F H c e/\Rep K F d v/\f c d=↑a/\∀b,jj K QD QF F H a b->Q b H
def Oq(X:Cx)(QD QF:Hp)(tg:γ)(f:au->D->Δ au):Prop:=PG X tg (Qj X.K QD QF f)
def mr(i:Nat):au->D->Δ au:=λa d=>↑(a.set i (.val d))
def D6(i:Nat)(n:X.N.Nodup)(hi:X.N[i]?=↑x)(a:Loc X.env.scope x)(f:X.fn x=true\/X.env.scope.names.lookup x=↑.local:=by first|exact .inl rfl|exact .inr rfl|assumption):Oq X QD QF (.Name x pos) (mr i) :=
 pP (fx n hi a f) λv e H Q z=>by let⟨F,c,d,b,S,r,f,q⟩:=z;cases f;exact q _ (S.U3 r)
def iN(i j:Nat):au->D->Δ au:=λa d=>match d with
 | .tuple [x,y]=>↑((a.set i (.val x)).set j (.val y))
 | _=>none
def IY(i j:Nat){p P:Pos}{k:Nat}(hc:X.calm=true)(n:X.N.Nodup)(hi:X.N[i]?=↑x)(e:Loc X.env.scope x)(J:X.N[j]?=↑y)(Y:Loc X.env.scope y)
  (f:X.fn x=true\/X.env.scope.names.lookup x=↑.local:=by first|exact .inl rfl|exact .inr rfl|assumption) (W:X.fn y=true\/X.env.scope.names.lookup y=↑.local:=by first|exact .inl rfl|exact .inr rfl|assumption) :
  Oq X QD QF (.Tuple [.Name x p,.Name y P] k pos) (iN i j) :=
 pP (AH hc (fX (fx n hi e f) (fX (fx n J Y W) uN))) λv w H Q z=>by
  let⟨F,u,d,l,S,r,f,q⟩:=z
  unfold iN at f;split at f
  .cases f;simp?[Rep] at r;let⟨a,t,rfl,s,R⟩:=r;let⟨V,m,rfl,A,B⟩:=R.cons_inv;let⟨g,o,rfl,b,c⟩:=B.cons_inv;rw[c.nil_inv] at s;exact⟨a,_,rfl,ax S.gr.fh s,rfl,V,_,rfl,g,_,rfl,rfl,q _ ((S.U3 A).U3 b)⟩
  .cases f
def cG(tgt:au->D->Δ au)(gb:au->Δ Out):Γ D->au->Δ Out
 | [],a=>↑(.nx a)
 | d::s,a=>(tgt a d).bind λR=>(gb R).bind fun|.nx S=>cG tgt gb s S|.rt v=>↑(.rt v)
def dc(fz:Γ Nat)(fi:Env->Δ (Γ D))(tgt:au->D->Δ au)(gb:au->Δ Out):au->Δ Out:=λa=>(fi (bV (hand fz 0 a))).bind λd=>cG tgt gb d (hand fz 0 a)
def Lh(fz:Γ Nat)(hp:PassesOwn (model X.prog X.w) X.A X.env X.xe)(hc:X.calm=true)(hi:DI X tg iter fi)(g:Oq X QD QF tg tgt)(V:DJ X QD QF body gb)
  (hs:∀x,foldedSetIterable iter X.env x=pure x:=by intro _;rfl):DS X QD QF (.For tg iter body [] pos) (dc fz fi tgt gb):=c9 (LB hp hc hi g V hs) λE σ H z=>by
 let⟨HF,ρ,o,S,g,q⟩:=z
 let⟨s,h,g⟩:=bs g;let⟨u,s1,l⟩:=S.hand fz;refine⟨u,_,s,l.gr.fh,l.RC,h,λJ H2 r G t=>?_⟩;refine⟨λi m b c=>m+i=s.length/\∃Q a,jj X.K QD QF Q c a b/\aO r Q/\cG tgt gb (s.drop i) a=↑o,⟨s.length,rfl,r,_,l.grow G,.refl _,g⟩,?_⟩;rintro i m b c ⟨hm,Q,a,j,k,f⟩;by_cases hi:i < s.length
 .refine .inr ?_;have D:s.drop i=s[i]::s.drop (i+1):=vB hi;have p:s[i]?=↑s[i]:=List.getElem?_eq_some_iff.mpr ⟨hi,rfl⟩;generalize s[i]=d at D p;rw[D] at f;unfold cG at f;let⟨Y,P,f⟩:=bs f;let⟨O,T,f⟩:=bs f;let⟨N,Z⟩:=t.go i d c Q p k j.gr.fh;refine⟨N,λU e=>∃R W,jj X.K QD QF R e W U/\aO r R/\cG tgt gb (s.drop (i+1)) W=↑o,λU e z=>by let⟨R,W,F,I,L⟩:=z;exact ⟨m - 1,by lia,by lia,R,W,F,I,L⟩,λx e y=>?_⟩;let⟨R,n,rx⟩:=Z x e y;refine⟨R,a,d,Y,j.grow n,rx,P,λU B=>⟨R,Y,O,B,T,?_⟩⟩;cases O with
  | nx M=>exactλσ4 H4 v C s4=>⟨v,M,C,(k.trans n.ff).trans s4,f⟩
  | rt d=>cases f;exact q
 .have z:i=s.length:=by lia
  subst z;rw[List.drop_length] at f;cases f;exact .inl ⟨t.stop c Q k j.gr.fh,q b c Q j ((s1.trans G.ff).trans k)⟩
end
def O9(X:Cx)(sc:ζ):Prop:=∀x k,sc.names.lookup x=↑k->X.env.kindOf x=↑k\/(k=.free/\X.env.kindOf x=↑.cell)
structure Bk(X:Cx)(N:List Str)(sc:Scope)(k:Nat):Prop where
 n:X.N=N
 nd:N.Nodup
 tb:O9 X sc
 calm:X.calm=true
 fn:∀x,sc.names.lookup x=↑.cell->X.fn x=true
 room:dF k X.A
 xe:X.xe=λ_ _=>False
 kd:X.env.scope.kind=.function
def dq:Γ Str:=["len","isinstance","int","bool","tuple","list","range","all","any","set","sorted","enumerate","zip","sum","min","max","reversed","abs","dict","str","type","iter","next"]
def Bn(X:Cx):Prop:=∀x∈dq,X.mg x=none
def Dy(sc:ζ)(x:Str):θ:=decide (sc.names.lookup x=↑.globalImplicit)
def Cv(N:Γ Str)(sc:ζ)(i:Nat)(x:Str):θ:=decide (N[i]?=↑x)&&(decide (sc.names.lookup x=↑.local)||decide (sc.names.lookup x=↑.cell)||decide (sc.names.lookup x=↑.free))&&!(x == ("__debug__":Str))&&!(x == ("__classdict__":Str))
def zf(N:Γ Str)(sc:ζ)(i:Nat)(x:Str):θ:=decide (N[i]?=↑x)&&(decide (sc.names.lookup x=↑.local)||decide (sc.names.lookup x=↑.cell))
def Bk.gl(C:Bk X N sc k)(h:Dy sc x=true):Gl X x:=by
 rcases C.tb x _ (yR h) with q|⟨q,_⟩
 .exact q
 .cases q
def Bk.vis(C:Bk X N sc k)(h:Cv N sc i x=true):X.N[i]?=↑x/\JF X.env.scope x/\(x == ("__debug__":Str))=false/\(x == ("__classdict__":Str))=false:=by
 unfold Cv at h;simp?[zF,jC,zJ,yQ] at h;let⟨⟨⟨a,H⟩,b⟩,c⟩:=h;refine⟨by rw[C.n];exact a,?_,b,c⟩;rcases H with (H|H)|H
 .rcases C.tb x _ H with q|⟨q,_⟩
  .exact .inl q
  .cases q
 .rcases C.tb x _ H with q|⟨q,_⟩
  .exact .inr (.inl q)
  .cases q
 .rcases C.tb x _ H with q|⟨_,q⟩
  .exact .inr (.inr q)
  .exact .inr (.inl q)
def Bk.loc(C:Bk X N sc k)(h:zf N sc i x=true):X.N.Nodup/\X.N[i]?=↑x/\Loc X.env.scope x/\(X.fn x=true\/X.env.scope.names.lookup x=↑.local):=by
 unfold zf at h;simp?[zF,jC,zJ] at h;let⟨a,H⟩:=h;refine⟨by rw[C.n];exact C.nd,by rw[C.n];exact a,?_⟩;rcases H with H|H
 .rcases C.tb x _ H with q|⟨q,_⟩
  .exact⟨.inl q,.inr q⟩
  .cases q
 .rcases C.tb x _ H with q|⟨q,_⟩
  .exact⟨.inr q,.inl (C.fn x H)⟩
  .cases q
def Bk.blt(C:Bk X N sc k)(B:Bn X)(h:Dy sc x=true)(m:x∈dq)(H:bootBuiltins x=↑v):ou X x v:=⟨C.gl h,B x m,H⟩
def Bk.v(C:Bk X N sc k)(i:Nat)(h:Cv N sc i x=true):DE X (.Name x pos) (ab i):=let ⟨a,b,c,d⟩:=C.vis h;Mz i a b c d
def Bk.pass(C:Bk X N sc k):PassesOwn (model X.prog X.w) X.A X.env X.xe:=by rw[C.xe];exact PassesOwn.never
def j8(sc scope:ζ)(N n:Γ Str)(t:Nat)(cs:Γ Nat):θ :=
 decide (scope.kind=.function)&&scope.names.all (λp=>(!decide (p.2=NameKind.free)||decide (sc.names.lookup p.1=↑.cell)||decide (sc.names.lookup p.1=↑.free))&&(!decide (p.2=NameKind.local)||decide (scope.names.lookup p.1=↑.local)))
  &&scope.names.all (λp=>!decide (p.2=NameKind.cell)||!scope.names.any λq=>decide (q.1=p.1)&&decide (q.2=NameKind.free))
  &&decide (n.length=t+cs.length)&&decide (n.drop t=cs.filterMap λj=>N[j]?)&&cs.all (λj=>decide (j < N.length))&&(n.drop t).all (λx=>decide (scope.names.lookup x=↑.free))&&decide n.Nodup
def filterMap_get(N:Γ α):∀ (cs:Γ Nat),(∀j∈cs,j < N.length)->∀ (i:Nat),(cs.filterMap λj=>N[j]?)[i]?=(cs[i]?).bind λj=>N[j]?
 | [],_,i=>by simp
 | c::cs,h,i=>by
  have hc:=h c zE;rw[jH,zK hc];cases i with
  | zero=>simp[hc]
  | succ i =>
   simp?[yZ];exact filterMap_get N cs (λj H=>h j (zC _ H)) i
def Bk.comp(C:Bk X N sc k){cs:Γ Nat}(h:j8 sc scope N N' t cs=true):iJ X scope N' (j7 t cs)/\∀fp s H,Bk (aR X scope N' fp s H) N' scope k:=by
 unfold j8 at h;simp?[zF,zJ,xH,jC,yQ,xC] at h;obtain⟨⟨⟨⟨⟨⟨⟨f,g⟩,p⟩,r⟩,u⟩,w⟩,y⟩,A⟩:=h;refine⟨⟨f,λx c K=>?_,λ{x} a b=>?_,λx c K=>?_,λl i x v m E=>?_,λl=>?_⟩,λfp s H=>⟨rfl,A,λx k c=>nW c,C.calm,λx c=>yA c,C.room,rfl,f⟩⟩
 .rcases (g x c).1 with (q|q)|q
  .exact absurd K q
  .rcases C.tb _ _ q with z|⟨z,_⟩
   .exact .inl z
   .cases z
  .rcases C.tb _ _ q with z|⟨_,z⟩
   .exact .inr z
   .exact .inl z
 .rcases p _ a with q|q
  .exact q rfl
  .have:(scope.names.any λq=>decide (q.1=x)&&decide (q.2=NameKind.free))=true:=List.any_eq_true.mpr ⟨_,b,by simp⟩;rw[this] at q;cases q
 .rcases (g x c).2 with q|q
  .exact absurd K q
  .exact q
 .unfold j7 at E;by_cases I:i < t
  .rw[yT (by simpa using I),yY,yM I] at E;cases E
  .rw[yU (by simpa using I),zO,xN] at E;let⟨j,J,E⟩:=ag E;have d:(N'.drop t)[i - t]?=↑x:=by rw[List.getElem?_drop];rw[show t+(i - t)=i by lia];exact m
   refine⟨y x (qC d),j,?_,?_⟩
   .rw[u,filterMap_get N cs w,J] at d;rw[C.n];exact d
   .cases e:l[j]? with
    | none=>rw[e] at E;cases E
    | some o=>rw[e] at E;have E:o=↑v:=E;rw[E]
 .unfold j7;rw[zN,xN,zD,r]
def aS(g:au->Δ Out)(n:Nat)(a:Γ D):Δ D:=(g (a.map Slot.val++List.replicate (n - a.length) .QB)).map fun|.rt d=>d|.nx _=>.none
def JI{K:Φ}{st:Ω}(F:HK K x qual st f fd)(S:d6 N ps (aG st))
  (body:∀X:Cx,X.prog=P->X.w=w->X.K=K->X.mg=mg->X.base=base->Bk X N (aG st) k->X.env.code=fd.code->X.env.qual=qual++".<locals>."->∀QD QF,DJ X QD QF (b8 st) g):oV P w K mg base MF (k+1) f fd ps (Oa K ps.length (aS g N.length)):=by
 let⟨oc,od,kV,C,pm,an,p,ct,Vp,rfl,U,J⟩:=F.ex;refine MM U J S (λvs H Q E ⟨l,D,d,h1,_,z,B,_⟩=>by rw[z.length,B]) λA O s H vs Q E M z=>?_;let⟨l,D,d,sm,tb,R,hl,b,q⟩:=z;refine⟨_,(body (C7 MF P w K mg base N qual (aG st) f p A O s H E).nox rfl rfl rfl rfl rfl ⟨rfl,S.nd,λy kd T=>.inl T,rfl,λ_ _=>rfl,M,rfl,S.kind⟩ rfl rfl l H).nox,?_⟩;unfold aS at b;let⟨o,L,b⟩:=ag b;have RH:ps.length<=N.length:=by have:=jD List.length S.pre;rw[jX] at this;lia
 refine⟨l,_,o,⟨.refl sm,λi e h=>?_,λi u h=>?_,λi j u fs a h=>?_,?_,tb⟩,L,?_⟩
 .have I:i < D.length:=by
   by_cases I:i < D.length
   .exact I
   .rw[yU (by simpa using I),yY] at h;split at h<;>cases h
  rw[yT (by simpa using I),zO] at h;let⟨n,Y,h⟩:=ag h;cases h;let⟨v,V,Z⟩:=R.getD Y;refine⟨v,?_,Z⟩;unfold L2.start;rw[yT (by simpa [R.length] using I),zO,V];rfl
 .exfalso;by_cases I:i < D.length
  .rw[yT (by simpa using I),zO] at h;let⟨n,Y,h⟩:=ag h;cases h
  .rw[yU (by simpa using I),yY] at h;split at h<;>cases h
 .exfalso;by_cases I:i < D.length
  .rw[yT (by simpa using I),zO] at h;let⟨n,Y,h⟩:=ag h;cases h
  .rw[yU (by simpa using I),yY] at h;split at h<;>cases h
 .unfold L2.start;rw[zN,zN,zD,zD,xN,xN,R.length];exact yN _
 .cases o with
  | rt n=>cases b;exactλv c m G r=>q v c m G r
  | nx ρ'=>cases b;exactλσ' c m t _=>q .QB c m t.gr (by simp[Rep])
def PZ{K:Φ}{st:Ω}(F:HK K x qual st f fd)(S:d6 N ps (aG st))(b:Binds K fd ps [])(m:mg x=↑(.ref f))
  (body:∀X:Cx,X.prog=P->X.w=w->X.K=K->X.mg=mg->X.base=base->Bk X N (aG st) k->X.env.code=fd.code->X.env.qual=qual++".<locals>."->∀QD QF,DJ X QD QF (b8 st) g):DK P w K mg base (k+1) x ps.length (aS g N.length):=⟨f,fd,ps,JI F S body,m,F.kp,b⟩
def lE(fz:Γ Nat)(f:Env->Δ D)(ρ:au):Δ (D×au):=(f (aV ρ)).bind λd=>if qs d=true then ↑(d,ρ) else (f (bV (hand fz 0 ρ))).map λa=>(a,hand fz 0 ρ)
def n8{K:Φ}(S:jj K QD QF HF H ρ σ)(h:lE fz f ρ=↑(d,ρ'))
  (q:∀v H' a,aO HF a->jj K QD QF a H' ρ' σ->aO H H'->Rep K a d v->Q v H'):tD K f σ H Q:=by
 let⟨D,b,h⟩:=bs h;split at h
 .rename_i e;cases h;exact⟨H,aV ρ,d,.refl _,S.all,b,λv H' a G r=>q v H' HF (.refl _) (S.step G.hh) G.hh (v5 e r)⟩
 .let⟨j,c,h⟩:=ag h;cases h;let⟨g,i,s⟩:=S.hand fz;exact⟨g,_,d,s.gr.fh,s.RC,c,λv H' a G r=>q v H' a (i.trans G.ff) (s.grow G) G.hh r⟩
def oh(i:Nat)(m:Γ D->Δ (Γ D))(ρ:au):Δ Out:=match ρ[i]? with
 | some (.own d)=>(m d).map λe=>.nx (ρ.set i (.own e))
 | _=>none
def k9(h:oh i m ρ=↑o):∃ds es,ρ[i]?=↑(.own ds)/\m ds=↑es/\o=.nx (ρ.set i (.own es)):=by
 unfold oh at h;split at h
 .rename_i ds d;let⟨es,H,a⟩:=ag h;exact⟨ds,es,d,H,a.symm⟩
 .cases h
def jj.mut{K:Φ}(S:jj K QD QF HF H ρ σ)(h:ρ[i]?=↑(.own ds))(A:σ[i]?=↑(↑(.ref a)))(v:H a=↑(.lst vs))(r:ak K HF es us) :
  jj K QD QF HF (upd H a (.lst us)) (ρ.set i (.own es)) σ:=by
 let⟨q,X,E,t,l,m,u⟩:=S.own i ds h;rw[A] at E;cases E;have L:i < ρ.length:=(List.getElem?_eq_some_iff.mp h).1;have R:bM QD QF HF (upd H a (.lst us)):=⟨λb o e=>by rw[aB (aL e m)];exact S.gr.hh b o e,S.gr.ff,λb o e=>by rw[aB (aL e l)];exact S.gr.fh b o e,S.gr.nw⟩
 refine⟨R,λj d J=>?_,λj x J=>?_,λj k x Y b f F c g=>?_,by rw[yC];exact S.len,S.tb⟩
 .rw[xJ] at J;by_cases Q:i=j
  .rw[yM Q] at J;split at J<;>cases J
  .rw[yO Q] at J;exact S.val j d J
 .rw[xJ] at J;by_cases Q:i=j
  .subst Q;rw[yM rfl,yM L] at J;cases J;exact⟨a,us,A,aI,l,m,r⟩
  .rw[yO Q] at J;let⟨b,w,f,F,c,n,g⟩:=S.own j x J;refine⟨b,w,f,?_,c,n,g⟩;rw[aB]
   .exact F
   .rintro rfl;exact Q (S.inj i j ds x b h J A f)
 .have O:∀ {j:Nat}{x:Γ D},(ρ.set i (.own es))[j]?=↑(.own x)->∃Y,ρ[j]?=↑(.own Y):=λ{j x} J=>by
   rw[xJ] at J;by_cases Q:i=j
   .subst Q;exact⟨ds,h⟩
   .rw[yO Q] at J;exact⟨x,J⟩
  let⟨s,G⟩:=O f;let⟨y,p⟩:=O F;exact S.inj j k s y b G p c g
def lN(i:Nat)(fz:Γ Nat)(f:Env->Δ D):au->Δ Out:=λa=>(lE fz f a).bind λp=>oh i (λd=>if d.length < sizeLine then ↑(d++[p.1]) else none) p.2
def De(i:Nat)(fz:Γ Nat)(w:X.N[i]?=↑x)(z:JF X.env.scope x)(h:DE X e f)(y:(x == ("__debug__":Str))=false:=by decide)(J:(x == ("__classdict__":Str))=false:=by decide)
  (R:((backTo U (starEach [e] X.env)).all (λx=>!x.1)&&(backToKw U (keywordEach [] X.env)).all (λx=>x.1.isSome)&&decide ([e].length+([]:Γ Keyword).length+(if ([]:Γ Keyword).isEmpty then 0 else 1) < 30))=true:=by rfl)
  (Q:(apos.endLine == U.line)=true:=by rfl) (hs:starEach [e] X.env=(false,eval e X.env)::starEach [] X.env:=by rfl) :
  DS X QD QF (.Expr (.Call (.Attribute (.Name x px) "append" apos) [e] [] U) pos) (lN i fz f) :=
 c9 (o9 (yg qP PySem.F.slot_list_append PySem.F.type_list_append sN (p7 w z y J) (dg h iR hs) rfl R Q hs rfl)) λE M H z=>by
  let⟨P,K,o,S,G,q⟩:=z
  let⟨⟨d,L⟩,c,G⟩:=bs G;let⟨D,es,b,j,rfl⟩:=k9 G;have u:∃V,K[i]?=↑(.own V):=by
   let⟨W,_,c⟩:=bs c;split at c
   .cases c;exact⟨D,b⟩
   .let⟨Y,_,c⟩:=ag c;cases c;rw[hV] at b;let⟨s,hs,b⟩:=ag b;cases s with
    | QB=>split at b<;>cases b
    | val _=>split at b<;>cases b
    | own I=>exact⟨I,hs⟩
  let⟨V,u⟩:=u;let⟨a,C,g,t,e3,e5,e4⟩:=S.own i V u;refine⟨.ref a,g,.inl ⟨rfl,C,iw.of t⟩,n8 S c λv O p B k sh r=>?_⟩;let⟨T,A,l,m,f3,f5,n⟩:=k.own i D b;rw[g] at l;cases l;split at j
  .rename_i Z;cases j;exact⟨a,A,v,rfl,rfl,m,by rw[n.length];exact Z,q M _ p (k.mut b g m (n.append (ak.cons r ak.nil))) B⟩
  .cases j
def tO(K:Φ)(o:Obj):Δ (Ψ×Str):=match o.data with
 | .func f=>if js.contains f.qualname=true then (match f.code with
   | .ref c=>(match K.lookup c with
    | some ⟨_,_,.fields v,_⟩=>(match (v[11]?:Δ Θ) with
     | some (.ref P)=>if W.codeHdIn K c P=true then ↑(P,f.qualname++".<locals>."++"<lambda>") else none
     | _=>none)
    | _=>none)
   | _=>none) else none
 | _=>none
def gS(K:Φ):Γ (Ψ×Str):=K.filterMap λp=>tO K p.2
def nv(K:Φ)(ts:Γ Ψ):θ:=(gS K).all λp=>ts.contains p.1&&(K.lookup p.1).isNone&&decide ((gS K).lookup p.1=↑p.2)
def wy{K:Φ}(h:tO K o=↑(P,q)):∃c,W.codeHdIn K c P=true:=by
 unfold tO at h;split at h
 .split at h
  .split at h
   .split at h
    .split at h
     .split at h
      .cases h;exact⟨_,‹_›⟩
      .cases h
     .cases h
    .cases h
   .cases h
  .cases h
 .cases h
def v7{K:Φ}(h:(P,q)∈gS K):∃c,W.codeHdIn K c P=true:=by
 let⟨p,_,e⟩:=List.mem_filterMap.mp h;exact wy e
def AV{K:Φ}(a:K.lookup f=↑⟨oc,od,.func fd,sl⟩)(b:fd.qualname∈js)(d:fd.code=.ref c)(e:W.codeHdIn K c P=true) :
  (P,fd.qualname++".<locals>."++"<lambda>")∈gS K:=by
 refine List.mem_filterMap.mpr ⟨(f,_),W.mem_of_lookupK a,?_⟩;have E:=e;unfold W.codeHdIn at E;unfold tO;simp?[d,List.contains_iff_mem,b,xI];split at E
 .rename_i V s l;simp?[l];simp?[zF] at E;have g:=E.1.1.1.1.1;split at g
  .rename_i p v;have:p=P:=by simpa using g
   subst this;simp?[v,e,xI]
  .cases g
 .cases E
def DL:∀ {l:Γ (Ψ×α)},l.lookup b=↑q->(b,q)∈l
 | [],e=>by cases e
 | (c,x)::r,e=>by
  rw[yB] at e;cases h:b == c with
  | true=>rw[h] at e;cases e;rw[eq_of_beq h];exact zE
  | false=>rw[h] at e;exact zC _ (DL e)
def ee(K:Φ)(H:Hp):Hp:=λb=>match (gS K).lookup b with|some q=>↑(.tab q)|none=>H b
def CD{K:Φ}(h:nv K ts=true):fP K (ee K h0):=λf o O F s c P a b d e=>by
 have m:=AV a b d e;have:=List.all_eq_true.mp h _ m;simp?[zF,zJ] at this;unfold ee;rw[this.2]
def CC{w:δ}{K:Φ}{CX:JE}{k:Nat}{fa:Ψ}{fd:η}{sp:Sp}{vs:Γ Θ}{ns:Γ Int}
  (X:K.In U.heap) (Sn:U.heap.Ns mainGlobals mg) (B:U.heap.Ns builtinsNs mb) (M:∀x:Str,x≠"__name__"->mb x=bootBuiltins x) (VE:U.heap.NoLimit) (O:Ot mg U.heap) (hg:U.gens=#[])
  (ht:nv K ts=true) (Y:∀P∈ts,U.heap.get? P=↑(W.tabObj #[]))
  (A:U.heap.get? a=some { cls:=.type "list",data:=.seq vs.toArray }) (hi:IntsAre vs ns) (hl:ns.length<=sizeLine) (hr:dF k callerA)
  (F:∀E:ι,K.In E->E.Ns mainGlobals mg->oV P w K mg E CX k fa fd [x] sp) (Zo:∀ (s:Ξ) (u:Θ),BindsTo s fd ⟨[u],[]⟩ [(x,u)])
  (YM:∀H:Hp,fP K H->iw K H a (ns.map V.int)->sp [.ref a] H (λv _=>v=.bl true) λ_ _ _=>False)
  (L:∀H e s',CX [] H U (λ_ _ _=>False) e s'->False) :
  codeAny (model P w) callerA (.call (.ref fa) ⟨[.ref a],[]⟩) (λr s'=>r=.ok (.ret (.bool true))/\OldK U.heap s'.heap/\s'.os=U.os/\AllBare s'.gens) U:=by
 have rv:=rX hi;have G:=hi.length;have T:∀b q,(gS K).lookup b=↑q->U.heap.get? b=↑(W.tabObj #[])/\K.lookup b=none/\∃c,W.CodeHd U.heap c b:=λb q e=>by
  have hm:=DL e;have:=List.all_eq_true.mp ht _ hm;simp?[zF,zJ,List.contains_iff_mem,Option.isNone_iff_eq_none] at this;let⟨c,hc⟩:=v7 hm;exact⟨Y b this.1.1,this.1.2,c,W.codeHd_of_K X hc⟩
 have aT:(gS K).lookup a=none:=by
  cases e:(gS K).lookup a with
  | none=>rfl
  | some q=>have:=(T a q e).1;rw[A] at this;cases this
 have C:∀f:Hp,iw K (ee K f) a (ns.map V.int)->o7 P w (ee K f) U.heap->(∀b,f b≠none->b=a)->(f a≠none->K.lookup a=none)->(∀b,f b=none\/∃o xs,f b=↑(.RC o (.lst xs))) ->
   codeAny (model P w) callerA (.call (.ref fa) ⟨[.ref a],[]⟩) (λr s'=>r=.ok (.ret (.bool true))/\OldK U.heap s'.heap/\s'.os=U.os/\AllBare s'.gens) U:=by
  intro f hS QK hA hK hO;have l:∀b u,ee K f b=↑u->(∃q,(gS K).lookup b=↑q/\u=.tab q)\/(b=a/\f b=↑u):=λb u e=>by
   unfold ee at e;split at e
   .rename_i q p;cases e;exact .inl ⟨q,p,rfl⟩
   .exact .inr ⟨hA b (by rw[e];simp),e⟩
  have nj:∀ {b:Ψ}{o:Obj},U.heap.get? b=↑o->ee K f b=none->(uB U.heap (ee K f)).get? b=↑o:=λe n=>Fn e n;have V8:∀ {b:Ψ}{o:Obj},U.heap.get? b=↑o->(∀vs n,o.data≠.seq vs n)->(∀vs,o.data≠.fields vs)->ee K f b=none:=λ{b o} e d d2=>by
   cases q:ee K f b with
   | none=>rfl
   | some u =>
    rcases l b u q with ⟨Q,z,_⟩|⟨z,_⟩
    .rw[(T b Q z).1] at e;cases e;exact absurd rfl (d2 _)
    .subst z;rw[A] at e;cases e;exact absurd rfl (d _ _)
  have N:∀ {b:Ψ}{m:Str->Δ Θ},U.heap.Ns b m->(uB U.heap (ee K f)).Ns b m:=λ{b m} z=>by let⟨o,es,ep,e,d,r⟩:=z;exact ⟨o,es,ep,nj e (V8 e (λ_ _ z=>by rw[d] at z;cases z) λ_ z=>by rw[d] at z;cases z),d,r⟩
  have i:K.In (uB U.heap (ee K f)):=λb o e=>nj (X b o e) (by
   cases q:ee K f b with
   | none=>rfl
   | some u =>
    rcases l b u q with ⟨Q,z,_⟩|⟨z,D⟩
    .rw[(T b Q z).2.1] at e;cases e
    .subst z;rw[hK (by rw[D];simp)] at e;cases e)
  have hM:Mod K mg (uB U.heap (ee K f)):=⟨i,N Sn,⟨mb,N B,M⟩,let ⟨mc,h1,h2⟩:=VE;⟨mc,N h1,h2⟩,
   let ⟨bm,o,b1,b2,b3,b4,b5,b6,J⟩:=O;⟨bm,o,b1,b2,b3,nj b4 (V8 b4 (λ_ _ z=>by rw[J] at z;cases z) λ_ z=>by rw[J] at z;cases z),b5,b6,J⟩⟩
  have e0:HQ P w K mg (uB U.heap (ee K f)) callerA [] U (ee K f):=⟨rfl,hM,λb o e=>Jy e,Nat.le_of_eq (Cw _ _),trivial,λb B=>absurd (show b∈([]:Γ Ψ) from B) (by simp),QK,.of_eq hg⟩
  refine jT ((F _ i (N Sn)).run callerA [] U (ee K f) ⟨[.ref a],[]⟩ [.ref a] [.ref a] _ _ hr e0 (Zo U (.ref a)) (.cons rfl .nil) (YM _ (CD ht) hS)) λr s' h=>?_;cases r with
  | error e=>exact (L _ e s' h).elim
  | ok fl =>
   cases fl with
   | next=>exact False.elim h
   | brk=>exact False.elim h
   | cont=>exact False.elim h
   | ret u =>
    let⟨v,H',os,g,un,I,r',q⟩:=h;have Q:v=.bl true:=q;subst Q;obtain rfl:u=Value.bool true:=r';have y:∀b o,U.heap.get? b=↑o->s'.heap.get? b=↑o\/(isCodeTable U.heap b/\o=W.tabObj #[]/\∃S,s'.heap.get? b=↑(W.tabObj S)):=λb o e=>by
     cases q:ee K f b with
     | none=>exact .inl (un.keep b o e q (by intro z;exact absurd (show b∈([]:Γ Ψ) from z) (by simp)) (by simp))
     | some u =>
      rcases l b u q with ⟨Q,z,rfl⟩|⟨z,D⟩
      .let⟨t1,_,c,t3⟩:=T b Q z;let⟨more,m1⟩:=un.RU.gr b Q #[] q t1;rw[e] at t1;cases t1;exact .inr ⟨(t3.tab e).isCodeTable,rfl,_,m1⟩
      .rcases hO b with Z|⟨ob,xs,Z⟩
       .rw[D] at Z;cases Z
       .rw[D] at Z;cases Z;have z4:=un.Ss b ob _ q;let⟨e1,_⟩:=QK b _ q;let⟨e2,_⟩:=I b _ z4;rw[e] at e1;cases e1;exact .inl e2
    refine⟨rfl,⟨λb o e=>?_,λb o e=>?_⟩,os,g⟩
    .rcases y b o e with z|⟨t,rfl,S,z⟩
     .exact .inl z
     .exact .inr (.inl ⟨t,rfl,#[],S,rfl,by rw[Array.empty_append];exact z⟩)
    .rcases y b o e with z|⟨_,_,S,z⟩
     .exact⟨o,z⟩
     .exact⟨_,z⟩
 have j:∀ (f:Hp) b q,(gS K).lookup b=↑q->c8 P w (ee K f) U.heap b (.tab q):=λf b q e=>⟨#[],(T b q e).1,trivial,λpos v z=>by cases z⟩
 cases R:K.lookup a with
 | some o =>
  have e:=X a o R;rw[A] at e;cases e;refine C (λ_=>none) (.inr ⟨_,vs.toArray,_,R,rfl,rfl,rfl,by rw[zH,G];exact hl,by simpa using rv⟩) (λb u z=>?_) (λb z=>absurd rfl z) (λz=>absurd rfl z) λ_=>.inl rfl;unfold ee at z;split at z
  .rename_i q p;cases z;exact j _ b q p
  .cases z
 | none =>
  refine C (λb=>if b=a then ↑(.RC { cls:=.type "list",data:=.seq vs.toArray } (.lst (ns.map V.int))) else none) (.inl (.inr ⟨{ cls:=.type "list",data:=.seq vs.toArray },?_⟩)) (λb u z=>?_) (λb z=>?_) (λ_=>R) λb=>?_
  .unfold ee;rw[aT];exact yM rfl
  .unfold ee at z;split at z
   .rename_i q p;cases z;exact j _ b q p
   .by_cases B:b=a
    .replace z:=(yM B).symm.trans z;cases z;subst B;exact⟨A,by rw[zD];exact hl,vs,_,rv,A⟩
    .replace z:=(yO B).symm.trans z;cases z
  .by_cases B:b=a
   .exact B
   .exact absurd (yO B) z
  .by_cases B:b=a
   .exact .inr ⟨_,_,yM B⟩
   .exact .inl (yO B)
def FJ{l:W.OpenLaw}{n k:Nat}{q:ε}{L:Γ Str}{XP:(Str->Δ Θ)->ι->Prop}{YP:δ->ι->Prop}{d:DefRec}{K:Params->Φ}{CX:δ->JE}{sp:δ->Sp}{x:Str}{ts:Γ Ψ}
  (hn:l.most=↑n) (C:n<=sizeLine) (Z:d.params.defaults=[]) (hr:dF k callerA)
  (hY:∀ (w:δ) (h:ι),YP w h->(K w.params).In h/\∀P∈ts,h.get? P=↑(W.tabObj #[])) (ht:∀w:δ,nv (K w.params) ts=true)
  (F:∀ (w:δ) (m:Str->Δ Θ) (fa:Ψ) (h:ι),(K w.params).In h->h.Ns mainGlobals m->m d.name=↑(.ref fa) ->
   ∃D:η,(∀ (s:Ξ) (u:Θ),BindsTo s D ⟨[u],[]⟩ [(x,u)]) /\
    ∀B:ι,(K w.params).In B->B.Ns mainGlobals m->oV l.prog w (K w.params) m B (CX w) k fa D [x] (sp w))
  (y:∀ (w:δ) (H:Hp) (a:Ψ) (ns:Γ Int),ns.length<=n->fP (K w.params) H->iw (K w.params) H a (ns.map V.int)->sp w [.ref a] H (λv _=>v=.bl true) λ_ _ _=>False)
  (X:∀ (w:δ) (H:Hp) (s:Ξ) (e:Θ) (s':Ξ),CX w [] H s (λ_ _ _=>False) e s'->False) :
  W.WalkO q L XP YP l.row.toRowW d [] (λf vs=>PySem.call f vs):=by
 refine Att.Tf hn Z λw Q2 Q m mb fa o pm cd doc a vs ns G Y ho hd Sj A t S N hg=>?_;let⟨i,c⟩:=hY w _ Y;let⟨D,hb,hF⟩:=F w m fa _ i G.T.g A;have M:Ot m Q.heap:=by
  let⟨U,ob,I,J,j,O,R,p⟩:=G.T.bmain;refine⟨U,ob,I,J,λz=>?_,j,O,R,p⟩;let⟨o',es,ep,E,r,_⟩:=G.T.g;rw[<- z,j] at E;cases E;rw[p] at r;cases r
 exact CC i G.T.g G.T.b G.T.builtins G.T.nolimit M hg (ht w) c t S (yD N C) hr hF hb (λH hT hS=>y w H a ns N hT hS) λH e s'=>X w H Q e s'
end Dl
namespace SP
open PySem PySem.W PyProof.Rows
def run(l:Nat->Nat->θ):KasT α->α
 | .ret a=>a
 | .ask i j k=>run l (k (l i j))
def g8(l:Nat->Nat->θ)(f:α->KasT β):∀t:KasT α,run l (t.bind f)=run l (f (run l t))
 | .ret a=>rfl
 | .ask i j k=>by
  show run l ((k (l i j)).bind f)=run l (f (run l (k (l i j))));exact g8 l f (k (l i j))
def MI(n:Nat):KasT α->Prop
 | .ret _=>True
 | .ask i j k=>i < n/\j < n/\∀b,MI n (k b)
def wp_run(hc:∀i j C,i < n->j < n->C (lt i j) s->cmp i j C s):∀ (t:KasT α) {Q:α->Ξ->Prop},MI n t->Q (run lt t) s->t.kasWp cmp Q s
 | .ret a,Q,_,h=>h
 | .ask i j k,Q,b,h=>hc i j _ b.1 b.2.1 (wp_run hc (k (lt i j)) (b.2.2 _) h)
def pF(n:Nat)(R:α->Prop):KasT α->Prop
 | .ret a=>R a
 | .ask i j k=>i < n/\j < n/\∀b,pF n R (k b)
def nL:∀ {t:KasT α},pF n R t->(∀a,R a->MI n (f a))->MI n (t.bind f)
 | .ret a,b,h=>h a b
 | .ask i j k,b,h=>⟨b.1,b.2.1,λc=>nL (b.2.2 c) h⟩
def iK:∀ {t:KasT α},pF n R t->(∀a,R a->pF n S (f a))->pF n S (t.bind f)
 | .ret a,b,h=>h a b
 | .ask i j k,b,h=>⟨b.1,b.2.1,λc=>iK (b.2.2 c) h⟩
def Bd(n:Nat)(p:Array Nat):Prop:=∀a,p.getD a 0 < n
def Bd.perm(h:Bd n p)(e:q.Perm p):Bd n q:=by
 intro a;rw[qE];cases H:q[a]? with
 | none=>have:=h p.size;rw[qE] at this;simpa using this
 | some x =>
  have X:x∈q:=Array.mem_of_getElem? H;have U:x∈p:=e.mem_iff.mp X;let⟨i,I,rfl⟩:=Array.mem_iff_getElem.mp U;have:=h i;rw[qE] at this;simpa [I] using this
def E7(h:Bd n p):∀f m,pF n (λ_=>True) (kas_asc p f m)
 | 0,m=>trivial
 | f+1,m=>⟨h _,h _,λc=>by
  dsimp only;split
  .trivial
  .exact E7 h f (m+1)⟩
def vv(h:Bd n p)(i j:Nat):Bd n (kas_rev p i j):=h.perm (mirror_perm _ _ _ _)
def vc:∀ (f:Nat) {p:Array Nat}(h:Bd n p) (m q:Nat),pF n (λr=>Bd n r.1) (kas_desc f p m q)
 | 0,p,h,m,q=>h
 | f+1,p,h,m,q=>⟨h _,h _,λc=>by
  dsimp only;split
  .split
   .exact vc f (vv h _ _) (m+1) 0
   .exact vc f h (m+1) 0
  .exact⟨h _,h _,λd=>by
    dsimp only;split
    .exact h
    .exact vc f h (m+1) (q+1)⟩⟩
def Cm(h:Bd n p)(m nrem:Nat):pF n (λr=>Bd n r.2) (kas_tail3 m nrem p):=iK (E7 (vv h 0 m) _ _) λ_ _=>vv h 0 m
def pE(h:Bd n p)(m nrem:Nat):pF n (λr=>Bd n r.2) (kas_descPart m nrem p):=iK (vc _ h _ _) λr H=>by
 split
 .exact Cm (vv H _ _) _ _
 .exact Cm H _ _
def Ja(h:Bd n p)(nrem:Nat):pF n (λr=>Bd n r.2) (kas_count nrem p):=iK (E7 h _ _) λm _=>by
 split
 .exact h
 .split
  .exact⟨h _,h _,λc=>by
    dsimp only;split
    .exact h
    .exact pE (vv h _ _) _ _⟩
  .exact pE h _ _
def tP(h:Bd n p)(k:Nat):∀f l r,pF n (λ_=>True) (kas_place p k f l r)
 | 0,l,r=>trivial
 | f+1,l,r=>by
  unfold kas_place;split
  .trivial
  .exact⟨h _,h _,λc=>by
    dsimp only;split
    .exact tP h k f _ _
    .exact tP h k f _ _⟩
def J9:∀ (f:Nat) {p:Array Nat}(h:Bd n p) (k:Nat),MI n (kas_bin f p k)
 | 0,p,h,k=>trivial
 | f+1,p,h,k=>nL (tP h k _ _ _) λl _=>J9 f (h.perm (bubble_perm _ _ _)) (k+1)
def Er(b:1<=n):MI n (kas_sort n):=by
 have h:Bd n (List.toArray (List.range n)):=λa=>by
  rw[qE];by_cases H:a < n
  .simp[H]
  .simp[H];lia
 refine nL (Ja h n) λr R=>?_;split
 .exact J9 _ R _
 .trivial
section
variable (z:Nat->Int)
def Z(p:Array Nat)(a:Nat):Int:=z (p.getD a 0)
def dB:Nat->Nat->θ:=λi j=>decide (z i < z j)
def mW(h:p[a]?=q[b]?):Z z p a=Z z q b:=by
 unfold Z;rw[qE,qE,h]
def EZ(J:j<=p.size)(k:Nat):Z z (kas_rev p i j) k=if i<=k/\k < j then Z z p (i+j - 1 - k) else Z z p k:=by
 have e:=getElem?_mirror_all (xs:=p) (i:=i) J k;unfold kas_rev;by_cases H:i<=k/\k < j
 .rw[yM H] at e ⊢;exact mW z e
 .rw[yO H] at e ⊢;exact mW z e
def ER(hs:src < p.size)(D:d<=src)(k:Nat):Z z (bubble p src d) k=if k=src - d then Z z p src else if src - d < k/\k<=src then Z z p (k - 1) else Z z p k:=by
 have e:=getElem?_bubble hs d D k;by_cases H:k=src - d
 .rw[yM H] at e ⊢;exact mW z e
 .rw[yO H] at e ⊢;by_cases a:src - d < k/\k<=src
  .rw[yM a] at e ⊢;exact mW z e
  .rw[yO a] at e ⊢;exact mW z e
def Up(p:Array Nat)(n:Nat):Prop:=∀a b,a<=b->b < n->Z z p a<=Z z p b
def Dn(p:Array Nat)(n:Nat):Prop:=∀a b,a<=b->b < n->Z z p b<=Z z p a
variable {z}
def G9(h:Up z p n)(N:1<=n)(H:Z z p (n - 1)<=Z z p n):Up z p (n+1):=by
 intro a b R B;by_cases X:b < n
 .exact h a b R X
 .have e:b=n:=by lia
  subst e;by_cases A:a=b
  .subst A;exact qA _
  .exact jV (h a (b - 1) (by lia) (by lia)) H
def OV:∀ (f n:Nat),1<=n->Up z p n->n<=run (dB z) (kas_asc p f n)/\run (dB z) (kas_asc p f n)<=n+f/\Up z p (run (dB z) (kas_asc p f n))/\(run (dB z) (kas_asc p f n) < n+f->Z z p (run (dB z) (kas_asc p f n)) < Z z p (run (dB z) (kas_asc p f n) - 1))
 | 0,n,H,h=>⟨yN _,yN _,h,λq=>absurd q (qF _)⟩
 | f+1,n,H,h=>by
  unfold kas_asc;show n<=run (dB z) (if dB z (p.getD n 0) (p.getD (n - 1) 0)=true then .ret n else kas_asc p f (n+1))/\run (dB z) (if dB z (p.getD n 0) (p.getD (n - 1) 0)=true then .ret n else kas_asc p f (n+1))<=n+(f+1)/\Up z p (run (dB z) (if dB z (p.getD n 0) (p.getD (n - 1) 0)=true then .ret n else kas_asc p f (n+1)))/\(run (dB z) (if dB z (p.getD n 0) (p.getD (n - 1) 0)=true then .ret n else kas_asc p f (n+1)) < n+(f+1)->Z z p (run (dB z) (if dB z (p.getD n 0) (p.getD (n - 1) 0)=true then .ret n else kas_asc p f (n+1))) < Z z p (run (dB z) (if dB z (p.getD n 0) (p.getD (n - 1) 0)=true then .ret n else kas_asc p f (n+1)) - 1))
  by_cases hc:dB z (p.getD n 0) (p.getD (n - 1) 0)=true
  .rw[yM hc];exact⟨yN _,jW _ _,h,λ_=>yR hc⟩
  .rw[yO hc];have e:Z z p (n - 1)<=Z z p n:=by
    have:¬ (Z z p n < Z z p (n - 1)):=λq=>hc (yA q);lia
   let⟨a,b,c,d⟩:=OV f (n+1) (by lia) (G9 h H e);exact⟨by lia,by lia,c,λq=>d (by lia)⟩
def As(J:j<=p.size)(h:∀a b,i<=a->a < j->i<=b->b < j->Z z p a=Z z p b)(k:Nat):Z z (kas_rev p i j) k=Z z p k:=by
 rw[EZ z J];split
 .rename_i H;exact h _ _ (by lia) (by lia) H.1 H.2
 .rfl
def E8(e:∀k,Z z q k=Z z p k)(h:Dn z p n):Dn z q n:=λa b R H=>by rw[e,e];exact h a b R H
def LZ(H:n<=p.size)(h:Dn z p n):Up z (kas_rev p 0 n) n:=by
 intro a b R B;rw[EZ z H,EZ z H,yM ⟨xW _,by lia⟩,yM ⟨xW _,B⟩];exact h _ _ (by lia) (by lia)
def mS(p:Array Nat)(i j:Nat):(kas_rev p i j).size=p.size:=mirror_size _ _ _ _
def nF(p:Array Nat)(i j:Nat):(kas_rev p i j).Perm p:=mirror_perm _ _ _ _
structure Ld(z:Nat->Int)(Q3 p:Array Nat)(n q nrem:Nat):Prop where
 perm:p.Perm Q3
 size:p.size=Q3.size
 le:n<=nrem
 qn:q+1<=n
 dn:Dn z p n
 eq:∀a b,n - (q+1)<=a->a < n->n - (q+1)<=b->b < n->Z z p a=Z z p b
def Hs(i:nrem<=Q3.size):∀ (f:Nat) (p:Array Nat) (n q:Nat),n+f<=nrem->Ld z Q3 p n q nrem ->
  let r:=run (dB z) (kas_desc f p n q);Ld z Q3 r.1 r.2.1 r.2.2 nrem
 | 0,p,n,q,x,h=>h
 | f+1,p,n,q,x,h=>by
  intro r;have H:r=run (dB z) (if dB z (p.getD n 0) (p.getD (n - 1) 0)=true then (if q > 0 then kas_desc f (kas_rev p (n - (q+1)) n) (n+1) 0 else kas_desc f p (n+1) 0)
   else .ask (p.getD (n - 1) 0) (p.getD n 0) λd=>if d=true then .ret (p,n,q) else kas_desc f p (n+1) (q+1)):=rfl
  have F:=h.qn;by_cases hc:dB z (p.getD n 0) (p.getD (n - 1) 0)=true
  .rw[yM hc] at H;have t:Z z p n < Z z p (n - 1):=yR hc;have step:∀P:Array Nat,P.Perm Q3->P.size=Q3.size->(∀k,Z z P k=Z z p k)->Ld z Q3 P (n+1) 0 nrem:=λP u v j=>by
    refine⟨u,v,by lia,by lia,λa b B w=>?_,λa b l m o s=>by rw[show a=b by lia]⟩;rw[j,j];by_cases X:b < n
    .exact h.dn a b B X
    .have e:b=n:=by lia
     subst e;by_cases A:a=b
     .subst A;exact qA _
     .exact jV (Int.le_of_lt t) (h.dn a (b - 1) (by lia) (by lia))
   by_cases g:q > 0
   .rw[yM g] at H;rw[H];exact Hs i f _ (n+1) 0 (by lia) (step _ ((nF _ _ _).trans h.perm) (by rw[mS,h.size]) (As (by rw[h.size];lia) h.eq))
   .rw[yO g] at H;rw[H];exact Hs i f p (n+1) 0 (by lia) (step p h.perm h.size λ_=>rfl)
  .rw[yO hc] at H;have W:Z z p (n - 1)<=Z z p n:=by
    have:¬ (Z z p n < Z z p (n - 1)):=λq=>hc (yA q);lia
   have R:r=run (dB z) (if dB z (p.getD (n - 1) 0) (p.getD n 0)=true then .ret (p,n,q) else kas_desc f p (n+1) (q+1)):=H;by_cases D:dB z (p.getD (n - 1) 0) (p.getD n 0)=true
   .rw[yM D] at R;rw[R];exact h
   .rw[yO D] at R;rw[R];have Q:Z z p n=Z z p (n - 1):=by
     have:¬ (Z z p (n - 1) < Z z p n):=λq=>D (yA q);lia
    refine Hs i f p (n+1) (q+1) (by lia) ⟨h.perm,h.size,by lia,by lia,λa b B w=>?_,λa b l m o s=>?_⟩
    .by_cases X:b < n
     .exact h.dn a b B X
     .have e:b=n:=by lia
      subst e;by_cases A:a=b
      .subst A;exact qA _
      .rw[Q];exact h.dn a (b - 1) (by lia) (by lia)
    .have y:∀c,n+1 - (q+1+1)<=c->c < n+1->Z z p c=Z z p (n - 1):=λc C E=>by
      by_cases N:c < n
      .exact h.eq c (n - 1) (by lia) N (by lia) (by lia)
      .have e:c=n:=by lia
       subst e;exact Q
     rw[y a l m,y b o s]
structure Of(z:Nat->Int)(Q3:Array Nat)(nrem:Nat)(r:Nat×Array Nat):Prop where
 perm:r.2.Perm Q3
 size:r.2.size=Q3.size
 ge:1<=r.1
 le:r.1<=nrem
 up:Up z r.2 r.1
def tail3(Z:nrem<=Q3.size)(H:1<=n)(N:n<=nrem)(P:p.Perm Q3)(hs:p.size=Q3.size)(d:Dn z p n):Of z Q3 nrem (run (dB z) (kas_tail3 n nrem p)):=by
 unfold kas_tail3;rw[g8];let⟨a,b,c,_⟩:=OV (nrem - n) n H (LZ (by lia) d);exact⟨(nF _ _ _).trans P,by show (kas_rev p 0 n).size=_;rw[mS,hs],by show 1<=run _ (kas_asc _ _ _);lia,by show run _ (kas_asc _ _ _)<=nrem;lia,c⟩
def descPart(H:nrem<=Q3.size)(c:1<=n)(N:n < nrem)(P:p.Perm Q3)(hs:p.size=Q3.size)(d:Dn z p n)(Q:Z z p n<=Z z p (n - 1)):Of z Q3 nrem (run (dB z) (kas_descPart n nrem p)):=by
 unfold kas_descPart;rw[g8];have D:=Hs (z:=z) H (nrem - (n+1)) p (n+1) 0 (by lia) ⟨P,hs,by lia,by lia,λa b R B=>by
  by_cases X:b < n
  .exact d a b R X
  .have e:b=n:=by lia
   subst e;by_cases A:a=b
   .subst A;exact qA _
   .exact jV Q (d a (b - 1) (by lia) (by lia)),λa b c f g i=>by rw[show a=b by lia]⟩
 dsimp only at D;generalize run (dB z) (kas_desc (nrem - (n+1)) p (n+1) 0)=r at D;have q:=D.qn;split
 .exact tail3 H (by lia) D.le ((nF _ _ _).trans D.perm) (by rw[mS,D.size]) (E8 (As (by have:=D.size;have:=D.le;lia) D.eq) D.dn)
 .exact tail3 H (by lia) D.le D.perm D.size D.dn
def count(f:nrem<=p.size)(m:1<=nrem):Of z p nrem (run (dB z) (kas_count nrem p)):=by
 unfold kas_count;rw[g8];let⟨a,b,c,d⟩:=OV (z:=z) (p:=p) (nrem - 1) 1 (yN _) (λx y H Y=>by rw[show x=y by lia];exact qA _);generalize run (dB z) (kas_asc p (nrem - 1) 1)=n at a b c d;split
 .exact⟨Array.Perm.refl _,rfl,a,by show n<=nrem;lia,c⟩
 .rename_i S;have Q:n < nrem:=by
   have:n≠nrem:=λe=>S (by simp[e]);lia
  have D:=d (by lia);split
  .rename_i g;show Of z p nrem (run (dB z) (if dB z (p.getD 0 0) (p.getD (n - 1) 0)=true then .ret (n,p) else kas_descPart n nrem (kas_rev p 0 n)));by_cases hc:dB z (p.getD 0 0) (p.getD (n - 1) 0)=true
   .rw[yM hc];exact⟨Array.Perm.refl _,rfl,a,by show n<=nrem;lia,c⟩
   .rw[yO hc];have W:Z z p (n - 1)<=Z z p 0:=by
     have:¬ (Z z p 0 < Z z p (n - 1)):=λq=>hc (yA q);lia
    have l:∀x,x < n->Z z p x=Z z p 0:=λx X=>by
     have E:=c 0 x (xW _) X;have k:=c x (n - 1) (by lia) (by lia);lia
    have s:=As (z:=z) (p:=p) (i:=0) (j:=n) (by lia) λx y _ X _ Y=>by rw[l x X,l y Y]
    refine descPart f (by lia) Q (nF _ _ _) (by rw[mS]) (λx y H Y=>?_) ?_
    .rw[s,s,l x (by lia),l y Y];exact qA _
    .rw[s,s];lia
  .exact descPart f (by lia) Q (Array.Perm.refl _) rfl (λx y H Y=>by rw[show x=y by lia];exact qA _) (by lia)
def place(u:Up z p k):∀ (f l r:Nat),r - l<=f->l<=r->r<=k->(∀a,a < l->Z z p a<=Z z p k)->(∀a,r<=a->a < k->Z z p k<=Z z p a) ->
  let m:=run (dB z) (kas_place p k f l r);m<=k/\(∀a,a < m->Z z p a<=Z z p k)/\(∀a,m<=a->a < k->Z z p k<=Z z p a)
 | 0,l,r,F,L,R,b,d=>by
  intro m;have e:l=r:=by lia
  subst e;exact⟨R,b,d⟩
 | f+1,l,r,F,L,R,b,d=>by
  intro m;have M:m=run (dB z) (if l >= r then .ret l else .ask (p.getD k 0) (p.getD ((l+r) / 2) 0) λc=>if c=true then kas_place p k f l ((l+r) / 2) else kas_place p k f ((l+r) / 2+1) r):=rfl;by_cases H:l >= r
  .rw[yM H] at M;rw[M];have e:l=r:=by lia
   subst e;exact⟨R,b,d⟩
  .rw[yO H] at M;have T:m=run (dB z) (if dB z (p.getD k 0) (p.getD ((l+r) / 2) 0)=true then kas_place p k f l ((l+r) / 2) else kas_place p k f ((l+r) / 2+1) r):=M;by_cases hc:dB z (p.getD k 0) (p.getD ((l+r) / 2) 0)=true
   .rw[yM hc] at T;rw[T];have Q:Z z p k < Z z p ((l+r) / 2):=yR hc;exact place u f l ((l+r) / 2) (by lia) (by lia) (by lia) b λa A K=>jV (Int.le_of_lt Q) (u _ a A K)
   .rw[yO hc] at T;rw[T];have W:Z z p ((l+r) / 2)<=Z z p k:=by
     have:¬ (Z z p k < Z z p ((l+r) / 2)):=λq=>hc (yA q);lia
    exact place u f ((l+r) / 2+1) r (by lia) (by lia) R (λa A=>jV (u a ((l+r) / 2) (by lia) (by lia)) W) d
def bin:∀ (f:Nat) (p:Array Nat) (k:Nat),p.Perm Q3->p.size=Q3.size->k+f<=Q3.size->Up z p k ->
  (run (dB z) (kas_bin f p k)).Perm Q3/\(run (dB z) (kas_bin f p k)).size=Q3.size/\Up z (run (dB z) (kas_bin f p k)) (k+f)
 | 0,p,k,g,s,i,u=>⟨g,s,u⟩
 | f+1,p,k,g,s,i,u=>by
  unfold kas_bin;rw[g8];have P:=place u k 0 k (by lia) (by lia) (yN _) (λa A=>absurd A (vS _)) λa A K=>absurd A (by lia);dsimp only at P;generalize run (dB z) (kas_place p k k 0 k)=l at P;let⟨o,j,m⟩:=P;have Z:=ER z (p:=p) (src:=k) (d:=k - l) (by lia) (by lia);have e:k - (k - l)=l:=by lia
  rw[e] at Z;let⟨q,Q,n⟩:=bin f (bubble p k (k - l)) (k+1) ((bubble_perm _ _ _).trans g) (by rw[bubble_size,s]) (by lia) λa b R B=>by
   rw[Z,Z];by_cases T:a=l
   .rw[yM T];by_cases S:b=l
    .rw[yM S];exact qA _
    .rw[yO S];rw[yM (by lia)];exact m _ (by lia) (by lia)
   .rw[yO T];by_cases S:b=l
    .rw[yM S,yO (by lia)];exact j a (by lia)
    .rw[yO S];by_cases H:l < a/\a<=k
     .rw[yM H,yM (by lia)];exact u _ _ (by lia) (by lia)
     .rw[yO H];by_cases c:l < b/\b<=k
      .rw[yM c];exact u _ _ (by lia) (by lia)
      .rw[yO c];exact u _ _ R (by lia)
  exact⟨q,Q,by rw[show k+(f+1)=k+1+f by lia];exact n⟩
def gz(m:1<=n):(run (dB z) (kas_sort n)).toList.Perm (List.range n)/\((run (dB z) (kas_sort n)).toList.map z).Pairwise (·<=·):=by
 have H:(List.toArray (List.range n)).size=n:=by simp
 have C:=count (z:=z) (p:=List.toArray (List.range n)) (nrem:=n) (by lia) m;have fin:∀p:Array Nat,p.Perm (List.toArray (List.range n))->p.size=n->Up z p n->p.toList.Perm (List.range n)/\(p.toList.map z).Pairwise (·<=·):=λp a b c=>by
  refine⟨by have:=a.toList;simpa using this,?_⟩;rw[List.pairwise_iff_getElem];intro i j I J d;have g:i < n:=by simpa [b] using I
  have R:j < n:=by simpa [b] using J
  have:=c i j (jU d) R;unfold Z at this;have f:p.getD i 0=p[i]:=by simp[Array.getD,b,g]
  have l:p.getD j 0=p[j]:=by simp[Array.getD,b,R]
  rw[f,l] at this;simpa using this
 unfold kas_sort;rw[g8];generalize run (dB z) (kas_count n (List.toArray (List.range n)))=r at C;let⟨k,p⟩:=r;have s:=C.size;rw[H] at s;split
 .rename_i Q;have W:=C.ge;have e:max k 1=k:=by have:1<=k:=W;lia
  rw[e];let⟨o,t,q⟩:=bin (z:=z) (n - k) p k C.perm C.size (by rw[H];have:k < n:=Q;lia) C.up;refine fin _ o (by rw[t,H]) ?_;rw[show k+(n - k)=n by have:k < n:=Q;lia] at q;exact q
 .rename_i U;have E:=C.le;have e:k=n:=by have u:k<=n:=E;have v:¬ k < n:=U;lia
  subst e;exact fin p C.perm s C.up
end
end SP
namespace T4
open PySem PySem.W PySem.Calls PyProof.Rows
def QX(z:Nat->Int)(vs:Γ Θ):Γ Θ:=if vs.length < 2 then vs else (SP.run (SP.dB z) (kas_sort vs.length)).toList.map λi=>vs.getD i Value.none
def Th(z:Nat->Int)(vs:Γ Θ):(QX z vs).length=vs.length:=by
 unfold QX;split
 .rfl
 .rename_i h;have:=(SP.gz (z:=z) (n:=vs.length) (by lia)).1.length_eq;simpa using this
def Uc{P:PySem.Fin->Ξ->Prop}(O:s.heap.get? a=↑(seqObj "list" vs.toArray n))(J:vs.length < 64)(z:Nat->Int)(κ:SortKind)
  (M:2<=vs.length->∀h':ι,(∀b o,b≠a->s.heap.get? b=↑o->h'.get? b=↑o)->∀l:SortKind->Ξ->Prop,l κ { s with heap:=h' }->wpAny (model prog w) A (keyKind' vs.toArray) l (λ_ _=>False) { s with heap:=h' })
  (R:2<=vs.length->∀h':ι,(∀b o,b≠a->s.heap.get? b=↑o->h'.get? b=↑o)->∀i j C,i < vs.length->j < vs.length->C (SP.dB z i j) { s with heap:=h' }->kas_ask prog w A κ vs i j C { s with heap:=h' })
  (h:∀ (h':ι) (c:Nat),(∀b o,b≠a->s.heap.get? b=↑o->h'.get? b=↑o)->h'.get? a=↑(seqObj "list" (QX z vs).toArray c)->P (.done (.ret .none)) { s with heap:=h' }) :
  wpAny (model prog w) A (Builtin.«list.sort» ⟨[.ref a],[]⟩) P E s:=by
 rw[list_sort_plain];have V:a < s.heap.objs.size:=zY O;have T:vs.length<=sizeLine:=by rw[qV];lia
 refine zV (vN O rfl (zV (kE O rfl ?_ (by simpa using T) (xW _))));obtain⟨v,D⟩:∃e,(s.heap.update a (Obj.mapSeq λ_=>(#[]:Array Θ))).get? a=↑(seqObj "list" #[] e):=⟨_,kG O λ_=>#[]⟩
 have Z:∀b o,b≠a->s.heap.get? b=↑o->(s.heap.update a (Obj.mapSeq λ_=>(#[]:Array Θ))).get? b=↑o:=λb o B e=>(xO _ _ (jO B)).trans e;refine zV (seqEpoch_at D rfl (zV (wpAny_newTuple ?_ (by simpa using T))));refine zV (kR (xY ?_) (xW _));have u:(((s.heap.update a (Obj.mapSeq λ_=>(#[]:Array Θ))).push (seqObj "tuple" vs.toArray 0)).push (seqObj "list" #[] 0)).get? a=↑(seqObj "list" #[] v):=zU _ (zU _ D);have W:∀b o,b≠a->s.heap.get? b=↑o->(((s.heap.update a (Obj.mapSeq λ_=>(#[]:Array Θ))).push (seqObj "tuple" vs.toArray 0)).push (seqObj "list" #[] 0)).get? b=↑o:=λb o B e=>zU _ (zU _ (Z b o B e));show wpAny _ A _ P E { s with heap:=((s.heap.update a (Obj.mapSeq λ_=>(#[]:Array Θ))).push (seqObj "tuple" vs.toArray 0)).push (seqObj "list" #[] 0) };generalize ((s.heap.update a (Obj.mapSeq λ_=>(#[]:Array Θ))).push (seqObj "tuple" vs.toArray 0)).push (seqObj "list" #[] 0)=g at u W;clear D Z;dsimp only;have fin:∀d:SortSt,(arrOf d).map (·.2)=(QX z vs).toArray->failedOf d=none ->
   wpAny (model prog w) A (do
    let S:=(arrOf d).map (·.2);let t:=(<- seqEpoch a) != v
    Builtin.List.listUpdate (.ref a) λ_=>S
    if let some e:=failedOf d then rule "list.sort.comparison-raised";throw e
    if t then rule "list.sort.modified";raiseError "ValueError" "list modified during sort"
    ret .none) P E { s with heap:=g }:=λd I H=>by
  dsimp only;rw[I,H];refine zV (seqEpoch_at u rfl ?_);refine zV (kE u rfl ?_ (xW _) (by show (QX z vs).toArray.size<=_;rw[zH,Th];lia));obtain⟨c,hc⟩:∃c,(g.update a (Obj.mapSeq λ_=>(QX z vs).toArray)).get? a=↑(seqObj "list" (QX z vs).toArray c):=⟨_,kG u λ_=>(QX z vs).toArray⟩
  have q:=h _ c (λb o B e=>(xO _ _ (jO B)).trans (W b o B e)) hc;simp?[bne_self_eq_false,yP,qQ];exact zW q
 by_cases H:vs.toArray.size < 2
 .rw[yM H,yM H];refine zV (zW ?_);rw[StateT.run_pure];refine zV (zW (fin _ ?_ rfl));have U:vs.length < 2:=by simpa using H
  unfold QX;rw[yM U];show ((vs.toArray.zip vs.toArray).map (·.2))=vs.toArray;apply Array.toList_inj.mp;simp?[Array.toList_map,Array.toList_zip];exact List.map_snd_zip (yN _)
 .rw[yO H,yO H];have U:2<=vs.length:=by
   have:¬ vs.length < 2:=by simpa using H
   lia
  refine zV (xB (M U g W (λm f=>m=κ/\f={ s with heap:=g }) ⟨rfl,rfl⟩) (λm f k=>?_) λ_ _ x=>x.elim);let⟨rfl,rfl⟩:=k;refine zV (xB (kat_run (Q:=λd f=>f={ s with heap:=g }/\(arrOf d).map (·.2)=(QX z vs).toArray/\failedOf d=none) (G:=λp f=>f={ s with heap:=g }/\p=SP.run (SP.dB z) (kas_sort vs.length))
   rfl U J (λp d f N y F r=>⟨r.1,?_,F⟩) (SP.wp_run (R U g W) (kas_sort vs.length) (SP.Er (by lia)) ⟨rfl,rfl⟩)) ?_ λ_ _ e=>e)
  .rw[kat_snds rfl y,r.2];unfold QX;rw[yO (by lia)]
  .rintro⟨⟨⟩,d⟩ f ⟨k,K,L⟩;subst k;exact fin d K L
def Ww(h:ι)(l:Ψ)(vs:Γ Θ):Prop:=∃ (o:Obj) (T:String) (n:Nat),(T="list"\/T="tuple")/\h.get? l=↑o/\o.cls=.type T/\o.data=.seq vs.toArray n
def To(hl:Ww s.heap l vs)
  (h:Q vs { s with heap:=(s.heap.push (seqObj "list" #[] 0)).update s.heap.objs.size (Obj.mapSeq (·++vs.toArray)) }) (hsz:vs.length<=sizeLine):wpAny (model prog w) A (collect (.ref l)) Q E s:=by
 let⟨o,T,n,H,O,hc,d⟩:=hl;unfold collect;refine zV (wpAny_runValue (kH entry_proto_collect' ?_));show wpAny _ _ (do again (.builtin "list.__iadd__" ⟨[<- newList [],.ref l],[]⟩)) _ _ s;refine zV (kR (zW ⟨wM _ (by decide +kernel),kH entry_list_iadd' ?_⟩));show wpAny _ _ (Builtin.List.listExtendWith (.ref s.heap.objs.size) (.ref l) (.ref s.heap.objs.size)) _ _ { s with heap:=s.heap.push (seqObj "list" #[] 0) };unfold Builtin.List.listExtendWith;have R:(s.heap.push (seqObj "list" #[] 0)).get? l=↑o:=zU _ O;refine zV (wN (T:=T) ⟨o,R,hc⟩ ?_);rw[yM (by rcases H with rfl|rfl<;>simp)];refine zV (vN R d (zV (vN (xs:=#[]) (n:=0) (zX _ rfl) rfl ?_)));rw[yO (by simp)];refine zV (kE (xs:=#[]) (n:=0) (zX _ rfl) rfl ?_ (xW _) (by show (#[]++vs.toArray).size<=sizeLine+1;simp?[Array.size_append,zH,xM];lia));refine zW ?_;refine zV (wpAny_load (kG (zX _ rfl) _) ?_);show wpAny _ _ (pure ((#[]:Array Θ)++vs.toArray).toList) Q E _;rw[show ((#[]:Array Θ)++vs.toArray).toList=vs by simp];exact zW h
def Wx{s:Ξ}{Q:Θ->Ξ->Prop}(hl:Ww s.heap l vs)(t:vs.length < 64)(z:Nat->Int)(κ:SortKind)
  (K:2<=vs.length->∀h':ι,(∀b o,s.heap.get? b=↑o->h'.get? b=↑o)->∀d:SortKind->Ξ->Prop,d κ { s with heap:=h' }->wpAny (model prog w) A.in1.in1 (keyKind' vs.toArray) d (λ_ _=>False) { s with heap:=h' })
  (R:2<=vs.length->∀h':ι,(∀b o,s.heap.get? b=↑o->h'.get? b=↑o)->∀i j C,i < vs.length->j < vs.length->C (SP.dB z i j) { s with heap:=h' }->kas_ask prog w A.in1.in1 κ vs i j C { s with heap:=h' })
  (h:∀ (h':ι) (D:Ψ) (c:Nat),(∀b o,s.heap.get? b=↑o->h'.get? b=↑o)->s.heap.objs.size<=D->h'.get? D=↑(seqObj "list" (QX z vs).toArray c)->Q (.ref D) { s with heap:=h' }) :
  wpAny (model prog w) A (call (.builtin "sorted") [.ref l]) Q E s:=by
 have T:vs.length<=sizeLine:=by rw[qV];lia
 refine Calls.call_function_entry kind_sorted plain_sorted entry_sorted (args_sorted1 _) ?_;unfold Builtin.«sorted»;refine zV (m:=checkCount "sorted" 1 1 _) (zW (zV (To hl ?_ T)));refine zV (kR ?_ (by simpa using T));have H:((s.heap.push (seqObj "list" #[] 0)).update s.heap.objs.size (Obj.mapSeq (·++vs.toArray))).objs.size=s.heap.objs.size+1:=by rw[Heap.size_update,size_push']
 have p:∀b o,s.heap.get? b=↑o->(((s.heap.push (seqObj "list" #[] 0)).update s.heap.objs.size (Obj.mapSeq (·++vs.toArray))).push (seqObj "list" vs.toArray 0)).get? b=↑o:=λb o e =>
  zU _ ((xO _ _ (jJ (zY e))).trans (zU _ e))
 have V:(((s.heap.push (seqObj "list" #[] 0)).update s.heap.objs.size (Obj.mapSeq (·++vs.toArray))).push (seqObj "list" vs.toArray 0)).get? (s.heap.objs.size+1)=↑(seqObj "list" vs.toArray 0):=by
  rw[<- H];exact zX _ rfl
 show wpAny _ _ _ _ _ { s with heap:=((s.heap.push (seqObj "list" #[] 0)).update s.heap.objs.size (Obj.mapSeq (·++vs.toArray))).push (seqObj "list" vs.toArray 0) };rw[H];generalize ((s.heap.push (seqObj "list" #[] 0)).update s.heap.objs.size (Obj.mapSeq (·++vs.toArray))).push (seqObj "list" vs.toArray 0)=f at p V;have k:∀h':ι,(∀b o,b≠s.heap.objs.size+1->f.get? b=↑o->h'.get? b=↑o)->∀b o,s.heap.get? b=↑o->h'.get? b=↑o:=λh' q b o e=>q b o (yS (jP (zY e))) (p b o e);refine zV (xY (qX slot_list_sort ⟨_,V,rfl⟩ entry_list_sort (Uc V t z κ (λa h' q=>K a h' (k h' q)) (λa h' q=>R a h' (k h' q)) λh' c q e=>⟨_,rfl,?_⟩) (args_list_sort _)));exact zW ⟨_,rfl,h h' _ c (k h' q) (by lia) e⟩
end T4
namespace Dl
open PySem L2 PySem.Spec PyProof.Rows
def tV(i:Nat)(fz:Γ Nat)(f:Env->Δ (Γ D)):au->Δ Out:=λa=>(f (bV (hand fz 0 a))).bind λu=>oh i (λd=>if d.length+u.length<=sizeLine then ↑(d++u) else none) (hand fz 0 a)
def C3(i:Nat)(fz:Γ Nat)(y:X.N[i]?=↑x)(V:JF X.env.scope x)(h:DF X e f)(z:(x == ("__debug__":Str))=false:=by decide)(J:(x == ("__classdict__":Str))=false:=by decide)
  (R:((backTo U (starEach [e] X.env)).all (λx=>!x.1)&&(backToKw U (keywordEach [] X.env)).all (λx=>x.1.isSome)&&decide ([e].length+([]:Γ Keyword).length+(if ([]:Γ Keyword).isEmpty then 0 else 1) < 30))=true:=by rfl)
  (Q:(apos.endLine == U.line)=true:=by rfl) (hs:starEach [e] X.env=(false,eval e X.env)::starEach [] X.env:=by rfl) :
  DS X QD QF (.Expr (.Call (.Attribute (.Name x px) "extend" apos) [e] [] U) pos) (tV i fz f) :=
 c9 (o9 (yg qP PySem.F.slot_list_extend PySem.F.type_list_extend CU (p7 y V z J) (dg h iR hs) rfl R Q hs rfl)) λE K H z=>by
  let⟨M,ρ,o,S,j,q⟩:=z
  let⟨C,w,j⟩:=bs j;let⟨D,es,d,g,rfl⟩:=k9 j;let⟨p,B,s⟩:=S.hand fz;let⟨a,I,c,u,P,Y,T⟩:=s.own i D d;refine⟨.ref a,c,.inl ⟨rfl,I,iw.of u⟩,p,_,C,s.gr.fh,s.RC,w,λb W L t G hb hf v r=>?_⟩;have k:=s.grow G;let⟨O,A,l,m,f3,f5,n⟩:=k.own i D d;rw[c] at l;cases l;split at g
  .rename_i Z;cases g;exact⟨a,b,A,W,rfl,rfl,m,v,by rw[n.length,r.length];exact Z,q K _ t (k.mut d c m (n.append r)) (B.trans G.ff)⟩
  .cases g
def Cj(ds:Γ D)(k:Int)(d:D):Γ D:=let j:=if k < 0 then (k+(ds.length:Int)).toNat else min k.toNat ds.length;ds.take j++d::ds.drop j
def HR:V->Γ V->Hp->VK->Prop:=λx v H Q=>∃l s k y,x=.ref l/\v=[.int k,y]/\H l=↑(.lst s)/\s.length < sizeLine/\-(2 ^ 62)<=k/\k < 2 ^ 62 /\
 Q .QB (upd H l (.lst (s.take (if k < 0 then (k+(s.length:Int)).toNat else min k.toNat s.length)++y::s.drop (if k < 0 then (k+(s.length:Int)).toNat else min k.toNat s.length))))
def Dt:Oe X "list.insert" HR:=by
 intro p s j H x g v f Q I c V h;let⟨l,S,k,y,rfl,rfl,a,Z,K,d,q⟩:=h;cases c;let⟨U,u,rfl,⟨t,rfl⟩,R⟩:=L2.az.two V;let⟨z,i,n,r,L,e⟩:=I.Wo a;have b:¬(!Builtin.List.listFitsIndex k)=true:=by
  have:Builtin.List.listFitsIndex k=true:=by
   unfold Builtin.List.listFitsIndex;simp?[zF,zJ];lia
  rw[this];simp
 refine qY F.slot_list_insert ⟨_,e,rfl⟩ F.entry_list_insert (F.args_list_insert_3 _ _ _) (AutoListH.list_insert_list_int_val_1 l i.toArray n k t u b (by rw[zH];lia)) ⟨e,?_⟩;have N:i.length=S.length:=L.symm;refine⟨.QB,_,I.XY (its':=i.take (if k < 0 then (k+(S.length:Int)).toNat else min k.toNat S.length)++u::i.drop (if k < 0 then (k+(S.length:Int)).toNat else min k.toNat S.length)) a e ?_ ((r.take _).append (.cons R (r.drop _))) ?_,rfl,q⟩
 .dsimp only;rw[zH,N];apply Array.toList_inj.mp;simp;exact kM (by rw[qJ,N];exact yN _)
 .rw[zN,zL,jX,qJ];lia
def D5(i:Nat)(fz:Γ Nat)(fk f:Env->Δ D):au->Δ Out:=λa=>(fk (aV a)).bind λK=>match K with
 | .int k=>(lE fz f a).bind λp=>oh i (λd=>if Dj k=true/\d.length < sizeLine then ↑(Cj d k p.1) else none) p.2
 | _=>none
def Dk(i:Nat)(fz:Γ Nat)(I:X.N[i]?=↑x)(P:JF X.env.scope x)(M:DE X e fk)(h:DE X c f)(L:(x == ("__debug__":Str))=false:=by decide)(J:(x == ("__classdict__":Str))=false:=by decide)
  (B:((backTo U (starEach [e,c] X.env)).all (λx=>!x.1)&&(backToKw U (keywordEach [] X.env)).all (λx=>x.1.isSome)&&decide ([e,c].length+([]:Γ Keyword).length+(if ([]:Γ Keyword).isEmpty then 0 else 1) < 30))=true:=by rfl)
  (Q:(apos.endLine == U.line)=true:=by rfl) (hs:starEach [e,c] X.env=(false,eval e X.env)::starEach [c] X.env:=by rfl) (Y:starEach [c] X.env=(false,eval c X.env)::starEach [] X.env:=by rfl) :
  DS X QD QF (.Expr (.Call (.Attribute (.Name x px) "insert" apos) [e,c] [] U) pos) (D5 i fz fk f) :=
 c9 (o9 (yg qP PySem.F.slot_list_insert PySem.F.type_list_insert Dt (p7 I P L J) (dg M (dg h iR Y) hs) rfl B Q hs (by rw[Y];rfl))) λE σ H z=>by
  let⟨HF,w,o,S,G,q⟩:=z
  let⟨T,Z,G⟩:=bs G;cases T<;>try cases G
  rename_i k;let⟨⟨d,ρ'⟩,g,G⟩:=bs G;let⟨D,es,b,m,rfl⟩:=k9 G;have u:∃V,w[i]?=↑(.own V):=by
   let⟨d1,_,g⟩:=bs g;split at g
   .cases g;exact⟨D,b⟩
   .let⟨d2,_,g⟩:=ag g;cases g;rw[hV] at b;let⟨s,hs,b⟩:=ag b;cases s with
    | QB=>split at b<;>cases b
    | val _=>split at b<;>cases b
    | own xs=>exact⟨xs,hs⟩
  let⟨V,u⟩:=u;let⟨a,vs,l,c,e3,e5,e4⟩:=S.own i V u;refine⟨.ref a,l,.inl ⟨rfl,vs,iw.of c⟩,H,aV w,_,.refl _,S.all,Z,λvk Hk y K R=>?_⟩;simp?[Rep] at R;subst R;refine n8 (S.step K.hh) g λv H' A W n sh r=>?_;let⟨a',C,p,t,f3,f5,j⟩:=n.own i D b;rw[l] at p;cases p;split at m
  .rename_i z;cases m;have O:=z.1;unfold Dj at O;rw[zF] at O;refine⟨a,C,k,v,rfl,rfl,t,by rw[j.length];exact z.2,yR O.1,yR O.2,q σ _ A (n.mut b l t ?_) W⟩;unfold Cj;rw[j.length];exact (j.take _).append (ak.cons r (j.drop _))
  .cases m
def GH:D->D->Δ (Γ D)
 | .list x,.list y=>small (x++y)
 | _,_=>none
def ES(K:Φ):R2:=λx y H Q=>∃a b s Y,x=.ref a/\y=.ref b/\iw K H a s/\iw K H b Y/\s.length+Y.length<=sizeLine/\∀p,H p=none->Q (.ref p) (upd H p (.lst (s++Y)))
def GN:gY X (binaryOp .Add) (ES X.K):=by
 intro p s G H x y v u Q I l m h;let⟨a,b,w,E,rfl,rfl,A,B,z,q⟩:=h;cases l;cases m;let⟨i,r,P,_⟩:=I.list A;let⟨R,g,k,_⟩:=I.list B;let⟨⟨C,j,D,S⟩,o,hc,n,f⟩:=id P.isList;let⟨⟨t,Y,d,O⟩,V,U,N,c⟩:=id k.isList;simp only at hc f U c;subst hc f U c;refine wR ⟨_,o,rfl⟩ ⟨_,V,rfl⟩ noFill_list_add seq_list_add PySem.F.slot_list_add PySem.F.entry_list_add (PySem.F.args_list_add_2 _ _) (list_addW a b i.toArray R.toArray n N j Y S O (by rw[zH,zH,<- r.length,<- g.length];exact z)) ⟨o,V,?_⟩;have e:i.toArray++R.toArray=(i++R).toArray:=by simp
 rw[e];exact⟨.ref s.heap.objs.size,_,I.XZ (t':=s.toks) (r.append g) (by rw[zN];exact z),rfl,q _ I.fresh⟩
def boolsOf:Γ D->Δ (Γ θ)
 | []=>↑[]
 | .bool b::r=>(boolsOf r).map (b::·)
 | _::_=>none
def iH:∀ {ds:Γ D}{b:Γ θ},boolsOf ds=↑b->ds=b.map PyData.bool
 | [],b,h=>by cases h;rfl
 | d::r,b,h=>by
  cases d<;>simp?[boolsOf] at h<;>try cases h
  let⟨s,H,rfl⟩:=ag h;rw[iH H];rfl
def ma{K:Φ}:∀ {s:Γ θ}{vs:Γ V},ak K H (s.map PyData.bool) vs->vs=s.map V.bl
 | [],vs,h=>h.nil_inv
 | b::s,vs,h=>by
  let⟨v,r,rfl,a,c⟩:=h.cons_inv;simp?[Rep] at a;rw[a,ma c];rfl
def lK:∀ {s:Γ θ}{us:Γ Θ},az (s.map V.bl) us->us=s.map Value.bool
 | [],us,h=>by cases h;rfl
 | b::s,us,h=>by
  cases h with
  | cons r R=>cases r;rw[lK R];rfl
def range_all(s:Γ θ):(List.range s.length).all (λi=>s.getD i false)=s.all id:=by
 induction s with
 | nil=>rfl
 | cons b s I=>rw[zL,vP,xU,List.all_map,xU];simpa [wZ] using jD (b&&·) I
def range_any(s:Γ θ):(List.range s.length).any (λi=>s.getD i false)=s.any id:=by
 induction s with
 | nil=>rfl
 | cons b s I=>rw[zL,vP,vG,wV,vG];simpa [wZ] using jD (b||·) I
def AW(hc:X.calm=true):fJ X (.builtin "all") (λxs H Q=>∃ (a:Ψ) (B:Γ θ),xs=[.ref a]/\iw X.K H a (B.map V.bl)/\Q (.bl (B.all id)) H):=by
 intro S s F H xs U Q I r h;let⟨a,B,rfl,j,q⟩:=h;let⟨u,rfl,x⟩:=vals1 r;cases x;let⟨l,R,p,Z⟩:=I.list j;have k:=lK R;subst k;have g:X.A.in1.handled=none:=I.ok.hd hc;refine call_all_walk (qL p.isList ?_);let⟨o,O,y,n,D⟩:=p.isList;have c:a≠s.heap.objs.size:=yS (zY O);refine⟨_,_,_,_,_,_,λi=>B.getD i false,rfl,Walks.list g s.heap.objs.size a c (B.map Value.bool).toArray,⟨⟨_,zX _ rfl,rfl,rfl⟩,p.isList.push _⟩,λi v C w E P d=>?_,λz T m=>?_⟩
 .have e:v=Value.bool (B.getD i false):=by
   have P:(B.map Value.bool).toArray[i]?=↑v:=P;rw[vY,zO] at P;let⟨b,f,rfl⟩:=ag P;rw[zG,f];rfl
  subst e;exact xX d
 .refine⟨.bl (B.all id),H,?_,?_,q⟩
  .exact I.kept (t':=T) λb t e=>m b t (by simp;exact yS (zY e)) (zU _ e)
  .show Value.bool _=Value.bool _;have:=range_all B;simp?[zH,zD];rw[this]
def jw:Γ D->Δ D:=λs=>(oneOf s).bind λd=>match d with
 | .list e=>(boolsOf e).map λb=>.bool (b.all id)
 | _=>none
def LQ(hc:X.calm=true)(B:ou X "all" (.builtin "all"))(ha:DA X [e] fs)(he:starEach [e] X.env=(false,eval e X.env)::starEach [] X.env:=by rfl):DE X (.Call (.Name "all" p) [e] [] pos) (bp jw fs) :=
 j9 (AW hc) (by
  intro HF H ds vs d Q sm r hg q;let⟨x,hx,hg⟩:=bs hg;rw[fZ hx] at r;cases x<;>try cases hg
  let⟨bs,hb,rfl⟩:=ag hg;let⟨v,r',rfl,a,b⟩:=r.cons_inv;rw[b.nil_inv];simp?[Rep] at a;let⟨p,us,rfl,h,rr⟩:=a;rw[iH hb] at rr;have:=ma rr;subst this;exact⟨p,bs,rfl,sm.seq h,q _ H HF (.refl sm) (by simp[Rep])⟩) B ha (by decide) (by decide) he rfl
abbrev lexLt:=HT.lexLt
def cP:∀a:Γ Int,lexLt a a=false
 | []=>rfl
 | x::a=>by show HT.lexLt (x::a) (x::a)=false;rw[HT.bY,yM rfl];exact cP a
def cZ:∀ {a b c:Γ Int},lexLt a b=true->lexLt b c=true->lexLt a c=true
 | [],[],_,h,_=>by cases h
 | [],_::_,[],_,h=>by cases h
 | [],_::_,_::_,_,_=>rfl
 | _::_,[],_,h,_=>by cases h
 | _::_,_::_,[],_,h=>by cases h
 | x::a,y::b,z::c,d,H=>by
  have d:HT.lexLt (x::a) (y::b)=true:=d;have H:HT.lexLt (y::b) (z::c)=true:=H;show HT.lexLt (x::a) (z::c)=true;rw[HT.bY] at d H ⊢;by_cases E:x=y
  .rw[yM E] at d;by_cases e:y=z
   .rw[yM e] at H;rw[yM (E.trans e)];exact cZ d H
   .rw[yO e] at H;rw[yO (by lia)];have:=yR H;exact yA (by lia)
  .rw[yO E] at d;have q:=yR d;by_cases e:y=z
   .rw[yO (by lia)];exact yA (by lia)
   .rw[yO e] at H;have Q:=yR H;rw[yO (by lia)];exact yA (by lia)
def g9:∀ {a b:Γ Int},lexLt a b=false->lexLt b a=false->a=b
 | [],[],_,_=>rfl
 | [],_::_,h,_=>by cases h
 | _::_,[],_,h=>by cases h
 | x::a,y::b,H,c=>by
  have H:HT.lexLt (x::a) (y::b)=false:=H;have c:HT.lexLt (y::b) (x::a)=false:=c;rw[HT.bY] at H c;by_cases e:x=y
  .rw[yM e] at H;rw[yM e.symm] at c;rw[e,g9 H c]
  .rw[yO e] at H;rw[yO (λz=>e z.symm)] at c;have:=wJ H;have:=wJ c;lia
def lexLe(a b:Γ Int):θ:=!lexLt b a
def yy(a b c:Γ Int)(d:lexLe a b=true)(H:lexLe b c=true):lexLe a c=true:=by
 unfold lexLe at *;rw[yQ] at *;cases e:lexLt c a with
 | false=>rfl
 | true =>
  cases E:lexLt a b with
  | true=>rw[cZ e E] at H;cases H
  | false =>
   have:=g9 E d;subst this;rw[e] at H;cases H
def yz(a b:Γ Int):(lexLe a b||lexLe b a)=true:=by
 unfold lexLe;cases e:lexLt b a with
 | false=>rfl
 | true =>
  cases E:lexLt a b with
  | false=>rfl
  | true=>have:=cZ e E;rw[cP] at this;cases this
def AD(H:lexLe a b=true)(c:lexLe b a=true):a=b:=by
 unfold lexLe at *;rw[yQ] at *;exact g9 c H
def rY{α:Type}{L:α->α->θ}(Z:∀a b,L a b=true->L b a=true->a=b):∀ {l m:Γ α},l.Perm m->l.Pairwise (λa b=>L a b=true)->m.Pairwise (λa b=>L a b=true)->l=m
 | [],m,p,_,_=>p.nil_eq
 | a::l,[],p,_,_=>by have:=p.length_eq;simp at this
 | a::l,b::m,p,g,i=>by
  let⟨H,B⟩:=List.pairwise_cons.mp g;let⟨A,c⟩:=List.pairwise_cons.mp i;have e:a=b:=by
   have d:a∈b::m:=p.mem_iff.mp zE;have f:b∈a::l:=p.mem_iff.mpr zE;rcases List.mem_cons.mp d with e|d
   .exact e
   .rcases List.mem_cons.mp f with e|f
    .exact e.symm
    .exact Z a b (H b f) (A a d)
  subst e;rw[rY Z (List.perm_cons a |>.mp p) B c]
def Ra(l:Γ (Γ Int)):Γ (Γ Int):=l.mergeSort lexLe
def qd(l:Γ (Γ Int)):(Ra l).Perm l:=List.mergeSort_perm l lexLe
def zm(l:Γ (Γ Int)):(Ra l).Pairwise (λa b=>lexLe a b=true):=List.pairwise_mergeSort yy yz l
def nZ{l:Γ (Γ Int)}(p:l.Perm m)(h:l.Pairwise (λa b=>lexLe a b=true)):l=Ra m:=rY (λ_ _=>AD) (p.trans (qd m).symm) h (zm m)
def rk(l:Γ (Γ Int))(a:Γ Int):Int:=((l.countP λb=>lexLt b a:Nat):Int)
def oN(H:a∈l):lexLt a b=decide (rk l a < rk l b):=by
 unfold rk;have o:∀ {a b:Γ Int},lexLt a b=true->(l.countP λc=>lexLt c a)<=l.countP λc=>lexLt c b:=λ{a b} h=>List.countP_mono_left λc _ hc=>cZ hc h;have s:∀ {a b:Γ Int}(H:a∈l),lexLt a b=true->(l.countP λc=>lexLt c a) < l.countP λc=>lexLt c b:=λ{a b} H h=>by
  have k:∀m:Γ (Γ Int),a∈m->(m.countP λc=>lexLt c a) < m.countP λc=>lexLt c b:=λm M=>by
   induction m with
   | nil=>cases M
   | cons x m i =>
    rw[List.countP_cons,List.countP_cons];have O:(m.countP λc=>lexLt c a)<=m.countP λc=>lexLt c b:=List.countP_mono_left λc _ hc=>cZ hc h;rcases List.mem_cons.mp M with e|M
    .subst e;rw[cP,h];simp?[yP,qQ,xI];lia
    .have:=i M;by_cases X:lexLt x a=true
     .rw[X,cZ X h];simp?[xI];lia
     .have U:lexLt x a=false:=by simpa using X
      rw[U];simp?[yP,qQ];split<;>lia
  exact k l H
 cases e:lexLt a b with
 | true=>exact (yA (by have:=s H e;lia)).symm
 | false =>
  refine (zZ ?_).symm;cases E:lexLt b a with
  | true=>have:=o E;lia
  | false=>rw[g9 e E];lia
section
variable {prog:ε}{w:δ}{A:ξ}{E:Θ->Ξ->Prop}{s:Ξ}
def mZ:∀ {us S:Γ Θ}{ns M:Γ Int}(i:Nat),IntsAre us ns->IntsAre S M->Q (lexLt ns M) s->W.KatLex prog w A true (decide (ns.length < M.length)) Q (us.zip S) i s
 | [],[],_,_,i,.nil,.nil,h=>h
 | [],_::_,_,_,i,.nil,.cons _ _ _,h=>by
  show Q (decide (0 < _+1)) s;rw[yA (Nat.succ_pos _)];exact h
 | _::_,[],_,_,i,.cons _ _ _,.nil,h=>by
  show Q (decide (_+1 < 0)) s;rw[zZ (vS _)];exact h
 | _::us,_::S,_,_,i,.cons n t r,.cons m u a,h=>by
  have h:Q (HT.lexLt (n::_) (m::_)) s:=h;rw[HT.bY] at h;refine W.kat_cons (SeqAt.EqAt.int_int n t m u prog w _ _ ?_);cases e:(n == m) with
  | true =>
   have E:n=m:=eq_of_beq e;rw[yM E] at h;refine W.kat_yes ?_;have:=mZ (i+1) r a h;simp?[zL,Nat.add_lt_add_iff_right];exact this
  | false =>
   have E:¬ n=m:=λq=>by rw[q] at e;simp at e
   rw[yO E] at h;refine W.kat_no ?_;by_cases H:(true&&i == 0)=true
   .rw[H];exact oneLt_int h
   .have R:(true&&i == 0)=false:=by simpa using H
    rw[R];refine W.kat_one _ _ (lt_int ?_);exact h
end
def ae(ns:Γ Int):D:=.tuple (ns.map PyData.int)
def intsOf:Γ D->Δ (Γ Int)
 | []=>↑[]
 | .int n::r=>(intsOf r).map (n::·)
 | _::_=>none
def cY:∀ {ds:Γ D}{ns:Γ Int},intsOf ds=↑ns->ds=ns.map PyData.int
 | [],ns,h=>by cases h;rfl
 | d::r,ns,h=>by
  cases d<;>simp?[intsOf] at h<;>try cases h
  let⟨n,H,rfl⟩:=ag h;rw[cY H];rfl
def cC:∀ns:Γ Int,intsOf (ns.map PyData.int)=↑ns
 | []=>rfl
 | n::ns=>by simp[intsOf,cC ns]
def BB:D->Δ (Γ Int)|.tuple d=>(intsOf d).bind λn=>if n=[] then none else ↑n|_=>none
def Ad(h:BB d=↑ns):d=ae ns/\ns≠[]:=by
 cases d<;>try cases h
 let⟨m,a,H⟩:=bs h;split at H
 .cases H
 .rename_i n;cases H;rw[cY a];exact⟨rfl,n⟩
def Dm(h:ns≠[]):BB (ae ns)=↑ns:=by
 unfold ae BB;simp?[cC,zA];rw[yO h]
def rowsOf:Γ D->Δ (Γ (Γ Int))
 | []=>↑[]
 | d::r=>(BB d).bind λn=>(rowsOf r).map (n::·)
def ku:∀ {ds:Γ D}{Q:Γ (Γ Int)},rowsOf ds=↑Q->ds=Q.map ae/\∀ns∈Q,ns≠[]
 | [],Q,h=>by cases h;exact⟨rfl,λ_ z=>by cases z⟩
 | d::r,Q,h=>by
  let⟨ns,H,h⟩:=bs h;let⟨t,a,rfl⟩:=ag h;let⟨e,n⟩:=Ad H;let⟨E,Z⟩:=ku a;refine⟨by rw[e,E];rfl,λm M=>?_⟩;rcases List.mem_cons.mp M with q|q
  .subst q;exact n
  .exact Z m q
def iy:∀ {Q:Γ (Γ Int)},(∀ns∈Q,ns≠[])->rowsOf (Q.map ae)=↑Q
 | [],_=>rfl
 | ns::r,h=>by
  simp?[zI,rowsOf,Dm (h ns zE),zA,iy λm H=>h m (zC _ H),zB]
structure iI(h:Heap)(v:Value)(ns:List Int):Prop where
 ex:∃ (a:Ψ) (o:Obj) (its:Array Θ) (n:Nat),v=.ref a/\h.get? a=↑o/\o.cls=.type "tuple"/\o.data=.seq its n/\IntsAre its.toList ns
def iI.keep(r:iI h v ns)(k:∀b o,h.get? b=↑o->h'.get? b=↑o):iI h' v ns:=let ⟨a,o,i,n,e,E,c,d,f⟩:=r.ex;⟨a,o,i,n,e,k _ _ E,c,d,f⟩
def nz:∀ {vs:Γ Θ}{Q:Γ (Γ Int)},Paired (iI h) vs Q->(∀ns∈Q,ns≠[])->∃fs:Γ Θ,W.KatTups h vs fs/\fs.length=vs.length/\∀f∈fs,∃n t,f=Value.int n t
 | _,_,.nil,_=>⟨[],trivial,rfl,λ_ z=>by cases z⟩
 | _,_,.cons (a:=v) (b:=ns) r p,H=>by
  let⟨fs,k,l,u⟩:=nz p λm M=>H m (zC _ M);let⟨a,o,i,n,rfl,E,c,d,e⟩:=r.ex;cases s:i.toList with
  | nil =>
   rw[s] at e;cases e;exact absurd rfl (H [] zE)
  | cons f R =>
   rw[s] at e;cases e with
   | cons m t w =>
    have j:i[0]?=↑(.int m t):=by
     have:i.toList[0]?=↑(Value.int m t):=by rw[s];rfl
     simpa using this
    exact⟨.int m t::fs,W.KatTups.cons E c d j k,by simp[l],λg G=>by
     rcases List.mem_cons.mp G with q|q
     .exact⟨m,t,q⟩
     .exact u g q⟩
def dG:∀ {l:Γ α}{m:Γ β}{i:Nat},Paired R l m->i < l.length->R (l.getD i d) (m.getD i d')
 | _,_,i,.nil,h=>by simp at h
 | _,_,0,.cons r _,_=>r
 | _,_,i+1,.cons _ p,h=>by simpa using dG (i:=i) (d:=d) (d':=d') p (by simpa using h)
def yc(hl:T4.Ww s.heap l vs)(p:Paired (iI s.heap) vs U)(N:∀ns∈U,ns≠[])(J:vs.length < 64)
  (h:∀ (h':ι) (D:Ψ) (c:Nat),(∀b o,s.heap.get? b=↑o->h'.get? b=↑o)->s.heap.objs.size<=D->h'.get? D=↑(seqObj "list" (T4.QX (λi=>rk U (U.getD i [])) vs).toArray c)->Q (.ref D) { s with heap:=h' }) :
  wpAny (model prog w) A (call (.builtin "sorted") [.ref l]) Q E s:=by
 refine T4.Wx hl J (λi=>rk U (U.getD i [])) (tuples' true) (λy h' k Z q=>?_) (λy h' k i j C K L q=>?_) h
 .have X:Paired (iI h') vs U:=Paired.XI p λ_ _ r=>r.keep k;let⟨fs,t,H,G⟩:=nz X N;refine W.kat_kind (s:={ s with heap:=h' }) (T:=.type "int") t (by lia) (λv V=>?_) (by decide) q;let⟨n,t,rfl⟩:=G v V;exact W.Looks.of_pure rfl
 .have R:=(dG (d:=Value.none) (d':=[]) p K).keep k;have Y:=(dG (d:=Value.none) (d':=[]) p L).keep k;have H:=p.length;let⟨a,o,S,n,u,g,e2,m,e⟩:=R.ex;let⟨b,o',I,n',B,F,f2,x,f⟩:=Y.ex;unfold W.kas_ask;rw[u,B];have z:U.getD i []∈U:=by
   rw[zG,zK (by lia)];exact qB _
  have P:C (lexLt (U.getD i []) (U.getD j [])) { s with heap:=h' }:=by
   rw[oN z];exact q
  refine W.kat_lt (s:={ s with heap:=h' }) g m F x ?_;have:=mZ (prog:=prog) (w:=w) (A:=A.in1.in1) (s:={ s with heap:=h' }) 0 e f P;have M:S.size=(U.getD i []).length:=by have:=wA e;simpa using this
  have O:I.size=(U.getD j []).length:=by have:=wA f;simpa using this
  rw[M,O];exact this
def pj(z:Nat->Int)(l:Γ α)(d:α):Γ α:=if l.length < 2 then l else (SP.run (SP.dB z) (W.kas_sort l.length)).toList.map λi=>l.getD i d
def ki(l:Γ α)(d:α):(List.range l.length).map (λi=>l.getD i d)=l:=by
 apply jI
 .simp
 .intro i a H;simp[H]
def fK(z:Nat->Int)(l:Γ α)(d:α):(pj z l d).Perm l:=by
 unfold pj;split
 .exact List.Perm.refl _
 .rename_i h;have:=((SP.gz (z:=z) (n:=l.length) (by lia)).1).map λi=>l.getD i d;rw[ki] at this;exact this
def HJ(Q:Γ (Γ Int)):pj (λi=>rk Q (Q.getD i [])) Q []=Ra Q:=by
 refine nZ (fK _ _ _) ?_;unfold pj;split
 .rename_i h
  match Q,h with
  | [],_=>exact List.Pairwise.nil
  | [a],_=>exact vK _ _
 .rename_i h;let⟨p,s⟩:=SP.gz (z:=λi=>rk Q (Q.getD i [])) (n:=Q.length) (by lia);rw[jF] at s ⊢;refine s.imp_of_mem λ{i j} I H q=>?_;have R:j < Q.length:=by have:=p.mem_iff.mp H;simpa using this
  unfold lexLe;rw[oN (l:=Q) (a:=Q.getD j []) (by rw[zG,zK R];exact qB _)];simp?[yQ,xC];lia
def qw{K:Φ}(z:Nat->Int)(r:ak K HF ds vs):ak K HF (pj z ds .none) (pj z vs .QB):=by
 unfold pj;rw[r.length];split
 .exact r
 .rename_i h;let⟨p,_⟩:=SP.gz (z:=z) (n:=ds.length) (by lia);have k:∀l:Γ Nat,(∀i∈l,i < ds.length)->ak K HF (l.map λi=>ds.getD i .none) (l.map λi=>vs.getD i .QB):=λl=>by
   induction l with
   | nil=>exactλ_=>ak.nil
   | cons i l I =>
    intro L;have H:=L i zE;let⟨v,e,E⟩:=r.getD (zK H);refine ak.cons ?_ (I λj J=>L j (zC _ J));dsimp only;rw[zG,zG,e,zK H];exact E
  exact k _ λi H=>by have:=p.mem_iff.mp H;simpa using this
def pD(z:Nat->Int)(r:az vs us):az (pj z vs .QB) (T4.QX z us):=by
 unfold pj T4.QX;rw[r.length];split
 .exact r
 .rename_i h;let⟨p,_⟩:=SP.gz (z:=z) (n:=us.length) (by lia);have k:∀l:Γ Nat,(∀i∈l,i < vs.length)->az (l.map λi=>vs.getD i .QB) (l.map λi=>us.getD i Value.none):=λl=>by
   induction l with
   | nil=>exactλ_=>.nil
   | cons i l I =>
    intro L;have H:=L i zE;let⟨v,e,E⟩:=r.get (zK H);refine .cons ?_ (I λj J=>L j (zC _ J));dsimp only;rw[zG,zG,e,zK H];exact E
  exact k _ λi H=>by have:=p.mem_iff.mp H;rw[r.length];simpa using this
def Ii(z:Nat->Int)(Q:Γ (Γ Int)):pj z (Q.map ae) .none=(pj z Q []).map ae:=by
 unfold pj;rw[zD];split
 .rfl
 .rename_i h;rw[zM];let⟨p,_⟩:=SP.gz (z:=z) (n:=Q.length) (by lia);refine yI λi H=>?_;have R:i < Q.length:=by have:=p.mem_iff.mp H;simpa using this
  simp[R]
def gE(I:Inv X pins σ H s)(m:aO HF H):∀ {Q:Γ (Γ Int)}{vs:Γ V}{us:Γ Θ},ak X.K HF (Q.map ae) vs->az vs us->Paired (iI s.heap) us Q
 | [],_,_,h,r=>by rw[h.nil_inv] at r;cases r;exact .nil
 | N::Q,_,_,h,r=>by
  let⟨v,f,rfl,a,b⟩:=h.cons_inv;cases r with
  | cons r R =>
   refine .cons ?_ (gE I m b R);unfold ae at a;simp?[Rep] at a;let⟨p,w,rfl,S,U⟩:=a;cases r;let⟨i,e,⟨o,O,hc,n,d⟩,_⟩:=I.tuple (ax m S);have:w=N.map V.int:=by
    have k:∀ {N:Γ Int}{w:Γ V},ak X.K HF (N.map PyData.int) w->w=N.map V.int:=λ{N}=>by
     induction N with
     | nil=>exactλh=>h.nil_inv
     | cons n N c =>
      intro w h;let⟨v,r,rfl,a,b⟩:=h.cons_inv;simp?[Rep] at a;rw[a,c b];rfl
    exact k U
   subst this;exact⟨p,o,i.toArray,n,rfl,O,hc,d,intsAre_of e⟩
def nN:fJ X (.builtin "sorted") (λxs H Q=>∃ (HF:Hp) (a:Ψ) (vs:Γ V) (M:Γ (Γ Int)),xs=[.ref a]/\aO HF H/\(iw X.K HF a vs\/f9 X.K HF a vs)/\ak X.K HF (M.map ae) vs/\(∀ns∈M,ns≠[])/\M.length < 64 /\
  ∀ (D:Ψ) (us:Γ V),H D=none->ak X.K HF ((Ra M).map ae) us->Q (.ref D) (upd H D (.lst us))):=by
 intro P s w H xs us Q I r h;let⟨HF,a,vs,M,rfl,m,b,R,N,T,q⟩:=h;let⟨u,rfl,l⟩:=vals1 r;cases l;obtain⟨S,v,p,z⟩:∃S:Γ Θ,az vs S/\T4.Ww s.heap a S/\vs.length<=sizeLine:=by
  rcases b with b|b
  .let⟨S,v,p,z⟩:=I.list (m.seq b);let⟨o,O,hc,n,d⟩:=p.isList;exact⟨S,v,⟨o,"list",n,.inl rfl,O,hc,d⟩,z⟩
  .let⟨S,v,p,z⟩:=I.tuple (ax m b);let⟨o,O,hc,n,d⟩:=(show s.heap.IsTuple a S.toArray from p)
   exact⟨S,v,⟨o,"tuple",n,.inr rfl,O,hc,d⟩,z⟩
 have x:=R.length;rw[zD] at x;refine yc p (gE I m R v) N (by have:=v.length;lia) λt D c k f e=>?_;have j:=pD (λi=>rk M (M.getD i [])) v;have g:=qw (λi=>rk M (M.getD i [])) R;rw[Ii,HJ] at g;refine⟨.ref D,_,I.laid (t':=s.toks) (o:=.lst (pj (λi=>rk M (M.getD i [])) vs .QB)) k f ⟨?_,_,c,j,e⟩,rfl,q D _ (I.QK.fresh f) g⟩;rw[(fK _ _ _).length_eq];exact z
def cL:Γ D->Δ (Γ D):=λs=>(oneOf s).bind λd=>match d with
 | .list e=>(rowsOf e).bind λQ=>if Q.length < 64 then ↑((Ra Q).map ae) else none
 | .tuple e=>(rowsOf e).bind λQ=>if Q.length < 64 then ↑((Ra Q).map ae) else none
 | _=>none
def Dz(B:ou X "sorted" (.builtin "sorted"))(A:DA X [e] fs)(l:starEach [e] X.env=(false,eval e X.env)::starEach [] X.env:=by rfl):DF X (.Call (.Name "sorted" p) [e] [] pos) (m8 cL fs) :=
 Gc nN (by
  intro F H y S d Q m r g q;let⟨x,t,g⟩:=bs g;rw[fZ t] at r;have k:∀ (b:θ) (s:Γ D),ak X.K F [if b then .tuple s else .list s] S->((rowsOf s).bind λM=>if M.length < 64 then ↑((Ra M).map ae) else none)=↑d->(∃ (F:Hp) (a:Ψ) (u:Γ V) (M:Γ (Γ Int)),S=[.ref a]/\aO F H/\(iw X.K F a u\/f9 X.K F a u)/\ak X.K F (M.map ae) u/\(∀N∈M,N≠[])/\M.length < 64/\∀ (n:Ψ) (w:Γ V),H n=none->ak X.K F ((Ra M).map ae) w->Q (.ref n) (upd H n (.lst w))):=λb s r g=>by
   let⟨M,j,g⟩:=bs g;split at g
   .rename_i T;cases g;let⟨v,z,rfl,a,E⟩:=r.cons_inv;rw[E.nil_inv];let⟨f,i⟩:=ku j;obtain⟨p,u,rfl,h,R⟩:∃p u,v=.ref p/\(iw X.K F p u\/f9 X.K F p u)/\ak X.K F s u:=by
     cases b
     .simp?[yP,qQ,Rep] at a;let⟨p,u,rfl,h,R⟩:=a;exact⟨p,u,rfl,.inl h,R⟩
     .simp?[xI,Rep] at a;let⟨p,u,rfl,h,R⟩:=a;exact⟨p,u,rfl,.inr h,R⟩
    rw[f] at R;exact⟨F,p,u,M,rfl,m,h,R,i,T,λn w c o=>q n w _ F (.own m c) c (m.free c) aI o⟩
   .cases g
  cases x<;>try cases g
  .exact k false _ r g
  .exact k true _ r g) B A (by decide) (by decide) l rfl
end Dl
namespace En
open PySem PyProof.Rows
open AutoSeq1 (wpAny_loadPart')
def Ug(H:s.heap.IsTupleIter j t k)(ht:s.heap.IsTuple t its)(V:its[k]?=↑v)
  (q:∀g,g.IsTupleIter j t (k+1)->Heap.SameBut j s.heap g->Q v { s with heap:=g }):wpAny (model prog w) A (Builtin.SmallTypes.nextOf (.ref j)) Q E s:=by
 let⟨o,G,c,d⟩:=id H;let⟨O,T,_,n,D⟩:=ht;unfold Builtin.SmallTypes.nextOf;refine zV (qD (name:=Str.ofString "__next__") H.typeIs jS (qX jS H.typeIs F.entry_tuple_iterator_next ?_ (F.args_tuple_iterator_next_1 _)));refine zV (m:=field (.ref j) 0) (qU G d (x:=.ref t) rfl ?_);show wpAny _ _ (if (Value.ref t == Value.none)=true then _ else _) _ _ s;rw[yO (show ¬ ((Value.ref t == Value.none)=true) by exact xA)];refine zV (m:=field (.ref j) 1) (qU G d (x:=.int k 0) rfl ?_);refine zV (m:=seqItems? (.ref t)) (kK T D ?_);simp?[yG,V];refine zV (wpAny_setField G d (by simp) (zW ⟨v,rfl,zW (q _ ⟨_,Heap.get?_update_self _ G (Obj.isFreed_of_fields (Obj.data_mapFields d _)),(Obj.cls_mapFields ..).trans c,?_⟩ (Heap.SameBut.update ..))⟩));rw[Obj.data_mapFields d];simp[rawInt]
def U6{Q:Θ->Ξ->Prop}(b:A.handled=none)(H:s.heap.IsTupleIter j t k)(ht:s.heap.IsTuple t its)(v:its[k]?=none)
  (e:∀g x,Heap.ExtBut j s.heap g->(∃o,g.get? x=↑o/\o.cls=.type "StopIteration")->E (.ref x) { s with heap:=g }):wpAny (model prog w) A (Builtin.SmallTypes.nextOf (.ref j)) Q E s:=by
 let⟨O,G,c,d⟩:=id H;let⟨f,T,_,n,D⟩:=ht;unfold Builtin.SmallTypes.nextOf;refine zV (qD (name:=Str.ofString "__next__") H.typeIs jS (qX jS H.typeIs F.entry_tuple_iterator_next ?_ (F.args_tuple_iterator_next_1 _)));refine zV (m:=field (.ref j) 0) (qU G d (x:=.ref t) rfl ?_);show wpAny _ _ (if (Value.ref t == Value.none)=true then _ else _) _ _ s;rw[yO (show ¬ ((Value.ref t == Value.none)=true) by exact xA)];refine zV (m:=field (.ref j) 1) (qU G d (x:=.int k 0) rfl ?_);refine zV (m:=seqItems? (.ref t)) (kK T D ?_);simp?[yG,v];refine zV (wI (zV (wpAny_setField G d (by simp) (zV (m:=newExc (.type "StopIteration") []) ?_))));simp?[newExc,newTuple];refine zV (qM (zV (m:=firstArgMember _ _) (wpAny_of_eq (a:=Value.none) (by first|rfl|(simp?[firstArgMember];rfl)) ?_)) (by size_fits));refine qM ?_ (by size_fits);simp?[raiseNew];refine zV (wpAny_handled ?_)
 first|rw[show A.in1.handled=none from b]|rw[b]
 exact zV (zW (wpAny_throw (e _ _ (((Heap.SameBut.update ..).extBut.push _).push _) ⟨_,zX _ rfl,rfl⟩)))
def Tp(t:Ψ)(its:Array Θ)(n:Nat)(D:Δ Ψ)(S:Array (Δ Θ)) :
  Meets (Builtin.«enumerate.__new__» ⟨[.type "enumerate",.ref t],[]⟩) (λ_ R s=>s.heap.get? t=some { cls:=.type "tuple",dict:=D,data:=.seq its n,slots:=S } /\
   R (.ok (.ret (.ref (s.heap.push { cls:=.type "tuple_iterator",data:=.fields #[.ref t,.int 0 0] }).objs.size)))
    { s with heap:=(s.heap.push { cls:=.type "tuple_iterator",data:=.fields #[.ref t,.int 0 0] }).push { cls:=.type "enumerate",data:=.fields #[.none,.bool false,.ref s.heap.objs.size,rawInt 0,.none,.none] } }) :=
 .of_wp λp w A R s h=>by
  let⟨H,g,d,k,o⟩:=s;let⟨l,h⟩:=h;have U:=sub_enumerate;have L:Heap.IsTuple (Shared.heap ⟨H,g,d,k,o⟩) t its:=⟨_,l,rfl,n,rfl⟩
  wp_walk using wpAny_loadPart' l
  refine wpAny_stack_any λT=>zW ?_;split
  .rename_i c _ _ _ _ _;cases (c == Value.type "enumerate")
   .wp_walk using wpAny_loadPart' l,xS L
    exact⟨_,rfl,h⟩
   .wp_walk using wpAny_loadPart' l,xS L
    exact⟨_,rfl,h⟩
  .wp_walk using wpAny_loadPart' l,xS L
   exact⟨_,rfl,h⟩
def Ui(ht:s.heap.IsTuple t its)
  (h:∀h',IsEnum h' (s.heap.objs.size+1) s.heap.objs.size 0 .none->h'.IsTupleIter s.heap.objs.size t 0->h'.objs.size=s.heap.objs.size+2->(∀b o,s.heap.get? b=↑o->h'.get? b=↑o)->Q (.ref (s.heap.objs.size+1)) { s with heap:=h' }) :
  wpAny (model prog w) A (call (.type "enumerate") [.ref t]) Q E s:=by
 let⟨⟨c,d,D,S⟩,l,hc,n,H⟩:=ht;simp only at hc H;subst hc H;refine callType_new F.called_enumerate (by decide) (F.typeCall_enumerate_1 _) (F.newCall_enumerate_1 _) (λj=>F.args_object_init_2 j _) F.entry_enumerate_new (Tp t its n d S) ⟨l,?_⟩;have z:(s.heap.push { cls:=.type "tuple_iterator",data:=.fields #[.ref t,.int 0 0] }).objs.size=s.heap.objs.size+1:=by rw[xK]
 have e:=zX (s.heap.push { cls:=.type "tuple_iterator",data:=.fields #[.ref t,.int 0 0] }) (o:={ cls:=.type "enumerate",data:=.fields #[.none,.bool false,.ref s.heap.objs.size,rawInt 0,.none,.none] }) rfl;show _/\_;rw[z] at e ⊢;refine⟨⟨_,e,rfl⟩,h _ e ⟨_,zU _ (zX _ rfl),rfl,rfl⟩ ?_ λb o x=>zU _ (zU _ x)⟩;show (Heap.push _ _).objs.size=_;rw[xK,z]
end En
namespace Dl
open PySem L2 PySem.Spec PyProof.Rows
section
variable {ch:Γ Ψ}
def xq(I:Inv X pins σ H s)(t:∀b∈ch,ck X pins H b)(k:∀b o,b∉ch->s.heap.get? b=↑o->h'.get? b=↑o){T:Ψ}{S:Γ Θ}{xs:Γ V}(a:s.heap.objs.size<=T)(ht:nK h' T S.toArray)
  (R:az xs S) (Z:xs.length<=sizeLine):Inv X pins σ (upd H T (.tup xs)) { s with heap:=h',toks:=t' }:=by
 have i:H T=none:=I.QK.fresh a;have j:∀b o,s.heap.get? b=↑o->b≠T:=λb o e=>yS (zP (zY e) a);have N:∀b o,H b=↑o->b≠T:=λb o e=>aL e i;have U:∀b o,H b=↑o->b∉ch:=λb o e z=>by rw[(t b z).1] at e;cases e
 refine I.step (g':=s.gens) (d':=s.drawn) (ch:=ch) (λb B=>?_) (λb o _ _ hc e _=>k b o hc e) (λb o _ _ hc e _=>⟨o.slots,k b o hc e⟩) (λb o _ e n=>by rw[aB (j b o e)];exact n)
  (λb o hc e=>⟨o,k b o hc e⟩) (λb y e=>by rw[aB (N b _ e)];exact e) (λb o u e=>by rw[aB (N b _ e)];exact e) (.kept (λb u ⟨q,z⟩ e=>k b u (U b _ z) e) λb u e _=>by rw[aB (N b _ e)];exact e) (λm M=>?_) (λb u e=>?_) I.bare
 .let⟨l,f,w,F,d,g⟩:=t b B;exact⟨F,f,d,g⟩
 .let⟨o,E,p,O,r⟩:=M;exact⟨o,E,p,k _ o (λz=>(t _ z).2.1 rfl) O,r⟩
 .by_cases B:b=T
  .subst B;rw[aI] at e;cases e;exact⟨Z,S,R,ht⟩
  .rw[aB B] at e;refine (I.QK b u e).SY (λc v hc q=>k c v ?_ q) (λ_ q=>?_) λc v q _=>?_
   .rcases hc with z|z
    .rw[z];exact U b u e
    .exact U c _ z
   all_goals first
    | (rw[aB (N _ _ q)];exact q)
    | exact q
def N5(I:Inv X pins σ H s)(f:ck X pins H b)(h:X.K.lookup a=↑o):a≠b:=by
 rintro rfl;have B:=I.ok.mod.YI a o h;rcases f.2.2.2.1 with z|z
 .exact I.ok.UY a o B z
 .exact absurd (zP (zY (I.ok.bs a o B).1) z) (qF _)
def Lr(I:Inv X pins σ H s)(f:ck X pins H b)(h:iw X.K H a xs):a≠b:=by
 rcases h with (h|⟨o,h⟩)|⟨o,its,n,h,_⟩
 .exact aL h f.1
 .exact aL h f.1
 .exact N5 I f h
def Kw(I:Inv X pins σ H s)(f:ck X pins H b)(h:f9 X.K H a xs):a≠b:=by
 rcases h with (h|⟨o,h⟩)|⟨o,its,n,h,_⟩
 .exact aL h f.1
 .exact aL h f.1
 .exact N5 I f h
end
def Pe(q:Hp->Γ V->Prop):It:=⟨λi H=>∃s x,q H s/\s[i]?=↑x,λi H v a=>∃T y,v=.ref T/\H T=none/\a=upd H T (.tup [.int (i:Nat),y])/\∀s,q H s->s[i]?=↑y,λi H=>∃s,q H s/\s.length<=i⟩
def bw(k:Nat):Γ D->Γ D
 | []=>[]
 | d::s=>.tuple [.int (k:Nat),d]::bw (k+1) s
def tE:∀ {ds:Γ D}{k i:Nat}{d:D},(bw k ds)[i]?=↑d->∃x,ds[i]?=↑x/\d=.tuple [.int ((k+i:Nat):Int),x]
 | [],k,i,d,h=>by simp[bw] at h
 | x::ds,k,0,d,h=>by simp[bw] at h;exact⟨x,rfl,h.symm⟩
 | x::ds,k,i+1,d,h=>by
  simp?[bw,yZ] at h;let⟨y,H,a⟩:=tE h;refine⟨y,by simpa using H,?_⟩;rw[a,show k+1+i=k+(i+1) by lia]
def sg:∀ (ds:Γ D) (k:Nat),(bw k ds).length=ds.length
 | [],k=>rfl
 | x::ds,k=>by simp[bw,sg ds (k+1)]
def CJ{K:Φ}(h:U HF vs)(mo:∀H H',aO H H'->U H vs->U H' vs)(r:ak K HF ds vs):r0 K (Pe U) HF (bw 0 ds) where
 go:=λi d R Q e S s=>by
  let⟨x,X,rfl⟩:=tE e;rw[jE];let⟨v,V,b⟩:=r.getD X;have q:=mo _ _ s (mo _ _ S h);refine⟨⟨vs,v,q,V⟩,λy c ⟨T,z,E,t,a,Y⟩=>?_⟩;have:=Y vs q;rw[V] at this;cases this;subst E a;exact⟨_,.new s t,cD (s.free t) (ak.cons (by simp[Rep]) (ak.cons (b.mono S) ak.nil))⟩
 stop:=λR Q S s=>⟨vs,mo _ _ s (mo _ _ S h),by rw[sg,r.length];exact yN _⟩
def OX(X a:Hp->Γ V->Prop):It:=⟨λi H=>∃s Y x y,X H s/\a H Y/\s[i]?=↑x/\Y[i]?=↑y,
 λi H v b=>∃T x y,v=.ref T/\H T=none/\b=upd H T (.tup [x,y])/\(∀s,X H s->s[i]?=↑x)/\∀Y,a H Y->Y[i]?=↑y,
 λi H=>∃s Y,X H s/\a H Y/\(s.length<=i\/Y.length<=i)⟩
section
variable {ch:Γ Ψ}
def CP(I:Inv X pins σ H s)(T:∀b∈ch,ck X pins H b)(k:∀b o,b∉ch->s.heap.get? b=↑o->h'.get? b=↑o):Inv X pins σ H { s with heap:=h',toks:=t' }:=by
 have U:∀b o,H b=↑o->b∉ch:=λb o e z=>by rw[(T b z).1] at e;cases e
 refine I.step (g':=s.gens) (d':=s.drawn) (ch:=ch) (λb B=>?_) (λb o _ _ hc e _=>k b o hc e) (λb o _ _ hc e _=>⟨o.slots,k b o hc e⟩) (λb o _ e n=>n)
  (λb o hc e=>⟨o,k b o hc e⟩) (λb y e=>e) (λb o u e=>e) (.kept (λb u ⟨q,z⟩ e=>k b u (U b _ z) e) λb u e _=>e) (λm M=>?_) (λb u e=>?_) I.bare
 .let⟨g,f,i,F,a,d⟩:=T b B;exact⟨F,f,a,d⟩
 .let⟨o,E,p,O,r⟩:=M;exact⟨o,E,p,k _ o (λz=>(T _ z).2.1 rfl) O,r⟩
 .refine (I.QK b u e).SY (λc v hc q=>k c v ?_ q) (λ_ q=>q) λc v q _=>q;rcases hc with z|z
  .rw[z];exact U b u e
  .exact U c _ z
end
structure Qk(z TI TO i1 i2:Addr):Prop where
 a1:TI≠z
 a2:TO≠z
 a3:i1≠z
 a4:i2≠z
 a5:TI≠TO
 a6:TI≠i1
 a7:TI≠i2
 a8:TO≠i1
 a9:TO≠i2
 a0:i1≠i2
def jx:Γ D->Γ D->Γ D
 | x::s,y::Y=>.tuple [x,y]::jx s Y
 | _,_=>[]
def pQ:∀ {xs ys:Γ D}{i:Nat}{d:D},(jx xs ys)[i]?=↑d->∃x y,xs[i]?=↑x/\ys[i]?=↑y/\d=.tuple [x,y]
 | [],_,i,d,h=>by simp[jx] at h
 | _::_,[],i,d,h=>by simp[jx] at h
 | x::xs,y::ys,0,d,h=>by simp[jx] at h;exact⟨x,y,rfl,rfl,h.symm⟩
 | x::xs,y::ys,i+1,d,h=>by
  simp?[jx,yZ] at h;let⟨a,b,H,c,e⟩:=pQ h;exact⟨a,b,by simpa using H,by simpa using c,e⟩
def nr:∀ (xs ys:Γ D),(jx xs ys).length=min xs.length ys.length
 | [],_=>by simp[jx]
 | _::_,[]=>by simp[jx]
 | x::xs,y::ys=>by simp[jx,nr xs ys]
def EB{K:Φ}(c:U HF vs)(m:∀H H',aO H H'->U H vs->U H' vs)(f:X7 HF us)(M:∀H H',aO H H'->X7 H us->X7 H' us)(r:ak K HF xs vs)(R:ak K HF ys us) :
  r0 K (OX U X7) HF (jx xs ys) where
 go:=λi d k j e s S=>by
  let⟨x,y,X,Y,rfl⟩:=pQ e;let⟨v,V,z⟩:=r.getD X;let⟨u,g,p⟩:=R.getD Y;have q:=m _ _ S (m _ _ s c);have Q:=M _ _ S (M _ _ s f);refine⟨⟨vs,us,v,u,q,Q,V,g⟩,λw C z=>?_⟩;let⟨T,a,b,l,t,n,A,o⟩:=z;have E:=A vs q;have B:=o us Q;rw[V] at E;rw[g] at B;cases E;cases B;subst l n;exact⟨_,.new S t,cD (S.free t) (ak.cons (z.mono s) (ak.cons (p.mono s) ak.nil))⟩
 stop:=λk j s S=>⟨vs,us,m _ _ S (m _ _ s c),M _ _ S (M _ _ s f),by rw[nr,r.length,R.length];lia⟩
def cut(xs:Γ α)(lo hi:Δ Int):Γ α:=(xs.drop (HT.cW xs.length 0 lo)).take (HT.cW xs.length xs.length hi - HT.cW xs.length 0 lo)
def HH(xs:Γ α)(lo hi:Δ Int):(cut xs lo hi).length<=xs.length:=by
 unfold cut;rw[jX,qJ];lia
def pW{K:Φ}(r:ak K H ds vs)(lo hi:Δ Int):ak K H (cut ds lo hi) (cut vs lo hi):=by
 unfold cut;rw[r.length];exact (r.drop _).take _
section
def CA{v:Θ}{lo:Δ Int}(ht:IsTup s.heap t its)(hs:s.heap.IsSliceOf sl v U .none)(pl:IsPart v lo)(p:IsPart U hi)
  (hw:HT.cW its.size 0 lo=0/\HT.cW its.size its.size hi=its.size) (h:Q (.ref t) s):wpAny (model prog w) A (getItem (.ref t) (.ref sl)) Q E s:=by
 let⟨o,S,W,R⟩:=id hs;have X:s.TypeIs (.ref sl) "slice":=⟨o,S,W⟩
 unfold getItem
 try with_reducible refine xY ?_
 first|refine zV (zW ?_)|skip
 refine zV (wpAny_sequenceKey ht.typeIs (by decide) (zV (qD (name:=Str.ofString "__getitem__") ht.typeIs jG (qX jG ht.typeIs entry_tuple_getitem ?_ (args_tuple_getitem _ _)))));refine zV (m:=Builtin.Tuple.tupleItemsOf (.ref t)) (tupleItemsOf_ ht (zV (wN X ?_)));rw[yM (by decide)];refine zV (HT.ip hs pl p ?_);show wpAny _ _ (if (((HT.cW its.size 0 lo:Nat):Int) == 0&&(1:Int) == 1&&(HT.cW its.size its.size hi - HT.cW its.size 0 lo) == its.size)=true then _ else _) _ _ s;rw[hw.1,hw.2,yM (by simp)];unfold Builtin.Tuple.tupleIsExact;refine zV (zV (wN ht.typeIs (zW ?_)));rw[yM (by decide)]
 first
  | exact zV (wI (zW ⟨_,rfl,zW h⟩))
  | exact zV (wI (zV (zW (zW ⟨_,rfl,zW h⟩))))
def O2(K:Φ):V->Δ Int->Δ Int->Hp->VK->Prop:=λx l i H Q=>∃a s,x=.ref a/\f9 K H a s/\(cut s l i=s->Q (.ref a) H)/\∀p,H p=none->Q (.ref p) (upd H p (.tup (cut s l i)))
def Ms:JV X (O2 X.K):=by
 intro p s f H x v V U l b L Q I R c P u h;let⟨a,S,rfl,d,q,e⟩:=h;by_cases hw:HT.cW S.length 0 l=0/\HT.cW S.length S.length b=S.length
 .cases R;let⟨i,r,ht,z⟩:=I.tuple d;have n:i.toArray.size=S.length:=by rw[zH];exact r.length.symm
  refine⟨"tuple",_,PyProof.Rows.slot_tuple_getitem.lookup,ht.typeIs,CA ht c P u (by rw[n];exact hw) ⟨.ref a,H,I,rfl,q ?_⟩⟩;unfold cut;rw[hw.1,hw.2,List.drop_zero,Nat.sub_zero,List.take_length]
 .exact Lc p s f H (.ref a) v V U l b L Q I R c P u ⟨a,S,rfl,d,hw,e⟩
def O0(K:Φ):V->Δ Int->Δ Int->Hp->VK->Prop:=λx l i H Q=>∃a s,x=.ref a/\iw K H a s/\∀p,H p=none->Q (.ref p) (upd H p (.lst (cut s l i)))
def zw(lo hi:Δ Int)(n:Nat):sliceBounds lo hi none n=(((HT.cW n 0 lo:Nat):Int),((HT.cW n n hi:Nat):Int),1):=by
 have H:(1:Int) > 0:=by lia
 refine Prod.ext ?_ (Prod.ext ?_ rfl)
 .cases lo with
  | none=>simp[sliceBounds,HT.cW]
  | some x =>
   by_cases h:x < 0
   .simp?[sliceBounds,HT.cW,kO,H,xI,yM h];lia
   .simp?[sliceBounds,HT.cW,kO,H,xI,yO h];lia
 .cases hi with
  | none=>simp[sliceBounds,HT.cW]
  | some x =>
   by_cases h:x < 0
   .simp?[sliceBounds,HT.cW,kO,H,xI,yM h];lia
   .simp?[sliceBounds,HT.cW,kO,H,xI,yO h];lia
def Hg:JV X (O0 X.K):=by
 intro P s j H x v V U l b g Q I f c L u h;let⟨a,S,rfl,d,q⟩:=h;cases f;let⟨i,r,p,z⟩:=I.list d;have n:=r.length;refine⟨"list",_,slot_list_getitem.lookup,p.isList.typeIs,wpAny_getItem_list_slice p.isList c L u .none (by simp) ?_ (by rw[zH];lia)⟩;rw[W.kmk_pick_nat i.toArray (zw l b i.toArray.size)];have e:((i.toArray.toList.drop (HT.cW i.toArray.size 0 l)).take (HT.cW i.toArray.size i.toArray.size b - HT.cW i.toArray.size 0 l))=cut i l b:=by unfold cut;simp
 rw[e];have R:az (cut S l b) (cut i l b):=by unfold cut;rw[n];exact (r.drop _).take _
 exact⟨.ref s.heap.objs.size,_,I.XZ (t':=s.toks) R (yD (HH S l b) z),rfl,q _ I.fresh⟩
def Qr(K:Φ)(f:Env->Δ (Δ Int)):TO:=λc H Q=>∃F b o,aO F H/\cE K F b c/\f b=↑o/\∀a q,bM F H q a->Q o a
def DO(X:Cx)(e:Δ γ)(f:Env->Δ (Δ Int)):Prop:=PO X e (Qr X.K f)
def e8:Env->Δ (Δ Int):=λ_=>↑none
def gI:D->Δ Int|.int i=>↑i|_=>none
def rK(f:Env->Δ D):Env->Δ (Δ Int):=λa=>(f a).bind λd=>(gI d).map some
def Iq:DO X none e8:=λp s a H Q I z=>by let⟨F,b,o,m,e,f,q⟩:=z;exact Ia p s a H Q I (by cases f;exact q H F (.refl m))
def G8(h:DE X e f):DO X (↑e) (rK f):=λp s k H Q I ⟨b,j,o,m,E,F,q⟩=>pf h p s k H Q I (by
 let⟨d,D,F⟩:=bs F;let⟨i,c,rfl⟩:=ag F;cases d<;>try cases c
 exact⟨b,j,_,m,E,D,λv a G g r=>⟨_,by simpa only[Rep] using r,q a G g⟩⟩)
variable {lo hi:Δ γ}{fl fh:Env->Δ (Δ Int)}
def fj(g:D->Δ Int->Δ Int->Δ β)(fa:Env->Δ D)(fl fh:Env->Δ (Δ Int)):Env->Δ β:=λa=>(fa a).bind λx=>(fl a).bind λl=>(fh a).bind λh=>g x l h
end
def wq:∀ {l:Γ α},(∀x∈l,f x=g x)->l.filterMap f=l.filterMap g
 | [],_=>rfl
 | x::l,h=>by rw[jH,jH,h x zE,wq λy H=>h y (zC _ H)]
def D1(xs:Γ Θ):((List.range xs.length).filterMap λ(k:Nat)=>xs.toArray[(((xs.length:Nat):Int) - 1+(k:Int) * (-1)).toNat]?)=xs.reverse:=by
 have e:∀k∈List.range xs.length,xs.toArray[(((xs.length:Nat):Int) - 1+(k:Int) * (-1)).toNat]?=xs.reverse[k]?:=λk H=>by
  have Q:k < xs.length:=by simpa using H
  have:(((xs.length:Nat):Int) - 1+(k:Int) * (-1)).toNat=xs.length - 1 - k:=by lia
  rw[this,vY,List.getElem?_reverse Q]
 rw[wq e];have:=xs.length_reverse;apply List.ext_getElem?;intro i;have y:∀ (l:Γ Θ),(List.range l.length).filterMap (λ(k:Nat)=>l[k]?)=l:=λl=>by
  induction l with
  | nil=>rfl
  | cons x l I =>
   rw[zL,vP,jH];simp?[xR];rw[List.filterMap_map]
   congr 1
 have K:=y xs.reverse;rw[List.length_reverse] at K;rw[K]
def Hz{prog:ε}{w:δ}{A:ξ}{E:Θ->Ξ->Prop}{s:Ξ}{t l:Ψ}{its:Γ Θ}{k:Tok}{Q:Θ->Ξ->Prop}(ht:IsTup s.heap t its.toArray)(hs:s.heap.IsSliceOf l .none .none (.int (-1) k))
  (z:its.length<=sizeLine) (h:Q (.ref s.heap.objs.size) { s with heap:=s.heap.push { cls:=.type "tuple",data:=.seq its.reverse.toArray } }):wpAny (model prog w) A (getItem (.ref t) (.ref l)) Q E s:=by
 let⟨O,S,W,P⟩:=id hs;have X:s.TypeIs (.ref l) "slice":=⟨O,S,W⟩
 unfold getItem
 try with_reducible refine xY ?_
 first|refine zV (zW ?_)|skip
 refine zV (wpAny_sequenceKey ht.typeIs (by decide) (zV (qD (name:=Str.ofString "__getitem__") ht.typeIs jG (qX jG ht.typeIs entry_tuple_getitem ?_ (args_tuple_getitem _ _)))));refine zV (m:=Builtin.Tuple.tupleItemsOf (.ref t)) (tupleItemsOf_ ht (zV (wN X ?_)));rw[yM (by decide)];have Z:∀ {R:Int×Int×Nat->Ξ->Prop},R (((its.length:Nat):Int) - 1,-1,its.length) s->wpAny (model prog w) A.in1 (Builtin.Slice.sliceApplied (.ref l) (pure ((its.toArray.size:Nat):Int))) R E s:=λ{R} hR=>by
  unfold Builtin.Slice.sliceApplied Builtin.Slice.sliceFields;refine zV (zV (qU S P (x:=.none) rfl (zV (qU S P (x:=.none) rfl (zV (qU S P (x:=.int (-1) k) rfl (zW ?_)))))));refine zV (slicePart_int ?_);show wpAny _ _ (if ((-1:Int) == 0)=true then _ else _) _ _ s;rw[yO (by decide)];refine zV (slicePart_none (zV (slicePart_none (zV (zW ?_)))));have e:Builtin.Slice.sliceAdjust none none (-1) ((its.toArray.size:Nat):Int)=(((its.length:Nat):Int) - 1,-1):=by simp[Builtin.Slice.sliceAdjust]
  show wpAny _ _ (match Builtin.Slice.sliceAdjust none none (-1) ((its.toArray.size:Nat):Int) with|(o,i)=>pure (o,(-1:Int),Builtin.Slice.slicePlaces o i (-1))) _ _ s;rw[e];have a:Builtin.Slice.slicePlaces (((its.length:Nat):Int) - 1) (-1) (-1)=its.length:=by
   unfold Builtin.Slice.slicePlaces;rw[yO (by decide)];simp?[Int.neg_neg,Int.ediv_one];split<;>lia
  show wpAny _ _ (pure (((its.length:Nat):Int) - 1,(-1:Int),Builtin.Slice.slicePlaces (((its.length:Nat):Int) - 1) (-1) (-1))) _ _ s;rw[a];exact zW hR
 first
  | refine zV (Z ?_)
  | refine zV (wpAny_of_in1 (Z ?_))
 show wpAny _ _ (if ((((its.length:Nat):Int) - 1) == 0&&(-1:Int) == 1&&its.length == its.toArray.size)=true then _ else _) _ _ s;rw[yO (by simp),D1];have U:sizeOk (.seq its.reverse.toArray):=by show its.reverse.toArray.size<=sizeLine;simpa using z
 first
  | exact zV (m:=Builtin.Tuple.tupleExact _) (qM (zW ⟨_,rfl,zW h⟩) U)
  | exact zV (m:=Builtin.Tuple.tupleExact _) (qM (zV (zW (zW ⟨_,rfl,zW h⟩))) U)
  | exact zV (zV (m:=Builtin.Tuple.tupleExact _) (qM (zW (zW ⟨_,rfl,zW h⟩)) U))
  | exact zV (zV (m:=Builtin.Tuple.tupleExact _) (qM (zW ⟨_,rfl,zW h⟩) U))
def KW(A:PE X a ta):PE X (.Subscript a (.Slice none none (↑(.UnaryOp .USub (.Constant (.int 1) j p4) U)) p2) pos) (λσ H Q=>ta σ H λx c=>∃b xs,x=.ref b/\f9 X.K c b xs/\∀p,c p=none->Q (.ref p) (upd c p (.tup xs.reverse))):=by
 intro P s σ H Q I h;refine Subscript_ (bO (A P s σ H _ I h) λv D z=>?_);let⟨x,c,u,C,b,xs,e,k,q⟩:=z;subst e;cases C;refine wpAny_Slice ?_;rw[evalPart_none];refine zW (zW ?_);have w:=pf (X:=X) (F6 (op:=.USub) Ai (uZ (X:=X) (i:=1) (j:=j) (pos:=p4)) (pos:=U)) P D σ c (λo m=>o=↑(-1)/\m=c) u ⟨1,rfl,-1,rfl,rfl,rfl⟩;refine bO w λF d z=>?_;let⟨o,n,g,t,E,y⟩:=z;subst E y;cases t with
 | int _ T =>
 let⟨B,r,ht,l⟩:=g.tuple k;have f:Inv X P σ n { d with heap:=d.heap.push { cls:=.type "slice",data:=.fields #[.none,.none,.int (-1) T] } }:=g.kept (t':=d.toks) λb O q=>zU _ q;let⟨S,R,Z,_⟩:=f.tuple k;refine tail_any (ops:=[.ref b,.ref d.heap.objs.size]) Z.typeIs PyProof.Rows.slot_tuple_getitem.lookup (Hz Z (Heap.IsSliceOf.new ..) (by rw[<- R.length];exact l) ?_) (by with_unfolding_all rfl);have V:az xs.reverse S.reverse:=L2.az.reverse R;exact⟨.ref _,_,f.laid (t':=d.toks) (o:=.tup xs.reverse) (λb O q=>zU _ q) (yN _) ⟨by rw[List.length_reverse];exact l,_,V,nK.new _ _⟩,rfl,q _ f.fresh⟩
def Mx:D->Δ D|.tuple d=>↑(.tuple d.reverse)|_=>none
def f1(g:D->Δ D)(f:Env->Δ D):Env->Δ D:=λa=>(f a).bind g
def Kp(A:DE X a fa):DE X (.Subscript a (.Slice none none (↑(.UnaryOp .USub (.Constant (.int 1) j p4) p3)) U) pos) (f1 Mx fa):=aW (KW A) λl H Q z=>by
 let⟨F,i,d,m,e,f,q⟩:=z;let⟨x,c,f⟩:=bs f;refine⟨F,i,x,m,e,c,λV k G g r=>?_⟩;cases x<;>try cases f
 simp?[Rep] at r;let⟨b,v,rfl,s,R⟩:=r;exact⟨b,v,rfl,ax g.fh s,λp P=>q _ _ _ (g.trans (.new g.fh P)) (cD (g.fh.free P) R.reverse)⟩
end Dl
namespace HT
open PySem PyProof.Rows
section
open PySem.SeqAt
open PySem.AutoSeq1 (wpAny_loadPart')
open PySem.MeetsSeq PySem.MeetsSeq2 PySem.MeetsSeq3
end
end HT
namespace Dl
open PySem L2 PySem.Spec PyProof.Rows
def bQ:D->Δ (Γ Int)|.tuple d=>intsOf d|_=>none
def eT(h:bQ x=↑ns):x=.tuple (ns.map PyData.int):=by
 cases x<;>try cases h
 rename_i s;have h:intsOf s=↑ns:=h;rw[cY h]
end Dl
namespace En
open PySem PyProof.Rows
open AutoSeq1 (wpAny_loadPart')
def Uj:fillsNumberSlot (.type "tuple") "mul"=pure false:=PySem.fillsNumberSlot_seq (id:="tuple.__mul__") (r:=↑(.builtin "tuple.__rmul__")) F.slot_tuple_mul.lookup (by decide +kernel) F.slot_tuple_rmul.lookup (by decide +kernel)
def Uk:seqRepeat? (.type "tuple")=pure (↑(.builtin "tuple.__mul__")):=by
 unfold seqRepeat?;rw[PySem.seqSlot_of (T:="tuple") (name:="__mul__") (id:="tuple.__mul__") F.slot_tuple_mul.lookup (by decide +kernel),PySem.seqSlot_of (T:="tuple") (name:="__rmul__") (id:="tuple.__rmul__") F.slot_tuple_rmul.lookup (by decide +kernel)];rfl
def VF(a:Int)(t:Tok)(l:Ψ)(its:Array Θ)(n:Nat)(D:Δ Ψ)(S:Array (Δ Θ)) :
  Meets (Builtin.«int.__rmul__» ⟨[.int a t,.ref l],[]⟩) (λ_ R s=>s.heap.get? l=some { cls:=.type "tuple",dict:=D,data:=.seq its n,slots:=S }/\R (.ok (.ret Value.notImplemented)) s) :=
 .of_wp λp w A R s h=>by
  let⟨P,g,d,k,o⟩:=s;let⟨H,h⟩:=h
  wp_walk
  exact⟨_,rfl,h⟩
def U8(l:Ψ)(its:Array Θ)(n:Nat)(D:Δ Ψ)(S:Array (Δ Θ))(k:Int)(t:Tok)(a:¬ (decide (k < -(2 ^ 63))||decide (k >= 2 ^ 63))=true)(b:(its.isEmpty||k == 1)=true) :
  Meets (Builtin.«tuple.__mul__» ⟨[.ref l,.int k t],[]⟩) (λ_ R s=>s.heap.get? l=some { cls:=.type "tuple",dict:=D,data:=.seq its n,slots:=S }/\R (.ok (.ret (.ref l))) s) :=
 .of_wp λp w A R s h=>by
  let⟨P,g,d,T,o⟩:=s;let⟨H,h⟩:=h;have f:=AutoSeq1.idx_int
  wp_walk using wpAny_loadPart' H
  rw[yO a]
  wp_walk using wpAny_loadPart' H
  exact⟨_,rfl,h⟩
def U9(l:Ψ)(its:Array Θ)(n:Nat)(D:Δ Ψ)(S:Array (Δ Θ))(k:Int)(t:Tok)(a:¬ (decide (k < -(2 ^ 63))||decide (k >= 2 ^ 63))=true)(b:¬ (its.isEmpty||k == 1)=true)(c:(decide (k<=0)||its.isEmpty)=true) :
  Meets (Builtin.«tuple.__mul__» ⟨[.ref l,.int k t],[]⟩) (λ_ R s=>s.heap.get? l=some { cls:=.type "tuple",dict:=D,data:=.seq its n,slots:=S }/\R (.ok (.ret (.ref s.heap.objs.size))) { s with heap:=s.heap.push { cls:=.type "tuple",data:=.seq #[] } }) :=
 .of_wp λp w A R s h=>by
  let⟨P,g,d,T,o⟩:=s;let⟨H,h⟩:=h;have f:=AutoSeq1.idx_int
  wp_walk using wpAny_loadPart' H
  rw[yO a]
  wp_walk using wpAny_loadPart' H
  exact⟨_,rfl,h⟩
def Va(l:Ψ)(its:Array Θ)(n:Nat)(D:Δ Ψ)(S:Array (Δ Θ))(k:Int)(t:Tok)(a:¬ (decide (k < -(2 ^ 63))||decide (k >= 2 ^ 63))=true)(b:¬ (its.isEmpty||k == 1)=true)(c:¬ (decide (k<=0)||its.isEmpty)=true)
  (h4:¬ ((its.size:Nat):Int) * k > (2 ^ 63 - 1) / 8) (e:¬ Builtin.Tuple.tupleTooMany (((its.size:Nat):Int) * k)=true) (z:((List.replicate k.toNat its).foldl (·++·) #[]).size<=sizeLine) :
  Meets (Builtin.«tuple.__mul__» ⟨[.ref l,.int k t],[]⟩) (λ_ R s=>s.heap.get? l=some { cls:=.type "tuple",dict:=D,data:=.seq its n,slots:=S }/\R (.ok (.ret (.ref s.heap.objs.size))) { s with heap:=s.heap.push { cls:=.type "tuple",data:=.seq ((List.replicate k.toNat its).foldl (·++·) #[]) } }) :=
 .of_wp λp w A R s h=>by
  let⟨P,g,d,T,o⟩:=s;let⟨H,h⟩:=h;have f:=AutoSeq1.idx_int
  wp_walk using wpAny_loadPart' H
  rw[yO a]
  wp_walk using wpAny_loadPart' H
  rw[yO h4]
  wp_walk using wpAny_loadPart' H
  exact⟨_,rfl,h⟩
end En
namespace Dl
open PySem L2 PySem.Spec PyProof.Rows
def Kh(K:Φ):R2:=λx y H Q=>∃a k s,x=.ref a/\y=.int k/\f9 K H a s/\-(2 ^ 62)<=k/\k < 2 ^ 62/\s.length * k.toNat<=sizeLine/\((List.replicate k.toNat s).flatten=s->Q (.ref a) H) /\
 ∀p,H p=none->Q (.ref p) (upd H p (.tup (List.replicate k.toNat s).flatten))
def Ju:gY X (binaryOp .Mult) (Kh X.K):=by
 intro p s σ H x y v u Q I rx ry h;let⟨a,k,S,rfl,rfl,P,k1,k2,z,q1,w⟩:=h;cases rx;let⟨t,rfl⟩:=ry;let⟨i,r,pl,Y⟩:=I.tuple P;have L:=r.length;let⟨⟨G,D,A,l⟩,O,hc,n,j⟩:=id pl;simp only at hc j;subst hc j;have B:¬ (decide (k < -(2 ^ 63))||decide (k >= 2 ^ 63))=true:=by
  simp?[jC,zJ];lia
 refine wpAny_binaryOp_repeat_ref (T:="tuple") (U:="int") (by decide) ⟨_,O,rfl⟩ (λs'=>typeIs_int s' k t) En.Uj F.fills_int_mul F.slot_int_rmul En.Uk F.slot_int_index.lookup
  (qY F.slot_int_rmul (typeIs_int s k t) F.entry_int_rmul (F.args_int_rmul_2 _ _) (En.VF k t a i.toArray n D l) ⟨O,rfl,⟨_,O,rfl⟩,?_⟩)
 have W:∀m:Nat,List.foldl (λx1 x2=>x1++x2) #[] (List.replicate m i.toArray)=(List.replicate m i).flatten.toArray:=λm=>by
  have:=foldl_rep i m [];rw[xP] at this;exact this
 by_cases c:(i.toArray.isEmpty||k == 1)=true
 .refine qY F.slot_tuple_mul ⟨_,O,rfl⟩ Za (wL _ _) (En.U8 a i.toArray n D l k t B c) ⟨O,⟨.ref a,H,I,rfl,q1 ?_⟩⟩;rw[jC] at c;rcases c with c|c
  .have:S=[]:=by
    have e:i=[]:=by simpa using c
    rw[e] at L;exact List.length_eq_zero_iff.mp L
   rw[this];simp
  .have:k=1:=eq_of_beq c;subst this;simp
 .by_cases d:(decide (k<=0)||i.toArray.isEmpty)=true
  .refine qY F.slot_tuple_mul ⟨_,O,rfl⟩ Za (wL _ _) (En.U9 a i.toArray n D l k t B c d) ⟨O,?_⟩;have g:k.toNat=0:=by
    simp?[jC,zJ] at d c;rcases d with d|d
    .lia
    .exact absurd (.inl d) c
   have E:=w s.heap.objs.size I.fresh;rw[g] at E;exact⟨.ref s.heap.objs.size,_,I.laid (t':=s.toks) (o:=.tup []) (λb Z q=>zU _ q) (yN _) ⟨xW _,[],.nil,nK.new _ _⟩,rfl,E⟩
  .have hm:i.length * k.toNat<=sizeLine:=by rw[<- L];exact z
   have N:(k.toNat:Int)=k:=by
    simp?[jC,zJ,not_or] at d;lia
   have f:((i.toArray.size:Nat):Int) * k=((i.length * k.toNat:Nat):Int):=by rw[zH,Int.natCast_mul,N]
   have V:=L2.az.rep r k.toNat;have C:(List.replicate k.toNat S).flatten.length<=sizeLine:=by rw[len_rep,Nat.mul_comm];exact z
   have R:(sizeLine:Nat)<=(2 ^ 63 - 1) / 8:=by decide
   have J:¬ ((i.toArray.size:Nat):Int) * k > (2 ^ 63 - 1) / 8:=by rw[f];lia
   have M:¬ Builtin.Tuple.tupleTooMany (((i.toArray.size:Nat):Int) * k)=true:=by
    unfold Builtin.Tuple.tupleTooMany;rw[f];simp?[zJ];lia
   refine qY F.slot_tuple_mul ⟨_,O,rfl⟩ Za (wL _ _) (En.Va a i.toArray n D l k t B c d J M (by rw[W,zH,<- V.length];exact C)) ⟨O,?_⟩;rw[W];exact⟨.ref s.heap.objs.size,_,I.laid (t':=s.toks) (o:=.tup (List.replicate k.toNat S).flatten) (λb Z q=>zU _ q) (yN _) ⟨C,_,V,nK.new _ _⟩,rfl,w _ I.fresh⟩
def xy:D->D->Δ D
 | .tuple d,.int k=>if Dj k=true/\d.length * k.toNat<=sizeLine then ↑(.tuple (List.replicate k.toNat d).flatten) else none
 | _,_=>none
def rh{K:Φ}(r:ak K HF ds vs):∀k:Nat,ak K HF (List.replicate k ds).flatten (List.replicate k vs).flatten
 | 0=>ak.nil
 | k+1=>by rw[xF,xF,qN,qN];exact r.append (rh r k)
def EY{K:Φ}:eN K (Kh K) xy:=by
 intro F H x y V f d Q s R c g q;cases x<;>cases y<;>simp?[xy] at g<;>try cases g
 split at g
 .rename_i X k b;cases g;simp?[Rep] at R c;let⟨a,v,rfl,A,r⟩:=R;have o:=b.1;unfold Dj at o;rw[zF] at o;refine⟨a,k,v,rfl,c,ax s A,yR o.1,yR o.2,by rw[r.length];exact b.2,λe=>q _ H F (.refl s) ?_,λp P=>q _ _ _ (.new s P) (cD (s.free P) (rh r _))⟩;simp?[Rep];refine⟨a,v,rfl,A,?_⟩;have:=rh r k.toNat;rw[e] at this;exact this
 .cases g
end Dl
namespace En
open PySem PyProof.Rows
def Vb(hh:A.handled=none)(hl:s.heap.IsTuple l its)(hi:IntsAre its.toList ns)(hb:its.size+1 < scanBound)
  (h:∀ (h':ι) (k:Nat),h'.SetOf (intKind prog w) s.heap.objs.size (λK=>(firstMet (λi=>ns.getD i 0) its.size).any (· == K)) (firstMet (λi=>ns.getD i 0) its.size).length->(∀b o,b < s.heap.objs.size->s.heap.get? b=↑o->h'.get? b=↑o)->Q (.ref s.heap.objs.size) { s with heap:=h',toks:=k }) :
  wpAny (model prog w) A (call (.type "set") [.ref l]) Q E s:=by
 let⟨c,tl,O⟩:=F.called_set.mro;have Zw:=F.called_set.made;have Uh:=F.called_set.sub;refine wpAny_call (codeAny_of_tree ?_);show wpAny _ _ (callAny (.type "set") _) _ _ _;refine zW ⟨wM _ (by decide +kernel),kH F.entry_type_call ?_⟩;rw[Around.under_plain (weight_type_call_type "set" [.ref l] []) rfl];have h1:=F.called_set.notType;have h2:=F.called_set.canCreate;have hct:=F.typeCall_set_1 (.ref l)
 repeat (any_goals (first|assumption|wp_step))
 refine jT (code_set_new_1 (.ref l) (E:=E) (Q₁:=λj q=>∃d:θ,j=.ref s.heap.objs.size/\q={ s with heap:=s.heap.push { cls:=.type "set",dict:=none,data:=.set #[] 0 (.fresh 0 0 d) } }) λd=>⟨d,rfl,rfl⟩) λr q n=>?_;cases r with
 | error e=>exact n
 | ok fl =>
  cases fl with
  | ret j =>
   let⟨d,rfl,rfl⟩:=n;have p:(s.heap.push { cls:=.type "set",dict:=none,data:=.set #[] 0 (.fresh 0 0 d) }).get? s.heap.objs.size=some { cls:=.type "set",dict:=none,data:=.set #[] 0 (.fresh 0 0 d) }:=by exact zX _ rfl
   have hT:Shared.TypeIs { s with heap:=s.heap.push { cls:=.type "set",dict:=none,data:=.set #[] 0 (.fresh 0 0 d) } } (.ref s.heap.objs.size) "set":=⟨_,p,rfl⟩
   have hli:=F.called_set.init.lookup;have hbi:=F.called_set.init.bind (.ref s.heap.objs.size)
   repeat (any_goals (first|assumption|wp_step))
   refine jT (wD (R:=wants (λr u=>r=.none/\∃h' k,u={ s with heap:=h',toks:=k }/\h'.SetOf (intKind prog w) s.heap.objs.size (λK=>(firstMet (λi=>ns.getD i 0) its.size).any (· == K)) (firstMet (λi=>ns.getD i 0) its.size).length /\
     (∀b o,b < s.heap.objs.size->s.heap.get? b=↑o->h'.get? b=↑o)) E) F.called_set.init.plain F.entry_set_init (check_set_init_1 hT ?_)) λr2 u W=>?_
   .let⟨ol,x,S,N,y⟩:=hl;let⟨P,G,Zz,U⟩:=ol;simp only at S y;subst S y;have B:(s.heap.push { cls:=.type "set",dict:=none,data:=.set #[] 0 (.fresh 0 0 d) }).get? l=some { cls:=.type "tuple",dict:=G,data:=.seq its N,slots:=U }:=zU _ x;have Y:=F.sub_tuple_set;have T:=F.sub_tuple_frozenset;have QS:(Value.type "tuple" == Value.type "dict")=false:=by decide
    have M:(s.heap.push { cls:=.type "set",dict:=none,data:=.set #[] 0 (.fresh 0 0 d) }).IsTuple l its:=⟨_,B,rfl,N,rfl⟩
    unfold Builtin.«set.__init__» noKeywords Builtin.Frozenset.updateFrom;generalize I:pyIter=PI
    wp_walk
    subst I;refine xS M (zV (wpAny_runValue ?_));have z:l < s.heap.objs.size:=zY x;have H:A.in1.in1.in1.handled=none:=by simp[hh]
    have D:l≠(s.heap.push { cls:=.type "set",dict:=none,data:=.set #[] 0 (.fresh 0 0 d) }).objs.size:=by rw[xK];exact yS (jP z)
    have J:s.heap.objs.size∉[(s.heap.push { cls:=.type "set",dict:=none,data:=.set #[] 0 (.fresh 0 0 d) }).objs.size,l]:=by
     rw[xK];simp?[zQ,yF,xV,not_or];exact⟨yS (kP _),jJ z⟩
    have a:∀ (i:Nat) (v:Θ),its[i]?=↑v->∃t,v=.int ((λi=>ns.getD i 0) i) t:=λi v hv=>IntsAre.int_at hi i v (by rw[Array.getElem?_toList];exact hv);refine codeAny_set_update_loopS ((Walks.tuple H _ l D its).toS) s.heap.objs.size J (λi=>ns.getD i 0) a hb (its.size - 0) 0 _ (by lia) (xW _) ⟨⟨_,zX _ rfl,rfl,rfl⟩,?ht⟩ ?hS0 ?hR
    case ht=>exact⟨_,zU _ B,rfl,N,rfl⟩
    case hS0 =>
     have f:((s.heap.push { cls:=.type "set",dict:=none,data:=.set #[] 0 (.fresh 0 0 d) }).push { cls:=.type "tuple_iterator",data:=.fields #[.ref l,.int 0 0] }).get? s.heap.objs.size=some { cls:=.type "set",dict:=none,data:=.set #[] 0 (.fresh 0 0 d) }:=by exact zU _ p
     exact SetOf_congr ((setObjOf_fresh (knd:=intKind prog w) d).setOf f (by unfold scanBound;lia)) (λ_=>rfl) rfl
    case hR =>
     intro s' m Z;let⟨h',g',d',L,X⟩:=s';have eg:g'=s.gens:=m.gens;have ed:d'=s.drawn:=m.drawn;have eo:X=s.os:=m.os;subst eg ed eo;show wpAny _ _ _ _ _ _;refine zW ?_;show wpAny _ _ (ret Value.none) _ _ _;refine zW ⟨rfl,h',L,rfl,Z,λb o V e=>?_⟩;refine m.heap b o ?_ (zU _ (zU _ e));simp?[zQ,yF,xV,not_or];exact⟨yS V,by rw[xK];exact yS (jP V)⟩
   .cases r2 with
    | error e=>exact W
    | ok g =>
     cases g with
     | ret r =>
      let⟨rfl,h',k,rfl,Z,C⟩:=W
      repeat (any_goals (first|assumption|wp_step))
      exact h _ _ Z C
     | _=>exact W.elim
  | _=>exact n.elim
end En
namespace Dl
open PySem L2 PySem.Spec PyProof.Rows
variable {env:PySem.Env}
def many(ns:Γ Int):Nat:=(firstMet (λi=>ns.getD i 0) ns.length).length
def Dr(hc:X.calm=true):fJ X (.type "set") (λxs H Q=>∃ (a:Ψ) (ns:Γ Int),xs=[.ref a]/\f9 X.K H a (ns.map V.int)/\ns.length+1 < scanBound/\∀q S,H q=none->Q (.ref q) (upd H q (.set S (many ns)))):=by
 intro p s j H xs U Q I r h;let⟨a,ns,rfl,g,B,q⟩:=h;let⟨u,rfl,x⟩:=vals1 r;cases x;let⟨i,v,l,z⟩:=I.tuple g;have f:IntsAre i.toArray.toList ns:=intsAre_of v;have n:i.toArray.size=ns.length:=by have:=v.length;simpa using this.symm
 refine En.Vb (I.ok.hd hc) (show s.heap.IsTuple a i.toArray from l) f (by rw[n];exact B) λd t c k=>?_;rw[n] at c;exact⟨.ref s.heap.objs.size,_,I.laid (t':=t) (λb o e=>k b o (zY e) e) (yN _) (show c8 X.prog X.w _ d _ (.set _ (many ns)) from c),rfl,q _ _ I.fresh⟩
def Dp:fJ X (.builtin "len") (λxs H Q=>∃ (a:Ψ) (S:Int->θ) (n:Nat),xs=[.ref a]/\H a=↑(.set S n)/\Q (.int n) H):=by
 intro p s i H xs U Q I r h;let⟨a,S,n,rfl,c,q⟩:=h;let⟨u,rfl,g⟩:=vals1 r;cases g;let⟨o,e,E,t,O,x,d,l,W,R,f,N⟩:=(show s.heap.SetOf (intKind X.prog X.w) a S n from I.QK a _ c)
 have b:((e.size:Nat):Int) < 2 ^ 63:=by unfold scanBound at R;lia
 refine call_len_set O x d f b ⟨.int n,H,I.tok _,⟨s.toks+1,by rw[N]⟩,q⟩
def lg:D->Δ D:=λd=>(bQ d).bind λn=>if n.length+1 < scanBound then ↑(.int (many n)) else none
def Ds(hc:X.calm=true)(B:ou X "len" (.builtin "len"))(C:ou X "set" (.type "set"))(h:DE X e f)(E:starEach [e] X.env=(false,eval e X.env)::starEach [] X.env:=by rfl) :
  DE X (.Call (.Name "len" p) [.Call (.Name "set" U) [e] [] pos'] [] pos) (f1 lg f) :=
 aW (ny Dp B.gl B.mg B.bt (dg (sY (Dr hc) C.gl C.mg C.bt (dg h iR E) (by decide) (by decide) E rfl) iR) (by decide) (by decide) rfl rfl) λL H Q z=>by
  let⟨c,y,d,M,o,F,q⟩:=z;let⟨x,m,F⟩:=bs F;let⟨s,i,F⟩:=bs F;split at F
  .rename_i j;cases F;refine⟨c,y,x,M,o,m,λD A G g R=>?_⟩;rw[eT i] at R;simp?[Rep] at R;let⟨a,J,rfl,l,u⟩:=R;have k:∀ {s:Γ Int}{w:Γ V},ak X.K G (s.map PyData.int) w->w=s.map V.int:=λ{s}=>by
    induction s with
    | nil=>exactλh=>h.nil_inv
    | cons n s I =>
     intro w h;let⟨v,r,rfl,a,b⟩:=h.cons_inv;simp?[Rep] at a;rw[a,I b];rfl
   have:=k u;subst this;refine⟨a,s,rfl,ax g.fh l,j,λb S t=>⟨b,S,_,rfl,aI,q _ _ G (g.trans (.own g.fh t)) (by simp[Rep])⟩⟩
  .cases F
def kn(v:Nat->Int):∀i,(firstMet v i).length=i↔((List.range i).map v).Nodup
 | 0=>by simp[firstMet]
 | i+1=>by
  have E:=firstMet_length_le v i;rw[firstMet_succ,step_length,vT,jB,wY];have H:=firstMet_any v i (v i);have I:=kn v i;constructor
  .intro h;by_cases W:(firstMet v i).any (· == v i)=true
   .rw[yM W] at h;lia
   .rw[yO W] at h;refine⟨I.mp (by lia),by simp,λa m b B z=>?_⟩;have V:b=v i:=by simpa using B
    subst z V;rw[H] at W;exact W (List.any_eq_true.mpr ⟨_,m,by simp⟩)
  .rintro⟨c,_,d⟩;rw[yO ?_]
   .rw[I.mpr c]
   .rw[H];intro W;let⟨x,f,e⟩:=List.any_eq_true.mp W;have X:x=v i:=by simpa using e
    exact d x f (v i) (by simp) X
def A0(ns:Γ Int):many ns=ns.length↔ns.Nodup:=by
 unfold many;rw[kn];have:(List.range ns.length).map (λi=>ns.getD i 0)=ns:=ki ns 0;rw[this]
def ze{K:Φ}(h:eN K r g)(h':eN K U g'):eN K (λx y H Q=>r x y H Q\/U x y H Q) (λx y=>(g x y).or (g' x y)):=by
 intro F H x y v V d Q s R a G q;cases e:g x y with
 | some D =>
  have G:(g x y).or (g' x y)=↑d:=G;rw[e] at G;cases G;exact .inl (h F H x y v V d Q s R a e q)
 | none =>
  have G:(g x y).or (g' x y)=↑d:=G;rw[e] at G;exact .inr (h' F H x y v V d Q s R a G q)
def CV{K:Φ}:eN K (ES K) (λx y=>(GH x y).map PyData.list):=by
 intro F H x y V f d Q s r R g q;let⟨S,Z,rfl⟩:=ag g;clear g;cases x<;>cases y<;>simp?[GH] at Z<;>try cases Z
 let⟨rfl,z⟩:=fS Z;simp?[Rep] at r R;let⟨a,v,rfl,c,A⟩:=r;let⟨b,u,rfl,e,B⟩:=R;refine⟨a,b,v,u,rfl,rfl,s.seq c,s.seq e,by rw[A.length,B.length,<- zN];exact z,λp P=>q _ _ _ (.new s P) ?_⟩;simp?[Rep];exact⟨p,_,rfl,.inl (.inl aI),(A.append B).mono (dk (s.free P))⟩
def aC:D->D->Δ D:=λx y=>((vg (λ_ _=>True) λi j=>.int (i+j)) x y).or ((Jl x y).or ((GH x y).map PyData.list))
def Bk.add(C:Bk X N sc k)(H:DE X a fa)(B:DE X b fb):DE X (.BinOp a .Add b pos) (f2 aC fa fb):=xo (LA.or (C6.or GN)) (ze D7 (ze Ji CV)) H B
def gT:D->D->Δ D:=vg (λ_ _=>True) λi j=>.int (i - j)
def Bk.sub(C:Bk X N sc k)(H:DE X a fa)(B:DE X b fb):DE X (.BinOp a .Sub b pos) (f2 gT fa fb):=xo KA D7 H B
def eu:D->D->Δ D:=λx y=>((vg rS λi j=>.int (i * j)) x y).or (xy x y)
def Bk.mul(C:Bk X N sc k)(H:DE X a fa)(B:DE X b fb):DE X (.BinOp a .Mult b pos) (f2 eu fa fb):=xo (Ku.or Ju) (ze Fo EY) H B
def mF:D->D->Δ D:=vg Hx λi j=>.int (i / j)
def Bk.div(C:Bk X N sc k)(H:DE X a fa)(B:DE X b fb):DE X (.BinOp a .FloorDiv b pos) (f2 mF fa fb):=xo Jp Fo H B
def lz:D->D->Δ D:=vg (λ_ j=>0 < j) λi j=>.int (i % j)
def Bk.mod(C:Bk X N sc k)(H:DE X a fa)(B:DE X b fb):DE X (.BinOp a .Mod b pos) (f2 lz fa fb):=xo KI Fo H B
def CN:D->D->Δ D:=vg (λ_ _=>True) λi j=>.bool (decide (i < j))
def Cr:D->D->Δ D:=vg (λ_ _=>True) λi j=>.bool (decide (i<=j))
def za:D->D->Δ D:=vg (λ_ _=>True) λi j=>.bool (decide (j < i))
def cg:D->D->Δ D:=λx y=>(LH x y).map PyData.bool
def hC:D->D->Δ D:=λx y=>(ME x y).map PyData.bool
def Bk.u64(C:Bk X N sc k):X.A.units+64 < cLine:=C.room.units
def Bk.u66(C:Bk X N sc k):X.A.units+66 < cLine:=by have:=C.room.un;lia
def Bk.lt(C:Bk X N sc k)(H:DE X a fa)(B:DE X b fb):DE X (.Compare a [.Lt] [b] pos) (f2 CN fa fb):=iZ F9 kf H B (dv _)
def Bk.le(C:Bk X N sc k)(H:DE X a fa)(B:DE X b fb):DE X (.Compare a [.LtE] [b] pos) (f2 Cr fa fb):=iZ DR kf H B (dv _)
def Bk.gt(C:Bk X N sc k)(H:DE X a fa)(B:DE X b fb):DE X (.Compare a [.Gt] [b] pos) (f2 za fa fb):=iZ JR kf H B (dv _)
def Bk.eq(C:Bk X N sc k)(H:DE X a fa)(B:DE X b fb):DE X (.Compare a [.Eq] [b] pos) (f2 cg fa fb):=iZ (FV C.u64) oA H B (dv _)
def Bk.ne(C:Bk X N sc k)(H:DE X a fa)(B:DE X b fb):DE X (.Compare a [.NotEq] [b] pos) (f2 hC fa fb):=iZ (GD C.u64) oA H B (dv _)
def Bk.tlt(C:Bk X N sc k)(H:DE X a fa)(B:DE X b fb):DT X (.Compare a [.Lt] [b] pos) (fB (f2 CN fa fb)):=iE F9 kf H B (dv _)
def Bk.tle(C:Bk X N sc k)(H:DE X a fa)(B:DE X b fb):DT X (.Compare a [.LtE] [b] pos) (fB (f2 Cr fa fb)):=iE DR kf H B (dv _)
def Bk.tgt(C:Bk X N sc k)(H:DE X a fa)(B:DE X b fb):DT X (.Compare a [.Gt] [b] pos) (fB (f2 za fa fb)):=iE JR kf H B (dv _)
def Bk.teq(C:Bk X N sc k)(H:DE X a fa)(B:DE X b fb):DT X (.Compare a [.Eq] [b] pos) (fB (f2 cg fa fb)):=iE (FV C.u64) oA H B (dv _)
def Bk.tne(C:Bk X N sc k)(H:DE X a fa)(B:DE X b fb):DT X (.Compare a [.NotEq] [b] pos) (fB (f2 hC fa fb)):=iE (GD C.u64) oA H B (dv _)
def cn:D->Δ Int->Δ Int->Δ D|.tuple d,l,i=>↑(.tuple (cut d l i))|.list d,l,i=>↑(.list (cut d l i))|_,_,_=>none
def Bk.cut(C:Bk X N sc k){lo:Δ γ}{fl:Env->Δ (Δ Int)}(A:DE X a fa)(hl:DO X lo fl)(w:DO X hi fh):DE X (.Subscript a (.Slice lo hi none p2) pos) (fj cn fa fl fh):=aW (Fs (Ms.or Hg) A hl w) λJ H Q z=>by
 let⟨F,i,d,S,o,f,q⟩:=z;let⟨x,y,f⟩:=bs f;let⟨l,hl,f⟩:=bs f;let⟨u,U,f⟩:=bs f;refine⟨F,i,x,S,o,y,λI D n g B=>⟨n,i,l,g.fh,o.mono g.ff,hl,λE t c=>⟨t,i,u,c.fh,o.mono (g.ff.trans c.ff),U,λm V j=>?_⟩⟩⟩;have G:=(g.trans c).trans j;have r:=B.mono (c.ff.trans j.ff);cases x<;>try cases f
 .simp?[Rep] at r;let⟨b,v,rfl,s,R⟩:=r;refine .inr ⟨b,v,rfl,G.fh.seq s,λp P=>q _ _ _ (G.trans (.new G.fh P)) ?_⟩;simp?[Rep];exact⟨p,_,rfl,.inl (.inl aI),(pW R l u).mono (dk (G.fh.free P))⟩
 .simp?[Rep] at r;let⟨b,v,rfl,s,R⟩:=r;refine .inl ⟨b,v,rfl,ax G.fh s,λe=>q _ m V G ?_,λp P=>q _ _ _ (G.trans (.new G.fh P)) (cD (G.fh.free P) (pW R l u))⟩;simp?[Rep];refine⟨b,v,rfl,s,?_⟩;have:=pW R l u;rw[e] at this;exact this
def MQ:D->Δ D|.int i=>↑(.int (-i))|_=>none
def Bk.neg(C:Bk X N sc k)(A:DE X a fa):DE X (.UnaryOp .USub a pos) (f1 MQ fa):=aW (F6 Ai A) λj H Q z=>by
 let⟨F,i,d,s,e,f,q⟩:=z;let⟨x,c,f⟩:=bs f;refine⟨F,i,x,s,e,c,λv b G g r=>?_⟩;cases x<;>try cases f
 exact⟨_,by simpa only[Rep] using r,q _ b G g (by simp[Rep])⟩
def Gq:bootBuiltins "len"=↑(.builtin "len"):=by decide +kernel
def rR:bootBuiltins "isinstance"=↑(.builtin "isinstance"):=by decide +kernel
def GK:bootBuiltins "tuple"=↑(.type "tuple"):=by decide +kernel
def yk:bootBuiltins "range"=↑(.type "range"):=by decide +kernel
def LW:bootBuiltins "all"=↑(.builtin "all"):=by decide +kernel
def EI:bootBuiltins "set"=↑(.type "set"):=by decide +kernel
def ik:bootBuiltins "sorted"=↑(.builtin "sorted"):=by decide +kernel
def u9:bootBuiltins "enumerate"=↑(.type "enumerate"):=by decide +kernel
def KU:bootBuiltins "zip"=↑(.type "zip"):=by decide +kernel
abbrev bN(f:Env->Δ (Γ D)):Env->Δ D:=λa=>(f a).map PyData.list
abbrev br:Γ D->Δ D:=λd=>(eK d).map PyData.tuple
def Bk.ZE(C:Bk X N sc k)(h:decide (sc.names.lookup x=↑.local)=true):X.env.scope.names.lookup x=↑.local:=by
 rcases C.tb x _ (yR h) with q|⟨q,_⟩
 .exact q
 .cases q
def isStar(e:γ):θ:=e.ctorIdx == 22
def bh(h:isStar e=false):starEach (e::es) env=(false,eval e env)::starEach es env:=by
 cases e<;>first|rfl|cases h
def Ly(H:DE X e f)(hs:DA X es g)(h:isStar e=false:=by rfl):DA X (e::es) (aa f g):=mX H hs (bh h)
def rF:swapsWith (.ListComp elt gens scope pos) (↑(.Name x py)) line env=pure (env.blockKind == .function&&env.kindOf x == some .local && py.line == pos.line
     &&!(scope.names.any λ(n,k)=>n == x&&(k == .local || k == .cell))):=rfl
def JD(h:env.scope.kind=.function):env.blockKind=.function:=by unfold PySem.Env.blockKind;rw[h];rfl
def Bk.swap(C:Bk X N sc k)(h:decide (sc.names.lookup x=↑.local)=true)(H:(py.line == pos.line&&!(scope.names.any λ(n,k)=>n == x&&(k == .local || k == .cell)))=true) :
  swapsWith (.ListComp elt gens scope pos) (↑(.Name x py)) line X.env=pure true:=by
 rw[rF,JD C.kd,show X.env.kindOf x=↑.local from C.ZE h];rw[Bool.and_assoc,H];rfl
def Bk.X9(C:Bk X N sc k)(h:decide (sc.names.lookup x=↑.cell)=true) :
  swapsWith (.ListComp elt gens scope pos) (↑(.Name x py)) line X.env=pure false:=by
 have q:X.env.kindOf x=↑.cell:=by
  rcases C.tb x _ (yR h) with q|⟨q,_⟩
  .exact q
  .cases q
 rw[rF,q,JD C.kd];rfl
section
variable {K:Φ}
structure ja(K:W.Frag)(x:Str)(st:Stmt)(ps:List Str):Prop where
 ex:∃ (f:Ψ) (fd:η),W.nsIn K mainGlobals x=↑(↑(.ref f))/\HK K x x st f fd/\Binds K fd ps []
structure Hq(K:W.Frag)(mg:Str->Option Value)(x:Str)(st:Stmt)(ps:List Str):Prop where
 ex:∃ (f:Ψ) (fd:η),mg x=↑(.ref f)/\HK K x x st f fd/\Binds K fd ps []
def ja.mg{h:ι}{mg:Str->Δ Θ}{st:Ω}(D:ja K x st ps)(X:K.In h)(G:h.Ns mainGlobals mg):Hq K mg x st ps:=by
 let⟨f,d,a,b,c⟩:=D.ex;exact⟨f,d,W.mg_of X G a,b,c⟩
def fR(st:Ω)(ps:Γ Str):Prop:=∀ (x q:Str) (k d p:Θ) (a:Δ Ψ) (R c:Θ) (u:Γ Θ),u.length=ps.length->bindArgs (W.fnOf x q (gy st) (b8 st) (aG st) .none k d p a R c) ⟨u,[]⟩=pure (ps.zip u)
def NK{st:Ω}{V:Θ}(b:fR st ps)(a:W.nsIn K mainGlobals x=↑(↑(.ref f)))(l:K.lookup f=↑⟨oc,od,.func (W.fnOf x x (gy st) (b8 st) (aG st) .none V d p n R t),Vp⟩)
  (c:W.codeIn K R x=true) (k:W.keepIn K (.ref f)=true):ja K x st ps:=⟨f,_,a,uT (st:=st) l c k,(uT (st:=st) l c k).binds λV d p n R t u h=>b _ _ V d p n R t u h⟩
structure oM(K:W.Frag)(x:Str)(st:Stmt)(ps:List Str):Prop where
 ex:∃ (f:Ψ) (fd:η) (c P:Ψ),W.nsIn K mainGlobals x=↑(↑(.ref f))/\HK K x x st f fd/\Binds K fd ps []/\fd.code=.ref c/\W.codeHdIn K c P=true
structure L4(K:W.Frag)(mg:Str->Option Value)(x:Str)(st:Stmt)(ps:List Str):Prop where
 ex:∃ (f:Ψ) (fd:η) (c P:Ψ),mg x=↑(.ref f)/\HK K x x st f fd/\Binds K fd ps []/\fd.code=.ref c/\W.codeHdIn K c P=true
def oM.mg{h:ι}{mg:Str->Δ Θ}{st:Ω}(D:oM K x st ps)(X:K.In h)(G:h.Ns mainGlobals mg):L4 K mg x st ps:=by
 let⟨f,d,c,P,a,b⟩:=D.ex;exact⟨f,d,c,P,W.mg_of X G a,b⟩
def E4(K:Φ)(c:Ψ):Ψ:=match K.lookup c with
 | some ⟨_,_,.fields v,_⟩=>(match (v[11]?:Δ Θ) with|some (.ref P)=>P|_=>0)
 | _=>0
def Nf{st:Ω}{V:Θ}(b:fR st ps)(a:W.nsIn K mainGlobals x=↑(↑(.ref f)))(l:K.lookup f=↑⟨oc,od,.func (W.fnOf x x (gy st) (b8 st) (aG st) .none V d p n (.ref c) t),Vp⟩)
  (C:W.codeIn K (.ref c) x=true) (k:W.keepIn K (.ref f)=true) (H:W.codeHdIn K c (E4 K c)=true):oM K x st ps:=⟨f,_,c,E4 K c,a,uT (st:=st) l C k,(uT (st:=st) l C k).binds λV d p n R t u h=>b _ _ V d p n R t u h,rfl,H⟩
def K6{K:Φ}(h:(dq.all λx=>match W.nsIn K mainGlobals x with|some none=>true|_=>false)=true):∀x∈dq,W.nsIn K mainGlobals x=↑none:=by
 intro x H;have:=List.all_eq_true.mp h x H;split at this
 .assumption
 .cases this
def Aj{K:Φ}{H:Hp}{a:Ψ}{ns:Γ Int}{m:Γ D->Δ D}(S:iw K H a (ns.map V.int))(T:fP K H)(h:m [.list (ns.map PyData.int)]=↑(.bool true)){X:_}:Oa K 1 m [.ref a] H (λv _=>v=.bl true) X:=by
 refine⟨H,[.list (ns.map PyData.int)],.bool true,.refl _,T,ak.cons ?_ ak.nil,rfl,h,λv b Q G r=>by simpa only[Rep] using r⟩;simp?[Rep];refine⟨a,_,rfl,S,?_⟩;clear h S T
 induction ns with
 | nil=>exact ak.nil
 | cons n ns i=>exact ak.cons (by simp[Rep]) i
end
def Oz(h:isStar e=false)(H:DE X e f)(hs:DA X es g):DA X (e::es) (aa f g):=Ly H hs h
def MD:au->Δ Out:=λ_=>none
def M1{st:Ω}:DS X QD QF st MD:=λp s b H E I z=>by let⟨F,a,o,S,g,q⟩:=z;cases g
def lM(f:Env->Δ D):au->Δ Out:=λa=>(f (aV a)).map λ_=>.nx a
def Hb(hs:swapsWith e none pos.line X.env=pure false)(h:DE X e f):DS X QD QF (.Expr e pos) (lM f):=c9 (o9 h hs) λE c H z=>by
 let⟨F,b,o,S,g,q⟩:=z;let⟨d,h,rfl⟩:=ag g;exact⟨H,aV b,d,.refl _,S.all,h,λv a Q G r=>q c a F (S.step G.hh) (.refl _)⟩
def Iz(t:Env->Δ θ)(gb:au->Δ Out):Nat->au->Δ Out
 | 0,_=>none
 | n+1,a=>(t (aV a)).bind λb=>if b=true then (gb a).bind fun|.nx c=>Iz t gb n c|.rt d=>↑(.rt d) else ↑(.nx a)
def Fp(n:Nat)(P:PassesOwn (model X.prog X.w) X.A X.env X.xe)(hc:DT X c t)(B:DJ X QD QF body gb):DS X QD QF (.While c body [] pos) (Iz t gb n) :=
 c9 (Gf P hc B) λE N H z=>by
  let⟨F,C,o,S,x,q⟩:=z;refine⟨λm e g=>∃Q a,jj X.K QD QF Q g a e/\aO F Q/\Iz t gb m a=↑o,⟨n,F,C,S,.refl _,x⟩,?_⟩;rintro m e g ⟨Q,a,s,j,f⟩;cases m with
  | zero=>cases f
  | succ m =>
   unfold Iz at f;let⟨b,B,f⟩:=bs f;refine⟨g,aV a,b,.refl _,s.all,B,λk L G=>?_⟩;cases b with
   | false =>
    rw[yO xA] at f ⊢;cases f;exact q e k Q (s.step G.hh) j
   | true =>
    rw[yM rfl] at f ⊢;let⟨O,v,f⟩:=bs f;refine⟨λU i=>∃R W,jj X.K QD QF R i W U/\aO F R/\Iz t gb m W=↑o,λU i z=>by let⟨R,W,p,r,u⟩:=z;exact ⟨m,kP _,R,W,p,r,u⟩,Q,a,O,s.step G.hh,v,?_⟩;cases O with
    | nx M=>exactλD I J l y=>⟨J,M,l,j.trans y,f⟩
    | rt d=>cases f;exact q
def yb:Γ D->Δ D
 | [.int a,.int b]=>↑(.int (min a b))
 | [.int a,.int b,.int c]=>↑(.int (min (min a b) c))
 | _=>none
def Ep(hc:X.calm=true):fJ X (.builtin "min") (λxs H Q=>(∃a b:Int,xs=[.int a,.int b]/\Q (.int (min a b)) H)\/(∃a b c:Int,xs=[.int a,.int b,.int c]/\Q (.int (min (min a b) c)) H)):=by
 intro p s j H xs U Q I r h;have f:X.A.handled=none:=I.ok.hd hc;rcases h with ⟨a,b,rfl,q⟩|⟨a,b,c,rfl,q⟩
 .cases r with
  | cons R r =>
   cases r with
   | cons e r =>
    cases r;let⟨t,rfl⟩:=R;let⟨u,rfl⟩:=e;refine min_two_ints f λg T k=>⟨.int (min a b),H,I.kept (t':=T) k,?_,q⟩
    by_cases h:b < a
    .rw[yM h,show min a b=b by lia];exact⟨_,rfl⟩
    .rw[yO h,show min a b=a by lia];exact⟨_,rfl⟩
 .cases r with
  | cons R r =>
   cases r with
   | cons e r =>
    cases r with
    | cons i r =>
     cases r;let⟨t,rfl⟩:=R;let⟨u,rfl⟩:=e;let⟨x,rfl⟩:=i;refine min_three_ints f λg T k=>⟨.int (min (min a b) c),H,I.kept (t':=T) k,?_,q⟩
     by_cases h:b < a
     .rw[yM h];by_cases d:c < b
      .rw[yM d,show min (min a b) c=c by lia];exact⟨_,rfl⟩
      .rw[yO d,show min (min a b) c=b by lia];exact⟨_,rfl⟩
     .rw[yO h];by_cases d:c < a
      .rw[yM d,show min (min a b) c=c by lia];exact⟨_,rfl⟩
      .rw[yO d,show min (min a b) c=a by lia];exact⟨_,rfl⟩
def wb{K:Φ}(r:Rep K H d v):∀ {ds:Γ D}{vs:Γ V}(j:Nat),ak K H ds vs->ak K H (ds.set j d) (vs.set j v)
 | [],vs,j,h=>by rw[h.nil_inv];exact ak.nil
 | x::ds,vs,j,h=>by
  let⟨u,s,rfl,a,b⟩:=h.cons_inv;cases j with
  | zero=>exact ak.cons r b
  | succ j=>exact ak.cons a (wb r j b)
def AE(i:Nat)(fz:Γ Nat)(fk f:Env->Δ D):au->Δ Out:=λa=>(lE fz f a).bind λp=>(fk (aV p.2)).bind λK=>match K with
 | .int k=>oh i (λd=>(GQ d.length k).map λj=>d.set j p.1) p.2
 | _=>none
def GJ(i:Nat)(fz:Γ Nat)(C:X.N[i]?=↑x)(V:JF X.env.scope x)(P:DE X e fk)(h:DE X b f)(L:(x == ("__debug__":Str))=false:=by decide)(J:(x == ("__classdict__":Str))=false:=by decide)
  (K:∀v,assign (.Subscript (.Name x px) e U) X.env v=(do
   let O <- holding [v] (eval (.Name x px) X.env)
   let I <- holding [v,O] (eval e X.env)
   standAt U
   holding [v,O,I] (setItem O I v)
   release [v,O,I] []):=by intro _;rfl)
  (hs:swapsWithSole [.Subscript (.Name x px) e U] b pos.line X.env=pure false:=by rfl) (hw:swappedStores [.Subscript (.Name x px) e U] b X.env=pure none:=by rfl)
  (l:(assignEach [.Subscript (.Name x px) e U] X.env).map (·.2)=[assign (.Subscript (.Name x px) e U) X.env]:=by rfl):DS X QD QF (.Assign [.Subscript (.Name x px) e U] b pos) (AE i fz fk f) :=
 c9 (Lo h (Ko (p7 C V L J) P set_list K) hs hw l) λE Y H z=>by
  let⟨HF,ρ,o,S,g,q⟩:=z;let⟨⟨d,n⟩,l,g⟩:=bs g;let⟨T,y,g⟩:=bs g;cases T<;>try cases g
  rename_i k;let⟨D,es,m,B,rfl⟩:=k9 g;let⟨j,M,rfl⟩:=ag B;refine n8 S l λv w Q W s s2 r=>?_;let⟨a,vs,c,b,e3,e5,e4⟩:=s.own i D m;refine⟨.ref a,c,w,aV n,.int k,.refl _,s.all,y,λkv Z Rh G R=>?_⟩;simp?[Rep] at R;have p:=s.step G.hh;let⟨a',A,F,t,f3,f5,u⟩:=p.own i D m;rw[c] at F;cases F;exact⟨a,A,k,j,rfl,R,t,by rw[u.length];exact M,q Y _ Q (p.mut m c t (wb r j u)) W⟩
def N7:D->θ|.none=>true|_=>false
def o4{K:Φ}(r:Rep K HF d v):decide (v=.QB)=N7 d:=by
 cases d<;>simp?[Rep] at r<;>first
  | (subst r;rfl)
  | (let⟨a,s,rfl,_⟩:=r;rfl)
  | (let⟨a,x,rfl,_⟩:=r;rfl)
  | exact r.elim
def xt:D->D->Δ D:=λx y=>if N7 y=true then ↑(.bool (N7 x)) else match x,y with
 | .bool a,.bool b=>↑(.bool (a == b))
 | _,_=>none
def pA:D->D->Δ D:=λx y=>if N7 y=true then ↑(.bool (!N7 x)) else match x,y with
 | .bool a,.bool b=>↑(.bool (!(a == b)))
 | _,_=>none
def Gb{X:Cx}:gY X (compareOp .Is) (λx y H Q=>∃a b,x=.bl a/\y=.bl b/\Q (.bl (a == b)) H):=by
 intro p s c H x y v u Q I r R q;let⟨a,b,rfl,rfl,q⟩:=q;cases r;cases R;exact wpAny_is_plain rfl ⟨.bl _,H,I,rfl,by cases a<;>cases b<;>exact q⟩
def Cu{X:Cx}:gY X (compareOp .IsNot) (λx y H Q=>∃a b,x=.bl a/\y=.bl b/\Q (.bl (!(a == b))) H):=by
 intro p s c H x y v u Q I r R q;let⟨a,b,rfl,rfl,q⟩:=q;cases r;cases R;exact wpAny_isNot_plain rfl ⟨.bl _,H,I,rfl,by cases a<;>cases b<;>exact q⟩
def BL{K:Φ}:eN K (λx y H Q=>(y=.QB/\Q (.bl (decide (x=.QB))) H)\/∃a b,x=.bl a/\y=.bl b/\Q (.bl (a == b)) H) xt:=by
 intro F H x y v V d Q s r R g q;unfold xt at g;split at g
 .rename_i h;cases g;have c:=o4 R;rw[h,zJ] at c;refine .inl ⟨c,?_⟩;rw[o4 r];exact q _ H F (.refl s) (by simp[Rep])
 .split at g
  .cases g;simp?[Rep] at r R;exact .inr ⟨_,_,r,R,q _ H F (.refl s) (by simp[Rep])⟩
  .cases g
def y1{K:Φ}:eN K (λx y H Q=>(y=.QB/\Q (.bl (!decide (x=.QB))) H)\/∃a b,x=.bl a/\y=.bl b/\Q (.bl (!(a == b))) H) pA:=by
 intro F H x y v V d Q s r R g q;unfold pA at g;split at g
 .rename_i h;cases g;have c:=o4 R;rw[h,zJ] at c;refine .inl ⟨c,?_⟩;rw[o4 r];exact q _ H F (.refl s) (by simp[Rep])
 .split at g
  .cases g;simp?[Rep] at r R;exact .inr ⟨_,_,r,R,q _ H F (.refl s) (by simp[Rep])⟩
  .cases g
def Bk.is0(C:Bk X N sc k)(H:DE X a fa)(B:DE X b fb):DE X (.Compare a [.Is] [b] pos) (f2 xt fa fb):=iZ (DQ.or Gb) BL H B (dv _)
def Bk.ac6(C:Bk X N sc k)(H:DE X a fa)(B:DE X b fb):DE X (.Compare a [.IsNot] [b] pos) (f2 pA fa fb):=iZ (BC.or Cu) y1 H B (dv _)
def Bk.ac7(C:Bk X N sc k)(H:DE X a fa)(B:DE X b fb):DT X (.Compare a [.Is] [b] pos) (fB (f2 xt fa fb)):=iE (DQ.or Gb) BL H B (dv _)
def Bk.ZF(C:Bk X N sc k)(H:DE X a fa)(B:DE X b fb):DT X (.Compare a [.IsNot] [b] pos) (fB (f2 pA fa fb)):=iE (BC.or Cu) y1 H B (dv _)
def LK(hc:X.calm=true)(B:ou X "min" (.builtin "min"))(E:starEach (e::es) X.env=(false,eval e X.env)::starEach es X.env)(R:(backTo pos (starEach es X.env)).any (·.1)=false)(j:DA X (e::es) fs):DE X (.Call (.Name "min" p) (e::es) [] pos) (bp yb fs) :=
 j9 (Ep hc) (by
  intro F H D S d Q s r g q;unfold yb at g;split at g
  .cases g;let⟨v,k,rfl,a,b⟩:=r.cons_inv;let⟨V,l,rfl,A,c⟩:=b.cons_inv;rw[c.nil_inv];simp?[Rep] at a A;exact .inl ⟨_,_,by rw[a,A],q _ H F (.refl s) (by simp[Rep])⟩
  .cases g;let⟨v,k,rfl,a,b⟩:=r.cons_inv;let⟨V,l,rfl,A,c⟩:=b.cons_inv;let⟨n,m,rfl,f,i⟩:=c.cons_inv;rw[i.nil_inv];simp?[Rep] at a A f;exact .inr ⟨_,_,_,by rw[a,A,f],q _ H F (.refl s) (by simp[Rep])⟩
  .cases g) B j (by decide) (by decide) E R
section
variable {fl fs:Env->Δ (Γ D)}
def AA(hc:X.calm=true):fJ X (.builtin "any") (λxs H Q=>∃ (a:Ψ) (B:Γ θ),xs=[.ref a]/\iw X.K H a (B.map V.bl)/\Q (.bl (B.any id)) H):=by
 intro S s F H xs U Q I r h;let⟨a,B,rfl,j,q⟩:=h;let⟨u,rfl,x⟩:=vals1 r;cases x;let⟨l,R,p,Z⟩:=I.list j;have k:=lK R;subst k;have g:X.A.in1.handled=none:=I.ok.hd hc;refine call_any_walk (qL p.isList ?_);let⟨o,O,y,n,D⟩:=p.isList;have c:a≠s.heap.objs.size:=yS (zY O);refine⟨_,_,_,_,_,_,λi=>B.getD i false,rfl,Walks.list g s.heap.objs.size a c (B.map Value.bool).toArray,⟨⟨_,zX _ rfl,rfl,rfl⟩,p.isList.push _⟩,λi v C w E P d=>?_,λz T m=>?_⟩
 .have e:v=Value.bool (B.getD i false):=by
   have P:(B.map Value.bool).toArray[i]?=↑v:=P;rw[vY,zO] at P;let⟨b,f,rfl⟩:=ag P;rw[zG,f];rfl
  subst e;exact xX d
 .refine⟨.bl (B.any id),H,?_,?_,q⟩
  .exact I.kept (t':=T) λb t e=>m b t (by simp;exact yS (zY e)) (zU _ e)
  .show Value.bool _=Value.bool _;have:=range_any B;simp?[zH,zD];rw[this]
end
def Mq(hc:X.calm=true)(B:ou X "any" (.builtin "any"))(he:starEach [e] X.env=(false,eval e X.env)::starEach [] X.env)(ha:DA X [e] fs):DE X (.Call (.Name "any" p) [e] [] pos) (bp (λds=>(oneOf ds).bind λd=>match d with
 | .list es=>(boolsOf es).map λbs=>.bool (bs.any id)
 | _=>none) fs) :=
 j9 (AA hc) (by
  intro HF H ds vs d Q sm r hg q;let⟨x,hx,hg⟩:=bs hg;rw[fZ hx] at r;cases x<;>try cases hg
  let⟨bs,hb,rfl⟩:=ag hg;let⟨v,r',rfl,a,b⟩:=r.cons_inv;rw[b.nil_inv];simp?[Rep] at a;let⟨p,us,rfl,h,rr⟩:=a;rw[iH hb] at rr;have:=ma rr;subst this;exact⟨p,bs,rfl,sm.seq h,q _ H HF (.refl sm) (by simp[Rep])⟩) B ha (by decide) (by decide) he rfl
def oK(ns:Γ Int):∀j:Nat,preSum (λi=>ns.getD i 0) j=(ns.take j).sum
 | 0=>by simp[preSum]
 | j+1=>by
  rw[preSum,oK ns j,wX,List.sum_append]
  congr 1
  rw[zG];cases ns[j]?<;>simp
def sr(v:Nat->Int)(B:Int)(h:∀i,-B<=v i/\v i<=B):∀j:Nat,-(B * j)<=preSum v j/\preSum v j<=B * j
 | 0=>by simp[preSum]
 | j+1=>by
  have I:=sr v B h j;have:=h j;rw[preSum];have e:B * ((j+1:Nat):Int)=B * (j:Int)+B:=by rw[Int.natCast_add,Int.mul_add];simp
  rw[e];lia
def LD(ns:Γ Int):θ:=decide (ns.length<=1000)&&ns.all λn=>decide (-1000000<=n)&&decide (n<=1000000)
def Ks(h:LD ns=true):ns.length<=1000/\∀i,-1000000<=ns.getD i 0/\ns.getD i 0<=1000000:=by
 unfold LD at h;rw[zF,zJ,xH] at h;refine⟨h.1,λi=>?_⟩;rw[zG];cases e:ns[i]? with
 | none=>simp
 | some n =>
  have:=h.2 n (qC e);simpa using this
def pk{ns:Γ Int}{its:Γ Θ}(r:az (ns.map V.int) its){i:Nat}(h:its.toArray[i]?=↑v):∃t,v=.int (ns.getD i 0) t:=by
 rw[vY] at h
 induction ns generalizing its i with
 | nil=>cases r;simp at h
 | cons n ns I =>
  cases r with
  | cons R a =>
   cases i with
   | zero =>
    simp?[xR,yL] at h;subst h;let⟨t,rfl⟩:=R;exact⟨t,rfl⟩
   | succ i =>
    simp?[yZ] at h;exact I a h
def AY(hc:X.calm=true):fJ X (.builtin "sum") (λxs H Q=>∃ (a:Ψ) (ns:Γ Int),xs=[.ref a]/\(iw X.K H a (ns.map V.int)\/f9 X.K H a (ns.map V.int))/\LD ns=true/\Q (.int ns.sum) H):=by
 intro x s Y H xs U Q I r h;let⟨a,ns,rfl,c,y,q⟩:=h;let⟨u,rfl,F⟩:=vals1 r;cases F;have w:X.A.in1.handled=none:=I.ok.hd hc;let⟨N,d⟩:=Ks y;have W:∀n:Nat,n<=1000->∀j,j < n->InLong ((λi=>ns.getD i 0) j)/\InLong (preSum (λi=>ns.getD i 0) (j+1)):=λn M j L=>by
  have G:=d j;have J:=sr (λi=>ns.getD i 0) 1000000 d (j+1);refine⟨⟨?_,?_⟩,?_,?_⟩
  .show -(2 ^ 63)<=ns.getD j 0;lia
  .show ns.getD j 0 < 2 ^ 63;lia
  .lia
  .lia
 have Z:preSum (λi=>ns.getD i 0) ns.length=ns.sum:=by rw[oK,List.take_length]
 rcases c with c|c
 .let⟨S,f,p,E⟩:=I.list c;have l:S.length=ns.length:=by rw[<- f.length,zD]
  refine call_sum_walk (qL p.isList ?_);let⟨o,O,z,n,D⟩:=p.isList;have R:=zY O;have g:a≠s.heap.objs.size:=yS R;refine⟨_,_,_,_,_,_,λi=>ns.getD i 0,rfl,Walks.list w s.heap.objs.size a g S.toArray,⟨⟨_,zX _ rfl,rfl,rfl⟩,p.isList.push _⟩,λb B=>?_,λi v P=>pk f P,by rw[zH,l];exact W _ N,λC T t k=>?_⟩
  .show b < (s.heap.push _).objs.size;rw[xK];simp?[zQ,yF,xV] at B;rcases B with rfl|rfl
   .exact kP _
   .exact jP R
  .refine⟨.int ns.sum,H,I.kept (t':=T) λb m e=>k b m (by simp;exact yS (zY e)) (zU _ e),⟨t,?_⟩,q⟩;rw[zH,l,Z]
 .let⟨S,f,p,E⟩:=I.tuple c;have p:s.heap.IsTuple a S.toArray:=p;have l:S.length=ns.length:=by rw[<- f.length,zD]
  refine call_sum_walk (xS p ?_);let⟨o,O,z,n,D⟩:=id p;have R:=zY O;have g:a≠s.heap.objs.size:=yS R;refine⟨_,_,_,_,_,_,λi=>ns.getD i 0,rfl,Walks.tuple w s.heap.objs.size a g S.toArray,⟨⟨_,zX _ rfl,rfl,rfl⟩,p.push _⟩,λb B=>?_,λi v P=>pk f P,by rw[zH,l];exact W _ N,λC T t k=>?_⟩
  .show b < (s.heap.push _).objs.size;rw[xK];simp?[zQ,yF,xV] at B;rcases B with rfl|rfl
   .exact kP _
   .exact jP R
  .refine⟨.int ns.sum,H,I.kept (t':=T) λb m e=>k b m (by simp;exact yS (zY e)) (zU _ e),⟨t,?_⟩,q⟩;rw[zH,l,Z]
def CL:Γ D->Δ D:=λd=>(eK d).bind λe=>(intsOf e).bind λn=>if LD n=true then ↑(.int n.sum) else none
def fI{K:Φ}:∀ {ns:Γ Int}{vs:Γ V},ak K H (ns.map PyData.int) vs->vs=ns.map V.int
 | [],vs,h=>h.nil_inv
 | b::s,vs,h=>by
  let⟨v,r,rfl,a,c⟩:=h.cons_inv;simp?[Rep] at a;rw[a,fI c];rfl
def Lv(hc:X.calm=true)(B:ou X "sum" (.builtin "sum"))(i:starEach [e] X.env=(false,eval e X.env)::starEach [] X.env)(A:DA X [e] fs):DE X (.Call (.Name "sum" p) [e] [] pos) (bp CL fs) :=
 j9 (AY hc) (by
  intro F H D V d Q s r g q;let⟨S,c,g⟩:=bs g;let⟨n,f,g⟩:=bs g;have g:(if LD n=true then ↑(PyData.int n.sum) else none)=↑d:=g;split at g
  .rename_i K;cases g;have E:=cY f;subst E;rcases kh c with rfl|rfl
   all_goals
    let⟨v,j,rfl,a,b⟩:=r.cons_inv;rw[b.nil_inv];simp?[Rep] at a;let⟨p,u,rfl,h,R⟩:=a;have:=fI R;subst this
   .exact⟨p,n,rfl,.inr (ax s h),K,q _ H F (.refl s) (by simp[Rep])⟩
   .exact⟨p,n,rfl,.inl (s.seq h),K,q _ H F (.refl s) (by simp[Rep])⟩
  .cases g) B A (by decide) (by decide) i rfl
def MH(i:Int):Θ->θ|.int a _=>a == i|_=>false
def CO:Oe X "list.index" (λx vs H Q=>∃ (l:Ψ) (ns:Γ Int) (i:Int) (j:Nat),x=.ref l/\vs=[.int i]/\iw X.K H l (ns.map V.int)/\ns[j]?=↑i/\(∀m,m < j->ns[m]?≠some i)/\Q (.int j) H):=by
 intro p s N H x vs v G Q I B w h;let⟨l,ns,i,j,rfl,rfl,g,b,Y,q⟩:=h;cases B;let⟨u,rfl,R⟩:=w.one;let⟨t,rfl⟩:=R;let⟨S,r,P,z⟩:=I.list g;let⟨⟨C,f,d,E⟩,o,hc,n,D⟩:=id P.isList;simp only at hc D;subst hc D;have L:S.length=ns.length:=by rw[<- r.length,zD]
 have Z:j < ns.length:=(List.getElem?_eq_some_iff.mp b).1;have U:ns.length<=sizeLine:=by rw[zD] at z;exact z
 have A:(sizeLine:Nat) < 2 ^ 62:=by decide
 have a:∀m (M:m < S.toArray.size),∃T,S.toArray[m]=.int (ns.getD m 0) T:=λm M=>pk r (kA M);refine qY F.slot_list_index ⟨_,o,rfl⟩ F.entry_list_index (F.args_list_index_2 _ _) (PySem.SeqAt.list_indexAt l S.toArray n f E (.int i t) (MH i) j (by rw[zH,L];exact Z) (by lia) ?_ ?_) ⟨o,?_,?_⟩
 .let⟨T,e⟩:=a j (by rw[zH,L];exact Z);rw[e,MH,zG,b];simp
 .intro m M J;let⟨T,e⟩:=a m M;have c:m < ns.length:=by lia
  have:=Y m J;rw[e,MH,zG];rw[zK c] at this ⊢;simp?[qH,beq_eq_false_iff_ne];exactλh=>this (by rw[h])
 .intro y k;let⟨m,M,rfl⟩:=Array.getElem_of_mem k;let⟨T,e⟩:=a m M;rw[e];exact PySem.SeqAt.EqAt.int_int _ _ _ _
 .exact⟨.int j,H,I.tok _,⟨_,rfl⟩,q⟩
def we(i:Int):Γ Int->Δ Nat
 | []=>none
 | n::s=>if n=i then ↑0 else (we i s).map (·+1)
def nO:∀ {ns:Γ Int}{j:Nat},we i ns=↑j->ns[j]?=↑i/\∀m,m < j->ns[m]?≠some i
 | [],j,h=>by cases h
 | n::ns,j,h=>by
  unfold we at h;split at h
  .cases h;rename_i e;exact⟨by rw[e];rfl,λm H=>absurd H (vS _)⟩
  .rename_i e;let⟨k,K,rfl⟩:=ag h;let⟨a,b⟩:=nO K;refine⟨by simpa using a,λm H=>?_⟩;cases m with
   | zero=>simpa using e
   | succ m=>simpa using b m (by lia)
def OY:D->D->Δ D
 | .list e,.int i=>(intsOf e).bind λn=>(we i n).map λj=>.int ((j:Nat):Int)
 | _,_=>none
def EJ{O:Env->Δ D}(S:attributeBase o "index" X.env (eval o X.env)=eval o X.env)
  (K:((backTo U (starEach [e] X.env)).all (λx=>!x.1)&&(backToKw U (keywordEach [] X.env)).all (λx=>x.1.isSome)&&decide ([e].length+([]:Γ Keyword).length+(if ([]:Γ Keyword).isEmpty then 0 else 1) < 30))=true)
  (s:(apos.endLine == U.line)=true) (hs:starEach [e] X.env=(false,eval e X.env)::starEach [] X.env) (C:DE X o O) (B:DE X e fe):DE X (.Call (.Attribute o "index" apos) [e] [] U) (f2 OY O fe) :=
 aW (yg qP PySem.F.slot_list_index PySem.F.type_list_index CO C (dg B iR hs) S K s hs rfl) λZ H Q z=>by
  let⟨p,m,d,M,E,f,q⟩:=z;let⟨x,I,f⟩:=bs f;let⟨y,Y,g⟩:=bs f;refine⟨p,m,x,M,E,I,λV L t G r=>?_⟩;cases x<;>try cases g
  cases y<;>try cases g
  rename_i P i;let⟨N,w,g⟩:=bs g;let⟨j,A,rfl⟩:=ag g;have v:=cY w;subst v;simp?[Rep] at r;let⟨l,T,rfl,k,J⟩:=r;have:=fI J;subst this;refine⟨.inl ⟨rfl,_,G.fh.seq k⟩,t,m,.int i,G.fh,E.mono G.ff,Y,λW n u c R=>?_⟩;simp?[Rep] at R;let⟨a,b⟩:=nO A;exact⟨l,N,i,j,rfl,by rw[R],c.fh.seq (c.ff.seq k),a,b,q _ n u (G.trans c) (by simp[Rep])⟩
end Dl
namespace Sx
open PySem
variable {j:Nat}
def RG:∀ {l m:Γ Nat},l.Nodup->(∀x∈l,x∈m)->l.length<=m.length
 | [],m,_,_=>xW _
 | x::l,m,n,s=>by
  rw[kX] at n;let⟨M,a,rfl⟩:=List.append_of_mem (s x zE);have:=RG (m:=M++a) n.2 λy H=>by
   have:=s y (zC _ H);rw[List.mem_append,zQ] at this;rw[List.mem_append];rcases this with h|rfl|h
   .exact .inl h
   .exact absurd H n.1
   .exact .inr h
  simp?[zN,zL] at this ⊢;lia
def sm:Nat->Nat
 | 0=>0
 | n+1=>5 ^ n+sm n
def Ya:∀n,4 * sm n+1=5 ^ n
 | 0=>rfl
 | n+1=>by have:=Ya n;rw[sm,Nat.pow_succ];lia
def Yb(e:Nat):sm (2 * e)=2 * (sm e * (2 * sm e+1)):=by
 have H:=Ya (2 * e);have a:=Ya e;have b:5 ^ (2 * e)=(4 * sm e+1) * (4 * sm e+1):=by rw[Nat.two_mul,Nat.pow_add,a]
 rw[b] at H;have E:(4 * sm e+1) * (4 * sm e+1)=16 * (sm e * sm e)+8 * sm e+1:=by
  simp?[Nat.add_mul,Nat.mul_add,Nat.one_mul,Nat.mul_one];rw[show 4 * sm e * (4 * sm e)=16 * (sm e * sm e) by rw[Nat.mul_mul_mul_comm]];lia
 have c:2 * (sm e * (2 * sm e+1))=4 * (sm e * sm e)+2 * sm e:=by
  rw[Nat.mul_add,Nat.mul_one,Nat.mul_left_comm];lia
 lia
def VJ:∀n,sm n % 2=n % 2
 | 0=>rfl
 | n+1=>by
  have:=VJ n;have h:=Ya n;rw[sm];lia
def Um(k a:Nat):Nat.Coprime (2 ^ k) (2 * a+1):=by
 refine Nat.Coprime.pow_left k ?_;rw[Nat.coprime_comm];have:Nat.gcd (2 * a+1) 2=Nat.gcd 1 2:=by
  rw[Nat.gcd_comm,Nat.gcd_rec,show (2 * a+1) % 2=1 by lia]
 exact this.trans rfl
def VL:∀ (k d:Nat),2 ^ k ∣ sm d->2 ^ k ∣ d
 | 0,d,_=>⟨d,by simp⟩
 | k+1,d,h=>by
  have o:=VJ d;have s:sm d % 2=0:=by
   let⟨c,hc⟩:=h;rw[hc,Nat.pow_succ,Nat.mul_right_comm,Nat.mul_mod_left]
  obtain⟨e,rfl⟩:∃e,d=2 * e:=⟨d / 2,by lia⟩
  rw[Yb,Nat.pow_succ,Nat.mul_comm (2 ^ k)] at h;have H:=Nat.dvd_of_mul_dvd_mul_left (by decide) h;have a:=(Um k (sm e)).dvd_of_dvd_mul_right H;rw[Nat.pow_succ,Nat.mul_comm];exact Nat.mul_dvd_mul_left 2 (VL k e a)
def it(M:Nat):Nat->Nat->Nat
 | 0,x=>x
 | n+1,x=>it M n ((5 * x+1) % M)
def Uo(M:Nat):∀n x,it M n x % M=(5 ^ n * x+sm n) % M
 | 0,x=>by simp[it,sm]
 | n+1,x=>by
  rw[it,Uo M n,sm,Nat.pow_succ];rw[Nat.add_mod,Nat.mul_mod,Nat.mod_mod,<- Nat.mul_mod,<- Nat.add_mod]
  congr 1
  rw[Nat.mul_add,Nat.mul_one,Nat.mul_assoc];lia
def Xd{M:Nat}(H:0 < M):∀n x,x < M->it M n x < M
 | 0,x,h=>h
 | n+1,x,h=>Xd H n _ (Nat.mod_lt _ H)
def ZJ{k:Nat}{x m d:Nat}(D:0 < d)(hl:d < 2 ^ k):it (2 ^ k) m x % 2 ^ k≠it (2 ^ k) (m+d) x % 2 ^ k:=by
 intro h;rw[Uo,Uo] at h;have a:=Ya m;have b:=Ya d;have c:=Ya (m+d);have e:5 ^ (m+d)=5 ^ m * 5 ^ d:=Nat.pow_add ..;have f:5 ^ (m+d) * x+sm (m+d)=(5 ^ m * x+sm m)+5 ^ m * (sm d * (2 * (2 * x)+1)):=by
  have g:5 ^ (m+d)=5 ^ m * (4 * sm d)+5 ^ m:=by rw[e,<- b,Nat.mul_add,Nat.mul_one]
  have G:sm (m+d)=5 ^ m * sm d+sm m:=by
   rw[g] at c;have:5 ^ m * (4 * sm d)=4 * (5 ^ m * sm d):=Nat.mul_left_comm ..;lia
  rw[g,G,Nat.add_mul];have i:5 ^ m * (4 * sm d) * x=5 ^ m * (sm d * (2 * (2 * x))):=by
   rw[Nat.mul_assoc]
   congr 1
   rw[Nat.mul_assoc,Nat.mul_left_comm]
   congr 1
   lia
  rw[i,Nat.mul_add,Nat.mul_add,Nat.mul_one];lia
 rw[f] at h;have H:2 ^ k ∣ 5 ^ m * (sm d * (2 * (2 * x)+1)):=by
  have:=(Nat.sub_mod_eq_zero_of_mod_eq h.symm)
  rw[Nat.add_sub_cancel_left] at this;exact Nat.dvd_of_mod_eq_zero this
 have j:Nat.Coprime (2 ^ k) (5 ^ m):=by rw[<- a];exact (show 4 * sm m+1=2 * (2 * sm m)+1 by lia) ▸ Um k _
 have l:=(Um k (2 * x)).dvd_of_dvd_mul_right (j.dvd_of_dvd_mul_left H);have n:=Nat.le_of_dvd D (VL k d l);lia
def Yc{k x j:Nat}(X:x < 2 ^ k)(J:j < 2 ^ k):∃n,n < 2 ^ k/\it (2 ^ k) n x=j:=by
 have M:0 < 2 ^ k:=Nat.two_pow_pos k;by_cases h:j∈(List.range (2 ^ k)).map λn=>it (2 ^ k) n x
 .let⟨n,N,e⟩:=List.mem_map.mp h;exact⟨n,List.mem_range.mp N,e⟩
 .exfalso;have E:∀a b,a < b->b < 2 ^ k->it (2 ^ k) a x≠it (2 ^ k) b x:=λa b R B e=>by
   have:=ZJ (k:=k) (x:=x) (m:=a) (d:=b - a) (by lia) (by lia);rw[show a+(b - a)=b by lia,e] at this;exact this rfl
  have D:((List.range (2 ^ k)).map λn=>it (2 ^ k) n x).Nodup:=by
   rw[List.nodup_iff_pairwise_ne,jF];exact List.pairwise_lt_range.imp_of_mem λA B R=>E _ _ R (List.mem_range.mp B)
  have:=RG (l:=j::(List.range (2 ^ k)).map λn=>it (2 ^ k) n x) (m:=List.range (2 ^ k)) (List.nodup_cons.mpr ⟨h,D⟩) λy H=>by
   rw[zS];rcases List.mem_cons.mp H with rfl|H
   .exact J
   .let⟨n,_,rfl⟩:=List.mem_map.mp H;exact Xd M n x X
  rw[zL,zD,zR] at this;lia
def run(mask:Nat):Nat->Nat×Nat->Nat×Nat
 | 0,z=>z
 | n+1,z=>run mask n (SetTable.leap mask z.1 z.2)
def UK(mask:Nat):∀a b z,run mask (a+b) z=run mask b (run mask a z)
 | 0,b,z=>by rw[jE];rfl
 | a+1,b,z=>by rw[show a+1+b=a+b+1 by lia];exact UK mask a b _
def Tq(mask:Nat):∀n z,(run mask n z).2=z.2 / 32 ^ n
 | 0,z=>by simp[run]
 | n+1,z=>by rw[run,Tq mask n];show z.2 / 32 / 32 ^ n=_;rw[Nat.div_div_eq_div_mul,Nat.pow_succ,Nat.mul_comm]
def Ts(mask:Nat):∀n i,run mask n (i,0)=(it (mask+1) n i,0)
 | 0,i=>rfl
 | n+1,i=>by
  rw[run,it];have:SetTable.leap mask i 0=((5 * i+1) % (mask+1),0):=by unfold SetTable.leap;simp[Nat.mul_comm]
  rw[this];exact Ts mask n _
def VM(mask:Nat):∀n z,0 < n->(run mask n z).1 < mask+1
 | 1,z,_=>Nat.mod_lt _ (Nat.succ_pos _)
 | n+2,z,_=>VM mask (n+1) _ (Nat.succ_pos _)
def reach{mask k j:Nat}(K:mask+1=2 ^ k){z:Nat×Nat}(p:z.2 < 2 ^ 64)(J:j<=mask):∃n,n < mask+14/\(run mask n z).1=j:=by
 have a:(run mask 13 z).2=0:=by
  rw[Tq];exact Nat.div_eq_of_lt (wU p (by decide))
 have H:=VM mask 13 z (by decide);rw[K] at H;let⟨n,N,e⟩:=Yc H (show j < 2 ^ k by lia);refine⟨13+n,by lia,?_⟩;rw[UK,show run mask 13 z=((run mask 13 z).1,0) from Prod.ext rfl a,Ts,K];exact e
end Sx
namespace Tx
open PySem PySem.SeqAt PyProof.Rows
open PySem.AutoSeq1 (wpAny_loadPart')
open PySem.MeetsSeq PySem.MeetsSeq2 PySem.MeetsSeq3
def wpR(f:Nat->β->Sem (ForInStep β))(I:Γ Nat->β->Ξ->Prop)(Q:β->Ξ->Prop)
  (turn:∀x rest b s,I (x::rest) b s->wpAny M A (f x b) (λr s'=>match r with|.yield B=>I rest B s'|.done B=>Q B s') E s)
  (fin:∀b s,I [] b s->Q b s) (n:Nat) (b:β) (h:I (List.range' 0 n 1) b s):wpAny M A (forIn [:n] b f) Q E s:=by
 have e:forIn [:n] b f=forIn (List.range' 0 n 1) b f:=by
  rw[Std.Legacy.Range.forIn_eq_forIn_range'];simp[Std.Legacy.Range.size]
 rw[e];exact wpAny_forIn_list f I Q turn fin _ b h
def SA(l:Ψ)(I:Array Θ)(n:Nat)(D:Δ Ψ)(u:Array (Δ Θ))(x:Θ)(e:Θ->θ)(j:Nat)(J:j < I.size)(H:e I[j]=true)(k:∀m (M:m < I.size),m < j->e I[m]=false) :
  Meets (Builtin.«tuple.index» ⟨[.ref l,x],[]⟩)
   (λA R s=>s.heap.get? l=some { cls:=.type "tuple",dict:=D,data:=.seq I n,slots:=u }/\(∀y,y∈I->EqAt A.in1 s y x (e y))/\R (.ok (.ret (.int (j:Nat) s.toks))) { s with toks:=s.toks+1 }) :=
 .of_wp λp w A R s h=>by
  let⟨P,g,d,T,O⟩:=s;let⟨L,o,h⟩:=h
  wp_walk using wpAny_loadPart' L,wpR _ (λr b S=>S=⟨P,g,d,T,O⟩/\b.1=none/\∃i,i<=j/\r=List.range' i (I.size - i) 1) _
  case turn =>
   rintro i r b S ⟨rfl,B,a,t,E⟩;have Q:a < I.size:=by lia
   rw[show I.size - a=(I.size - (a+1))+1 by lia,vI] at E;injection E with c f
   subst c;subst f;simp?[kA Q];refine zV (o _ (Array.getElem_mem Q) p w _ _ ?_);by_cases q:i=j
   .subst q;rw[H]
    wp_walk
    exact⟨_,rfl,h⟩
   .rw[k i Q (by lia)]
    wp_walk
    exact⟨rfl,rfl,i+1,by lia,rfl⟩
  case fin =>
   rintro b S ⟨rfl,B,i,t,E⟩;have:=jD List.length E;simp at this;lia
  case h =>
   exact⟨rfl,rfl,0,xW _,by simp⟩
end Tx
namespace Dl
open PySem L2 PySem.Spec PyProof.Rows
def Dq:Oe X "tuple.index" (λx vs H Q=>∃ (l:Ψ) (ns:Γ Int) (i:Int) (j:Nat),x=.ref l/\vs=[.int i]/\f9 X.K H l (ns.map V.int)/\ns[j]?=↑i/\(∀m,m < j->ns[m]?≠some i)/\Q (.int j) H):=by
 intro p s E H x vs v U Q I A w h;let⟨l,ns,i,j,rfl,rfl,g,b,Y,q⟩:=h;cases A;let⟨u,rfl,R⟩:=w.one;let⟨t,rfl⟩:=R;let⟨S,r,P,C⟩:=I.tuple g;let⟨⟨c,f,d,B⟩,o,hc,n,D⟩:=id P;simp only at hc D;subst hc D;have L:S.length=ns.length:=by rw[<- r.length,zD]
 have Z:j < ns.length:=(List.getElem?_eq_some_iff.mp b).1;have a:∀m (M:m < S.toArray.size),∃T,S.toArray[m]=.int (ns.getD m 0) T:=λm M=>pk r (kA M);refine qY F.slot_tuple_index ⟨_,o,rfl⟩ F.entry_tuple_index (F.args_tuple_index_2 _ _) (Tx.SA l S.toArray n f B (.int i t) (MH i) j (by rw[zH,L];exact Z) ?_ ?_) ⟨o,?_,?_⟩
 .let⟨T,e⟩:=a j (by rw[zH,L];exact Z);rw[e,MH,zG,b];simp
 .intro m M J;let⟨T,e⟩:=a m M;have z:m < ns.length:=by
   rw[zH] at M;lia
  have:=Y m J;rw[e,MH,zG];rw[zK z] at this ⊢;simp?[qH,beq_eq_false_iff_ne];exactλh=>this (by rw[h])
 .intro y k;let⟨m,M,rfl⟩:=Array.getElem_of_mem k;let⟨T,e⟩:=a m M;rw[e];exact PySem.SeqAt.EqAt.int_int _ _ _ _
 .exact⟨.int j,H,I.tok _,⟨_,rfl⟩,q⟩
def Ka(h:PE X e t)(g:PE X e u):PE X e (λσ H Q=>t σ H Q\/u σ H Q):=λp s σ H Q I q=>q.elim (h p s σ H Q I) (g p s σ H Q I)
def oW:D->D->Δ D
 | .list e,.int i=>(intsOf e).bind λn=>(we i n).map λj=>.int ((j:Nat):Int)
 | .tuple e,.int i=>(intsOf e).bind λn=>(we i n).map λj=>.int ((j:Nat):Int)
 | _,_=>none
def Cy{O:Env->Δ D}(S:attributeBase o "index" X.env (eval o X.env)=eval o X.env)
  (R:((backTo U (starEach [e] X.env)).all (λx=>!x.1)&&(backToKw U (keywordEach [] X.env)).all (λx=>x.1.isSome)&&decide ([e].length+([]:Γ Keyword).length+(if ([]:Γ Keyword).isEmpty then 0 else 1) < 30))=true)
  (p:(apos.endLine == U.line)=true) (hs:starEach [e] X.env=(false,eval e X.env)::starEach [] X.env) (s:DE X o O) (r:DE X e fe):DE X (.Call (.Attribute o "index" apos) [e] [] U) (f2 oW O fe) :=
 aW (Ka (EJ S R p hs s r) (yg PySem.F.plainAttrs_tuple PySem.F.slot_tuple_index PySem.F.type_tuple_index Dq s (dg r iR hs) S R p hs rfl)) λZ H Q z=>by
  let⟨n,m,d,M,E,k,q⟩:=z;let⟨x,t,k⟩:=bs k;let⟨y,Y,g⟩:=bs k;cases x<;>try cases g
  .cases y<;>try cases g
   rename_i I i;exact .inl ⟨n,m,d,M,E,by simp?[f2,t,Y,zA];exact g,q⟩
  .cases y<;>try cases g
   rename_i I i;let⟨N,J,g⟩:=bs g;let⟨j,K,rfl⟩:=ag g;have C:=cY J;subst C;refine .inr ⟨n,m,_,M,E,t,λV P A G u=>?_⟩;simp?[Rep] at u;let⟨l,T,rfl,c,L⟩:=u;have:=fI L;subst this;refine⟨?_,A,m,.int i,G.fh,E.mono G.ff,Y,λW w B f v=>?_⟩
   .first|exact .inr (.inl ⟨rfl,_,ax G.fh c⟩)|exact .inl ⟨rfl,_,ax G.fh c⟩|exact .inr ⟨rfl,_,ax G.fh c⟩
   .simp?[Rep] at v;let⟨a,b⟩:=nO K;exact⟨l,N,i,j,rfl,by rw[v],ax f.fh (ax f.ff c),a,b,q _ w B (G.trans f) (by simp[Rep])⟩
end Dl
namespace Zp
open PySem PyProof.Rows
def Rl(b:θ)(h:ι)(i l:Ψ)(k:Nat):Prop:=match b with|true=>h.IsTupleIter i l k|false=>h.IsListIter i l k
def Rt(b:θ)(h:ι)(l:Ψ)(xs:Array Θ):Prop:=match b with|true=>h.IsTuple l xs|false=>h.IsList l xs
def Rl.obj(x:Rl b h it l k):∃o,h.get? it=↑o/\∀v,o.data≠.cell v:=by
 cases b
 .let⟨o,e,_,d⟩:=(show h.IsListIter it l k from x);exact⟨o,e,λv q=>by rw[d] at q;cases q⟩
 .let⟨o,e,_,d⟩:=(show h.IsTupleIter it l k from x);exact⟨o,e,λv q=>by rw[d] at q;cases q⟩
def Rl.at(x:Rl b h it l k)(e:∀o,h.get? it=↑o->h'.get? it=↑o):Rl b h' it l k:=by
 cases b
 .exact Heap.IsListIter.at x e
 .exact Heap.IsTupleIter.at x e
def Rl.extBut(x:Rl b h it l k)(e:Heap.ExtBut a h h')(n:it≠a):Rl b h' it l k:=x.at λo q=>e it o n q
def Rt.at(x:Rt b h l xs)(e:∀o,h.get? l=↑o->h'.get? l=↑o):Rt b h' l xs:=by
 cases b
 .let⟨o,q,r⟩:=(show h.IsList l xs from x);exact⟨o,e o q,r⟩
 .let⟨o,q,r⟩:=(show h.IsTuple l xs from x);exact⟨o,e o q,r⟩
def Rt.extBut(x:Rt b h l xs)(e:Heap.ExtBut a h h')(n:l≠a):Rt b h' l xs:=x.at λo q=>e l o n q
section
def nxt(J:Rl b s.heap j t k)(ht:Rt b s.heap t its)(V:its[k]?=↑v)
  (H:∀g,Rl b g j t (k+1)->Heap.SameBut j s.heap g->Q v { s with heap:=g }):wpAny (model prog w) A (Builtin.SmallTypes.nextOf (.ref j)) Q E s:=by
 cases b
 .exact wpAny_nextOf_list_item J ht V H
 .exact En.Ug J ht V H
def WD{Q:Θ->Ξ->Prop}(a:A.handled=none)(J:Rl b s.heap j t k)(ht:Rt b s.heap t its)(v:its[k]?=none)
  (H:∀g x,Heap.ExtBut j s.heap g->(∃o,g.get? x=↑o/\o.cls=.type "StopIteration")->E (.ref x) { s with heap:=g }):wpAny (model prog w) A (Builtin.SmallTypes.nextOf (.ref j)) Q E s:=by
 cases b
 .exact wpAny_nextOf_list_end a J ht v H
 .exact En.U6 a J ht v H
structure ZS(QT Q4:Bool)(h₀ h:Heap)(z TI TO i j l m:Addr)(xs ys:Array Value)(f:Value)(p q:Nat)(a b:Value):Prop where
 zo:IsZip h z TI TO f
 ti:IsPair h TI (.ref i) (.ref j)
 to:IsPair h TO a b
 wi:Rl QT h i l p
 wj:Rl Q4 h j m q
 sl:Rt QT h l xs
 sm:Rt Q4 h m ys
 kp:∀c o,c≠z->c≠TO->c≠i->c≠j->h₀.get? c=↑o->h.get? c=↑o
 sz:h.objs.size=h₀.objs.size
section
variable {z TI TO i j l m:Ψ}
def ZS.fl(Z:ZS U Q4 h₀ h z TI TO i j l m xs ys f p q a b)(D:ZipApart z TI TO i j l m)(e:IsZip g z TI TO f')(t:Heap.SameBut z h g):ZS U Q4 h₀ g z TI TO i j l m xs ys f' p q a b :=
 ⟨e,t.extBut _ _ D.TIz Z.ti,t.extBut _ _ D.TOz Z.to,Z.wi.extBut t.extBut D.i1z,Z.wj.extBut t.extBut D.i2z,Z.sl.extBut t.extBut D.l1z,Z.sm.extBut t.extBut D.l2z,λc o n N d k r=>t.extBut _ _ n (Z.kp c o n N d k r),t.1.trans Z.sz⟩
def ZS.fst(Z:ZS U Q4 h₀ h z TI TO i j l m xs ys f p q a b)(D:ZipApart z TI TO i j l m)(e:Rl U g i l (p+1))(t:Heap.SameBut i h g):ZS U Q4 h₀ g z TI TO i j l m xs ys f (p+1) q a b :=
 ⟨t.extBut _ _ D.i1z.symm Z.zo,t.extBut _ _ D.TIi1 Z.ti,t.extBut _ _ D.TOi1 Z.to,e,Z.wj.extBut t.extBut D.i12.symm,Z.sl.extBut t.extBut D.l1i1,Z.sm.extBut t.extBut D.l2i1,λc o N d n k r=>t.extBut _ _ n (Z.kp c o N d n k r),t.1.trans Z.sz⟩
def ZS.snd(Z:ZS U Q4 h₀ h z TI TO i j l m xs ys f p q a b)(D:ZipApart z TI TO i j l m)(e:Rl Q4 g j m (q+1))(t:Heap.SameBut j h g):ZS U Q4 h₀ g z TI TO i j l m xs ys f p (q+1) a b :=
 ⟨t.extBut _ _ D.i2z.symm Z.zo,t.extBut _ _ D.TIi2 Z.ti,t.extBut _ _ D.TOi2 Z.to,Z.wi.extBut t.extBut D.i12,e,Z.sl.extBut t.extBut D.l1i2,Z.sm.extBut t.extBut D.l2i2,λc o N d k n r=>t.extBut _ _ n (Z.kp c o N d k n r),t.1.trans Z.sz⟩
def ZS.put(Z:ZS U Q4 h₀ h z TI TO i j l m xs ys f p q a b)(D:ZipApart z TI TO i j l m)(e:IsPair g TO x y)(t:Heap.SameBut TO h g):ZS U Q4 h₀ g z TI TO i j l m xs ys f p q x y :=
 ⟨t.extBut _ _ D.TOz.symm Z.zo,t.extBut _ _ D.TITO Z.ti,e,Z.wi.extBut t.extBut D.TOi1.symm,Z.wj.extBut t.extBut D.TOi2.symm,Z.sl.extBut t.extBut D.l1TO,Z.sm.extBut t.extBut D.l2TO,λc o N n d k r=>t.extBut _ _ n (Z.kp c o N n d k r),t.1.trans Z.sz⟩
end
variable {z TI TO i j l m:Ψ}
def ZK{Q:Θ->Ξ->Prop}(T:A.handled=none)(D:ZipApart z TI TO i j l m)(Z:ZS U Q4 s.heap s.heap z TI TO i j l m xs ys .none p q a b)
  (I:∀x y g g',xs[p]?=↑x->ys[q]?=↑y->ZS U Q4 s.heap g z TI TO i j l m xs ys .ellipsis (p+1) (q+1) x y->IsZip g' z TI TO (rawInt g.objs.size) ->
   Heap.SameBut z (g.push { cls:=.type "tuple",data:=.seq #[x,y] }) g'->Q (.ref g.objs.size) { s with heap:=g' })
  (O:(xs[p]?=none\/ys[q]?=none)->∀g e,(∀c o,c≠z->c≠TO->c≠i->c≠j->s.heap.get? c=↑o->g.get? c=↑o)->(∃o,g.get? e=↑o/\o.cls=.type "StopIteration")->E (.ref e) { s with heap:=g }) :
  wpAny (model prog w) A (Builtin.«zip.__next__» ⟨[.ref z],[]⟩) (λr s'=>∃v,r=.done (.ret v)/\Q v s') E s:=by
 have S:∀ {B G:ι}{e:Ψ}{c:Ψ}{p' q':Nat}{N P:Θ},ZS U Q4 s.heap B z TI TO i j l m xs ys .ellipsis p' q' N P->(c=i\/c=j)->(xs[p]?=none\/ys[q]?=none)->Heap.ExtBut c B G ->
   (∃o,G.get? e=↑o/\o.cls=.type "StopIteration")->wpAny (model prog w) A (setField (.ref z) 0 Value.none) (λ_ t=>E (.ref e) t) E { s with heap:=G }:=by
  intro B G e c p' q' N P Y hc hv k ⟨o,L,ht⟩;have cz:z≠c:=hc.elim (λe=>e ▸ D.i1z.symm) λe=>e ▸ D.i2z.symm;have M:IsZip G z TI TO .ellipsis:=k _ _ cz Y.zo;refine kZ M (by simp) λR _ t=>O hv R e (λd u V n2 W X r=>t.extBut _ _ V (k _ _ ?_ (Y.kp d u V n2 W X r))) ⟨o,t.extBut _ _ ?_ L,ht⟩
  .exact hc.elim (λe=>e ▸ W) λe=>e ▸ X
  .rintro rfl;rw[M] at L;cases L;simp at ht
 show wpAny _ _ (field (.ref z) 2 >>= _) _ _ _;refine zV (qU Z.zo rfl (x:=.bool false) rfl (zV (qU Z.zo rfl (x:=.ref TI) rfl (zV (kK Z.ti rfl (zV (m:=Builtin.SmallTypes.ownedTupleIsFree _) ?_))))));refine zV (qU Z.zo rfl (x:=.none) rfl (zW ?_));rw[yM rfl];refine zV (wI (zV (qU Z.zo rfl (x:=.ref TO) rfl (zV (kZ Z.zo (by simp) λB e1 t1=>?_)))));have f:=Z.fl D (f':=.ellipsis) e1 t1;refine zV ?_;simp?[List.zipIdx_cons,List.zipIdx_nil,List.forIn_cons,List.forIn_nil];refine zV (zV (wpAny_onRaise (zV (m:=Builtin.SmallTypes.nextOf _) ?_)));cases H:xs[p]? with
 | none=>exact WD T f.wi f.sl H λG e k o=>S f (.inl rfl) (.inl H) k o
 | some x =>
 refine nxt f.wi f.sl H λG e2 t2=>zW ?_;have F:=f.fst D e2 t2;refine zV (kK F.to rfl (zV (wpAny_updateSeq_pair F.to λR e3 t3=>zV (wpAny_letGo (zW ?_)))));have n:=F.put D (x:=x) (y:=b) e3 t3;refine zV (zV (wpAny_onRaise (zV (m:=Builtin.SmallTypes.nextOf _) ?_)));cases C:ys[q]? with
 | none=>exact WD T n.wj n.sm C λg4 e k o=>S n (.inr rfl) (.inr C) k o
 | some y =>
 refine nxt n.wj n.sm C λg4 e4 t4=>zW ?_;have J:=n.snd D e4 t4;refine zV (kK J.to rfl (zV (wpAny_updateSeq_pair J.to λg5 e5 t5=>zV (wpAny_letGo (zW (zW ?_))))));have K:=J.put D (x:=x) (y:=y) e5 t5;refine zV (kK K.to rfl (zV (wpAny_newTuple (zV (m:=Builtin.SmallTypes.ownedTupleHandOut _ _) ?_))));refine zV (kZ (zU _ K.zo) (by simp) λg6 e6 t6=>kZ e6 (by simp) λg7 e7 t7=>zW ⟨_,rfl,?_⟩);exact I x y g5 g7 H C K e7 (t6.trans t7)
def ZL(B:A.handled=none)(D:ZipApart z TI TO i j l m)
  (v:IsZip s.heap z TI TO .none) (O:IsPair s.heap TI (.ref i) (.ref j)) (R:IsPair s.heap TO a b)
  (P:Rl U s.heap i l p) (M:Rl Q4 s.heap j m q) (S:Rt U s.heap l xs) (V:Rt Q4 s.heap m ys) (X:xs[p]?=↑x) (d:ys[q]?=↑y)
  (K:∀g,IsZip g z TI TO (rawInt s.heap.objs.size)->IsPair g TO x y->Rl U g i l (p+1)->Rl Q4 g j m (q+1)->IsPair g s.heap.objs.size x y->g.objs.size=s.heap.objs.size+1 ->
   (∀c o,c≠z->c≠TO->c≠i->c≠j->s.heap.get? c=↑o->g.get? c=↑o)->Q (↑(.ref s.heap.objs.size)) { s with heap:=g }) :
  wpAny (model prog w) A (pyNext (.ref z)) Q E s:=by
 have T:s.TypeIs (.ref z) "zip":=⟨_,v,rfl⟩
 have Z:ZS U Q4 s.heap s.heap z TI TO i j l m xs ys .none p q a b:=⟨v,O,R,P,M,S,V,λ_ _ _ _ _ _ e=>e,rfl⟩
 refine zV (kU (qD (name:=Str.ofString "__next__") T vX (qX vX T F.entry_zip_next (ZK B D Z ?_ ?_) (F.args_zip_next_1 _))))
 .intro W y' g G H k Y f t;rw[X] at H;rw[d] at k;cases H;cases k;rw[Y.sz] at f ⊢;have L:=zY Y.zo;have u:∀c o,c≠z->g.get? c=↑o->G.get? c=↑o:=λc o n e=>t.extBut _ _ n (zU _ e);refine zW (K G f (u _ _ D.TOz Y.to) (Y.wi.at λo e=>u _ _ D.i1z e) (Y.wj.at λo e=>u _ _ D.i2z e) ?_ (by rw[t.1,xK,Y.sz]) λc o r C I J e=>u c o r (Y.kp c o r C I J e));rw[<- Y.sz];exact t.extBut _ _ (jJ L) (zX _ rfl)
 .intro N;rw[X,d] at N;rcases N with N|N<;>cases N
def Yd(H:A.handled=none)(D:ZipApart z TI TO i j l m)
  (d:IsZip s.heap z TI TO .none) (I:IsPair s.heap TI (.ref i) (.ref j)) (r:IsPair s.heap TO a b)
  (P:Rl U s.heap i l p) (f:Rl Q4 s.heap j m q) (R:Rt U s.heap l xs) (u:Rt Q4 s.heap m ys) (S:xs[p]?=none\/ys[q]?=none)
  (k:∀g,(∀c o,c≠z->c≠TO->c≠i->c≠j->s.heap.get? c=↑o->g.get? c=↑o)->Q none { s with heap:=g }):wpAny (model prog w) A (pyNext (.ref z)) Q E s:=by
 have t:s.TypeIs (.ref z) "zip":=⟨_,d,rfl⟩
 have Z:ZS U Q4 s.heap s.heap z TI TO i j l m xs ys .none p q a b:=⟨d,I,r,P,f,R,u,λ_ _ _ _ _ _ e=>e,rfl⟩
 refine zV (kU (qD (name:=Str.ofString "__next__") t vX (qX vX t F.entry_zip_next (ZK H D Z ?_ ?_) (F.args_zip_next_1 _))))
 .intro x y g G X Y;rw[X,Y] at S;rcases S with n|n<;>cases n
 .rintro _ g e K ⟨o,O,ht⟩;exact zV (wpAny_isInstance (T:="StopIteration") (b:=true) ⟨o,O,ht⟩ isSubtype_stop (zW (k _ K)))
end
abbrev ZM(b:θ)(l:Ψ):Obj:={ cls:=.type (if b then "tuple_iterator" else "list_iterator"),data:=.fields #[.ref l,.int 0 0] }
abbrev z1(b:θ)(h:ι)(l:Ψ):ι:=h.push (ZM b l)
abbrev z2(b c:θ)(h:ι)(l m:Ψ):ι:=(z1 b h l).push (ZM c m)
abbrev z3(b c:θ)(h:ι)(l m:Ψ):ι:=(z2 b c h l m).push { cls:=.type "tuple",data:=.seq #[.ref h.objs.size,.ref (z1 b h l).objs.size] }
abbrev z4(b c:θ)(h:ι)(l m:Ψ):ι:=(z3 b c h l m).push { cls:=.type "tuple",data:=.seq #[.none,.none] }
abbrev z5(b c:θ)(h:ι)(l m:Ψ):ι:=(z4 b c h l m).push { cls:=.type "zip",data:=.fields #[.none,.bool false,.bool false,.ref (z2 b c h l m).objs.size,.ref (z3 b c h l m).objs.size] }
def Rt.push(x:Rt b h l xs)(o:Obj):Rt b (h.push o) l xs:=x.at λO e=>zU _ e
def WE(b c:θ)(l m:Ψ)(xs ys:Array Θ):Meets (Builtin.«zip.__new__» ⟨[.type "zip",.ref l,.ref m],[]⟩) (λ_ R s=>Rt b s.heap l xs/\Rt c s.heap m ys/\R (.ok (.ret (.ref (z4 b c s.heap l m).objs.size))) { s with heap:=z5 b c s.heap l m }) :=
 .of_wp λP w A R s h=>by
  let⟨p,g,d,t,o⟩:=s;let⟨q,Q,h⟩:=h;have U:=sub_zip;cases b<;>cases c
  .have L:Heap.IsList (Shared.heap ⟨p,g,d,t,o⟩) l xs:=q;have L2:Heap.IsList (Shared.heap ⟨p.push { cls:=.type "list_iterator",data:=.fields #[.ref l,.int 0 0] },g,d,t,o⟩) m ys:=Rt.push (b:=false) Q _
   wp_walk using qL L,qL L2
   exact⟨_,rfl,h⟩
  .have L:Heap.IsList (Shared.heap ⟨p,g,d,t,o⟩) l xs:=q;have L2:Heap.IsTuple (Shared.heap ⟨p.push { cls:=.type "list_iterator",data:=.fields #[.ref l,.int 0 0] },g,d,t,o⟩) m ys:=Rt.push (b:=true) Q _
   wp_walk using qL L,xS L2
   exact⟨_,rfl,h⟩
  .have L:Heap.IsTuple (Shared.heap ⟨p,g,d,t,o⟩) l xs:=q;have L2:Heap.IsList (Shared.heap ⟨p.push { cls:=.type "tuple_iterator",data:=.fields #[.ref l,.int 0 0] },g,d,t,o⟩) m ys:=Rt.push (b:=false) Q _
   wp_walk using xS L,qL L2
   exact⟨_,rfl,h⟩
  .have L:Heap.IsTuple (Shared.heap ⟨p,g,d,t,o⟩) l xs:=q;have L2:Heap.IsTuple (Shared.heap ⟨p.push { cls:=.type "tuple_iterator",data:=.fields #[.ref l,.int 0 0] },g,d,t,o⟩) m ys:=Rt.push (b:=true) Q _
   wp_walk using xS L,xS L2
   exact⟨_,rfl,h⟩
def UL(e:h.get? it=↑(ZM b l)):Rl b h it l 0:=by
 cases b
 .exact⟨_,e,rfl,rfl⟩
 .exact⟨_,e,rfl,rfl⟩
def VN(q:Rt b s.heap l xs)(r:Rt c s.heap m ys)
  (h:∀g,IsZip g (s.heap.objs.size+4) (s.heap.objs.size+2) (s.heap.objs.size+3) .none->IsPair g (s.heap.objs.size+2) (.ref s.heap.objs.size) (.ref (s.heap.objs.size+1))->IsPair g (s.heap.objs.size+3) .none .none ->
   Rl b g s.heap.objs.size l 0->Rl c g (s.heap.objs.size+1) m 0->(∀a o,s.heap.get? a=↑o->g.get? a=↑o)->Q (.ref (s.heap.objs.size+4)) { s with heap:=g }) :
  wpAny (model prog w) A (call (.type "zip") [.ref l,.ref m]) Q E s:=by
 refine callType_new F.called_zip (by decide) (F.typeCall_zip_2 _ _) (F.newCall_zip_2 _ _) (λj=>F.args_object_init_3 j _ _) F.entry_zip_new (WE b c l m xs ys) ⟨q,r,?_⟩;have n:(z1 b s.heap l).objs.size=s.heap.objs.size+1:=xK ..;have N:(z2 b c s.heap l m).objs.size=s.heap.objs.size+2:=by rw[xK,n]
 have d:(z3 b c s.heap l m).objs.size=s.heap.objs.size+3:=by rw[xK,N]
 have k:(z4 b c s.heap l m).objs.size=s.heap.objs.size+4:=by rw[xK,d]
 have G:(z5 b c s.heap l m).get? (z4 b c s.heap l m).objs.size=↑_:=zX _ rfl;have i:(z5 b c s.heap l m).get? (z3 b c s.heap l m).objs.size=↑_:=zU _ (zX _ rfl);have f:(z5 b c s.heap l m).get? (z2 b c s.heap l m).objs.size=↑_:=zU _ (zU _ (zX _ rfl));have e:(z5 b c s.heap l m).get? (z1 b s.heap l).objs.size=↑(ZM c m):=zU _ (zU _ (zU _ (zX _ rfl)));have p:(z5 b c s.heap l m).get? s.heap.objs.size=↑(ZM b l):=zU _ (zU _ (zU _ (zU _ (zX _ rfl))));show _/\_;rw[N,d,k] at G;rw[n,N] at f;rw[d] at i;rw[n] at e;rw[k];exact⟨⟨_,G,rfl⟩,h _ G f i (UL p) (UL e) λa o x=>zU _ (zU _ (zU _ (zU _ (zU _ x))))⟩
end Zp
namespace Dl
open PySem L2 PySem.Spec PyProof.Rows Zp
def sW(K:Φ)(b:θ)(a:Ψ)(H:Hp)(xs:Γ V):Prop:=match b with|true=>f9 K H a xs|false=>iw K H a xs
def sW.src(I:Inv X pins σ H s)(h:sW X.K b a H xs):∃its:Γ Θ,az xs its/\Rt b s.heap a its.toArray/\xs.length<=sizeLine:=by
 cases b
 .let⟨its,r,p,z⟩:=I.list (show iw X.K H a xs from h);exact⟨its,r,p.isList,z⟩
 .let⟨its,r,p,z⟩:=I.tuple (show f9 X.K H a xs from h);exact⟨its,r,p,z⟩
def sW.ne(I:Inv X pins σ H s)(f:ck X pins H c)(h:sW X.K b a H xs):a≠c:=by
 cases b
 .exact Lr I f h
 .exact Kw I f h
def sW.inj(I:Inv X pins σ H s)(h:sW X.K b a H xs)(h':sW X.K b a H ys):xs=ys:=by
 cases b
 .exact I.Td h h'
 .exact I.SG h h'
def sW.mono{K:Φ}(e:aO H H')(h:sW K b a H xs):sW K b a H' xs:=by
 cases b
 .exact e.seq h
 .exact ax e h
def Df{K:Φ}(b c:θ)(V Y z TI TO j l:Ψ)(Z:Qk z TI TO j l) :
  Turn P w K (.Tuple elts k pos) (OX (sW K b V) (sW K c Y)) [z,TI,TO,j,l] z (λi h=>IsZip h z TI TO .none/\IsPair h TI (.ref j) (.ref l)/\(∃a b,IsPair h TO a b)/\Rl b h j V i/\Rl c h l Y i) where
 mem:=by simp
 obj:=λi h t d hd=>by
  let⟨m,G,⟨a,N,n⟩,F,J⟩:=t;simp?[zQ,yF,xV] at hd;rcases hd with rfl|rfl|rfl|rfl|rfl
  .exact⟨_,m,λv q=>by have q:Data.fields _=Data.cell v:=q;cases q⟩
  .exact⟨_,G,λv q=>by have q:Data.seq _ _=Data.cell v:=q;cases q⟩
  .exact⟨_,n,λv q=>by have q:Data.seq _ _=Data.cell v:=q;cases q⟩
  .exact F.obj
  .exact J.obj
 keep:=λi h h' t C=>by
  let⟨m,G,⟨a,N,n⟩,p,u⟩:=t;exact⟨C z (by simp) _ m,C TI (by simp) _ G,⟨a,N,C TO (by simp) _ n⟩,p.at λo q=>C j (by simp) o q,u.at λo q=>C l (by simp) o q⟩
 item:=by
  intro X hP hw hK hc i M s σ H E I f t hg;subst hP hw hK;let⟨xs,ys,x,y,S,O,U,hy⟩:=hg;let⟨Ye,r,F,hz1⟩:=S.src I;let⟨RF,R,J,hz2⟩:=O.src I;let⟨u1,hu1,ru1⟩:=r.get U;let⟨u2,hu2,ru2⟩:=R.get hy;have D:ZipApart z TI TO j l V Y:=⟨Z.a1,Z.a2,Z.a3,Z.a4,Z.a5,Z.a6,Z.a7,Z.a8,Z.a9,Z.a0,S.ne I (f z (by simp)),S.ne I (f TO (by simp)),S.ne I (f j (by simp)),S.ne I (f l (by simp)),O.ne I (f z (by simp)),O.ne I (f TO (by simp)),O.ne I (f j (by simp)),O.ne I (f l (by simp))⟩
  let⟨m,G,⟨a,N,n⟩,p,u⟩:=t;refine ZL (I.ok.hd hc) D m G n p u F J (x:=u1) (y:=u2) (by simpa using hu1) (by simpa using hu2) λg b1 b2 b3 b4 b5 b6 T=>⟨.ref s.heap.objs.size,rfl,?_⟩
  have L:∀ {c:Ψ}{o:Obj},s.heap.get? c=↑o->s.heap.objs.size≠c:=λe=>jJ (zY e);refine wpAny_letOwnedTupleGo_zip (s:={ s with heap:=g }) b1 λg' U7 Q=>?_;have A:g'.get? s.heap.objs.size=some { cls:=.type "tuple",data:=.seq #[u1,u2] }:=Q.extBut _ _ (L m) b5;have ht:nK g' s.heap.objs.size (List.toArray [u1,u2]):=⟨⟨_,A,rfl,_,rfl⟩,_,A,rfl⟩
  refine⟨.ref s.heap.objs.size,_,xq (ch:=[z,TI,TO,j,l]) (xs:=[x,y]) (t':=s.toks) I f (λb o B q=>?_) (yN _) ht (.cons ru1 (.cons ru2 .nil)) (by show 2<=sizeLine;decide),rfl,
   ⟨s.heap.objs.size,x,y,rfl,I.fresh,rfl,λzs Yf=>by rw[Yf.inj I S];exact U,λzs Yf=>by rw[Yf.inj I O];exact hy⟩,
   ⟨U7,Q.extBut _ _ Z.a1 (T _ _ D.TIz D.TITO D.TIi1 D.TIi2 G),⟨_,_,Q.extBut _ _ Z.a2 b2⟩,b3.extBut Q.extBut Z.a3,b4.extBut Q.extBut Z.a4⟩,λb B=>?_⟩
  .simp?[zQ,yF,xV,not_or] at B;exact Q.extBut _ _ B.1 (T b o B.1 B.2.2.1 B.2.2.2.1 B.2.2.2.2 q)
  .have:s.heap.objs.size≠b:=by
    simp?[zQ,yF,xV] at B;let⟨o1,g1,_⟩:=p.obj;let⟨o2,g2,_⟩:=u.obj;rcases B with rfl|rfl|rfl|rfl|rfl
    .exact L m
    .exact L G
    .exact L n
    .exact L g1
    .exact L g2
   rw[aB (jO this)];exact (f b B).1
 done:=by
  intro X hP hw hK hc i M s σ H E I f t hg;subst hP hw hK;let⟨xs,ys,S,O,U⟩:=hg;let⟨Ye,r,F,hz1⟩:=S.src I;let⟨RF,R,J,hz2⟩:=O.src I;have D:ZipApart z TI TO j l V Y:=⟨Z.a1,Z.a2,Z.a3,Z.a4,Z.a5,Z.a6,Z.a7,Z.a8,Z.a9,Z.a0,S.ne I (f z (by simp)),S.ne I (f TO (by simp)),S.ne I (f j (by simp)),S.ne I (f l (by simp)),O.ne I (f z (by simp)),O.ne I (f TO (by simp)),O.ne I (f j (by simp)),O.ne I (f l (by simp))⟩
  let⟨m,G,⟨a,N,n⟩,p,u⟩:=t;have e1:=r.length;have e2:=R.length;refine Yd (I.ok.hd hc) D m G n p u F J (U.elim (λq=>.inl (by simp;lia)) λq=>.inr (by simp;lia)) λg T=>⟨rfl,?_⟩
  refine CP (ch:=[z,TI,TO,j,l]) (t':=s.toks) I f λb o B q=>?_;simp?[zQ,yF,xV,not_or] at B;exact T b o B.1 B.2.2.1 B.2.2.2.1 B.2.2.2.2 q
 self:=λ_ _ _ _ _ t h=>wpAny_pyIter_zip t.1 h
def IS(B:ou X "zip" (.type "zip"))(A:PA X [l,U] tl)(hs:starEach [l,U] X.env=(false,eval l X.env)::starEach [U] X.env)(Y:(backTo pos (starEach [U] X.env)).any (·.1)=false) :
  PI X (.Tuple elts k tp) (.Call (.Name "zip" p) [l,U] [] pos) (λσ H R=>tl σ H λvs f=>∃a b,vs=[.ref a,.ref b]/\∃c d xs ys,sW X.K c a f xs/\sW X.K d b f ys/\R (OX (sW X.K c a) (sW X.K d b)) f):=by
 intro P s σ H R I h;refine Call_ (dJ I B.gl B.mg B.bt (qT (bO (A pos P s σ H _ I h) λJ S z=>?_) hs Y));let⟨vs,f,i,y,Q⟩:=z;let⟨a,b,e,c,d,xs,ys,N,O,q⟩:=Q;subst e;let⟨u,G,rfl,C,D⟩:=vals2 y;cases C;cases D;let⟨v,V,x,Z⟩:=N.src i;let⟨m,F,L,E⟩:=O.src i;refine VN x L λg j n o r t w=>wpAny_pyIter_zip (s:={ S with heap:=g }) j ?_;refine⟨_,_,_,_,f,rfl,i.kept (t':=S.toks) w,Df c d a b (S.heap.objs.size+4) (S.heap.objs.size+2) (S.heap.objs.size+3) S.heap.objs.size (S.heap.objs.size+1) ?_,⟨j,n,⟨_,_,o⟩,r,t⟩,λc hc=>?_,q⟩
 .constructor<;>(intro z;have z:(_:Nat)=_:=z;lia)
 .have W:S.heap.objs.size<=c:=by
   simp?[zQ,yF,xV] at hc;rcases hc with rfl|rfl|rfl|rfl|rfl
   .exact jW _ _
   .exact jW _ _
   .exact jW _ _
   .exact yN _
   .exact jW _ _
  exact i.RD W (i.QK.fresh W)
def Nc:Γ D->Δ (Γ D):=λd=>match d with
 | [x,y]=>(gq x).bind λs=>(gq y).map λY=>jx s Y
 | _=>none
def AL{K:Φ}(h:gq d=↑xs)(r:Rep K HF d v):∃b a vs,v=.ref a/\sW K b a HF vs/\ak K HF xs vs:=by
 rcases lX h with rfl|rfl
 .simp?[Rep] at r;let⟨a,vs,rfl,q,R⟩:=r;exact⟨true,a,vs,rfl,q,R⟩
 .simp?[Rep] at r;let⟨a,vs,rfl,q,R⟩:=r;exact⟨false,a,vs,rfl,q,R⟩
def jg(fs:Env->Δ (Γ D)):Env->Δ (Γ D):=λa=>(fs a).bind Nc
def Jt(B:ou X "zip" (.type "zip"))(hs:starEach [l,U] X.env=(false,eval l X.env)::starEach [U] X.env)(Y:(backTo pos (starEach [U] X.env)).any (·.1)=false)(h:DA X [l,U] fs) :
  DI X (.Tuple elts k tp) (.Call (.Name "zip" p) [l,U] [] pos) (jg fs) :=
 uz (IS B h hs Y) λO H R z=>by
  let⟨F,I,J,S,o,f,q⟩:=z;let⟨x,n,f⟩:=bs f;refine⟨F,I,_,S,o,n,λL e G g w=>?_⟩;unfold Nc at f;split at f
  .let⟨M,j,f⟩:=bs f;let⟨N,m,rfl⟩:=ag f;let⟨v,K,rfl,a,b⟩:=w.cons_inv;let⟨V,t,rfl,A,i⟩:=b.cons_inv;rw[i.nil_inv];let⟨c,D,E,rfl,Q,y⟩:=AL j a;let⟨C,d,u,rfl,T,r⟩:=AL m A;exact⟨D,d,rfl,c,C,E,u,Q.mono g.fh,T.mono g.fh,q _ e G g (EB Q (λ_ _ s h=>h.mono s) T (λ_ _ s h=>h.mono s) y r)⟩
  .cases f
end Dl
namespace Zp
open PySem PyProof.Rows
def Rl.ne(x:Rl b h it l k)(y:Rt b h l xs):l≠it:=by
 rintro rfl;cases b
 .let⟨o,e,c,d⟩:=(show h.IsListIter l l k from x)
  let⟨O,E,r⟩:=(show h.IsList l xs from y)
  rw[e] at E;cases E;simp_all
 .let⟨o,e,c,d⟩:=(show h.IsTupleIter l l k from x)
  let⟨O,E,r⟩:=(show h.IsTuple l xs from y)
  rw[e] at E;cases E;simp_all
def Yg(n:A.handled=none)(b:θ)(I l:Ψ)(xs:Array Θ):Draws prog w A I [I,l] xs.size (λi x=>xs[i]?=↑x) (λi h=>Rl b h I l i/\Rt b h l xs) where
 live:=λi h S=>let ⟨o,e,_⟩:=S.1.obj;⟨o,e⟩
 frame:=λi h c S k=>⟨S.1.at (k I (by simp)),S.2.at (k l (by simp))⟩
 item:=λi s Q E H S q=>nxt S.1 S.2 (v:=xs[i]) (by simp[H]) λg e t=>q _ g s.toks (by simp[H]) ⟨e,S.2.extBut t.extBut (S.1.ne S.2)⟩ t
 done:=λs Q E S a=>WD n S.1 S.2 (by simp) a
def ZN{T:θ}{e t l:Ψ}{i:Nat}{I:Array Θ}{x O:Θ}{Q:Δ Θ->Ξ->Prop}(j:A.handled=none)
  (q:IsEnum s.heap e t i O) (p:Rl T s.heap t l i) (L:Rt T s.heap l I) (X:I[i]?=↑x) (n:e≠t)
  (m:∀g K,IsEnumOut g e t ((i:Int)+1) x s.heap.objs.size->Rl T g t l (i+1)->g.get? s.heap.objs.size=some { cls:=.type "tuple",data:=.seq #[.int i K,x] } ->
   g.objs.size=s.heap.objs.size+1->(∀c o,c≠e->c≠t->s.heap.get? c=↑o->g.get? c=↑o)->Q (↑(.ref s.heap.objs.size)) { s with heap:=g,toks:=K+1 }) :
  wpAny (model prog w) A (pyNext (.ref e)) Q E s:=by
 have N:e≠l:=by
  rintro rfl;cases T
  .let⟨o,f,r⟩:=(show s.heap.IsList e I from L)
   rw[q] at f;cases f;simp at r
  .let⟨o,f,r⟩:=(show s.heap.IsTuple e I from L)
   rw[q] at f;cases f;simp at r
 have D:Draws prog w A.in1 t [t,l] I.size (λi x=>I[i]?=↑x) (λi h=>Rl T h t l i/\Rt T h l I):=Yg (A:=A.in1) j T t l I;refine wpAny_pyNext_enum_itemD D q ⟨p,L⟩ (Array.getElem?_eq_some_iff.mp X).1 n (by simp[n,N]) λy g K H a b c d k=>?_;rw[X] at H;cases H;exact m g K a b.1 c d k
end Zp
namespace Dl
open PySem L2 PySem.Spec PyProof.Rows Zp
def pR{K:Φ}(b:θ)(a j e:Ψ)(r:e≠j):Turn P w K (.Tuple elts k pos) (Pe (sW K b a)) [e,j] e (λi h=>(∃d,IsEnum h e j i d)/\Rl b h j a i) where
 mem:=by simp
 obj:=λi h t c hc=>by
  let⟨⟨d,f⟩,l⟩:=t;rcases List.mem_cons.mp hc with z|z
  .subst z;exact⟨_,f,λv q=>by have q:Data.fields _=Data.cell v:=q;cases q⟩
  .rw[List.mem_singleton.mp z];exact l.obj
 keep:=λi h h' t kk=>⟨let ⟨d,f⟩:=t.1;⟨d,kk e (by simp) _ f⟩,t.2.at λo q=>kk j (by simp) o q⟩
 item:=by
  intro X J hw G hc i S s σ H E I y t L;subst J hw G;let⟨xs,x,Q,M⟩:=L;let⟨O,V,p,hz⟩:=Q.src I;let⟨u,hu,ru⟩:=V.get M;let⟨⟨d,f⟩,l⟩:=t;refine ZN (I.ok.hd hc) f l p (x:=u) (by simpa using hu) r λg C b1 b2 b3 b4 hk=>⟨.ref s.heap.objs.size,rfl,?_⟩
  have R:∀ {c:Ψ}{o:Obj},s.heap.get? c=↑o->s.heap.objs.size≠c:=λe=>jJ (zY e);have W5:s.heap.objs.size≠e:=R f;refine wpAny_letOwnedTupleGo_enum (s:={ s with heap:=g,toks:=C+1 }) b1 λY X8 D=>?_;have n:Y.get? s.heap.objs.size=some { cls:=.type "tuple",data:=.seq #[.int i C,u] }:=D.extBut _ _ W5 b3;have ht:nK Y s.heap.objs.size (List.toArray [Value.int (i:Nat) C,u]):=⟨⟨_,n,rfl,_,rfl⟩,_,n,rfl⟩
  refine⟨.ref s.heap.objs.size,_,xq (ch:=[e,j]) (xs:=[.int (i:Nat),x]) (t':=C+1) I y (λc o B q=>?_) (yN _) ht (.cons ⟨_,rfl⟩ (.cons ru .nil)) (by show 2<=sizeLine;decide),rfl,
   ⟨s.heap.objs.size,x,rfl,I.fresh,rfl,λzs Yf=>by rw[Yf.inj I Q];exact M⟩,⟨⟨_,X8⟩,b2.extBut D.extBut (jO r)⟩,λc U=>?_⟩
  .simp?[zQ,yF,xV,not_or] at B;exact D.extBut _ _ B.1 (hk c o B.1 B.2 q)
  .have:s.heap.objs.size≠c:=by
    simp?[zQ,yF,xV] at U;let⟨o1,g1,_⟩:=l.obj;rcases U with rfl|rfl
    .exact R f
    .exact R g1
   rw[aB (jO this)];exact (y c U).1
 done:=by
  intro X J hw G hc i S s σ H E I y t L;subst J hw G;let⟨xs,Q,M⟩:=L;let⟨O,V,p,hz⟩:=Q.src I;have hh:X.A.in1.handled=none:=I.ok.hd hc;have hl:=V.length;let⟨⟨d,f⟩,l⟩:=t;have Z:s.TypeIs (.ref e) "enumerate":=⟨_,f,rfl⟩
  unfold pyNext;refine zV (kU (qD (name:=Str.ofString "__next__") Z F.slot_enumerate_next (qX F.slot_enumerate_next Z F.entry_enumerate_next ?_ (F.args_enumerate_next_1 _))));refine zV (m:=field (.ref e) 2) (qU f rfl (x:=.ref j) rfl ?_);refine zV (WD hh l p (by simp;lia) λh1 x k1 N=>?_);let⟨o,ho,Zk⟩:=N;refine zV (wpAny_isInstance (T:="StopIteration") (b:=true) ⟨o,ho,Zk⟩ isSubtype_stop (zW ⟨rfl,?_⟩));let⟨f0,f1,f2,f3,f4,f5⟩:=y j (by simp);exact I.turned (t':=s.toks) (λb o B q=>k1 b o B q) f0 f1 f3 f4 f5
 self:=λ_ _ _ _ _ t h=>let ⟨_,f⟩:=t.1;wW f h
def HV(B:ou X "enumerate" (.type "enumerate"))(A:PA X [l] tl)(hs:starEach [l] X.env=[(false,eval l X.env)]):PI X (.Tuple elts k tp) (.Call (.Name "enumerate" p) [l] [] pos) (λσ H R=>tl σ H λvs c=>∃a,vs=[.ref a]/\∃b xs,sW X.K b a c xs/\R (Pe (sW X.K b a)) c):=by
 intro P s σ H R I h;refine Call_ (dJ I B.gl B.mg B.bt (qT (bO (A pos P s σ H _ I h) λU S z=>?_) hs rfl));let⟨vs,c,i,r,n⟩:=z;let⟨a,e,b,xs,Q,q⟩:=n;subst e;let⟨u,rfl,x⟩:=vals1 r;cases x;have f:∀b∈[S.heap.objs.size+1,S.heap.objs.size],ck X P c b:=λb m=>by
  rcases List.mem_cons.mp m with z|z
  .subst z;exact i.RD (Nat.le_succ _) (i.QK.fresh (Nat.le_succ _))
  .cases List.mem_singleton.mp z;exact i.RD (yN _) i.fresh
 let⟨g,v,L,o⟩:=Q.src i;cases b with
 | false =>
  refine call_enumerate_list L λd E t Z j=>wW (s:={ S with heap:=d }) E ?_;exact⟨_,_,_,_,c,rfl,i.kept (t':=S.toks) j,pR false a S.heap.objs.size (S.heap.objs.size+1) (Nat.succ_ne_self _),⟨⟨_,E⟩,t⟩,f,q⟩
 | true =>
  refine En.Ui (show S.heap.IsTuple a g.toArray from L) λd E t Z j=>wW (s:={ S with heap:=d }) E ?_;exact⟨_,_,_,_,c,rfl,i.kept (t':=S.toks) j,pR true a S.heap.objs.size (S.heap.objs.size+1) (Nat.succ_ne_self _),⟨⟨_,E⟩,t⟩,f,q⟩
def bj(fs:Env->Δ (Γ D)):Env->Δ (Γ D):=λa=>(fs a).bind λd=>(eK d).map (bw 0)
def IQ(B:ou X "enumerate" (.type "enumerate"))(h:DA X [l] fs)(hs:starEach [l] X.env=[(false,eval l X.env)]):DI X (.Tuple elts k tp) (.Call (.Name "enumerate" p) [l] [] pos) (bj fs) :=
 uz (HV B h hs) λy H R z=>by
  let⟨F,t,D,S,o,f,q⟩:=z;let⟨x,i,f⟩:=bs f;let⟨E,e,rfl⟩:=ag f;let⟨d,m,e⟩:=bs e;rw[fZ m] at i;refine⟨F,t,_,S,o,i,λV j G g r=>?_⟩;let⟨v,w,rfl,a,b⟩:=r.cons_inv;rw[b.nil_inv];let⟨c,A,u,rfl,Q,n⟩:=AL e a;exact⟨A,rfl,c,u,Q.mono g.fh,q _ j G g (CJ Q (λ_ _ s h=>h.mono s) n)⟩
end Dl
namespace T4
open PySem PySem.W PySem.Calls PyProof.Rows L2
def ck.at(h:ck X pins H b)(e:H' b=none):ck X pins H' b:=⟨e,h.2⟩
def RR{g:Array Θ->Array Θ}(I:Inv X pins σ H s)(f:ck X pins H b):Inv X pins σ H { s with heap:=s.heap.update b (Obj.mapSeq g) }:=by
 let⟨F,a,k,d,i,j⟩:=f;exact I.turned (t':=s.toks) (h':=s.heap.update b (Obj.mapSeq g)) (λc o hc e=>(xO _ _ (jO hc)).trans e) F a d i j
def S7(I:Inv X (pins++oa fp h) σ H' s')(H:b∈fp)(e:h.get? b=↑o):s'.heap.get? b=↑o/\H' b=none :=
 let q:=I.pin (b,o) (yE _ (yE _ (cQ H e)));⟨q.1,q.2.1⟩
def RZ(I:Inv X pins σ H s)(ho:s.heap.get? a=↑(seqObj "list" vs.toArray n))(fa:ck X pins H a)(Tj:vs.length < 64)
  (J:Γ Θ->Hp->Prop) (j0:J [] H)
  (step:∀us v,vs[us.length]?=↑v->∀pl s' H',Inv X (pins++pl) σ H' s'->J us H'->wpAny (model X.prog X.w) A (call f [v]) (λu SI=>∃Wf,Inv X (pins++pl) σ Wf SI/\J (us++[u]) Wf) (λ_ _=>False) s')
  (fin:∀us H',us.length=vs.length->J us H'->∃ (z:Nat->Int) (κ:SortKind),(2<=vs.length->∀s',Inv X pins σ H' s'->(∀Q':SortKind->Ξ->Prop,Q' κ s'->wpAny (model X.prog X.w) A (keyKind' us.toArray) Q' (λ_ _=>False) s') /\
    ∀i j C,i < vs.length->j < vs.length->C (SP.dB z i j) s'->kas_ask X.prog X.w A κ us i j C s') /\
   ∀s' c,Inv X pins σ H' s'->ck X pins H' a->s'.heap.get? a=↑(seqObj "list" (QX z vs).toArray c)->P (.done (.ret .none)) s') :
  wpAny (model X.prog X.w) A (ksk_tree a f false) P E s:=by
 have Tn:vs.length<=sizeLine:=by rw[qV];lia
 unfold ksk_tree;refine zV (vN ho rfl ?_);refine zV (kE ho rfl ?_ (by simpa using Tn) (xW _));obtain⟨e1,Ud⟩:∃e,(s.heap.update a (Obj.mapSeq λ_=>(#[]:Array Θ))).get? a=↑(seqObj "list" #[] e):=⟨_,kG ho λ_=>#[]⟩
 have I1:=RR (g:=λ_=>(#[]:Array Θ)) I fa;refine zV (seqEpoch_at Ud rfl ?_);refine zV (wpAny_newTuple ?_ (by simpa using Tn));refine zV (kR ?_ (xW _));refine xY ?_;have U5:(((s.heap.update a (Obj.mapSeq λ_=>(#[]:Array Θ))).push (seqObj "tuple" vs.toArray 0)).push (seqObj "list" #[] 0)).get? a=↑(seqObj "list" #[] e1):=zU _ (zU _ Ud);have YQ:(((s.heap.update a (Obj.mapSeq λ_=>(#[]:Array Θ))).push (seqObj "tuple" vs.toArray 0)).push (seqObj "list" #[] 0)).get? ((s.heap.update a (Obj.mapSeq λ_=>(#[]:Array Θ))).push (seqObj "tuple" vs.toArray 0)).objs.size=↑(seqObj "list" #[] 0):=zX _ rfl;have I3:=(I1.kept (t':=s.toks) (h':=((s.heap.update a (Obj.mapSeq λ_=>(#[]:Array Θ))).push (seqObj "tuple" vs.toArray 0)).push (seqObj "list" #[] 0)) λb o e=>zU _ (zU _ e))
 have I2:=(I1.kept (t':=s.toks) (h':=(s.heap.update a (Obj.mapSeq λ_=>(#[]:Array Θ))).push (seqObj "tuple" vs.toArray 0)) λb o e=>zU _ e)
 have fk:ck X pins H ((s.heap.update a (Obj.mapSeq λ_=>(#[]:Array Θ))).push (seqObj "tuple" vs.toArray 0)).objs.size:=I2.RD (yN _) (I2.QK.fresh (yN _));have hka:((s.heap.update a (Obj.mapSeq λ_=>(#[]:Array Θ))).push (seqObj "tuple" vs.toArray 0)).objs.size≠a:=by
  have QR:=zY Ud;rw[xK];exact jJ (jP QR)
 show wpAny _ A _ P E { s with heap:=((s.heap.update a (Obj.mapSeq λ_=>(#[]:Array Θ))).push (seqObj "tuple" vs.toArray 0)).push (seqObj "list" #[] 0) };generalize ((s.heap.update a (Obj.mapSeq λ_=>(#[]:Array Θ))).push (seqObj "tuple" vs.toArray 0)).objs.size=kS at YQ fk hka;generalize e3:({ s with heap:=((s.heap.update a (Obj.mapSeq λ_=>(#[]:Array Θ))).push (seqObj "tuple" vs.toArray 0)).push (seqObj "list" #[] 0) }:Ξ)=s3 at I3;have U5:s3.heap.get? a=↑(seqObj "list" #[] e1):=by rw[<- e3];exact U5
 have YQ:s3.heap.get? kS=↑(seqObj "list" #[] 0):=by rw[<- e3];exact YQ
 clear e3 I2 I1 Ud ho;unfold ksk_rest;refine zV (wI ?_)
 first
  | rw[List.forIn_toArray]
  | (rw[<- Array.forIn_toList];simp?[List.toList_toArray])
  | rw[<- Array.forIn_toList]
 refine zV (ksk_fold (λi s'=>∃us H' e,us.length=i/\Inv X pins σ H' s'/\H' a=none/\H' kS=none/\s'.heap.get? a=↑(seqObj "list" #[] e1)/\s'.heap.get? kS=↑(seqObj "list" us.toArray e)/\J us H') vs 0 s3
  ⟨[],H,0,rfl,I3,fa.1,fk.1,U5,YQ,j0⟩ ?step ?done)
 case step =>
  rintro j x s' hx ⟨us,H',e,hu,I',ha',QV,hoa,QK,j'⟩;have hu:us.length=j:=by lia
  have hj:j < vs.length:=(List.getElem?_eq_some_iff.mp hx).1;have Ip:=I'.pinned (fp:=[a,kS]) (λb hb=>by
   rcases List.mem_cons.mp hb with rfl|hb
   .exact ck.at fa ha'
   .rw[List.mem_singleton.mp hb];exact ck.at fk QV) (λb hb=>by
   rcases List.mem_cons.mp hb with rfl|hb
   .exact⟨_,hoa,λv z=>by cases z⟩
   .rw[List.mem_singleton.mp hb];exact⟨_,QK,λv z=>by cases z⟩)
  refine zV (kU (xB (step us x (by rw[hu];exact hx) _ s' H' Ip j') (λu SI he=>?_) λ_ _ hF=>hF.elim));let⟨Wf,I'',j''⟩:=he
  try dsimp only
  let⟨ga,na⟩:=S7 I'' (b:=a) zE hoa;let⟨gk,nk⟩:=S7 I'' (b:=kS) (zC _ zE) QK;have I4:=I''.QZ;obtain⟨c2,U0⟩:∃c2,(SI.heap.update kS (Obj.mapSeq (·.push u))).get? kS=↑(seqObj "list" (us.toArray.push u) c2):=⟨_,kG gk (·.push u)⟩
  refine zV (kE gk rfl ?_ (by rw[zH,qV];lia) (yD (Nat.le_of_eq (Array.size_push ..)) (by rw[zH,qV];lia)));refine zW ⟨rfl,us++[u],Wf,c2,by rw[zN,hu];simp,RR I4 (ck.at fk nk),na,nk,(xO _ _ hka).trans ga,?_,j''⟩;rw[U0];simp
 case done =>
  rintro s' ⟨us,H',e,hu,I',ha',QV,hoa,QK,j'⟩;have hu:us.length=vs.length:=by lia
  try dsimp only
  refine zV (vN QK rfl ?_);let⟨z,κ,hz,hP⟩:=fin us H' hu j';have last:∀QC:SortSt,(arrOf QC).map (·.2)=(QX z vs).toArray->failedOf QC=none->wpAny (model X.prog X.w) A (ksk_tail a false e1 (.ref kS) QC) P E s':=λQC h1 h2=>by
   unfold ksk_tail
   try dsimp only
   rw[h1,h2];have na1:(s'.heap.update kS (Obj.mapSeq λ_=>(#[]:Array Θ))).get? a=↑(seqObj "list" #[] e1):=(xO _ _ hka).trans hoa;have I5:=RR (g:=λ_=>(#[]:Array Θ)) I' (ck.at fk QV);have I6:=RR (s:={ s' with heap:=s'.heap.update kS (Obj.mapSeq λ_=>(#[]:Array Θ)) }) (g:=λ_=>(QX z vs).toArray) I5 (ck.at fa ha');refine zV (kE QK rfl ?_ (by rw[zH,qV];lia) (xW _));refine zV (wpAny_letGo ?_);refine zV (seqEpoch_at na1 rfl ?_);refine zV (kE na1 rfl ?_ (xW _) (by
    simp?[yP,qQ];show (QX z vs).toArray.size<=_;rw[zH,Th];lia))
   obtain⟨c,hc⟩:∃c,((s'.heap.update kS (Obj.mapSeq λ_=>(#[]:Array Θ))).update a (Obj.mapSeq λ_=>(QX z vs).toArray)).get? a=↑(seqObj "list" (QX z vs).toArray c):=⟨_,kG na1 λ_=>(QX z vs).toArray⟩
   simp?[bne_self_eq_false,yP,qQ];exact zW (hP _ c I6 (ck.at fa ha') hc)
  unfold ksk_end
  try dsimp only
  simp?[yP,qQ];by_cases h2:vs.toArray.size < 2
  .rw[yM h2,yM h2];refine zV (zW ?_);rw[StateT.run_pure];refine zV (zW (last _ ?_ rfl));have Ue:vs.length < 2:=by simpa using h2
   unfold QX;rw[yM Ue];show ((us.toArray.zip vs.toArray).map (·.2))=vs.toArray;apply Array.toList_inj.mp;simp?[Array.toList_map,Array.toList_zip];exact List.map_snd_zip (by rw[hu];exact yN _)
  .rw[yO h2,yO h2];have Ue:2<=vs.length:=by
    have:¬ vs.length < 2:=by simpa using h2
    lia
   let⟨hk,QR⟩:=hz Ue s' I';refine zV (xB (hk (λWe SI=>We=κ/\SI=s') ⟨rfl,rfl⟩) (λWe SI hs=>?_) λ_ _ x=>x.elim);let⟨rfl,rfl⟩:=hs;refine zV (xB (kat_run (Q:=λQC s2=>s2=SI/\(arrOf QC).map (·.2)=(QX z vs).toArray/\failedOf QC=none) (G:=λp s2=>s2=SI/\p=SP.run (SP.dB z) (kas_sort vs.length))
    hu Ue Tj (λp QC s2 a1 a2 a3 a4=>⟨a4.1,?_,a3⟩) (SP.wp_run QR (kas_sort vs.length) (SP.Er (by lia)) ⟨rfl,rfl⟩)) ?_ λ_ _ e=>e)
   .rw[kat_snds hu a2,a4.2];unfold QX;rw[yO (by lia)]
   .rintro⟨⟨⟩,QC⟩ s2 ⟨hs,h4,h5⟩;subst hs;exact last QC h4 h5
def sortedK{l:Θ}{f:Ψ}{Q:Θ->Ξ->Prop}(I:Inv X pins σ H s)(Tj:vs.length < 64)
  (Yh:∀ {Q':Γ Θ->Ξ->Prop},(∀h':ι,(∀b o,s.heap.get? b=↑o->h'.get? b=↑o)->Q' vs { s with heap:=h' })->wpAny (model X.prog X.w) A.in1 (collect l) Q' E s)
  (J:Γ Θ->Hp->Prop) (j0:J [] H)
  (step:∀us v,vs[us.length]?=↑v->∀pl s' H',Inv X (pins++pl) σ H' s'->J us H'->wpAny (model X.prog X.w) A.in1.in1 (call (.ref f) [v]) (λu SI=>∃Wf,Inv X (pins++pl) σ Wf SI/\J (us++[u]) Wf) (λ_ _=>False) s')
  (fin:∀us H',us.length=vs.length->J us H'->∃ (z:Nat->Int) (κ:SortKind),(2<=vs.length->∀s',Inv X pins σ H' s'->(∀Q':SortKind->Ξ->Prop,Q' κ s'->wpAny (model X.prog X.w) A.in1.in1 (keyKind' us.toArray) Q' (λ_ _=>False) s') /\
    ∀i j C,i < vs.length->j < vs.length->C (SP.dB z i j) s'->kas_ask X.prog X.w A.in1.in1 κ us i j C s') /\
   ∀s' D c,Inv X pins σ H' s'->ck X pins H' D->s'.heap.get? D=↑(seqObj "list" (QX z vs).toArray c)->Q (.ref D) s') :
  wpAny (model X.prog X.w) A (call (.builtin "sorted") [l] [(Str.ofString "key",.ref f)]) Q E s:=by
 have Tn:vs.length<=sizeLine:=by rw[qV];lia
 refine call_function_entry_kw kind_sorted plain_sorted entry_sorted (ksk_s1 _ _) ?_;unfold Builtin.«sorted»;refine zV (m:=checkCount "sorted" 1 1 _) (zW (zV (Yh λh1 kp=>?_)));refine zV (kR ?_ (by simpa using Tn));have I1:=I.kept (t':=s.toks) kp;have fD:ck X pins H h1.objs.size:=I1.RD (yN _) (I1.QK.fresh (yN _));have Vr:(h1.push (seqObj "list" vs.toArray 0)).get? h1.objs.size=↑(seqObj "list" vs.toArray 0):=zX _ rfl;have I2:=I1.kept (t':=s.toks) (h':=h1.push (seqObj "list" vs.toArray 0)) λb o e=>zU _ e;show wpAny _ _ _ _ _ { s with heap:=h1.push (seqObj "list" vs.toArray 0) };refine zV (xY (wpAny_call_entry_kw slot_list_sort ⟨_,Vr,rfl⟩ entry_list_sort ?body (ksk_l1 _ _)))
 case body =>
  show wpAny (model X.prog X.w) A.in1.in1 (Builtin.«list.sort» ⟨[.ref h1.objs.size],[(Str.ofString "key",.ref f)]⟩) _ _ _;rw[ksk_t1];refine RZ I2 Vr fD Tj J j0 step λus H' hu j'=>?_;let⟨z,κ,hz,hP⟩:=fin us H' hu j';exact⟨z,κ,hz,λs' c I' f' e=>⟨_,rfl,zW ⟨_,rfl,hP s' _ c I' f' e⟩⟩⟩
end T4
namespace Dl
open PySem L2 PySem.Spec PyProof.Rows
def _root_.L2.Inv.Xf(I:Inv X pins σ H s)(f:ck X pins H b)(m:c8 X.prog X.w (upd H b o) s.heap b o):Inv X pins σ (upd H b o) s:=by
 let⟨F,i,v,j,k,l⟩:=f;have U:∀c u,H c=↑u->upd H b o c=↑u:=λc u e=>by rw[aB (aL e F)];exact e
 refine⟨I.ok,I.os,I.bare,⟨I.base.keep,I.base.slot,λc O e n a=>?_,I.base.there,λc S e=>U c _ (I.base.S3 c S e),λc O u e=>U c _ (I.base.Ss c O u e),⟨λc u e t=>U c u (I.base.RU.st c u e t),I.base.RU.gr⟩⟩,I.loc,I.cell,?_,λx c e=>?_,λp P=>?_,λc u e=>?_,I.len⟩
 .have Q:c≠b:=λz=>by
   rcases j with g|g
   .exact a (z ▸ g)
   .exact absurd (zP (zY e) (z ▸ g)) (qF _)
  rw[aB Q];exact I.base.free c O e n a
 .rw[aB (jO i)];exact I.free
 .rw[aB (k x c e)];exact I.Q8 x c e
 .let⟨e,n,r⟩:=I.pin p P;exact⟨e,by rw[aB (l p P)];exact n,r⟩
 .by_cases hc:c=b
  .subst hc;rw[aI] at e;cases e;exact m
  .rw[aB hc] at e;exact (I.QK c u e).SY (λd w _ q=>q) (λd q=>U d _ q) λd w q _=>U d _ q
def pK(scope:ζ)(N:Γ Str)(p:Str):θ:=scope.names.all (λq=>!decide (q.2=NameKind.cell))&&decide (N[0]?=↑p)&&decide (scope.names.lookup p=↑.local)&&decide (scope.isCoroutine=false)&&decide (scope.isGenerator=false)
section
def F0(C:Bk X N sc (k+3))(b:dF (k+1) A)(K:scope.kind=.function)(T:N'.Nodup)(hl:pK scope N' p=true):Bk (gG X A qual scope N' f c s H) N' scope k where
 n:=rfl
 nd:=T
 tb:=λx d a=>.inl a
 calm:=rfl
 fn:=λx a=>by
  unfold pK at hl;simp?[zF,xH,yQ,xC] at hl;exact absurd rfl (hl.1.1.1.1 _ (mem_of_lookup a))
 room:=b.deeper _
 xe:=rfl
 kd:=K
structure p6(X:Cx)(qual:Str):Prop where
 ex:∃c P,X.env.code=.ref c/\X.env.qual++"<lambda>"=qual/\W.codeHdIn X.K c P=true/\∀HF,fP X.K HF->HF P=↑(.tab qual)
def iu(te:Env->Δ D)(ρ:Env):Γ D->Δ (Γ D)
 | []=>↑[]
 | d::s=>(te (ρ.set 0 (↑d))).bind λx=>(iu te ρ s).map (x::·)
def n6:∀ {ds k:Γ D},iu te ρ ds=↑k->k.length=ds.length
 | [],k,h=>by cases h;rfl
 | d::ds,k,h=>by
  unfold iu at h;let⟨y,a,h⟩:=bs h;let⟨s,H,rfl⟩:=ag h;simp[n6 H]
def qh:∀ {ds k:Γ D}{i:Nat}{d:D},iu te ρ ds=↑k->ds[i]?=↑d->∃x,te (ρ.set 0 (↑d))=↑x/\k[i]?=↑x
 | [],k,i,d,h,e=>by simp at e
 | f::ds,k,i,d,h,e=>by
  unfold iu at h;let⟨y,H,h⟩:=bs h;let⟨s,c,rfl⟩:=ag h;cases i with
  | zero=>simp at e;subst e;exact⟨y,H,rfl⟩
  | succ i=>let⟨x,a,b⟩:=qh c (by simpa using e);exact⟨x,a,by simpa using b⟩
def n9(cs:Γ Nat)(fl te:Env->Δ D):Env->Δ (Γ D):=λa=>(fl a).bind λl=>match l with
 | .list d=>(iu te (dz 1 cs a) d).bind λk=>(intsOf k).bind λz=>if d.length < 64 then ↑(pj (λi=>z.getD i 0) d .none) else none
 | _=>none
def yj{K:Φ}{cs:Γ Nat}(e:cE K HF ρ σ)(r:Rep K HF d v):cE K HF ((dz 1 cs ρ).set 0 (↑d)) ((j7 1 cs σ).set 0 (↑v)):=iL (BP e) r
def mO{K:Φ}:∀ {k:Γ D}{zs:Γ Int}{R:Γ V}{us:Γ Θ},intsOf k=↑zs->ak K HF k R->az R us->IntsAre us zs
 | [],zs,R,us,h,r,v=>by
  cases h;rw[r.nil_inv] at v;cases v;exact .nil
 | d::k,zs,R,us,h,r,v=>by
  cases d<;>simp?[intsOf] at h<;>try cases h
  rename_i i;let⟨y,H,rfl⟩:=ag h;let⟨w,s,rfl,a,b⟩:=r.cons_inv;simp?[Rep] at a;subst a;cases v with
  | cons c e =>
   let⟨t,rfl⟩:=c;exact .cons i t (mO H b e)
def i4:∀ {us:Γ Θ}{zs:Γ Int}{i:Nat},IntsAre us zs->i < us.length->∃t,us.getD i Value.none=.int (zs.getD i 0) t
 | _,_,i,.nil,h=>by simp at h
 | _,_,0,.cons n t r,h=>⟨t,rfl⟩
 | _,_,i+1,.cons n t r,h=>by
  let⟨T,e⟩:=i4 (i:=i) r (by simpa using h);exact⟨T,by simpa using e⟩
variable {fl te:Env->Δ D}{cs:Γ Nat}
def Bk.ZO(C:Bk X N sc (k+3))(B:ou X "sorted" (.builtin "sorted"))(L:p6 X qual)(O:j8 sc scope N N' 1 cs=true)(hl:pK scope N' p=true)
  (y:∀ (cl:Γ (Str×Ψ)) (pm Sz u:Θ) (c:Ψ),bindArgs (W.kla_fn "<lambda>" qual params body scope cl pm (.ref c) Sz) ⟨[u],[]⟩=pure [(p,u)]) (VC:defaultsOf params X.env=([],[])) (h:DE X l fl)
  (hY:∀A f c s H,Bk (gG X A qual scope N' f c s H) N' scope k->DE (gG X A qual scope N' f c s H) body te)
  (SH:starEach [l] X.env=(false,eval l X.env)::starEach [] X.env) (he:backTo pos (starEach [l] X.env)=(false,eval l X.env)::backTo pos (starEach [] X.env)) (RH:(backTo pos (starEach [l] X.env)).any (·.1)=false) :
  DF X (.Call (.Name "sorted" p0) [l] [⟨↑"key",.Lambda params body scope RM,VO⟩] pos) (n9 cs fl te):=by
 let⟨S,_⟩:=C.comp O;have Tt:N'.Nodup:=by
  unfold j8 at O;simp?[zF,zJ] at O;exact O.2
 have WH:=hl;unfold pK at WH;simp?[zF,xH,yQ,xC,zJ] at WH;obtain⟨⟨⟨⟨W6,W7⟩,hp⟩,UJ⟩,VA⟩:=WH;let⟨cc,P,SK,VP,hhd,ee⟩:=L.ex;intro D s σ H Q I ⟨HF,ρ,out,sm,eo,F,q⟩;let⟨ld,hld,F⟩:=bs F;cases ld<;>try cases F
 rename_i ds;let⟨ks,ZP,F⟩:=bs F;let⟨Z,Yf,F⟩:=bs F;split at F<;>cases F;rename_i Tj;refine qZ (dJ I B.gl B.mg B.bt ?_ (by decide) (by decide));refine PyProof.Rows.callWith_kw (e:=l) (rest:=[]) (kws:=[⟨↑"key",.Lambda params body scope RM,VO⟩]) ?_ he RH rfl rfl;refine bO (mX h qj SH pos D s σ H _ I ⟨HF,ρ,[.list ds],sm,eo,by simp[aa,af,hld],λvs E g a r1=>(⟨g,a,r1⟩:∃g,bM HF H g E/\ak X.K g [.list ds] vs)⟩) λU s1 z=>?_;let⟨vs,E,I1,rv,g,a,r1⟩:=z;let⟨v,vr,rfl,a1,b1⟩:=r1.cons_inv;rw[b1.nil_inv] at rv;let⟨u,rfl,rx⟩:=vals1 rv;simp?[Rep] at a1;let⟨la,ws,rfl,hq,rr⟩:=a1;cases rx;have hT1:E P=↑(.tab qual):=a.fh _ _ (ee g (eo.tb.mono a.ff));show wpAny _ _ (evalAll ((do let v <- eval (.Lambda params body scope RM) X.env;standAt pos;pure v)::[])) _ _ s1;refine wpAny_evalAll_cons (zV ?_);refine ym (P:=P) I1 S VP SK (W.codeHd_of_K I1.ok.mod.YI hhd) hT1 I1.ok.mod.bmd VC λf c' pm Sz s2 H2 I2 ZQ Vo VB YV fp2 _=>?_;refine zV (vF (zW (wpAny_evalAll_nil ?_)));show wpAny _ _ (call (.builtin "sorted") [.ref la] [(Str.ofString "key",.ref f)]) _ _ s2;have Ip:=I2.pinned (fp:=[f]) (λb y=>by rw[List.mem_singleton.mp y];exact fp2) (λb y=>by rw[List.mem_singleton.mp y];exact⟨_,ZQ,λv z=>by cases z⟩);have g2:bM g E g H2:=⟨YV,.refl _,a.fh.trans YV,λ_ _ e=>.inl e⟩
 let⟨n,T,pl,hz⟩:=Ip.list (YV.seq (a.fh.seq hq));have hlen:n.length=ds.length:=by rw[<- T.length,rr.length]
 have hkl:=n6 ZP;have hR:dF (k+1) X.A.in1.in1:=C.room.in1.in1;refine T4.sortedK (vs:=n) Ip (by lia) (λ{Q'} hQ=>?_) (λU H'=>∃QH t,bM g H2 QH H'/\ak X.K QH (ks.take U.length) t/\az t U) ⟨g,[],.refl g2.fh,by simpa using ak.nil,.nil⟩ (λU x hx pl' s3 H3 r ⟨V,t,m,Y,Xg⟩=>?_) λU H3 hu ⟨V,t,m,Y,Xg⟩=>?_
 .refine collect_list pl.isList (hQ _ λb o e=>?_) (by rw[qV];lia);exact (xO _ _ (jJ (zY e))).trans (zU _ e)
 .have hi:U.length < n.length:=(List.getElem?_eq_some_iff.mp hx).1;obtain⟨w,hw⟩:∃w,ws[U.length]?=↑w:=⟨_,zK (by rw[T.length];exact hi)⟩
  let⟨x',U4,XU⟩:=T.get hw;rw[hx] at U4;cases U4;let⟨d,hd,rd⟩:=rr.get hw;let⟨kd,Zs,ZR⟩:=qh ZP hd;have Yi:s3.heap.get? f=↑(W.kla_obj "<lambda>" qual params body scope (dE X.env scope.names []) pm c' Sz) :=
   (r.pin (f,_) (yE _ (qK _ (yE _ (cQ zE ZQ))))).1
  refine xB (yr (Q:=λv J=>∃R,bM V H3 R J/\Rep X.K R kd v) (te:=tD X.K te) r hR r.ok.frames S W6 W7 hp Tt UJ VA Yi (m.hh _ _ VB) (y _ _ _ _ _) XU (hY _ _ _ _ _ (F0 C hR S.kind Tt hl))
   ⟨V,_,kd,m.fh,yj (eo.mono (a.ff.trans m.ff)) (rd.mono m.ff),Zs,λv J R M r4=>⟨R,M,r4⟩⟩) (λu s4 ⟨v4,J,I4,r4,R,M,rp⟩=>⟨J,I4,R,t++[v4],m.trans M,?_,Xg.append (.cons r4 .nil)⟩) λ_ _ e=>e
  rw[zN,xD,wX,ZR];exact (Y.mono M.ff).append (ak.cons rp ak.nil)
 .have QV:ks.take U.length=ks:=kM (by lia);rw[QV] at Y;have ia:=mO Yf Y Xg;refine⟨λi=>Z.getD i 0,oneType',λh2 s3 r=>⟨λQ' q'=>?_,λi j Cc hi hj q'=>?_⟩,λs3 Dn c r fD e=>?_⟩
  .rw[PyProof.Rows.ksk_kind (keys:=U.toArray) (kz:=Z) (by simpa using ia) (by simpa [hu] using h2)];exact zW q'
  .let⟨t1,e1⟩:=i4 ia (i:=i) (by lia);let⟨t2,e2⟩:=i4 ia (i:=j) (by lia);unfold W.kas_ask;rw[e1,e2];exact W.kat_lt_int q'
  .have hv:=pD (λi=>Z.getD i 0) T;have hr:=qw (λi=>Z.getD i 0) rr;have Yj:H3 Dn=none:=fD.1;have I4:=Inv.Xf (o:=.lst (pj (λi=>Z.getD i 0) ws .QB)) r fD ⟨by rw[(fK _ _ _).length_eq];exact hz,_,c,hv,e⟩;have G:=(a.trans g2).trans m;refine⟨.ref Dn,_,I4.QZ,rfl,q Dn _ _ V (G.trans (.own G.fh Yj)) (G.hh.free Yj) (G.fh.free Yj) aI (hr.mono m.ff)⟩
end
end Dl
namespace T4
open PySem PySem.W PySem.Calls PyProof.Rows L2
variable {a:Int}{n:Nat}
def VQ{R:Result->Ξ->Prop}{a b c:Int}{t u v:Tok}(e:A.handled=none)(f:IsRange s.heap r a b c t u v)(U:Builtin.Range.small a b c=true)(N:Builtin.Range.rangeSize a b c=n)(H:n<=2 ^ 24)
  (d:s.heap.get? S=some { cls:=.type "list",data:=.seq #[] })
  (hR:∀h' k W C,(∀b o,b≠S->s.heap.get? b=↑o->h'.get? b=↑o)->h'.get? S=some { cls:=.type "list",dict:=none,data:=.seq W C,slots:=#[] } ->
   ItemsOf (λi v=>∃t,v=.int (a+i * c) t) W n->R (.ok (.ret (.ref S))) { s with heap:=h',toks:=k }):codeAny (model prog w) A (.builtin "list.__iadd__" ⟨[.ref S,.ref r],[]⟩) R s:=by
 refine kH entry_list_iadd' ?_;rw[Around.under_plainId (by decide +kernel:plainId "list.__iadd__"=true) _];exact wpAny_extend_range (A:=A) e f U N H S (.ref S) _ d hR
def Tu(d:A.handled=none)(f:IsRange s.heap r a b c t u v)(U:Builtin.Range.small a b c=true)(N:Builtin.Range.rangeSize a b c=n)(H:n<=2 ^ 24)
  (h:∀h' k acc,(∀b o,s.heap.get? b=↑o->h'.get? b=↑o)->ItemsOf (λi v=>∃t,v=.int (a+i * c) t) acc n->Q acc.toList { s with heap:=h',toks:=k }):wpAny (model prog w) A (collect (.ref r)) Q E s:=by
 unfold collect;refine zV (wpAny_runValue (kH entry_proto_collect' ?_));rw[Around.under_plainId (by decide +kernel:plainId "proto.collect"=true) _];show wpAny _ A.in1 (newList [] >>= λl=>again (.builtin "list.__iadd__" ⟨[l,.ref r],[]⟩)) _ _ s;refine zV (qM ?_);have S:(s.heap.push { cls:=.type "list",data:=.seq #[] }).get? s.heap.objs.size=some { cls:=.type "list",data:=.seq #[] }:=zX _ rfl;refine zW ⟨plainId_quiet (by decide +kernel) _,VQ (s:={ s with heap:=s.heap.push { cls:=.type "list",data:=.seq #[] } }) d (zU _ f) U N H S λh' k W C K Z R=>?_⟩;show wpAny _ A (load s.heap.objs.size >>= _) _ _ _;refine zV (wpAny_load Z ?_);exact zW (h h' k W (λb o e=>K b o (yS (zY e)) (zU _ e)) R)
def WJ{l:Θ}{f:Ψ}{PV:Γ Θ->Prop}{Q:Θ->Ξ->Prop}(I:Inv X pins σ H s)
  (Yh:∀ {Q':Γ Θ->Ξ->Prop},(∀ (h':ι) (tk:Nat) (vs:Γ Θ),PV vs->(∀b o,s.heap.get? b=↑o->h'.get? b=↑o)->Q' vs { s with heap:=h',toks:=tk })->wpAny (model X.prog X.w) A.in1 (collect l) Q' E s)
  (rest:∀vs,PV vs->vs.length < 64/\∃J:Γ Θ->Hp->Prop,J [] H /\
   (∀us v,vs[us.length]?=↑v->∀pl s' H',Inv X (pins++pl) σ H' s'->J us H'->wpAny (model X.prog X.w) A.in1.in1 (call (.ref f) [v]) (λu SI=>∃Wf,Inv X (pins++pl) σ Wf SI/\J (us++[u]) Wf) (λ_ _=>False) s') /\
   (∀us H',us.length=vs.length->J us H'->∃ (z:Nat->Int) (κ:SortKind),(2<=vs.length->∀s',Inv X pins σ H' s'->(∀Q':SortKind->Ξ->Prop,Q' κ s'->wpAny (model X.prog X.w) A.in1.in1 (keyKind' us.toArray) Q' (λ_ _=>False) s') /\
    ∀i j C,i < vs.length->j < vs.length->C (SP.dB z i j) s'->kas_ask X.prog X.w A.in1.in1 κ us i j C s') /\
   ∀s' D c,Inv X pins σ H' s'->ck X pins H' D->s'.heap.get? D=↑(seqObj "list" (QX z vs).toArray c)->Q (.ref D) s')) :
  wpAny (model X.prog X.w) A (call (.builtin "sorted") [l] [(Str.ofString "key",.ref f)]) Q E s:=by
 refine call_function_entry_kw kind_sorted plain_sorted entry_sorted (ksk_s1 _ _) ?_;unfold Builtin.«sorted»;refine zV (m:=checkCount "sorted" 1 1 _) (zW (zV (Yh λh1 tk vs hv kp=>?_)));let⟨Tj,J,j0,step,fin⟩:=rest vs hv;have Tn:vs.length<=sizeLine:=by rw[qV];lia
 refine zV (kR ?_ (by simpa using Tn));have I1:=I.kept (t':=tk) kp;have fD:ck X pins H h1.objs.size:=I1.RD (yN _) (I1.QK.fresh (yN _));have Vr:(h1.push (seqObj "list" vs.toArray 0)).get? h1.objs.size=↑(seqObj "list" vs.toArray 0):=zX _ rfl;have I2:=I1.kept (t':=tk) (h':=h1.push (seqObj "list" vs.toArray 0)) λb o e=>zU _ e;show wpAny _ _ _ _ _ { s with heap:=h1.push (seqObj "list" vs.toArray 0),toks:=tk };refine zV (xY (wpAny_call_entry_kw slot_list_sort ⟨_,Vr,rfl⟩ entry_list_sort ?body (ksk_l1 _ _)))
 case body =>
  show wpAny (model X.prog X.w) A.in1.in1 (Builtin.«list.sort» ⟨[.ref h1.objs.size],[(Str.ofString "key",.ref f)]⟩) _ _ _;rw[ksk_t1];refine RZ I2 Vr fD Tj J j0 step λus H' hu j'=>?_;let⟨z,κ,hz,hP⟩:=fin us H' hu j';exact⟨z,κ,hz,λs' c I' f' e=>⟨_,rfl,zW ⟨_,rfl,hP s' _ c I' f' e⟩⟩⟩
end T4
namespace Dl
open PySem L2 PySem.Spec PyProof.Rows
def rq(n:Nat):Γ D:=(List.range n).map λi=>PyData.int ((i:Nat):Int)
def rA(cs:Γ Nat)(fs:Env->Δ (Γ D))(te:Env->Δ D):Env->Δ (Γ D):=λa=>(fs a).bind λl=>match l with
 | [.int n]=>if 0<=n/\n < 64 then (iu te (dz 1 cs a) (rq n.toNat)).bind λk=>(rowsOf k).map λQ=>pj (λi=>rk Q (Q.getD i [])) (rq n.toNat) .none else none
 | _=>none
def sM:∀ {vs:Γ Θ}{k:Nat},(∀i v,vs[i]?=↑v->∃t,v=Value.int ((k+i:Nat):Int) t)->az ((List.range' k vs.length).map λi=>V.int ((i:Nat):Int)) vs
 | [],k,_=>.nil
 | v::vs,k,h=>by
  rw[zL,vI,zI];let⟨t,e⟩:=h 0 v rfl;refine .cons ⟨t,by simpa using e⟩ (sM λi u H=>?_);let⟨T,E⟩:=h (i+1) u (by simpa using H);exact⟨T,by rw[E];congr 1;lia⟩
def sV{K:Φ}:∀ (l:Γ Nat),ak K HF (l.map λi=>PyData.int ((i:Nat):Int)) (l.map λi=>V.int ((i:Nat):Int))
 | []=>ak.nil
 | i::l=>ak.cons (by simp[Rep]) (sV l)
section
variable {cs:Γ Nat}
def Bk.UM(C:Bk X N sc (k+3))(B:ou X "sorted" (.builtin "sorted"))(BR:ou X "range" (.type "range"))(L:p6 X qual)(ok:j8 sc scope N N' 1 cs=true)(hl:pK scope N' p=true)
  (r:∀ (cl:Γ (Str×Ψ)) (pm Sz u:Θ) (c:Ψ),bindArgs (W.kla_fn "<lambda>" qual params body scope cl pm (.ref c) Sz) ⟨[u],[]⟩=pure [(p,u)]) (VC:defaultsOf params X.env=([],[])) (h:DA X [e] fs)
  (hY:∀A f c s H,Bk (gG X A qual scope N' f c s H) N' scope k->DE (gG X A qual scope N' f c s H) body te)
  (hsR:starEach [e] X.env=[(false,eval e X.env)])
  (SH:starEach [.Call (.Name "range" p1) [e] [] Us] X.env=(false,eval (.Call (.Name "range" p1) [e] [] Us) X.env)::starEach [] X.env) (he:backTo pos (starEach [.Call (.Name "range" p1) [e] [] Us] X.env)=(false,eval (.Call (.Name "range" p1) [e] [] Us) X.env)::backTo pos (starEach [] X.env)) (RH:(backTo pos (starEach [.Call (.Name "range" p1) [e] [] Us] X.env)).any (·.1)=false) :
  DF X (.Call (.Name "sorted" p0) [.Call (.Name "range" p1) [e] [] Us] [⟨↑"key",.Lambda params body scope RM,VO⟩] pos) (rA cs fs te):=by
 let⟨S,_⟩:=C.comp ok;have Tt:N'.Nodup:=by
  unfold j8 at ok;simp?[zF,zJ] at ok;exact ok.2
 have WH:=hl;unfold pK at WH;simp?[zF,xH,yQ,xC,zJ] at WH;obtain⟨⟨⟨⟨W6,W7⟩,hp⟩,UJ⟩,VA⟩:=WH;let⟨cc,P,SK,VP,hhd,ee⟩:=L.ex;intro pins s σ H Q I ⟨HF,ρ,out,sm,eo,F,q⟩;let⟨ld,hld,F⟩:=bs F;obtain⟨n,rfl⟩:∃n,ld=[.int n]:=by
  split at F
  .exact⟨_,rfl⟩
  .cases F
 simp only at F;split at F;rotate_left
 .cases F
 rename_i Tj;let⟨ks,ZP,F⟩:=bs F;let⟨M,Sn,rfl⟩:=ag F;let⟨hkr,QS⟩:=ku Sn;refine qZ (dJ I B.gl B.mg B.bt ?_ (by decide) (by decide));refine PyProof.Rows.callWith_kw (e:=.Call (.Name "range" p1) [e] [] Us) (rest:=[]) (kws:=[⟨↑"key",.Lambda params body scope RM,VO⟩]) ?_ he RH rfl rfl;rw[he];refine jK ?_;refine Call_ (dJ I BR.gl BR.mg boot_range (qT (bO (h Us pins s σ H _ I ⟨HF,ρ,[.int n],sm,eo,hld,λJ H1 l D r1=>(⟨l,D,r1⟩:∃l,bM HF H l H1/\ak X.K l [.int n] J)⟩) λU g z=>?_) hsR rfl));let⟨J,H1,I1,rv,l,D,r1⟩:=z;let⟨v,vr,rfl,a1,b1⟩:=r1.cons_inv;rw[b1.nil_inv] at rv;let⟨u,rfl,rx⟩:=vals1 rv;simp?[Rep] at a1;subst a1;let⟨t,rfl⟩:=rx;refine call_range_1 ?_;refine kL ?_;let⟨hn0,agJ⟩:=Tj;have I1':=I1.kept (t':=g.toks+1+1) (h':=g.heap.push { cls:=Value.type "range",data:=Data.fields #[Value.int 0 g.toks,Value.int n t,Value.int 1 (g.toks+1)] }) λb o e=>zU _ e;have Yk:(g.heap.push { cls:=Value.type "range",data:=Data.fields #[Value.int 0 g.toks,Value.int n t,Value.int 1 (g.toks+1)] }).get? g.heap.objs.size=some { cls:=Value.type "range",data:=Data.fields #[Value.int 0 g.toks,Value.int n t,Value.int 1 (g.toks+1)] }:=zX _ rfl;have Ir:=I1'.pinned (fp:=[g.heap.objs.size]) (λb r=>by rw[List.mem_singleton.mp r];exact I1.RD (yN _) I1.fresh) (λb r=>by rw[List.mem_singleton.mp r];exact⟨_,Yk,λv z=>by cases z⟩);have hT1:H1 P=↑(.tab qual):=D.fh _ _ (ee l (eo.tb.mono D.ff));show wpAny _ _ (evalAll ((do let v <- eval (.Lambda params body scope RM) X.env;standAt pos;pure v)::[])) _ _ _;refine wpAny_evalAll_cons (zV ?_);refine ym (P:=P) Ir S VP SK (W.codeHd_of_K Ir.ok.mod.YI hhd) hT1 Ir.ok.mod.bmd VC λf c' pm Sz s2 H2 I2 ZQ Vo VB YV fp2 _=>?_;refine zV (vF (zW (wpAny_evalAll_nil ?_)));show wpAny _ _ (call (.builtin "sorted") [.ref g.heap.objs.size] [(Str.ofString "key",.ref f)]) _ _ s2;have WA:IsRange s2.heap g.heap.objs.size 0 n 1 g.toks t (g.toks+1):=(T4.S7 I2 zE Yk).1;have Ip:=I2.pinned (fp:=[f]) (λb r=>by rw[List.mem_singleton.mp r];exact fp2) (λb r=>by rw[List.mem_singleton.mp r];exact⟨_,ZQ,λv z=>by cases z⟩);have g2:bM l H1 l H2:=⟨YV,.refl _,D.fh.trans YV,λ_ _ e=>.inl e⟩
 have hkl:=n6 ZP;have hnl:(rq n.toNat).length=n.toNat:=by simp[rq]
 have hR:dF (k+1) X.A.in1.in1:=C.room.in1.in1;refine T4.WJ (PV:=λJ=>J.length=n.toNat/\∀i v,J[i]?=↑v->∃t,v=Value.int ((i:Nat):Int) t) Ip (λ{Q'} hQ=>?_) λits ⟨Y,Z⟩=>⟨by lia,λU H'=>∃QH O,bM l H2 QH H'/\ak X.K QH (ks.take U.length) O/\az O U,⟨l,[],.refl g2.fh,by simpa using ak.nil,.nil⟩,λU x hx pl' s3 H3 y ⟨Rv,O,m,rk,Xg⟩=>?_,λU H3 hu ⟨Rv,O,m,rk,Xg⟩=>?_⟩
 .refine T4.Tu (n:=n.toNat) C.room.in1.hd WA (small_one (by lia) (by lia) (by lia) (by lia)) (by rw[rangeSize_one];split<;>lia) (by lia) λh' tk acc kp ha=>?_;refine hQ h' tk acc.toList ⟨by have:=ha.1;simpa using this,λi v E=>?_⟩ kp;let⟨t',e'⟩:=ha.2 i v (by simpa using E);exact⟨t',by rw[e'];congr 1;lia⟩
 .have hi:U.length < n.toNat:=by rw[<- Y];exact (List.getElem?_eq_some_iff.mp hx).1
  let⟨tx,rfl⟩:=Z _ _ hx;have hd:(rq n.toNat)[U.length]?=↑(.int ((U.length:Nat):Int)):=by simp[rq,hi]
  let⟨kd,Zs,ZR⟩:=qh ZP hd;have Yi:s3.heap.get? f=↑(W.kla_obj "<lambda>" qual params body scope (dE X.env scope.names []) pm c' Sz) :=
   (y.pin (f,_) (yE _ (qK _ (yE _ (cQ zE ZQ))))).1
  refine xB (yr (v:=V.int ((U.length:Nat):Int)) (Q:=λv H4=>∃R,bM Rv H3 R H4/\Rep X.K R kd v) (te:=tD X.K te) y hR y.ok.frames S W6 W7 hp Tt UJ VA Yi (m.hh _ _ VB) (r _ _ _ _ _) ⟨tx,rfl⟩ (hY _ _ _ _ _ (F0 C hR S.kind Tt hl))
   ⟨Rv,_,kd,m.fh,yj (eo.mono (D.ff.trans m.ff)) (by simp[Rep]),Zs,λv H4 R g4 r4=>⟨R,g4,r4⟩⟩) (λu s4 ⟨v4,H4,I4,r4,R,g4,rp⟩=>⟨H4,I4,R,O++[v4],m.trans g4,?_,Xg.append (.cons r4 .nil)⟩) λ_ _ e=>e
  rw[zN,xD,wX,ZR];exact (rk.mono g4.ff).append (ak.cons rp ak.nil)
 .have QV:ks.take U.length=ks:=kM (by lia);rw[QV,hkr] at rk;have hnn:M.length=n.toNat:=by
   have:=jD List.length hkr;rw[zD] at this;lia
  refine⟨λi=>Dl.rk M (M.getD i []),tuples' true,λh2 s3 y=>⟨λQ' q'=>?_,λi j Cc hi hj q'=>?_⟩,λs3 Dn c y fD e=>?_⟩
  .let⟨fs',tt,hlen,hff⟩:=nz (gE y m.fh rk Xg) QS;refine W.kat_kind (T:=.type "int") tt (by lia) (λv E=>?_) (by decide) q';let⟨n',t',rfl⟩:=hff v E;exact W.Looks.of_pure rfl
  .have hp3:=gE y m.fh rk Xg;have ri:=dG (d:=Value.none) (d':=[]) hp3 (show i < U.length by lia);have rj:=dG (d:=Value.none) (d':=[]) hp3 (show j < U.length by lia);let⟨a,o,Ye,n1,ea,e1,e2,e3,e4⟩:=ri.ex;let⟨b,o',its',n',eb,f1,f2,f3,f4⟩:=rj.ex;unfold W.kas_ask;rw[ea,eb];have Wz:M.getD i []∈M:=by
    rw[zG,zK (by lia)];exact qB _
   have q2:Cc (lexLt (M.getD i []) (M.getD j [])) s3:=by
    rw[oN Wz];exact q'
   refine W.kat_lt e1 e3 f1 f3 ?_;have:=mZ (prog:=X.prog) (w:=X.w) (A:=X.A.in1.in1) (s:=s3) 0 e4 f4 q2;have l1:Ye.size=(M.getD i []).length:=by have:=wA e4;simpa using this
   have l2:its'.size=(M.getD j []).length:=by have:=wA f4;simpa using this
   rw[l1,l2];exact this
  .have T6:az ((List.range n.toNat).map λi=>V.int ((i:Nat):Int)) its:=by
    have:=sM (vs:=its) (k:=0) λi v E=>by
     let⟨t',e'⟩:=Z i v E;exact⟨t',by rw[e'];congr 1;lia⟩
    rw[Y,<- yH] at this;exact this
   have rr:ak X.K l (rq n.toNat) ((List.range n.toNat).map λi=>V.int ((i:Nat):Int)):=sV _;have E:=pD (λi=>Dl.rk M (M.getD i [])) T6;have hr:=qw (λi=>Dl.rk M (M.getD i [])) rr;have Yj:H3 Dn=none:=fD.1;have I4:=Inv.Xf (o:=.lst (pj (λi=>Dl.rk M (M.getD i [])) ((List.range n.toNat).map λi=>V.int ((i:Nat):Int)) .QB)) y fD ⟨by rw[(fK _ _ _).length_eq,zD,zR,PySem.sizeLine_eq];lia,_,c,E,e⟩;have G:=(D.trans g2).trans m;refine⟨.ref Dn,_,I4.QZ.QZ,rfl,q Dn _ _ Rv (G.trans (.own G.fh Yj)) (G.hh.free Yj) (G.fh.free Yj) aI (hr.mono m.ff)⟩
end
def GT(i j l:Nat):Env->D->Δ Env:=λa d=>match d with
 | .tuple [x,y,z]=>if isFree a i=true/\isFree a j=true/\isFree a l=true then ↑(((a.set i (↑x)).set j (↑y)).set l (↑z)) else none
 | _=>none
def FX(i j l:Nat)(hc:X.calm=true)(n:X.N.Nodup)(hi:X.N[i]?=↑x)(t:Loc X.env.scope x)(J:X.N[j]?=↑y)(Y:Loc X.env.scope y)(hl:X.N[l]?=↑z)(Z:Loc X.env.scope z)
  (f:X.fn x=true\/X.env.scope.names.lookup x=↑.local) (W:X.fn y=true\/X.env.scope.names.lookup y=↑.local) (o:X.fn z=true\/X.env.scope.names.lookup z=↑.local) :
  DG X (.Tuple [.Name x U,.Name y py,.Name z pz] k pos) (GT i j l) :=
 pP (AH hc (fX (fx n hi t f) (fX (fx n J Y W) (fX (fx n hl Z o) uN)))) λv P H Q z=>by
  let⟨F,O,d,C,S,e,r,f,q⟩:=z;unfold GT at f;split at f
  .rename_i K L M;split at f
   .rename_i b;cases f;simp?[Rep] at r;let⟨a,I,rfl,s,R⟩:=r;let⟨V,D,rfl,A,B⟩:=R.cons_inv;let⟨u,E,rfl,c,m⟩:=B.cons_inv;let⟨w,G,rfl,g,p⟩:=m.cons_inv;rw[p.nil_inv] at s;exact⟨a,_,rfl,ax S s,rfl,V,_,rfl,u,_,rfl,w,_,rfl,rfl,q _ (iL (iL (iL e A) c) g) (lq (lq (lq e b.1) b.2.1) b.2.2)⟩
   .cases f
  .cases f
def NY{xs:Γ Θ}(h:2<=xs.length):((List.range 2).filterMap λ(k:Nat)=>xs.toArray[((1:Int)+(k:Int) * (-1)).toNat]?)=(xs.take 2).reverse:=by
 match xs,h with
 | a::b::r,_=>rfl
def EK{prog:ε}{w:δ}{A:ξ}{E:Θ->Ξ->Prop}{s:Ξ}{t l:Ψ}{its:Γ Θ}{k T:Tok}{Q:Θ->Ξ->Prop}(ht:IsTup s.heap t its.toArray)(hs:s.heap.IsSliceOf l (.int 1 T) .none (.int (-1) k))
  (H:2<=its.length) (h:Q (.ref s.heap.objs.size) { s with heap:=s.heap.push { cls:=.type "tuple",data:=.seq (its.take 2).reverse.toArray } }):wpAny (model prog w) A (getItem (.ref t) (.ref l)) Q E s:=by
 let⟨O,S,W,P⟩:=id hs;have X:s.TypeIs (.ref l) "slice":=⟨O,S,W⟩
 unfold getItem
 try with_reducible refine xY ?_
 first|refine zV (zW ?_)|skip
 refine zV (wpAny_sequenceKey ht.typeIs (by decide) (zV (qD (name:=Str.ofString "__getitem__") ht.typeIs jG (qX jG ht.typeIs entry_tuple_getitem ?_ (args_tuple_getitem _ _)))));refine zV (m:=Builtin.Tuple.tupleItemsOf (.ref t)) (tupleItemsOf_ ht (zV (wN X ?_)));rw[yM (by decide)];have Z:∀ {R:Int×Int×Nat->Ξ->Prop},R (1,-1,2) s->wpAny (model prog w) A.in1 (Builtin.Slice.sliceApplied (.ref l) (pure ((its.toArray.size:Nat):Int))) R E s:=λ{R} hR=>by
  unfold Builtin.Slice.sliceApplied Builtin.Slice.sliceFields;refine zV (zV (qU S P (x:=.int 1 T) rfl (zV (qU S P (x:=.none) rfl (zV (qU S P (x:=.int (-1) k) rfl (zW ?_)))))));refine zV (slicePart_int ?_);show wpAny _ _ (if ((-1:Int) == 0)=true then _ else _) _ _ s;rw[yO (by decide)];refine zV (slicePart_int (zV (slicePart_none (zV (zW ?_)))));have e:Builtin.Slice.sliceAdjust (↑1) none (-1) ((its.toArray.size:Nat):Int)=(1,-1):=by
   simp[Builtin.Slice.sliceAdjust];lia
  show wpAny _ _ (match Builtin.Slice.sliceAdjust (↑1) none (-1) ((its.toArray.size:Nat):Int) with|(o,i)=>pure (o,(-1:Int),Builtin.Slice.slicePlaces o i (-1))) _ _ s;rw[e];have a:Builtin.Slice.slicePlaces 1 (-1) (-1)=2:=by decide
  show wpAny _ _ (pure ((1:Int),(-1:Int),Builtin.Slice.slicePlaces 1 (-1) (-1))) _ _ s;rw[a];exact zW hR
 first
  | refine zV (Z ?_)
  | refine zV (wpAny_of_in1 (Z ?_))
 show wpAny _ _ (if ((1:Int) == 0&&(-1:Int) == 1&&2 == its.toArray.size)=true then _ else _) _ _ s;rw[yO (by simp),NY H];have U:sizeOk (.seq (its.take 2).reverse.toArray):=yD (m:=2) (by simp;lia) (by decide)
 first
  | exact zV (m:=Builtin.Tuple.tupleExact _) (qM (zW ⟨_,rfl,zW h⟩) U)
  | exact zV (m:=Builtin.Tuple.tupleExact _) (qM (zV (zW (zW ⟨_,rfl,zW h⟩))) U)
  | exact zV (zV (m:=Builtin.Tuple.tupleExact _) (qM (zW (zW ⟨_,rfl,zW h⟩)) U))
  | exact zV (zV (m:=Builtin.Tuple.tupleExact _) (qM (zW ⟨_,rfl,zW h⟩) U))
def Ha(D:PE X a ta):PE X (.Subscript a (.Slice (↑(.Constant (.int 1) i U)) none (↑(.UnaryOp .USub (.Constant (.int 1) j p4) p3)) p2) pos) (λσ H Q=>ta σ H λx c=>∃b xs,x=.ref b/\f9 X.K c b xs/\2<=xs.length/\∀p,c p=none->Q (.ref p) (upd c p (.tup (xs.take 2).reverse))):=by
 intro P s σ H Q I h;refine Subscript_ (bO (D P s σ H _ I h) λv M z=>?_);let⟨x,c,A,J,b,xs,e,u,C,q⟩:=z;subst e;cases J;refine wpAny_Slice ?_;have O:=pf (X:=X) (uZ (X:=X) (i:=1) (j:=i) (pos:=U)) P M σ c (λo f=>o=↑1/\f=c) A ⟨1,rfl,rfl,rfl⟩;refine bO O λW L z=>?_;let⟨o,m,y,l,E,k⟩:=z;subst E k;rw[evalPart_none];refine zW ?_;have B:=pf (X:=X) (F6 (op:=.USub) Ai (uZ (X:=X) (i:=1) (j:=j) (pos:=p4)) (pos:=p3)) P L σ m (λo f=>o=↑(-1)/\f=m) y ⟨1,rfl,-1,rfl,rfl,rfl⟩;refine bO B λY d z=>?_;let⟨o,w,n,t,E,k⟩:=z;subst E k;cases l with
 | int _ T =>
 cases t with
 | int _ N =>
 let⟨F,r,ht,hz⟩:=n.tuple u;have g:Inv X P σ w { d with heap:=d.heap.push { cls:=.type "slice",data:=.fields #[.int 1 T,.none,.int (-1) N] } }:=n.kept (t':=d.toks) λb G q=>zU _ q;let⟨S,R,Z,_⟩:=g.tuple u;refine tail_any (ops:=[.ref b,.ref d.heap.objs.size]) Z.typeIs PyProof.Rows.slot_tuple_getitem.lookup (EK Z (Heap.IsSliceOf.new ..) (by rw[<- R.length];exact C) ?_) (by with_unfolding_all rfl);have V:az (xs.take 2).reverse (S.take 2).reverse:=L2.az.reverse (R.take 2);exact⟨.ref _,_,g.laid (t':=d.toks) (o:=.tup (xs.take 2).reverse) (λb G q=>zU _ q) (yN _) ⟨by rw[List.length_reverse,jX];lia,_,V,nK.new _ _⟩,rfl,q _ g.fresh⟩
def sL:D->Δ D|.tuple d=>if 2<=d.length then ↑(.tuple (d.take 2).reverse) else none|_=>none
def IX(A:DE X a fa):DE X (.Subscript a (.Slice (↑(.Constant (.int 1) i U)) none (↑(.UnaryOp .USub (.Constant (.int 1) j p4) p3)) p2) pos) (f1 sL fa):=aW (Ha A) λo H Q z=>by
 let⟨F,l,d,m,e,f,q⟩:=z;let⟨x,k,f⟩:=bs f;refine⟨F,l,x,m,e,k,λV n G g r=>?_⟩;unfold sL at f;split at f<;>try cases f
 split at f
 .rename_i c;cases f;simp?[Rep] at r;let⟨b,v,rfl,s,R⟩:=r;exact⟨b,v,rfl,ax g.fh s,by rw[R.length];exact c,λp P=>q _ _ _ (g.trans (.new g.fh P)) (cD (g.fh.free P) (R.take 2).reverse)⟩
 .cases f
def Oh(x y:D):Δ θ:=match y with
 | .tuple d=>if SeqAt.shaped x=true/\SeqAt.shaped y=true then ↑(!d.any λz=>PyData.eqv z x) else none
 | .list d=>if SeqAt.shaped x=true/\SeqAt.shaped y=true then ↑(!d.any λz=>PyData.eqv z x) else none
 | _=>none
def Eg(u:X.A.units+66 < cLine):gY X (compareOp .NotIn) (Oo X.K Oh):=by
 intro p s l H v V U j Q I f Y h;let⟨F,x,y,k,S,R,e,g,q⟩:=h;let⟨i,r⟩:=fO I S R f;let⟨B,b⟩:=fO I S e Y;cases y<;>simp?[Oh] at g<;>try cases g
 all_goals
  split at g<;>cases g;rename_i d a;have C:=SeqAt.canLay_of_shaped a.1;have c:=SeqAt.canLay_of_shaped a.2;have D:=SeqAt.depth_of_shaped a.1;simp?[PyData.canLay0] at c;have m:=Nat.min_le_right (PyData.depthAll d) x.depth
  first
   | exact SeqAt.notIn_list_reads b r c C (by lia) ⟨.bl _,H,I,rfl,q⟩
   | exact SeqAt.notIn_tuple_reads b r c C (by lia) ⟨.bl _,H,I,rfl,q⟩
def Di:D->D->Δ D:=λx y=>(Oh x y).map PyData.bool
def Bk.ZT(C:Bk X N sc k)(H:DE X a fa)(B:DE X b fb)(m:behindInMarks .NotIn b=false:=by rfl):DE X (.Compare a [.NotIn] [b] pos) (f2 Di fa fb):=iZ (Eg C.u66) oA H B m
def Bk.adp(C:Bk X N sc k)(H:DE X a fa)(B:DE X b fb)(m:behindInMarks .NotIn b=false:=by rfl):DT X (.Compare a [.NotIn] [b] pos) (fB (f2 Di fa fb)):=iE (Eg C.u66) oA H B m
structure PQ(h:Heap)(v:Value)(r:List Int):Prop where
 ex:∃ (a:Ψ) (o:Obj) (n:Nat) (p:Θ) (x y m:Int) (t:Tok),v=.ref a/\r=[x,y,m]/\h.get? a=↑o/\o.cls=.type "tuple"/\o.data=.seq #[p,.int m t] n/\iI h p [x,y]
end Dl
namespace HT
open PySem PyProof.Rows
section
open PySem.SeqAt
open PySem.AutoSeq1 (wpAny_loadPart')
open PySem.MeetsSeq PySem.MeetsSeq2 PySem.MeetsSeq3
end
end HT
namespace Dl
open PySem L2 PySem.Spec PyProof.Rows
def i8:Γ D->Δ (Γ (Γ Int))
 | []=>↑[]
 | d::r=>(bQ d).bind λn=>(i8 r).map (n::·)
section
variable {fl te:Env->Δ D}{cs:Γ Nat}
end
end Dl
namespace HT
open PySem PyProof.Rows
section
open PySem.SeqAt
open PySem.AutoSeq1 (wpAny_loadPart')
open PySem.MeetsSeq PySem.MeetsSeq2 PySem.MeetsSeq3
end
end HT
namespace Dl
open PySem L2 PySem.Spec PyProof.Rows
structure QA(h:Heap)(v:Value)(r:List Int):Prop where
 ex:∃ (a:Ψ) (o:Obj) (n:Nat) (p:Θ) (x y:Int) (t u:Tok) (ns:Γ Int),v=.ref a/\r=x::y::ns/\h.get? a=↑o/\o.cls=.type "tuple"/\o.data=.seq #[.int x t,.int y u,p] n/\iI h p ns
def Gz(F:DK X.prog X.w X.K X.mg X.base k x n m)(r:dF k X.A)(g:Gl X x)(T:(x == ("__debug__":Str))=false):DE X (.Call (.Name x p) [] [] pos) (ah n m af):=by
 let⟨f,i,P,o,M,c,B⟩:=F.ex;refine aW (D0 (E:=E0) o r g M c B .nil J4 T) λt H Q z=>?_;let⟨b,j,d,s,e,a,q⟩:=z;have a:(if ([]:Γ D).length=n then m [] else none)=↑d:=a;split at a
 .rename_i l;exact⟨b,[],d,s,e.tb,.nil,l,a,q⟩
 .cases a
inductive Pa{α:Type}(X:Cx)(R:Addr->α->Prop):List Expr->List α->List V->Prop
 | nil:Pa X R [] [] []
 | cons {x:Str}{p:Pos}{m:α}{f:Ψ}{es:Γ γ}{ms:Γ α}{vs:Γ V}(hg:Gl X x) (hm:X.mg x=↑(.ref f)) (hd:(x == ("__debug__":Str))=false) (r:R f m) (t:Pa X R es ms vs):Pa X R (.Name x p::es) (m::ms) (.ref f::vs)
end Dl
namespace Sx
open PySem SetTable
variable {mask:Nat}
def VR(mask i:Nat):i<=runEnd mask i/\runEnd mask i<=i+9:=by
 unfold runEnd;split<;>lia
def SD(t:SetTable):Nat->Probe->Probe
 | 0,p=>p
 | n+1,p=>SD t n (t.advance p)
def Tv(t:SetTable):∀a b p,SD t (a+b) p=SD t b (SD t a p)
 | 0,b,p=>by rw[jE];rfl
 | a+1,b,p=>by rw[show a+1+b=a+b+1 by lia];exact Tv t a b _
def rs(t:SetTable)(z:Nat×Nat):Probe:={ j:=z.1,more:=runEnd t.mask z.1 - z.1,i:=z.1,perturb:=z.2,dummy:=none }
def Tw(t:SetTable):∀ (m:Nat) (p:Probe),p.more=m->p.dummy=none->SD t (m+1) p=rs t (leap t.mask p.i p.perturb)
 | 0,p,h,H=>by
  show t.advance p=_;unfold advance;rw[yO (by lia)];let⟨a,b,c,d,e⟩:=p;cases H;rfl
 | m+1,p,h,H=>by
  show SD t (m+1) (t.advance p)=_;have e:t.advance p={ p with j:=p.j+1,more:=p.more - 1 }:=by
   unfold advance;rw[yM (by lia)]
  rw[e];exact Tw t m _ (by show p.more - 1=m;lia) H
def UN(t:SetTable):∀ (r:Nat) (z:Nat×Nat),∃n,n<=10 * r/\SD t n (rs t z)=rs t (run t.mask r z)
 | 0,z=>⟨0,yN _,rfl⟩
 | r+1,z=>by
  let⟨n,H,e⟩:=UN t r (leap t.mask z.1 z.2);refine⟨(runEnd t.mask z.1 - z.1)+1+n,?_,?_⟩
  .have:=VR t.mask z.1;lia
  .rw[Tv,Tw t (runEnd t.mask z.1 - z.1) (rs t z) rfl rfl];exact e
def Vc{t:SetTable}{i:Nat}(h:t.slot j=.live i):i < t.place.size:=by
 unfold slot at h;dsimp only at h;split at h
 .rename_i q;cases h;exact (Array.getElem?_eq_some_iff.mp (eq_of_beq q)).1
 .split at h<;>cases h
def Tz{t:SetTable}(d:t.dummies=#[])(j:Nat):t.slot j≠.dummy:=by
 unfold slot has;dsimp only;split
 .exactλz=>by cases z
 .rw[d];split
  .rename_i q;simp at q
  .exactλz=>by cases z
def TB{t:SetTable}{f:Nat->Int}{h:Int}(hd:t.dummies=#[])(hf:∀i,i < t.place.size->f i≠h):∀ (fuel:Nat) (p:Probe),p.dummy=none->(∃n,n < fuel/\t.slot (SD t n p).j=.empty)->∃j,t.slot j=.empty/\probe.go t f h fuel p=↑(.empty j none)
 | 0,p,_,⟨n,hn,_⟩=>absurd hn (vS n)
 | fuel+1,p,hp,⟨n,hn,e⟩=>by
  unfold probe.go;cases q:t.slot p.j with
  | empty=>exact⟨p.j,q,by rw[hp]⟩
  | dummy=>exact absurd q (Tz hd _)
  | live i =>
   dsimp only;rw[yO (by simpa using hf i (Vc q))];cases n with
   | zero=>rw[show SD t 0 p=p from rfl,q] at e;cases e
   | succ n =>
    refine TB hd hf fuel _ ?_ ⟨n,by lia,e⟩;unfold advance;split<;>exact hp
def Vd{t:SetTable}(hd:t.dummies=#[])(hl:t.place.size<=t.mask):∃j,j<=t.mask/\t.slot j=.empty:=by
 by_cases h:∃j,j<=t.mask/\t.slot j=.empty
 .exact h
 .exfalso;have:=RG (l:=List.range (t.mask+1)) (m:=t.place.toList) List.nodup_range λj hj=>by
   have hj:=List.mem_range.mp hj;cases q:t.slot j with
   | empty=>exact absurd ⟨j,by lia,q⟩ h
   | dummy=>exact absurd q (Tz hd _)
   | live i =>
    unfold slot at q;dsimp only at q;split at q
    .rename_i z;have z:=eq_of_beq z;let⟨hi,e⟩:=Array.getElem?_eq_some_iff.mp z;rw[<- e];exact Array.getElem_mem_toList hi
    .split at q<;>cases q
  rw[zR,wH] at this;lia
def UO(h:Int):bits h < 2 ^ 64:=by
 unfold bits;have H:=vA h (show (0:Int) < 2 ^ 64 by decide);have a:=vW h (show (2 ^ 64:Int)≠0 by decide);lia
def TC{t:SetTable}(H:∃k,t.mask+1=2 ^ k)(d:t.dummies=#[])(hl:t.place.size<=t.mask)(F:∀i,i < t.place.size->f i≠h):∃j,t.slot j=.empty/\t.probe f h (t.probeStart h)=↑(.empty j none):=by
 let⟨k,H⟩:=H;let⟨j,J,e⟩:=Vd d hl;let⟨r,a,R⟩:=reach H (z:=(bits h % (t.mask+1),bits h)) (UO h) J;let⟨n,N,E⟩:=UN t r (bits h % (t.mask+1),bits h);refine TB d F _ _ rfl ⟨n,?_,?_⟩
 .unfold turns;lia
 .show t.slot (SD t n (rs t (bits h % (t.mask+1),bits h))).j=_;rw[E];show t.slot (run t.mask r (bits h % (t.mask+1),bits h)).1=_;rw[R];exact e
def SQ{mask:Nat}{owner:Array (Δ Nat)}:∀ (f i p:Nat),(∃r,r < f/\(owner.getD (run mask r (i,p)).1 (↑0)).isNone=true)->∃j,layClean.free mask owner f i p=↑j/\(owner.getD j (↑0)).isNone=true
 | 0,i,p,⟨r,H,_⟩=>absurd H (vS r)
 | f+1,i,p,⟨r,H,e⟩=>by
  unfold layClean.free;cases q:(List.range (runEnd mask i+1 - i)).find? λk=>(owner.getD (i+k) (↑0)).isNone with
  | some k=>exact⟨i+k,rfl,by simpa using vV q⟩
  | none =>
   cases r with
   | zero =>
    exfalso;have:=List.find?_eq_none.mp q 0 (List.mem_range.mpr (by have:=VR mask i;lia));exact this e
   | succ r=>exact SQ f _ _ ⟨r,by lia,e⟩
def UP:∀ (l:Γ Nat),(∀i∈l,g i=f i)->l.filterMap g=l.filterMap f
 | [],_=>rfl
 | a::l,h=>by
  have I:=UP l λi H=>h i (zC _ H);have e:=h a zE;cases q:f a with
  | none=>rw[List.filterMap_cons_none (e.trans q),List.filterMap_cons_none q,I]
  | some v=>rw[List.filterMap_cons_some (e.trans q),List.filterMap_cons_some q,I]
def UQ(H:f j=none)(G:g j=↑v)(Q:∀i,i≠j->g i=f i):∀ (l:Γ Nat),l.Nodup->j∈l->(l.filterMap g).Perm (v::l.filterMap f)
 | a::l,n,J=>by
  rw[kX] at n;by_cases e:a=j
  .subst e;rw[List.filterMap_cons_some G,List.filterMap_cons_none H];refine .cons _ (.of_eq (UP l λi b=>Q i λz=>n.1 (z ▸ b)))
  .have I:=UQ H G Q l n.2 ((List.mem_cons.mp J).resolve_left (jO e));cases q:f a with
   | none=>rw[List.filterMap_cons_none (by rw[Q a e,q]),List.filterMap_cons_none q];exact I
   | some u=>rw[List.filterMap_cons_some (by rw[Q a e,q]),List.filterMap_cons_some q];exact (I.cons u).trans (.swap _ _ _)
structure Lay(mask:Nat)(owner:Array (Option Nat))(k:Nat):Prop where
 size:owner.size=mask+1
 pm:((List.range (mask+1)).filterMap λj=>owner.getD j none).Perm (List.range k)
def Lay.init(mask:Nat):Lay mask (Array.replicate (mask+1) none) 0 where
 size:=Array.size_replicate
 pm:=by
  refine .of_eq (List.filterMap_eq_nil_iff.mpr λj _=>?_);simp[Array.getD]
def Lay.room{owner:Array (Δ Nat)}{k:Nat}(L:Lay mask owner k)(h:k<=mask):∃j,j<=mask/\(owner.getD j (↑0)).isNone=true:=by
 by_cases e:∃j,j<=mask/\(owner.getD j (↑0)).isNone=true
 .exact e
 .exfalso;have:∀l:Γ Nat,(∀x∈l,x<=mask)->(l.filterMap λj=>owner.getD j none).length=l.length:=by
   intro l
   induction l with
   | nil=>intro _;rfl
   | cons a l i =>
    intro b;have A:=b a zE;have c:a < owner.size:=by rw[L.size];lia
    cases q:owner.getD a none with
    | none =>
     refine absurd ⟨a,A,?_⟩ e;have Q:owner.getD a (↑0)=none:=by
      simp?[Array.getD,c,dite_true] at q ⊢;exact q
     rw[Q];rfl
    | some v=>rw[List.filterMap_cons_some (f:=λj=>owner.getD j none) q,zL,zL,i λx H=>b x (zC _ H)]
  have d:=this (List.range (mask+1)) λx H=>by have:=List.mem_range.mp H;lia
  rw[L.pm.length_eq,zR,zR] at d;lia
def Lay.put{owner:Array (Δ Nat)}{k j:Nat}(L:Lay mask owner k)(J:(owner.getD j (↑0)).isNone=true):Lay mask (owner.setIfInBounds j (↑k)) (k+1):=by
 have H:j < owner.size:=by
  by_cases h:j < owner.size
  .exact h
  .simp[Array.getD,h] at J
 have a:owner.getD j none=none:=by
  simp?[Array.getD,H,dite_true] at J ⊢;simpa using J
 have g:(owner.setIfInBounds j (↑k)).getD j none=↑k:=by simp[Array.getD,H]
 have G:∀i,i≠j->(owner.setIfInBounds j (↑k)).getD i none=owner.getD i none:=λi I=>by
  by_cases h:i < owner.size
  .simp[Array.getD,h,Array.getElem_setIfInBounds,jO I]
  .simp[Array.getD,h]
 refine⟨by rw[Array.size_setIfInBounds];exact L.size,?_⟩;refine (UQ a g G _ List.nodup_range (List.mem_range.mpr (by rw[<- L.size];exact H))).trans ((L.pm.cons k).trans ?_);rw[vT];exact List.perm_append_comm (l₁:=[k])
def UR{mask:Nat}(K:∃k,mask+1=2 ^ k):∀ (hs:Γ Int) (owner:Array (Δ Nat)) (k:Nat),Lay mask owner k->k+hs.length<=mask+1->∃V,(hs.foldl (init:=↑(owner,k)) λacc h=>do let (owner,k) <- acc;let j <- layClean.free mask owner (turns mask) (bits h % (mask+1)) (bits h);pure (owner.setIfInBounds j (↑k),k+1))=↑(V,k+hs.length)/\Lay mask V (k+hs.length)
 | [],owner,k,L,_=>⟨owner,rfl,L⟩
 | h::hs,owner,k,L,l=>by
  rw[zL] at l;let⟨j,J,e⟩:=L.room (by lia);let⟨f,Q⟩:=K;let⟨r,R,E⟩:=reach Q (z:=(bits h % (mask+1),bits h)) (UO h) J;let⟨d,H,a⟩:=SQ (mask:=mask) (owner:=owner) (turns mask) (bits h % (mask+1)) (bits h) ⟨r,by unfold turns;lia,by rw[E];exact e⟩;let⟨o,b,c⟩:=UR ⟨f,Q⟩ hs _ (k+1) (L.put a) (by lia);refine⟨o,?_,?_⟩
  .rw[yJ,zL,show k+(hs.length+1)=k+1+hs.length by lia];have:(do let (owner,k) <- some (owner,k);let j <- layClean.free mask owner (turns mask) (bits h % (mask+1)) (bits h);pure (owner.setIfInBounds j (↑k),k+1))=↑(owner.setIfInBounds d (↑k),k+1):=by
    show (layClean.free mask owner (turns mask) (bits h % (mask+1)) (bits h)).bind _=_;rw[H];rfl
   rw[this];exact b
  .rw[zL,show k+(hs.length+1)=k+1+hs.length by lia];exact c
def Ut(f:Nat->Δ α):∀l:Γ Nat,(l.filterMap λj=>(f j).map (j,·)).map (·.1)=l.filter λj=>(f j).isSome
 | []=>rfl
 | a::l=>by
  cases q:f a with
  | none=>rw[List.filterMap_cons_none (by rw[q];rfl),List.filter_cons_of_neg (by rw[q];simp),Ut f l]
  | some v=>rw[List.filterMap_cons_some (by rw[q];rfl),List.filter_cons_of_pos (by rw[q];rfl),zI,Ut f l]
def Uu(f:Nat->Δ α):∀l:Γ Nat,(l.filterMap λj=>(f j).map (j,·)).map (·.2)=l.filterMap f
 | []=>rfl
 | a::l=>by
  cases q:f a with
  | none=>rw[List.filterMap_cons_none (by rw[q];rfl),List.filterMap_cons_none q,Uu f l]
  | some v=>rw[List.filterMap_cons_some (by rw[q];rfl),List.filterMap_cons_some q,zI,Uu f l]
def Ve{mask finger moves:Nat}{led plain:θ}{hs:Array Int}(K:∃k,mask+1=2 ^ k)(hl:hs.size<=mask+1) :
  ∃pl d,laid mask finger moves led plain hs=↑(⟨mask,pl,#[],finger,led,moves,plain⟩,d)/\pl.size=hs.size/\pl.toList.Pairwise (· < ·)/\d.toList.Perm (List.range hs.size):=by
 let⟨o,H,L⟩:=UR K hs.toList _ 0 (Lay.init mask) (by rw[wH];lia);have hc:layClean mask hs=↑o:=by
  unfold layClean;rw[<- Array.foldl_toList,H];rfl
 rw[jE,wH] at L;have E:=Ut (λj=>o.getD j none) (List.range (mask+1));have e:=Uu (λj=>o.getD j none) (List.range (mask+1));have n:=jD List.length e;rw[zD,L.pm.length_eq,zR] at n;refine⟨(((List.range (mask+1)).filterMap λj=>(o.getD j none).map (j,·)).map (·.1)).toArray,(((List.range (mask+1)).filterMap λj=>(o.getD j none).map (j,·)).map (·.2)).toArray,?_,?_,?_,?_⟩
 .unfold laid;rw[hc];rfl
 .simpa using n
 .rw[List.toList_toArray,E];exact List.Pairwise.filter _ List.pairwise_lt_range
 .rw[List.toList_toArray,e];exact L.pm
def TF:∀ (f size n:Nat),n < size * 2 ^ f->∃m,sizeAbove.go n f size=size * 2 ^ m/\n < size * 2 ^ m/\(sizeAbove.go n f size=size\/sizeAbove.go n f size<=2 * n)
 | 0,size,n,h=>⟨0,by simp[sizeAbove.go],by simpa using h,.inl rfl⟩
 | f+1,size,n,h=>by
  unfold sizeAbove.go;by_cases q:size<=n
  .rw[yM q];let⟨m,a,b,H⟩:=TF f (size * 2) n (by rw[Nat.mul_assoc,Nat.mul_comm 2,<- Nat.pow_succ];exact h);refine⟨m+1,by rw[a,Nat.pow_succ,Nat.mul_comm (2 ^ m),Nat.mul_assoc],by rw[Nat.pow_succ,Nat.mul_comm (2 ^ m),<- Nat.mul_assoc];exact b,.inr ?_⟩;rcases H with H|H
   .rw[H];lia
   .exact H
  .rw[yO q];exact⟨0,by simp,by simpa using q,.inl rfl⟩
def above(h:n < 2 ^ 60):∃k,sizeAbove n=2 ^ k/\n < sizeAbove n/\(sizeAbove n=8\/sizeAbove n<=2 * n):=by
 let⟨m,H,a,b⟩:=TF 64 8 n (wU h (by decide));refine⟨m+3,?_,?_,b⟩
 .show sizeAbove.go n 64 8=_;rw[H,Nat.pow_add,Nat.mul_comm]
 .show n < sizeAbove.go n 64 8;rw[H];exact a
end Sx
namespace Se
open PySem PySem.W PySem.Calls PyProof.Rows
variable {Q:Δ Θ->Ξ->Prop}
def slot_next:Slot "set_iterator" "__next__" "set_iterator.__next__" :=
 .of (owner:="set_iterator") (n:="__next__") (by rw[typeLookup_type,builtinLookup_eq_fast];kernel_rfl) (by decide +kernel) (by decide +kernel) (by decide +kernel) (by first|exact .inl (by decide +kernel)|exact .inr (by decide +kernel)) (by rw[isSubtype_type];kernel_rfl)
def entry_next:entryFor table "set_iterator.__next__"=↑Builtin.«set_iterator.__next__»:=entryFor_of_tree (by kernel_rfl)
def args_next(a:Θ):argsOk "set_iterator.__next__" ⟨[a],[]⟩:=by unfold argsOk;kernel_rfl
def Uv:entryFor table "set.__iter__"=↑Builtin.«frozenset.__iter__»:=entryFor_alias (id':="frozenset.__iter__") (by kernel_rfl) rfl (by decide +kernel) (by kernel_rfl)
def R0:∀ (l:Γ α) (i:Nat) (h:i < l.length),(l[i]::l.eraseIdx i).Perm l
 | a::l,0,_=>.refl _
 | a::l,i+1,h=>by
  rw[List.getElem_cons_succ,List.eraseIdx_cons_succ];exact (List.Perm.swap a _ _).trans ((R0 l i (by simpa using h)).cons a)
def SR{α:Type}(next:Nat->Nat):∀ (n k:Nat) (left:Γ α) (o:Array α),left.length=n->(pickOrder.go next n k left o).toList.Perm (o.toList++left)
 | 0,_,left,o,h=>by
  rw[List.length_eq_zero_iff.mp h,qG];exact .refl _
 | n+1,k,left,o,h=>by
  have l:next k % left.length < left.length:=Nat.mod_lt _ (by lia)
  have e:left[next k % left.length]?=↑left[next k % left.length]:=by simp[l]
  rw[pickOrder.go,e];refine (SR next n (k+1) _ _ (by rw[List.length_eraseIdx,yM l];lia)).trans ?_;rw[Array.toList_push,List.append_assoc];refine List.Perm.append_left _ ?_;exact R0 left _ l
def VT{α:Type}(next:Nat->Nat)(xs:Array α):(pickOrder next xs).toList.Perm xs.toList:=by
 unfold pickOrder;exact SR next xs.size 0 xs.toList #[] (by simp)
def Rz(w:δ)(a:Ψ)(ep:Nat)(es:Array (Int×Θ)):Array (Int×Θ):=if w.params.followText "set-order"=true then pickOrder (w.params.setOrder a ep) es else es
def SS:(Rz w a ep es).toList.Perm es.toList:=by
 unfold Rz;split
 .exact VT _ _
 .exact .refl _
def Q5:(Rz w a ep es).size=es.size:=by rw[<- wH,SS.length_eq,wH]
structure Q6(w:World)(h:Heap)(a:Addr)(es:Array (Int×Value))(ep:Nat)(t:SetTable):Prop where
 get:∃o,h.get? a=↑o/\o.ExactSet/\o.data=.set es ep t
 fits:t.fits es.size=true
 plain:t.plain=true
 led:t.led=!(w.params.followText "set-order")
 Wg:∀i j,i < j->j < t.place.size->t.place.getD i 0 < t.place.getD j 0
def R1(h:ι)(I a:Ψ)(s i n ep:Nat):Prop:=∃o,h.get? I=↑o/\o.cls=.type "set_iterator"/\o.data=.fields #[.int s 0,.int i 0,.ref a,.int n 0,.int ep 0]
def R3(xs:Array Nat)(j:Nat)(r:∀a b,a < b->b < xs.size->xs.getD a 0 < xs.getD b 0)(k:Nat)(K:k<=xs.size)(H:∀a,a < k->xs.getD a 0 < j)(g:∀a,k<=a->a < xs.size->j<=xs.getD a 0):∀ (f lo hi:Nat),lo<=k->k<=hi->hi<=xs.size->hi - lo<=f->SetTable.below.go xs j f lo hi=k
 | 0,lo,hi,a,b,_,d=>by
  rw[SetTable.below.go];lia
 | f+1,lo,hi,a,b,c,d=>by
  rw[SetTable.below.go];split
  .rename_i Q;have m:(lo+hi) / 2 < xs.size:=by lia
   have e:xs.getD ((lo+hi) / 2) j=xs.getD ((lo+hi) / 2) 0:=by simp[m]
   dsimp only;rw[e];by_cases x:xs.getD ((lo+hi) / 2) 0 < j
   .rw[yM x];refine R3 xs j r k K H g f ((lo+hi) / 2+1) hi ?_ b c (by lia);rcases Nat.lt_or_ge ((lo+hi) / 2) k with z|z
    .lia
    .have:=g _ z m;lia
   .rw[yO x];refine R3 xs j r k K H g f lo ((lo+hi) / 2) a ?_ (by lia) (by lia);rcases Nat.lt_or_ge ((lo+hi) / 2) k with z|z
    .exact absurd (H _ z) x
    .exact z
  .lia
def TH{xs:Array Nat}{j k:Nat}(r:∀a b,a < b->b < xs.size->xs.getD a 0 < xs.getD b 0)(H:k<=xs.size)(c:∀a,a < k->xs.getD a 0 < j)(d:∀a,k<=a->a < xs.size->j<=xs.getD a 0):SetTable.below xs j=k:=by
 unfold SetTable.below;exact R3 xs j r k H c d _ _ _ (xW _) H (yN _) (by lia)
def QN(w:δ)(t:SetTable)(i:Nat):Nat:=if w.params.followText "set-order"=true then 0 else if i=0 then 0 else t.place.getD (i - 1) 0+1
def Uw(S:Q6 w h a es ep t)(b:w.params.followText "set-order"=false)(hi:i<=es.size):SetTable.below t.place (QN w t i)=i:=by
 have f:=S.fits;simp?[SetTable.fits,zF,vM] at f;have s:t.place.size=es.size:=f.1;unfold QN;rw[yO (by rw[b];exact xA)];refine TH S.Wg (by lia) (λa H=>?_) (λa H b=>?_)
 .rw[yO (by lia)];rcases Nat.lt_or_ge a (i - 1) with z|z
  .have:=S.Wg a (i - 1) z (by lia);lia
  .have:a=i - 1:=by lia
   rw[this];lia
 .by_cases z:i=0
  .rw[yM z];exact xW _
  .rw[yO z];exact S.Wg (i - 1) a (by lia) b
def adq(S:Q6 w h a es ep t):t.place.size=es.size/\t.fill<=t.mask:=by
 have f:=S.fits;simp?[SetTable.fits,zF,vM,zJ] at f;exact f
def R4{Q:Δ (Θ×Nat)->Ξ->Prop}(S:Q6 w s.heap a es ep t)(hi:i<=es.size)(h:Q (((Rz w a ep es)[i]?).map λe=>(e.2,QN w t (i+1))) s):wpAny (model prog w) A (setNext a (QN w t i) i ep) Q E s:=by
 let⟨o,H,x,d⟩:=S.get;let⟨k,F⟩:=adq S;unfold setNext;refine zV (wpAny_setState_of H d S.fits ?_);dsimp only;refine zV (m:=setsByText) ?_;unfold setsByText;refine zV (wpAny_askSetting (zW ?_));show wpAny _ _ (if w.params.followText "set-order"=true then _ else _) _ _ _;cases b:w.params.followText "set-order" with
 | true =>
  rw[yM rfl];have j:(ep != ep)=false:=by simp
  simp?[j,yP,qQ];refine zV ?_;unfold setWalk;refine zV (wpAny_setState_of H d S.fits ?_);dsimp only;refine zV (m:=setsByText) ?_;unfold setsByText;refine zV (wpAny_askSetting (zW ?_));show wpAny _ _ (if w.params.followText "set-order"=true then _ else _) _ _ _;rw[yM b];refine zV (wpAny_askSetting (zW (zW ?_)));have c:Rz w a ep es=pickOrder (w.params.setOrder a ep) es:=yM b;have f:QN w t i=QN w t (i+1):=by unfold QN;rw[yM b,yM b]
  rw[c] at h;rw[f];exact h
 | false =>
  rw[yO xA];have c:Rz w a ep es=es:=yO (by rw[b];exact xA);rw[c] at h;have C:(!t.plain&&decide (es.size > 1))=false:=by rw[S.plain];rfl
  show wpAny _ _ (if (!t.plain&&decide (es.size > 1))=true then _ else _) _ _ _;rw[yO (by rw[C];exact xA)];have l:t.led=true:=by rw[S.led,b];rfl
  refine zV (wpAny_of_eq (a:=()) ?_ ?_)
  .show (if (!t.led&&!es.isEmpty)=true then _ else _)=_;rw[yO (by rw[l];exact xA)]
  .rw[Uw S b hi];refine zW ?_;rcases Nat.lt_or_ge i es.size with z|z
   .have Z:i < t.place.size:=by lia
    have g:QN w t (i+1)=t.place[i]+1:=by
     unfold QN;rw[yO (by rw[b];exact xA),yO (by lia)];simp[Z]
    rw[kA z,g] at h;rw[kA z,kA Z];exact h
   .rw[Array.getElem?_eq_none z] at h ⊢;exact h
def SU:Slot "set_iterator" "__iter__" "set_iterator.__iter__" :=
 .of (owner:="set_iterator") (n:="__iter__") (by rw[typeLookup_type,builtinLookup_eq_fast];kernel_rfl) (by decide +kernel) (by decide +kernel) (by decide +kernel) (by first|exact .inl (by decide +kernel)|exact .inr (by decide +kernel)) (by rw[isSubtype_type];kernel_rfl)
def SE:entryFor table "set_iterator.__iter__"=↑Builtin.«dict_keyiterator.__iter__»:=entryFor_alias (id':="dict_keyiterator.__iter__") (by kernel_rfl) rfl (by decide +kernel) (by kernel_rfl)
def S8(a:Θ):argsOk "set_iterator.__iter__" ⟨[a],[]⟩:=by unfold argsOk;kernel_rfl
def R1.typeIs(x:R1 s.heap I a slot i n ep):Shared.TypeIs s (.ref I) "set_iterator":=let ⟨o,H,hc,_⟩:=x;⟨o,H,hc⟩
def next_item(S:Q6 w s.heap a es ep t)(x:R1 s.heap I a (QN w t i) i es.size ep)(X:(Rz w a ep es)[i]?=↑e)
  (q:∀h',R1 h' I a (QN w t (i+1)) (i+1) es.size ep->Heap.SameBut I s.heap h'->Q (↑e.2) { s with heap:=h' }):wpAny (model prog w) A (pyNext (.ref I)) Q E s:=by
 let⟨o,O,hc,d⟩:=id x;let⟨j,W,f,R⟩:=S.get;have g:i<=es.size:=by
  rcases Nat.lt_or_ge i es.size with z|z
  .lia
  .rw[Array.getElem?_eq_none (by rw[Q5];exact z)] at X;cases X
 unfold pyNext;refine zV (kU (qD (name:=Str.ofString "__next__") x.typeIs slot_next (qX slot_next x.typeIs entry_next ?_ (args_next _))));unfold Builtin.«set_iterator.__next__»;refine zV (zW ?_);refine zV (wpAny_fieldsOf O d ?_);show wpAny _ _ (setEntries a >>= _) _ _ s;refine zV (wpAny_setEntries_of W R S.fits ?_);have c:(((es.size:Nat):Int) != ((es.size:Nat):Int))=false:=by simp
 simp?[c,yP,qQ];show wpAny _ _ (setNext a (Int.toNat ((QN w t i:Nat):Int)) (Int.toNat ((i:Nat):Int)) (Int.toNat ((ep:Nat):Int)) >>= _) _ _ s;rw[yG,yG,yG];refine zV (R4 S g ?_);rw[X];show wpAny _ _ (setField (.ref I) 0 (rawInt ((QN w t (i+1):Nat):Int)) >>= _) _ _ s;refine zV (wpAny_setField O d (by simp) ?_);have H:=Obj.data_mapFields d (·.setIfInBounds 0 (rawInt ((QN w t (i+1):Nat):Int)));have U:(s.heap.update I (Obj.mapFields (·.setIfInBounds 0 (rawInt ((QN w t (i+1):Nat):Int))))).get? I=↑(Obj.mapFields (·.setIfInBounds 0 (rawInt ((QN w t (i+1):Nat):Int))) o):=Heap.get?_update_self _ O (Obj.isFreed_of_fields H);refine zV (wpAny_setField U H (by simp) ?_);have b:=Obj.data_mapFields H (·.setIfInBounds 1 (rawInt (((i:Nat):Int)+1)));refine zW ⟨_,rfl,zW (q _ ⟨_,Heap.get?_update_self _ U (Obj.isFreed_of_fields b),?_,?_⟩ ((Heap.SameBut.update ..).trans (Heap.SameBut.update ..)))⟩
 .exact ((Obj.cls_mapFields ..).trans (Obj.cls_mapFields ..)).trans hc
 .rw[b];simp[rawInt]
def next_end(e:A.handled=none)(S:Q6 w s.heap a es ep t)(x:R1 s.heap I a (QN w t es.size) es.size es.size ep)
  (q:∀h',Heap.ExtBut I s.heap h'->Q none { s with heap:=h' }):wpAny (model prog w) A (pyNext (.ref I)) Q E s:=by
 let⟨o,H,hc,d⟩:=id x;let⟨O,W,X,R⟩:=S.get;unfold pyNext;refine zV (kU (qD (name:=Str.ofString "__next__") x.typeIs slot_next (qX slot_next x.typeIs entry_next ?_ (args_next _))));unfold Builtin.«set_iterator.__next__»;refine zV (zW ?_);refine zV (wpAny_fieldsOf H d ?_);show wpAny _ _ (setEntries a >>= _) _ _ s;refine zV (wpAny_setEntries_of W R S.fits ?_);have c:(((es.size:Nat):Int) != ((es.size:Nat):Int))=false:=by simp
 simp?[c,yP,qQ];show wpAny _ _ (setNext a (Int.toNat ((QN w t es.size:Nat):Int)) (Int.toNat ((es.size:Nat):Int)) (Int.toNat ((ep:Nat):Int)) >>= _) _ _ s;rw[yG,yG,yG];refine zV (R4 S (yN _) ?_);rw[Array.getElem?_eq_none (by rw[Q5];exact yN _)];show wpAny _ _ (setField (.ref I) 2 .none >>= _) _ _ s;refine zV (wpAny_setField H d (by simp) ?_);show wpAny _ _ (newExc (.type "StopIteration") [] >>= _) _ _ _;refine zV ?_;simp?[newExc,newTuple];refine zV (qM ?_ (by size_fits));refine zV (m:=firstArgMember _ _) (wpAny_of_eq (a:=Value.none) (by first|rfl|(simp?[firstArgMember];rfl)) ?_);refine qM ?_ (by size_fits);simp?[raiseNew];refine zV (wpAny_handled ?_);rw[show A.in1.handled=none from e];refine zV (zW (wpAny_throw ?_));refine zV (wpAny_isInstance (T:="StopIteration") (b:=true) ⟨_,zX _ rfl,rfl⟩ isSubtype_stop ?_);exact zW (q _ (((Heap.SameBut.update ..).extBut.push _).push _))
def Q6.at(S:Q6 w h a es ep t)(e:∀o,h.get? a=↑o->h'.get? a=↑o):Q6 w h' a es ep t:=⟨let ⟨o,H,r⟩:=S.get;⟨o,e _ H,r⟩,S.fits,S.plain,S.led,S.Wg⟩
def R1.at(x:R1 h I a slot i n ep)(e:∀o,h.get? I=↑o->h'.get? I=↑o):R1 h' I a slot i n ep:=let ⟨o,H,r⟩:=x;⟨o,e _ H,r⟩
def Ux{Q:Θ->Ξ->Prop}(S:Q6 w s.heap a es ep t)
  (q:Q (.ref s.heap.objs.size) { s with heap:=s.heap.push { cls:=.type "set_iterator",data:=.fields #[.int 0 0,.int 0 0,.ref a,.int es.size 0,.int ep 0] } }):wpAny (model prog w) A (pyIter (.ref a)) Q E s:=by
 let⟨o,H,x,d⟩:=S.get;have T:Shared.TypeIs s (.ref a) "set":=⟨o,H,x.1⟩
 refine wpAny_pyIter_slot T PySem.F.slot_set_iter (qX PySem.F.slot_set_iter T Uv ?_ (PySem.F.args_set_iter_1 _));unfold Builtin.«frozenset.__iter__»;refine zV (wpAny_of_eq (a:=a) (by rfl) ?_);refine zV ?_;unfold Builtin.Frozenset.sizeOf;refine zV (wpAny_setEntries_of H d S.fits (zW ?_));refine zV ?_;unfold setDrawn;refine zV (wpAny_setState_of H d S.fits ?_);dsimp only;refine zV (m:=setsByText) ?_;unfold setsByText;refine zV (wpAny_askSetting (zW (zW ?_)));have c:(!(w.params.followText "set-order")&&(!t.plain&&decide (es.size > 1)))=false:=by rw[S.plain];simp
 show wpAny _ _ (if (!(w.params.followText "set-order")&&(!t.plain&&decide (es.size > 1)))=true then _ else _) _ _ _;rw[yO (by rw[c];exact xA)];refine zV (zW ?_);refine zV (wpAny_setEpoch_of H d S.fits ?_);refine zV (qM (zW ⟨_,rfl,"set_iterator",_,⟨_,zX _ rfl,rfl⟩,slot_next.lookup,?_⟩));exact q
def Vf{Q:Θ->Ξ->Prop}(x:R1 s.heap I a slot i n ep)(H:Q (.ref I) s):wpAny (model prog w) A (pyIter (.ref I)) Q E s:=by
 refine wpAny_pyIter_slot x.typeIs SU (qX SU x.typeIs SE ?_ (S8 _));show wpAny _ _ (ret (.ref I)) _ _ s;exact zW ⟨_,rfl,"set_iterator",_,x.typeIs,slot_next.lookup,H⟩
def walks(l:A.handled=none)(I a:Ψ)(g:a≠I):Walks prog w A I [I,a] [I] es.size (λi v=>∃e,(Rz w a ep es)[i]?=↑e/\e.2=v) (λi h=>R1 h I a (QN w t i) i es.size ep/\Q6 w h a es ep t) where
 sub:=λb H=>by simp at H;simp[H]
 frame:=λ_ _ _ S k=>⟨S.1.at λo e=>k I (by simp) o e,S.2.at λo e=>k a (by simp) o e⟩
 item:=λi s Q E d S q=>by
  obtain⟨e,x⟩:∃e,(Rz w a ep es)[i]?=↑e:=⟨(Rz w a ep es)[i]'(by rw[Q5];exact d),by simp[Q5,d]⟩
  refine next_item S.2 S.1 x λc T f=>?_;exact q e.2 c s.toks ⟨e,x,rfl⟩ ⟨T,S.2.at λo z=>f.extBut a o g z⟩ λb o H z=>f.extBut b o (λh=>H (by simp[h])) z
 done:=λs Q E S q=>next_end l S.2 S.1 λc j=>q c s.toks λb o H z=>j b o (λh=>H (by simp[h])) z
 self:=λi s Q E S q=>Vf S.1 q
def VU{Q:θ->Ξ->Prop}(H:s.TypeIs (.ref r) "set")(h:Q false s):wpAny (model prog w) A (Builtin.List.listLengthHint (.ref r)) Q E s:=by
 unfold Builtin.List.listLengthHint;refine zV (wpAny_specialOf H PySem.F.slot_set_len.lookup ?_);generalize d:("set.__len__":String)=i
 wp_delta
 rw[show splitId i=↑("set","__len__") from by subst d;decide +kernel];subst d;refine zV (wpAny_isInstance (T:="set") (b:=true) H (by rw[isSubtype_type];kernel_rfl) ?_);refine wpAny_ite_split (λR=>absurd R (by decide)) (λ_=>?_);refine wpAny_ite_split (λ_=>?_) (λR=>absurd (by decide +kernel) R);refine zV (wN H ?_);exact zW h
def src(hs:es.size<=sizeLine):KdlSrc prog w "set" a a es.size (λi v=>∃e,(Rz w a ep es)[i]?=↑e/\e.2=v) (λh=>Q6 w h a es ep t) where
 type:=λs S=>let ⟨o,H,x,_⟩:=S.get;⟨o,H,x.1⟩
 there:=λh S=>let ⟨o,H,_⟩:=S.get;⟨zY H,zY H⟩
 keep:=λh d S k=>S.at λo e=>k a (.inl rfl) o e
 notList:=by decide
 notTuple:=by decide
 hint:=λA E s Q S h=>VU (let ⟨o,H,x,_⟩:=S.get;⟨o,H,x.1⟩) h
 iter:=λA s c S=>by
  have b:a≠s.heap.objs.size:=let ⟨o,H,_⟩:=S.get;yS (zY H);refine⟨_,λi h=>R1 h s.heap.objs.size a (QN w t i) i es.size ep/\Q6 w h a es ep t,λE Q q=>Ux S q,walks c _ a b,⟨_,zX _ rfl,rfl,?_⟩,S.at λo e=>zU _ e⟩;have:QN w t 0=0:=by unfold QN;split<;>simp
  rw[this];rfl
def S9{R:Result->Ξ->Prop}(d:A.handled=none)(S:Q6 w s.heap a es ep t)(hs:es.size<=sizeLine)
  (h:∀ (h':ι) (k:Nat) (acc:Array Θ) (c:Nat),(∀b o,s.heap.get? b=↑o->h'.get? b=↑o)->h'.get? s.heap.objs.size=some { cls:=.type "list",dict:=none,data:=.seq acc c,slots:=#[] }->ItemsOf (λi v=>∃e,(Rz w a ep es)[i]?=↑e/\e.2=v) acc es.size->R (.ok (.ret (.ref s.heap.objs.size))) { s with heap:=h',toks:=k }):codeAny (model prog w) A (.builtin "proto.collect" ⟨[.ref a],[]⟩) R s:=by
 let⟨o,O,x,D⟩:=S.get;have Q:=zY O;refine kH entry_proto_collect' ?_;show wpAny _ _ (do again (.builtin "list.__iadd__" ⟨[<- newList [],.ref a],[]⟩)) _ _ s;refine zV (kR (zW ⟨wM _ (by decide +kernel),kH entry_list_iadd' ?_⟩));show wpAny _ _ (Builtin.List.listExtendWith (.ref s.heap.objs.size) (.ref a) (.ref s.heap.objs.size)) _ _ { s with heap:=s.heap.push (seqObj "list" #[] 0) };rw[Around.under_plainId PySem.F.plain_list_iadd _];exact kdl_extend (A:=A) (R:=R) (s:={ s with heap:=s.heap.push (seqObj "list" #[] 0) }) (src hs) d (S.at λo e=>zU _ e) s.heap.objs.size (jJ Q) (jJ Q) _ 0 (zX _ rfl) (λh' k acc c K H U=>h h' k acc c (λb f E=>K b f (yS (zY E)) (zU _ E)) H U) hs
def TJ{Q:Γ Θ->Ξ->Prop}(f:A.handled=none)(S:Q6 w s.heap a es ep t)(hs:es.size<=sizeLine)
  (h:∀ (h':ι) (k:Nat),(∀b o,s.heap.get? b=↑o->h'.get? b=↑o)->s.heap.objs.size<=h'.objs.size->Q ((Rz w a ep es).toList.map (·.2)) { s with heap:=h',toks:=k }):wpAny (model prog w) A (collect (.ref a)) Q E s:=by
 unfold collect;refine zV (wpAny_runValue (S9 f S hs λh' k C c K H U=>?_));refine zV (wpAny_load H ?_);show wpAny _ _ (pure C.toList) Q E _;have e:C.toList=(Rz w a ep es).toList.map (·.2):=by
  refine List.ext_getElem? λi=>?_;rcases Nat.lt_or_ge i es.size with z|z
  .have Z:i < C.size:=by rw[U.1];exact z
   let⟨e,d,v⟩:=U.2 i C[i] (by simp[Z]);rw[zO,Array.getElem?_toList,Array.getElem?_toList,d,kA Z,<- v];rfl
  .rw[zO,Array.getElem?_toList,Array.getElem?_toList,Array.getElem?_eq_none (by rw[U.1];exact z),Array.getElem?_eq_none (by rw[Q5];exact z)];rfl
 rw[e];exact zW (h h' k K (jU (zY H)))
end Se
namespace Sx
open PySem SetTable
variable {Q:θ->Ξ->Prop}
structure Tk(w:World)(t:SetTable)(n:Nat):Prop where
 sz:t.place.size=n
 dm:t.dummies=#[]
 pw:∃k,t.mask+1=2 ^ k
 rm:n * 5 < t.mask * 3
 pl:t.plain=true
 ld:t.led=!(w.params.followText "set-order")
 up:t.place.toList.Pairwise (· < ·)
def R5(w:δ)(h:ι)(a:Ψ)(l:Γ (Int×Θ)):Prop:=∃o e p t,h.get? a=↑o/\o.ExactSet/\o.data=.set e p t/\e.toList.Perm l/\Tk w t e.size
def fits_of{t:SetTable}{n:Nat}(H:t.place.size=n)(a:t.dummies=#[])(b:n<=t.mask):t.fits n=true:=by
 unfold fits fill;rw[H,a];simp[b]
def Tk.fits(T:Tk w t n):t.fits n=true:=fits_of T.sz T.dm (by have:=T.rm;lia)
def VV{xs:Array Nat}(h:xs.toList.Pairwise (· < ·)):∀i j,i < j->j < xs.size->xs.getD i 0 < xs.getD j 0:=λi j Q H=>by
 rw[List.pairwise_iff_getElem] at h;have:=h i j (by rw[wH];lia) (by rw[wH];lia) Q;simp[show i < xs.size by lia,H];simpa using this
def R5.set(h:R5 w h' a l):∃es ep t,es.toList.Perm l/\Se.Q6 w h' a es ep t:=by
 let⟨o,es,ep,t,H,b,c,d,T⟩:=h;exact⟨es,ep,t,d,⟨o,H,b,c⟩,T.fits,T.pl,T.ld,VV T.up⟩
def R5.at(x:R5 w h a l)(e:∀o,h.get? a=↑o->h'.get? a=↑o):R5 w h' a l:=by
 let⟨o,s,p,t,H,b⟩:=x;exact⟨o,s,p,t,e o H,b⟩
def TK(xs:Array α)(p:Nat)(x:α):(insertAt xs p x).toList=xs.toList.take p++x::xs.toList.drop p:=by
 unfold insertAt;rw[Array.toList_append,Array.toList_push,Array.toList_extract,Array.toList_extract];simp[List.extract];exact kM (by simp)
def TL(xs:Array α)(p:Nat)(x:α):(insertAt xs p x).toList.Perm (x::xs.toList):=by
 rw[TK];refine List.perm_middle.trans ?_;rw[List.take_append_drop]
def TM(xs:Array α)(p:Nat)(x:α):(insertAt xs p x).size=xs.size+1:=by
 rw[<- wH,(TL xs p x).length_eq,zL,wH]
def Yl{t:SetTable}{j:Nat}(h:t.place.toList.Pairwise (· < ·))(D:t.dummies=#[])(E:t.slot j=.empty):(insertAt t.place (below t.place j) j).toList.Pairwise (· < ·):=by
 have r:=VV h;have g:∀a (H:a < t.place.size),t.place.getD a 0=t.place.toList[a]'(by simpa using H):=λa H=>by simp[H]
 have p:∃k,k<=t.place.size/\(∀a,a < k->t.place.getD a 0 < j)/\∀a,k<=a->a < t.place.size->j<=t.place.getD a 0:=by
  have:∀n,n<=t.place.size->∃k,k<=n/\(∀a,a < k->t.place.getD a 0 < j)/\∀a,k<=a->a < n->j<=t.place.getD a 0:=by
   intro n
   induction n with
   | zero=>exactλ_=>⟨0,yN _,λa h=>absurd h (vS _),λa _ h=>absurd h (vS _)⟩
   | succ n I =>
    intro v;let⟨k,m,d,K⟩:=I (by lia);by_cases c:k=n/\t.place.getD n 0 < j
    .refine⟨n+1,yN _,λa H=>?_,λa f b=>by lia⟩;by_cases e:a=n
     .rw[e];exact c.2
     .exact d a (by lia)
    .refine⟨k,by lia,d,λa f b=>?_⟩;by_cases e:a=n
     .subst e;by_cases q:k=a
      .lia
      .have A:=K k (yN _) (by lia);have u:=r k a (by lia) (by lia);lia
     .exact K a f (by lia)
  exact this _ (yN _)
 let⟨k,m,d,K⟩:=p;have B:=Se.TH r m d K;have N:k < t.place.size->t.place.getD k 0≠j:=λl e=>by
  unfold slot at E;dsimp only at E;rw[B,yM (by rw[vM,Array.getElem?_eq_some_iff];exact⟨l,by rw[<- e];simp[l]⟩)] at E;cases E
 have G:∀a,k<=a->a < t.place.size->j < t.place.getD a 0:=λa f b=>by
  by_cases e:a=k
  .subst e;have:=K a f b;have:=N b;lia
  .have:=r k a (by lia) b;have:=K k (yN _) (by lia);lia
 rw[B,TK];have i:=h;rw[<- List.take_append_drop k t.place.toList] at i;have s:=List.pairwise_append.mp i;have M:∀x∈t.place.toList.take k,x < j:=λx X=>by
  let⟨a,H,rfl⟩:=List.mem_iff_getElem.mp X;rw[jX,wH] at H;have:=d a (by lia);rw[g a (by lia)] at this;simpa using this
 have o:∀x∈t.place.toList.drop k,j < x:=λx X=>by
  let⟨a,H,rfl⟩:=List.mem_iff_getElem.mp X;rw[qJ,wH] at H;have:=G (k+a) (by lia) (by lia);rw[g _ (by lia)] at this;simpa using this
 refine List.pairwise_append.mpr ⟨s.1,List.pairwise_cons.mpr ⟨o,s.2.1⟩,λx X y Y=>?_⟩;rcases List.mem_cons.mp Y with rfl|Y
 .exact M x X
 .exact wU (M x X) (o y Y)
section
variable {prog:ε}{w:δ}{A:ξ}{E:Θ->Ξ->Prop}{s:Ξ}
def stored{h:ι}{a:Ψ}{o:Obj}{es:Array (Int×Θ)}{ep:Nat}{t:SetTable}(H:h.get? a=↑o)(d:o.data=.set es ep t){es':Array (Int×Θ)}{t':SetTable} :
  (h.update a (Obj.putSet es' t')).get? a=some { o with data:=.set es' (ep+1) t' }:=by
 have:=Heap.get?_update_self (Obj.putSet es' t') H (by rw[putSet_of es' t' d];rfl);rw[putSet_of es' t' d] at this;exact this
def byValue{K:Type}[DecidableEq K]{knd:KeyKind prog w K}{d:Γ K}(c:IsTupleKey knd s.heap d b)(hi:∀ (k:K) (v:Θ),knd.is k v=true->∀n,hashByValue n v=pure true)(q:Q true s):wpAny (model prog w) A (hashByValue 8 (.ref b)) Q E s:=by
 have T:=c.typeIs;let⟨o,i,n,O,_,D,H⟩:=c;unfold hashByValue;refine zV (wpAny_specialOf T F.slot_tuple_hash.lookup ?_);show wpAny _ _ (seqItems? (.ref b) >>= _) _ _ s;refine zV (kK O D ?_);refine zV ?_;show wpAny _ _ (forIn i _ _) _ _ s;rw[<- Array.forIn_toList];refine wpAny_forIn_list _ (λt r a=>r.1=none/\a=s/\∃S,ItemsAre knd S t) _ ?_ ?_ _ _ ⟨rfl,rfl,d,H⟩
 .rintro v t r a ⟨R,rfl,S,y⟩;cases y with
  | cons e f =>
   rw[hi _ _ e];refine zV (zW ?_);simp?[xZ,yP,qQ];exact zW ⟨rfl,rfl,_,f⟩
 .rintro⟨g,j⟩ a ⟨R,rfl,_⟩;simp only at R;subst R;exact zW q
def ZU{o:Obj}{es:Array (Int×Θ)}{ep:Nat}{t:SetTable}{l:Γ (Int×Θ)}{Q:Unit->Ξ->Prop}(O:s.heap.get? a=↑o)(x:o.ExactSet)(H:o.data=.set es ep t)(j:t.place.size=es.size)(p:t.dummies=#[])(u:es.size<=t.mask)(P:t.plain=true)(L:t.led=!(w.params.followText "set-order"))(h4:es.toList.Perm l)(N:es.size<=20000)
  (q:∀h',Heap.SameBut a s.heap h'->R5 w h' a l->Q () { s with heap:=h' }):wpAny (model prog w) A (setRelay a (grown es.size)) Q E s:=by
 have G:grown es.size=es.size * 4:=by unfold grown;rw[yO (by lia)]
 let⟨k,K,y,B⟩:=above (n:=es.size * 4) (by lia);unfold setRelay;refine zV (wpAny_setState_of O H (fits_of j p u) ?_);dsimp only;rw[G,yO (by rw[qV];lia)];let⟨v,d,f,e,g,c⟩:=Ve (mask:=sizeAbove (es.size * 4) - 1) (finger:=t.finger) (moves:=t.movedTo (sizeAbove (es.size * 4) - 1)) (led:=t.led) (plain:=t.plain) (hs:=es.map (·.1)) ⟨k,by lia⟩ (by rw[Array.size_map];lia);rw[Array.size_map] at e c;have r:t.relaid (es.map (·.1)) (es.size * 4)=_:=f;rw[r];have m:(d.filterMap (es[·]?)).toList.Perm es.toList:=by
  rw[Array.toList_filterMap];refine (c.filterMap _).trans (.of_eq ?_);refine List.ext_getElem? λi=>?_;have:∀n,n<=es.size->(List.range n).filterMap (es[·]?)=es.toList.take n:=by
   intro n
   induction n with
   | zero=>intro _;rfl
   | succ n I =>
    intro N;rw[vT,List.filterMap_append,I (by lia),List.filterMap_cons_some (b:=es[n]'(by lia)) (kA _),List.filterMap_nil,List.take_succ,Array.getElem?_toList,kA (by lia)];rfl
  rw[this _ (yN _),kM (by simp)]
 have z:(d.filterMap (es[·]?)).size=es.size:=by
  have:=m.length_eq
  rwa [wH,wH] at this
 show wpAny _ _ ((do if (d.filterMap (es[·]?)).size != es.size then { unsupported "internal:set-table-lost-an-element" };pure (d.filterMap (es[·]?),(⟨sizeAbove (es.size * 4) - 1,v,#[],t.finger,t.led,t.movedTo (sizeAbove (es.size * 4) - 1),t.plain⟩:SetTable)):Sem _) >>= _) _ _ _;rw[yO (by rw[z];simp)];refine zV (zW (wpAny_storeSet_of O H ?_ (by rw[z,qV];lia)));refine q _ (Heap.SameBut.update _ a _) ⟨_,_,ep+1,_,stored O H,x,rfl,m.trans h4,by rw[z];exact e,rfl,⟨k,?_⟩,?_,P,L,g⟩
 .show sizeAbove (es.size * 4) - 1+1=2 ^ k;lia
 .rw[z];show es.size * 5 < (sizeAbove (es.size * 4) - 1) * 3;lia
def WK{K:Type}[DecidableEq K]{knd:KeyKind prog w K}{D:Γ K}{l:Γ (Int×Θ)}{h:Int}(g:IsTupleKey knd s.heap D b)(hi:∀ (k:K) (v:Θ),knd.is k v=true->∀n,hashByValue n v=pure true)(B:R5 w s.heap a l)(u:∀e∈l,e.1≠h)(N:l.length < 20000)
  (q:∀h',Heap.SameBut a s.heap h'->R5 w h' a ((h,.ref b)::l)->Q true { s with heap:=h' }):wpAny (model prog w) A (setAddHashed a (.ref b) h) Q E s:=by
 let⟨o,c,y,t,O,x,d,p,T⟩:=B;have M:c.size=l.length:=by rw[<- p.length_eq,wH]
 unfold setAddHashed setAddHashedIn;refine xY (zV (wpAny_setState_of O d T.fits ?_));dsimp only;rw[show byScan (.ref b) c=false from rfl];simp?[yP,qQ];have U:=T.rm;refine zV ?_;unfold setSearch setSearchFrom;refine zV (wpAny_setState_of O d T.fits ?_);dsimp only;have G:t.gaveWay=false:=by
  let⟨k,g⟩:=T.pw;unfold gaveWay;cases k with
  | zero=>rw[Nat.pow_zero] at g;lia
  | succ k=>rw[Nat.pow_succ] at g;rw[beq_eq_false_iff_ne];lia
 rw[G];let⟨j,L,J⟩:=TC (t:=t) (f:=λi=>(c[i]?.map (·.1)).getD 0) (h:=h) T.pw T.dm (by rw[T.sz];lia) (λi hi=>by
  rw[T.sz] at hi;rw[kA hi];exact u _ (p.mem_iff.mp (Array.getElem_mem_toList hi)))
 generalize C:t.probe _ h _=r;have e:r=↑(.empty j none):=C.symm.trans J;subst e;refine zW ?_;dsimp only;refine zV (wpAny_setState_of O d T.fits ?_);dsimp only;have m:(t.put j).1.dummies=#[]:=by
  show (if has t.dummies j=true then _ else t.dummies)=_;rw[T.dm];rfl
 have z:(insertAt c (t.put j).2 (h,Value.ref b)).size=c.size+1:=TM ..;have Z:(insertAt c (t.put j).2 (h,Value.ref b)).toList.Perm ((h,.ref b)::l):=(TL ..).trans (p.cons _);have H:(t.put j).1.place.size=c.size+1:=(TM ..).trans (by rw[T.sz]);have P:(t.put j).1.plain=true:=T.pl;rw[yM P];refine zV (byValue g hi ?_);simp?[xI];refine zV (wpAny_storeSet_of O d ?_ (by rw[z,qV];lia));have R:=stored O d (es':=insertAt c (t.put j).2 (h,Value.ref b)) (t':=(t.put j).1);by_cases F:(!false&&(t.put j).1.tooFull)=true
 .rw[yM F];refine zV ?_;rw[<- z];exact ZU (s:={ s with heap:=_ }) R x rfl (H.trans z.symm) m (by rw[z];show c.size+1<=t.mask;lia) P T.ld Z (by rw[z];lia) λh' I S=>zW (q h' ((Heap.SameBut.update _ a _).trans I) S)
 .rw[yO F];refine zV (zW (zW (q _ (Heap.SameBut.update _ a _) ⟨_,_,y+1,_,R,x,rfl,Z,H.trans z.symm,m,T.pw,?_,P,T.ld,Yl T.up T.dm L⟩)));rw[z];have:(t.put j).1.tooFull=false:=by simpa using F
  unfold tooFull fill at this;rw[H,m] at this;simpa using this
end
end Sx
namespace Se
open PySem PySem.W PySem.Calls PyProof.Rows
def ob(w:δ):Obj:={ cls:=.type "set",dict:=none,data:=.set #[] 0 (.fresh 0 0 (!(w.params.followText "set-order"))) }
def VW(a:Θ){Q₁:Θ->Ξ->Prop}(h:Q₁ (.ref s.heap.objs.size) { s with heap:=s.heap.push (ob w) }):codeAny (model prog w) A (.call (.builtin "set.__new__") ⟨[.type "set",a],[]⟩) (wants Q₁ E) s:=by
 refine codeAny_of_tree ?_;show wpAny _ A.in1 (checkBuiltinCall "set.__new__" _ >>= λ_=>again (.builtin "set.__new__" _)) _ _ s;refine zV (wpAny_of_eq (PySem.F.newCall_set_1 a) (zW ⟨plainId_quiet PySem.F.plain_set_new _,kH PySem.F.entry_set_new ?_⟩));rw[Around.under_plainId PySem.F.plain_set_new _];unfold Builtin.«set.__new__» Builtin.Frozenset.newClass;have U:=sub_set_self;let⟨p,g,d,t,o⟩:=s;dsimp only
 wp_walk
 refine wpAny_askSetting (zW ?_);dsimp only;simp?[newObj];refine zV (wpAny_alloc (zW ?_));exact zW h
def TN{R:Result->Ξ->Prop}{St:Nat->Ξ->Prop}{P:Nat->Θ->Prop}{n:Nat}(W:WalksS prog w A.in1 I fp wr G n P St)(S:Ψ)(g:S∉fp)(V:Nat->ι->Prop)
  (T:∀i h h',V i h->(∀b o,b∉wr->h.get? b=↑o->h'.get? b=↑o)->V i h')
  (Y:∀i v (s:Ξ) (Q:θ->Ξ->Prop) (E:Θ->Ξ->Prop),i < n->P i v->V i s.heap->(∀b h' t,s.toks<=t->Heap.SameBut S s.heap h'->V (i+1) h'->Q b { s with heap:=h',toks:=t })->wpAny (model prog w) A.in1 (setAdd S v) Q E s) :
  ∀ (k i:Nat) (s:Ξ),n - i=k->i<=n->St i s->V i s.heap->(∀s',Moved (S::wr) G s s'->V n s'.heap->R (.ok (.ret .none)) s')->codeAny (model prog w) A (.builtin "set.update.loop" ⟨[.ref S,.ref I],[]⟩) R s:=by
 have r:S∉wr:=λh=>g (W.sub _ h);have U:∀b∈wr,b∈S::wr:=λb H=>zC _ H;intro k
 induction k with
 | zero =>
  intro i s K u a c hR;obtain rfl:i=n:=by lia
  refine kH PyProof.Rows.F.entry_set_update_loop ?_;rw[Around.under_plainId PyProof.Rows.F.plain_set_update_loop _];show wpAny _ A.in1 (pyNext (.ref I) >>= _) _ _ s;refine zV (W.done s _ _ a λs' m=>?_);exact zW (hR s' (m.mono U) (T _ _ _ c m.heap))
 | succ k x =>
  intro i s K u a c hR;have q:i < n:=by lia
  refine kH PyProof.Rows.F.entry_set_update_loop ?_;rw[Around.under_plainId PyProof.Rows.F.plain_set_update_loop _];show wpAny _ A.in1 (pyNext (.ref I) >>= _) _ _ s;refine zV (W.item i s _ _ q a λv s' p y m=>?_);show wpAny _ A.in1 (holding [v] (setAdd S v) >>= _) _ _ s';refine zV (xY (Y i v s' _ _ q p (T _ _ _ c m.heap) λ_ h' t Z j L=>?_));refine zW ⟨plainId_quiet PyProof.Rows.F.plain_set_update_loop _,x (i+1) _ (by lia) q (W.frame _ s' _ _ y Z λb H o e=>?_) L λl f d=>?_⟩
  .rw[j.2 b (λh:b=S=>g (by rw[<- h];exact H))];exact e
  .refine hR l (Moved.trans W.gtrans ((m.mono U).then_heap Z λb o H e=>?_) f) d;rw[j.2 b (λh:b=S=>H (by rw[h];exact zE))];exact e
def VX{Q:Θ->Ξ->Prop}(hh:A.handled=none)(hl:s.heap.IsList l its)(I:Nat->ι->Prop)
  (h0:∀h':ι,(∀b o,s.heap.get? b=↑o->h'.get? b=↑o)->h'.get? s.heap.objs.size=↑(ob w)->I 0 h')
  (T:∀i h h',I i h->(∀b o,b≠s.heap.objs.size+1->h.get? b=↑o->h'.get? b=↑o)->I i h')
  (Y:∀i v (s':Ξ) (Q:θ->Ξ->Prop) (E:Θ->Ξ->Prop),i < its.size->its[i]?=↑v->I i s'.heap->(∀b h' t,s'.toks<=t->Heap.SameBut s.heap.objs.size s'.heap h'->I (i+1) h'->Q b { s' with heap:=h',toks:=t })->wpAny (model prog w) A.in1.in1.in1 (setAdd s.heap.objs.size v) Q E s')
  (h:∀ (h':ι) (t:Nat),I its.size h'->(∀b o,b < s.heap.objs.size->s.heap.get? b=↑o->h'.get? b=↑o)->Q (.ref s.heap.objs.size) { s with heap:=h',toks:=t }) :
  wpAny (model prog w) A (call (.type "set") [.ref l]) Q E s:=by
 let⟨c,tl,P⟩:=PySem.F.called_set.mro;have Zw:=PySem.F.called_set.made;have Uh:=PySem.F.called_set.sub;refine wpAny_call (codeAny_of_tree ?_);show wpAny _ _ (callAny (.type "set") _) _ _ _;refine zW ⟨wM _ (by decide +kernel),kH PySem.F.entry_type_call ?_⟩;rw[Around.under_plain (weight_type_call_type "set" [.ref l] []) rfl];have h1:=PySem.F.called_set.notType;have h2:=PySem.F.called_set.canCreate;have hct:=PySem.F.typeCall_set_1 (.ref l)
 repeat (any_goals (first|assumption|wp_step))
 refine jT (VW (.ref l) (E:=E) (Q₁:=λj B=>j=.ref s.heap.objs.size/\B={ s with heap:=s.heap.push (ob w) }) ⟨rfl,rfl⟩) λr B n=>?_;cases r with
 | error e=>exact n
 | ok fl =>
  cases fl with
  | ret j =>
   let⟨rfl,rfl⟩:=n;have u:(s.heap.push (ob w)).get? s.heap.objs.size=↑(ob w):=zX _ rfl;have hT:Shared.TypeIs { s with heap:=s.heap.push (ob w) } (.ref s.heap.objs.size) "set":=⟨_,u,rfl⟩
   have hli:=PySem.F.called_set.init.lookup;have hbi:=PySem.F.called_set.init.bind (.ref s.heap.objs.size)
   repeat (any_goals (first|assumption|wp_step))
   refine jT (wD (R:=wants (λr C=>r=.none/\∃h' t,C={ s with heap:=h',toks:=t }/\I its.size h'/\(∀b o,b < s.heap.objs.size->s.heap.get? b=↑o->h'.get? b=↑o)) E) PySem.F.called_set.init.plain PySem.F.entry_set_init (check_set_init_1 hT ?_)) λr2 C W=>?_
   .let⟨ol,x,S,N,y⟩:=hl;let⟨acX,G,Zz,U⟩:=ol;simp only at S y;subst S y;have M:(s.heap.push (ob w)).get? l=some { cls:=.type "list",dict:=G,data:=.seq its N,slots:=U }:=zU _ x;have acY:=PySem.F.sub_list_set;have acZ:=PySem.F.sub_list_frozenset;have QS:(Value.type "list" == Value.type "dict")=false:=by decide
    have X:(s.heap.push (ob w)).IsList l its:=⟨_,M,rfl,N,rfl⟩
    have hob:(ob w).data=.set #[] 0 (.fresh 0 0 (!(w.params.followText "set-order"))):=rfl;unfold Builtin.«set.__init__» noKeywords Builtin.Frozenset.updateFrom;generalize a:pyIter=PI
    wp_walk
    subst a;refine qL X (zV (wpAny_runValue ?_));have p:l < s.heap.objs.size:=zY x;have d:A.in1.in1.in1.handled=none:=by simp[hh]
    have Z:(s.heap.push (ob w)).objs.size=s.heap.objs.size+1:=xK ..;have D:l≠(s.heap.push (ob w)).objs.size:=by rw[Z];exact yS (jP p)
    have J:s.heap.objs.size∉[(s.heap.push (ob w)).objs.size,l]:=by
     rw[Z];simp?[zQ,yF,xV,not_or];exact⟨yS (kP _),jJ p⟩
    refine TN ((Walks.list d (s.heap.push (ob w)).objs.size l D its).toS) s.heap.objs.size J I (λi h h' g k=>T i h h' g λb o H e=>k b o (λz=>H (by rw[yK,Z] at z;exact z)) e) (λi v s' Q E g hP hI q=>Y i v s' Q E g hP hI q) (its.size - 0) 0 _ (by lia) (xW _) ⟨⟨_,zX _ rfl,rfl,rfl⟩,(X.push _)⟩ (h0 _ (λb o e=>zU _ (zU _ e)) (zU _ u)) ?hR
    case hR =>
     intro s' m L;let⟨h',g',d',K,O⟩:=s';obtain rfl:g'=s.gens:=m.gens;obtain rfl:d'=s.drawn:=m.drawn;obtain rfl:O=s.os:=m.os;show wpAny _ _ _ _ _ _;refine zW ?_;show wpAny _ _ (ret Value.none) _ _ _;refine zW ⟨rfl,h',K,rfl,L,λb o H e=>?_⟩;refine m.heap b o ?_ (zU _ (zU _ e));simp?[zQ,yF,xV,not_or];rw[Z];exact⟨yS H,yS (jP H)⟩
   .cases r2 with
    | error e=>exact W
    | ok f =>
     cases f with
     | ret r =>
      let⟨rfl,h',t,rfl,L,V⟩:=W
      repeat (any_goals (first|assumption|wp_step))
      exact h _ _ L V
     | _=>exact W.elim
  | _=>exact n.elim
end Se
namespace Ti
open PySem PyProof.Rows
variable {nrem:Nat}
def QY:θ->Keyed->Array Keyed->Nat->Nat->Nat->StateT SortSt Sem (Δ Nat):=sortPriv% PySem.Builtin.gallop
def RA:Nat->StateT SortSt Sem Unit:=sortPriv% PySem.Builtin.setMinGallop
def R6:Array Keyed->Array Keyed->StateT SortSt Sem (Array Keyed):=sortPriv% PySem.Builtin.mergeLo
def R7:Array Keyed->Array Keyed->StateT SortSt Sem (Array Keyed):=sortPriv% PySem.Builtin.mergeHi
def Uy(left:θ)(key:Keyed)(arr:Array Keyed)(base n hint:Nat):QY left key arr base n hint=(do
 let beyond (i:Nat):StateT SortSt Sem (Δ θ):=do
  let x <- elem' arr (base+i)
  if left then lt' x key else return (<- lt' key x).map (!·)
 let mut RS:=0;let mut Rm:=1;let mut lo:=0;let mut hi:=0
 let some right <- beyond hint|return none
 if right then
  let R8:=n - hint
  for _ in [0:n] do
   if Rm >= R8 then break
   let some more <- beyond (hint+Rm)|return none
   if !more then break
   RS:=Rm
   Rm:=2 * Rm+1
  lo:=hint+RS+1
  hi:=hint+min Rm R8
 else
  let R8:=hint+1
  for _ in [0:n] do
   if Rm >= R8 then break
   let some found <- beyond (hint - Rm)|return none
   if found then break
   RS:=Rm
   Rm:=2 * Rm+1
  lo:=hint+1 - min Rm R8
  hi:=hint - RS
 for _ in [0:n] do
  if lo >= hi then break
  let m:=lo+(hi - lo) / 2
  let some more <- beyond m|return none
  if more then lo:=m+1 else hi:=m
 return ↑hi):=rfl
section
variable {prog:ε}{w:δ}{A:ξ}{E:Θ->Ξ->Prop}{s:Ξ}
def Wh(prog:ε)(w:δ)(A:ξ)(s:Ξ)(κ:SortKind)(r:Keyed->Int)(P:Keyed->Prop):Prop :=
 ∀x y,P x->P y->∀ (E:Θ->Ξ->Prop) (Q:θ->Ξ->Prop),Q (decide (r x < r y)) s->wpAny (model prog w) A (keyLt' κ x.1 y.1) Q E s
variable {κ:SortKind}{r:Keyed->Int}{P:Keyed->Prop}{st:SortSt}
def w_lt(C:Wh prog w A s κ r P)(k:kindOf st=κ)(H:P x)(Y:P y)(h:Q (↑(decide (r x < r y))) st):wpS (model prog w) A E s (lt' x y) Q st:=by
 rw[lt'_eq];refine wpS_bind (wpS_get ?_);rw[k];exact wpS_bind (wpS_lift (kU (C x y H Y _ _ ⟨rfl,wpS_pure h⟩)))
def QL(hi:i < a.size)(h:Q a[i] st):wpS (model prog w) A E s (elem' a i) Q st:=by
 rw[elem'_eq,getElem?_pos a i hi];exact wpS_pure h
structure Fnd(B:Nat->Bool)(n k:Nat):Prop where
 le:k<=n
 yes:∀i,i < k->B i=true
 no:∀i,k<=i->i < n->B i=false
def US{n lo hi:Nat}{bt:Nat->StateT SortSt Sem (Δ θ)}{B:Nat->θ}{Q:Δ Nat->SortSt->Prop}(q:∀i (Q:Δ θ->SortSt->Prop),i < n->Q (↑(B i)) st->wpS (model prog w) A E s (bt i) Q st)(M:∀i j,i<=j->j < n->B j=true->B i=true)
  (H:lo<=hi) (l:hi<=n) (p:∀i,i < lo->B i=true) (h4:∀i,hi<=i->i < n->B i=false) (h:∀k,Fnd B n k->Q (↑k) st):wpS (model prog w) A E s (do
   let mut lo:=lo;let mut hi:=hi
   for _ in [0:n] do
    if lo >= hi then break
    let m:=lo+(hi - lo) / 2
    let some more <- bt m|return none
    if more then lo:=m+1 else hi:=m
   return ↑hi) Q st:=by
 refine wpS_bind (wpS_mono (wpS_forRange (I:=λx (c:Δ (Δ Nat)×Nat×Nat) C=>C=st/\c.1=none/\c.2.1<=c.2.2/\c.2.2<=n/\c.2.2 - c.2.1<=n - x/\(∀i,i < c.2.1->B i=true)/\∀i,c.2.2<=i->i < n->B i=false) (Q:=λ(c:Δ (Δ Nat)×Nat×Nat) C=>C=st/\c.1=none/\Fnd B n c.2.2) ?step ?fin ⟨rfl,rfl,H,l,by show hi - lo<=n - 0;lia,p,h4⟩) ?post)
 case fin =>
  rintro⟨o,lo,hi⟩ C ⟨rfl,rfl,a,b,d,e,f⟩;dsimp only at a b d e f;have:lo=hi:=by lia
  subst this;exact⟨rfl,rfl,b,e,f⟩
 case post =>
  rintro⟨o,lo,hi⟩ C ⟨rfl,rfl,F⟩;exact wpS_pure (h _ F)
 case step =>
  rintro x ⟨o,lo,hi⟩ C _ X ⟨rfl,rfl,a,b,d,e,f⟩;dsimp only at a b d e f ⊢;by_cases g:lo >= hi
  .rw[yM g];have:lo=hi:=by lia
   subst this;exact wpS_pure ⟨rfl,rfl,b,e,f⟩
  .rw[yO g];refine wpS_bind (q _ _ (by lia) ?_);dsimp only;by_cases y:B (lo+(hi - lo) / 2)=true
   .rw[yM y];exact wpS_pure ⟨rfl,rfl,by show lo+(hi - lo) / 2+1<=hi;lia,b,by show hi - (lo+(hi - lo) / 2+1)<=_;lia,λi R=>M i (lo+(hi - lo) / 2) (by dsimp only at R;lia) (by lia) y,f⟩
   .rw[yO y];refine wpS_pure ⟨rfl,rfl,by show lo<=lo+(hi - lo) / 2;lia,by show lo+(hi - lo) / 2<=n;lia,by show lo+(hi - lo) / 2 - lo<=_;lia,e,λi H l=>?_⟩;cases z:B i with
    | false=>rfl
    | true=>exact absurd (M _ i H l z) y
def TQ(left:θ){key:Keyed}{arr:Array Keyed}{base n hint:Nat}(C:Wh prog w A s κ r P)(hk:kindOf st=κ)(RN:P key)(Yo:∀i,i < n->∃h:base+i < arr.size,P arr[base+i])
  (B:Nat->θ) (hB:∀i (h:i < n),B i=if left then decide (r (arr[base+i]'(Yo i h).1) < r key) else !decide (r key < r (arr[base+i]'(Yo i h).1))) (hm:∀i j,i<=j->j < n->B j=true->B i=true) (hh:hint < n)
  (h:∀k,Fnd B n k->Q (↑k) st):wpS (model prog w) A E s (QY left key arr base n hint) Q st:=by
 rw[Uy];have beyond:∀i (Q:Δ θ->SortSt->Prop),i < n->Q (↑(B i)) st->wpS (model prog w) A E s (do
   let x <- elem' arr (base+i)
   if left=true then lt' x key else do let __x <- lt' key x;pure (Option.map (λx=>!x) __x)) Q st:=λi Q hi q=>by
  let⟨h1,h2⟩:=Yo i hi;refine wpS_bind (QL h1 ?_);rw[hB i hi] at q;cases left with
  | true=>exact w_lt C hk h2 RN q
  | false=>exact wpS_bind (w_lt C hk RN h2 (wpS_pure q))
 refine wpS_bind (beyond hint _ hh ?_);dsimp only;by_cases y:B hint=true
 .rw[yM y];refine wpS_bind (wpS_mono (wpS_forRange (I:=λx (c:Δ (Δ Nat)×Nat×Nat) QC=>QC=st/\c.1=none/\B (hint+c.2.1)=true/\c.2.1 < c.2.2/\hint+c.2.1 < n/\x+1<=c.2.2) (Q:=λ(c:Δ (Δ Nat)×Nat×Nat) QC=>QC=st/\c.1=none/\B (hint+c.2.1)=true/\c.2.1 < c.2.2/\hint+c.2.1 < n/\(n - hint<=c.2.2\/B (hint+c.2.2)=false)) ?step ?fin ⟨rfl,rfl,y,kP _,hh,yN _⟩) ?post)
  case fin =>
   rintro⟨c0,lo,Rm⟩ QC ⟨rfl,rfl,a,b,d,e⟩;dsimp only at a b d e;exact⟨rfl,rfl,a,b,d,.inl (by show n - hint<=Rm;lia)⟩
  case post =>
   rintro⟨c0,lo,Rm⟩ QC ⟨rfl,rfl,a,b,d,e⟩;dsimp only at a b d e ⊢;refine US (B:=B) (bt:=λi=>do
    let x <- elem' arr (base+i)
    if left=true then lt' x key else do let __x <- lt' key x;pure (Option.map (λx=>!x) __x)) beyond hm (by lia) (by lia) (λi hi=>hm i (hint+lo) (by lia) d a) (λi h1 h2=>?_) h
   rcases e with e|e
   .lia
   .cases z:B i with
    | false=>rfl
    | true=>rw[hm (hint+Rm) i (by lia) h2 z] at e;cases e
  case step =>
   rintro x ⟨c0,lo,Rm⟩ QC _ hx ⟨rfl,rfl,a,b,d,e⟩;dsimp only at a b d e ⊢;by_cases g:Rm >= n - hint
   .rw[yM g];exact wpS_pure ⟨rfl,rfl,a,b,d,.inl g⟩
   .rw[yO g];refine wpS_bind (beyond _ _ (by lia) ?_);dsimp only;cases z:B (hint+Rm) with
    | false=>exact wpS_pure ⟨rfl,rfl,a,b,d,.inr z⟩
    | true=>exact wpS_pure ⟨rfl,rfl,z,by show Rm < 2 * Rm+1;lia,by show hint+Rm < n;lia,by show x+1+1<=2 * Rm+1;lia⟩
 .rw[yO y];have y:B hint=false:=by simpa using y
  refine wpS_bind (wpS_mono (wpS_forRange (I:=λx (c:Δ (Δ Nat)×Nat×Nat) QC=>QC=st/\c.1=none/\B (hint - c.2.1)=false/\c.2.1 < c.2.2/\c.2.1<=hint/\x+1<=c.2.2) (Q:=λ(c:Δ (Δ Nat)×Nat×Nat) QC=>QC=st/\c.1=none/\B (hint - c.2.1)=false/\c.2.1 < c.2.2/\c.2.1<=hint/\(hint+1<=c.2.2\/(c.2.2<=hint/\B (hint - c.2.2)=true))) ?step ?fin ⟨rfl,rfl,y,kP _,xW _,yN _⟩) ?post)
  case fin =>
   rintro⟨c0,lo,Rm⟩ QC ⟨rfl,rfl,a,b,d,e⟩;dsimp only at a b d e;exact⟨rfl,rfl,a,b,d,.inl (by show hint+1<=Rm;lia)⟩
  case post =>
   rintro⟨c0,lo,Rm⟩ QC ⟨rfl,rfl,a,b,d,e⟩;dsimp only at a b d e ⊢;refine US (B:=B) (bt:=λi=>do
    let x <- elem' arr (base+i)
    if left=true then lt' x key else do let __x <- lt' key x;pure (Option.map (λx=>!x) __x)) beyond hm (by lia) (by lia) (λi hi=>?_) (λi h1 h2=>?_) h
   .rcases e with e|e
    .lia
    .exact hm i (hint - Rm) (by lia) (by lia) e.2
   .cases z:B i with
    | false=>rfl
    | true=>rw[hm (hint - lo) i (by lia) h2 z] at a;cases a
  case step =>
   rintro x ⟨c0,lo,Rm⟩ QC _ hx ⟨rfl,rfl,a,b,d,e⟩;dsimp only at a b d e ⊢;by_cases g:Rm >= hint+1
   .rw[yM g];exact wpS_pure ⟨rfl,rfl,a,b,d,.inl g⟩
   .rw[yO g];refine wpS_bind (beyond _ _ (by lia) ?_);dsimp only;cases z:B (hint - Rm) with
    | true=>exact wpS_pure ⟨rfl,rfl,a,b,d,.inr ⟨by show Rm<=hint;lia,z⟩⟩
    | false=>exact wpS_pure ⟨rfl,rfl,z,by show Rm < 2 * Rm+1;lia,by show Rm<=hint;lia,by show x+1+1<=2 * Rm+1;lia⟩
end
def Ri(r:Keyed->Int)(l:Γ Keyed):Prop:=l.Pairwise λp q=>r p<=r q
structure Mg(r:Keyed->Int)(o x y z:List Keyed):Prop where
 so:Ri r o
 sx:Ri r x
 sy:Ri r y
 le:∀p∈o,∀q,q∈x\/q∈y->r p<=r q
 pm:(o++(x++y)).Perm z
def Mg.swap(h:Mg r o x y z):Mg r o y x z:=⟨h.so,h.sy,h.sx,λp H q Q=>h.le p H q Q.symm,(List.Perm.append_left o List.perm_append_comm).trans h.pm⟩
def Mg.many(h:Mg r o (u++x) y z)(U:∀p∈u,∀q∈y,r p<=r q):Mg r (o++u) x y z:=by
 have s:=List.pairwise_append.mp h.sx;refine⟨List.pairwise_append.mpr ⟨h.so,s.1,λp H q Q=>h.le p H q (.inl (qK _ Q))⟩,s.2.1,h.sy,λp H q Q=>?_,by rw[List.append_assoc,<- List.append_assoc u];exact h.pm⟩;rcases List.mem_append.mp H with H|H
 .exact h.le p H q (Q.imp (yE _) id)
 .exact Q.elim (s.2.2 p H q) (U p H q)
def Mg.fin(h:Mg r o x y z)(u:∀p∈x,∀q∈y,r p<=r q):Ri r (o++(x++y))/\(o++(x++y)).Perm z :=
 ⟨List.pairwise_append.mpr ⟨h.so,List.pairwise_append.mpr ⟨h.sx,h.sy,u⟩,λp H q Q=>h.le p H q (List.mem_append.mp Q)⟩,h.pm⟩
def rd(r:Keyed->Int)(a:Array Keyed)(i:Nat):Int:=(a[i]?.map r).getD 0
def Up(r:Keyed->Int)(a:Array Keyed)(lo hi:Nat):Prop:=∀i j,lo<=i->i<=j->j < hi->rd r a i<=rd r a j
def QP(h:i < a.size):rd r a i=r a[i]:=by
 unfold rd;rw[getElem?_pos a i h];rfl
def R9(h:Up r a 0 a.size):Ri r a.toList:=by
 unfold Ri;rw[List.pairwise_iff_getElem];intro i j I H Q;have:=h i j (xW _) (by lia) (by simpa using H);rw[QP (by simpa using I),QP (by simpa using H)] at this;simpa using this
def ZW(h:Ri r a.toList):Up r a 0 a.size:=by
 intro i j _ Q H;by_cases e:i=j
 .subst e;exact qA _
 .unfold Ri at h;rw[List.pairwise_iff_getElem] at h;have:=h i j (by simp;lia) (by simpa using H) (by lia);rw[QP (by lia),QP H];simpa using this
def QI(h:p∈(a.extract i j).toList):∃k,i<=k/\k < j/\k < a.size/\r p=rd r a k:=by
 let⟨k,H,rfl⟩:=Array.mem_iff_getElem.mp (Array.mem_toList_iff.mp h);rw[Array.size_extract] at H;refine⟨i+k,by lia,by lia,by lia,?_⟩;rw[Array.getElem_extract,QP (by lia)]
def Q7{a:Array Keyed}{i j k:Nat}(H:i<=j)(b:j<=k):(a.extract i k).toList=(a.extract i j).toList++(a.extract j k).toList:=by
 rw[<- Array.toList_append,Array.extract_append_extract,Nat.min_eq_left H,Nat.max_eq_right b]
def TR{a:Array Keyed}{i:Nat}(h:i < a.size):(a.extract i (i+1)).toList=[a[i]]:=by
 apply jI
 .simp;lia
 .intro k b H;have:k=0:=by simp at H;lia
  subst this;simp
abbrev S1:=Δ (Array Keyed)×Array Keyed×Nat×Nat×Nat×Nat
abbrev S2:=Δ (Array Keyed)×Array Keyed×Nat×Nat×Nat×Nat×Nat
abbrev S0:=Δ (Array Keyed)×Array Keyed×Nat×Nat×Nat
section
variable (a b:Array Keyed)
def dn(o:Array Keyed)(i I:Nat):=o++a.extract i a.size++b.extract I b.size
def la(o:Array Keyed)(i I:Nat):=o++b.extract I b.size++a.extract i a.size
def lo5(o:Array Keyed)(i I m c B:Nat):StateT SortSt Sem (ForInStep S2):=do
 let x <- elem' a i
 if (i+1+1 == a.size)=true then pure (.done (↑(la a b (o.push x) (i+1) I),o.push x,i+1,I,m,c,B))
 else if (decide (c < 7)&&decide (B < 7))=true then pure (.done (none,o.push x,i+1,I,m,c,B))
 else pure (.yield (none,o.push x,i+1,I,m,c,B))
def lo4(o:Array Keyed)(I i m c B:Nat):StateT SortSt Sem (ForInStep S2):=do
 let x <- elem' b i
 if (i+1 == b.size)=true then pure (.done (↑(dn a b (o.push x) I (i+1)),o.push x,I,i+1,m,c,B))
 else do
  let y <- elem' a I
  let z <- QY true y b (i+1) (b.size - (i+1)) 0
  match z with
  | some k =>
   if k > 0 then
    if (i+1+k == b.size)=true then pure (.done (↑(dn a b (o.push x++b.extract (i+1) (i+1+k)) I (i+1+k)),o.push x++b.extract (i+1) (i+1+k),I,i+1+k,m,c,k))
    else lo5 a b (o.push x++b.extract (i+1) (i+1+k)) I (i+1+k) m c k
   else lo5 a b (o.push x) I (i+1) m c k
  | _=>pure (.done (↑(dn a b (o.push x) I (i+1)),o.push x,I,i+1,m,c,B))
def lo3(o:Array Keyed)(i I m A c:Nat):StateT SortSt Sem (ForInStep S2):=do
 RA m
 let x <- elem' b I
 let z <- QY false x a i (a.size - i) 0
 match z with
 | some k =>
  if k > 0 then
   if (i+k+1 == a.size)=true then pure (.done (↑(la a b (o++a.extract i (i+k)) (i+k) I),o++a.extract i (i+k),i+k,I,m,k,c))
   else if (i+k == a.size)=true then pure (.done (↑(dn a b (o++a.extract i (i+k)) (i+k) I),o++a.extract i (i+k),i+k,I,m,k,c))
   else lo4 a b (o++a.extract i (i+k)) (i+k) I m k c
  else lo4 a b o i I m k c
 | _=>pure (.done (↑(dn a b o i I),o,i,I,m,A,c))
def lo1(m:Nat)(c:S1):StateT SortSt Sem (ForInStep S1):=do
 let x <- elem' b c.2.2.2.1
 let y <- elem' a c.2.2.1
 let z <- lt' x y
 match z with
 | some Z =>
  if Z=true then do
   let x <- elem' b c.2.2.2.1
   if (c.2.2.2.1+1 == b.size)=true then pure (.done (↑(dn a b (c.2.1.push x) c.2.2.1 (c.2.2.2.1+1)),c.2.1.push x,c.2.2.1,c.2.2.2.1+1,0,c.2.2.2.2.2+1))
   else if c.2.2.2.2.2+1 >= m then pure (.done (none,c.2.1.push x,c.2.2.1,c.2.2.2.1+1,0,c.2.2.2.2.2+1))
   else pure (.yield (none,c.2.1.push x,c.2.2.1,c.2.2.2.1+1,0,c.2.2.2.2.2+1))
  else do
   let x <- elem' a c.2.2.1
   if (c.2.2.1+1+1 == a.size)=true then pure (.done (↑(la a b (c.2.1.push x) (c.2.2.1+1) c.2.2.2.1),c.2.1.push x,c.2.2.1+1,c.2.2.2.1,c.2.2.2.2.1+1,0))
   else if c.2.2.2.2.1+1 >= m then pure (.done (none,c.2.1.push x,c.2.2.1+1,c.2.2.2.1,c.2.2.2.2.1+1,0))
   else pure (.yield (none,c.2.1.push x,c.2.2.1+1,c.2.2.2.1,c.2.2.2.2.1+1,0))
 | _=>pure (.done (↑(dn a b c.2.1 c.2.2.1 c.2.2.2.1),c.2.1,c.2.2.1,c.2.2.2.1,c.2.2.2.2.1,c.2.2.2.2.2))
def lo2(c:S2):StateT SortSt Sem (ForInStep S2):=if c.2.2.2.2.1 > 1 then lo3 a b c.2.1 c.2.2.1 c.2.2.2.1 (c.2.2.2.2.1 - 1) c.2.2.2.2.2.1 c.2.2.2.2.2.2 else lo3 a b c.2.1 c.2.2.1 c.2.2.2.1 c.2.2.2.2.1 c.2.2.2.2.2.1 c.2.2.2.2.2.2
def lo0(c:S0):StateT SortSt Sem (ForInStep S0):=do
 let d <- forIn [0:a.size+b.size] ((none,c.2.1,c.2.2.1,c.2.2.2.1,0,0):S1) λ_ d=>lo1 a b c.2.2.2.2 d
 match d.1 with
 | some m=>pure (.done (↑m,d.2.1,d.2.2.1,d.2.2.2.1,c.2.2.2.2))
 | none=>do
  liftM (rule "list.sort.gallop")
  let e <- forIn [0:a.size+b.size] ((none,d.2.1,d.2.2.1,d.2.2.2.1,c.2.2.2.2+1,d.2.2.2.2.1,d.2.2.2.2.2):S2) λ_ e=>lo2 a b e
  match e.1 with
  | some m=>pure (.done (↑m,e.2.1,e.2.2.1,e.2.2.2.1,e.2.2.2.2.1))
  | none=>do
   RA (e.2.2.2.2.1+1)
   pure (.yield (none,e.2.1,e.2.2.1,e.2.2.2.1,e.2.2.2.2.1+1))
def TU:R6 a b=(do
 liftM (rule "list.sort.merge-lo")
 let x <- elem' b 0
 if (1 == b.size)=true then pure (dn a b #[x] 0 1)
 else if (0+1 == a.size)=true then pure (la a b #[x] 0 1)
 else do
  let g <- get
  let c <- forIn [0:a.size+b.size] ((none,#[x],0,1,gallopOf g):S0) λ_ c=>lo0 a b c
  match c.1 with
  | some m=>pure m
  | none=>liftM (unsupported "internal:list.sort.merge-bound":Sem (Array Keyed))):=by kernel_rfl
end
def Gd(r:Keyed->Int)(a b m:Array Keyed):Prop:=Ri r m.toList/\m.toList.Perm (a.toList++b.toList)
def Sl(r:Keyed->Int)(a b o:Array Keyed)(i I:Nat):Prop:=Mg r o.toList (a.extract i a.size).toList (b.extract I b.size).toList (a.toList++b.toList)
def Up.sub(h:Up r a l0 hi)(H:l0<=U)(d:h'<=hi):Up r a U h':=λi j a b c=>h i j (by lia) b (by lia)
def Sl.ta(h:Sl r a b out U ib)(K:U+k<=a.size)(u:∀i,U<=i->i < U+k->∀j,ib<=j->j < b.size->rd r a i<=rd r b j):Sl r a b (out++a.extract U (U+k)) (U+k) ib:=by
 unfold Sl at h ⊢;rw[Q7 (jW U k) K] at h;rw[Array.toList_append];refine h.many λp P q Q=>?_;let⟨i,H,c,_,e⟩:=QI (r:=r) P;let⟨j,d,f,_,E⟩:=QI (r:=r) Q;rw[e,E];exact u i H c j d f
def Sl.tb(h:Sl r a b out ia U)(K:U+k<=b.size)(u:∀i,U<=i->i < U+k->∀j,ia<=j->j < a.size->rd r b i<=rd r a j):Sl r a b (out++b.extract U (U+k)) ia (U+k):=by
 unfold Sl at h ⊢;rw[Q7 (jW U k) K] at h;rw[Array.toList_append];refine (h.swap.many λp P q Q=>?_).swap;let⟨i,H,c,_,e⟩:=QI (r:=r) P;let⟨j,d,f,_,E⟩:=QI (r:=r) Q;rw[e,E];exact u i H c j d f
def SV{a o:Array Keyed}{i:Nat}(h:i < a.size):o.push a[i]=o++a.extract i (i+1):=by
 apply Array.toList_inj.mp;rw[Array.toList_push,Array.toList_append,TR h]
def Sl.pa(h:Sl r a b out U ib)(k:U < a.size)(u:∀j,ib<=j->j < b.size->rd r a U<=rd r b j):Sl r a b (out.push a[U]) (U+1) ib:=by
 rw[SV k];exact h.ta k λi H c j=>by rw[show i=U by lia];exact u j
def Sl.pb(h:Sl r a b out ia U)(k:U < b.size)(u:∀j,ia<=j->j < a.size->rd r b U<=rd r a j):Sl r a b (out.push b[U]) ia (U+1):=by
 rw[SV k];exact h.tb k λi H c j=>by rw[show i=U by lia];exact u j
def Sl.ed(h:Sl r a b out U ib)(k:U=a.size\/ib=b.size):Gd r a b (dn a b out U ib):=by
 unfold Gd Ti.dn;rw[Array.toList_append,Array.toList_append,List.append_assoc];refine h.fin λp H q Q=>?_;let⟨i,c,d,_,e⟩:=QI (r:=r) H;let⟨j,f,g,_,E⟩:=QI (r:=r) Q;lia
def Sl.el(h:Sl r a b out U ib)(g:U+1=a.size)(hl:∀i,i < b.size->rd r b i<=rd r a (a.size - 1)):Gd r a b (la a b out U ib):=by
 unfold Gd Ti.la;rw[Array.toList_append,Array.toList_append,List.append_assoc];refine h.swap.fin λp P q Q=>?_;let⟨i,c,H,_,e⟩:=QI (r:=r) P;let⟨j,d,f,_,E⟩:=QI (r:=r) Q;rw[e,E,show j=a.size - 1 by lia];exact hl i H
def Sm(st Q:SortSt):Prop:=kindOf Q=kindOf st/\arrOf Q=arrOf st/\pendingOf Q=pendingOf st/\failedOf Q=failedOf st
def Sm.refl{st:SortSt}:Sm st st:=⟨rfl,rfl,rfl,rfl⟩
def Sm.trans{st:SortSt}(h:Sm st Rp)(h':Sm Rp U):Sm st U:=⟨h'.1.trans h.1,h'.2.1.trans h.2.1,h'.2.2.1.trans h.2.2.1,h'.2.2.2.trans h.2.2.2⟩
section
variable {prog:ε}{w:δ}{A:ξ}{E:Θ->Ξ->Prop}{s:Ξ}{st:SortSt}
def UT(h:∀C,Sm st C->Q () C):wpS (model prog w) A E s (RA g) Q st:=wpS_modify (h _ ⟨rfl,rfl,rfl,rfl⟩)
structure Two(prog:Program)(w:World)(A:Around)(s:Shared)(κ:SortKind)(r:Keyed->Int)(P:Keyed->Prop)(a b:Array Keyed):Prop where
 C:Wh prog w A s κ r P
 pa:∀i (h:i < a.size),P a[i]
 pb:∀i (h:i < b.size),P b[i]
 ua:Up r a 0 a.size
 ub:Up r b 0 b.size
variable {κ:SortKind}{r:Keyed->Int}{P:Keyed->Prop}{a b:Array Keyed}
def Ta(C:Wh prog w A s κ r P)(K:kindOf st=κ)(R:P key)(X:base+n<=x.size)(p:∀i (h:i < x.size),P x[i])(u:Up r x base (base+n))(N:hint < n)
  (h:∀k,k<=n->(∀i,base<=i->i < base+k->rd r x i<=r key)->(∀i,base+k<=i->i < base+n->r key < rd r x i)->Q (↑k) st):wpS (model prog w) A E s (QY false key x base n hint) Q st:=by
 refine TQ false C K R (λi I=>⟨by lia,p _ _⟩) (λi=>!decide (r key < rd r x (base+i))) (λi I=>by rw[QP];rfl) (λi j q J e=>?_) N λk F=>h k F.le (λi H a=>?_) λi H a=>?_
 .have:=u (base+i) (base+j) (by lia) (by lia) (by lia);simp?[yQ,xC] at e ⊢;lia
 .have:=F.yes (i - base) (by lia);rw[show base+(i - base)=i by lia] at this;simp?[yQ,xC] at this;lia
 .have:=F.no (i - base) (by lia) (by lia);rw[show base+(i - base)=i by lia] at this;simpa using this
def Uz(C:Wh prog w A s κ r P)(K:kindOf st=κ)(R:P key)(X:base+n<=x.size)(p:∀i (h:i < x.size),P x[i])(u:Up r x base (base+n))(N:hint < n)
  (h:∀k,k<=n->(∀i,base<=i->i < base+k->rd r x i < r key)->(∀i,base+k<=i->i < base+n->r key<=rd r x i)->Q (↑k) st):wpS (model prog w) A E s (QY true key x base n hint) Q st:=by
 refine TQ true C K R (λi I=>⟨by lia,p _ _⟩) (λi=>decide (rd r x (base+i) < r key)) (λi I=>by rw[QP];rfl) (λi j q J e=>?_) N λk F=>h k F.le (λi H a=>?_) λi H a=>?_
 .have:=u (base+i) (base+j) (by lia) (by lia) (by lia);simp?[zJ] at e ⊢;lia
 .have:=F.yes (i - base) (by lia);rw[show base+(i - base)=i by lia] at this;simpa using this
 .have:=F.no (i - base) (by lia) (by lia);rw[show base+(i - base)=i by lia] at this;simpa using this
def Go(r:Keyed->Int)(a b:Array Keyed)(m:Nat)(o:Array Keyed)(i I:Nat):Prop:=Sl r a b o i I/\i+1 < a.size/\I < b.size/\m<=i+I
def Qd(r:Keyed->Int)(a b:Array Keyed)(m:Nat):ForInStep S2->Prop
 | .done c=>(c.1=none/\Go r a b m c.2.1 c.2.2.1 c.2.2.2.1)\/∃x,c.1=↑x/\Gd r a b x
 | .yield c=>c.1=none/\Go r a b m c.2.1 c.2.2.1 c.2.2.2.1
variable (T:Two prog w A s κ r P a b) (hl:∀i,i < b.size->rd r b i<=rd r a (a.size - 1))
include T hl
theorem Xh(h:Sl r a b out U ib)(d:U+1 < a.size)(c:ib < b.size)(M:m<=U+1+ib)(u:∀j,ib<=j->j < b.size->rd r a U<=rd r b j):wpS (model prog w) A E s (lo5 a b out U ib mg ac bc) (λx Q=>Sm st Q/\Qd r a b m x) st:=by
 unfold lo5;refine wpS_bind (QL (by lia) ?_);have H:=h.pa (by lia) u;by_cases e:(U+1+1 == a.size)=true
 .rw[yM e];exact wpS_pure ⟨.refl,.inr ⟨_,rfl,H.el (by simpa using e) hl⟩⟩
 .rw[yO e];have e:¬ U+1+1=a.size:=by simpa using e
  have g:Go r a b m (out.push a[U]) (U+1) ib:=⟨H,by lia,c,by lia⟩
  split
  .exact wpS_pure ⟨.refl,.inl ⟨rfl,g⟩⟩
  .exact wpS_pure ⟨.refl,rfl,g⟩
theorem Xi(K:kindOf st=κ)(h:Sl r a b out ia U)(g:ia+1 < a.size)(l:U < b.size)(M:m<=ia+1+U)(u:∀j,ia<=j->j < a.size->rd r b U<=rd r a j):wpS (model prog w) A E s (lo4 a b out ia U mg ac bc) (λx Q=>Sm st Q/\Qd r a b m x) st:=by
 unfold lo4;refine wpS_bind (QL l ?_);have H:=h.pb l u;by_cases e:(U+1 == b.size)=true
 .rw[yM e];exact wpS_pure ⟨.refl,.inr ⟨_,rfl,H.ed (.inr (by simpa using e))⟩⟩
 .rw[yO e];have e:¬ U+1=b.size:=by simpa using e
  refine wpS_bind (QL (by lia) (wpS_bind (Uz T.C K (T.pa _ _) (by lia) T.pb (T.ub.sub (xW _) (by lia)) (by lia) λk V F f=>?_)));dsimp only;rw[<- QP (r:=r) (show ia < a.size by lia)] at F f;by_cases z:k > 0
  .rw[yM z];have Y:=H.tb (k:=k) (by lia) λi I n j J d=>jV (Int.le_of_lt (F i I n)) (T.ua ia j (xW _) J d);by_cases c:(U+1+k == b.size)=true
   .rw[yM c];exact wpS_pure ⟨.refl,.inr ⟨_,rfl,Y.ed (.inr (by simpa using c))⟩⟩
   .rw[yO c];have c:¬ U+1+k=b.size:=by simpa using c
    exact Xh T hl Y g (by lia) (by lia) λj J d=>f j (by lia) (by lia)
  .rw[yO z];exact Xh T hl H g (by lia) (by lia) λj J d=>f j (by lia) (by lia)
theorem Xj(K:kindOf st=κ)(h:Sl r a b out U ib)(l:U+1 < a.size)(H:ib < b.size)(M:m<=U+1+ib):wpS (model prog w) A E s (lo3 a b out U ib mg ac bc) (λx Q=>Sm st Q/\Qd r a b m x) st:=by
 unfold lo3;refine wpS_bind (UT λR S=>?_);have W:=S.1.trans K;refine wpS_bind (QL H (wpS_bind (Ta T.C W (T.pb _ _) (by lia) T.pa (T.ua.sub (xW _) (by lia)) (by lia) λk V F f=>?_)));dsimp only;rw[<- QP (r:=r) H] at F f;by_cases z:k > 0
 .rw[yM z];have d:=h.ta (k:=k) (by lia) λi I n j J g=>jV (F i I n) (T.ub ib j (xW _) J g);by_cases e:(U+k+1 == a.size)=true
  .rw[yM e];exact wpS_pure ⟨S,.inr ⟨_,rfl,d.el (by simpa using e) hl⟩⟩
  .rw[yO e];by_cases c:(U+k == a.size)=true
   .rw[yM c];exact wpS_pure ⟨S,.inr ⟨_,rfl,d.ed (.inl (by simpa using c))⟩⟩
   .rw[yO c];have e:¬ U+k+1=a.size:=by simpa using e
    have c:¬ U+k=a.size:=by simpa using c
    exact wpS_mono (Xi T hl W d (by lia) H (by lia) λj J g=>Int.le_of_lt (f j (by lia) (by lia))) λx Q q=>⟨S.trans q.1,q.2⟩
 .rw[yO z];exact wpS_mono (Xi T hl W h l H M λj J g=>Int.le_of_lt (f j (by lia) (by lia))) λx Q q=>⟨S.trans q.1,q.2⟩
theorem ZY(k:kindOf st=κ)(h:Go r a b m c.2.1 c.2.2.1 c.2.2.2.1):wpS (model prog w) A E s (lo2 a b c) (λx Q=>Sm st Q/\Qd r a b (m+1) x) st:=by
 unfold lo2;have:=h.2.2.2;split
 .exact Xj T hl k h.1 h.2.1 h.2.2.1 (by lia)
 .exact Xj T hl k h.1 h.2.1 h.2.2.1 (by lia)
def Qe(r:Keyed->Int)(a b:Array Keyed)(m:Nat):ForInStep S1->Prop
 | .done c=>(c.1=none/\Go r a b m c.2.1 c.2.2.1 c.2.2.2.1)\/∃x,c.1=↑x/\Gd r a b x
 | .yield c=>c.1=none/\Go r a b m c.2.1 c.2.2.1 c.2.2.2.1
theorem ZZ(K:kindOf st=κ)(h:Go r a b m c.2.1 c.2.2.1 c.2.2.2.1):wpS (model prog w) A E s (lo1 a b mg c) (λx Q=>Sm st Q/\Qe r a b m x) st:=by
 let⟨p,o,i,I,n,B⟩:=c;let⟨h,k,H,l⟩:=h;dsimp only at h k H l;unfold lo1;dsimp only;have Z:i < a.size:=by lia
 refine wpS_bind (QL H (wpS_bind (QL Z (wpS_bind (w_lt T.C K (T.pb _ _) (T.pa _ _) ?_)))));dsimp only;by_cases y:decide (r b[I] < r a[i])=true
 .rw[yM y];refine wpS_bind (QL H ?_);have y:=yR y;rw[<- QP (r:=r) H,<- QP (r:=r) Z] at y;have d:=h.pb H λj J f=>jV (Int.le_of_lt y) (T.ua i j (xW _) J f);by_cases e:(I+1 == b.size)=true
  .rw[yM e];exact wpS_pure ⟨.refl,.inr ⟨_,rfl,d.ed (.inr (by simpa using e))⟩⟩
  .rw[yO e];have e:¬ I+1=b.size:=by simpa using e
   have g:Go r a b m (o.push b[I]) i (I+1):=⟨d,k,by lia,by lia⟩
   split
   .exact wpS_pure ⟨.refl,.inl ⟨rfl,g⟩⟩
   .exact wpS_pure ⟨.refl,rfl,g⟩
 .rw[yO y];refine wpS_bind (QL Z ?_);have y:¬ r b[I] < r a[i]:=λz=>y (yA z);rw[<- QP (r:=r) H,<- QP (r:=r) Z] at y;have d:=h.pa Z λj J f=>jV (Int.not_lt.mp y) (T.ub I j (xW _) J f);by_cases e:(i+1+1 == a.size)=true
  .rw[yM e];exact wpS_pure ⟨.refl,.inr ⟨_,rfl,d.el (by simpa using e) hl⟩⟩
  .rw[yO e];have e:¬ i+1+1=a.size:=by simpa using e
   have g:Go r a b m (o.push a[i]) (i+1) I:=⟨d,by lia,H,by lia⟩
   split
   .exact wpS_pure ⟨.refl,.inl ⟨rfl,g⟩⟩
   .exact wpS_pure ⟨.refl,rfl,g⟩
theorem Z6(k:kindOf st=κ)(h:Go r a b m c.2.1 c.2.2.1 c.2.2.2.1):wpS (model prog w) A E s (lo0 a b c) (λx C=>Sm st C/\match x with|.done c=>∃x,c.1=↑x/\Gd r a b x|.yield c=>c.1=none/\Go r a b (m+1) c.2.1 c.2.2.1 c.2.2.2.1) st:=by
 unfold lo0;refine wpS_bind (wpS_mono (wpS_forRange (I:=λx (d:S1) C=>Sm st C/\d.1=none/\Go r a b m d.2.1 d.2.2.1 d.2.2.2.1) (Q:=λ(d:S1) C=>Sm st C/\((d.1=none/\Go r a b m d.2.1 d.2.2.1 d.2.2.2.1)\/∃x,d.1=↑x/\Gd r a b x)) ?step ?fin ⟨.refl,rfl,h⟩) ?post)
 case fin=>exactλc C z=>⟨z.1,.inl z.2⟩
 case step =>
  intro i d C _ _ z;refine wpS_mono (ZZ T hl (z.1.1.trans k) z.2.2) λx R q=>?_;cases x with
  | done d=>exact⟨z.1.trans q.1,q.2⟩
  | yield d=>exact⟨z.1.trans q.1,q.2⟩
 case post =>
  rintro⟨D,d⟩ p ⟨S,z⟩;rcases z with ⟨Z,g⟩|⟨x,Z,g⟩
  .cases Z;dsimp only at g ⊢;refine wpS_bind (wpS_lift (wI ⟨rfl,?_⟩));refine wpS_bind (wpS_mono (wpS_forRange (I:=λx (e:S2) C=>Sm st C/\e.1=none/\Go r a b (m+x) e.2.1 e.2.2.1 e.2.2.2.1) (Q:=λ(e:S2) C=>Sm st C/\((e.1=none/\Go r a b (m+1) e.2.1 e.2.2.1 e.2.2.2.1)\/∃x,e.1=↑x/\Gd r a b x)) ?step ?fin ⟨S,rfl,g⟩) ?post)
   case fin =>
    intro c C z;have:=z.2.2.2.1;refine⟨z.1,.inl ⟨z.2.1,z.2.2.1,z.2.2.2.1,z.2.2.2.2.1,?_⟩⟩;have:=z.2.2.2.2.2;lia
   case step =>
    intro i d C _ _ z;refine wpS_mono (ZY T hl (z.1.1.trans k) z.2.2) λx R q=>?_;cases x with
    | done d =>
     refine⟨z.1.trans q.1,q.2.imp (λy=>⟨y.1,y.2.1,y.2.2.1,y.2.2.2.1,?_⟩) id⟩;have:=y.2.2.2.2;lia
    | yield d=>exact⟨z.1.trans q.1,q.2⟩
   case post =>
    rintro⟨l,e⟩ R ⟨f,z⟩;rcases z with ⟨Z,g⟩|⟨x,Z,g⟩
    .cases Z;exact wpS_bind (UT λK j=>wpS_pure ⟨f.trans j,rfl,g⟩)
    .cases Z;exact wpS_pure ⟨f,_,rfl,g⟩
  .cases Z;exact wpS_pure ⟨S,_,rfl,g⟩
theorem Vg(K:kindOf st=κ)(t:0 < a.size)(H:0 < b.size)(F:rd r b 0<=rd r a 0)(h:∀m C,Sm st C->Gd r a b m->Q m C):wpS (model prog w) A E s (R6 a b) Q st:=by
 rw[TU];refine wpS_bind (wpS_lift (wI ⟨rfl,wpS_bind (QL H ?_)⟩));have k:Sl r a b #[] 0 0:=⟨List.Pairwise.nil,by rw[Array.extract_size];exact R9 T.ua,by rw[Array.extract_size];exact R9 T.ub,λp P=>(by cases P),by rw[Array.extract_size,Array.extract_size];exact .refl _⟩
 have B:Sl r a b #[b[0]] 0 1:=k.pb H λj J l=>jV F (T.ua 0 j (xW _) J l);by_cases e:(1 == b.size)=true
 .rw[yM e];exact wpS_pure (h _ _ .refl (B.ed (.inr (by simpa using e))))
 .rw[yO e];have e:¬ 1=b.size:=by simpa using e
  by_cases f:(0+1 == a.size)=true
  .rw[yM f];exact wpS_pure (h _ _ .refl (B.el (by simpa using f) hl))
  .rw[yO f];have f:¬ 0+1=a.size:=by simpa using f
   refine wpS_bind (wpS_get (wpS_bind (wpS_mono (wpS_forRange (I:=λx (c:S0) C=>Sm st C/\c.1=none/\Go r a b (1+x) c.2.1 c.2.2.1 c.2.2.2.1) (Q:=λ(c:S0) C=>Sm st C/\∃x,c.1=↑x/\Gd r a b x) ?step ?fin ⟨.refl,rfl,B,by dsimp only;lia,by dsimp only;lia,yN _⟩) ?post)))
   case fin =>
    intro c C z;have Z:=z.2.2.2.1;have u:=z.2.2.2.2.1;have v:=z.2.2.2.2.2;lia
   case step =>
    intro i d C _ _ z;refine wpS_mono (Z6 T hl (z.1.1.trans K) z.2.2) λx R q=>?_;cases x with
    | done d=>exact⟨z.1.trans q.1,q.2⟩
    | yield d=>exact⟨z.1.trans q.1,q.2⟩
   case post =>
    rintro⟨o,c⟩ n ⟨S,x,z,g⟩;cases z;exact wpS_pure (h _ _ S g)
end
abbrev H1:=Δ (Array Keyed)×Nat×Nat×Array Keyed×Nat×Nat
abbrev H2:=Δ (Array Keyed)×Nat×Nat×Array Keyed×Nat×Nat×Nat
abbrev H0:=Δ (Array Keyed)×Nat×Nat×Array Keyed×Nat
section
variable (a b:Array Keyed)
def dh(o:Array Keyed)(n N:Nat):=a.extract 0 n++b.extract 0 N++o.reverse
def fb(o:Array Keyed)(n N:Nat):=b.extract 0 N++a.extract 0 n++o.reverse
def hi5(o:Array Keyed)(n N m c B:Nat):StateT SortSt Sem (ForInStep H2):=do
 let x <- elem' a (n - 1)
 if (n - 1 == 0)=true then pure (.done (↑(dh a b (o.push x) (n - 1) N),n - 1,N,o.push x,m,c,B))
 else if (decide (c < 7)&&decide (B < 7))=true then pure (.done (none,n - 1,N,o.push x,m,c,B))
 else pure (.yield (none,n - 1,N,o.push x,m,c,B))
def hi4(o:Array Keyed)(N n m c B:Nat):StateT SortSt Sem (ForInStep H2):=do
 let x <- elem' b (n - 1)
 if (n - 1 == 1)=true then pure (.done (↑(fb a b (o.push x) N (n - 1)),N,n - 1,o.push x,m,c,B))
 else do
  let y <- elem' a (N - 1)
  let z <- QY true y b 0 (n - 1) (n - 1 - 1)
  match z with
  | some k =>
   if n - 1 - k > 0 then
    if (k == 1)=true then pure (.done (↑(fb a b (o.push x++(b.extract k (n - 1)).reverse) N k),N,k,o.push x++(b.extract k (n - 1)).reverse,m,c,n - 1 - k))
    else if (k == 0)=true then pure (.done (↑(dh a b (o.push x++(b.extract k (n - 1)).reverse) N k),N,k,o.push x++(b.extract k (n - 1)).reverse,m,c,n - 1 - k))
    else hi5 a b (o.push x++(b.extract k (n - 1)).reverse) N k m c (n - 1 - k)
   else hi5 a b (o.push x) N (n - 1) m c (n - 1 - k)
  | _=>pure (.done (↑(dh a b (o.push x) N (n - 1)),N,n - 1,o.push x,m,c,B))
def hi3(o:Array Keyed)(n N m A c:Nat):StateT SortSt Sem (ForInStep H2):=do
 RA m
 let x <- elem' b (N - 1)
 let z <- QY false x a 0 n (n - 1)
 match z with
 | some k =>
  if n - k > 0 then
   if (k == 0)=true then pure (.done (↑(dh a b (o++(a.extract k n).reverse) k N),k,N,o++(a.extract k n).reverse,m,n - k,c))
   else hi4 a b (o++(a.extract k n).reverse) k N m (n - k) c
  else hi4 a b o n N m (n - k) c
 | _=>pure (.done (↑(dh a b o n N),n,N,o,m,A,c))
def hi1(m:Nat)(c:H1):StateT SortSt Sem (ForInStep H1):=do
 let x <- elem' b (c.2.2.1 - 1)
 let y <- elem' a (c.2.1 - 1)
 let z <- lt' x y
 match z with
 | some Z =>
  if Z=true then do
   let x <- elem' a (c.2.1 - 1)
   if (c.2.1 - 1 == 0)=true then pure (.done (↑(dh a b (c.2.2.2.1.push x) (c.2.1 - 1) c.2.2.1),c.2.1 - 1,c.2.2.1,c.2.2.2.1.push x,c.2.2.2.2.1+1,0))
   else if c.2.2.2.2.1+1 >= m then pure (.done (none,c.2.1 - 1,c.2.2.1,c.2.2.2.1.push x,c.2.2.2.2.1+1,0))
   else pure (.yield (none,c.2.1 - 1,c.2.2.1,c.2.2.2.1.push x,c.2.2.2.2.1+1,0))
  else do
   let x <- elem' b (c.2.2.1 - 1)
   if (c.2.2.1 - 1 == 1)=true then pure (.done (↑(fb a b (c.2.2.2.1.push x) c.2.1 (c.2.2.1 - 1)),c.2.1,c.2.2.1 - 1,c.2.2.2.1.push x,0,c.2.2.2.2.2+1))
   else if c.2.2.2.2.2+1 >= m then pure (.done (none,c.2.1,c.2.2.1 - 1,c.2.2.2.1.push x,0,c.2.2.2.2.2+1))
   else pure (.yield (none,c.2.1,c.2.2.1 - 1,c.2.2.2.1.push x,0,c.2.2.2.2.2+1))
 | _=>pure (.done (↑(dh a b c.2.2.2.1 c.2.1 c.2.2.1),c.2.1,c.2.2.1,c.2.2.2.1,c.2.2.2.2.1,c.2.2.2.2.2))
def hi2(c:H2):StateT SortSt Sem (ForInStep H2):=if c.2.2.2.2.1 > 1 then hi3 a b c.2.2.2.1 c.2.1 c.2.2.1 (c.2.2.2.2.1 - 1) c.2.2.2.2.2.1 c.2.2.2.2.2.2 else hi3 a b c.2.2.2.1 c.2.1 c.2.2.1 c.2.2.2.2.1 c.2.2.2.2.2.1 c.2.2.2.2.2.2
def hi0(c:H0):StateT SortSt Sem (ForInStep H0):=do
 let d <- forIn [0:a.size+b.size] ((none,c.2.1,c.2.2.1,c.2.2.2.1,0,0):H1) λ_ d=>hi1 a b c.2.2.2.2 d
 match d.1 with
 | some m=>pure (.done (↑m,d.2.1,d.2.2.1,d.2.2.2.1,c.2.2.2.2))
 | none=>do
  liftM (rule "list.sort.gallop")
  let e <- forIn [0:a.size+b.size] ((none,d.2.1,d.2.2.1,d.2.2.2.1,c.2.2.2.2+1,d.2.2.2.2.1,d.2.2.2.2.2):H2) λ_ e=>hi2 a b e
  match e.1 with
  | some m=>pure (.done (↑m,e.2.1,e.2.2.1,e.2.2.2.1,e.2.2.2.2.1))
  | none=>do
   RA (e.2.2.2.2.1+1)
   pure (.yield (none,e.2.1,e.2.2.1,e.2.2.2.1,e.2.2.2.2.1+1))
def TV:R7 a b=(do
 liftM (rule "list.sort.merge-hi")
 let x <- elem' a (a.size - 1)
 if (a.size - 1 == 0)=true then pure (dh a b #[x] (a.size - 1) b.size)
 else if (b.size == 1)=true then pure (fb a b #[x] (a.size - 1) b.size)
 else do
  let g <- get
  let c <- forIn [0:a.size+b.size] ((none,a.size - 1,b.size,#[x],gallopOf g):H0) λ_ c=>hi0 a b c
  match c.1 with
  | some m=>pure m
  | none=>liftM (unsupported "internal:list.sort.merge-bound":Sem (Array Keyed))):=by kernel_rfl
end
def ng(r:Keyed->Int):Keyed->Int:=λp=>- r p
def VY(h:Ri (ng r) l):Ri r l.reverse:=by
 unfold Ri;rw[List.pairwise_reverse];exact h.imp λ{p q}(z:- r p<=- r q)=>by lia
def VZ(h:Ri r l):Ri (ng r) l.reverse:=by
 unfold Ri;rw[List.pairwise_reverse];exact h.imp λ{p q} z=>by show - r q<=- r p;lia
def Sh(r:Keyed->Int)(a b o:Array Keyed)(n N:Nat):Prop:=Mg (ng r) o.toList (a.extract 0 n).toList.reverse (b.extract 0 N).toList.reverse (a.toList++b.toList)
def Sh.ta(h:Sh r a b out na nb)(K:k<=na)(u:∀i,k<=i->i < na->∀j,j < nb->rd r b j<=rd r a i):Sh r a b (out++(a.extract k na).reverse) k nb:=by
 unfold Sh at h ⊢;rw[Q7 (xW k) K,List.reverse_append] at h;rw[Array.toList_append,Array.toList_reverse];refine h.many λp P q Q=>?_;let⟨i,H,c,_,e⟩:=QI (r:=r) (List.mem_reverse.mp P);let⟨j,f,d,_,E⟩:=QI (r:=r) (List.mem_reverse.mp Q);show - r p<=- r q;rw[e,E];have:=u i H c j d;lia
def Sh.tb(h:Sh r a b out na nb)(K:k<=nb)(u:∀i,k<=i->i < nb->∀j,j < na->rd r a j<=rd r b i):Sh r a b (out++(b.extract k nb).reverse) na k:=by
 unfold Sh at h ⊢;rw[Q7 (xW k) K,List.reverse_append] at h;rw[Array.toList_append,Array.toList_reverse];refine (h.swap.many λp P q Q=>?_).swap;let⟨i,H,c,_,e⟩:=QI (r:=r) (List.mem_reverse.mp P);let⟨j,f,d,_,E⟩:=QI (r:=r) (List.mem_reverse.mp Q);show - r p<=- r q;rw[e,E];have:=u i H c j d;lia
def SW{a o:Array Keyed}{i:Nat}(H:0 < i)(h:i - 1 < a.size):o.push a[i - 1]=o++(a.extract (i - 1) i).reverse:=by
 apply Array.toList_inj.mp;have e:=TR h;rw[show i - 1+1=i by lia] at e;rw[Array.toList_push,Array.toList_append,Array.toList_reverse,e];rfl
def Sh.pa(h:Sh r a b out na nb)(H:0 < na)(k:na - 1 < a.size)(u:∀j,j < nb->rd r b j<=rd r a (na - 1)):Sh r a b (out.push a[na - 1]) (na - 1) nb:=by
 rw[SW H k];exact h.ta (Nat.sub_le ..) λi c d j=>by rw[show i=na - 1 by lia];exact u j
def Sh.pb(h:Sh r a b out na nb)(H:0 < nb)(k:nb - 1 < b.size)(u:∀j,j < na->rd r a j<=rd r b (nb - 1)):Sh r a b (out.push b[nb - 1]) na (nb - 1):=by
 rw[SW H k];exact h.tb (Nat.sub_le ..) λi c d j=>by rw[show i=nb - 1 by lia];exact u j
def Sh.ed(h:Sh r a b out na nb)(m:na=0\/nb=0):Gd r a b (dh a b out na nb):=by
 have f:=h.swap.fin λp H q Q=>by
  let⟨i,d,g,_,E⟩:=QI (r:=r) (List.mem_reverse.mp H);let⟨j,k,l,_,c⟩:=QI (r:=r) (List.mem_reverse.mp Q);lia
 have e:(dh a b out na nb).toList=(out.toList++((b.extract 0 nb).toList.reverse++(a.extract 0 na).toList.reverse)).reverse:=by
  unfold dh;simp?[Array.toList_append,Array.toList_reverse,List.reverse_append,List.reverse_reverse]
 unfold Gd;rw[e];exact⟨VY f.1,(List.reverse_perm _).trans f.2⟩
def Sh.el(h:Sh r a b out na nb)(n:nb=1)(d:0 < b.size)(A:na<=a.size)(hl:∀i,i < a.size->rd r b 0<=rd r a i):Gd r a b (fb a b out na nb):=by
 have f:=h.fin λp P q Q=>by
  let⟨i,g,k,H,c⟩:=QI (r:=r) (List.mem_reverse.mp P);let⟨j,l,m,_,E⟩:=QI (r:=r) (List.mem_reverse.mp Q);have:=hl i H;rw[show j=0 by lia] at E;show - r p<=- r q;lia
 have e:(fb a b out na nb).toList=(out.toList++((a.extract 0 na).toList.reverse++(b.extract 0 nb).toList.reverse)).reverse:=by
  unfold fb;simp?[Array.toList_append,Array.toList_reverse,List.reverse_append,List.reverse_reverse]
 unfold Gd;rw[e];exact⟨VY f.1,(List.reverse_perm _).trans f.2⟩
section
variable {prog:ε}{w:δ}{A:ξ}{E:Θ->Ξ->Prop}{s:Ξ}{st:SortSt}
variable {κ:SortKind}{r:Keyed->Int}{P:Keyed->Prop}{a b:Array Keyed}
def Gh(r:Keyed->Int)(a b:Array Keyed)(m n N:Nat)(o:Array Keyed):Prop:=Sh r a b o n N/\0 < n/\n < a.size/\1 < N/\N<=b.size/\n+N+m<=a.size+b.size
def Qh(r:Keyed->Int)(a b:Array Keyed)(m:Nat):ForInStep H2->Prop
 | .done c=>(c.1=none/\Gh r a b m c.2.1 c.2.2.1 c.2.2.2.1)\/∃x,c.1=↑x/\Gd r a b x
 | .yield c=>c.1=none/\Gh r a b m c.2.1 c.2.2.1 c.2.2.2.1
variable (T:Two prog w A s κ r P a b) (hl:∀i,i < a.size->rd r b 0<=rd r a i)
include T hl
theorem Xl(h:Sh r a b out na nb)(c:0 < na)(i:na < a.size)(d:1 < nb)(f:nb<=b.size)(M:na - 1+nb+m<=a.size+b.size)(u:∀j,j < nb->rd r b j<=rd r a (na - 1)):wpS (model prog w) A E s (hi5 a b out na nb mg ac U) (λx Q=>Sm st Q/\Qh r a b m x) st:=by
 unfold hi5;refine wpS_bind (QL (by lia) ?_);have H:=h.pa c (by lia) u;by_cases e:(na - 1 == 0)=true
 .rw[yM e];exact wpS_pure ⟨.refl,.inr ⟨_,rfl,H.ed (.inl (by simpa using e))⟩⟩
 .rw[yO e];have e:¬ na - 1=0:=by simpa using e
  have g:Gh r a b m (na - 1) nb (out.push a[na - 1]):=⟨H,by lia,by lia,d,f,by lia⟩
  split
  .exact wpS_pure ⟨.refl,.inl ⟨rfl,g⟩⟩
  .exact wpS_pure ⟨.refl,rfl,g⟩
theorem Xm(K:kindOf st=κ)(h:Sh r a b out na nb)(g:0 < na)(l:na < a.size)(n:1 < nb)(o:nb<=b.size)(M:na - 1+nb+m<=a.size+b.size)(u:∀j,j < na->rd r a j<=rd r b (nb - 1)):wpS (model prog w) A E s (hi4 a b out na nb mg ac U) (λx Q=>Sm st Q/\Qh r a b m x) st:=by
 unfold hi4;have S:nb - 1 < b.size:=by lia
 refine wpS_bind (QL S ?_);have H:=h.pb (by lia) S u;by_cases e:(nb - 1 == 1)=true
 .rw[yM e];exact wpS_pure ⟨.refl,.inr ⟨_,rfl,H.el (by simpa using e) (by lia) (by lia) hl⟩⟩
 .rw[yO e];have e:¬ nb - 1=1:=by simpa using e
  have t:na - 1 < a.size:=by lia
  refine wpS_bind (QL t (wpS_bind (Uz T.C K (T.pa _ _) (by lia) T.pb (T.ub.sub (xW _) (by lia)) (by lia) λk V f F=>?_)));dsimp only;rw[<- QP (r:=r) t] at f F;by_cases z:nb - 1 - k > 0
  .rw[yM z];have Y:=H.tb (k:=k) (by lia) λi I p j J=>jV (T.ua j (na - 1) (xW _) (by lia) t) (F i (by lia) (by lia));by_cases c:(k == 1)=true
   .rw[yM c];exact wpS_pure ⟨.refl,.inr ⟨_,rfl,Y.el (by simpa using c) (by lia) (by lia) hl⟩⟩
   .rw[yO c];by_cases d:(k == 0)=true
    .rw[yM d];exact wpS_pure ⟨.refl,.inr ⟨_,rfl,Y.ed (.inr (by simpa using d))⟩⟩
    .rw[yO d];have c:¬ k=1:=by simpa using c
     have d:¬ k=0:=by simpa using d
     exact Xl T hl Y g l (by lia) (by lia) (by lia) λj J=>Int.le_of_lt (f j (xW _) (by lia))
  .rw[yO z];exact Xl T hl H g l (by lia) (by lia) (by lia) λj J=>Int.le_of_lt (f j (xW _) (by lia))
theorem Xn(K:kindOf st=κ)(h:Sh r a b out na nb)(l:0 < na)(n:na < a.size)(d:1 < nb)(g:nb<=b.size)(M:na - 1+nb+m<=a.size+b.size):wpS (model prog w) A E s (hi3 a b out na nb mg ac U) (λx Q=>Sm st Q/\Qh r a b m x) st:=by
 unfold hi3;refine wpS_bind (UT λR S=>?_);have W:=S.1.trans K;have c:nb - 1 < b.size:=by lia
 refine wpS_bind (QL c (wpS_bind (Ta T.C W (T.pb _ _) (by lia) T.pa (T.ua.sub (xW _) (by lia)) (by lia) λk V f F=>?_)));dsimp only;rw[<- QP (r:=r) c] at f F;by_cases z:na - k > 0
 .rw[yM z];have H:=h.ta (k:=k) (by lia) λi I o j J=>jV (T.ub j (nb - 1) (xW _) (by lia) c) (Int.le_of_lt (F i (by lia) (by lia)));by_cases e:(k == 0)=true
  .rw[yM e];exact wpS_pure ⟨S,.inr ⟨_,rfl,H.ed (.inl (by simpa using e))⟩⟩
  .rw[yO e];have e:¬ k=0:=by simpa using e
   exact wpS_mono (Xm T hl W H (by lia) (by lia) d g (by lia) λj J=>f j (xW _) (by lia)) λx Q q=>⟨S.trans q.1,q.2⟩
 .rw[yO z];exact wpS_mono (Xm T hl W h l n d g M λj J=>f j (xW _) (by lia)) λx Q q=>⟨S.trans q.1,q.2⟩
theorem Z8(k:kindOf st=κ)(h:Gh r a b m c.2.1 c.2.2.1 c.2.2.2.1):wpS (model prog w) A E s (hi2 a b c) (λx Q=>Sm st Q/\Qh r a b (m+1) x) st:=by
 unfold hi2;let⟨g,G,d,e,f,i⟩:=h;split
 .exact Xn T hl k g G d e f (by lia)
 .exact Xn T hl k g G d e f (by lia)
def Qi(r:Keyed->Int)(a b:Array Keyed)(m:Nat):ForInStep H1->Prop
 | .done c=>(c.1=none/\Gh r a b m c.2.1 c.2.2.1 c.2.2.2.1)\/∃x,c.1=↑x/\Gd r a b x
 | .yield c=>c.1=none/\Gh r a b m c.2.1 c.2.2.1 c.2.2.2.1
theorem Z9(K:kindOf st=κ)(h:Gh r a b m c.2.1 c.2.2.1 c.2.2.2.1):wpS (model prog w) A E s (hi1 a b mg c) (λx Q=>Sm st Q/\Qi r a b m x) st:=by
 let⟨q,n,N,o,p,B⟩:=c;let⟨h,d,f,i,k,l⟩:=h;dsimp only at h d f i k l;unfold hi1;dsimp only;have t:n - 1 < a.size:=by lia
 have S:N - 1 < b.size:=by lia
 refine wpS_bind (QL S (wpS_bind (QL t (wpS_bind (w_lt T.C K (T.pb _ _) (T.pa _ _) ?_)))));dsimp only;by_cases y:decide (r b[N - 1] < r a[n - 1])=true
 .rw[yM y];refine wpS_bind (QL t ?_);have y:=yR y;rw[<- QP (r:=r) S,<- QP (r:=r) t] at y;have H:=h.pa d t λj J=>jV (T.ub j (N - 1) (xW _) (by lia) S) (Int.le_of_lt y);by_cases e:(n - 1 == 0)=true
  .rw[yM e];exact wpS_pure ⟨.refl,.inr ⟨_,rfl,H.ed (.inl (by simpa using e))⟩⟩
  .rw[yO e];have e:¬ n - 1=0:=by simpa using e
   have g:Gh r a b m (n - 1) N (o.push a[n - 1]):=⟨H,by lia,by lia,i,k,by lia⟩
   split
   .exact wpS_pure ⟨.refl,.inl ⟨rfl,g⟩⟩
   .exact wpS_pure ⟨.refl,rfl,g⟩
 .rw[yO y];refine wpS_bind (QL S ?_);have y:¬ r b[N - 1] < r a[n - 1]:=λz=>y (yA z);rw[<- QP (r:=r) S,<- QP (r:=r) t] at y;have H:=h.pb (by lia) S λj J=>jV (T.ua j (n - 1) (xW _) (by lia) t) (Int.not_lt.mp y);by_cases e:(N - 1 == 1)=true
  .rw[yM e];exact wpS_pure ⟨.refl,.inr ⟨_,rfl,H.el (by simpa using e) (by lia) (by lia) hl⟩⟩
  .rw[yO e];have e:¬ N - 1=1:=by simpa using e
   have g:Gh r a b m n (N - 1) (o.push b[N - 1]):=⟨H,d,f,by lia,by lia,by lia⟩
   split
   .exact wpS_pure ⟨.refl,.inl ⟨rfl,g⟩⟩
   .exact wpS_pure ⟨.refl,rfl,g⟩
theorem aaa(H:kindOf st=κ)(h:Gh r a b m c.2.1 c.2.2.1 c.2.2.2.1):wpS (model prog w) A E s (hi0 a b c) (λx C=>Sm st C/\match x with|.done c=>∃x,c.1=↑x/\Gd r a b x|.yield c=>c.1=none/\Gh r a b (m+1) c.2.1 c.2.2.1 c.2.2.2.1) st:=by
 unfold hi0;refine wpS_bind (wpS_mono (wpS_forRange (I:=λx (d:H1) C=>Sm st C/\d.1=none/\Gh r a b m d.2.1 d.2.2.1 d.2.2.2.1) (Q:=λ(d:H1) C=>Sm st C/\((d.1=none/\Gh r a b m d.2.1 d.2.2.1 d.2.2.2.1)\/∃x,d.1=↑x/\Gd r a b x)) ?step ?fin ⟨.refl,rfl,h⟩) ?post)
 case fin=>exactλc C z=>⟨z.1,.inl z.2⟩
 case step =>
  intro i d C _ _ z;refine wpS_mono (Z9 T hl (z.1.1.trans H) z.2.2) λx R q=>?_;cases x with
  | done d=>exact⟨z.1.trans q.1,q.2⟩
  | yield d=>exact⟨z.1.trans q.1,q.2⟩
 case post =>
  rintro⟨D,d⟩ P ⟨S,z⟩;rcases z with ⟨Z,g⟩|⟨x,Z,g⟩
  .cases Z;dsimp only at g ⊢;refine wpS_bind (wpS_lift (wI ⟨rfl,?_⟩));refine wpS_bind (wpS_mono (wpS_forRange (I:=λx (e:H2) C=>Sm st C/\e.1=none/\Gh r a b (m+x) e.2.1 e.2.2.1 e.2.2.2.1) (Q:=λ(e:H2) C=>Sm st C/\((e.1=none/\Gh r a b (m+1) e.2.1 e.2.2.1 e.2.2.2.1)\/∃x,e.1=↑x/\Gd r a b x)) ?step ?fin ⟨S,rfl,g⟩) ?post)
   case fin =>
    intro c C z;let⟨Z,t,G,f,j,k,l,o⟩:=z;exact⟨Z,.inl ⟨t,G,f,j,k,l,by lia⟩⟩
   case step =>
    intro i d C _ _ z;refine wpS_mono (Z8 T hl (z.1.1.trans H) z.2.2) λx R q=>?_;cases x with
    | done d =>
     refine⟨z.1.trans q.1,q.2.imp (λy=>?_) id⟩;let⟨Y,G,f,j,k,l,o⟩:=y;exact⟨Y,G,f,j,k,l,by lia⟩
    | yield d=>exact⟨z.1.trans q.1,q.2⟩
   case post =>
    rintro⟨u,e⟩ R ⟨n,z⟩;rcases z with ⟨Z,g⟩|⟨x,Z,g⟩
    .cases Z;exact wpS_bind (UT λK p=>wpS_pure ⟨n.trans p,rfl,g⟩)
    .cases Z;exact wpS_pure ⟨n,_,rfl,g⟩
  .cases Z;exact wpS_pure ⟨S,_,rfl,g⟩
theorem Vh(K:kindOf st=κ)(H:0 < a.size)(l:0 < b.size)(F:rd r b (b.size - 1)<=rd r a (a.size - 1))(h:∀m C,Sm st C->Gd r a b m->Q m C):wpS (model prog w) A E s (R7 a b) Q st:=by
 rw[TV];have t:a.size - 1 < a.size:=by lia
 refine wpS_bind (wpS_lift (wI ⟨rfl,wpS_bind (QL t ?_)⟩));have k:Sh r a b #[] a.size b.size:=⟨List.Pairwise.nil,by rw[Array.extract_size];exact VZ (R9 T.ua),by rw[Array.extract_size];exact VZ (R9 T.ub),λp P=>(by cases P),by rw[Array.extract_size,Array.extract_size];exact (List.reverse_perm _).append (List.reverse_perm _)⟩
 have B:Sh r a b #[a[a.size - 1]] (a.size - 1) b.size:=k.pa H t λj L=>jV (T.ub j (b.size - 1) (xW _) (by lia) (by lia)) F;by_cases e:(a.size - 1 == 0)=true
 .rw[yM e];exact wpS_pure (h _ _ .refl (B.ed (.inl (by simpa using e))))
 .rw[yO e];have e:¬ a.size - 1=0:=by simpa using e
  by_cases f:(b.size == 1)=true
  .rw[yM f];exact wpS_pure (h _ _ .refl (B.el (by simpa using f) l (by lia) hl))
  .rw[yO f];have f:¬ b.size=1:=by simpa using f
   refine wpS_bind (wpS_get (wpS_bind (wpS_mono (wpS_forRange (I:=λx (c:H0) C=>Sm st C/\c.1=none/\Gh r a b (1+x) c.2.1 c.2.2.1 c.2.2.2.1) (Q:=λ(c:H0) C=>Sm st C/\∃x,c.1=↑x/\Gd r a b x) ?step ?fin ⟨.refl,rfl,B,by dsimp only;lia,by dsimp only;lia,by dsimp only;lia,yN _,by dsimp only;lia⟩) ?post)))
   case fin =>
    intro c C z;let⟨Z,M,G,u,v,y,D,J⟩:=z;lia
   case step =>
    intro i d C _ _ z;refine wpS_mono (aaa T hl (z.1.1.trans K) z.2.2) λx R q=>?_;cases x with
    | done d=>exact⟨z.1.trans q.1,q.2⟩
    | yield d=>exact⟨z.1.trans q.1,q.2⟩
   case post =>
    rintro⟨o,c⟩ n ⟨S,x,z,g⟩;cases z;exact wpS_pure (h _ _ S g)
end
structure Bs(κ:SortKind)(QE:Array Keyed)(pd:Array (Nat×Nat×Nat))(st:SortSt):Prop where
 perm:(arrOf st).Perm QE
 kind:kindOf st=κ
 fail:failedOf st=none
 pend:pendingOf st=pd
def Bs.size(h:Bs κ QE pd U):(arrOf U).size=QE.size:=h.perm.size_eq
def Bs.arr(h:Bs κ QE pd U)(p:xs.Perm (arrOf U)):Bs κ QE pd (setArr U xs):=⟨p.trans h.perm,h.kind,h.fail,h.pend⟩
def Bs.mem(h:Bs κ QE pd U)(hi:i < (arrOf U).size):(arrOf U)[i]∈QE.toList:=(Array.perm_iff_toList_perm.mp h.perm).mem_iff.mp (by simp)
def QO(h:a[i]?=b[j]?):rd r a i=rd r b j:=by unfold rd;rw[h]
def Bs.ne(h:Bs κ QE pd U)(nd:(QE.toList.map r).Nodup)(hi:i < j)(H:j < QE.size):rd r (arrOf U) i≠rd r (arrOf U) j:=by
 have R:j < (arrOf U).size:=by rw[h.size];exact H
 have n:((arrOf U).toList.map r).Nodup:=((Array.perm_iff_toList_perm.mp h.perm).map r).nodup_iff.mpr nd;rw[List.nodup_iff_pairwise_ne,List.pairwise_iff_getElem] at n;have:=n i j (by simp;lia) (by simpa using R) hi;rw[QP (by lia),QP R];simpa using this
def UU{a:Array Keyed}{R:Int->Int->Prop}(F:∀a,R a a)(t:∀ {a b c},R a b->R b c->R a c)(H:1<=x)(d:∀i j,l0<=i->i<=j->j < l0+x->R (rd r a i) (rd r a j))(y:R (rd r a (l0+x - 1)) (rd r a (l0+x)))(i j:Nat)(A:l0<=i)(f:i<=j)(g:j < l0+(x+1)):R (rd r a i) (rd r a j):=by
 by_cases e:j < l0+x
 .exact d i j A f e
 .have e:j=l0+x:=by lia
  subst e;by_cases e:i=l0+x
  .subst e;exact F _
  .exact t (d i (l0+x - 1) A (by lia) (by lia)) y
section
variable {prog:ε}{w:δ}{A:ξ}{E:Θ->Ξ->Prop}{s:Ξ}{st:SortSt}
variable {κ:SortKind}{r:Keyed->Int}{QE:Array Keyed}{pd:Array (Nat×Nat×Nat)}
variable (C:Wh prog w A s κ r (·∈QE.toList)) (nd:(QE.toList.map r).Nodup)
include C
theorem Sa(B:Bs κ QE pd st)(hi:i < QE.size)(H:j < QE.size)(h:Q (↑(decide (rd r (arrOf st) i < rd r (arrOf st) j))) st):wpS (model prog w) A E s (ltAt' i j) Q st:=by
 have R:i < (arrOf st).size:=by rw[B.size];exact hi
 have o:j < (arrOf st).size:=by rw[B.size];exact H
 rw[ltAt'_eq];refine wpS_bind (wpS_get (wpS_bind (QL R (wpS_bind (QL o (w_lt C B.kind (B.mem R) (B.mem o) ?_))))));rw[<- QP (r:=r) R,<- QP (r:=r) o];exact h
theorem Xo{l0 a nrem:Nat}{Q:Δ (Δ Nat)×Nat->SortSt->Prop}(B:Bs κ QE pd st)(j:1<=a)(b:a<=nrem)(Z:l0+nrem<=QE.size)(U:Up r (arrOf st) l0 (l0+a))
  (h:∀n,a<=n->n<=nrem->Up r (arrOf st) l0 (l0+n)->(n < nrem->rd r (arrOf st) (l0+n) < rd r (arrOf st) (l0+n - 1))->Q (none,n) st) :
  wpS (model prog w) A E s (forIn [a:nrem] ((none,a):Δ (Δ Nat)×Nat) λ_ c=>do
   let __x <- ltAt' (l0+c.2) (l0+c.2 - 1)
   match __x with
   | some W=>if W=true then pure (.done (none,c.2)) else pure (.yield (none,c.2+1))
   | _=>pure (.done (↑none,c.2))) Q st:=by
 refine wpS_mono (wpS_forRange (I:=λx (c:Δ (Δ Nat)×Nat) q=>q=st/\c=(none,x)/\Up r (arrOf st) l0 (l0+x)) (Q:=λ(c:Δ (Δ Nat)×Nat) q=>q=st/\∃n,c=(none,n)/\a<=n/\n<=nrem/\Up r (arrOf st) l0 (l0+n)/\(n < nrem->rd r (arrOf st) (l0+n) < rd r (arrOf st) (l0+n - 1))) ?step ?fin ⟨rfl,rfl,U⟩) ?post
 case post =>
  rintro c q ⟨rfl,n,rfl,d,e,f,g⟩;exact h n d e f g
 case fin =>
  rintro c q ⟨rfl,rfl,u⟩;rw[Nat.max_eq_right b] at u ⊢;exact⟨rfl,nrem,rfl,b,yN _,u,λz=>absurd z (qF _)⟩
 case step =>
  rintro x c q H i ⟨rfl,rfl,u⟩;refine wpS_bind (Sa C B (by dsimp only;lia) (by dsimp only;lia) ?_);dsimp only;by_cases y:rd r (arrOf q) (l0+x) < rd r (arrOf q) (l0+x - 1)
  .rw[yM (yA y)];exact wpS_pure ⟨rfl,x,rfl,H,by lia,u,λ_=>y⟩
  .rw[yO (by simpa using y)];exact wpS_pure ⟨rfl,rfl,UU (R:=(·<=·)) qA jV (by lia) u (by lia)⟩
include nd
theorem w_count{l0 nrem:Nat}{Q:Δ Nat->SortSt->Prop}(B:Bs κ QE pd st)(K:1<=nrem)(Z:l0+nrem<=QE.size)
  (h:∀n q,Bs κ QE pd q->1<=n->n<=nrem->Up r (arrOf q) l0 (l0+n)->(∀i,i < l0->(arrOf q)[i]?=(arrOf st)[i]?)->Q (↑n) q):wpS (model prog w) A E s (countRun' l0 nrem) Q st:=by
 rw[countRun'_eq];refine wpS_bind (Xo C B (yN 1) K Z (λi j f l t=>by rw[show i=j by lia];exact qA _) λn o N u H=>?_);dsimp only;by_cases e:(n == nrem)=true
 .rw[yM e];exact wpS_pure (h n st B o N u λ_ _=>rfl)
 .rw[yO e];have e:¬ n=nrem:=by simpa using e
  by_cases z:n > 1
  .rw[yM z];refine wpS_bind (Sa C B (by lia) (by lia) ?_);dsimp only;have y:rd r (arrOf st) l0 < rd r (arrOf st) (l0+n - 1):=by
    have f:=u l0 (l0+n - 1) (yN _) (by lia) (by lia);have l:=B.ne nd (show l0 < l0+n - 1 by lia) (by lia);lia
   rw[yM (yA y)];exact wpS_pure (h n st B o N u λ_ _=>rfl)
  .rw[yO z];have D:n=1:=by lia
   subst D;have H:=H (by lia);refine wpS_bind (wpS_lift (wI ⟨rfl,?_⟩));refine wpS_bind (wpS_mono (wpS_forRange (I:=λx (c:Δ (Δ Nat)×Nat×Nat) q=>q=st/\c=(none,x,0)/\x<=nrem/\∀i j,l0<=i->i<=j->j < l0+x->rd r (arrOf st) j<=rd r (arrOf st) i) (Q:=λ(c:Δ (Δ Nat)×Nat×Nat) q=>q=st/\∃x,c=(none,x,0)/\2<=x/\x<=nrem/\∀i j,l0<=i->i<=j->j < l0+x->rd r (arrOf st) j<=rd r (arrOf st) i) ?step ?fin ⟨rfl,rfl,by lia,?init⟩) ?post)
   case init =>
    intro i j f l t;by_cases e:i=j
    .subst e;exact qA _
    .have F:i=l0:=by lia
     have J:j=l0+1:=by lia
     subst F J;exact Int.le_of_lt H
   case fin =>
    rintro c q ⟨rfl,rfl,b,d⟩;exact⟨rfl,_,rfl,by lia,b,d⟩
   case step =>
    rintro x c q L M ⟨rfl,rfl,b,d⟩;refine wpS_bind (Sa C B (by dsimp only;lia) (by dsimp only;lia) ?_);dsimp only;by_cases y:rd r (arrOf q) (l0+x) < rd r (arrOf q) (l0+x - 1)
    .rw[yM (yA y),yO (by lia)];exact wpS_pure ⟨rfl,rfl,by lia,UU (R:=(· >= ·)) qA (λa b=>jV b a) (by lia) d (Int.le_of_lt y)⟩
    .rw[yO (by simpa using y)];refine wpS_bind (Sa C B (by lia) (by lia) ?_);dsimp only;have Y:rd r (arrOf q) (l0+x - 1) < rd r (arrOf q) (l0+x):=by
      have:=B.ne nd (show l0+x - 1 < l0+x by lia) (by lia);lia
     rw[yM (yA Y)];exact wpS_pure ⟨rfl,x,rfl,by lia,b,d⟩
   case post =>
    rintro c q ⟨rfl,n,rfl,o,N,d⟩;dsimp only;rw[yO (by lia)];have V:=B.size;rw[reverseSlice'_eq];refine wpS_bind (wpS_modify ?_);have p:=B.arr (mirror_perm (arrOf q) l0 (l0+n) ((l0+n - l0) / 2));have G:∀k,(mirror (arrOf q) l0 (l0+n) ((l0+n - l0) / 2))[k]?=if l0<=k/\k < l0+n then (arrOf q)[l0+(l0+n) - 1 - k]? else (arrOf q)[k]?:=getElem?_mirror_all (by lia)
    have U:Up r (mirror (arrOf q) l0 (l0+n) ((l0+n - l0) / 2)) l0 (l0+n):=by
     intro i j f l t;have g:=G i;have v:=G j;rw[yM ⟨by lia,by lia⟩] at g v;rw[QO g,QO v];exact d _ _ (by lia) (by lia) (by lia)
    refine wpS_bind (Xo (l0:=l0) C p (by lia) N Z U λm T O P _=>?_);refine wpS_pure (h m _ p (by lia) O P λi S=>?_);have g:=G i;rw[yO (by lia)] at g;exact g
end
def WN(H:l0<=p)(P:p<=q)(gb:∀i:Nat,b[i]?=if i=p then a[q]? else if p < i/\i<=q then a[i - 1]? else a[i]?)(m:∀x,l0<=x->x < p->rd r a x<=rd r a q)(M:∀x,p<=x->x < q->rd r a q<=rd r a x)(u:Up r a l0 q):Up r b l0 (q+1):=by
 intro i j B k l;have G:=gb i;have g:=gb j;clear gb;by_cases e:i=j
 .subst e;exact qA _
 .have k:i < j:=by lia
  by_cases c:i=p
  .rw[yM c] at G;rw[yO (by lia),yM ⟨by lia,by lia⟩] at g;rw[QO G,QO g];exact M _ (by lia) (by lia)
  .rw[yO c] at G;by_cases C:p < i/\i<=q
   .rw[yM C] at G;rw[yO (by lia),yM ⟨by lia,by lia⟩] at g;rw[QO G,QO g];exact u _ _ (by lia) (by lia) (by lia)
   .rw[yO C] at G;rw[QO G];by_cases d:j=p
    .rw[yM d] at g;rw[QO g];exact m _ B (by lia)
    .rw[yO d] at g;by_cases f:p < j/\j<=q
     .rw[yM f] at g;rw[QO g];exact u _ _ B (by lia) (by lia)
     .rw[yO f] at g;rw[QO g];exact u _ _ B (by lia) (by lia)
section
variable {prog:ε}{w:δ}{A:ξ}{E:Θ->Ξ->Prop}{s:Ξ}{st:SortSt}
variable {κ:SortKind}{r:Keyed->Int}{QE:Array Keyed}{pd:Array (Nat×Nat×Nat)}
variable (C:Wh prog w A s κ r (·∈QE.toList))
include C
theorem Xp(B:Bs κ QE pd st)(L:1<=ok)(N:ok<=n)(V:l0+n<=QE.size)(O:Up r (arrOf st) l0 (l0+ok))
  (h:∀b,Bs κ QE pd b->Up r (arrOf b) l0 (l0+n)->(∀i,i < l0->(arrOf b)[i]?=(arrOf st)[i]?)->Q true b):wpS (model prog w) A E s (binarySort' l0 n ok) Q st:=by
 rw[binarySort'_eq,Nat.max_eq_left L];refine wpS_bind (wpS_mono (wpS_forRange (I:=λk (c:Δ θ×Unit) b=>c=(none,())/\Bs κ QE pd b/\Up r (arrOf b) l0 (l0+k)/\∀i,i < l0->(arrOf b)[i]?=(arrOf st)[i]?)
  (Q:=λ(c:Δ θ×Unit) b=>c=(none,())/\Bs κ QE pd b/\Up r (arrOf b) l0 (l0+n)/\∀i,i < l0->(arrOf b)[i]?=(arrOf st)[i]?) ?step ?fin ⟨rfl,B,O,λ_ _=>rfl⟩) ?post)
 case post =>
  rintro c b ⟨rfl,o,u,k⟩;exact wpS_pure (h b o u k)
 case fin =>
  rintro c b ⟨rfl,o,u,k⟩;rw[Nat.max_eq_right N] at u;exact⟨rfl,o,u,k⟩
 case step =>
  rintro k c R W Y ⟨rfl,t,U,P⟩;dsimp only;refine wpS_bind (wpS_mono (wpS_forRange (I:=λx (c:Δ θ×Nat×Nat) b=>b=R/\c.1=none/\c.2.1<=c.2.2/\c.2.2<=k/\c.2.2 - c.2.1<=k - x/\(∀a,a < c.2.1->rd r (arrOf R) (l0+a)<=rd r (arrOf R) (l0+k))/\∀a,c.2.2<=a->a < k->rd r (arrOf R) (l0+k)<=rd r (arrOf R) (l0+a))
   (Q:=λ(c:Δ θ×Nat×Nat) b=>b=R/\c.1=none/\c.2.1<=k/\(∀a,a < c.2.1->rd r (arrOf R) (l0+a)<=rd r (arrOf R) (l0+k))/\∀a,c.2.1<=a->a < k->rd r (arrOf R) (l0+k)<=rd r (arrOf R) (l0+a)) ?step ?fin ⟨rfl,rfl,xW _,yN _,yN _,λa z=>absurd z (vS _),λa Z z2=>absurd Z (by dsimp only;lia)⟩) ?post)
  case fin =>
   rintro⟨G,l,q⟩ b ⟨rfl,rfl,v,g,D,d,f⟩;dsimp only at v g D d f;have:l=q:=by lia
   subst this;exact⟨rfl,rfl,g,d,f⟩
  case step =>
   rintro x ⟨G,l,q⟩ b _ T ⟨rfl,rfl,v,g,D,d,f⟩;dsimp only at v g D d f ⊢;by_cases e:l >= q
   .rw[yM e];have:l=q:=by lia
    subst this;exact wpS_pure ⟨rfl,rfl,g,d,f⟩
   .rw[yO e];refine wpS_bind (Sa C t (by lia) (by lia) ?_);dsimp only;by_cases y:rd r (arrOf b) (l0+k) < rd r (arrOf b) (l0+(l+q) / 2)
    .rw[yM (yA y)];refine wpS_pure ⟨rfl,rfl,by show l<=(l+q) / 2;lia,by show (l+q) / 2<=k;lia,by show (l+q) / 2 - l<=_;lia,d,λa m F=>?_⟩;have:=U (l0+(l+q) / 2) (l0+a) (by lia) (by dsimp only at m;lia) (by lia);lia
    .rw[yO (by simpa using y)];refine wpS_pure ⟨rfl,rfl,by show (l+q) / 2+1<=q;lia,g,by show q - ((l+q) / 2+1)<=_;lia,λa m=>?_,f⟩;have:=U (l0+a) (l0+(l+q) / 2) (by lia) (by dsimp only at m;lia) (by lia);lia
  case post =>
   rintro⟨G,l,q⟩ b ⟨rfl,rfl,g,d,f⟩;dsimp only at g d f ⊢;rw[moveDown'_eq];have sz:=t.size;have J:=getElem?_bubble (xs:=arrOf b) (src:=l0+k) (by lia) (l0+k - (l0+l)) (by lia);refine wpS_bind (wpS_modify (wpS_pure ⟨rfl,t.arr (bubble_perm ..),λi j m F K=>?_,λi M=>?_⟩))
   .exact WN (p:=l0+k - (l0+k - (l0+l))) (by lia) (by lia) J (λx X S=>by have:=d (x - l0) (by lia);rwa [show l0+(x - l0)=x by lia] at this) (λx X S=>by have:=f (x - l0) (by lia) (by lia);rwa [show l0+(x - l0)=x by lia] at this) U i j m F K
   .have H:=J i;rw[yO (by lia),yO (by lia)] at H;exact H.trans (P i M)
end
def put(a m:Array Keyed)(k:Nat):Array Keyed:=m.toList.zipIdx.foldl (λa (x:Keyed×Nat)=>a.setIfInBounds (k+x.2) x.1) a
def UW(k:Nat):∀ (l:Γ Keyed) (j:Nat) (a:Array Keyed) (i:Nat),k+j+l.length<=a.size->((l.zipIdx j).foldl (λa (x:Keyed×Nat)=>a.setIfInBounds (k+x.2) x.1) a)[i]?=if k+j<=i/\i < k+j+l.length then l[i - (k+j)]? else a[i]?
 | [],j,a,i,_=>by rw[yO (by rw[xM];lia)];rfl
 | p::l,j,a,i,h=>by
  rw[zL] at h ⊢;rw[List.zipIdx_cons,yJ,UW k l (j+1) _ i (by rw[Array.size_setIfInBounds];lia),Array.getElem?_setIfInBounds];by_cases c:k+(j+1)<=i/\i < k+(j+1)+l.length
  .rw[yM c,yM (by lia),show i - (k+j)=i - (k+(j+1))+1 by lia,yZ]
  .rw[yO c];by_cases C:k+j=i
   .subst C;rw[yM rfl,yM (by lia),yM (by lia),Nat.sub_self];rfl
   .rw[yO C,yO (by lia)]
def Yp(h:k+m.size<=a.size):(put a m k).toList=(a.extract 0 k).toList++(m.toList++(a.extract (k+m.size) a.size).toList):=by
 refine List.ext_getElem? λi=>?_;have g:=UW k m.toList 0 a i (by simpa using h);rw[Array.getElem?_toList];unfold put;rw[g];have H:(a.extract 0 k).toList.length=k:=by simp;lia
 have b:m.toList.length=m.size:=by simp
 by_cases c:i < k
 .rw[yO (by lia),yT (by lia),Array.getElem?_toList,Array.getElem?_extract,yM (by lia),jE]
 .rw[yU (by lia),H];by_cases C:i < k+m.size
  .rw[yM (by lia),yT (by lia)];rfl
  .rw[yO (by lia),yU (by lia),b,Array.getElem?_toList,Array.getElem?_extract];by_cases d:i < a.size
   .rw[yM (by lia),show k+m.size+(i - k - m.size)=i by lia]
   .rw[yO (by lia),Array.getElem?_eq_none (by lia)]
def TX(i:Nat):mergeAt' i=(do
 let s <- get
 let (↑(U,na,power),↑(sb,nb,_)):=((pendingOf s)[i]?,(pendingOf s)[i+1]?)|unsupported "internal:list.sort.pending"
 set (setPending s (((pendingOf s).setIfInBounds i (U,na+nb,power)).eraseIdxIfInBounds (i+1)))
 let some k <- QY false (<- elem' (arrOf s) sb) (arrOf s) U na 0|return false
 let (U,na):=(U+k,na - k)
 if na == 0 then return true
 let some nb <- QY true (<- elem' (arrOf s) (U+na - 1)) (arrOf s) sb nb (nb - 1)|return false
 if nb == 0 then return true
 let x:=(arrOf s).extract U sb;let y:=(arrOf s).extract sb (sb+nb);let m <- if na<=nb then R6 x y else R7 x y
 modify λs=>setArr s (put (arrOf s) m U)
 return (failedOf (<- get)).isNone):=by kernel_rfl
section
variable {prog:ε}{w:δ}{A:ξ}{E:Θ->Ξ->Prop}{s:Ξ}{st:SortSt}
variable {κ:SortKind}{r:Keyed->Int}{QE:Array Keyed}{pd:Array (Nat×Nat×Nat)}
variable (C:Wh prog w A s κ r (·∈QE.toList)) (nd:(QE.toList.map r).Nodup)
def aab(h:Q ⟨⟩ U):wpS (model prog w) A E s (set U:StateT SortSt Sem PUnit) Q st:=by
 unfold wpS;rw[StateT.run_set];exact zW ⟨rfl,h⟩
def Rq(h:j<=a.size)(hi:k+i < j):rd r (a.extract k j) i=rd r a (k+i):=by
 refine QO ?_;rw[Array.getElem?_extract,yM (by lia)]
def RT(h:j<=a.size)(u:Up r a k j):Up r (a.extract k j) 0 (a.extract k j).size:=by
 intro i I _ b H;rw[Array.size_extract] at H;rw[Rq h (by lia),Rq h (by lia)];exact u _ _ (by lia) (by lia) (by lia)
def WO(v:0 < n)(K:k<=n)(B:n+m<=a.size)(N:n < a.size)(u:Up r a 0 n)(U:Up r a n a.size)(F:∀i,i < k->rd r a i<=rd r a n)(g2:∀j,n+m<=j->j < a.size->rd r a (n - 1)<=rd r a j)(G:Gd r (a.extract k n) (a.extract n (n+m)) x):(put a x k).Perm a/\Up r (put a x k) 0 (put a x k).size:=by
 let⟨R,g⟩:=G;have s:(a.extract k n).size=n - k:=by rw[Array.size_extract];lia
 have S:(a.extract n (n+m)).size=m:=by rw[Array.size_extract];lia
 have X:x.size=n - k+m:=by
  have:=g.length_eq;rw[zN,wH,wH,wH,s,S] at this;exact this
 have p:=Yp (a:=a) (m:=x) (k:=k) (by lia);rw[X,show k+(n - k+m)=n+m by lia] at p;have w:a.toList=(a.extract 0 k).toList++(((a.extract k n).toList++(a.extract n (n+m)).toList)++(a.extract (n+m) a.size).toList):=by
  have W:a.toList=(a.extract 0 a.size).toList:=by rw[Array.extract_size]
  rw[W,Q7 (xW k) (by lia),Q7 (show k<=n by lia) (by lia),Q7 (show n<=n+m by lia) (by lia),List.append_assoc]
 have P:(put a x k).Perm a:=by
  rw[Array.perm_iff_toList_perm,p];refine List.Perm.trans ?_ (List.Perm.of_eq w.symm);exact (g.append_right _).append_left _
 have t:Up r (put a x k) 0 (put a x k).size:=by
  refine ZW ?_;rw[p];have M:∀y∈x.toList,∃i,k<=i/\i < n+m/\r y=rd r a i:=λy Y=>by
   rcases List.mem_append.mp (g.mem_iff.mp Y) with z|z
   .let⟨i,b,I,_,e⟩:=QI (r:=r) z;exact⟨i,b,by lia,e⟩
   .let⟨i,b,I,_,e⟩:=QI (r:=r) z;exact⟨i,by lia,I,e⟩
  have l:∀i j,i < k->k<=j->j < a.size->rd r a i<=rd r a j:=λi j b J d=>by
   by_cases c:j < n
   .exact u i j (xW _) (by lia) c
   .exact jV (F i (by lia)) (U n j (yN _) (by lia) d)
  have o:∀i j,i < n+m->n+m<=j->j < a.size->rd r a i<=rd r a j:=λi j b J d=>by
   by_cases c:i < n
   .exact jV (u i (n - 1) (xW _) (by lia) (by lia)) (g2 j J (by lia))
   .exact U i j (by lia) (by lia) d
  have A:Ri r (a.extract 0 k).toList:=R9 (RT (by lia) (u.sub (yN _) (by lia)));have Z:Ri r (a.extract (n+m) a.size).toList:=R9 (RT (yN _) (U.sub (by lia) (by lia)));refine List.pairwise_append.mpr ⟨A,List.pairwise_append.mpr ⟨R,Z,λy Y z H=>?_⟩,λy Y z H=>?_⟩
  .let⟨i,b,I,f⟩:=M y Y;let⟨j,J,d,q,E⟩:=QI (r:=r) H;rw[f,E];exact o i j I J (by lia)
  .let⟨i,b,I,C,f⟩:=QI (r:=r) Y;rcases List.mem_append.mp H with H|H
   .let⟨j,J,d,E⟩:=M z H;rw[f,E];exact l i j I J (by lia)
   .let⟨j,J,d,q,E⟩:=QI (r:=r) H;rw[f,E];exact l i j I (by lia) (by lia)
 exact⟨P,t⟩
include C
theorem Vi(B:Bs κ QE #[(0,n,p),(n,QE.size - n,q)] st)(K:0 < n)(hn:n < QE.size)(u:Up r (arrOf st) 0 n)(U:Up r (arrOf st) n QE.size)
  (h:∀b,Bs κ QE #[(0,n+(QE.size - n),p)] b->Up r (arrOf b) 0 QE.size->Q true b):wpS (model prog w) A E s (mergeAt' 0) Q st:=by
 have Z:=B.size;have M:∀i (h:i < (arrOf st).size),(arrOf st)[i]∈QE.toList:=λi h=>B.mem h;rw[TX];refine wpS_bind (wpS_get ?_);rw[B.pend,show (#[(0,n,p),(n,QE.size - n,q)]:Array (Nat×Nat×Nat))[0]?=↑(0,n,p) from rfl,show (#[(0,n,p),(n,QE.size - n,q)]:Array (Nat×Nat×Nat))[0+1]?=↑(n,QE.size - n,q) from rfl];dsimp only;rw[show ((#[(0,n,p),(n,QE.size - n,q)]:Array (Nat×Nat×Nat)).setIfInBounds 0 (0,n+(QE.size - n),p)).eraseIdxIfInBounds (0+1)=#[(0,n+(QE.size - n),p)] from by simp[Array.eraseIdxIfInBounds,Array.eraseIdx,Array.setIfInBounds]];have d:Bs κ QE #[(0,n+(QE.size - n),p)] (setPending st #[(0,n+(QE.size - n),p)]):=⟨B.perm,B.kind,B.fail,rfl⟩
 refine wpS_bind (aab (wpS_bind (QL (by lia) (wpS_bind (Ta (P:=(·∈QE.toList)) C d.kind (M _ (by lia)) (by lia) M (u.sub (xW _) (by lia)) K λk k1 F I=>?_)))));rw[<- QP (r:=r)] at F I;dsimp only;by_cases e:(n - k == 0)=true
 .rw[yM e];have e:n - k=0:=by simpa using e
  refine wpS_pure (h _ d λi j o l v=>?_);show rd r (arrOf st) i<=rd r (arrOf st) j;by_cases y:j < n
  .exact u i j o l y
  .by_cases z:n<=i
   .exact U i j z l v
   .exact jV (F i (xW _) (by lia)) (U n j (yN _) (by lia) v)
 .rw[yO e];have e:¬ n - k=0:=by simpa using e
  have V:0+k+(n - k) - 1=n - 1:=by lia
  rw[V];refine wpS_bind (QL (by lia) (wpS_bind (Uz (P:=(·∈QE.toList)) C d.kind (M _ (by lia)) (by lia) M (U.sub (yN _) (by lia)) (by lia) λm m1 J G=>?_)));rw[<- QP (r:=r)] at J G;dsimp only;rw[jE];by_cases f:(m == 0)=true
  .rw[yM f];have f:m=0:=by simpa using f
   refine wpS_pure (h _ d λi j o l v=>?_);show rd r (arrOf st) i<=rd r (arrOf st) j;by_cases y:j < n
   .exact u i j o l y
   .by_cases z:n<=i
    .exact U i j z l v
    .exact jV (u i (n - 1) o (by lia) (by lia)) (G j (by lia) (by lia))
  .rw[yO f];have f:¬ m=0:=by simpa using f
   have S:((arrOf st).extract k n).size=n - k:=by rw[Array.size_extract];lia
   have sy:((arrOf st).extract n (n+m)).size=m:=by rw[Array.size_extract];lia
   have px:∀i (h:i < ((arrOf st).extract k n).size),((arrOf st).extract k n)[i]∈QE.toList:=λi h=>by rw[Array.getElem_extract];exact M _ _
   have py:∀i (h:i < ((arrOf st).extract n (n+m)).size),((arrOf st).extract n (n+m))[i]∈QE.toList:=λi h=>by rw[Array.getElem_extract];exact M _ _
   have T:Two prog w A s κ r (·∈QE.toList) ((arrOf st).extract k n) ((arrOf st).extract n (n+m)):=⟨C,px,py,RT (by lia) (u.sub (xW _) (yN _)),RT (by lia) (U.sub (yN _) (by lia))⟩
   have fin:∀ (x:Array Keyed) (b:SortSt),Sm (setPending st #[(0,n+(QE.size - n),p)]) b->Gd r ((arrOf st).extract k n) ((arrOf st).extract n (n+m)) x->wpS (model prog w) A E s (do
     modify λs=>setArr s (put (arrOf s) x k)
     let g <- get
     pure (failedOf g).isNone) Q b:=λx b z y=>by
    let⟨q1,q2,q3,q4⟩:=z
    let⟨X,W⟩:=y
    have R:arrOf b=arrOf st:=q2;let⟨N,O⟩:=WO (r:=r) (a:=arrOf st) (x:=x) K (by lia) (by lia) (by lia) u (by rw[Z];exact U) (λi H=>F i (xW _) (by lia)) (λj Y h2=>G j Y (by lia)) ⟨X,W⟩;refine wpS_bind (wpS_modify (wpS_bind (wpS_get (wpS_pure ?_))));show Q (failedOf b).isNone _;have D:failedOf b=none:=q4.trans B.fail;rw[D];rw[R];refine h _ ⟨N.trans B.perm,q1.trans B.kind,D,q3⟩ ?_;show Up r (put (arrOf st) x k) 0 QE.size;rw[N.size_eq,Z] at O;exact O
   have L:∀i,i < ((arrOf st).extract n (n+m)).size->rd r ((arrOf st).extract n (n+m)) i<=rd r ((arrOf st).extract k n) (((arrOf st).extract k n).size - 1):=λi H=>by
    rw[sy] at H;rw[S,Rq (by lia) (by lia),Rq (by lia) (by lia),show k+(n - k - 1)=n - 1 by lia];exact Int.le_of_lt (J _ (by lia) (by lia))
   have t:∀i,i < ((arrOf st).extract k n).size->rd r ((arrOf st).extract n (n+m)) 0<=rd r ((arrOf st).extract k n) i:=λi H=>by
    rw[S] at H;rw[Rq (by lia) (by lia),Rq (by lia) (by lia)];exact Int.le_of_lt (I _ (by lia) (by lia))
   by_cases c:n - k<=m
   .rw[yM c];exact wpS_bind (Vg T L d.kind (by lia) (by lia) (t 0 (by lia)) fin)
   .rw[yO c];exact wpS_bind (Vh T t d.kind (by lia) (by lia) (L _ (by lia)) fin)
end
def tl(size l0 n:Nat):StateT SortSt Sem (ForInStep (Δ Unit×Nat)):=do
 let g <- get
 match (pendingOf g).back? with
 | some (S,N,_)=>do
  let c <- forIn [0:size] ((none,()):Δ Unit×Unit) λ_ _=>do
   let g <- get
   match (if (pendingOf g).size > 1 then (pendingOf g)[(pendingOf g).size - 2]? else none) with
   | some (_,_,a) =>
    if a<=power' size (2 * S+N) (2 * S+N+N+n) size then pure (.done (none,()))
    else do
     let b <- mergeAt' ((pendingOf g).size - 2)
     if (!b)=true then pure (.done (↑(),())) else pure (.yield (none,()))
   | _=>pure (.done (none,()))
  match c.1 with
  | some u=>pure (.done (↑u,l0))
  | none=>do
   modify λs=>setPending s ((pendingOf s).modify ((pendingOf s).size - 1) λx=>(x.1,x.2.1,power' size (2 * S+N) (2 * S+N+N+n) size))
   modify λs=>setPending s ((pendingOf s).push (l0,n,0))
   pure (.yield (none,l0+n))
 | _=>do
  modify λs=>setPending s ((pendingOf s).push (l0,n,0))
  pure (.yield (none,l0+n))
def bd(size:Nat)(c:Δ Unit×Nat):StateT SortSt Sem (ForInStep (Δ Unit×Nat)) :=
 if c.2 >= size then pure (.done (none,c.2))
 else do
  let x <- countRun' c.2 (size - c.2)
  match x with
  | some f =>
   if f < minRun' size size 0 then do
    liftM (rule "list.sort.binary-insertion")
    let b <- binarySort' c.2 (min (size - c.2) (minRun' size size 0)) f
    if (!b)=true then pure (.done (↑(),c.2)) else tl size c.2 (min (size - c.2) (minRun' size size 0))
   else tl size c.2 f
  | _=>pure (.done (↑(),c.2))
def me(_:Nat)(_:Δ Unit×Unit):StateT SortSt Sem (ForInStep (Δ Unit×Unit)):=do
 let g <- get
 if (pendingOf g).size<=1 then pure (.done (none,()))
 else do
  let b <- mergeAt' (if Option.any (λx=>decide (x < (pendingOf g)[(pendingOf g).size - 2+1]?.elim 0 λx=>x.2.1)) (if (pendingOf g).size - 2 > 0 then Option.map (λx=>x.2.1) (pendingOf g)[(pendingOf g).size - 2 - 1]? else none)=true then (pendingOf g).size - 2 - 1 else (pendingOf g).size - 2)
  if (!b)=true then pure (.done (↑(),())) else pure (.yield (none,()))
def WQ:sortRuns'=(do
 let g <- get
 let c <- forIn [0:(arrOf g).size] ((none,0):Δ Unit×Nat) λ_ c=>bd (arrOf g).size c
 match c.1 with
 | some u=>pure u
 | none=>do
  let d <- forIn [0:(arrOf g).size] ((none,()):Δ Unit×Unit) me
  match d.1 with
  | some u=>pure u
  | none=>pure ()):=by kernel_rfl
section
variable {prog:ε}{w:δ}{A:ξ}{E:Θ->Ξ->Prop}{s:Ξ}{st:SortSt}
variable {κ:SortKind}{r:Keyed->Int}{QE:Array Keyed}{pd:Array (Nat×Nat×Nat)}
def Xq(B:Bs κ QE #[] st)(h:∀C,Bs κ QE #[(0,n,0)] C->arrOf C=arrOf st->Q (.yield (none,n)) C):wpS (model prog w) A E s (tl size 0 n) Q st:=by
 unfold tl;refine wpS_bind (wpS_get ?_);rw[B.pend];refine wpS_bind (wpS_modify (wpS_pure ?_));rw[jE];exact h _ ⟨B.perm,B.kind,B.fail,by show (pendingOf st).push _=_;rw[B.pend];rfl⟩ rfl
def Xr(hs:0 < size)(B:Bs κ QE #[(0,n,0)] st)(h:∀C p,Bs κ QE #[(0,n,p),(n,m,0)] C->arrOf C=arrOf st->Q (.yield (none,n+m)) C):wpS (model prog w) A E s (tl size n m) Q st:=by
 unfold tl;refine wpS_bind (wpS_get ?_);rw[B.pend];refine wpS_bind (wpS_mono (wpS_forRange (I:=λx c C=>x=0/\c=(none,())/\C=st) (Q:=λc C=>c=(none,())/\C=st) ?step ?fin ⟨rfl,rfl,rfl⟩) ?post)
 case fin =>
  rintro c C ⟨z,_⟩;lia
 case step =>
  rintro x c C _ _ ⟨_,rfl,rfl⟩;refine wpS_bind (wpS_get ?_);rw[B.pend];exact wpS_pure ⟨rfl,rfl⟩
 case post =>
  rintro c C ⟨rfl,rfl⟩;refine wpS_bind (wpS_modify (wpS_bind (wpS_modify (wpS_pure (h _ (power' size (2 * 0+n) (2 * 0+n+n+m) size) ⟨B.perm,B.kind,B.fail,?_⟩ rfl)))));show ((pendingOf C).modify ((pendingOf C).size - 1) _).push _=_;rw[B.pend];rfl
variable (C:Wh prog w A s κ r (·∈QE.toList)) (nd:(QE.toList.map r).Nodup)
include C nd
theorem Yq(B:Bs κ QE #[] st)(h2:2<=QE.size)(TY:QE.size < 128)(h:∀QC,(arrOf QC).Perm QE->failedOf QC=none->Up r (arrOf QC) 0 QE.size->Q () QC):wpS (model prog w) A E s sortRuns' Q st:=by
 rw[WQ];refine wpS_bind (wpS_get ?_);have hmr:QE.size<=2 * minRun' QE.size QE.size 0/\minRun' QE.size QE.size 0<=QE.size/\1<=minRun' QE.size QE.size 0:=by
  obtain⟨f,hf⟩:∃f,QE.size=f+1+1:=⟨QE.size - 2,by lia⟩
  have:minRun' (f+1+1) QE.size 0=if QE.size < 64 then QE.size else QE.size / 2+QE.size % 2:=by
   rw[minRun'_succ];by_cases c:QE.size < 64
   .rw[yM c,yM c];rfl
   .rw[yO c,yO c,minRun'_succ,yM (by lia),Nat.max_eq_right (xW _)]
  rw[<- hf] at this;rw[this];split<;>lia
 rw[B.size];let T2:SortSt->Prop:=λQC=>(Bs κ QE #[(0,QE.size,0)] QC/\Up r (arrOf QC) 0 QE.size)\/∃n p,0 < n/\n < QE.size/\Bs κ QE #[(0,n,p),(n,QE.size - n,0)] QC/\Up r (arrOf QC) 0 n/\Up r (arrOf QC) n QE.size;let T1:Nat->SortSt->Prop:=λn QC=>0 < n/\n < QE.size/\minRun' QE.size QE.size 0<=n/\Bs κ QE #[(0,n,0)] QC/\Up r (arrOf QC) 0 n;refine wpS_bind (wpS_mono (wpS_forRange (I:=λx (c:Δ Unit×Nat) QC=>(x=0/\c=(none,0)/\Bs κ QE #[] QC)\/(∃n,x=1/\c=(none,n)/\T1 n QC)\/(1<=x/\c=(none,QE.size)/\T2 QC)) (Q:=λ(c:Δ Unit×Nat) QC=>c=(none,QE.size)/\T2 QC) ?step ?fin (.inl ⟨rfl,rfl,B⟩)) ?post)
 case fin =>
  rintro c QC (⟨z,_⟩|⟨n,z,_⟩|⟨_,z⟩)
  .lia
  .lia
  .exact z
 case step =>
  rintro x c Rp _ hx (⟨rfl,rfl,B1⟩|⟨n,rfl,rfl,n0,n1,n2,B1,u1⟩|⟨x1,rfl,T⟩)
  .unfold bd;dsimp only;rw[yO (by lia),Nat.sub_zero];have last:∀ (m:Nat) (Sk:SortSt),0 < m->m<=QE.size->minRun' QE.size QE.size 0<=m->Up r (arrOf Sk) 0 m->∀QC,Bs κ QE #[(0,m,0)] QC->arrOf QC=arrOf Sk->(0+1=0/\((none,m):Δ Unit×Nat)=(none,0)/\Bs κ QE #[] QC)\/(∃n,0+1=1/\((none,m):Δ Unit×Nat)=(none,n)/\T1 n QC)\/(1<=0+1/\((none,m):Δ Unit×Nat)=(none,QE.size)/\T2 QC):=λm Sk a1 a2 a3 u QC B' e=>by
    rw[<- e] at u;by_cases c:m=QE.size
    .subst c;exact .inr (.inr ⟨yN _,rfl,.inl ⟨B',u⟩⟩)
    .exact .inr (.inl ⟨m,rfl,rfl,a1,by lia,a3,B',u⟩)
   refine wpS_bind (w_count C nd B1 (by lia) (by lia) λm RE B2 m1 m2 u2 _=>?_);rw[jE] at u2;dsimp only;by_cases c:m < minRun' QE.size QE.size 0
   .rw[yM c];refine wpS_bind (wpS_lift (wI ⟨rfl,?_⟩));rw[Nat.min_eq_right hmr.2.1];refine wpS_bind (Xp C B2 m1 (by lia) (by lia) (by rw[jE];exact u2) λSk B3 u3 _=>?_);rw[jE] at u3;exact Xq B3 (last _ Sk (by lia) hmr.2.1 (yN _) u3)
   .rw[yO c];exact Xq B2 (last _ RE (by lia) m2 (by lia) u2)
  .unfold bd;dsimp only;rw[yO (by lia)];have last:∀ (Sk:SortSt),(∀i,i < n->(arrOf Sk)[i]?=(arrOf Rp)[i]?)->Up r (arrOf Sk) n QE.size->∀QC p,Bs κ QE #[(0,n,p),(n,QE.size - n,0)] QC->arrOf QC=arrOf Sk->(1+1=0/\((none,n+(QE.size - n)):Δ Unit×Nat)=(none,0)/\Bs κ QE #[] QC)\/(∃m,1+1=1/\((none,n+(QE.size - n)):Δ Unit×Nat)=(none,m)/\T1 m QC)\/(1<=1+1/\((none,n+(QE.size - n)):Δ Unit×Nat)=(none,QE.size)/\T2 QC):=λSk kp u QC p B' e=>by
    refine .inr (.inr ⟨by lia,by rw[show n+(QE.size - n)=QE.size by lia],.inr ⟨n,p,n0,n1,B',?_,by rw[e];exact u⟩⟩);intro i j a1 a2 a3;rw[e,QO (kp i (by lia)),QO (kp j (by lia))];exact u1 i j a1 a2 a3
   refine wpS_bind (w_count C nd B1 (by lia) (by lia) λm RE B2 m1 m2 u2 k2=>?_);dsimp only;by_cases c:m < minRun' QE.size QE.size 0
   .rw[yM c];refine wpS_bind (wpS_lift (wI ⟨rfl,?_⟩));rw[Nat.min_eq_left (show QE.size - n<=minRun' QE.size QE.size 0 by lia)];refine wpS_bind (Xp C B2 m1 m2 (by lia) u2 λSk B3 u3 k3=>?_);rw[show n+(QE.size - n)=QE.size by lia] at u3;exact Xr (by lia) B3 (last Sk (λi hi=>(k3 i hi).trans (k2 i hi)) u3)
   .rw[yO c];have e:m=QE.size - n:=by lia
    subst e;rw[show n+(QE.size - n)=QE.size by lia] at u2;exact Xr (by lia) B2 (last RE k2 u2)
  .unfold bd;dsimp only;rw[yM (yN _)];exact wpS_pure ⟨rfl,T⟩
 case post =>
  rintro c Rp ⟨rfl,T⟩;dsimp only;let Fi:SortSt->Prop:=λQC=>(arrOf QC).Perm QE/\failedOf QC=none/\(pendingOf QC).size<=1/\Up r (arrOf QC) 0 QE.size;refine wpS_bind (wpS_mono (wpS_forRange (I:=λx (c:Δ Unit×Unit) QC=>c=(none,())/\((x=0/\QC=Rp)\/Fi QC)) (Q:=λ(c:Δ Unit×Unit) QC=>c=(none,())/\Fi QC) ?step ?fin ⟨rfl,.inl ⟨rfl,rfl⟩⟩) ?post)
  case fin =>
   rintro c QC ⟨e,⟨z,_⟩|z⟩
   .lia
   .exact⟨e,z⟩
  case post =>
   rintro c QC ⟨rfl,f1,f2,f3,f4⟩;exact wpS_pure (h QC f1 f2 f4)
  case step =>
   have one:∀ (x:Nat) (QC:SortSt),Fi QC->wpS (model prog w) A E s (me x (none,())) (λz QC=>z=.done (none,())/\Fi QC) QC:=λx QC f=>by
    unfold me;refine wpS_bind (wpS_get ?_);rw[yM f.2.2.1];exact wpS_pure ⟨rfl,f⟩
   rintro x c QC _ _ ⟨rfl,⟨rfl,rfl⟩|f⟩
   .rcases T with ⟨B1,u⟩|⟨n,p,n0,n1,B1,u1,u2⟩
    .exact wpS_mono (one 0 QC ⟨B1.perm,B1.fail,by rw[B1.pend];exact yN 1,u⟩) λz RE q=>by rw[q.1];exact⟨rfl,q.2⟩
    .unfold me;refine wpS_bind (wpS_get ?_);rw[B1.pend];refine wpS_bind (Vi C B1 n0 n1 u1 u2 λRE B2 u=>?_);exact wpS_pure ⟨rfl,.inr ⟨B2.perm,B2.fail,by rw[B2.pend];exact yN 1,u⟩⟩
   .exact wpS_mono (one x QC f) λz RE q=>by rw[q.1];exact⟨rfl,q.2⟩
end
open PySem PySem.W PySem.Calls PyProof.Rows
section
variable {prog:ε}{w:δ}{A:ξ}{E:Θ->Ξ->Prop}{s:Ξ}
def UA{P:PySem.Fin->Ξ->Prop}(O:s.heap.get? a=↑(seqObj "list" vs.toArray n))(V:vs.length < 128)(z:Θ->Int)(κ:SortKind)(Tt:(vs.map z).Nodup)
  (hk:2<=vs.length->∀h':ι,(∀b o,b≠a->s.heap.get? b=↑o->h'.get? b=↑o)->∀F:SortKind->Ξ->Prop,F κ { s with heap:=h' }->wpAny (model prog w) A (keyKind' vs.toArray) F (λ_ _=>False) { s with heap:=h' })
  (K:2<=vs.length->∀h':ι,(∀b o,b≠a->s.heap.get? b=↑o->h'.get? b=↑o)->∀x∈vs,∀y∈vs,∀ (E:Θ->Ξ->Prop) (C:θ->Ξ->Prop),C (decide (z x < z y)) { s with heap:=h' }->wpAny (model prog w) A (keyLt' κ x y) C E { s with heap:=h' })
  (h:∀ (h':ι) (c:Nat) (t:Γ Θ),(∀b o,b≠a->s.heap.get? b=↑o->h'.get? b=↑o)->t.Perm vs->t.Pairwise (λx y=>z x<=z y)->h'.get? a=↑(seqObj "list" t.toArray c)->P (.done (.ret .none)) { s with heap:=h' }) :
  wpAny (model prog w) A (Builtin.«list.sort» ⟨[.ref a],[]⟩) P E s:=by
 rw[list_sort_plain];have ha:a < s.heap.objs.size:=zY O;have N:vs.length<=sizeLine:=by rw[qV];lia
 refine zV (vN O rfl (zV (kE O rfl ?_ (by simpa using N) (xW _))));obtain⟨e1,D⟩:∃e,(s.heap.update a (Obj.mapSeq λ_=>(#[]:Array Θ))).get? a=↑(seqObj "list" #[] e):=⟨_,kG O λ_=>#[]⟩
 have R:∀b o,b≠a->s.heap.get? b=↑o->(s.heap.update a (Obj.mapSeq λ_=>(#[]:Array Θ))).get? b=↑o:=λb o B e=>(xO _ _ (jO B)).trans e;refine zV (seqEpoch_at D rfl (zV (wpAny_newTuple ?_ (by simpa using N))));refine zV (kR (xY ?_) (xW _));have U:=zU (seqObj "list" #[] 0) (zU (seqObj "tuple" vs.toArray 0) D);have v:=λb o B e=>zU (seqObj "list" #[] 0) (zU (seqObj "tuple" vs.toArray 0) (R b o B e));show wpAny _ A _ P E { s with heap:=((s.heap.update a (Obj.mapSeq λ_=>(#[]:Array Θ))).push (seqObj "tuple" vs.toArray 0)).push (seqObj "list" #[] 0) };generalize ((s.heap.update a (Obj.mapSeq λ_=>(#[]:Array Θ))).push (seqObj "tuple" vs.toArray 0)).push (seqObj "list" #[] 0)=f at U v;clear D R;dsimp only;have fin:∀ (d:SortSt) (t:Γ Θ),(arrOf d).map (·.2)=t.toArray->failedOf d=none->t.Perm vs->t.Pairwise (λx y=>z x<=z y) ->
   wpAny (model prog w) A (do
    let S:=(arrOf d).map (·.2);let T:=(<- seqEpoch a) != e1
    Builtin.List.listUpdate (.ref a) λ_=>S
    if let some e:=failedOf d then rule "list.sort.comparison-raised";throw e
    if T then rule "list.sort.modified";raiseError "ValueError" "list modified during sort"
    ret .none) P E { s with heap:=f }:=λd t h1 H G h5=>by
  dsimp only;rw[h1,H];refine zV (seqEpoch_at U rfl ?_);refine zV (kE U rfl ?_ (xW _) (by show t.toArray.size<=_;rw[zH,G.length_eq];lia));obtain⟨c,hc⟩:∃c,(f.update a (Obj.mapSeq λ_=>t.toArray)).get? a=↑(seqObj "list" t.toArray c):=⟨_,kG U λ_=>t.toArray⟩
  have q:=h _ c t (λb o B e=>(xO _ _ (jO B)).trans (v b o B e)) G h5 hc;simp?[bne_self_eq_false,yP,qQ];exact zW q
 have Z:∀p∈(pairsOf vs).toList,p.1=p.2/\p.1∈vs:=λp g=>by rw[pairsOf_toList] at g;exact mem_zip_self g
 have Y:(pairsOf vs).toList.map (·.2)=vs:=by rw[pairsOf_toList];exact List.map_snd_zip (yN _)
 by_cases H:vs.toArray.size < 2
 .rw[yM H,yM H];refine zV (zW ?_);rw[StateT.run_pure];refine zV (zW (fin _ vs ?_ rfl (.refl _) ?_))
  .apply Array.toList_inj.mp;show ((pairsOf vs).map (·.2)).toList=_;rw[Array.toList_map,Y]
  .have u:vs.length < 2:=by simpa using H
   rw[List.pairwise_iff_getElem];intro i j hi hj Q0;lia
 .rw[yO H,yO H];have u:2<=vs.length:=by
   have:¬ vs.length < 2:=by simpa using H
   lia
  refine zV (xB (hk u f v (λW m=>W=κ/\m={ s with heap:=f }) ⟨rfl,rfl⟩) (λW m hs=>?_) λ_ _ x=>x.elim);let⟨rfl,rfl⟩:=hs;have I:=pairsOf_size vs;have C:Wh prog w A { s with heap:=f } W (λp=>z p.1) (·∈(pairsOf vs).toList):=λx y X l E Q q=>K u f v _ (Z x X).2 _ (Z y l).2 E Q q;have k:(pairsOf vs).toList.map (λp=>z p.1)=vs.map z:=by
   have e:(pairsOf vs).toList.map (λp=>z p.1)=((pairsOf vs).toList.map (·.2)).map z:=by
    rw[zM];exact yI λp g=>jD z (Z p g).1
   rw[e,Y]
  have r:=Yq (E:=E) (st:=SortSt.mk' W (pairsOf vs) #[] 7 none) (Q:=λ_ d=>(arrOf d).Perm (pairsOf vs)/\failedOf d=none/\Up (λp=>z p.1) (arrOf d) 0 (pairsOf vs).size) C (by rw[k];exact Tt) ⟨.refl _,rfl,rfl,rfl⟩ (by rw[I];exact u) (by rw[I];exact V) λd a1 a2 a3=>⟨a1,a2,a3⟩
  refine zV (xB r ?_ λ_ _ e=>e);rintro⟨⟨⟩,d⟩ m ⟨rfl,M,hf,J⟩;have L:=Array.perm_iff_toList_perm.mp M;refine fin d ((arrOf d).toList.map (·.2)) ?_ hf ?_ ?_
  .apply Array.toList_inj.mp;rw[Array.toList_map]
  .have:=L.map (λp:Keyed=>p.2)
   rwa [Y] at this
  .rw[<- M.size_eq] at J;have:=R9 J;rw[jF];exact List.Pairwise.imp_of_mem (λ{x y} X l q=>by rw[<- (Z x (L.mem_iff.mp X)).1,<- (Z y (L.mem_iff.mp l)).1];exact q) this
def WR{Q:Θ->Ξ->Prop}{l:Ψ}(vs:Γ Θ)(T:vs.length < 128)(z:Θ->Int)(κ:SortKind)(g:(vs.map z).Nodup)
  (hc:∀ (d:Γ Θ->Ξ->Prop) (f:Θ->Ξ->Prop),(∀ (h':ι) (t:Nat),(∀b o,s.heap.get? b=↑o->h'.get? b=↑o)->s.heap.objs.size<=h'.objs.size->d vs { s with heap:=h',toks:=t })->wpAny (model prog w) A.in1 (collect (.ref l)) d f s)
  (i:2<=vs.length->∀ (h':ι) (t:Nat),(∀b o,s.heap.get? b=↑o->h'.get? b=↑o)->∀d:SortKind->Ξ->Prop,d κ { s with heap:=h',toks:=t }->wpAny (model prog w) A.in1.in1 (keyKind' vs.toArray) d (λ_ _=>False) { s with heap:=h',toks:=t })
  (R:2<=vs.length->∀ (h':ι) (t:Nat),(∀b o,s.heap.get? b=↑o->h'.get? b=↑o)->∀x∈vs,∀y∈vs,∀ (E:Θ->Ξ->Prop) (C:θ->Ξ->Prop),C (decide (z x < z y)) { s with heap:=h',toks:=t }->wpAny (model prog w) A.in1.in1 (keyLt' κ x y) C E { s with heap:=h',toks:=t })
  (h:∀ (h':ι) (t:Nat) (D:Ψ) (c:Nat) (O:Γ Θ),(∀b o,s.heap.get? b=↑o->h'.get? b=↑o)->s.heap.objs.size<=D->O.Perm vs->O.Pairwise (λx y=>z x<=z y)->h'.get? D=↑(seqObj "list" O.toArray c)->Q (.ref D) { s with heap:=h',toks:=t }) :
  wpAny (model prog w) A (call (.builtin "sorted") [.ref l]) Q E s:=by
 have n:vs.length<=sizeLine:=by rw[qV];lia
 refine Calls.call_function_entry kind_sorted plain_sorted entry_sorted (args_sorted1 _) ?_;unfold Builtin.«sorted»;refine zV (m:=checkCount "sorted" 1 1 _) (zW (zV (hc _ _ λH t k W=>?_)));refine zV (kR ?_ (by simpa using n));have V:(H.push (seqObj "list" vs.toArray 0)).get? H.objs.size=↑(seqObj "list" vs.toArray 0):=zX _ rfl;have K:∀h':ι,(∀b o,b≠H.objs.size->(H.push (seqObj "list" vs.toArray 0)).get? b=↑o->h'.get? b=↑o)->∀b o,s.heap.get? b=↑o->h'.get? b=↑o:=λh' q b o e=>q b o (yS (zY (k b o e))) (zU _ (k b o e));show wpAny _ _ _ _ _ ({ s with heap:=H.push (seqObj "list" vs.toArray 0),toks:=t }:Ξ);refine zV (xY (qX slot_list_sort ⟨_,V,rfl⟩ entry_list_sort (UA (s:=({ s with heap:=H.push (seqObj "list" vs.toArray 0),toks:=t }:Ξ)) V T z κ g (λa h' q=>i a h' t (K h' q)) (λa h' q=>R a h' t (K h' q)) λh' c O q p P e=>⟨_,rfl,?_⟩) (args_list_sort _)));exact zW ⟨_,rfl,h h' t _ c O (K h' q) W p P e⟩
end
end Ti
namespace Dl
open PySem L2 PySem.Spec PyProof.Rows
def qo(ns:Γ Int):Int:=reduceHash (Builtin.Tuple.tupleHashOf (ns.map hashInt))
def xp:Γ D->Δ (Γ (Γ Int))
 | []=>↑[]
 | d::s=>(bQ d).bind λn=>(xp s).map λr=>n::r
def l5:∀ {ds:Γ D}{r:Γ (Γ Int)},xp ds=↑r->ds=r.map λn=>.tuple (n.map PyData.int)
 | [],r,h=>by cases h;rfl
 | d::ds,r,h=>by
  let⟨n,H,h⟩:=bs h;let⟨R,a,rfl⟩:=ag h;rw[eT H,l5 a];rfl
def cT:D->Δ (Γ D)
 | .list d=>(xp d).bind λr=>if (r.map qo).Nodup/\r.length < 128/\((∀n∈r,n≠[])\/r.length < 2) then ↑((Ra r).map ae) else none
 | _=>none
section
variable {X:Cx}
def HX(k:Int)(v:Θ)(h:(intKind P w).is k v=true)(n:Nat):hashByValue n v=pure true:=by
 let⟨t,rfl⟩:=Value.isInt_shape h;cases n<;>rfl
def items_int:∀ {ns:Γ Int}{us:Γ Θ},az (ns.map V.int) us->ItemsAre (intKind P w) ns us
 | [],_,r=>by cases r;exact .nil
 | n::ns,_,r=>by
  rw[zI] at r;cases r with
  | cons h t=>let⟨T,rfl⟩:=h;exact .cons (intKind_is ..) (items_int t)
def sX{K:Φ}(p:us.Perm vs):∀ {l:Γ (Γ Int)},ak K HF (l.map ae) vs->∃m:Γ (Γ Int),m.Perm l/\ak K HF (m.map ae) us:=by
 induction p with
 | nil=>intro l h;exact⟨l,.refl _,h⟩
 | cons x _ H =>
  intro l h;cases l with
  | nil=>have:=h.nil_inv;cases this
  | cons k l =>
   let⟨v,r,e,a,b⟩:=h.cons_inv;cases e;let⟨m,P,R⟩:=H b;exact⟨k::m,P.cons k,ak.cons a R⟩
 | swap x y r =>
  intro l h
  match l,h with
  | [],h=>have:=h.nil_inv;cases this
  | [k],h =>
   let⟨v,r,e,a,b⟩:=h.cons_inv;cases e;have:=b.nil_inv;cases this
  | k::d::l,h =>
   let⟨v,r,e,a,b⟩:=h.cons_inv;cases e;let⟨V,c,E,A,B⟩:=b.cons_inv;cases E;exact⟨d::k::l,List.Perm.swap ..,ak.cons A (ak.cons a B)⟩
 | trans _ _ i I =>
  intro l h;let⟨m,P,R⟩:=I h;let⟨M,f,c⟩:=i R;exact⟨M,f.trans P,c⟩
def lb:∀s:Γ Ψ,az (s.map V.ref) (s.map Value.ref)
 | []=>.nil
 | b::s=>.cons rfl (lb s)
def si{s:Γ Ψ}(p:us.Perm (s.map Value.ref)):∃cs:Γ Ψ,cs.Perm s/\us=cs.map Value.ref:=by
 have S:∀u∈us,∃b,u=Value.ref b:=λu H=>by
  let⟨b,_,rfl⟩:=List.mem_map.mp (p.mem_iff.mp H);exact⟨b,rfl⟩
 have e:us=(us.map λu=>match u with|.ref b=>b|_=>0).map Value.ref:=by
  rw[zM];refine (List.map_id us).symm.trans (yI λu H=>?_);let⟨b,rfl⟩:=S u H;rfl
 refine⟨_,?_,e⟩;have:=p.map λu:Θ=>match u with|.ref b=>b|_=>0
 rw[zM] at this;refine this.trans (List.Perm.of_eq ?_);exact (yI λb _=>rfl).trans (List.map_id s)
def um{K:Φ}:∀ {r:Γ (Γ Int)}{w:Γ V}{d:Γ Ψ},ak K HF (r.map ae) w->az w (d.map Value.ref)->w=d.map V.ref
 | [],_,d,h,v=>by
  rw[h.nil_inv] at v ⊢;cases d with
  | nil=>rfl
  | cons a d=>cases v
 | ns::r,_,d,h,v=>by
  rw[zI] at h;let⟨x,s,rfl,a,b⟩:=h.cons_inv;unfold ae at a;simp?[Rep] at a;let⟨p,u,rfl,_,_⟩:=a;cases d with
  | nil=>cases v
  | cons a d =>
   rw[zI] at v;cases v with
   | cons H c =>
    cases H;rw[zI,um b c]
def FY(h:iI U v a)(h':iI U v b):a=b:=by
 let⟨x,o,s,n,e,E,k,c,d⟩:=h.ex;let⟨X,O,i,N,f,F,l,g,j⟩:=h'.ex;cases e.symm.trans f;cases E.symm.trans F;cases c.symm.trans g;rw[<- IntsAre.nums d,<- IntsAre.nums j]
def zr(p:ι)(m:Γ (Γ Int))(v:Θ):Int:=rk m (Classical.epsilon λn=>iI p v n)
def DN(h:iI U v a):zr U m v=rk m a:=by
 unfold zr;rw[FY (Classical.epsilon_spec ⟨a,h⟩) h]
def iG:∀ {l:Γ α}{m:Γ β},Paired R l m->∀x∈l,∃y∈m,R x y
 | _,_,.nil,x,h=>by cases h
 | _,_,.cons r p,x,h=>by
  rcases List.mem_cons.mp h with rfl|h
  .exact⟨_,zE,r⟩
  .let⟨y,H,a⟩:=iG p x h;exact⟨y,zC _ H,a⟩
def nV(m:Γ (Γ Int)):∀ {vs:Γ Θ}{l:Γ (Γ Int)},Paired (iI U) vs l->vs.map (zr U m)=l.map (rk m)
 | _,_,.nil=>rfl
 | _,_,.cons r p=>by rw[zI,zI,DN r,nV m p]
def LX(h:a∈m)(h':b∈m)(e:rk m a=rk m b):a=b:=g9 (by rw[oN h,e];simp) (by rw[oN h',e];simp)
def CW(h:Sx.R5 w U a l)(p:l.Perm m):Sx.R5 w U a m:=by
 let⟨o,s,e,t,H,b,c,d,T⟩:=h;exact⟨o,s,e,t,H,b,c,d.trans p,T⟩
def zx(x:IsTupleKey (intKind P w) h U b)(e:∀o,h.get? b=↑o->h'.get? b=↑o):IsTupleKey (intKind P w) h' U b:=by
 let⟨o,i,n,H,a⟩:=x;exact⟨o,i,n,e o H,a⟩
def Ck(h:Paired (iI U) its r):∃a:Γ Ψ,its=a.map Value.ref:=by
 refine⟨its.map λv=>match v with|.ref b=>b|_=>0,?_⟩;rw[zM];refine (List.map_id its).symm.trans (yI λv H=>?_);let⟨n,_,R⟩:=iG h v H;let⟨b,_,_,_,rfl,_⟩:=R.ex;rfl
def UM{l:Ψ}{cs:Γ Ψ}{Q:VK}(I:Inv X pins σ H1 s2)(sm:aO U H1)(F:ak X.K U (m.map ae) (cs.map V.ref))(M:m.Nodup)(TY:m.length < 128)(QS:(∀ns∈m,ns≠[])\/m.length < 2)
  (So:∀ (j:Γ Θ->Ξ->Prop) (J:Θ->Ξ->Prop),(∀ (h':ι) (tk:Nat),(∀b o,s2.heap.get? b=↑o->h'.get? b=↑o)->s2.heap.objs.size<=h'.objs.size->j (cs.map Value.ref) { s2 with heap:=h',toks:=tk })->wpAny (model X.prog X.w) X.A.in1 (collect (.ref l)) j J s2)
  (q:∀ (D:Ψ) (us:Γ V),H1 D=none->ak X.K U ((Ra m).map ae) us->Q (.ref D) (upd H1 D (.lst us))):wpAny (model X.prog X.w) X.A (call (.builtin "sorted") [.ref l]) (EP X pins σ Q) X.xe s2:=by
 have Xb:=F.length;rw[zD,zD] at Xb;have Y:Paired (iI s2.heap) (cs.map Value.ref) m:=gE I sm F (lb cs);have RI:∀H:ι,(∀b o,s2.heap.get? b=↑o->H.get? b=↑o)->Paired (iI H) (cs.map Value.ref) m:=λH k=>Paired.XI Y λ_ _ r=>r.keep k;refine Ti.WR (cs.map Value.ref) (by rw[zD];lia) (zr s2.heap m) (tuples' true) ?_ So (λH d S k j i=>?_) (λH d S k x hx y hy J C' i=>?_) λd S D c ot k P po so e=>?_
 .rw[nV m Y,List.nodup_iff_pairwise_ne,jF];rw[List.nodup_iff_pairwise_ne] at M;exact M.imp_of_mem λ{a b} g B z e=>z (LX g B e)
 .rw[zD] at H;let⟨fs,t,Z,hf⟩:=nz (RI d k) λns Sn=>by
   rcases QS with z|z
   .exact z ns Sn
   .lia
  rw[zD] at Z;refine W.kat_kind (s:={ s2 with heap:=d,toks:=S }) (T:=.type "int") t (by rw[Z];lia) (λv hv=>?_) (by decide) i;let⟨n,t,rfl⟩:=hf v hv;exact W.Looks.of_pure rfl
 .let⟨a,g,ra⟩:=iG Y x hx;let⟨b,B,rb⟩:=iG Y y hy;rw[DN ra,DN rb,<- oN g] at i;let⟨xa,o,it,n,rfl,e1,e2,e3,L⟩:=(ra.keep k).ex;let⟨xb,o',u,n',rfl,f1,f2,f3,N⟩:=(rb.keep k).ex;refine W.kat_lt (s:={ s2 with heap:=d,toks:=S }) e1 e3 f1 f3 ?_;have:=mZ (prog:=X.prog) (w:=X.w) (A:=X.A.in1.in1) (s:={ s2 with heap:=d,toks:=S }) 0 L N i;have l1:it.size=a.length:=by have:=wA L;simpa using this
  have l2:u.size=b.length:=by have:=wA N;simpa using this
  rw[l1,l2];exact this
 .let⟨f,pd,rfl⟩:=si po;let⟨C,p,R⟩:=sX (pd.map V.ref) F;have G:Paired (iI s2.heap) (f.map Value.ref) C:=gE I sm R (lb f);have E:C=Ra m:=by
   refine nZ p ?_;have O:(C.map (rk m)).Pairwise (·<=·):=by
    rw[<- nV m G,jF];exact so
   rw[jF] at O;refine O.imp_of_mem λ{a b} g B z=>?_;unfold lexLe;rw[oN (p.mem_iff.mp B)];simpa using z
  rw[E] at R;have I3:=I.laid (t':=S) (o:=.lst (f.map V.ref)) k P ⟨by rw[zD,PySem.sizeLine_eq];have:=pd.length_eq;lia,_,c,lb f,e⟩;exact⟨.ref D,_,I3,rfl,q D _ (I.QK.fresh P) R⟩
def w4(hc:X.calm=true)(hu:X.A.in1.in1.in1.units < cLine)(B:ou X "sorted" (.builtin "sorted"))(C:ou X "set" (.type "set"))(h:DE X e f)(T:starEach [e] X.env=(false,eval e X.env)::starEach [] X.env:=by rfl) :
  DF X (.Call (.Name "sorted" p) [.Call (.Name "set" p') [e] [] pos'] [] pos) (λρ=>(f ρ).bind cT):=by
 intro R s σ H Q I z;let⟨HF,ρ,out,sm,eo,F,q⟩:=z;let⟨x,hx,F⟩:=bs F;cases x<;>try cases F
 rename_i ds;let⟨r,Y,F⟩:=bs F;by_cases hn:(r.map qo).Nodup/\r.length < 128/\((∀N∈r,N≠[])\/r.length < 2)
 rotate_left
 .rw[yO hn] at F;cases F
 rw[yM hn] at F;cases F;let⟨nd,TY,QS⟩:=hn;have RP:=l5 Y;have rnd:r.Nodup:=by
  have:=nd;rw[List.nodup_iff_pairwise_ne,jF] at this;rw[List.nodup_iff_pairwise_ne];exact this.imp λ{a b} z e=>z (by rw[e])
 refine qZ (dJ I B.gl B.mg B.bt ?_ (by decide) (by decide));refine PyProof.Rows.callWith_builtin1 (e:=.Call (.Name "set" p') [e] [] pos') (rest:=[]) ?_ rfl rfl;refine jK ?_;refine qZ (dJ I C.gl C.mg C.bt (qT (bO (mX h qj T pos' R s σ H _ I ⟨HF,ρ,[.list ds],sm,eo,by simp[aa,af,hx],λvs H1 y G r1=>(⟨y,G,r1⟩:∃y,bM HF H y H1/\ak X.K y [.list ds] vs)⟩) λU S z=>?_) T rfl));let⟨vs,H1,M,rv,y,G,r1⟩:=z;let⟨v,vr,rfl,a1,b1⟩:=r1.cons_inv;rw[b1.nil_inv] at rv;let⟨u,rfl,rx⟩:=vals1 rv;simp?[Rep] at a1;let⟨la,ws,rfl,hq,rr⟩:=a1;cases rx;let⟨P,T6,pl,hz⟩:=M.list (G.fh.seq hq);have W:ak X.K y (r.map ae) ws:=by rw[RP] at rr;exact rr
 have Ys:Paired (iI S.heap) P r:=gE M G.fh W T6;have O:P.length=r.length:=Ys.length;let⟨D,rfl⟩:=Ck Ys;rw[zD] at O;have RN:∀j,j < D.length->IsTupleKey (intKind X.prog X.w) S.heap (r.getD j []) (D.getD j 0):=λj c=>by
  have:=dG (d:=Value.none) (d':=[]) (i:=j) Ys (by rw[zD];exact c);let⟨b,o,it,n,e,e1,e2,e3,e4⟩:=this.ex;have eb:b=D.getD j 0:=by
   rw[zG,zO,zK c] at e;rw[zG,zK c];cases e;rfl
  subst eb;refine⟨o,it,n,e1,e2,e3,?_⟩;have key:∀ {U:Γ Θ}{N:Γ Int},IntsAre U N->ItemsAre (intKind X.prog X.w) N U:=λ{U N} h=>by
   induction h with
   | nil=>exact .nil
   | cons n t _ ih=>exact .cons (intKind_is ..) ih
  exact key e4
 have QR:∀j,j < D.length->D.getD j 0 < S.heap.objs.size:=λj c=>by
  let⟨o,_,_,e,_⟩:=RN j c;exact zY e
 let mb:Nat->Int×Θ:=λj=>(qo (r.getD j []),.ref (D.getD j 0))
 refine Se.VX (M.ok.hd hc) pl.isList (λi l=>Sx.R5 X.w l S.heap.objs.size ((List.range i).map mb)/\∀j,j < D.length->IsTupleKey (intKind X.prog X.w) l (r.getD j []) (D.getD j 0)) (λl k0 hS=>⟨⟨_,_,_,_,hS,⟨rfl,rfl,rfl⟩,rfl,.refl _,rfl,rfl,⟨3,rfl⟩,(by decide:0 * 5 < 7 * 3),rfl,rfl,.nil⟩,λj c=>zx (RN j c) λo e=>k0 _ o e⟩)
  (λi h1 h2 z k=>by let⟨Z,L⟩:=z;exact ⟨Z.at λo e=>k _ o (yS (kP _)) e,λj c=>zx (L j c) λo e=>k _ o (yS (jP (QR j c))) e⟩) (λi v s' Q E g hv ⟨Z,L⟩ k=>?_) λl tk ⟨Z,L⟩ kp=>?_
 .rw[zH,zD] at g;have ev:v=.ref (D.getD i 0):=by
   rw[vY,zO,zK g] at hv;rw[zG,zK g];cases hv;rfl
  subst ev;unfold setAdd;refine xY (zV (wpAny_pyHash_tuple hu (L i g) ?_));refine Sx.WK (s:={ s' with toks:=_ }) (L i g) HX Z (λe T z=>?_) (by rw[zD,zR];lia) λl sb S'=>k _ l _ (jW _ _) sb ⟨CW S' ?_,λj c=>zx (L j c) λo e=>(sb.2 _ (yS (QR j c))).trans e⟩
  .let⟨j,c,rfl⟩:=List.mem_map.mp T;have c:=List.mem_range.mp c;rw[List.nodup_iff_pairwise_ne,List.pairwise_iff_getElem] at nd;refine nd j i (by rw[zD];lia) (by rw[zD];lia) c ?_;rw[List.getElem_map,List.getElem_map];have z:qo (r.getD j [])=qo (r.getD i []):=z;rw[zG,zG,zK (show i < r.length by lia),zK (show j < r.length by lia)] at z;exact z
  .rw[vT,jB];exact List.perm_append_comm (l₁:=[mb i])
 .refine kL ?_;rw[show (D.map Value.ref).toArray.size=D.length by simp] at Z;have I2:=M.kept (t':=tk) (h':=l) λb o e=>kp b o (zY e) e;let⟨es,ep,t,pe,J⟩:=Z.set;have hmb:((List.range D.length).map mb).map (·.2)=D.map Value.ref:=by
   rw[zM];refine List.ext_getElem? λi=>?_;rw[zO,zO];by_cases g:i < D.length
   .rw[List.getElem?_range g,zK g];show some (Value.ref (D.getD i 0))=_;rw[zG,zK g];rfl
   .rw[jN (by simpa using g),jN (by lia)];rfl
  have Xs:=((Se.SS (w:=X.w) (a:=S.heap.objs.size) (ep:=ep) (es:=es)).trans pe).map (λe:Int×Θ=>e.2);rw[hmb] at Xs;have wsr:=um W T6;rw[wsr] at W;let⟨cs,pc,ec⟩:=si Xs;let⟨m,pm,rm⟩:=sX (pc.map V.ref) W;have hl2:=pm.length_eq;have hl3:=pc.length_eq;have hsz:es.size=cs.length:=by
   have h1:=jD List.length ec;rw[zD,zD,wH,Se.Q5] at h1;exact h1
  have es':Ra m=Ra r:=nZ ((qd m).trans pm) (zm m);refine UM (s2:={ S with heap:=l,toks:=tk }) I2 G.fh rm (pm.nodup_iff.mpr rnd) (by lia) (QS.imp (λz N Sn=>z N (pm.mem_iff.mp Sn)) λz=>by lia) (λQ' E' q'=>Se.TJ (by simp[M.ok.hd hc]) J (by rw[PySem.sizeLine_eq];lia) (by rw[ec];exact q')) λDn U WS Y=>?_;rw[es'] at Y;exact q Dn _ _ y (G.trans (.own G.fh WS)) (G.hh.free WS) (G.fh.free WS) aI Y
def jn:D->Δ (Γ D)
 | .list d=>(xp d).bind λr=>if r.Nodup/\r.length < 128/\((∀n∈r,n≠[])\/r.length < 2) then ↑((Ra r).map ae) else none
 | _=>none
def EL(B:ou X "sorted" (.builtin "sorted"))(h:DE X e f)(E:starEach [e] X.env=(false,eval e X.env)::starEach [] X.env:=by rfl) :
  DF X (.Call (.Name "sorted" p) [e] [] pos) (λρ=>(f ρ).bind jn):=by
 intro P s σ H Q I z;let⟨j,ρ,out,sm,J,F,q⟩:=z;let⟨x,hx,F⟩:=bs F;cases x<;>try cases F
 rename_i D;let⟨r,R,F⟩:=bs F;by_cases N:r.Nodup/\r.length < 128/\((∀ns∈r,ns≠[])\/r.length < 2)
 rotate_left
 .rw[yO N] at F;cases F
 rw[yM N] at F;cases F;let⟨d,Y,t⟩:=N;have w:=l5 R;refine qZ (dJ I B.gl B.mg B.bt (PyProof.Rows.callWith_builtin1 (bO (mX h qj E pos P s σ H _ I ⟨j,ρ,[.list D],sm,J,by simp[aa,af,hx],λl c G g a=>(⟨G,g,a⟩:∃G,bM j H G c/\ak X.K G [.list D] l)⟩) λus s1 z=>?_) E rfl) (by decide) (by decide));let⟨l,c,i,V,G,g,a⟩:=z;let⟨v,vr,rfl,A,C⟩:=a.cons_inv;rw[C.nil_inv] at V;let⟨u,rfl,rx⟩:=vals1 V;simp?[Rep] at A;let⟨la,ws,rfl,Z,k⟩:=A;cases rx;let⟨its,T,pl,hz⟩:=i.list (g.fh.seq Z);have W:ak X.K G (r.map ae) ws:=by rw[w] at k;exact k
 let⟨y,rfl⟩:=Ck (gE i g.fh W T);rw[um W T] at W;have M:y.length=r.length:=by have:=W.length;rw[zD,zD] at this;exact this
 let⟨o,U,O,n,L⟩:=pl.isList;exact UM i g.fh W d Y t (λQ' E' q'=>T4.To ⟨o,"list",n,.inl rfl,U,O,L⟩ (q' _ s1.toks (λb o e=>(xO _ _ (jJ (zY e))).trans (zU _ e)) (by rw[Heap.size_update,size_push'];exact Nat.le_succ _)) (by rw[zD,PySem.sizeLine_eq];lia)) λm us S R=>q m _ _ G (g.trans (.own g.fh S)) (g.hh.free S) (g.fh.free S) aI R
end
end Dl
namespace Dd
open PySem
def WT:typeLookup (.type "list") "keys"=pure none:=by rw[typeLookup_type,builtinLookup_eq_fast];kernel_rfl
def aad:typeLookup (.type "list") "__getattr__"=pure none:=by rw[typeLookup_type,builtinLookup_eq_fast];kernel_rfl
section
variable {prog:ε}{w:δ}{A:ξ}{E:Θ->Ξ->Prop}
def UB{Q:PySem.Fin->Ξ->Prop}(b:A.handled=none)(x:s.heap.get? a=↑o)(hc:o.cls=.type "list")(hs:o.data=.seq its n)(H:o.dict=none)
  (q:∀h' k e,Heap.NewAttrErr s.heap h' e (.ref a) "keys"->E (.ref e) { s with heap:=h',toks:=k }):wpAny (model prog w) A (Builtin.«object.__getattribute__» ⟨[.ref a,.str "keys" k],[]⟩) Q E s:=by
 let⟨h,g,d,t,O⟩:=s;have T:(⟨h,g,d,t,O⟩:Ξ).TypeIs (.ref a) "list":=⟨_,x,hc⟩
 have f:=WT
 repeat (any_goals (first|assumption|wp_step))
 rw[hs];dsimp only;unfold instanceDict
 repeat (any_goals (first|assumption|wp_step))
 rw[hc,H];dsimp only;refine zW ?_
 repeat (any_goals (first|assumption|wp_step))
 exact wpAny_raiseAttrError b q (attrMsg_fits (by decide +kernel) (by size_fits))
def Vj(c:A.handled=none)(pl:PlainL s.heap a its)(h:∀ (h':ι) (k:Nat),(∀b o,s.heap.get? b=↑o->h'.get? b=↑o)->Q none { s with heap:=h',toks:=k }):wpAny (model prog w) A (getAttr? (.ref a) "keys") Q E s:=by
 let⟨o,n,x,hc,D,S⟩:=pl;let⟨p,g,d,t,O⟩:=s;have T:(⟨p,g,d,t,O⟩:Ξ).TypeIs (.ref a) "list":=⟨_,x,hc⟩
 have f:=sub_AttributeError;have i:=F.slot_list_getattribute.lookup;have j:=F.slot_list_getattribute.bind (.ref a);have l:=aad;unfold getAttr? getAttrBy? getAttrBy
 repeat (any_goals (first|assumption|wp_step))
 rw[hc]
 repeat (any_goals (first|assumption|wp_step))
 refine wD F.slot_list_getattribute.plain F.entry_list_ga (F.slot_list_getattribute.check _ _ _ _ _ _ _ _ (show (⟨p,g,d,t+1,O⟩:Ξ).TypeIs (.ref a) "list" from ⟨_,x,hc⟩) (F.args_list_getattribute_2 _ _) (UB (s:=⟨p,g,d,t+1,O⟩) (A:=A.in1) c x hc S D λh' k e H=>?_));let⟨q,u,m⟩:=H.there;dsimp only;unfold getattributeRaised
 repeat (any_goals (first|assumption|wp_step))
 exact h h' k H.keeps
def Rb:plainId "dict.update.loop"=true:=by decide +kernel
def Sb:entryFor table "dict.update.loop"=↑Builtin.«dict.update.loop»:=entryFor_of_tree (by kernel_rfl)
variable {K:Type}[DecidableEq K] {knd:HeapKind prog w K}
section
variable {R:Result->Ξ->Prop}{I:Ψ}{fp wr:Γ Ψ}{G:Array GenState->Array GenState->Prop}{n:Nat}{P:Nat->Θ->Prop}{St:Nat->Ξ->Prop}
def loop(W:WalksS prog w A.in1 I fp wr G n P St)(S:Ψ)(j:S∉fp)(V:Nat->ι->Prop)
  (g:∀i h h',V i h->(∀b o,b∉wr->h.get? b=↑o->h'.get? b=↑o)->V i h')
  (y:∀i v (s:Ξ),i < n->P i v->V i s.heap->∃p o m k x,v=.ref p/\s.heap.get? p=↑o/\o.cls=.type "tuple"/\o.data=.seq #[k,x] m/\∀ (Q:Unit->Ξ->Prop) (E:Θ->Ξ->Prop),(∀h' K,s.toks<=K->Heap.SameBut S s.heap h'->V (i+1) h'->Q () { s with heap:=h',toks:=K })->wpAny (model prog w) A.in1 (dictSet S k x) Q E s) :
  ∀ (k i:Nat) (z:Int) (s:Ξ),n - i=k->i<=n->St i s->V i s.heap->(∀s',Moved (S::wr) G s s'->V n s'.heap->R (.ok (.ret .none)) s')->codeAny (model prog w) A (.builtin "dict.update.loop" ⟨[.ref S,.ref I,rawInt z,.none],[]⟩) R s:=by
 have C:S∉wr:=λh=>j (W.sub _ h);have u:∀b∈wr,b∈S::wr:=λb H=>zC _ H;intro k
 induction k with
 | zero =>
  intro i z s J F a c hR;obtain rfl:i=n:=by lia
  refine kH Sb ?_;rw[Around.under_plainId Rb _];show wpAny _ A.in1 (pyNext (.ref I) >>= _) _ _ s;refine zV (W.done s _ _ a λs' M=>?_);exact zV (zW (zW (hR s' (M.mono u) (g _ _ _ c M.heap))))
 | succ k N =>
  intro i z s J F a c hR;have q:i < n:=by lia
  refine kH Sb ?_;rw[Around.under_plainId Rb _];show wpAny _ A.in1 (pyNext (.ref I) >>= _) _ _ s;refine zV (W.item i s _ _ q a λv s' r Y M=>?_);let⟨p,o,m,k,x,rfl,O,hc,D,t⟩:=y i v s' q r (g _ _ _ c M.heap);dsimp only;refine zV (xY (zV (wpAny_tryCatch ?_)));unfold Builtin.Dict.pairItems;refine zV (wN (T:="tuple") ⟨o,O,hc⟩ ?_);rw[yM (by decide)];refine zV (kK O D (zW ?_));refine xY (t _ _ λh' K Z B L=>?_);refine zW ⟨plainId_quiet Rb _,N (i+1) _ _ (by lia) q (W.frame _ s' _ _ Y Z λb H o e=>?_) L λl f d=>?_⟩
  .rw[B.2 b (λh:b=S=>j (by rw[<- h];exact H))];exact e
  .refine hR l (Moved.trans W.gtrans ((M.mono u).then_heap Z λb o H e=>?_) f) d;rw[B.2 b (λh:b=S=>H (by rw[h];exact zE))];exact e
end
abbrev ob:Obj:={ cls:=.type "dict",data:=.dict #[] }
def UC(f:A.handled=none)(pl:PlainL s.heap l its)(I:Nat->ι->Prop)
  (R:∀h':ι,(∀b o,s.heap.get? b=↑o->h'.get? b=↑o)->h'.get? s.heap.objs.size=↑ob->I 0 h')
  (G:∀i h h' x,s.heap.objs.size < x->I i h->(∀b o,b≠x->h.get? b=↑o->h'.get? b=↑o)->I i h')
  (Y:∀i v (s':Ξ),its[i]?=↑v->I i s'.heap->∃p o m k x,v=.ref p/\s'.heap.get? p=↑o/\o.cls=.type "tuple"/\o.data=.seq #[k,x] m/\∀ (Q:Unit->Ξ->Prop) (E:Θ->Ξ->Prop),(∀h' t,s'.toks<=t->Heap.SameBut s.heap.objs.size s'.heap h'->I (i+1) h'->Q () { s' with heap:=h',toks:=t })->wpAny (model prog w) A.in1.in1 (dictSet s.heap.objs.size k x) Q E s')
  (h:∀ (h':ι) (t:Nat),I its.size h'->(∀b o,b < s.heap.objs.size->s.heap.get? b=↑o->h'.get? b=↑o)->Q (.ref s.heap.objs.size) { s with heap:=h',toks:=t }) :
  wpAny (model prog w) A (call (.type "dict") [.ref l]) Q E s:=by
 refine callType_codes (Q₁:=λj J=>j=.ref s.heap.objs.size/\J={ s with heap:=s.heap.push ob }) F.kt_called_dict (F.kt_typeCall_dict_1 _) F.entry_dict_init (kt_code_dict_new _ ⟨rfl,rfl⟩) ?_;rintro j J ⟨rfl,rfl⟩;have a:(s.heap.push ob).get? s.heap.objs.size=↑ob:=zX _ rfl;have T:Shared.TypeIs { s with heap:=s.heap.push ob } (.ref s.heap.objs.size) "dict":=⟨_,a,rfl⟩
 have P:PlainL (s.heap.push ob) l its:=let ⟨o,n,e,r⟩:=pl;⟨o,n,zU _ e,r⟩;refine⟨T,F.args_dict_init_2 _ _,?_⟩;unfold Builtin.«dict.__init__»;refine zV ?_;unfold Builtin.Dict.selfAndRest;refine zV (wpAny_notOrdered_dict T ?_);show wpAny _ _ (pure (s.heap.objs.size,[Value.ref l])) _ _ _;refine zW ?_;show wpAny _ _ (Builtin.Dict.updateFrom "dict.__init__" s.heap.objs.size (.ref l) [] .none) _ _ _;unfold Builtin.Dict.updateFrom;have L:Shared.TypeIs { s with heap:=s.heap.push ob } (.ref l) "list":=let ⟨o,n,e,c,_⟩:=P;⟨o,e,c⟩;refine zV (wN L ?_);rw[yM (by decide)];refine zV (Vj (s:={ s with heap:=s.heap.push ob }) (A:=A.in1.in1) f P λH t u=>?_);simp?[wK,xI];refine zV (wI ?_);have S:l < s.heap.objs.size:=let ⟨o,n,e,_⟩:=pl;zY e;have N:H.get? s.heap.objs.size=↑ob:=u _ _ a;have g:s.heap.objs.size < H.objs.size:=zY N;have K:∀b o,s.heap.get? b=↑o->H.get? b=↑o:=λb o e=>u _ _ (zU _ e);have d:PlainL H l its:=let ⟨o,n,e,r⟩:=pl;⟨o,n,K _ _ e,r⟩;refine zV (qL (s:={ s with heap:=H,toks:=t }) d.isList (zW ⟨plainId_quiet Rb _,?_⟩));have V:l≠H.objs.size:=yS (wU S g);have y:s.heap.objs.size∉[H.objs.size,l]:=by
  simp?[zQ,yF,xV,not_or];exact⟨yS g,jJ S⟩
 refine loop (A:=A.in1) ((Walks.list (A:=A.in1.in1) f H.objs.size l V its).toS) s.heap.objs.size y I (λi h h' q k=>G i h h' _ g q λb o B e=>k b o (λz=>B (by rw[yK] at z;exact z)) e) (λi v s' q Z U=>Y i v s' Z U) (its.size - 0) 0 0 _ (by lia) (xW _) ⟨⟨_,zX _ rfl,rfl,rfl⟩,d.isList.push _⟩ (R _ (λb o e=>zU _ (K b o e)) (zU _ N)) λs' M W=>?_;let⟨h',O,D,C,X⟩:=s';obtain rfl:O=s.gens:=M.gens;obtain rfl:D=s.drawn:=M.drawn;obtain rfl:X=s.os:=M.os;refine⟨rfl,h h' C W λb o B e=>M.heap b o ?_ (zU _ (K b o e))⟩;simp?[zQ,yF,xV,not_or];exact⟨yS B,yS (wU B g)⟩
end
end Dd
namespace Dl
open PySem L2 PySem.Spec PyProof.Rows
abbrev Nk(X:Cx):=tupleKind (iQ X.prog X.w)
def pI:∀ {ns:Γ Int}{us:Γ Θ},az (ns.map V.int) us->ItemsAre (iQ P w) (ns.map Sum.inl) us
 | [],_,r=>by cases r;exact .nil
 | n::ns,_,r=>by
  rw[zI] at r ⊢;cases r with
  | cons h t=>let⟨T,rfl⟩:=h;exact .cons (vj P w n T) (pI t)
def AX{X:Cx}{ns:Γ Int}(I:Inv X pins σ H s)(h:f9 X.K H b (ns.map V.int)):(Nk X).is s.heap (ns.map Sum.inl) b:=by
 let⟨i,r,⟨o,a,c,n,d⟩,_⟩:=I.tuple h;exact⟨o,i.toArray,n,a,c,d,by simpa using pI r⟩
def rW(I:Inv X pins σ H s)(m:aO HF H):∀ {l:Γ (D×D)}{xs:Γ (Γ rM×Ψ×Θ)},qm X.K HF l xs->∀x∈xs,(Nk X).is s.heap x.1 x.2.1
 | [],_,h,x,a=>by cases (show _=[] from h);cases a
 | p::l,_,⟨n,b,r,f,c,d,e⟩,x,a=>by
  subst c;rcases List.mem_cons.mp a with rfl|a
  .exact AX I (ax m d)
  .exact rW I m e x a
def zj:∀ {a b:Γ Int},(a.map Sum.inl:Γ rM)=b.map Sum.inl->a=b
 | [],[],_=>rfl
 | [],_::_,h=>by simp at h
 | _::_,[],h=>by simp at h
 | x::a,y::b,h=>by
  rw[zI,zI] at h;injection h with H c
  injection H with H
  rw[H,zj c]
def Ac(ns:Γ Int)(l:Γ (D×D)):θ:=l.any λp=>match bQ p.1 with|some k=>decide (k=ns)|none=>false
def fV(ns:Γ Int):bQ (mq ns)=↑ns:=by
 show intsOf (ns.map PyData.int)=_;exact cC ns
def Bj{K:Φ}:∀ {l:Γ (D×D)}{xs:Γ (Γ rM×Ψ×Θ)},qm K HF l xs->(atKey xs (ns.map Sum.inl)).isSome=Ac ns l
 | [],_,h=>by cases (show _=[] from h);rfl
 | p::l,_,⟨k,b,r,H,a,d,c⟩=>by
  subst H a;have i:=Bj (ns:=ns) c;unfold atKey at i ⊢;unfold Ac at i ⊢;rw[Option.isSome_map] at i ⊢;rw[vG,fV,List.find?_cons];by_cases e:k=ns
  .subst e;simp
  .have E:¬ (k.map Sum.inl:Γ rM)=ns.map Sum.inl:=λz=>e (zj z);rw[zZ E];dsimp only;rw[zZ e,Bool.false_or];exact i
def M7(X:Cx):R2:=λx y H Q=>∃ (F:Hp) (b:Ψ) (n:Γ Int) (a:Ψ) (s:Γ (Γ rM×Ψ×Θ)) (l:Γ (D×D)),x=.ref b/\aO F H/\f9 X.K F b (n.map V.int)/\y=.ref a/\F a=↑(.dT s)/\qm X.K F l s/\Q (.bl (!Ac n l)) H
def Gg(U:X.A.units+1 < cLine):gY X (compareOp .NotIn) (M7 X):=by
 intro p s t H x y v u Q I r R h;let⟨F,b,n,a,S,l,rfl,m,B,rfl,j,k,q⟩:=h;cases r;cases R;let⟨z,D,o,E,e,c,d,f,g,i⟩:=(show c8 X.prog X.w H s.heap a (.dT S) from I.QK a _ (m _ _ j))
 refine wpAny_notIn_heap (tupleKind_room_in1 U) (AX I (ax m B)) D ⟨o,E,e,c,d,f,g,rW I m k,i⟩ ⟨.bl _,H,I.tok _,rfl,?_⟩;rw[Bj k];exact q
def xh:D->D->Δ D
 | x,.dict l=>(bQ x).map λn=>.bool (!Ac n l)
 | _,_=>none
def Ci:eN X.K (M7 X) xh:=by
 intro F H x y v V d Q m r R g q;cases y<;>try cases g
 rename_i l;let⟨n,c,rfl⟩:=ag (show (bQ x).map _=↑d from g);rw[eT c] at r;simp?[Rep] at r R;let⟨b,f,rfl,s,e⟩:=r;let⟨a,S,rfl,A,k⟩:=R;rw[fI e] at s;exact⟨F,b,n,a,S,l,rfl,m,s,rfl,A,k,q _ _ F (.refl m) (by simp?[Rep])⟩
def F1:D->Δ (Γ Int)
 | .tuple [k,.bool true]=>bQ k
 | _=>none
def Ae(h:F1 d=↑n):d=.tuple [mq n,.bool true]:=by
 unfold F1 at h;split at h
 .rw[eT h]
 .cases h
def Ih:Γ D->Δ (Γ (Γ Int))
 | []=>↑[]
 | d::s=>(F1 d).bind λn=>(Ih s).map λr=>n::r
def iM(r:Γ (Γ Int)):D:=.dict (r.map λn=>(mq n,.bool true))
def pJ:D->Δ D
 | .list d=>(Ih d).bind λr=>if r.Nodup/\r.length < 1000 then ↑(iM r) else none
 | _=>none
def sF:∀ {ds:Γ D}{r:Γ (Γ Int)},Ih ds=↑r->ds=r.map λn=>.tuple [mq n,.bool true]
 | [],r,h=>by cases h;rfl
 | d::ds,r,h=>by
  let⟨n,H,h⟩:=bs h;let⟨R,a,rfl⟩:=ag h;rw[Ae H,sF a];rfl
def B4{K:Φ}(HF:Hp)(a:Nat->Ψ)(r:Γ (Γ Int)):∀ (l:Γ (Γ Int)) (i:Nat),(∀j,j < l.length->f9 K HF (a (i+j)) ((l.getD j []).map V.int))->qm K HF (l.map λns=>(mq ns,.bool true)) ((List.range l.length).map λj=>((l.getD j []).map Sum.inl,a (i+j),.bool true))
 | [],_,_=>rfl
 | ns::l,i,h=>by
  refine⟨ns,a i,_,rfl,?_,h 0 (Nat.succ_pos _),B4 HF a r l (i+1) λj H=>?_⟩
  .rw[zL,vP,zI,zM];refine jD _ (yI λj _=>?_);show _=_;simp?[Function.comp,wG,Nat.succ_eq_add_one,show i+(j+1)=i+1+j by lia]
  .have:=h (j+1) (by rw[zL];lia)
   rwa [wG,show i+(j+1)=i+1+j by lia] at this
def Hh(hc:X.calm=true)(hu:X.A.in1.in1.in1.units < cLine)(B:ou X "dict" (.type "dict"))(h:DE X e f)(he:starEach [e] X.env=(false,eval e X.env)::starEach [] X.env:=by rfl) :
  DE X (.Call (.Name "dict" p) [e] [] pos) (f1 pJ f):=by
 intro pins s σ H Q I z;let⟨HF,ρ,d,sm,eo,F,q⟩:=z;let⟨x,T,F⟩:=bs F;cases x<;>try cases F
 rename_i ds;let⟨r,hr,F⟩:=bs F;by_cases hn:r.Nodup/\r.length < 1000;rotate_left
 .rw[yO hn] at F;cases F
 rw[yM hn] at F;cases F;let⟨nd,hz⟩:=hn;have RP:=sF hr;refine qZ (dJ I B.gl B.mg B.bt (qT (bO (mX h qj he pos pins s σ H _ I ⟨HF,ρ,[.list ds],sm,eo,by simp[aa,af,T],λvs W G P r1=>(⟨G,P,r1⟩:∃G,bM HF H G W/\ak X.K G [.list ds] vs)⟩) λus c z=>?_) he rfl));let⟨vs,W,w,rv,G,P,r1⟩:=z;let⟨v,vr,rfl,a1,b1⟩:=r1.cons_inv;rw[b1.nil_inv] at rv;let⟨u,rfl,rx⟩:=vals1 rv;simp?[Rep] at a1;let⟨la,ws,rfl,hq,rr⟩:=a1;cases rx;let⟨S,T6,pl,hsz⟩:=w.list (P.fh.seq hq);have hlen:S.length=r.length:=by
  have C:=T6.length;have t:=rr.length;rw[RP,zD] at t;lia
 have R:∀i,i < r.length->∃b p o m k x,S[i]?=↑(.ref p)/\c.heap.get? p=↑o/\o.cls=.type "tuple"/\o.data=.seq #[.ref b,.bool true] m/\f9 X.K G b ((r.getD i []).map V.int)/\k=()/\x=():=λi l=>by
  have Rg:i < S.length:=by lia
  obtain⟨y,Y⟩:∃y,ws[i]?=↑y:=⟨_,zK (by rw[T6.length];exact Rg)⟩
  let⟨v',YR,ry⟩:=T6.get Y;let⟨d,hd,rd⟩:=rr.get Y;rw[RP,zO] at hd;let⟨n,XN,rfl⟩:=ag hd;have er:r.getD i []=n:=by rw[zG,XN];rfl
  simp?[Rep] at rd;let⟨p,us,rfl,hp,rp⟩:=rd;cases ry;let⟨c1,r1,rfl,k1,rp⟩:=rp;let⟨c2,r2,rfl,k2,rp⟩:=rp;cases (show r2=[] from rp);have k2:c2=.bl true:=k2;subst k2;let⟨b,ws',rfl,hb,rb⟩:=k1;rw[fI rb] at hb;let⟨its',YU,⟨o,h1,h2,m,h3⟩,_⟩:=w.tuple (ax P.fh hp);cases YU with
  | cons U YU =>
   cases YU with
   | cons z2 YU =>
    cases YU;cases U;cases z2;exact⟨b,p,o,m,(),(),YR,h1,h2,h3,by rw[er];exact hb,rfl,rfl⟩
 let L:Nat->Ψ:=λi=>if h:i < r.length then Classical.choose (R i h) else 0
 have Yu:∀i,i < r.length->∃p o m,S[i]?=↑(.ref p)/\c.heap.get? p=↑o/\o.cls=.type "tuple"/\o.data=.seq #[.ref (L i),.bool true] m/\f9 X.K G (L i) ((r.getD i []).map V.int):=λi l=>by
  let⟨p,o,m,_,_,C,t,M,O,D,_⟩:=Classical.choose_spec (R i l);have eb:L i=Classical.choose (R i l):=dif_pos l;rw[eb];exact⟨p,o,m,C,t,M,O,D⟩
 let N:Nat->Γ rM×Ψ×Θ:=λj=>((r.getD j []).map Sum.inl,L j,.bool true)
 have RN:∀ {g:ι},(∀b o,c.heap.get? b=↑o->g.get? b=↑o)->∀j,j < r.length->(Nk X).is g (N j).1 (L j):=λ{g} k j J=>by
  let⟨p,o,m,_,_,_,_,D⟩:=Yu j J;let⟨o',i',n',k1,k2⟩:=AX w (ax P.fh D);exact⟨o',i',n',k _ _ k1,k2⟩
 refine Dd.UC (w.ok.hd hc) pl (λi g=>g.DictOfH (Nk X) c.heap.objs.size ((List.range i).map N)/\i<=r.length/\∀b o,c.heap.get? b=↑o->g.get? b=↑o)
  (λg k0 hS=>⟨⟨_,#[],0,hS,⟨rfl,rfl,rfl⟩,rfl,rfl,λx T=>(by cases T),List.nodup_nil⟩,xW _,k0⟩) (λi h1 h2 x T ⟨⟨o,es,ep,C,t,M,O,D,e6⟩,z2,Z⟩ k=>?_) (λi v s' hv ⟨U,z2,Z⟩=>?_) λg tk ⟨U,z2,Z⟩ kp=>?_
 .have k':∀b o,c.heap.get? b=↑o->h2.get? b=↑o:=λb o e=>k _ _ (yS (wU (zY e) T)) (Z _ _ e);refine⟨⟨o,es,ep,k _ _ (yS T) C,t,M,O,λy Y=>?_,e6⟩,z2,k'⟩;let⟨j,J,rfl⟩:=List.mem_map.mp Y;exact RN k' j (by have:=List.mem_range.mp J;lia)
 .have l:i < r.length:=by
   have:=(List.getElem?_eq_some_iff.mp (show S[i]?=↑v by simpa using hv)).1;lia
  let⟨p,o,m,C,t,M,O,D⟩:=Yu i l;have ev:v=.ref p:=by
   have YR:S[i]?=↑v:=by simpa using hv
   rw[C] at YR;cases YR;rfl
  refine⟨p,o,m,_,_,ev,Z _ _ t,M,O,λQ E q=>?_⟩;refine wpAny_dictSet_heap (hsz:=by rw[zD,zR,qV];lia) (show (Nk X).room X.A.in1.in1 from Nat.lt_of_succ_lt hu) (RN Z i l) U λg dd sb=>q g _ (jW _ _) sb ⟨?_,l,λb o e=>(sb.2 b (yS (zY e))).trans (Z _ _ e)⟩;have:storedH ((List.range i).map N) (N i).1 (L i) (.bool true)=(List.range (i+1)).map N:=by
   rw[vT,jB];unfold storedH;rw[yO]
   .rfl
   .intro z;unfold atKey at z;rw[Option.isSome_map,List.find?_isSome] at z;let⟨y,Y,e⟩:=z;let⟨j,J,rfl⟩:=List.mem_map.mp Y;have J:=List.mem_range.mp J;have e:=zj (yR e);rw[List.nodup_iff_pairwise_ne,List.pairwise_iff_getElem] at nd;refine nd j i (by lia) l J ?_;rw[zG,zG,zK l,zK (show j < r.length by lia)] at e;exact e
  rw[this] at dd;exact dd
 .rw[show S.toArray.size=r.length by simp[hlen]] at U;let⟨o,es,ep,C,t,M,O,D,e6⟩:=U;have big:sysModules < c.heap.objs.size:=wU (by decide) (show mainGlobals < c.heap.objs.size from (w.mod.glob.keeps w.bk).lt);have I2:=w.laid (a:=c.heap.objs.size) (o:=.dT ((List.range r.length).map N)) (h':=g) (t':=tk) Z (yN _) ⟨by rw[zD,zR,qV];lia,beq_eq_false_iff_ne.mpr (jO (yS big)),o,es,ep,C,t,M,O,e6⟩;have WS:W c.heap.objs.size=none:=w.QK.fresh (yN _);have g2:bM G W (upd G c.heap.objs.size (.dT ((List.range r.length).map N))) (upd W c.heap.objs.size (.dT ((List.range r.length).map N))):=.new P.fh WS;refine⟨.ref _,_,I2,rfl,q _ _ _ (P.trans g2) ?_⟩;unfold iM;simp?[Rep];refine⟨_,_,rfl,aI,?_⟩;have:=B4 (K:=X.K) (upd G c.heap.objs.size (.dT ((List.range r.length).map N))) L r r 0 λj J=>by
   let⟨p,o,m,_,_,_,_,D⟩:=Yu j J;rw[jE];exact ax g2.ff D
  simp?[jE] at this;exact this
end Dl
namespace Rf
open PySem L2 Dl PySem.Spec PyProof.Rows
variable {env:PySem.Env}
def lF{c:Prop}[Decidable c]{f:c->Δ α}(h:(if q:c then f q else none)=↑z):c:=by
 by_cases q:c
 .exact q
 .rw[dif_neg q] at h;cases h
def aP{c:Prop}[Decidable c]{a:Δ α}(h:(if c then a else none)=↑z):c/\a=↑z:=by
 by_cases q:c
 .rw[yM q] at h;exact⟨q,h⟩
 .rw[yO q] at h;cases h
def bX{c:Prop}[Decidable c]{a b:Δ α}(h:(if c then a else b)=↑z):(c/\a=↑z)\/(¬ c/\b=↑z):=by
 by_cases q:c
 .rw[yM q] at h;exact .inl ⟨q,h⟩
 .rw[yO q] at h;exact .inr ⟨q,h⟩
def gh{o:Δ α}{a:Δ β}{f:α->Δ β}(h:o.elim a f=↑g):(o=none/\a=↑g)\/∃z,o=↑z/\f z=↑g:=by
 cases o with
 | none=>exact .inl ⟨rfl,h⟩
 | some z=>exact .inr ⟨z,rfl,h⟩
def dN(e:γ):Δ (Str×Pos):=if h:e.ctorIdx=23 then Expr.Name.elim e h λx p=>↑(x,p) else none
def jd{e:γ}(h:dN e=↑z):e=.Name z.1 z.2:=Expr.Name.elim (motive_1:=λe=>dN e=↑z->e=.Name z.1 z.2) e (lF h) (λa b h=>by cases h;rfl) h
def dA(e:γ):Δ (γ×Str×Pos):=if h:e.ctorIdx=20 then Expr.Attribute.elim e h λx y p=>↑(x,y,p) else none
def J5{e:γ}(h:dA e=↑z):e=.Attribute z.1 z.2.1 z.2.2:=Expr.Attribute.elim (motive_1:=λe=>dA e=↑z->e=.Attribute z.1 z.2.1 z.2.2) e (lF h) (λa b d h=>by cases h;rfl) h
def dC(e:γ):Δ (γ×Γ γ×Γ Keyword×Pos):=if h:e.ctorIdx=16 then Expr.Call.elim e h λx y u p=>↑(x,y,u,p) else none
def DM{e:γ}(h:dC e=↑z):e=.Call z.1 z.2.1 z.2.2.1 z.2.2.2:=Expr.Call.elim (motive_1:=λe=>dC e=↑z->e=.Call z.1 z.2.1 z.2.2.1 z.2.2.2) e (lF h) (λa b d f h=>by cases h;rfl) h
def dT(e:γ):Δ (Γ γ×Nat×Pos):=if h:e.ctorIdx=25 then Expr.Tuple.elim e h λx y p=>↑(x,y,p) else none
def Kk{e:γ}(h:dT e=↑z):e=.Tuple z.1 z.2.1 z.2.2:=Expr.Tuple.elim (motive_1:=λe=>dT e=↑z->e=.Tuple z.1 z.2.1 z.2.2) e (lF h) (λa b d h=>by cases h;rfl) h
def l1:Γ α->Δ α
 | [a]=>↑a
 | _=>none
def l2:Γ α->Δ (α×α)
 | [a,b]=>↑(a,b)
 | _=>none
def eD{l:Γ α}(h:l1 l=↑a):l=[a]:=by
 rcases l with _|⟨b,_|_⟩<;>cases h;rfl
def sT{l:Γ α}(h:l2 l=↑a):l=[a.1,a.2]:=by
 rcases l with _|⟨b,_|⟨d,_|_⟩⟩<;>cases h;rfl
def PX(e:γ):Δ ((γ×Str×Pos)×Str×Pos):=(dA e).bind λy=>(dN y.1).map λz=>(y,z)
def L3{e:γ}(h:PX e=↑z):e=.Attribute (.Name z.2.1 z.2.2) z.1.2.1 z.1.2.2:=by
 let⟨y,H,h⟩:=bs h;let⟨w,a,rfl⟩:=ag h;rw[J5 H,jd a]
def NU(e:γ):Δ ((γ×Γ γ×Γ Keyword×Pos)×Str×Pos):=(dC e).bind λy=>if y.2.2.1.isEmpty=true then (dN y.1).map λz=>(y,z) else none
def qt{e:γ}(h:NU e=↑z):e=.Call (.Name z.2.1 z.2.2) z.1.2.1 [] z.1.2.2.2:=by
 let⟨y,H,h⟩:=bs h;let⟨b,h⟩:=aP h;let⟨w,a,rfl⟩:=ag h;rw[DM H,jd a,List.isEmpty_iff.mp b]
structure Tr where
 e:γ->Δ (Dl.Env->Δ D)
 f:γ->Δ (Dl.Env->Δ (Γ D))
 t:γ->Δ (Dl.Env->Δ θ)
structure Sg where
 fn:Γ (Str×Nat×(Γ D->Δ D))
 int:Γ (Str×Int)
abbrev FE:=Dl.Env->Δ D
def Az(G:Sg)(sc:ζ)(N:Γ Str)(x:Str):Δ FE:=match N.idxOf? x with
 | some i=>if Cv N sc i x=true then ↑(ab i) else none
 | none=>if (Dy sc x&&!(x == ("__debug__":Str)))=true then (G.int.lookup x).map λn=>fC (.int n) else none
def BN:Const->Δ FE
 | .int i=>↑(fC (.int i))
 | .bool b=>↑(fC (.bool b))
 | .none=>↑(fC .none)
 | .str x=>↑(fC (.str x))
 | _=>none
def NA(T:Tr)(op:UnaryOp)(a:γ):Δ FE:=match op with
 | .USub=>(T.e a).map (f1 MQ)
 | _=>none
def Pp:Operator->Δ (D->D->Δ D)
 | .Add=>↑aC
 | .Sub=>↑Dl.gT
 | .Mult=>↑eu
 | .FloorDiv=>↑mF
 | .Mod=>↑lz
 | _=>none
def Nr(e:γ):θ:=e.ctorIdx == 24||e.ctorIdx == 8||(((dC e).bind λy=>dN y.1).any λz=>z.1 == ("sorted":Str)||z.1 == ("list":Str))
def JG(T:Tr)(a:γ)(op:Operator)(b:γ):Δ FE:=(Pp op).bind λg=>(T.e a).bind λx=>(T.e b).map λy=>f2 g x y
def uA(T:Tr):Γ γ->Δ FE
 | []=>none
 | [a]=>T.e a
 | a::b::r=>(T.e a).bind λx=>(uA T (b::r)).map λy=>lu x y
def Nu:CmpOp->Δ (D->D->Δ D)
 | .Lt=>↑CN
 | .LtE=>↑Cr
 | .Gt=>↑za
 | .GtE=>none
 | .Eq=>↑cg
 | .NotEq=>↑hC
 | .In=>none
 | .NotIn=>↑Di
 | .Is=>↑xt
 | .IsNot=>↑pA
def OG:CmpOp->Δ (D->D->Δ D)
 | .Lt=>↑CN
 | .LtE=>↑Cr
 | _=>none
def OR(e:γ):Δ (γ×γ×Pos):=if h:e.ctorIdx=21 then Expr.Subscript.elim e h λx y p=>↑(x,y,p) else none
def Mw{e:γ}(h:OR e=↑z):e=.Subscript z.1 z.2.1 z.2.2:=Expr.Subscript.elim (motive_1:=λe=>OR e=↑z->e=.Subscript z.1 z.2.1 z.2.2) e (lF h) (λa b d h=>by cases h;rfl) h
def DZ(op:CmpOp)(b:γ):θ:=op.ctorIdx == 9&&(dN b).any λz=>z.1 == ("_law_known":Str)
def FB(T:Tr)(a:γ)(ops:Γ CmpOp)(cs:Γ γ):Δ FE:=(l1 ops).elim
 ((l2 ops).bind λo=>(l2 cs).bind λb=>if lastMarks [o.1,o.2] [b.1,b.2]=false then (OG o.1).bind λg=>(OG o.2).bind λG=>(T.e a).bind λx=>(T.e b.1).bind λy=>(T.e b.2).map λz=>kc g G x y z else none) λp =>
 (l1 cs).bind λb=>if behindInMarks p b=false then (if DZ p b=true then ↑xh else Nu p).bind λg=>(T.e a).bind λx=>(T.e b).map λy=>f2 g x y else none
def y9(T:Tr):Γ γ->Δ (Dl.Env->Δ (Γ D))
 | []=>↑af
 | e::s=>if isStar e=false then (T.e e).bind λx=>(y9 T s).map λr=>aa x r else none
def Py(T:Tr):Δ γ->Δ (Dl.Env->Δ (Δ Int))
 | none=>↑e8
 | some e=>(T.e e).map rK
def Gr(e:γ):θ:=e.ctorIdx == 26||e.ctorIdx == 25||e.ctorIdx == 22
def OC(e:γ):Δ (Δ γ×Δ γ×Δ γ×Pos):=if h:e.ctorIdx=26 then Expr.Slice.elim e h λx y u p=>↑(x,y,u,p) else none
def EX{e:γ}(h:OC e=↑z):e=.Slice z.1 z.2.1 z.2.2.1 z.2.2.2:=Expr.Slice.elim (motive_1:=λe=>OC e=↑z->e=.Slice z.1 z.2.1 z.2.2.1 z.2.2.2) e (lF h) (λa b d f h=>by cases h;rfl) h
def dK(e:γ):Δ (Const×Nat×Pos):=if h:e.ctorIdx=19 then Expr.Constant.elim e h λx y p=>↑(x,y,p) else none
def JH{e:γ}(h:dK e=↑z):e=.Constant z.1 z.2.1 z.2.2:=Expr.Constant.elim (motive_1:=λe=>dK e=↑z->e=.Constant z.1 z.2.1 z.2.2) e (lF h) (λa b d h=>by cases h;rfl) h
def KB(e:γ):Δ (γ×Γ Comprehension×ζ×Pos):=if h:e.ctorIdx=8 then Expr.ListComp.elim e h λx y u p=>↑(x,y,u,p) else none
def Le{e:γ}(h:KB e=↑z):e=.ListComp z.1 z.2.1 z.2.2.1 z.2.2.2:=Expr.ListComp.elim (motive_1:=λe=>KB e=↑z->e=.ListComp z.1 z.2.1 z.2.2.1 z.2.2.2) e (lF h) (λa b d f h=>by cases h;rfl) h
def Iu(e:γ):θ:=(dK e).any λz=>match z.1 with|.int 1=>true|_=>false
def B5{e:γ}(h:Iu e=true):∃i p,e=.Constant (.int 1) i p:=by
 unfold Iu at h;cases q:dK e with
 | none=>rw[q] at h;cases h
 | some z =>
  rw[q] at h;rw[JH q];let⟨c,i,p⟩:=z;cases c<;>try cases h
  rename_i n;refine⟨i,p,?_⟩;have h:(match (Const.int n:Const) with|.int 1=>true|_=>false)=true:=h;split at h
  .rename_i e;cases e;rfl
  .cases h
def dU(e:γ):Δ (UnaryOp×γ×Pos):=if h:e.ctorIdx=3 then Expr.UnaryOp.elim e h λx y p=>↑(x,y,p) else none
def Nn{e:γ}(h:dU e=↑z):e=.UnaryOp z.1 z.2.1 z.2.2:=Expr.UnaryOp.elim (motive_1:=λe=>dU e=↑z->e=.UnaryOp z.1 z.2.1 z.2.2) e (lF h) (λa b d h=>by cases h;rfl) h
def KC(e:γ):θ:=(dU e).any λz=>z.1.ctorIdx == 3&&Iu z.2.1
def GW{e:γ}(h:KC e=true):∃i p q,e=.UnaryOp .USub (.Constant (.int 1) i p) q:=by
 unfold KC at h;cases q:dU e with
 | none=>rw[q] at h;cases h
 | some z =>
  rw[q] at h;simp?[Option.any_some,zF] at h;let⟨i,p,E⟩:=B5 h.2;rw[Nn q,E];let⟨o,b,c⟩:=z;have H:(o.ctorIdx == 3)=true:=h.1;obtain rfl:o=.USub:=by cases o<;>first|rfl|exact absurd H (by decide)
  exact⟨i,p,c,rfl⟩
def Ki(T:Tr)(a b:γ):Δ FE:=(OC b).elim (if Gr b=false then (T.e a).bind λx=>(T.e b).map λy=>f2 aw x y else none) λz=>if z.2.2.1.isNone=true then (T.e a).bind λx=>(Py T z.1).bind λl=>(Py T z.2.1).map λh=>fj cn x l h else (z.2.2.1).bind λs=>if (KC s&&z.2.1.isNone)=true then z.1.elim ((T.e a).map λx=>f1 Mx x) λl=>if Iu l=true then (T.e a).map λx=>f1 sL x else none else none
def GC:Γ D->Δ D:=λs=>(oneOf s).bind λd=>match d with
 | .list e=>(boolsOf e).map λb=>.bool (b.any id)
 | _=>none
def n5(e:γ):Δ γ:=(NU e).bind λz=>if z.2.1="set" then l1 z.1.2.1 else none
def M4(x:Str):Δ String:=if x="int" then ↑"int" else if x="bool" then ↑"bool" else if x="tuple" then ↑"tuple" else if x="list" then ↑"list" else none
def E2(G:Sg)(sc:ζ)(T:Tr)(w:γ)(x:Str)(s:Γ γ):Δ FE :=
 if (Dy sc x&&s.all λe=>!isStar e)=true then
  (G.fn.lookup x).elim (
   if x="len" then (l1 s).bind λe=>(n5 e).elim ((y9 T s).map λF=>bp bE F) λE=>if (Dy sc "set"&&!isStar E)=true then (T.e E).map λy=>f1 lg y else none
   else if x="isinstance" then (l2 s).bind λa=>(dN a.2).bind λy=>if Dy sc y.1=true then (M4 y.1).bind λt=>(T.e a.1).map λz=>J8 t z else none
   else if x="tuple" then (if s.length=1 then (y9 T s).map λF=>bp br F else none)
   else if x="all" then (if s.length=1 then (y9 T s).map λF=>bp jw F else none)
   else if x="any" then (if s.length=1 then (y9 T s).map λF=>bp GC F else none)
   else if x="dict" then (l1 s).bind λe=>(T.e e).map λy=>f1 pJ y
   else if x="sum" then (if s.length=1 then (y9 T s).map λF=>bp CL F else none)
   else if x="min" then (if s.isEmpty=true then none else (y9 T s).map λF=>bp yb F)
   else if (x == ("list":Str)||x == ("sorted":Str))=true then (T.f w).map bN
   else none) λz=>if (x == ("__debug__":Str))=true then none else (y9 T s).map λF=>ah z.1 z.2 F
 else none
def Ce(e:γ):θ:=e.ctorIdx == 16
def Fy(T:Tr)(o:γ)(m:Str)(a:Pos)(s:Γ γ)(Q:Pos):Δ FE :=
 if (m == ("index":Str)&&a.endLine == Q.line&&!Ce o)=true then (l1 s).bind λe=>if isStar e=false then (T.e o).bind λx=>(T.e e).map λy=>f2 oW x y else none
 else none
def Oc(G:Sg)(sc:ζ)(T:Tr)(w f:γ)(a:Γ γ)(k:Γ Keyword)(p:Pos):Δ FE :=
 (dN f).elim (if k.isEmpty=true then (dA f).bind λy=>Fy T y.1 y.2.1 y.2.2 a p else none) λz=>if k.isEmpty=true then E2 G sc T w z.1 a else (T.f w).map bN
def JT(G:Sg)(sc:ζ)(N:Γ Str)(T:Tr)(w:γ):Δ FE:=match w with
 | .Name x _=>Az G sc N x
 | .Constant c _ _=>BN c
 | .UnaryOp o a _=>NA T o a
 | .BinOp a o b _=>JG T a o b
 | .BoolOp .And E _=>uA T E
 | .Compare a O C _=>FB T a O C
 | .IfExp c a b _=>(T.t c).bind λz=>(T.e a).bind λx=>(T.e b).map λy=>PM z x y
 | .Tuple E _ _=>(y9 T E).map aF
 | .Subscript a b _=>Ki T a b
 | .List ..=>(T.f w).map bN
 | .ListComp ..=>(T.f w).map bN
 | .Call f s k p=>Oc G sc T w f s k p
 | _=>none
def Og(T:Tr)(op:BoolOp):Γ γ->Δ (Dl.Env->Δ θ)
 | []=>none
 | [a]=>T.t a
 | a::b::r=>(T.t a).bind λx=>(Og T op (b::r)).map λy=>match op with|.And=>fU x y|.Or=>nI x y
def stepT(T:Tr)(w:γ):Δ (Dl.Env->Δ θ):=match w with
 | .Compare a o c _=>(FB T a o c).map fB
 | .UnaryOp .Not a _=>(T.t a).map bT
 | .BoolOp p s _=>Og T p s
 | .Name ..=>(T.e w).map fB
 | .Call ..=>(T.e w).map fB
 | .Subscript ..=>(T.e w).map fB
 | _=>none
def AF(e:γ):θ:=e.ctorIdx == 25
def OW(sc:ζ)(T:Tr)(tg iter:γ):Δ (Dl.Env->Δ (Γ D)):=if iter.ctorIdx=7 then none else (NU iter).elim ((T.e iter).map aM) λz =>
 if z.2.1="range" then (l1 z.1.2.1).bind λe=>if (Dy sc "range"&&!isStar e)=true then (y9 T [e]).map bA else none
 else if z.2.1="enumerate" then (l1 z.1.2.1).bind λe=>if (Dy sc "enumerate"&&!isStar e&&AF tg)=true then (y9 T [e]).map bj else none
 else if z.2.1="zip" then (l2 z.1.2.1).bind λe=>if (Dy sc "zip"&&!isStar e.1&&!isStar e.2&&AF tg)=true then (y9 T [e.1,e.2]).map jg else none
 else (T.e iter).map aM
def LJ:Γ γ->Δ (Γ Str)
 | []=>↑[]
 | e::s=>(dN e).bind λz=>(LJ s).map λr=>z.1::r
def PR(e:γ):Δ (Γ Str):=(dN e).elim ((dT e).bind λz=>if z.1.length=2\/z.1.length=3 then LJ z.1 else none) λz=>↑[z.1]
def sH(N:Γ Str)(scope:ζ):Γ Nat:=(List.range N.length).filter λj=>match N[j]? with|some x=>decide (scope.names.lookup x=↑.free)|none=>false
def MV(B:Tr)(ifs:Γ γ):Δ (Dl.Env->Δ θ):=if ifs.isEmpty=true then some λ_=>↑true else (l1 ifs).bind B.t
def Ma(N:Γ Str)(scope:ζ)(xs:Γ Str):Γ Str:=xs++(sH N scope).filterMap λj=>N[j]?
def Gu(sc:ζ)(N:Γ Str)(T:Tr)(X:ζ->Γ Str->Tr)(elt:γ)(g:Γ Comprehension)(scope:ζ):Δ (Dl.Env->Δ (Γ D)):=(l1 g).bind λc =>
  if c.is_async=0 then (PR c.target).bind λx =>
   if (j8 sc scope N (Ma N scope x) x.length (sH N scope)&&(List.range x.length).all λi=>zf (Ma N scope x) scope i (x.getD i ""))=true then
    (OW sc T c.target c.iter).bind λf=>(MV (X scope (Ma N scope x)) c.ifs).bind λa =>
     ((X scope (Ma N scope x)).e elt).map λt=>aj x.length (sH N scope) f (if x.length=1 then fG 0 else if x.length=2 then fy 0 1 else GT 0 1 2) a t
   else none
  else none
def J3(a:Arguments):Δ Str:=(l1 a.args).bind λx=>if ((a.posonlyargs.isEmpty&&a.vararg.isNone&&a.kwonlyargs.isEmpty&&a.kw_defaults.isEmpty&&a.kwarg.isNone&&a.defaults.isEmpty&&x.annotation.isNone)&&(x.arg == ("number":Str)||x.arg == ("plan":Str)))=true then ↑x.arg else none
def O3(e:γ):Δ (Arguments×γ×ζ×Pos):=if h:e.ctorIdx=4 then Expr.Lambda.elim e h λx y u p=>↑(x,y,u,p) else none
def L6{e:γ}(h:O3 e=↑z):e=.Lambda z.1 z.2.1 z.2.2.1 z.2.2.2:=Expr.Lambda.elim (motive_1:=λe=>O3 e=↑z->e=.Lambda z.1 z.2.1 z.2.2.1 z.2.2.2) e (lF h) (λa b d f h=>by cases h;rfl) h
def ML(e:γ):Δ γ:=(NU e).bind λz=>if z.2.1="range" then l1 z.1.2.1 else none
def A8(m:Δ Str)(sc:ζ)(N:Γ Str)(T:Tr)(V:ζ->Γ Str->Tr)(l:γ)(w:Arguments×γ×ζ×Pos):Δ (Dl.Env->Δ (Γ D)) :=
 if (m.isSome&&Dy sc "sorted"&&!isStar l)=true then
  (J3 w.1).bind λp =>
   if (j8 sc w.2.2.1 N (Ma N w.2.2.1 [p]) 1 (sH N w.2.2.1)&&pK w.2.2.1 (Ma N w.2.2.1 [p]) p)=true then
    ((V w.2.2.1 (Ma N w.2.2.1 [p])).e w.2.1).bind λt=>(ML l).elim ((T.e l).map λf=>n9 (sH N w.2.2.1) f t) λe=>if (Dy sc "range"&&!isStar e)=true then (y9 T [e]).map λs=>rA (sH N w.2.2.1) s t else none
   else none
 else none
def OP(e:γ):θ:=(KB e).any λz=>(NU z.1).any λy=>y.2.1 == ("turned_plan":Str)
def M9(m:Δ Str)(sc:ζ)(N:Γ Str)(T:Tr)(V:ζ->Γ Str->Tr)(f:γ)(a:Γ γ)(s:Γ Keyword):Δ (Dl.Env->Δ (Γ D)):=(dN f).bind λz=>(l1 a).bind λl =>
 if z.1="sorted" then (if s.isEmpty=true then (if (Dy sc "sorted"&&!isStar l)=true then (n5 l).elim (if OP l=true then (T.e l).map λy b=>(y b).bind jn else (y9 T [l]).map λF=>m8 cL F) λE=>if (Dy sc "set"&&!isStar E)=true then (T.e E).map λy b=>(y b).bind cT else none else none)
 else (l1 s).bind λk=>(O3 k.value).bind λw=>if k.arg=↑"key" then A8 m sc N T V l w else none) else none
def JZ(l:Δ Str)(sc:ζ)(N:Γ Str)(T:Tr)(X V:ζ->Γ Str->Tr)(w:γ):Δ (Dl.Env->Δ (Γ D)):=match w with
 | .List E _=>(y9 T E).map gc
 | .ListComp e g s _=>Gu sc N T X e g s
 | .Call f a k _=>M9 l sc N T V f a k
 | _=>none
def tr(G:Sg):Nat->Δ Str->ζ->Γ Str->Tr
 | 0,_,_,_=>⟨λ_=>none,λ_=>none,λ_=>none⟩
 | n+1,l,s,N=>⟨JT G s N (tr G n l s N),JZ l s N (tr G n l s N) (tr G n none) (tr G n none),stepT (tr G n l s N)⟩
structure N4(G:Sg)(X:Cx)(j:Nat):Prop where
 fn:∀x n m,G.fn.lookup x=↑(n,m)->DK X.prog X.w X.K X.mg X.base j x n m
 int:∀x i,G.int.lookup x=↑i->∃t,X.mg x=↑(.int i t)
 bn:Bn X
structure tM(X:Cx)(tg iter:Expr)(ifs:List Expr)(elt:Expr)(scope:Scope)(f:Dl.Env->Option (List D)):Prop where
 ex:∃ (N':Γ Str) (t:Nat) (cs:Γ Nat) (fi:Dl.Env->Δ (Γ D)) (tgt:Dl.Env->D->Δ Dl.Env) (tt:Dl.Env->Δ θ) (te:FE),f=aj t cs fi tgt tt te/\iJ X scope N' (j7 t cs)/\DI X tg iter fi/\(∀x,foldedSetIterable iter X.env x=pure x) /\
  ∀fp s H,DG (aR X scope N' fp s H) tg tgt/\NC (aR X scope N' fp s H) ifs tt/\DE (aR X scope N' fp s H) elt te
structure c6(X:Cx)(T:Tr):Prop where
 c:∀elt gens scope p f,T.f (.ListComp elt gens scope p)=↑f->∃tg iter ifs,gens=[⟨tg,iter,ifs,0⟩]/\tM X tg iter ifs elt scope f
 e:∀e f,T.e e=↑f->DE X e f
 f:∀e f,T.f e=↑f->DF X e f
 t:∀e f,T.t e=↑f->DT X e f
section
variable {G:Sg}{X:Cx}{N:Γ Str}{sc:ζ}{k j:Nat}{T:Tr}{pos p:Pos}
def Dv(C:Bk X N sc k)(g:N4 G X j)(h:Az G sc N x=↑f):DE X (.Name x pos) f:=by
 unfold Az at h;split at h
 .split at h
  .cases h;exact C.v _ ‹_›
  .cases h
 .split at h
  .rename_i H;let⟨n,a,rfl⟩:=ag h;let⟨t,ht⟩:=g.int x n a;simp?[zF,yQ] at H;exact Jf (C.gl H.1) ht H.2
  .cases h
def Ay(h:BN c=↑f):DE X (.Constant c i pos) f:=by
 cases c<;>cases h<;>first|exact KM|exact Ny|exact Kx|exact Mf
def GZ(C:Bk X N sc k)(O:c6 X T)(h:NA T op a=↑f):DE X (.UnaryOp op a pos) f:=by
 cases op<;>try cases h
 .let⟨x,H,rfl⟩:=ag h;exact C.neg (O.e _ _ H)
def FK(C:Bk X N sc k)(O:c6 X T)(h:JG T a op b=↑f):DE X (.BinOp a op b pos) f:=by
 let⟨g,G,h⟩:=bs h;let⟨x,H,h⟩:=bs h;let⟨y,Y,rfl⟩:=ag h;cases op<;>cases G
 .exact C.add (O.e _ _ H) (O.e _ _ Y)
 .exact C.sub (O.e _ _ H) (O.e _ _ Y)
 .exact C.mul (O.e _ _ H) (O.e _ _ Y)
 .exact C.mod (O.e _ _ H) (O.e _ _ Y)
 .exact C.div (O.e _ _ H) (O.e _ _ Y)
def sE(O:c6 X T):∀ {es:Γ γ}{f:FE},uA T es=↑f->DE X (.BoolOp .And es pos) f
 | [],f,h=>by cases h
 | [a],f,h=>Kt (O.e _ _ h)
 | a::b::r,f,h=>by
  unfold uA at h;let⟨x,H,h⟩:=bs h;let⟨y,Y,rfl⟩:=ag h;exact LY (O.e _ _ H) (sE O Y)
def KH(C:Bk X N sc k)(G:Nu op=↑g)(m:behindInMarks op b=false)(H:DE X a x)(B:DE X b y):DE X (.Compare a [op] [b] pos) (f2 g x y)/\DT X (.Compare a [op] [b] pos) (fB (f2 g x y)):=by
 cases op<;>cases G
 .exact⟨C.eq H B,C.teq H B⟩
 .exact⟨C.ne H B,C.tne H B⟩
 .exact⟨C.lt H B,C.tlt H B⟩
 .exact⟨C.le H B,C.tle H B⟩
 .exact⟨C.gt H B,C.tgt H B⟩
 .exact⟨C.is0 H B,C.ac7 H B⟩
 .exact⟨C.ac6 H B,C.ZF H B⟩
 .exact⟨C.ZT H B m,C.adp H B m⟩
def Km(h:OG op=↑g):∃r,gY X (compareOp op) r/\eN X.K r g:=by
 cases op<;>cases h
 .exact⟨_,F9,kf⟩
 .exact⟨_,DR,kf⟩
def KS(C:Bk X N sc k)(h:DZ op b=true)(m:behindInMarks op b=false)(H:DE X a x)(B:DE X b y):DE X (.Compare a [op] [b] pos) (f2 xh x y)/\DT X (.Compare a [op] [b] pos) (fB (f2 xh x y)):=by
 obtain rfl:op=.NotIn:=by
  unfold DZ at h;rw[zF] at h;cases op<;>first|rfl|exact absurd h.1 (by decide)
 have u:X.A.units+1 < cLine:=by have:=C.room.un;lia
 exact⟨iZ (Gg u) Ci H B m,iE (Gg u) Ci H B m⟩
def xk(C:Bk X N sc k)(O:c6 X T){cs:Γ γ}(h:FB T a ops cs=↑f):DE X (.Compare a ops cs pos) f/\DT X (.Compare a ops cs pos) (fB f):=by
 rcases gh h with ⟨_,h⟩|⟨p,i,h⟩
 .let⟨o,i,h⟩:=bs h;let⟨b,B,h⟩:=bs h;obtain rfl:=sT i;obtain rfl:=sT B;let⟨m,h⟩:=aP h;let⟨g,H,h⟩:=bs h;let⟨G,D,h⟩:=bs h;let⟨x,c,h⟩:=bs h;let⟨y,Y,h⟩:=bs h;let⟨z,Z,rfl⟩:=ag h;let⟨r,j,l⟩:=Km (X:=X) H;let⟨n,R,d⟩:=Km (X:=X) D;exact⟨Gw j l R d (O.e _ _ c) (O.e _ _ Y) (O.e _ _ Z) m,Es j l R d (O.e _ _ c) (O.e _ _ Y) (O.e _ _ Z) m⟩
 .let⟨b,B,h⟩:=bs h;obtain rfl:=eD i;obtain rfl:=eD B;let⟨m,h⟩:=aP h;let⟨g,H,h⟩:=bs h;let⟨x,c,h⟩:=bs h;let⟨y,Y,rfl⟩:=ag h;rcases bX H with ⟨q,H⟩|⟨_,H⟩
  .cases H;exact KS C q m (O.e _ _ c) (O.e _ _ Y)
  .exact KH C H m (O.e _ _ c) (O.e _ _ Y)
def cS(O:c6 X T):∀ {es:Γ γ}{fs:Dl.Env->Δ (Γ D)},y9 T es=↑fs->DA X es fs
 | [],fs,h=>by cases h;exact qj
 | e::es,fs,h=>by
  let⟨s,h⟩:=aP h;let⟨x,a,h⟩:=bs h;let⟨r,H,rfl⟩:=ag h;exact Oz s (O.e _ _ a) (cS O H)
def GI(O:c6 X T)(h:Py T o=↑f):DO X o f:=by
 cases o with
 | none=>cases h;exact Iq
 | some e=>let⟨x,H,rfl⟩:=ag h;exact G8 (O.e _ _ H)
def AG(h:Gr b=false):uF b:=by
 cases b<;>first|(intro _ _;rfl)|cases h
def D8(C:Bk X N sc k)(O:c6 X T)(h:Ki T a b=↑f):DE X (.Subscript a b pos) f:=by
 rcases gh h with ⟨_,h⟩|⟨z,Z,h⟩
 .let⟨hc,h⟩:=aP h;let⟨x,H,h⟩:=bs h;let⟨y,Y,rfl⟩:=ag h;exact M3 (O.e _ _ H) (O.e _ _ Y) (AG hc)
 .rcases bX h with ⟨n,h⟩|⟨_,h⟩
  .let⟨x,H,h⟩:=bs h;let⟨l,L,h⟩:=bs h;let⟨u,U,rfl⟩:=ag h;rw[EX Z,Option.isNone_iff_eq_none.mp n];exact C.cut (O.e _ _ H) (GI O L) (GI O U)
  .let⟨s,S,h⟩:=bs h;let⟨hc,h⟩:=aP h;rw[zF] at hc;let⟨i,p,q,E⟩:=GW hc.1;rw[EX Z,S,E,Option.isNone_iff_eq_none.mp hc.2];rcases gh h with ⟨L,h⟩|⟨l,L,h⟩
   .let⟨x,H,rfl⟩:=ag h;rw[L];exact Kp (O.e _ _ H)
   .let⟨K,h⟩:=aP h;let⟨x,H,rfl⟩:=ag h;let⟨I,P,c⟩:=B5 K;rw[L,c];exact IX (O.e _ _ H)
def dH{env:PySem.Env}:∀ {es:Γ γ},(es.all λe=>!isStar e)=true->(backTo pos (starEach es env)).any (·.1)=false
 | [],_=>rfl
 | e::es,h=>by
  rw[xU,zF,yQ] at h;rw[bh h.1];show (false||(backTo pos (starEach es env)).any (·.1))=false;rw[dH h.2];rfl
def xm(h:n5 e=↑U):∃p q,e=.Call (.Name "set" p) [U] [] q:=by
 let⟨z,H,h⟩:=bs h;let⟨x,h⟩:=aP h;exact⟨_,_,by rw[qt H,x,eD h]⟩
def HM(h:M4 y=↑ty):y∈dq/\bootBuiltins y=↑(.type ty)/\y≠"__name__"/\(y == ("__debug__":Str))=false:=by
 rcases bX h with ⟨rfl,h⟩|⟨_,h⟩
 .cases h;exact⟨by decide +kernel,by decide +kernel,by decide,by decide⟩
 .rcases bX h with ⟨rfl,h⟩|⟨_,h⟩
  .cases h;exact⟨by decide +kernel,by decide +kernel,by decide,by decide⟩
  .rcases bX h with ⟨rfl,h⟩|⟨_,h⟩
   .cases h;exact⟨by decide +kernel,by decide +kernel,by decide,by decide⟩
   .let⟨rfl,h⟩:=aP h;cases h;exact⟨by decide +kernel,by decide +kernel,by decide,by decide⟩
def Lu:bootBuiltins "any"=↑(.builtin "any"):=by decide +kernel
def K9:bootBuiltins "sum"=↑(.builtin "sum"):=by decide +kernel
def Ho:bootBuiltins "dict"=↑(.type "dict"):=by decide +kernel
def KZ:bootBuiltins "min"=↑(.builtin "min"):=by decide +kernel
def xg(h:l.length=1):∃a,l=[a]:=by
 match l,h with
 | [a],_=>exact⟨a,rfl⟩
def Bk.u3(C:Bk X N sc k):X.A.in1.in1.in1.units < cLine:=by
 have:=C.u66;show X.A.units+1+1+1 < cLine;lia
def CG(C:Bk X N sc k)(g:N4 G X j)(V:j<=k)(O:c6 X T)(h:E2 G sc T (.Call (.Name x p) args [] pos) x args=↑f):DE X (.Call (.Name x p) args [] pos) f:=by
 let⟨c,h⟩:=aP h;rw[zF] at c;let⟨c,S⟩:=c;have R:∀ {e:γ}{s:Γ γ},args=e::s->starEach (e::s) X.env=(false,eval e X.env)::starEach s X.env:=λ{e s} q=>by
  subst q;rw[xU,zF,yQ] at S;exact bh S.1
 have E:∀ {e:γ}{s:Γ γ},args=e::s->(backTo pos (starEach s X.env)).any (·.1)=false:=λ{e s} q=>by
  subst q;rw[xU,zF] at S;exact dH S.2
 rcases gh h with ⟨_,h⟩|⟨z,o,h⟩
 .rcases bX h with ⟨b,h⟩|⟨_,h⟩
  .let⟨e,H,h⟩:=bs h;have H:=eD H;rcases gh h with ⟨_,h⟩|⟨I,n,h⟩
   .let⟨F,t,rfl⟩:=ag h;subst b H;exact LL (C.blt g.bn c (by decide +kernel) Gq) (cS O t) (R rfl)
   .let⟨v,h⟩:=aP h;rw[zF,yQ] at v;let⟨y,Y,rfl⟩:=ag h;let⟨P,J,rfl⟩:=xm n;subst b H;exact Ds C.calm (C.blt g.bn c (by decide +kernel) Gq) (C.blt g.bn v.1 (by decide +kernel) EI) (O.e _ _ Y) (bh v.2)
  rcases bX h with ⟨b,h⟩|⟨_,h⟩
  .let⟨a,A,h⟩:=bs h;let⟨y,Y,h⟩:=bs h;have m:=sT A;rw[jd Y] at m;let⟨d,h⟩:=aP h;let⟨K,i,h⟩:=bs h;let⟨z,Z,rfl⟩:=ag h;let⟨r,u,w,B⟩:=HM i;subst b m;exact MS (C.blt g.bn c (by decide +kernel) rR) (C.blt g.bn d r u) (O.e _ _ Z) w B (R rfl)
  rcases bX h with ⟨b,h⟩|⟨_,h⟩
  .let⟨l,h⟩:=aP h;let⟨F,t,rfl⟩:=ag h;let⟨e,H⟩:=xg l;subst b H;exact EM (C.blt g.bn c (by decide +kernel) GK) (cS O t) (R rfl)
  rcases bX h with ⟨b,h⟩|⟨_,h⟩
  .let⟨l,h⟩:=aP h;let⟨F,t,rfl⟩:=ag h;let⟨e,H⟩:=xg l;subst b H;exact LQ C.calm (C.blt g.bn c (by decide +kernel) LW) (cS O t) (R rfl)
  rcases bX h with ⟨b,h⟩|⟨_,h⟩
  .let⟨l,h⟩:=aP h;let⟨F,t,rfl⟩:=ag h;let⟨e,H⟩:=xg l;subst b H;exact Mq C.calm (C.blt g.bn c (by decide +kernel) Lu) (R rfl) (cS O t)
  rcases bX h with ⟨b,h⟩|⟨_,h⟩
  .let⟨e,H,h⟩:=bs h;let⟨y,Y,rfl⟩:=ag h;have H:=eD H;subst b H;exact Hh C.calm (Bk.u3 C) (C.blt g.bn c (by decide +kernel) Ho) (O.e _ _ Y) (R rfl)
  rcases bX h with ⟨b,h⟩|⟨_,h⟩
  .let⟨l,h⟩:=aP h;let⟨F,t,rfl⟩:=ag h;let⟨e,H⟩:=xg l;subst b H;exact Lv C.calm (C.blt g.bn c (by decide +kernel) K9) (R rfl) (cS O t)
  rcases bX h with ⟨b,h⟩|⟨_,h⟩
  .rcases bX h with ⟨_,h⟩|⟨l,h⟩
   .cases h
   let⟨F,t,rfl⟩:=ag h;subst b;cases args with
   | nil=>exact absurd rfl l
   | cons e s=>exact LK C.calm (C.blt g.bn c (by decide +kernel) KZ) (R rfl) (E rfl) (cS O t)
  let⟨_,h⟩:=aP h;let⟨y,Y,rfl⟩:=ag h;exact DF.de (O.f _ _ Y)
 .rcases bX h with ⟨_,h⟩|⟨Q,h⟩
  .cases h
  let⟨F,t,rfl⟩:=ag h;have D:(x == ("__debug__":Str))=false:=by simpa using Q
  cases args with
  | nil =>
   cases t;exact Gz (g.fn x z.1 z.2 o) (C.room.mono V) (C.gl c) D
  | cons e s =>
   exact Jd (g.fn x z.1 z.2 o) (C.room.mono V) (C.gl c) (cS O t) D (R rfl) (E rfl)
end
section
variable {G:Sg}{X:Cx}{N:Γ Str}{sc:ζ}{k j:Nat}{T:Tr}{pos p:Pos}
def Pq(h:isStar e=false):((backTo U (starEach [e] env)).all (λx=>!x.1)&&(backToKw U (keywordEach [] env)).all (λx=>x.1.isSome)&&decide ([e].length+([]:Γ Keyword).length+(if ([]:Γ Keyword).isEmpty then 0 else 1) < 30))=true:=by
 rw[bh h];rfl
def nj(h:Ce o=false):attributeBase o a env w=w:=by
 cases o<;>first|rfl|cases h
def DC(C:Bk X N sc k)(O:c6 X T)(h:Fy T o m apos args U=↑f):DE X (.Call (.Attribute o m apos) args [] U) f:=by
 let⟨H,h⟩:=aP h;rw[zF,zF,yQ] at H;let⟨⟨a,H⟩,S⟩:=H;let⟨e,E,h⟩:=bs h;let⟨s,h⟩:=aP h;let⟨x,b,h⟩:=bs h;let⟨y,Y,rfl⟩:=ag h;rw[eD E,eq_of_beq a];exact Cy (nj S) (Pq s) H (bh s) (O.e _ _ b) (O.e _ _ Y)
def HA(C:Bk X N sc k)(g:N4 G X j)(V:j<=k)(O:c6 X T){a:γ}{s:Γ γ}{K:Γ Keyword}(h:Oc G sc T (.Call a s K p) a s K p=↑f):DE X (.Call a s K p) f:=by
 rcases gh h with ⟨_,h⟩|⟨z,Z,h⟩
 .let⟨H,h⟩:=aP h;obtain rfl:=List.isEmpty_iff.mp H;let⟨y,Y,h⟩:=bs h;obtain rfl:=J5 Y;exact DC C O h
 .obtain rfl:=jd Z;rcases bX h with ⟨H,h⟩|⟨_,h⟩
  .obtain rfl:=List.isEmpty_iff.mp H;exact CG C g V O h
  .let⟨x,b,rfl⟩:=ag h;exact DF.de (O.f _ _ b)
def EU(C:Bk X N sc k)(g:N4 G X j)(V:j<=k)(O:c6 X T)(h:JT G sc N T e=↑f):DE X e f:=by
 cases e with
 | Name x p=>exact Dv C g h
 | Constant c a b=>exact Ay h
 | UnaryOp o a p=>exact GZ C O h
 | BinOp a o b p=>exact FK C O h
 | BoolOp o E p =>
  cases o with
  | And=>exact sE O h
  | Or=>cases h
 | Compare a S d p=>exact (xk C O h).1
 | IfExp c a b p =>
  let⟨z,Z,h⟩:=bs h;let⟨x,H,h⟩:=bs h;let⟨y,Y,rfl⟩:=ag h;exact Ob (O.t _ _ Z) (O.e _ _ H) (O.e _ _ Y)
 | Tuple E a p=>let⟨x,H,rfl⟩:=ag h;exact K0 (cS O H)
 | Subscript a b p=>exact D8 C O h
 | List E p=>let⟨x,H,rfl⟩:=ag h;exact DF.de (O.f _ _ H)
 | ListComp a b c p=>let⟨x,H,rfl⟩:=ag h;exact DF.de (O.f _ _ H)
 | Call a s K p=>exact HA C g V O h
 | _=>cases h
def Ge(O:c6 X T):∀ {es:Γ γ}{f:Dl.Env->Δ θ},Og T op es=↑f->DW X (.BoolOp op es pos) f
 | [],f,h=>by cases h
 | [a],f,h=>by
  cases op with
  | And=>exact G0 (O.t _ _ h)
  | Or=>exact KG (O.t _ _ h)
 | a::b::r,f,h=>by
  unfold Og at h;let⟨x,H,h⟩:=bs h;let⟨y,Y,rfl⟩:=ag h;have i:=Ge O Y;cases op with
  | And=>exact Li (O.t _ _ H) i
  | Or=>exact Nb (O.t _ _ H) i
def FZ(C:Bk X N sc k)(O:c6 X T)(h:stepT T e=↑f):DT X e f:=by
 cases e with
 | Compare a s c p=>let⟨x,H,rfl⟩:=ag h;exact (xk C O H).2
 | UnaryOp o a p =>
  cases o with
  | Not=>let⟨x,H,rfl⟩:=ag h;exact KN (O.t _ _ H)
  | _=>cases h
 | BoolOp o E p=>exact DW.dt (Ge O h)
 | Name x p=>let⟨x,H,rfl⟩:=ag h;exact A2 (O.e _ _ H) λ_=>rfl
 | Call a b d p=>let⟨x,H,rfl⟩:=ag h;exact A2 (O.e _ _ H) λ_=>rfl
 | Subscript a b p=>let⟨x,H,rfl⟩:=ag h;exact A2 (O.e _ _ H) λ_=>rfl
 | _=>cases h
def Cq{e:γ}(h:AF e=true):∃a b d,e=.Tuple a b d:=Expr.Tuple.elim (motive_1:=λe=>∃a b d,e=.Tuple a b d) e (eq_of_beq h) λa b d=>⟨a,b,d,rfl⟩
def Mv(h:¬ e.ctorIdx=7):∀x,foldedSetIterable e env x=pure x:=by
 cases e<;>first|(intro _;rfl)|exact absurd rfl h
def Fh(C:Bk X N sc k)(B:Bn X)(O:c6 X T)(h:OW sc T tg iter=↑fi):DI X tg iter fi/\∀x,foldedSetIterable iter X.env x=pure x:=by
 rcases bX h with ⟨_,h⟩|⟨n,h⟩
 .cases h
 refine⟨?_,Mv n⟩;rcases gh h with ⟨_,h⟩|⟨z,Z,h⟩
 .let⟨x,H,rfl⟩:=ag h;exact Gy (O.e _ _ H)
 rcases bX h with ⟨H,h⟩|⟨_,h⟩
 .let⟨e,E,h⟩:=bs h;let⟨g,h⟩:=aP h;rw[qt Z,H,eD E];rw[zF,yQ] at g;let⟨x,H,rfl⟩:=ag h;exact E3 (C.blt B g.1 (by decide +kernel) yk) (cS O H) (bh g.2)
 rcases bX h with ⟨H,h⟩|⟨_,h⟩
 .let⟨e,E,h⟩:=bs h;let⟨g,h⟩:=aP h;rw[qt Z,H,eD E];simp?[zF,yQ] at g;let⟨x,H,rfl⟩:=ag h;let⟨a,b,d,rfl⟩:=Cq g.2;exact IQ (C.blt B g.1.1 (by decide +kernel) u9) (cS O H) (bh g.1.2)
 rcases bX h with ⟨H,h⟩|⟨_,h⟩
 .let⟨e,E,h⟩:=bs h;let⟨g,h⟩:=aP h;rw[qt Z,H,sT E];simp?[zF,yQ] at g;let⟨x,H,rfl⟩:=ag h;let⟨a,b,d,rfl⟩:=Cq g.2;exact Jt (C.blt B g.1.1.1 (by decide +kernel) KU) (bh g.1.1.2) (dH (by simp[g.1.2])) (cS O H)
 let⟨x,H,rfl⟩:=ag h;exact Gy (O.e _ _ H)
def FW{l:Γ α}(h:l.length=2):∃a b,l=[a,b]:=by
 match l,h with
 | [a,b],_=>exact⟨a,b,rfl⟩
def DH{l:Γ α}(h:l.length=3):∃a b c,l=[a,b,c]:=by
 match l,h with
 | [a,b,c],_=>exact⟨a,b,c,rfl⟩
def BG:∀ {es:Γ γ}{xs:Γ Str},LJ es=↑xs->∃ps:Γ Pos,ps.length=xs.length/\es=List.zipWith Expr.Name xs ps
 | [],xs,h=>by cases h;exact⟨[],rfl,rfl⟩
 | e::es,xs,h=>by
  let⟨z,Z,h⟩:=bs h;let⟨r,R,rfl⟩:=ag h;let⟨ps,H,a⟩:=BG R;exact⟨z.2::ps,by rw[zL,zL,H],by rw[jd Z,a];rfl⟩
def LR(h:PR tg=↑xs):(∃x P,tg=.Name x P/\xs=[x])\/(∃x P y Y m t,tg=.Tuple [.Name x P,.Name y Y] m t/\xs=[x,y])\/∃x P y Y z b m t,tg=.Tuple [.Name x P,.Name y Y,.Name z b] m t/\xs=[x,y,z]:=by
 rcases gh h with ⟨_,h⟩|⟨z,Z,h⟩
 .let⟨z,Z,h⟩:=bs h;let⟨l,h⟩:=aP h;let⟨s,H,a⟩:=BG h;rw[Kk Z];rw[a] at l ⊢;rw[List.length_zipWith,H,Nat.min_self] at l;refine .inr (l.imp (λq=>?_) λq=>?_)
  .let⟨x,y,rfl⟩:=FW q;let⟨p,q,rfl⟩:=FW H;exact⟨x,p,y,q,_,_,rfl,rfl⟩
  .let⟨x,y,z,rfl⟩:=DH q;let⟨p,q,r,rfl⟩:=DH H;exact⟨x,p,y,q,z,r,_,_,rfl,rfl⟩
 .cases h;exact .inl ⟨_,_,jd Z,rfl⟩
def tm(C:Bk X N sc k)(B:Bn X)(O:c6 X T)(j:∀scope n fp s H,Bk (aR X scope n fp s H) n scope k->c6 (aR X scope n fp s H) (U scope n))
  (h:Gu sc N T U elt gens scope=↑f):∃tg iter ifs,gens=[⟨tg,iter,ifs,0⟩]/\tM X tg iter ifs elt scope f:=by
 let⟨⟨tg,iter,ifs,A⟩,G,h⟩:=bs h;let⟨rfl,h⟩:=aP h;refine⟨tg,iter,ifs,eD G,?_⟩;let⟨r,d,h⟩:=bs h;let⟨Q,h⟩:=aP h;rw[zF] at Q;let⟨F,R,h⟩:=bs h;let⟨v,b,h⟩:=bs h;let⟨E,W,rfl⟩:=ag h;let⟨S,g⟩:=C.comp Q.1;let⟨q,D⟩:=Fh C B O R;refine⟨_,_,_,_,_,_,_,rfl,S,q,D,λfp s H=>?_⟩;have a:=g fp s H;have o:=j scope _ fp s H a;refine⟨?_,?_,o.e _ _ W⟩
 .have l:∀i,i < r.length->_:=λi I=>a.loc (List.all_eq_true.mp Q.2 i (List.mem_range.mpr I));rcases LR d with ⟨x,p,rfl,rfl⟩|⟨x,p,y,Y,m,P,rfl,rfl⟩|⟨x,p,y,Y,z,Z,m,P,rfl,rfl⟩
  .have z:=l 0 (by simp);exact IL 0 z.1 z.2.1 z.2.2.1 z.2.2.2
  .have z:=l 0 (by simp);have w:=l 1 (by simp);exact Mb 0 1 a.calm z.1 z.2.1 z.2.2.1 w.2.1 w.2.2.1 z.2.2.2 w.2.2.2
  .have z:=l 0 (by simp);have w:=l 1 (by simp);have u:=l 2 (by simp);exact FX 0 1 2 a.calm z.1 z.2.1 z.2.2.1 w.2.1 w.2.2.1 u.2.1 u.2.2.1 z.2.2.2 w.2.2.2 u.2.2.2
 .rcases bX b with ⟨I,h⟩|⟨_,h⟩
  .cases h;have I:ifs=[]:=List.isEmpty_iff.mp I;rw[I];exact IP
  .let⟨c,hc,h⟩:=bs h;have hc:ifs=[c]:=eD hc;rw[hc];exact Jb (o.t _ _ h)
def tM.df(hc:X.calm=true)(h:tM X tg iter ifs elt scope f):DF X (.ListComp elt [⟨tg,iter,ifs,0⟩] scope pos) f:=by
 let⟨N,t,c,i,T,a,e,rfl,S,H,d,Y⟩:=h.ex;exact Jk hc S H Y d
def Fq(h:J3 a=↑x):∃P,a=⟨[],[⟨x,none,P⟩],none,[],[],none,[]⟩/\(x="number"\/x="plan"):=by
 let⟨⟨y,n,p⟩,H,h⟩:=bs h;let⟨hc,h⟩:=aP h;cases h;let⟨b,A,c,d,e,f,g⟩:=a;simp?[zF,jC,vM,List.isEmpty_iff,Option.isNone_iff_eq_none] at hc;obtain⟨⟨⟨⟨⟨⟨⟨rfl,rfl⟩,rfl⟩,rfl⟩,rfl⟩,rfl⟩,rfl⟩,Y⟩:=hc;have H:A=_:=eD H;exact⟨p,by rw[H],Y⟩
def bind1{x q:Str}{P:Pos}{body:γ}{scope:ζ}{l:Γ (Str×Ψ)}{p S u:Θ}{c:Ψ}(h:x="number"\/x="plan") :
  bindArgs (W.kla_fn "<lambda>" q ⟨[],[⟨x,none,P⟩],none,[],[],none,[]⟩ body scope l p (.ref c) S) ⟨[u],[]⟩=pure [(x,u)]:=by
 rcases h with rfl|rfl<;>rfl
def AR{m:Δ Str}(C:Bk X N sc k)(B:Bn X)(d:∀q,m=↑q->p6 X q/\j+3<=k)(O:c6 X T){V:ζ->Γ Str->Tr}
  (o:∀scope n qual A f c s H,Bk (gG X A qual scope n f c s H) n scope (k - 3)->j<=k - 3->c6 (gG X A qual scope n f c s H) (V scope n)) {l:γ}{I v:Pos}{f:Dl.Env->Δ (Γ D)}
  (h:A8 m sc N T V l w=↑f):DF X (.Call (.Name "sorted" I) [l] [⟨↑"key",.Lambda w.1 w.2.1 w.2.2.1 w.2.2.2,v⟩] pos) f:=by
 let⟨g,h⟩:=aP h;simp?[zF,yQ] at g;let⟨⟨u,g⟩,S⟩:=g;let⟨q,F⟩:=Option.isSome_iff_exists.mp u;let⟨L,R⟩:=d q F;let⟨x,G,h⟩:=bs h;let⟨U,P,a⟩:=Fq G;rw[P];let⟨Q,h⟩:=aP h;rw[zF] at Q;let⟨Y,W,h⟩:=bs h;obtain⟨K,rfl⟩:∃K,k=K+3:=⟨k - 3,by lia⟩
 rcases gh h with ⟨_,h⟩|⟨e,E,h⟩;rotate_left
 .let⟨r,h⟩:=aP h;rw[zF,yQ] at r;let⟨M,t,rfl⟩:=ag h;let⟨z,Z,E⟩:=bs E;let⟨y,E⟩:=aP E;rw[qt Z,y,eD E];exact Bk.UM (p:=x) C (C.blt B g (by decide +kernel) ik) (C.blt B r.1 (by decide +kernel) yk) L Q.1 Q.2 (λ_ _ _ _ _=>bind1 a) rfl (cS O t) (λA f c s H b=>(o w.2.2.1 _ q A f c s H b (by lia)).e _ _ W) (bh r.2) (bh rfl) (by rw[bh rfl];rfl) (dH (by rfl))
 let⟨J,i,rfl⟩:=ag h;exact Bk.ZO (p:=x) C (C.blt B g (by decide +kernel) ik) L Q.1 Q.2 (λ_ _ _ _ _=>bind1 a) rfl (O.e _ _ i) (λA f c s H b=>(o w.2.2.1 _ q A f c s H b (by lia)).e _ _ W) (bh S) (by rw[bh S];rfl) (dH (by simp[S]))
def Hi{m:Δ Str}(C:Bk X N sc k)(B:Bn X)(t:∀q,m=↑q->p6 X q/\j+3<=k)(O:c6 X T){V:ζ->Γ Str->Tr}
  (L:∀scope n qual A f c s H,Bk (gG X A qual scope n f c s H) n scope (k - 3)->j<=k - 3->c6 (gG X A qual scope n f c s H) (V scope n)) {a:γ}{S:Γ γ}{d:Γ Keyword}(h:M9 m sc N T V a S d=↑f):DF X (.Call a S d p) f:=by
 let⟨z,Z,h⟩:=bs h;let⟨l,o,h⟩:=bs h;let⟨b,h⟩:=aP h;rw[jd Z,eD o,b];rcases bX h with ⟨K,h⟩|⟨_,h⟩
 .rw[List.isEmpty_iff.mp K];let⟨g,h⟩:=aP h;rw[zF,yQ] at g;rcases gh h with ⟨_,h⟩|⟨E,i,h⟩
  .rcases bX h with ⟨_,h⟩|⟨_,h⟩
   .let⟨x,b,rfl⟩:=ag h;exact EL (C.blt B g.1 (by decide +kernel) ik) (O.e _ _ b) (bh g.2)
   .let⟨x,b,rfl⟩:=ag h;exact Dz (C.blt B g.1 (by decide +kernel) ik) (cS O b) (bh g.2)
  .let⟨Y,h⟩:=aP h;rw[zF,yQ] at Y;let⟨x,b,rfl⟩:=ag h;let⟨u,D,rfl⟩:=xm i;exact w4 C.calm (Bk.u3 C) (C.blt B g.1 (by decide +kernel) ik) (C.blt B Y.1 (by decide +kernel) EI) (O.e _ _ b) (bh Y.2)
 .let⟨⟨r,v,P⟩,K,h⟩:=bs h;let⟨w,hw,h⟩:=bs h;let⟨y,h⟩:=aP h;have y:r=↑"key":=y;have hw:=L6 (e:=v) hw;rw[eD K,y,hw];exact AR C B t O L h
def E6(C:Bk X N sc k)(B:Bn X)(b:∀q,lam=↑q->p6 X q/\j+3<=k)(O:c6 X T)
  (o:∀scope n fp s H,Bk (aR X scope n fp s H) n scope k->c6 (aR X scope n fp s H) (Xt scope n))
  (L:∀scope n qual A f c s H,Bk (gG X A qual scope n f c s H) n scope (k - 3)->j<=k - 3->c6 (gG X A qual scope n f c s H) (U scope n)) {e:γ}{f:Dl.Env->Δ (Γ D)}(h:JZ lam sc N T Xt U e=↑f):DF X e f:=by
 cases e with
 | List E p=>let⟨x,d,rfl⟩:=ag h;exact K2 (cS O d)
 | ListComp t g scope P =>
  let⟨G,i,I,rfl,q⟩:=tm C B O o h;exact q.df C.calm
 | Call a S K p=>exact Hi C B b O L h
 | _=>cases h
def JP(n:Nat):∀ {l:Δ Str}{X:Cx}{N:Γ Str}{sc:ζ}{k:Nat},Bk X N sc k->N4 G X j->j<=k->(∀q,l=↑q->p6 X q/\j+3<=k)->c6 X (tr G n l sc N):=by
 induction n with
 | zero=>intro l X N sc k C g V T;exact⟨λ_ _ _ _ _ h=>(by cases h),λ_ _ h=>(by cases h),λ_ _ h=>(by cases h),λ_ _ h=>(by cases h)⟩
 | succ n i =>
  intro l X N sc k C g V T;have O:=i C g V T;exact⟨λt d S p f h=>tm C g.bn O (λS b F s H a=>i a ⟨g.fn,g.int,g.bn⟩ V λq z=>by cases z) h,λe f h=>EU C g V O h,
   λe f h=>E6 C g.bn T O (λS b F s H a=>i a ⟨g.fn,g.int,g.bn⟩ V λq z=>by cases z) (λS b Q A f c s H a K=>i a ⟨g.fn,g.int,g.bn⟩ K λq z=>by cases z) h,
   λe f h=>FZ C O h⟩
end
def pH:Nat->γ->Γ Str
 | 0,_=>[]
 | n+1,e=>match e with
  | .Name x _=>[x]
  | .UnaryOp _ a _=>pH n a
  | .BinOp a _ b _=>pH n a++pH n b
  | .BoolOp _ E _=>E.flatMap (pH n)
  | .Compare a _ C _=>pH n a++C.flatMap (pH n)
  | .IfExp c a b _=>pH n c++(pH n a++pH n b)
  | .Tuple E _ _=>E.flatMap (pH n)
  | .List E _=>E.flatMap (pH n)
  | .Subscript a b _=>pH n a++pH n b
  | .Slice l i S _=>(l.toList++(i.toList++S.toList)).flatMap (pH n)
  | .Call f s K _=>pH n f++(s.flatMap (pH n)++K.flatMap λk=>pH n k.value)
  | .Attribute o _ _=>pH n o
  | .ListComp t G _ _=>pH n t++G.flatMap λg=>pH n g.iter++g.ifs.flatMap (pH n)
  | .Lambda _ b _ _=>pH n b
  | _=>[]
def z9(N:Γ Str)(e:γ):Γ Nat:=let n:=pH 60 e;(List.range N.length).filter λj=>match N[j]? with|some x=>n.contains x|none=>false
abbrev GS:=au->Δ Out
def turns:Nat:=1000000
def uK(e:γ):θ:=e.ctorIdx == 8||e.ctorIdx == 9||e.ctorIdx == 10
def Md{e:γ}(h:KB e=none)(hc:(e.ctorIdx == 9||e.ctorIdx == 10)=false):uK e=false:=by
 unfold uK;cases q:e.ctorIdx == 8 with
 | false=>rwa [Bool.or_assoc,Bool.false_or]
 | true=>exact absurd (Expr.ListComp.elim (motive_1:=λe=>KB e=none->False) e (eq_of_beq q) (λa b d f h=>by cases h) h) id
def J6(sc:ζ)(N:Γ Str)(T:Tr)(x:Str)(p:Pos)(e:γ):Δ GS :=
 (N.idxOf? x).bind λi=>if (zf N sc i x&&!(e.ctorIdx == 9||e.ctorIdx == 10))=true then
  (if Nr e=true then (if (KB e).all (λz=>(decide (sc.names.lookup x=↑.local)&&(p.line == z.2.2.2.line&&!(z.2.2.1.names.any λ(n,k)=>n == x&&(k == .local || k == .cell))))||decide (sc.names.lookup x=↑.cell)||!(p.line == z.2.2.2.line))=true then (T.f e).map λf=>aN i (z9 N e) f else none)
  else if uK e=false then (T.e e).map λf=>aD i (z9 N e) f else none) else none
def PL(e:γ):Δ (((γ×Str×Pos)×Str×Pos)×Γ γ×Pos):=(dC e).bind λy=>if y.2.2.1.isEmpty=true then (PX y.1).map λz=>(z,y.2.1,y.2.2.2) else none
def LV{e:γ}(h:PL e=↑z):e=.Call (.Attribute (.Name z.1.2.1 z.1.2.2) z.1.1.2.1 z.1.1.2.2) z.2.1 [] z.2.2:=by
 let⟨y,H,h⟩:=bs h;let⟨b,h⟩:=aP h;let⟨w,a,rfl⟩:=ag h;rw[DM H,L3 a,List.isEmpty_iff.mp b]
def Ll:Const->θ
 | .str _=>true
 | _=>false
def Pb(N:Γ Str)(sc:ζ)(T:Tr)(z:((γ×Str×Pos)×Str×Pos)×Γ γ×Pos):Δ GS :=
 (N.idxOf? z.1.2.1).bind λi=>if (Cv N sc i z.1.2.1&&z.1.1.2.2.endLine == z.2.2.line&&z.2.1.all λe=>!isStar e)=true then
   (if z.1.1.2.1="append" then (l1 z.2.1).bind λa=>(T.e a).map λf=>lN i (z9 N a) f
   else if z.1.1.2.1="extend" then (l1 z.2.1).bind λa=>(T.f a).map λf=>tV i (z9 N a) f
   else if z.1.1.2.1="insert" then (l2 z.2.1).bind λa=>(T.e a.1).bind λk=>(T.e a.2).map λf=>D5 i (z9 N a.2) k f
   else none) else none
def J0(N:Γ Str)(sc:ζ)(T:Tr)(e:γ):Δ GS:=(PL e).elim ((dK e).elim ((dC e).bind λy=>(dN y.1).bind λ_=>(T.e e).map lM) λz=>if Ll z.1=true then ↑e9 else none) λz=>Pb N sc T z
def PY(sc:ζ)(N:Γ Str)(tg:γ):Δ (au->D->Δ au):=(dN tg).elim
 ((dT tg).bind λz=>(l2 z.1).bind λy=>(dN y.1).bind λa=>(dN y.2).bind λb=>(N.idxOf? a.1).bind λi=>(N.idxOf? b.1).bind λj=>if (zf N sc i a.1&&zf N sc j b.1)=true then ↑(iN i j) else none) λz =>
 (N.idxOf? z.1).bind λi=>if zf N sc i z.1=true then ↑(mr i) else none
def JU(sc:ζ)(N:Γ Str)(T:Tr)(x:Str)(k e:γ):Δ GS :=
 (N.idxOf? x).bind λi=>if (Cv N sc i x&&!Gr k)=true then (T.e k).bind λF=>(T.e e).map λf=>AE i (z9 N e) F f else none
def qp(f:Ω->Δ GS):Γ Ω->Δ GS
 | []=>↑e9
 | [s]=>f s
 | s::r=>(f s).bind λg=>(qp f r).map λh=>av g h
def NQ(T:Tr)(f:Ω->Δ GS)(c:γ)(a b:Γ Ω):Δ GS:=(qp f a).bind λg=>(qp f b).bind λh=>(T.t c).map λt=>fF t g h
def Kl(sc:ζ)(N:Γ Str)(T:Tr)(e t:γ):Δ GS:=(dN t).elim ((OR t).bind λy=>(dN y.1).bind λz=>JU sc N T z.1 y.2.1 e) λz=>J6 sc N T z.1 z.2 e
def JQ(sc:ζ)(N:Γ Str)(T:Tr):Nat->Ω->Δ GS
 | 0,_=>none
 | n+1,S=>match S with
  | .Return (↑e) _=>(T.e e).map aK
  | .If c a b _=>NQ T (JQ sc N T n) c a b
  | .Assign d e _=>(l1 d).bind λt=>Kl sc N T e t
  | .For G i body s _=>if s.isEmpty=true then (OW sc T G i).bind λf=>(PY sc N G).bind λt=>(qp (JQ sc N T n) body).map λg=>dc (z9 N i) f t g else none
  | .While c body s _=>if s.isEmpty=true then (T.t c).bind λt=>(qp (JQ sc N T n) body).map λg=>Iz t g turns else none
  | .Expr e _=>J0 N sc T e
  | .Raise ..=>↑MD
  | .Pass _=>↑e9
  | _=>none
section
variable {X:Cx}{N:Γ Str}{sc:ζ}{k:Nat}{T:Tr}{QD:Hp}{QF:Hp}{pos:Pos}
def iz(H:∀s g,f s=↑g->DS X QD QF s g):∀ {l:Γ Ω}{g:GS},qp f l=↑g->DJ X QD QF l g
 | [],g,h=>by cases h;exact Hy
 | [s],g,h=>HY (H _ _ h)
 | s::t::r,g,h=>by
  unfold qp at h;let⟨x,a,h⟩:=bs h;let⟨y,Y,rfl⟩:=ag h;exact F5 (H _ _ a) (iz H Y)
def tq(h:uK e=false):swapsWith e t line env=pure false:=by
 cases e<;>first|rfl|cases h
def Fj(C:Bk X N sc k)(O:c6 X T)(h:J6 sc N T x U e=↑g):DS X QD QF (.Assign [.Name x U] e pos) g:=by
 let⟨i,o,h⟩:=bs h;let⟨l,h⟩:=aP h;rw[zF,yQ] at l;let⟨Z,a,b,d⟩:=C.loc l.1;rcases bX h with ⟨_,h⟩|⟨_,h⟩
 .let⟨hc,h⟩:=aP h;let⟨f,H,rfl⟩:=ag h;cases q:KB e with
  | none=>exact u6 i _ Z a b (O.f _ _ H) (tq (Md q l.2)) d
  | some z =>
   have Q:=Le q;rw[q] at hc;simp?[Option.all_some,jC] at hc;rw[Q] at H ⊢;rcases hc with (hc|hc)|hc
   .rw[zF] at hc;let⟨G,r,I,E,q⟩:=O.c _ _ _ _ _ H;let⟨n,t,m,F,j,u,p,rfl,S,D,s,Y⟩:=q.ex;rw[E];exact G6 i _ C.calm S D Y Z a (C.ZE hc.1) (C.swap hc.1 hc.2) s
   .exact u6 i _ Z a b (O.f _ _ H) (C.X9 hc) d
   .refine u6 i _ Z a b (O.f _ _ H) ?_ d;rw[yQ] at hc;rw[rF,hc];simp
 .let⟨hc,h⟩:=aP h;let⟨f,H,rfl⟩:=ag h;exact KO i _ Z a b (O.e _ _ H) (tq hc) d
def Ar(h:(es.all λe=>!isStar e)=true)(hl:es.length < 20):((backTo U (starEach es env)).all (λx=>!x.1)&&(backToKw U (keywordEach [] env)).all (λx=>x.1.isSome)&&decide (es.length+([]:Γ Keyword).length+(if ([]:Γ Keyword).isEmpty then 0 else 1) < 30))=true:=by
 have H:(backTo U (starEach es env)).all (λx=>!x.1)=true:=by
  have:=dH (pos:=U) (env:=env) h;rw[List.all_eq_not_any_not];simpa using this
 rw[H];simp[backToKw,keywordEach];lia
def Gm(C:Bk X N sc k)(O:c6 X T)(h:J0 N sc T e=↑g):DS X QD QF (.Expr e pos) g:=by
 rcases gh h with ⟨_,h⟩|⟨z,Z,h⟩
 .rcases gh h with ⟨_,h⟩|⟨z,Z,h⟩
  .let⟨y,Y,h⟩:=bs h;let⟨w,hw,h⟩:=bs h;let⟨f,H,rfl⟩:=ag h;exact Hb (by rw[DM Y];rfl) (O.e _ _ H)
  .let⟨s,h⟩:=aP h;cases h;rw[JH Z];let⟨c,_⟩:=z;cases c with
   | str x=>exact KE
   | _=>cases s
 let⟨i,I,h⟩:=bs h;let⟨v,h⟩:=aP h;simp?[zF] at v;let⟨⟨v,Q⟩,s⟩:=v;let⟨b,d,j,l⟩:=C.vis v;rw[LV Z];rcases bX h with ⟨m,h⟩|⟨_,h⟩
 .let⟨a,A,h⟩:=bs h;let⟨f,H,rfl⟩:=ag h;rw[eD A] at s ⊢;rw[m];exact De i _ b d (O.e _ _ H) j l (Ar s (by simp)) Q (bh (by simpa using s))
 rcases bX h with ⟨m,h⟩|⟨_,h⟩
 .let⟨a,A,h⟩:=bs h;let⟨f,H,rfl⟩:=ag h;rw[eD A] at s ⊢;rw[m];exact C3 i _ b d (O.f _ _ H) j l (Ar s (by simp)) Q (bh (by simpa using s))
 let⟨m,h⟩:=aP h;let⟨a,A,h⟩:=bs h;let⟨F,K,h⟩:=bs h;let⟨f,H,rfl⟩:=ag h;rw[sT A] at s ⊢;rw[m];have S:=s;simp?[xU,List.all_nil,Bool.and_true,zF,yQ] at S;exact Dk i _ b d (O.e _ _ K) (O.e _ _ H) j l (Ar s (by simp)) Q (bh S.1) (bh S.2)
def LM(C:Bk X N sc k)(h:PY sc N tg=↑t):Oq X QD QF tg t:=by
 rcases gh h with ⟨_,h⟩|⟨z,H,h⟩
 .let⟨z,H,h⟩:=bs h;let⟨y,Y,h⟩:=bs h;let⟨a,A,h⟩:=bs h;let⟨b,B,h⟩:=bs h;let⟨i,I,h⟩:=bs h;let⟨j,J,h⟩:=bs h;let⟨l,h⟩:=aP h;cases h;rw[zF] at l;have u:=C.loc l.1;have w:=C.loc l.2;rw[Kk H,sT Y,jd A,jd B];exact IY i j C.calm u.1 u.2.1 u.2.2.1 w.2.1 w.2.2.1 u.2.2.2 w.2.2.2
 .let⟨i,I,h⟩:=bs h;let⟨l,h⟩:=aP h;cases h;have u:=C.loc l;rw[jd H];exact D6 i u.1 u.2.1 u.2.2.1 u.2.2.2
def DU(C:Bk X N sc k)(O:c6 X T)(h:JU sc N T x U e=↑g):DS X QD QF (.Assign [.Subscript (.Name x px) U RX] e pos) g:=by
 let⟨i,I,h⟩:=bs h;let⟨H,h⟩:=aP h;simp?[zF,yQ] at H;let⟨H,hc⟩:=H;let⟨z,Z,a,b⟩:=C.vis H;let⟨c,K,h⟩:=bs h;let⟨f,F,rfl⟩:=ag h;refine GJ i _ z Z (O.e _ _ K) (O.e _ _ F) a b (λv=>?_) ?_ ?_ rfl
 .cases U<;>first|rfl|cases hc
 .cases e<;>rfl
 .rfl
def G1{f:Ω->Δ GS}{c:γ}{a b:Γ Ω}{g:GS}{p:Pos}(O:c6 X T)(i:∀s g,f s=↑g->DS X QD QF s g)(h:NQ T f c a b=↑g):DS X QD QF (.If c a b p) g:=by
 let⟨a,H,h⟩:=bs h;let⟨b,B,h⟩:=bs h;let⟨t,ht,rfl⟩:=ag h;exact NG (O.t _ _ ht) (iz i H) (iz i B)
def Ff{t e:γ}{g:GS}{p:Pos}(C:Bk X N sc k)(O:c6 X T)(h:Kl sc N T e t=↑g):DS X QD QF (.Assign [t] e p) g:=by
 rcases gh h with ⟨_,h⟩|⟨z,H,h⟩
 .let⟨y,Y,h⟩:=bs h;let⟨z,H,h⟩:=bs h;rw[Mw Y,jd H];exact DU C O h
 .rw[jd H];exact Fj C O h
def Ab(C:Bk X N sc k)(B:Bn X)(O:c6 X T):∀ (n:Nat) {st:Ω}{g:GS},JQ sc N T n st=↑g->DS X QD QF st g
 | 0,st,g,h=>by cases h
 | n+1,st,g,h=>by
  have ih:=λs g h=>Ab C B O n (st:=s) (g:=g) h;cases st with
  | Return e p =>
   cases e<;>try cases h
   let⟨f,hf,rfl⟩:=ag h;exact L9 (O.e _ _ hf)
  | If c a b p=>exact G1 O ih h
  | Assign ts e p =>
   let⟨t,ht,h⟩:=bs h;rw[eD ht];exact Ff C O h
  | For tg iter body els p =>
   let⟨he,h⟩:=aP h;rw[List.isEmpty_iff.mp he];let⟨fi,RO,h⟩:=bs h;let⟨t,ht,h⟩:=bs h;let⟨b,hb,rfl⟩:=ag h;let⟨hd,Sd⟩:=Fh C B O RO;exact Lh _ C.pass C.calm hd (LM C ht) (iz ih hb) Sd
  | While c body els p =>
   let⟨he,h⟩:=aP h;rw[List.isEmpty_iff.mp he];let⟨t,ht,h⟩:=bs h;let⟨b,hb,rfl⟩:=ag h;exact Fp _ C.pass (O.t _ _ ht) (iz ih hb)
  | Expr e p=>exact Gm C O h
  | Raise=>cases h;exact M1
  | Pass p=>cases h;exact HI
  | _=>cases h
end
section
variable {K:Φ}
def pU(P:ε)(w:δ)(K:Φ)(g:Str->Δ Θ)(b:ι)(j:Nat)(l:Γ (Str×Nat×(Γ D->Δ D))):Prop:=∀x n m,l.lookup x=↑(n,m)->DK P w K g b j x n m
def mf(m:Str->Δ Θ)(l:Γ (Str×Int)):Prop:=∀x i,l.lookup x=↑i->∃t,m x=↑(.int i t)
def OQ:pU P w K mg base j []:=λ_ _ _ h=>by cases h
def NL(F:DK P w K mg base j x n m)(h:pU P w K mg base j l):pU P w K mg base j ((x,n,m)::l):=λy N M e=>by
 rw[yB] at e;cases q:y == x with
 | true=>rw[q] at e;cases e;rw[eq_of_beq q];exact F
 | false=>rw[q] at e;exact h y N M e
def Pf:mf mg []:=λ_ _ h=>by cases h
def Et(F:∃t,mg x=↑(.int i t))(h:mf mg l):mf mg ((x,i)::l):=λy I e=>by
 rw[yB] at e;cases q:y == x with
 | true=>rw[q] at e;cases e;rw[eq_of_beq q];exact F
 | false=>rw[q] at e;exact h y I e
def JK{st:Ω}(C:Bk X N (aG st) j)(B:Bn X)(f:pU X.prog X.w X.K X.mg X.base j fs)(hi:mf X.mg is)
  (t:qp (JQ (aG st) N (tr ⟨fs,is⟩ 40 none (aG st) N) 40) (b8 st)=↑g):DJ X QD QF (b8 st) g :=
 iz (λs g h=>Ab C B (JP (G:=⟨fs,is⟩) 40 C ⟨f,hi,B⟩ (yN j) λq z=>by cases z) 40 h) t
def Qs{st:Ω}(D:Hq K mg x st ps)(S:d6 N ps (aG st))(B:∀x∈dq,mg x=none)(a:pU P w K mg base j fs)(hi:mf mg is)
  (t:qp (JQ (aG st) N (tr ⟨fs,is⟩ 40 none (aG st) N) 40) (b8 st)=↑g):DK P w K mg base (j+1) x ps.length (aS g N.length):=by
 let⟨f,d,m,F,b⟩:=D.ex;exact PZ F S b m λX p hw k T V C _ _ c H=>by subst p;subst hw;subst k;subst T;subst V;exact JK C B a hi t
def Qa{st:Ω}(D:L4 K mg x st ps)(S:d6 N ps (aG st))(B:∀x∈dq,mg x=none)(o:pU P w K mg base j fs)(hi:mf mg is)
  (Q:x∈js/\x++".<locals>."++"<lambda>"=q) (t:qp (JQ (aG st) N (tr ⟨fs,is⟩ 40 (↑q) (aG st) N) 40) (b8 st)=↑g):DK P w K mg base (j+4) x ps.length (aS g N.length):=by
 let⟨f,I,c,p,M,F,n,hc,a⟩:=D.ex;refine PZ (k:=j+3) F S n M λX m hw l T v C e i b H=>?_;subst m;subst hw;subst l;subst T;subst v;have L:p6 X q:=by
  refine⟨c,p,by rw[e,hc],by rw[i];exact Q.2,a,λb y=>?_⟩;let⟨O,u,J,d,U,A,R,E,V,rfl,r,_⟩:=F.ex;have:=y f O u _ V c p r Q.1 hc a;rw[<- Q.2];exact this
 exact iz (λs g h=>Ab C B (JP (G:=⟨fs,is⟩) (j:=j) 40 C ⟨o,hi,B⟩ (jW _ _) λW z=>by cases z;exact⟨L,yN _⟩) 40 h) t
end
abbrev tW(s:Ω)(N:Γ Str)(S:Sg)(l:Δ Str):Δ GS:=qp (JQ (aG s) N (tr S 40 l (aG s) N) 40) (b8 s)
def Qz(a:sc.kind=.function:=by rfl)(b:sc.isCoroutine=false:=by rfl)(c:sc.isGenerator=false:=by rfl)(d:N.Nodup:=by decide +kernel)(e:N.take P.length=P:=by rfl)(f:∀x∈P,sc.names.lookup x=↑.local \/ sc.names.lookup x=↑.cell:=by decide +kernel)(g:∀y∈sc.names,y.2≠.free:=by decide +kernel):d6 N P sc:=⟨a,b,c,d,e,f,g⟩
section
variable {K:Φ}
end
end Rf
namespace Ex
open PySem L2 PySem.Spec PyProof.Rows
section
variable {X:Cx}{pins:Γ (Ψ×Obj)}{σ:L2.St}{H H':Hp}{s s':Ξ}{cls:Θ}{ea:Ψ}
end
open PySem L2 Dl PySem.Spec PyProof.Rows
section
variable {X:Cx}{pins:Γ (Ψ×Obj)}{σ:L2.St}{H H':Hp}{s s':Ξ}{cls:Θ}{ea:Ψ}
end
open PySem PySem.W PySem.Spec PySem.Calls PyProof.Rows
section
variable {K:Frag}{x D:Ψ}
end
section
variable {K:Φ}
end
end Ex
namespace Hd
open PySem L2 Dl PySem.Spec PyProof.Rows
section
variable {K:Φ}
def N8{st:Ω}(b:fR st ps)(a:W.nsIn K mainGlobals x=↑(↑(.ref f)))(l:K.lookup f=↑(fo x st pm c))(d:W.codeIn K (.ref c) x=true)(k:W.keepIn K (.ref f)=true):ja K x st ps:=NK b a l d k
def PU{st:Ω}(b:fR st ps)(a:W.nsIn K mainGlobals x=↑(↑(.ref f)))(l:K.lookup f=↑(fo x st pm c))(d:W.codeIn K (.ref c) x=true)(k:W.keepIn K (.ref f)=true)(H:W.codeHdIn K c (E4 K c)=true):oM K x st ps:=Nf b a l d k H
end
section
variable {α:Type}{R:Γ α->Prop}
def xg(h:∀a,R [a])(us:Γ α)(e:us.length=1):R us:=by
 let⟨a,rfl⟩:=List.length_eq_one_iff.mp e;exact h a
def Jr(us:Γ α)(e:us.length=n+1):∃a r,us=a::r/\r.length=n:=by
 cases us with
 | nil=>cases e
 | cons a r=>exact⟨a,r,rfl,by simpa using e⟩
def FW(h:∀a b,R [a,b])(us:Γ α)(e:us.length=2):R us:=by
 let⟨a,r,rfl,E⟩:=Jr us e;exact xg (R:=λr=>R (a::r)) (h a) r E
def DH(h:∀a b c,R [a,b,c])(us:Γ α)(e:us.length=3):R us:=by
 let⟨a,r,rfl,E⟩:=Jr us e;exact FW (R:=λr=>R (a::r)) (h a) r E
def NW(h:∀a b c d,R [a,b,c,d])(us:Γ α)(e:us.length=4):R us:=by
 let⟨a,r,rfl,E⟩:=Jr us e;exact DH (R:=λr=>R (a::r)) (h a) r E
def Pc(h:∀a b c d f,R [a,b,c,d,f])(us:Γ α)(e:us.length=5):R us:=by
 let⟨a,r,rfl,E⟩:=Jr us e;exact NW (R:=λr=>R (a::r)) (h a) r E
end
section
variable {K:Φ}
def f1(f c:Ψ)(p:Θ){st:Ω}(b:fR st ps:=by exactλ_ _ _ _ _ _ _ _ us hl=>xg (R:=λus=>bindArgs _ ⟨us,[]⟩=pure (List.zip _ us)) (λ_=>rfl) us hl)(a:W.nsIn K mainGlobals x=↑(↑(.ref f)):=by kernel_rfl)(l:K.lookup f=↑(fo x st p c):=by kernel_rfl)(d:W.codeIn K (.ref c) x=true:=by kernel_rfl)(k:W.keepIn K (.ref f)=true:=by kernel_rfl):ja K x st ps:=N8 b a l d k
def l1(f c:Ψ)(p:Θ){st:Ω}(b:fR st ps:=by exactλ_ _ _ _ _ _ _ _ us hl=>xg (R:=λus=>bindArgs _ ⟨us,[]⟩=pure (List.zip _ us)) (λ_=>rfl) us hl)(a:W.nsIn K mainGlobals x=↑(↑(.ref f)):=by kernel_rfl)(l:K.lookup f=↑(fo x st p c):=by kernel_rfl)(d:W.codeIn K (.ref c) x=true:=by kernel_rfl)(k:W.keepIn K (.ref f)=true:=by kernel_rfl)(H:W.codeHdIn K c (E4 K c)=true:=by kernel_rfl):oM K x st ps:=PU b a l d k H
def f2(f c:Ψ)(p:Θ){st:Ω}(b:fR st ps:=by exactλ_ _ _ _ _ _ _ _ us hl=>FW (R:=λus=>bindArgs _ ⟨us,[]⟩=pure (List.zip _ us)) (λ_ _=>rfl) us hl)(a:W.nsIn K mainGlobals x=↑(↑(.ref f)):=by kernel_rfl)(l:K.lookup f=↑(fo x st p c):=by kernel_rfl)(d:W.codeIn K (.ref c) x=true:=by kernel_rfl)(k:W.keepIn K (.ref f)=true:=by kernel_rfl):ja K x st ps:=N8 b a l d k
def f3(f c:Ψ)(p:Θ){st:Ω}(b:fR st ps:=by exactλ_ _ _ _ _ _ _ _ us hl=>DH (R:=λus=>bindArgs _ ⟨us,[]⟩=pure (List.zip _ us)) (λ_ _ _=>rfl) us hl)(a:W.nsIn K mainGlobals x=↑(↑(.ref f)):=by kernel_rfl)(l:K.lookup f=↑(fo x st p c):=by kernel_rfl)(d:W.codeIn K (.ref c) x=true:=by kernel_rfl)(k:W.keepIn K (.ref f)=true:=by kernel_rfl):ja K x st ps:=N8 b a l d k
def l3(f c:Ψ)(p:Θ){st:Ω}(b:fR st ps:=by exactλ_ _ _ _ _ _ _ _ us hl=>DH (R:=λus=>bindArgs _ ⟨us,[]⟩=pure (List.zip _ us)) (λ_ _ _=>rfl) us hl)(a:W.nsIn K mainGlobals x=↑(↑(.ref f)):=by kernel_rfl)(l:K.lookup f=↑(fo x st p c):=by kernel_rfl)(d:W.codeIn K (.ref c) x=true:=by kernel_rfl)(k:W.keepIn K (.ref f)=true:=by kernel_rfl)(H:W.codeHdIn K c (E4 K c)=true:=by kernel_rfl):oM K x st ps:=PU b a l d k H
def f4(f c:Ψ)(p:Θ){st:Ω}(b:fR st ps:=by exactλ_ _ _ _ _ _ _ _ us hl=>NW (R:=λus=>bindArgs _ ⟨us,[]⟩=pure (List.zip _ us)) (λ_ _ _ _=>rfl) us hl)(a:W.nsIn K mainGlobals x=↑(↑(.ref f)):=by kernel_rfl)(l:K.lookup f=↑(fo x st p c):=by kernel_rfl)(d:W.codeIn K (.ref c) x=true:=by kernel_rfl)(k:W.keepIn K (.ref f)=true:=by kernel_rfl):ja K x st ps:=N8 b a l d k
def f5(f c:Ψ)(p:Θ){st:Ω}(b:fR st ps:=by exactλ_ _ _ _ _ _ _ _ us hl=>Pc (R:=λus=>bindArgs _ ⟨us,[]⟩=pure (List.zip _ us)) (λ_ _ _ _ _=>rfl) us hl)(a:W.nsIn K mainGlobals x=↑(↑(.ref f)):=by kernel_rfl)(l:K.lookup f=↑(fo x st p c):=by kernel_rfl)(d:W.codeIn K (.ref c) x=true:=by kernel_rfl)(k:W.keepIn K (.ref f)=true:=by kernel_rfl):ja K x st ps:=N8 b a l d k
end
end Hd
namespace Pg
open PySem L2 Dl PySem.Spec PyProof.Rows
def pY:au->Δ Out:=(av (fF (nI (bT (fB (J8 "int" (ab 0)))) (fB (J8 "bool" (ab 0)))) (aK (fC (.bool false))) e9) (aK (kc Cr Cr (ab 1) (ab 0) (ab 2))))
def bC:Γ D->Δ D:=aS pY 3
def oT:au->Δ Out:=(aK (ah 3 bC (aa (ab 0) (aa (fC (.int 0)) (aa (f2 Dl.gT (ab 1) (fC (.int 1))) af)))))
def cB:Γ D->Δ D:=aS oT 2
def sv:au->Δ Out:=(aK (lu (J8 "tuple" (ab 0)) (kc Cr Cr (ab 1) (bp bE (aa (ab 0) af)) (ab 2))))
def bG:Γ D->Δ D:=aS sv 3
def oH:au->Δ Out:=(av (fF (bT (fB (J8 "tuple" (ab 0)))) (aK (fC (.bool false))) e9) (av (fF (bT (fB (bp jw (aa (bN (aj 1 [1] (aM (ab 0)) (fG 0) (λ_=>↑true) (ah 2 cB (aa (ab 0) (aa (ab 1) af))))) af)))) (aK (fC (.bool false))) e9) (aK (f2 cg (f1 lg (ab 0)) (bp bE (aa (ab 0) af))))))
def gD:Γ D->Δ D:=aS oH 2
def xc:au->Δ Out:=(aK (lu (ah 3 bG (aa (ab 0) (aa (fC (.int 2)) (aa (fC (.int 2)) af)))) (lu (ah 3 bC (aa (f2 aw (ab 0) (fC (.int 0))) (aa (fC (.int 0)) (aa (fC (.int 9)) af)))) (ah 2 gD (aa (f2 aw (ab 0) (fC (.int 1))) (aa (ab 1) af))))))
def fM:Γ D->Δ D:=aS xc 2
def xr:au->Δ Out:=(av (fF (bT (fB (ah 3 bG (aa (ab 0) (aa (fC (.int 3)) (aa (fC (.int 3)) af)))))) (aK (fC (.bool false))) e9) (aK (lu (ah 2 cB (aa (f2 aw (ab 0) (fC (.int 0))) (aa (ab 1) af))) (lu (ah 2 cB (aa (f2 aw (ab 0) (fC (.int 1))) (aa (ab 2) af))) (ah 3 bC (aa (f2 aw (ab 0) (fC (.int 2))) (aa (fC (.int 1)) (aa (fC (.int 9)) af))))))))
def kl:Γ D->Δ D:=aS xr 3
def oP:au->Δ Out:=(av (fF (nI (bT (fB (ah 3 bG (aa (ab 0) (aa (fC (.int 1)) (aa (fC (.int 4)) af)))))) (bT (fB (ah 3 bG (aa (ab 1) (aa (fC (.int 1)) (aa (fC (.int 4)) af))))))) (aK (fC (.bool false))) e9) (av (fF (bT (fB (bp jw (aa (bN (aj 1 [1] (aM (ab 0)) (fG 0) (λ_=>↑true) (ah 2 fM (aa (ab 0) (aa (bp bE (aa (ab 1) af)) af))))) af)))) (aK (fC (.bool false))) e9) (av (fF (bT (fB (bp jw (aa (bN (aj 1 [0] (aM (ab 1)) (fG 0) (λ_=>↑true) (ah 2 fM (aa (ab 0) (aa (bp bE (aa (ab 1) af)) af))))) af)))) (aK (fC (.bool false))) e9) (aK (lu (J8 "tuple" (ab 2)) (bp jw (aa (bN (aj 1 [0,1] (aM (ab 2)) (fG 0) (λ_=>↑true) (ah 3 kl (aa (ab 0) (aa (bp bE (aa (ab 1) af)) (aa (bp bE (aa (ab 2) af)) af)))))) af)))))))
def gH:Γ D->Δ D:=aS oP 3
def lJ:au->Δ Out:=(av (aN 1 [] (gc af)) (av (dc [0] (bj (aa (ab 0) af)) (iN 2 3) (tV 1 [2,3] (aj 1 [2] (aM (f2 aw (ab 3) (fC (.int 1)))) (fG 0) (λ_=>↑true) (aF (aa (ab 1) (aa (ab 0) af)))))) (aK (ab 1))))
def bx:Γ D->Δ D:=aS lJ 4
def iX:au->Δ Out:=(av (fF (nI (bT (fB (ah 3 bG (aa (ab 0) (aa (fC (.int 3)) (aa (fC (.int 3)) af)))))) (bT (fB (ah 3 gH (aa (f2 aw (ab 0) (fC (.int 0))) (aa (f2 aw (ab 0) (fC (.int 1))) (aa (f2 aw (ab 0) (fC (.int 2))) af))))))) (aK (fC (.bool false))) e9) (av (aN 1 [0] (aj 1 [] (aM (f2 aw (ab 0) (fC (.int 2)))) (fG 0) (λ_=>↑true) (aF (aa (f2 aw (ab 0) (fC (.int 0))) (aa (f2 aw (ab 0) (fC (.int 1))) af))))) (av (aN 2 [0] (m8 cL (aa (ah 1 bx (aa (f2 aw (ab 0) (fC (.int 0))) af)) af))) (av (aN 3 [0] (m8 cL (aa (bN (aj 2 [] (aM (ah 1 bx (aa (f2 aw (ab 0) (fC (.int 1))) af))) (fy 0 1) (λ_=>↑true) (aF (aa (ab 1) (aa (ab 0) af))))) af))) (aK (lu (f2 cg (ab 1) (ab 2)) (f2 cg (ab 1) (ab 3))))))))
def cO:Γ D->Δ D:=aS iX 4
abbrev Vm:=(aa (ab 0) af)
abbrev zq1:=(bT (fB (ah 1 cO Vm)))
def dZ:au->Δ Out:=(fF zq1 MD e9)
def d5:Γ D->Δ D:=aS dZ 1
abbrev YX:=(aa (ab 2) af)
abbrev zq3:=(aa (ab 0) (aa (ab 1) YX))
abbrev zq4:=(bT (fB (ah 3 bC zq3)))
def dR:au->Δ Out:=(fF zq4 MD e9)
def d9:Γ D->Δ D:=aS dR 3
def dy:au->Δ Out:=(lM (ah 3 d9 (aa (ab 0) (aa (fC (.int 0)) (aa (f2 Dl.gT (ab 1) (fC (.int 1))) af)))))
def da:Γ D->Δ D:=aS dy 2
abbrev zq5:=(aa (fC (.int 2)) af)
def eS:au->Δ Out:=(lM (ah 2 da (aa (ab 0) zq5)))
def iS:Γ D->Δ D:=aS eS 1
def iP:au->Δ Out:=(aK (f2 aC (f2 aC (fj cn (ab 0) e8 (rK (ab 1))) (aF YX)) (fj cn (ab 0) (rK (f2 aC (ab 1) (fC (.int 1)))) e8)))
def dM:Γ D->Δ D:=aS iP 3
abbrev CF:Γ Str:=["world","side","place","ways","likes","own"]
def nH:au->Δ Out:=(av (aD 3 [0] (f2 aw (ab 0) (fC (.int 2)))) (av (aD 4 [0,1,2] (f2 aw (f2 aw (f2 aw (ab 0) (ab 1)) (ab 2)) (fC (.int 1)))) (av (aN 5 [1,2,3] (aj 2 [1,2] (bj (aa (ab 3) af)) (fy 0 1) (fB (f2 cg (f2 aw (ab 1) (ab 2)) (ab 3))) (ab 0))) (aK (bN (n9 [1,3,4] (ab 5) (f2 oW (ab 3) (f2 aw (f2 aw (ab 2) (ab 0)) (f2 Dl.gT (fC (.int 1)) (ab 1))))))))))
def iq:Γ D->Δ D:=aS nH 6
def kq:au->Δ Out:=(av (aN 4 [0] (aj 1 [] (aM (f2 aw (ab 0) (fC (.int 2)))) (fG 0) (λ_=>↑true) (fC (.int 0)))) (av (aD 5 [0,1,2] (f2 aw (f2 aw (f2 aw (ab 0) (ab 1)) (ab 2)) (fC (.int 0)))) (av (dc [0,1,2] (aM (ah 3 iq (aa (ab 0) (aa (ab 1) (aa (ab 2) af))))) (mr 6) (av (AE 4 [0,3,5,6] (ab 6) (bp yb (aa (f2 aw (ab 3) (ab 6)) (aa (f2 aw (f2 aw (f2 aw (ab 0) (fC (.int 2))) (ab 6)) (fC (.int 2))) (aa (ab 5) af))))) (aD 5 [4,5,6] (f2 Dl.gT (ab 5) (f2 aw (ab 4) (ab 6)))))) (aK (bp br (aa (ab 4) af))))))
def eC:Γ D->Δ D:=aS kq 7
def eM:au->Δ Out:=(av (aN 3 [0] (aj 1 [] (aM (f2 aw (ab 0) (fC (.int 2)))) (fG 0) (λ_=>↑true) (fC (.int 0)))) (av (dc [0,1] (bA (aa (bp bE (aa (f2 aw (ab 0) (ab 1)) af)) af)) (mr 4) (av (aD 5 [0,1,2,4] (ah 4 eC (aa (ab 0) (aa (ab 1) (aa (ab 4) (aa (ab 2) af)))))) (aN 3 [3,5] (aj 2 [] (jg (aa (ab 3) (aa (ab 5) af))) (fy 0 1) (λ_=>↑true) (f2 aC (ab 0) (ab 1)))))) (aK (bp br (aa (ab 3) af)))))
def bq:Γ D->Δ D:=aS eM 6
abbrev Yw:=(f2 aw (ab 0) (fC (.int 2)))
def xj:au->Δ Out:=(aK (bp br (aa (bN (aj 1 [] (aM Yw) (fG 0) (λ_=>↑true) Yw)) af)))
def p5:Γ D->Δ D:=aS xj 1
def sC:au->Δ Out:=(aK (ah 3 dM zq3))
def dO:Γ D->Δ D:=aS sC 3
def nR:au->Δ Out:=(av (aD 2 [0,1] (ah 3 bq (aa (ab 0) (aa (fC (.int 0)) (aa (ab 1) af))))) (av (aD 3 [0,2] (ah 3 bq (aa (ab 0) (aa (fC (.int 1)) (aa (ab 2) af))))) (av (dc [3] (bj (aa (ab 3) af)) (iN 4 5) (fF (fB (f2 CN (ab 5) (f2 aw (ab 2) (ab 4)))) (aK (aF (aa (ab 4) (aa (ab 5) af)))) e9)) (aK (fC .none)))))
def hZ:Γ D->Δ D:=aS nR 6
abbrev Yx:=(gc af)
abbrev zq8:=(ah 1 p5 Vm)
abbrev zq9:=(aa (ab 0) YX)
abbrev aaf:=(ah 2 hZ zq9)
abbrev aag:=(aD 3 [0,2] aaf)
abbrev aah:=(fB (f2 pA (ab 3) (fC .none)))
def uE:au->Δ Out:=(av (aN 1 [] Yx) (av (aD 2 [0] zq8) (av aag (av (Iz aah (av (lN 1 [3] (ab 3)) (av (aD 2 [2,3] (ah 3 dO (aa (ab 2) (aa (f2 aw (ab 3) (fC (.int 0))) (aa (f2 aw (ab 3) (fC (.int 1))) af))))) aag)) Rf.turns) (aK (ab 1))))))
def tQ:Γ D->Δ D:=aS uE 4
abbrev V0:=(aM (ab 1))
abbrev aai:=(aa (ab 3) (aa (ab 4) af))
abbrev Yy:=(ah 3 dO (aa (ab 2) aai))
def qx:au->Δ Out:=(av (aD 2 [0] zq8) (av (dc [1] V0 (iN 3 4) (aD 2 [2,3,4] Yy)) (aK (ab 2))))
def pC:Γ D->Δ D:=aS qx 5
abbrev adJ:=(ah 1 d5 Vm)
abbrev V1:=(lM adJ)
def gL:au->Δ Out:=(av V1 (aK (ah 3 bq (aa (ab 0) (aa (fC (.int 0)) (aa (ah 2 pC (aa (ab 0) (aa (ah 1 tQ Vm) af))) af))))))
def dW:Γ D->Δ D:=aS gL 1
def jt:au->Δ Out:=(av (fF (fB (f2 cg (ab 0) (bN (gc af)))) (aK (f2 eu (fC (.int 7)) (ab 1))) e9) (aK (f2 aC (f2 aw (ab 0) (f2 lz (ab 1) (bp bE (aa (ab 0) af)))) (f2 eu (fC (.int 6553)) (f2 mF (ab 1) (bp bE (aa (ab 0) af)))))))
def eh:Γ D->Δ D:=aS jt 2
def mK:au->Δ Out:=(av (aD 3 [0,1] (f2 lz (f2 aC (f2 eu (f2 lz (ah 2 eh (aa (ab 0) (aa (ab 1) af))) (fC (.int 2147483563))) (fC (.int 69069))) (f2 eu (fC (.int 104723)) (f2 aC (ab 1) (fC (.int 1))))) (fC (.int 2147483563)))) (av (aD 3 [3] (f2 lz (f2 aC (f2 eu (ab 3) (ab 3)) (f2 mF (ab 3) (fC (.int 3)))) (fC (.int 2147483399)))) (aK (f2 lz (f2 mF (f2 lz (f2 aC (f2 eu (ab 3) (ab 3)) (f2 mF (ab 3) (fC (.int 7)))) (fC (.int 2147483647))) (fC (.int 11))) (ab 2)))))
def aq:Γ D->Δ D:=aS mK 4
def lI:au->Δ Out:=(av (aN 3 [] (gc af)) (av (dc [2] (bj (aa (ab 2) af)) (iN 4 5) (av (aN 6 [] (gc af)) (av (dc [5] (bj (aa (ab 5) af)) (iN 7 8) (D5 6 [8] (ah 3 aq (aa (ab 0) (aa (f2 aC (f2 aC (ab 1) (f2 eu (fC (.int 4)) (ab 4))) (ab 7)) (aa (f2 aC (bp bE (aa (ab 6) af)) (fC (.int 1))) af)))) (ab 8))) (lN 3 [6] (bp br (aa (ab 6) af)))))) (aK (ab 3))))
def bJ:Γ D->Δ D:=aS lI 9
def eX:au->Δ Out:=(av (fF (fU (fB (f2 za (ab 2) (fC (.int 3)))) (fB (f2 cg (ah 3 aq (aa (ab 0) (aa (f2 aC (ab 1) (fC (.int 64))) (aa (fC (.int 4)) af)))) (fC (.int 0))))) (av (aD 3 [0,1] (f2 aC (fC (.int 1)) (ah 3 aq (aa (ab 0) (aa (f2 aC (ab 1) (fC (.int 65))) (aa (fC (.int 2)) af)))))) (av (aD 4 [3] (aF (aa (aF (aa (ab 3) (aa (aF (aa (fC (.int 1)) (aa (fC (.int 0)) af))) af))) (aa (aF (aa (ab 3) (aa (aF (aa (fC (.int 0)) (aa (fC (.int 1)) af))) af))) af)))) (aK (aF (aa (aF (aa (aF (aa (ab 3) (aa (aF (aa (fC (.int 0)) (aa (fC (.int 1)) af))) af))) (aa (aF (aa (ab 3) (aa (aF (aa (fC (.int 1)) (aa (fC (.int 0)) af))) af))) af))) (aa (ab 4) (aa (aF (aa (aF (aa (fC (.int 0)) (aa (fC (.int 0)) (aa (fC (.int 2)) af)))) (aa (aF (aa (fC (.int 0)) (aa (fC (.int 1)) (aa (fC (.int 2)) af)))) (aa (aF (aa (fC (.int 1)) (aa (fC (.int 0)) (aa (fC (.int 2)) af)))) (aa (aF (aa (fC (.int 1)) (aa (fC (.int 1)) (aa (fC (.int 2)) af)))) af))))) af))))))) e9) (av (aD 5 [0,1] (f2 aC (fC (.int 1)) (ah 3 aq (aa (ab 0) (aa (ab 1) (aa (fC (.int 3)) af)))))) (av (aD 6 [0,1] (f2 aC (fC (.int 1)) (ah 3 aq (aa (ab 0) (aa (f2 aC (ab 1) (fC (.int 1))) (aa (fC (.int 3)) af)))))) (av (aN 7 [] (gc af)) (av (dc [5,6] (bA (aa (f2 eu (ab 5) (ab 6)) af)) (mr 8) (fF (fU (fB (f2 CN (bp bE (aa (ab 7) af)) (ab 2))) (fB (f2 za (ah 3 aq (aa (ab 0) (aa (f2 aC (f2 aC (ab 1) (fC (.int 2))) (ab 8)) (aa (fC (.int 4)) af)))) (fC (.int 0))))) (lN 7 [0,1,6,8] (aF (aa (f2 mF (ab 8) (ab 6)) (aa (f2 lz (ab 8) (ab 6)) (aa (f2 aC (fC (.int 1)) (ah 3 aq (aa (ab 0) (aa (f2 aC (f2 aC (ab 1) (fC (.int 12))) (ab 8)) (aa (fC (.int 2)) af))))) af))))) e9)) (av (aD 9 [0,1,5,7] (ah 3 bJ (aa (ab 0) (aa (f2 aC (ab 1) (fC (.int 24))) (aa (bN (aj 1 [7] (bA (aa (ab 5) af)) (fG 0) (λ_=>↑true) (bN (aj 1 [0] (aM (ab 1)) (fG 0) (fB (f2 cg (f2 aw (ab 0) (fC (.int 0))) (ab 1))) (f2 aw (ab 0) (fC (.int 1))))))) af))))) (av (aD 10 [0,1,6,7] (ah 3 bJ (aa (ab 0) (aa (f2 aC (ab 1) (fC (.int 40))) (aa (bN (aj 1 [7] (bA (aa (ab 6) af)) (fG 0) (λ_=>↑true) (bN (aj 1 [0] (aM (ab 1)) (fG 0) (fB (f2 cg (f2 aw (ab 0) (fC (.int 1))) (ab 1))) (f2 aw (ab 0) (fC (.int 0))))))) af))))) (av (aD 11 [0,1,8,9] (bp br (aa (bN (aj 2 [0,1] (bj (aa (ab 9) af)) (fy 0 1) (λ_=>↑true) (aF (aa (ah 3 aq (aa (ab 2) (aa (f2 aC (f2 aC (ab 3) (fC (.int 56))) (ab 0)) (aa (fC (.int 4)) af)))) (aa (ab 1) af))))) af))) (av (aD 4 [0,1,8,10] (bp br (aa (bN (aj 2 [0,1] (bj (aa (ab 10) af)) (fy 0 1) (λ_=>↑true) (aF (aa (ah 3 aq (aa (ab 2) (aa (f2 aC (f2 aC (ab 3) (fC (.int 60))) (ab 0)) (aa (fC (.int 4)) af)))) (aa (ab 1) af))))) af))) (aK (aF (aa (ab 11) (aa (ab 4) (aa (bp br (aa (ab 7) af)) af))))))))))))))
def cF:Γ D->Δ D:=aS eX 12
def sZ:au->Δ Out:=(aK (bp CL (aa (bN (aj 2 [2,3] (jg (aa (f2 aw (ab 0) (fC (.int 2))) (aa (ab 1) af))) (fy 0 1) (fB (f2 cg (f2 aw (ab 0) (ab 2)) (ab 3))) (ab 1))) af)))
def cX:Γ D->Δ D:=aS sZ 4
def jh:au->Δ Out:=(aK (bp jw (aa (bN (aj 2 [0,1,2] (bj (aa (f2 aw (ab 0) (ab 2)) af)) (fy 0 1) (λ_=>↑true) (f2 Cr (ah 4 cX (aa (ab 2) (aa (ab 3) (aa (ab 4) (aa (ab 0) af))))) (f2 aw (ab 1) (fC (.int 0)))))) af)))
def cN:Γ D->Δ D:=aS jh 3
def ox:au->Δ Out:=(av (aD 2 [0] (f2 aw (ab 0) (fC (.int 2)))) (av (fF (bT (fB (ah 3 bG (aa (ab 1) (aa (bp bE (aa (ab 2) af)) (aa (bp bE (aa (ab 2) af)) af)))))) (aK (fC (.bool false))) e9) (av (fF (bT (fB (bp jw (aa (bN (aj 2 [] (jg (aa (ab 2) (aa (ab 1) af))) (fy 0 1) (λ_=>↑true) (ah 3 bC (aa (ab 1) (aa (fC (.int 0)) (aa (f2 aw (ab 0) (fC (.int 2))) af)))))) af)))) (aK (fC (.bool false))) e9) (aK (lu (ah 3 cN (aa (ab 0) (aa (ab 1) (aa (fC (.int 0)) af)))) (ah 3 cN (aa (ab 0) (aa (ab 1) (aa (fC (.int 1)) af)))))))))
def cU:Γ D->Δ D:=aS ox 3
abbrev Sf:=(aa (ab 1) af)
abbrev V2:=(aa (ab 0) Sf)
def eZ:au->Δ Out:=(av V1 (fF (bT (fB (ah 2 cU V2))) MD e9))
def eV:Γ D->Δ D:=aS eZ 2
abbrev rl:Γ Str:=["world","ways"]
def fN:au->Δ Out:=(av (aD 1 [0] (f2 aw (ab 0) (fC (.int 2)))) (aK (bN (rA [1] (aa (bp bE (aa (ab 1) af)) af) (aF (aa (f2 aw (f2 aw (ab 1) (ab 0)) (fC (.int 1))) (aa (f2 aw (f2 aw (ab 1) (ab 0)) (fC (.int 0))) af)))))))
def bo:Γ D->Δ D:=aS fN 2
def qa:au->Δ Out:=(av (lM (ah 1 d5 (aa (ab 0) af))) (av (aN 1 [0] (aj 1 [0] (aM (ah 1 bo (aa (ab 0) af))) (fG 0) (λ_=>↑true) (f2 aw (f2 aw (ab 1) (fC (.int 2))) (ab 0)))) (aK (aF (aa (f2 aw (ab 0) (fC (.int 1))) (aa (f2 aw (ab 0) (fC (.int 0))) (aa (bp br (aa (bN (aj 3 [] (aM (ab 1)) (GT 0 1 2) (λ_=>↑true) (aF (aa (ab 1) (aa (ab 0) (aa (ab 2) af)))))) af)) af)))))))
def pN:Γ D->Δ D:=aS qa 2
def gO:au->Δ Out:=(av (lM (ah 2 eV (aa (ab 0) (aa (ab 1) af)))) (aK (bp br (aa (bN (aj 1 [1] (aM (ah 1 bo (aa (ab 0) af))) (fG 0) (λ_=>↑true) (f2 aw (ab 1) (ab 0)))) af))))
def gW:Γ D->Δ D:=aS gO 2
def iD:au->Δ Out:=(av (aD 4 [0,2,3] (f2 aw (f2 aw (f2 aw (ab 0) (fC (.int 2))) (ab 3)) (ab 2))) (av (fF (fB (f2 CN (ah 4 cX (aa (ab 0) (aa (ab 1) (aa (ab 2) (aa (ab 4) af))))) (f2 aw (f2 aw (f2 aw (ab 0) (ab 2)) (ab 4)) (fC (.int 0))))) (aK (fC (.bool true))) e9) (av (aD 5 [0,2,4] (ah 3 iq (aa (ab 0) (aa (ab 2) (aa (ab 4) af))))) (av (aD 6 [3,5] (fj cn (ab 5) (rK (f2 aC (f2 oW (ab 5) (ab 3)) (fC (.int 1)))) e8)) (aK (bp Rf.GC (aa (bN (aj 1 [1] (aM (ab 6)) (fG 0) (λ_=>↑true) (f2 za (f2 aw (ab 1) (ab 0)) (fC (.int 0))))) af)))))))
def fg:Γ D->Δ D:=aS iD 7
abbrev adK:=(f2 aw (f2 aw Yw (ab 2)) (fC (.int 2)))
abbrev adL:=(f2 cg (f2 aw (ab 1) (ab 2)) adK)
abbrev aaj:=(fB adL)
abbrev adM:=(aa (ab 1) (aa (fC (.int 0)) YX))
abbrev adN:=(aa (ab 0) adM)
abbrev adO:=(ah 4 fg adN)
abbrev adP:=(fB adO)
abbrev aak:=(bT adP)
abbrev adQ:=(aa (ab 1) (aa (fC (.int 1)) YX))
abbrev adR:=(aa (ab 0) adQ)
abbrev adS:=(ah 4 fg adR)
abbrev adT:=(fB adS)
abbrev aal:=(bT adT)
def mh:au->Δ Out:=(av (fF aaj (aK (fC (.str "full"))) e9) (av (fF aak (aK (fC (.str "giver"))) e9) (av (fF aal (aK (fC (.str "taker"))) e9) (aK (fC .none)))))
def lU:Γ D->Δ D:=aS mh 3
abbrev adU:=(ah 3 lU zq3)
abbrev adV:=(f2 xt adU (fC .none))
abbrev YA:=(fB adV)
def eQ:au->Δ Out:=(av (dc [1] (bA (aa (bp bE Sf) af)) (mr 2) (fF YA (aK (ab 2)) e9)) (aK (fC .none)))
def eL:Γ D->Δ D:=aS eQ 3
def mi:au->Δ Out:=(aK (f2 xt (ah 2 eL V2) (fC .none)))
def iV:Γ D->Δ D:=aS mi 2
def u4:au->Δ Out:=(av (lM (ah 2 eV V2)) (aK (ah 2 iV V2)))
def uj:Γ D->Δ D:=aS u4 2
abbrev aam:=(lM (ah 1 iS Sf))
abbrev V3:=(f2 aw (ab 0) (ab 1))
def dS:au->Δ Out:=(av aam (lM (ah 2 da (aa (ab 2) (aa (bp bE (aa V3 af)) af)))))
def gU:Γ D->Δ D:=aS dS 3
def md:au->Δ Out:=(aK (ah 3 dM (aa (ab 0) (aa (ab 1) (aa (ah 3 dM (aa V3 (aa (ab 2) (aa (aF aai) af)))) af)))))
def lL:Γ D->Δ D:=aS md 5
def gR:au->Δ Out:=(av V1 (av (lM (ah 3 gU zq3)) (av (lM (ah 3 d9 (aa (ab 3) (aa (fC (.int 0)) (aa (fC (.int 9)) af))))) (aK (ah 5 lL (aa (ab 0) (aa (ab 1) (aa (ab 2) (aa (ab 3) (aa (f2 aw (f2 aw V3 (ab 2)) (fC (.int 1))) af))))))))))
def gV:Γ D->Δ D:=aS gR 4
abbrev aan:=(f2 aw (ab 2) (fC (.int 2)))
abbrev aao:=(f2 aC aan (fC (.int 1)))
def eU:au->Δ Out:=(av (aD 1 [] (fC (.int 1))) (av (dc [0] (aM Yw) (mr 2) (aD 1 [1,2] (f2 eu (ab 1) aao))) (fF (fB (f2 za (ab 1) (fC (.int 3000)))) MD e9)))
def iF:Γ D->Δ D:=aS eU 3
abbrev YB:=(aM (ab 0))
def eO:au->Δ Out:=(av (aN 1 [] (gc (aa (aF af) af))) (av (dc [0] YB (mr 2) (av (aN 3 [] Yx) (av (dc [1] V0 (mr 4) (tV 3 [2,4] (aj 1 [4] (bA (aa aao af)) (fG 0) (λ_=>↑true) (f2 aC (ab 1) (aF Vm))))) (aD 1 [3] (ab 3))))) (aK (ab 1))))
def eP:Γ D->Δ D:=aS eO 5
abbrev Vn:=(aa (ab 1) Vm)
abbrev adW:=(ah 2 cU Vn)
abbrev aap:=(fB adW)
def j6:au->Δ Out:=(av V1 (av (lM (ah 1 iF Vm)) (aK (bN (aj 1 [0] (aM (ah 1 eP (aa Yw af))) (fG 0) aap (ab 0))))))
def eB:Γ D->Δ D:=aS j6 1
def jv:au->Δ Out:=(aK (bN (aj 1 [0] (aM (ah 1 eB Vm)) (fG 0) (fB (ah 2 iV Vn)) (ab 0))))
def cA:Γ D->Δ D:=aS jv 1
abbrev aaq:=(f2 aw (ab 0) (ab 2))
abbrev WU:=(f2 aw (ab 1) (fC (.int 0)))
abbrev adX:=(f2 aw WU (ab 2))
abbrev aar:=(f2 cg aaq adX)
abbrev adY:=(aj 1 [0,1] YB (fG 0) (λ_=>↑true) aar)
abbrev adZ:=(bN adY)
abbrev aas:=(aa adZ af)
def lV:au->Δ Out:=(aK (bp jw aas))
def ml:Γ D->Δ D:=aS lV 2
def pZ:au->Δ Out:=(av (aD 1 [0] (ah 1 cA Vm)) (aK (bN (aj 2 [1] (bj (aa WU af)) (fy 0 1) (fB (ah 2 ml (aa (ab 2) Vm))) (aF V2)))))
def mD:Γ D->Δ D:=aS pZ 2
abbrev ad0:=(aa aaq af)
abbrev ad1:=(bp bE ad0)
abbrev ad2:=(aa ad1 af)
abbrev aat:=(bA ad2)
abbrev ad3:=(aa (ab 3) Vm)
abbrev ad4:=(aa (ab 2) ad3)
abbrev ad5:=(aa (ab 1) ad4)
abbrev aau:=(ah 4 cX ad5)
abbrev ad6:=(aj 1 [0,1,2] aat (fG 0) (λ_=>↑true) aau)
abbrev ad7:=(bN ad6)
abbrev aav:=(aa ad7 af)
def gN:au->Δ Out:=(aK (bp br aav))
def dP:Γ D->Δ D:=aS gN 3
abbrev YC:=(aa (fC (.int 0)) af)
abbrev aaw:=(aa (ab 1) YC)
abbrev ad8:=(aa (fC (.int 1)) af)
abbrev aax:=(aa (ab 1) ad8)
def qu:au->Δ Out:=(av (aD 1 [0] (ah 1 dW Vm)) (aK (aF (aa (ah 3 dP (aa (ab 0) aaw)) (aa (ah 3 dP (aa (ab 0) aax)) af)))))
def k4:Γ D->Δ D:=aS qu 2
def uW:au->Δ Out:=(av V1 (av aam (av (aD 2 [0,1] (f2 aw (ah 1 k4 Vm) (ab 1))) (aK (bN (aj 2 [2] (bj (aa V3 af)) (fy 0 1) (fB (f2 CN (f2 aw (ab 2) (ab 0)) WU)) (ab 0)))))))
def m9:Γ D->Δ D:=aS uW 3
end Pg
namespace Zp
open PySem PyProof.Rows
abbrev ad9(h:ι)(z TI TO:Ψ)(f:Θ)(c:θ):Prop :=
 h.get? z=some { cls:=.type "zip",dict:=none,data:=.fields #[f,.bool c,.bool false,.ref TI,.ref TO],slots:=#[] }
structure ZG(QT Q4:Bool)(h₀ h:Heap)(z TI TO i j l m:Addr)(xs ys:Array Value)(f:Value)(c:Bool)(p q:Nat)(a b:Value):Prop where
 zo:ad9 h z TI TO f c
 ti:IsPair h TI (.ref i) (.ref j)
 to:IsPair h TO a b
 wi:Rl QT h i l p
 wj:Rl Q4 h j m q
 sl:Rt QT h l xs
 sm:Rt Q4 h m ys
 kp:∀c o,c≠z->c≠TO->c≠i->c≠j->h₀.get? c=↑o->h.get? c=↑o
 sz:h.objs.size=h₀.objs.size
section
variable {z TI TO i j l m:Ψ}
end
section
variable {z TI TO i j l m:Ψ}
end
end Zp
namespace Dl
open PySem L2 PySem.Spec PyProof.Rows Zp
end Dl
namespace Pg
open PySem L2 Dl PySem.Spec PyProof.Rows
open PySem L2 Dl PySem.Spec PyProof.Rows Ex
abbrev sS:Γ Str:=["_law_script","_law_world_here","_law_plans","_law_rows","_law_known","_law_plan","_law_way","_law_other","_law_pairs","_law_side","_law_place","_law_more"]
abbrev aay:=(aa (fC (.int 4)) af)
abbrev aea:=(aa (fC (.int 0)) aay)
abbrev aeb:=(aa (ab 0) aea)
abbrev aec:=(ah 3 cF aeb)
abbrev aaz:=(aD 1 [0] aec)
abbrev aaA:=(aD 2 [1] (ah 1 eB Sf))
abbrev aaB:=(aD 3 [1] (ah 1 cA Sf))
abbrev aed:=(aa (f2 aw (ab 1) (fC (.int 2))) af)
abbrev aee:=(bp bE aed)
abbrev aef:=(f2 eu (aF YC) aee)
abbrev aeg:=(f2 Di aef (ab 2))
abbrev aaC:=(fB aeg)
abbrev SF:=(aK (fC (.bool false)))
abbrev V4:=(aM (ab 2))
abbrev aeh:=(ah 2 uj Vn)
abbrev aaD:=(fB aeh)
abbrev aei:=(aj 1 [1] V4 (fG 0) aaD (ab 0))
abbrev aej:=(bN aei)
abbrev aek:=(f2 hC (ab 3) aej)
abbrev ael:=(fB aek)
abbrev aaE:=(fF ael SF e9)
abbrev aem:=(aa (fC (.bool true)) af)
abbrev aen:=(aa (ab 0) aem)
abbrev aaF:=(aF aen)
abbrev aeo:=(aj 1 [] V4 (fG 0) (λ_=>↑true) aaF)
abbrev YD:=(bN aeo)
abbrev aaG:=(aD 7 [1] (ah 1 pN Sf))
abbrev aaH:=(ah 2 gW Vn)
abbrev aep:=(aj 1 [1] (aM (ab 3)) (fG 0) (λ_=>↑true) aaH)
abbrev YE:=(bN aep)
abbrev V5:=(aa (ab 7) af)
abbrev aeq:=(aa (ah 1 eB V5) af)
abbrev aer:=(bp bE aeq)
abbrev aes:=(f2 hC aer (bp bE YX))
abbrev Xu:=(fB aes)
abbrev Xv:=(f2 aw aan (ab 0))
abbrev V6:=(rK (fC (.int 2)))
abbrev aaI:=(fj cn Xv e8 V6)
abbrev aaJ:=(f2 aC aaI (aF Sf))
abbrev aaK:=(aj 2 [1] (aM (ah 1 mD Sf)) (fy 0 1) (λ_=>↑true) aaJ)
abbrev aaL:=(bN aaK)
abbrev aaM:=(aa aaL af)
abbrev aaN:=(m8 cL aaM)
abbrev aaO:=(aN 8 [1,6] aaN)
abbrev aaP:=(f1 sL Xv)
abbrev aaQ:=(f2 aC aaP (aF Sf))
abbrev aaR:=(aj 2 [7] (aM (ah 1 mD V5)) (fy 0 1) (λ_=>↑true) aaQ)
abbrev aaS:=(bN aaR)
abbrev aaT:=(aa aaS af)
abbrev aaU:=(m8 cL aaT)
abbrev aaV:=(bN aaU)
abbrev aaW:=(f2 hC (ab 8) aaV)
abbrev aaX:=(fB aaW)
abbrev aaY:=(fF aaX SF e9)
abbrev aaZ:=(f2 hC (ah 1 k4 V5) (f1 Mx (ah 1 k4 Sf)))
abbrev aa0:=(fB aaZ)
abbrev aa1:=(fF aa0 SF e9)
abbrev aa2:=(aa (fC (.int 1)) YC)
abbrev aa3:=(aF aa2)
abbrev Xw:=(aM aa3)
abbrev Xx:=(ah 2 m9 Vn)
abbrev aa4:=(aj 1 [7] Xw (fG 0) (λ_=>↑true) Xx)
abbrev aa5:=(bN aa4)
abbrev aa6:=(ah 2 m9 aaw)
abbrev aa7:=(ah 2 m9 aax)
abbrev aa8:=(aa aa7 af)
abbrev aa9:=(aa aa6 aa8)
abbrev aba:=(gc aa9)
abbrev abb:=(bN aba)
abbrev abc:=(f2 hC aa5 abb)
abbrev abd:=(fB abc)
abbrev abe:=(fF abd SF e9)
abbrev abf:=(aa (fC (.int 70)) zq5)
abbrev abg:=(aa (ab 0) abf)
abbrev abh:=(ah 3 aq abg)
abbrev abi:=(aD 9 [0] abh)
abbrev Xy:=(f2 aw (ab 1) (ab 9))
abbrev abj:=(aa Xy af)
abbrev Xz:=(bp bE abj)
abbrev abk:=(aa Xz af)
abbrev abl:=(aa (fC (.int 71)) abk)
abbrev abm:=(aa (ab 0) abl)
abbrev abn:=(ah 3 aq abm)
abbrev abo:=(aD 10 [0,1,9] abn)
abbrev abp:=(f2 aw Xy (ab 10))
abbrev abq:=(f2 aw abp (fC (.int 0)))
abbrev abr:=(aa (fC (.int 72)) aay)
abbrev abt:=(aa (ab 0) abr)
abbrev abu:=(ah 3 aq abt)
abbrev abv:=(f2 aC abq abu)
abbrev abw:=(aa abv af)
abbrev abx:=(aa (ab 10) abw)
abbrev aby:=(aa (ab 9) abx)
abbrev abz:=(aa (ab 1) aby)
abbrev XA:=(ah 4 gV abz)
abbrev abA:=(aD 11 [0,1,9,10] XA)
abbrev XB:=(bT aap)
abbrev abB:=(aj 1 [11] V4 (fG 0) XB (ab 0))
abbrev abC:=(bN abB)
abbrev abD:=(f2 cg abC (bN Yx))
abbrev abE:=(aK abD)
abbrev abF:=(av abA abE)
abbrev abG:=(av abo abF)
abbrev abH:=(av abi abG)
abbrev abI:=(av abe abH)
abbrev abJ:=(av aa1 abI)
abbrev abK:=(av aaY abJ)
abbrev XC:=(av aaO abK)
def su:au->Δ Out:=(av aaz (av aaA (av aaB (av (fF (nI (fB (f2 hC (ab 2) (bN (λa=>((ab 2) a).bind cT)))) aaC) SF e9) (av aaE (av (aD 4 [2,5] (f1 pJ YD)) (av (dc [2] V4 (mr 5) (av (fF (bT (fB (ah 2 cU (aa (ab 1) (aa (ab 5) af))))) SF e9) (dc [5] (bA (aa (bp bE (aa (ab 5) af)) af)) (mr 6) (fF (fU (fB (f2 za (f2 aw (ab 5) (ab 6)) (fC (.int 0)))) (fB (f2 xh (f2 aC (f2 aC (fj cn (ab 5) e8 (rK (ab 6))) (aF (aa (f2 Dl.gT (f2 aw (ab 5) (ab 6)) (fC (.int 1))) af))) (fj cn (ab 5) (rK (f2 aC (ab 6) (fC (.int 1)))) e8)) (ab 4)))) SF e9)))) (av aaG (av (fF (nI (fB (f2 hC (bN (λa=>(YE a).bind jn)) (ah 1 cA V5))) Xu) SF e9) XC)))))))))
def gZ:Γ D->Δ D:=aS su 12
end Pg
namespace Rg0
open PySem L2 Dl Rf PySem.Spec PyProof.Rows
abbrev FT:=Γ (Str×Nat×(Γ D->Δ D))
def Os(st:Ω):Γ Str:=((aG st).names.filter λy=>y.2 == .local || y.2 == .cell).map (·.1)
structure Ok(P:Program)(w:World)(K:W.Frag)(mg:Str->Option Value)(base:Heap)(is:List (Str×Int))(j:Nat)(l:FT):Prop where
 of:pU P w K mg base j l
 oi:mf mg is
 ob:∀x∈dq,mg x=none
 os:∃h:ι,K.In h/\h.Ns mainGlobals mg
section
variable {K:Φ}{st:Ω}{l:FT}
def up(h:Ok P w K mg base is j l)(e:j<=k):Ok P w K mg base is k l:=⟨λx n m z=>(h.of x n m z).mono e,h.oi,h.ob,h.os⟩
def NF(h:Ok P w K mg base is j l)(F:DK P w K mg base j x n m):Ok P w K mg base is j ((x,n,m)::l):=⟨NL F h.of,h.oi,h.ob,h.os⟩
def Qg(h:Ok P w K mg base is j l)(D:ja K x st ps):Hq K mg x st ps:=let ⟨_,a,b⟩:=h.os;D.mg a b
def Qt(h:Ok P w K mg base is j l)(D:oM K x st ps):L4 K mg x st ps:=let ⟨_,a,b⟩:=h.os;D.mg a b
def fst(a:sc.kind=.function:=by kernel_rfl)(b:sc.isCoroutine=false:=by kernel_rfl)(c:sc.isGenerator=false:=by kernel_rfl)(d:N.Nodup:=by decide +kernel)(e:N.take P.length=P:=by kernel_rfl)(f:∀x∈P,sc.names.lookup x=↑.local \/ sc.names.lookup x=↑.cell:=by decide +kernel)(g:∀y∈sc.names,y.2≠.free:=by decide +kernel):d6 N P sc:=⟨a,b,c,d,e,f,g⟩
abbrev Pt(st:Ω)(n:Nat):Γ Str:=(Os st).take n
def on(st:Ω)(D:ja K x st (Pt st n))(h:Ok P w K mg base is j l)(t:tW st (Os st) ⟨l,is⟩ none=↑g:=by kernel_rfl)(F:d6 (Os st) (Pt st n) (aG st):=by exact fst)(e:(Pt st n).length=n:=by kernel_rfl)(E:(Os st).length=k:=by kernel_rfl):Ok P w K mg base is (j+1) ((x,n,aS g k)::l):=by
 have:=NF (up h (Nat.le_succ j)) (Qs (Qg h D) F h.ob h.of h.oi t);rw[e,E] at this;exact this
def ol(st:Ω)(N:Γ Str)(q:Str)(D:oM K x st (N.take n))(h:Ok P w K mg base is j l)(t:tW st N ⟨l,is⟩ (↑q)=↑g:=by kernel_rfl)(F:d6 N (N.take n) (aG st):=by exact fst)(H:x∈js/\x++".<locals>."++"<lambda>"=q:=by decide +kernel)(e:(N.take n).length=n:=by kernel_rfl)(E:N.length=k:=by kernel_rfl):Ok P w K mg base is (j+4) ((x,n,aS g k)::l):=by
 have:=NF (up h (jW j 4)) (Qa (Qt h D) F h.ob h.of h.oi H t);rw[e,E] at this;exact this
end
end Rg0
namespace K33
open PySem L2 Dl PySem.Spec PyProof.Rows
open Pg Rg0
abbrev gi:Γ (Str×Int):=[("MOST_PLACES",4),("MOST",9),("MOST_LISTED",3000)]
abbrev Ls:FT:=("_law_world",3,cF)::("_law_orders",3,bJ)::("_law_drawn",3,aq)::("_law_cell",2,eh)::("with_amount",4,gV)::("with_end",5,lL)::("short",2,m9)::("totals",1,k4)::("through_all",3,dP)::("always",1,mD)::("is_alike",2,ml)::("all_rests",1,cA)::("all_plans",1,eB)::("within_limits",1,eP)::("check_many",1,iF)::("givers_best",1,dW)::("capped",2,pC)::("steps",1,tQ)::("refused",2,hZ)::("lowered",3,dO)::("limits",1,p5)::("chosen_by_all",3,bq)::("rests",2,uj)::("is_still",2,iV)::("first_leaving",2,eL)::("why_kept",3,lU)::("wants_more",4,fg)::("chosen_by",4,eC)::("ways_of",3,iq)::("turned_plan",2,gW)::("turned",1,pN)::("turned_order",1,bo)::("replaced",3,dM)::("check_place",3,gU)::("check_side",1,iS)::("check_number",2,da)::("check_whole",3,d9)::("check_plan",2,eV)::("check_world",1,d5)::("is_plan",2,cU)::("keeps_amounts",3,cN)::("through",4,cX)::("is_world",1,cO)::("liked_pairs",1,bx)::("are_parts",3,gH)::("is_way",3,kl)::("is_end",2,fM)::("are_likes",2,gD)::("is_long",3,bG)::("is_number",2,cB)::("is_whole",3,bC)::[]
def MY:Rf.tW (top 66) sS ⟨Ls,gi⟩ none=↑su:=by kernel_rfl
structure LN(K:W.Frag)(mg:Str->Option Value):Prop where
 o:∀P w base,Ok P w K mg base gi 57 Ls
 c:Hq K mg "law" (top 66) ["_law_script"]
def My{P:ε}{w:δ}{K:Φ}{m:Str->Δ Θ}{fa:Ψ}(D:LN K m)(a:m "law"=↑(.ref fa)):∃d:η,(∀ (s:Ξ) (v:Θ),BindsTo s d ⟨[v],[]⟩ [("_law_script",v)])/\∀b:ι,K.In b->b.Ns mainGlobals m->oV P w K m b MF 58 fa d ["_law_script"] (Oa K 1 gZ):=by
 let⟨f,d,M,F,B⟩:=D.c.ex;rw[a] at M;cases M;refine⟨d,λs v=>?_,λb _ _=>JI F (Rf.Qz (N:=sS)) λX p hw k T V C _ _ g H=>by subst p;subst hw;subst k;subst T;subst V;have o:=D.o X.prog X.w X.base;exact Rf.JK C o.ob o.of o.oi MY⟩;let⟨O,q,j,e,r,n,R,t,i,rfl,l,S⟩:=F.ex;exact .of_eq rfl
def walk{l:W.OpenLaw}{q:ε}{e:Γ Str}{XP:(Str->Δ Θ)->ι->Prop}{YP:δ->ι->Prop}{d:DefRec}{K:Params->Φ}{ts:Γ Ψ}(N:l.most=↑63)(Z:d.params.defaults=[])(L:d.name="law")
  (Y:∀ (w:δ) (h:ι),YP w h->(K w.params).In h/\∀P∈ts,h.get? P=↑(W.tabObj #[])) (ht:∀w:δ,nv (K w.params) ts=true) (I:∀ (w:δ) {h:ι}{g:Str->Δ Θ},(K w.params).In h->h.Ns mainGlobals g->LN (K w.params) g) (m:∀ns:Γ Int,ns.length<=63->gZ [.list (ns.map PyData.int)]=↑(.bool true)) :
  W.WalkO q e XP YP l.row.toRowW d [] (λf vs=>PySem.call f vs) :=
 FJ (n:=63) (k:=58) (x:="_law_script") (CX:=λ_=>MF) (sp:=λw=>Oa (K w.params) 1 gZ) N (by decide) Z ⟨rfl,by decide,by decide⟩ Y ht (λw g F h X G E=>My (I w X G) (by rw[<- L];exact E)) (λ_ _ a ns H T S=>Aj S T (m ns H)) λ_ _ _ _ _ z=>z
end K33
namespace Dl
open PySem L2 PySem.Spec PyProof.Rows
def vo:D->Prop|.none=>True|.bool _=>True|.int _=>True|.str x=>PyData.canLay0 (.str x)=true|_=>False
def gX(b:Nat):Nat->D->Prop
 | 0,d=>vo d
 | k+1,d=>vo d\/(∃s,(d=.list s\/d=.tuple s)/\s.length<=b/\∀x∈s,gX b k x)
def gX.leaf(h:vo d):gX b k d:=by
 cases k with
 | zero=>exact h
 | succ k=>exact .inl h
def gX.tup(H:xs.length<=b)(h:∀x∈xs,gX b k x):gX b (k+1) (.tuple xs):=.inr ⟨xs,.inr rfl,H,h⟩
def gX.lst(H:xs.length<=b)(h:∀x∈xs,gX b k x):gX b (k+1) (.list xs):=.inr ⟨xs,.inl rfl,H,h⟩
def gX.Rn(h:gX b k (.tuple xs)):∃j,k=j+1/\xs.length<=b/\∀x∈xs,gX b j x:=by
 cases k with
 | zero=>cases h
 | succ k =>
  rcases h with h|⟨y,h|h,H,a⟩
  .cases h
  .cases h
  .cases h;exact⟨k,rfl,H,a⟩
def gX.mono(H:b<=U):∀ {k K:Nat}{d:D},k<=K->gX b k d->gX U K d
 | 0,K,d,_,h=>.leaf h
 | k+1,0,d,e,h=>by lia
 | k+1,K+1,d,e,h=>by
  rcases h with h|⟨s,h,a,c⟩
  .exact .inl h
  .exact .inr ⟨s,h,yD a H,λx X=>(c x X).mono H (by lia)⟩
def Cb{b:Nat}:∀ {xs:Γ D},(∀x∈xs,PyData.canLay0 x=true/\x.depth<=k)->PyData.canLayAll0 xs=true/\PyData.depthAll xs<=k
 | [],_=>⟨by simp[PyData.canLayAll0],by simp[PyData.depthAll]⟩
 | x::xs,h=>by
  let⟨a,c⟩:=Cb (b:=b) (xs:=xs) λy H=>h y (zC _ H);let⟨A,C⟩:=h x zE;exact⟨by simp[PyData.canLayAll0,a,A],by simp[PyData.depthAll];lia⟩
def gX.lay:∀ {k:Nat}{d:D},gX b k d->PyData.canLay0 d=true/\d.depth<=k:=by
 have l:∀ {k:Nat}{d:D},vo d->PyData.canLay0 d=true/\d.depth<=k:=λ{k d} h=>by
  cases d<;>simp?[vo] at h<;>first|exact⟨h,by simp[PyData.depth]⟩|exact⟨by simp[PyData.canLay0],by simp[PyData.depth]⟩
 intro k
 induction k with
 | zero=>exactλh=>l h
 | succ k i =>
  intro d h;rcases h with h|⟨x,h,e,H⟩
  .exact l h
  .let⟨a,c⟩:=Cb (b:=b) (xs:=x) λy Y=>i (H y Y);rcases h with rfl|rfl
   .exact⟨by simp[PyData.canLay0,a],by simp[PyData.depth];lia⟩
   .exact⟨by simp[PyData.canLay0,a],by simp[PyData.depth];lia⟩
def gX.shaped(h:gX b k d)(H:k<=64):SeqAt.shaped d=true:=by
 let⟨a,c⟩:=h.lay;simp[SeqAt.shaped,a];lia
def gX.noDict(h:gX b k d):∀v,d≠.dict v:=by
 rintro v rfl;have:=h.lay.1;simp[PyData.canLay0] at this
def oQ:D->θ|.dict _=>false|_=>true
def gX.nd(h:gX b k d):oQ d=true:=by
 cases d<;>first|rfl|exact absurd rfl (h.noDict _)
def P0:D->θ|.int _=>true|.bool _=>true|_=>false
def PJ:D->θ|.bool _=>true|_=>false
def Kn:D->θ|.tuple _=>true|_=>false
def kI(h:oQ d=true):uh (gP d) "int"=↑(P0 d):=by cases d<;>first|cases h;done|exact Jo _ (by simp[gP])
def kB(h:oQ d=true):uh (gP d) "bool"=↑(PJ d):=by cases d<;>first|cases h;done|exact GB _ (by simp[gP])
def kT(h:oQ d=true):uh (gP d) "tuple"=↑(Kn d):=by cases d<;>first|cases h;done|exact kit_tuple _ (by simp[gP])
def whole(a b:Int):D->θ|.int i=>decide (a<=i)&&decide (i<=b)|_=>false
def tj:∀ {ds:Γ D},(∀d∈ds,∃ρ',tgt ρ d=↑ρ'/\te ρ'=↑(h d))->cq tgt (λ_=>↑true) te ρ ds=↑(ds.map h)
 | [],_=>rfl
 | d::ds,H=>by
  let⟨ρ',a,b⟩:=H d zE;have i:=tj (ds:=ds) λy Y=>H y (zC _ Y);unfold cq;rw[a];simp[b,i]
def mC:∀ {ds:Γ D},(∀d∈ds,∃ρ',tgt ρ d=↑ρ'/\tt ρ'=↑(p d)/\(p d=true->te ρ'=↑(h d)))->cq tgt tt te ρ ds=↑((ds.filter p).map h)
 | [],_=>rfl
 | d::ds,a=>by
  let⟨ρ',b,c,e⟩:=a d zE;have i:=mC (ds:=ds) λy Y=>a y (zC _ Y);unfold cq;rw[b];simp?[zA,c];cases H:p d with
  | true=>rw[yM rfl,e H];simp[i,jY,H]
  | false=>simp[i,jY,H]
def oE:∀ds:Γ D,boolsOf (ds.map λd=>.bool (p d))=↑(ds.map p)
 | []=>rfl
 | d::ds=>by simp[boolsOf,oE ds]
def mP(ds:Γ D):jw [.list (ds.map λd=>.bool (p d))]=↑(.bool (ds.all p)):=by
 simp?[jw,oneOf,zA,oE,zB,List.all_map];rfl
def aZ(h:ds.length<=4000):small ds=↑ds:=yM (yD h (by decide))
def mM{ds:Γ D}{i:Nat}(h:i < ds.length):ud ds (i:Nat)=↑(ds.getD i .none):=by
 have:=uP (xs:=ds) (j:=i) (v:=ds[i]) (List.getElem?_eq_some_iff.mpr ⟨h,rfl⟩);rw[this];simp[List.getD,h]
def BK{ds:Γ D}(h:0 < ds.length):ud ds 0=↑(ds.getD 0 .none):=mM (i:=0) h
def wu{ds:Γ D}(h:1 < ds.length):ud ds 1=↑(ds.getD 1 .none):=mM (i:=1) h
def JJ{ds:Γ D}(h:2 < ds.length):ud ds 2=↑(ds.getD 2 .none):=mM (i:=2) h
end Dl
namespace Wm
open PySem L2 Dl PySem.Spec PyProof.Rows Pg
variable {cs:Γ Nat}{mo:Int}{i7 i5:Nat}
def xv(H:fa ρ=↑(.int a))(B:fb ρ=↑(.int i))(hc:fc ρ=↑(.int b)):kc Cr Cr fa fb fc ρ=↑(.bool (decide (a<=i)&&decide (i<=b))):=by
 simp?[kc,H,B,hc,zA,Cr,vg,xI];by_cases h:a<=i<;>simp[h]
def my(i j:Int):Dl.gT (.int i) (.int j)=↑(.int (i - j)):=rfl
def eE(i j:Int):Dl.aC (.int i) (.int j)=↑(.int (i+j)):=rfl
def ug(d:D):Slot.all (.val d)=↑d:=rfl
def vf(ds:Γ D):Slot.all (.own ds)=↑(.list ds):=rfl
def B9:Slot.all .QB=none:=rfl
def A9(d:D):Slot.RC (.val d)=↑d:=rfl
def BA(ds:Γ D):Slot.RC (.own ds)=none:=rfl
def Cf:Slot.RC .QB=none:=rfl
local macro_rules|`(tactic| simp! [$ts,*])=>`(tactic| simp only[aS,av,fF,aK,e9,nI,fU,bT,fB,gB,J8,ab,fC,lu,Qu,Pd,NH,f1,f2,my,eE,aa,af,ah,bp,m8,bE,eK,oneOf,gq,aV,ug,vf,B9,A9,BA,Cf,aM,bN,br,aF,gc,aw,  zI,yV,xG,xP,zL,xM,List.replicate,xR,yZ,qH,kO,zA,Option.bind_none,zB,Option.map_none,Nat.reduceAdd,Nat.reduceSub,jE,Nat.sub_self,xI,reduceIte,$ts,*])
def fW(h:oQ d=true)(a b:Int):bC [d,.int a,.int b]=↑(.bool (whole a b d)):=by
 simp! [bC,pY,kI h,kB h];cases d<;>simp[P0,PJ,whole];rw[xv rfl rfl rfl]
def jq(h:oQ d=true)(n:Int):cB [d,.int n]=↑(.bool (whole 0 (n - 1) d)):=by
 simp! [cB,oT,fW h]
def long(a b:Int):D->θ|.tuple d=>decide (a<=(d.length:Int))&&decide ((d.length:Int)<=b)|_=>false
def dD(h:oQ d=true)(a b:Int):bG [d,.int a,.int b]=↑(.bool (long a b d)):=by
 simp! [bG,sv,kT h];cases d<;>simp[Kn,long];rw[xv rfl (i:=_) rfl rfl]
def ix:D->Int|.int i=>i|_=>0
def fH(h:whole a b d=true):d=.int (ix d)/\a<=ix d/\ix d<=b:=by
 cases d<;>simp[whole] at h;exact⟨rfl,h⟩
def l4:∀ {l:Γ D},l.all (whole a b)=true->l=(l.map ix).map PyData.int
 | [],_=>rfl
 | d::l,h=>by
  rw[xU,zF] at h;rw[zI,zI,<- (fH h.1).1,<- l4 h.2]
def iB(n:Int):D->θ|.tuple l=>l.all (whole 0 (n - 1))&&decide ((l.map ix).Nodup)|_=>false
def dw(i j:Int):cg (.int i) (.int j)=↑(.bool (decide (i=j))):=by
 simp[cg,LH,SeqAt.shaped,PyData.canLay0,PyData.depth,PyData.eqv];rfl
def DD(h:U.all (whole a b)=true)(hl:U.length<=1000):f2 cg (f1 lg (λ_=>↑(.tuple U))) (bp bE (aa (λ_=>↑(.tuple U)) af)) []=↑(.bool (decide ((U.map ix).Nodup))):=by
 have e:=l4 h;have E:lg (.tuple U)=↑(.int (many (U.map ix))):=by
  simp?[lg,bQ]
  conv=>lhs;rw[e]
  rw[cC,zA,yM];rw[zD];exact jA (Nat.add_le_add_right hl 1) (by decide)
 simp! [E,dw];have:=A0 (U.map ix);rw[zD] at this;simp?[<- this,Int.ofNat_inj,yL,PyData.bool.injEq]
def MT(r:Dl.Env)(d:D):fG 0 (none::r) d=↑(↑d::r):=by simp[fG,isFree]
def bR(R:fi ρ=↑ds)(hl:ds.length<=4000)(a:∀d∈ds,te (↑d::cs.map λj=>(ρ[j]?).getD none)=↑(h d)):aj 1 cs fi (fG 0) (λ_=>↑true) te ρ=↑(ds.map h):=by
 simp?[aj,R,zA,dz,List.replicate,xG,xP];rw[tj (h:=h) λd H=>⟨_,MT _ d,a d H⟩,zA,aZ (by rw[zD];exact hl)]
def mw(R:fi ρ=↑ds)(hl:ds.length<=4000)
  (P:∀d∈ds,tt (↑d::cs.map λj=>(ρ[j]?).getD none)=↑(p d)) (a:∀d∈ds,p d=true->te (↑d::cs.map λj=>(ρ[j]?).getD none)=↑(h d)):aj 1 cs fi (fG 0) tt te ρ=↑((ds.filter p).map h):=by
 simp?[aj,R,zA,dz,List.replicate,xG,xP];rw[mC (p:=p) (h:=h) λd H=>⟨_,MT _ d,P d H,a d H⟩,zA,aZ (by rw[zD];exact yD (xQ _ _) hl)]
def yn(h:gX b k d)(H:b<=1000)(n:Int):gD [d,.int n]=↑(.bool (iB n d)):=by
 simp! [gD,oH,kT h.nd];cases d<;>try (simp[Kn,iB];done)
 rename_i l;let⟨j,rfl,L,f⟩:=h.Rn;have c:=bR (cs:=[1]) (fi:=aM (ab 0)) (te:=(ah 2 cB (aa (ab 0) (aa (ab 1) af)))) (h:=λx=>.bool (whole 0 (n - 1) x)) (ρ:=[↑(.tuple l),↑(.int n)]) rfl (by lia) λx X=>by simp! [jq (f x X).nd]
 simp! [Kn,xZ,yP,c,mP];cases e:l.all (whole 0 (n - 1)) with
 | false=>simp[iB,e]
 | true =>
  have:=DD e (yD L H);simp?[f2,f1,bp,aa,af,zA,zB] at this;simp! [iB,e,xZ,yP,jM];simp?[bE,eK,oneOf,zA,gq,zB] at this;simp! [this]
def placeOk(n:Int):D->θ|.tuple d=>decide (d.length=2)&&(whole 0 9 (d.getD 0 .none)&&iB n (d.getD 1 .none))|_=>false
def i6(g t:Int):D->θ|.tuple d=>decide (d.length=3)&&(whole 0 (g - 1) (d.getD 0 .none)&&(whole 0 (t - 1) (d.getD 1 .none)&&whole 1 9 (d.getD 2 .none)))|_=>false
def tR(n:Nat)(ds:Γ D):long (n:Int) (n:Int) (.tuple ds)=decide (ds.length=n):=by
 simp?[long];by_cases h:ds.length=n
 .simp[h]
 .rw[zZ h,Bool.and_eq_false_iff,xC,xC];lia
def getD_mem{ds:Γ D}{i:Nat}(h:i < ds.length):ds.getD i .none∈ds:=by simp[List.getD,h]
def v9{b:Nat}(h:gX b k d)(H:b<=1000)(n:Int):fM [d,.int n]=↑(.bool (placeOk n d)):=by
 simp! [fM,xc,dD h.nd];cases d<;>try (simp[long,placeOk];done)
 rename_i s;let⟨j,rfl,l,f⟩:=h.Rn;rw[show long 2 2 (.tuple s)=decide (s.length=2) from tR 2 s];by_cases e:s.length=2
 .have F:=f _ (getD_mem (i:=0) (by lia));have a:=f _ (getD_mem (i:=1) (by lia));simp! [e,jR,BK (show 0 < s.length by lia),wu (show 1 < s.length by lia),fW F.nd,yn a H,placeOk];cases whole 0 9 (s.getD 0 .none)<;>simp
 .simp[e,placeOk]
def Ek{b:Nat}(h:gX b k d)(H:b<=1000)(g t:Int):kl [d,.int g,.int t]=↑(.bool (i6 g t d)):=by
 simp! [kl,xr,dD h.nd];cases d<;>try (simp[long,i6];done)
 rename_i s;let⟨j,rfl,l,f⟩:=h.Rn;rw[show long 3 3 (.tuple s)=decide (s.length=3) from tR 3 s];by_cases e:s.length=3
 .have F:=f _ (getD_mem (i:=0) (by lia));have a:=f _ (getD_mem (i:=1) (by lia));have W:=f _ (getD_mem (i:=2) (by lia));simp! [e,jR,xZ,yP,BK (show 0 < s.length by lia),wu (show 1 < s.length by lia),JJ (show 2 < s.length by lia),fW W.nd,jq F.nd,jq a.nd,i6];cases whole 0 (g - 1) (s.getD 0 .none)<;>cases whole 0 (t - 1) (s.getD 1 .none)<;>simp
 .simp[e,i6]
def cw:D->Γ D|.tuple d=>d|_=>[]
def nQ(d:D):θ:=long 1 4 d
def iY(g t w:D):θ:=nQ g&&(nQ t&&((cw g).all (placeOk (cw t).length)&&((cw t).all (placeOk (cw g).length)&&(Kn w&&(cw w).all (i6 (cw g).length (cw t).length)))))
def kb(h:long a b d=true):d=.tuple (cw d):=by cases d<;>first|rfl|cases h
def oO(G:gX b k g)(ht:gX b k t)(hw:gX b k w)(B:b<=1000):gH [g,t,w]=↑(.bool (iY g t w)):=by
 simp! [gH,oP,dD G.nd,dD ht.nd,kT hw.nd];unfold iY nQ;cases E:long 1 4 g with
 | false=>simp
 | true =>
  cases i:long 1 4 t with
  | false=>simp
  | true =>
   obtain⟨s,rfl⟩:∃s,g=.tuple s:=⟨_,kb E⟩
   obtain⟨T,rfl⟩:∃T,t=.tuple T:=⟨_,kb i⟩
   let⟨j,rfl,l,f⟩:=G.Rn;let⟨q,J,L,F⟩:=ht.Rn;have C:=bR (cs:=[1]) (fi:=aM (ab 0)) (te:=(ah 2 fM (aa (ab 0) (aa (bp bE (aa (ab 1) af)) af)))) (h:=λx=>.bool (placeOk T.length x)) (ρ:=[↑(.tuple s),↑(.tuple T),↑w]) rfl (by lia) λx H=>by simp! [v9 (f x H) B]
   have d:=bR (cs:=[0]) (fi:=aM (ab 1)) (te:=(ah 2 fM (aa (ab 0) (aa (bp bE (aa (ab 1) af)) af)))) (h:=λx=>.bool (placeOk s.length x)) (ρ:=[↑(.tuple s),↑(.tuple T),↑w]) rfl (by lia) λx H=>by simp! [v9 (F x H) B]
   simp! [xZ,yP,C,mP,cw,jM];cases o:s.all (placeOk T.length) with
   | false=>simp
   | true =>
    simp! [xZ,yP,d,mP,jM];cases p:T.all (placeOk s.length) with
    | false=>simp
    | true =>
     cases c:Kn w with
     | false=>simp! [xZ,yP,kT hw.nd,c,wC,Bool.and_false]
     | true =>
     obtain⟨W,rfl⟩:∃W,w=.tuple W:=by cases w<;>first|exact⟨_,rfl⟩|cases c
     let⟨r,m,n,a⟩:=hw.Rn;have e:=bR (cs:=[0,1]) (fi:=aM (ab 2)) (te:=(ah 3 kl (aa (ab 0) (aa (bp bE (aa (ab 1) af)) (aa (bp bE (aa (ab 2) af)) af))))) (h:=λx=>.bool (i6 s.length T.length x)) (ρ:=[↑(.tuple s),↑(.tuple T),↑(.tuple W)]) rfl (by lia) λx H=>by simp! [Ek (a x H) B]
     simp! [xZ,yP,e,mP,jM,kT hw.nd,Kn]
def nC:∀ (a b:Γ Int),PyData.eqvAll (a.map PyData.int) (b.map PyData.int)=decide (a=b)
 | [],[]=>by simp[PyData.eqvAll]
 | [],_::_=>by simp[PyData.eqvAll]
 | _::_,[]=>by simp[PyData.eqvAll]
 | i::a,j::b=>by
  rw[zI,zI,PyData.eqvAll,nC a b];by_cases h:i=j
  .subst h;simp[PyData.eqv]
  .simp[PyData.eqv,h]
def rJ:∀ (a b:Γ (Γ Int)),PyData.eqvAll (a.map ae) (b.map ae)=decide (a=b)
 | [],[]=>by simp[PyData.eqvAll]
 | [],_::_=>by simp[PyData.eqvAll]
 | _::_,[]=>by simp[PyData.eqvAll]
 | x::a,y::b=>by
  rw[zI,zI,PyData.eqvAll,rJ a b,ae,ae,PyData.eqv,nC];by_cases h:x=y
  .subst h;simp
  .simp[h]
def gn(i:Int):gX b k (.int i):=.leaf trivial
def oY(h:r.length<=b):gX b (k+1) (ae r):=.tup (by rw[zD];exact h) λx H=>by
 let⟨i,_,rfl⟩:=List.mem_map.mp H;exact gn i
def F3{b k:Nat}{a:Γ (Γ Int)}(h:a.length<=b)(H:∀r∈a,r.length<=b):gX b (k+2) (.list (a.map ae)):=.lst (by rw[zD];exact h) λx X=>by
 let⟨r,R,rfl⟩:=List.mem_map.mp X;exact oY (H r R)
def CY(a:Γ (Γ Int)):∃b,a.length<=b/\∀r∈a,r.length<=b:=by
 induction a with
 | nil=>exact⟨0,yN _,λr h=>by cases h⟩
 | cons x a i =>
  let⟨b,d,c⟩:=i;refine⟨b+1+x.length,by rw[zL];lia,λr H=>?_⟩;rcases List.mem_cons.mp H with rfl|H
  .lia
  .have:=c r H;lia
def gg(a:Γ (Γ Int)):SeqAt.shaped (.list (a.map ae))=true:=by
 let⟨b,H,c⟩:=CY a;exact (F3 (b:=b) (k:=0) H c).shaped (by decide)
def Dh(a b:Γ (Γ Int)):cg (.list (a.map ae)) (.list (b.map ae))=↑(.bool (decide (a=b))):=by
 simp?[cg,LH,gg,jQ,xI,PyData.eqv,rJ,zB]
def ke(d:D):Γ Int:=(cw ((cw d).getD 1 .none)).map ix
def iT(h:placeOk n d=true):∃a ds,d=.tuple ds/\ds.length=2/\ds.getD 0 .none=.int a/\0<=a/\a<=9/\ds.getD 1 .none=.tuple ((ke d).map PyData.int)/\(ke d).Nodup/\∀j∈ke d,0<=j/\j<=n - 1:=by
 cases d<;>simp?[placeOk] at h<;>try cases h
 rename_i ds;simp?[zF,zJ] at h;let⟨b,c,H⟩:=h;have e:ke (.tuple ds)=(cw (ds.getD 1 .none)).map ix:=rfl;rw[e];generalize L:ds.getD 1 .none=l at H;cases l<;>simp?[iB] at H<;>try cases H
 rename_i s;simp?[zF,zJ] at H;let⟨w,W,f⟩:=fH c;refine⟨_,ds,rfl,b,w,W,f,?_,H.2,λj J=>?_⟩
 .rw[show cw (.tuple s)=s from rfl,<- l4 H.1];exact L
 .let⟨x,X,rfl⟩:=List.mem_map.mp J;exact (fH (List.all_eq_true.mp H.1 x X)).2
def mv(k:Nat):Γ D->Γ (Γ Int)|[]=>[]|p::s=>(ke p).map (λj=>[((k:Nat):Int),j])++mv (k+1) s
def p8:∀ (n:Nat) {l:Γ Int},l.Nodup->(∀j∈l,0<=j/\j<=(n:Int) - 1)->l.length<=n:=by
 intro n l N h;have s:l.map Int.toNat ⊆ List.range n:=λx H=>by
  let⟨j,J,rfl⟩:=List.mem_map.mp H;have:=h j J;exact List.mem_range.mpr (by lia)
 have T:(l.map Int.toNat).Nodup:=by
  refine List.pairwise_map.mpr (N.imp_of_mem λ{x y} H Y Q e=>Q ?_);have:=h x H;have:=h y Y;lia
 have:=List.Nodup.length_le_of_subset T s;simpa using this
def ur{n:Nat}:∀ {ps:Γ D}{k:Nat},(∀p∈ps,placeOk n p=true)->(mv k ps).length<=ps.length * n
 | [],k,_=>xW _
 | p::ps,k,h=>by
  let⟨_,_,_,_,_,_,_,_,H,r⟩:=iT (h p zE);have a:=p8 n H r;have b:=ur (ps:=ps) (k:=k+1) λq Q=>h q (zC _ Q);rw[mv,zN,zD,zL,Nat.succ_mul];lia
def pB:au->Δ Out:=tV 1 [2,3] (aj 1 [2] (aM (f2 aw (ab 3) (fC (.int 1)))) (fG 0) (λ_=>↑true) (aF (aa (ab 1) (aa (ab 0) af))))
def LI{n:Nat}{p:D}{acc:Γ D}(P:placeOk n p=true)(N:n<=100)(A:acc.length<=1000):pB [.val x,.own acc,.val (.int (k:Nat)),.val p]=↑(.nx [.val x,.own (acc++((ke p).map λj=>ae [((k:Nat):Int),j])),.val (.int (k:Nat)),.val p]):=by
 let⟨a,d,rfl,L,_,_,_,H,T,r⟩:=iT P;have B:=p8 n T r;generalize ke (.tuple d)=l at *;have c:=bR (cs:=[2]) (fi:=aM (f2 aw (ab 3) (fC (.int 1)))) (te:=aF (aa (ab 1) (aa (ab 0) af))) (h:=λy=>.tuple [.int (k:Nat),y]) (ρ:=[↑x,none,↑(.int (k:Nat)),↑(.tuple d)]) (ds:=l.map PyData.int)
  (by simp! [wu (show 1 < d.length by lia),H]) (by rw[zD];lia) λy Y=>by
   simp! [aZ (show [PyData.int (k:Nat),y].length<=4000 by simp)]
 have b:hand [2,3] 0 [Slot.val x,.own acc,.val (.int (k:Nat)),.val (.tuple d)]=[Slot.val x,.own acc,.val (.int (k:Nat)),.val (.tuple d)]:=rfl;simp?[pB,tV,b,bV,zI,yV,Slot.RC,c,zA,oh,yZ,xR];rw[yM]
 .simp?[zB,yX,yW,zM];rfl
 .simp?[zD];exact yD (show acc.length+l.length<=1100 by lia) (by decide)
def tI{n:Nat}(H:n<=100):∀ {ps:Γ D}{k:Nat}{acc:Γ D}{s2 s3:Slot},(∀p∈ps,placeOk n p=true)->acc.length+ps.length * n<=1000 ->
  ∃t T,cG (iN 2 3) pB (bw k ps) [.val x,.own acc,s2,s3]=↑(.nx [.val x,.own (acc++(mv k ps).map ae),t,T])
 | [],k,acc,s2,s3,_,_=>⟨s2,s3,by simp[bw,cG,mv]⟩
 | p::ps,k,acc,s2,s3,h,l=>by
  have P:=h p zE;let⟨_,_,_,_,_,_,_,_,a,r⟩:=iT P;have b:=p8 n a r;rw[zL,Nat.succ_mul] at l;let⟨t,T,e⟩:=tI H (x:=x) (ps:=ps) (k:=k+1) (acc:=acc++((ke p).map λj=>ae [((k:Nat):Int),j])) (s2:=.val (.int (k:Nat))) (s3:=.val p) (λq Q=>h q (zC _ Q)) (by rw[zN,zD];lia);refine⟨t,T,?_⟩;have s:iN 2 3 [.val x,.own acc,s2,s3] (.tuple [.int (k:Nat),p])=↑[.val x,.own acc,.val (.int (k:Nat)),.val p]:=rfl;simp?[bw,cG,s,zA,LI P H (show acc.length<=1000 by lia)];rw[e];simp[mv,zM,wZ]
def Bb{n:Nat}{ps:Γ D}(h:∀p∈ps,placeOk n p=true)(N:n<=100)(hl:ps.length * n<=1000):bx [.tuple ps]=↑(.list ((mv 0 ps).map ae)):=by
 let⟨t,T,e⟩:=tI N (x:=.tuple ps) (k:=0) (acc:=[]) (s2:=.QB) (s3:=.QB) h (by simpa using hl);have s:aN 1 [] (gc af) [Slot.val (.tuple ps),.QB,.QB,.QB]=↑(.nx [.val (.tuple ps),.own [],.QB,.QB]):=rfl;have H:hand [0] 0 [Slot.val (.tuple ps),.own [],.QB,.QB]=[Slot.val (.tuple ps),.own [],.QB,.QB]:=rfl;have f:bj (aa (ab 0) af) (bV [Slot.val (.tuple ps),.own [],.QB,.QB])=↑(bw 0 ps):=rfl;simp! [bx,lJ,s,dc,H,f];rw[show tV 1 [2,3] (aj 1 [2] (aM (f2 aw (ab 3) (fC (.int 1)))) (fG 0) (λ_=>↑true) (aF (aa (ab 1) (aa (ab 0) af))))=pB from rfl,e];simp! []
def eR(d:D):Γ Int:=[ix ((cw d).getD 0 .none),ix ((cw d).getD 1 .none)]
def Ao(h:i6 g t d=true):∃ds c,d=.tuple ds/\ds.length=3/\ds.getD 0 .none=.int (ix (ds.getD 0 .none))/\ds.getD 1 .none=.int (ix (ds.getD 1 .none))/\ds.getD 2 .none=.int c/\1<=c/\c<=9 /\
  0<=ix (ds.getD 0 .none)/\ix (ds.getD 0 .none)<=g - 1/\0<=ix (ds.getD 1 .none)/\ix (ds.getD 1 .none)<=t - 1:=by
 cases d<;>simp?[i6] at h<;>try cases h
 rename_i ds;simp?[zF,zJ] at h;let⟨H,e,f,i⟩:=h;have a:=fH e;have b:=fH f;have c:=fH i;exact⟨ds,_,rfl,H,a.1,b.1,c.1,c.2.1,c.2.2,a.2.1,a.2.2,b.2.1,b.2.2⟩
def zk(g t w:D):θ:=decide ((cw w).map eR=Ra (mv 0 (cw g)))&&decide ((cw w).map eR=Ra ((mv 0 (cw t)).map List.reverse))
def Oy(d:D):θ:=long 3 3 d&&(iY ((cw d).getD 0 .none) ((cw d).getD 1 .none) ((cw d).getD 2 .none)&&zk ((cw d).getD 0 .none) ((cw d).getD 1 .none) ((cw d).getD 2 .none))
def lj:∀ {ps:Γ D}{k:Nat},∀r∈mv k ps,∃i j,r=[i,j]
 | [],k,r,h=>by cases h
 | p::ps,k,r,h=>by
  rcases List.mem_append.mp h with h|h
  .let⟨j,_,rfl⟩:=List.mem_map.mp h;exact⟨_,_,rfl⟩
  .exact lj r h
def mT(h:∀r∈a,∃i j,r=[i,j])(hl:a.length < 64):cL [.list (a.map ae)]=↑((Ra a).map ae):=by
 have:∀n∈a,n≠[]:=λn H=>by let⟨i,j,rfl⟩:=h n H;exact List.cons_ne_nil _ _
 simp?[cL,oneOf,zA,iy this,yM hl]
def sk:∀ {a:Γ (Γ Int)},(∀r∈a,∃i j,r=[i,j])->cq (fy 0 1) (λ_=>↑true) (aF (aa (ab 1) (aa (ab 0) af))) [none,none] (a.map ae)=↑((a.map List.reverse).map ae)
 | [],_=>rfl
 | r::a,h=>by
  let⟨i,j,rfl⟩:=h r zE;have I:=sk (a:=a) λq H=>h q (zC _ H);have e:fy 0 1 [none,none] (ae [i,j])=↑[↑(.int i),↑(.int j)]:=rfl;rw[zI,cq,e,zA,zA,yM rfl,I];simp! [aZ (show [PyData.int j,.int i].length<=4000 by simp)];rfl
def Dx{a:Γ (Γ Int)}(R:fi ρ=↑(a.map ae))(hl:a.length<=4000)(h:∀r∈a,∃i j,r=[i,j]):aj 2 [] fi (fy 0 1) (λ_=>↑true) (aF Vn) ρ=↑((a.map List.reverse).map ae):=by
 simp?[aj,R,zA,dz,List.replicate,xG,xP,yV];rw[sk h,zA,aZ (by rw[zD,zD];exact hl)]
def yp(h:iY g t w=true):∃s ts W,g=.tuple s/\t=.tuple ts/\w=.tuple W/\1<=s.length/\s.length<=4/\1<=ts.length/\ts.length<=4/\(∀p∈s,placeOk ts.length p=true)/\(∀p∈ts,placeOk s.length p=true)/\∀x∈W,i6 s.length ts.length x=true:=by
 simp?[iY,nQ,zF] at h;let⟨H,a,b,c,d,f⟩:=h;cases w<;>try cases d
 rename_i W;have e:=kb H;have E:=kb a;generalize cw g=s at *;generalize cw t=ts at *;subst e E;simp?[long,zF,zJ] at H a;exact⟨s,ts,W,rfl,rfl,rfl,by lia,by lia,by lia,by lia,List.all_eq_true.mp b,List.all_eq_true.mp c,List.all_eq_true.mp f⟩
def Al{b:Nat}(h:gX b k d)(B:b<=1000):cO [d]=↑(.bool (Oy d)):=by
 unfold Oy;cases e:long 3 3 d with
 | false=>simp! [cO,iX,dD h.nd,e,Bool.not_false,wC]
 | true =>
  obtain⟨s,rfl⟩:∃s,d=.tuple s:=⟨_,kb e⟩
  let⟨j,rfl,hl,f⟩:=h.Rn;rw[show long 3 3 (.tuple s)=decide (s.length=3) from tR 3 s,zJ] at e;have F:=f _ (getD_mem (i:=0) (by lia));have o:=f _ (getD_mem (i:=1) (by lia));have S:=f _ (getD_mem (i:=2) (by lia));have I:=BK (show 0 < s.length by lia);have m:=wu (show 1 < s.length by lia);have n:=JJ (show 2 < s.length by lia);have L:bG [.tuple s,.int 3,.int 3]=↑(.bool true):=by rw[dD rfl,show long 3 3 (.tuple s)=decide (s.length=3) from tR 3 s,yA e]
  rw[show cw (.tuple s)=s from rfl,jM];generalize hg:s.getD 0 .none=g at *;generalize ht:s.getD 1 .none=t at *;generalize hw:s.getD 2 .none=w at *;cases E:iY g t w with
  | false=>simp! [cO,iX,L,I,m,n,oO F o S B,E,Bool.not_false,xZ,wC]
  | true =>
   let⟨G,T,W,rfl,rfl,rfl,g1,p,t1,C,u,A,M⟩:=yp E;have l:=S.Rn;let⟨j2,_,W2,_⟩:=l;have q1:=ur (k:=0) u;have q2:=ur (k:=0) A;have m1:G.length * T.length<=16:=vZ p C;have m2:T.length * G.length<=16:=vZ C p;have O:=Bb u (by lia) (by lia);have U:=Bb A (by lia) (by lia);have V:=mT (a:=mv 0 G) lj (by lia);have Y:=mT (a:=(mv 0 T).map List.reverse) (λr N=>by
    let⟨q,Q,rfl⟩:=List.mem_map.mp N;let⟨i,j,rfl⟩:=lj q Q;exact⟨j,i,rfl⟩) (by rw[zD];lia)
   have D:aj 1 [] (aM (f2 aw (ab 0) (fC (.int 2)))) (fG 0) (λ_=>↑true) (aF (aa (f2 aw (ab 0) (fC (.int 0))) (aa (f2 aw (ab 0) (fC (.int 1))) af))) [↑(.tuple s),none,none,none]=↑((W.map eR).map ae):=by
    rw[bR (ds:=W) (h:=λx=>ae (eR x)) (by simp! [n]) (by lia) λx X=>?_,zM]
    .rfl
    .let⟨v,c,rfl,v3,Z,v1,_⟩:=Ao (M x X);simp! [BK (show 0 < v.length by lia),wu (show 1 < v.length by lia),aZ (show [v.getD 0 PyData.none,v.getD 1 .none].length<=4000 by simp),ae,eR,cw];rw[<- Z,<- v1]
   have J:∀x y z,aj 2 [] (aM (ah 1 bx (aa (f2 aw (ab 0) (fC (.int 1))) af))) (fy 0 1) (λ_=>↑true) (aF (aa (ab 1) (aa (ab 0) af))) [↑(.tuple s),x,y,z]=↑(((mv 0 T).map List.reverse).map ae):=λx y z =>
    Dx (by simp! [m,U]) (by lia) lj
   have P:aN 1 [0] (aj 1 [] (aM (f2 aw (ab 0) (fC (.int 2)))) (fG 0) (λ_=>↑true) (aF (aa (f2 aw (ab 0) (fC (.int 0))) (aa (f2 aw (ab 0) (fC (.int 1))) af)))) [Slot.val (.tuple s),.QB,.QB,.QB]=↑(.nx [.val (.tuple s),.own ((W.map eR).map ae),.QB,.QB]):=by
    have H:hand [0] 0 [Slot.val (.tuple s),.QB,.QB,.QB]=[Slot.val (.tuple s),.QB,.QB,.QB]:=rfl;simp?[aN,H,bV,zI,yV,Slot.RC,D,zB,yX,yW]
   have R:aN 2 [0] (m8 cL (aa (ah 1 bx (aa (f2 aw (ab 0) (fC (.int 0))) af)) af)) [Slot.val (.tuple s),.own ((W.map eR).map ae),.QB,.QB]=↑(.nx [.val (.tuple s),.own ((W.map eR).map ae),.own ((Ra (mv 0 G)).map ae),.QB]):=by
    have H:hand [0] 0 [Slot.val (.tuple s),.own ((W.map eR).map ae),.QB,.QB]=[Slot.val (.tuple s),.own ((W.map eR).map ae),.QB,.QB]:=rfl;simp?[aN,H,bV,zI,yV,Slot.RC];simp! [I,O,V,yX,yW]
   have K:aN 3 [0] (m8 cL (aa (bN (aj 2 [] (aM (ah 1 bx (aa (f2 aw (ab 0) (fC (.int 1))) af))) (fy 0 1) (λ_=>↑true) (aF (aa (ab 1) (aa (ab 0) af))))) af)) [Slot.val (.tuple s),.own ((W.map eR).map ae),.own ((Ra (mv 0 G)).map ae),.QB]
      =↑(.nx [.val (.tuple s),.own ((W.map eR).map ae),.own ((Ra (mv 0 G)).map ae),.own ((Ra ((mv 0 T).map List.reverse)).map ae)]):=by
    have H:hand [0] 0 [Slot.val (.tuple s),.own ((W.map eR).map ae),.own ((Ra (mv 0 G)).map ae),.QB]=[Slot.val (.tuple s),.own ((W.map eR).map ae),.own ((Ra (mv 0 G)).map ae),.QB]:=rfl;simp?[aN,H,bV,zI,yV,Slot.RC];simp! [J,Y,yX,yW]
   simp! [cO,iX,L,I,m,n,oO F o S B,E,xZ,yP,P,R,K,Dh,zk,cw,jM];by_cases Q:List.map eR W=Ra (mv 0 G)<;>simp[Q]
def rG(xs:Γ D):PyData.eqvAll xs []=xs.isEmpty:=by cases xs<;>simp[PyData.eqvAll]
def AS:SeqAt.shaped (.list [])=true:=by simp[SeqAt.shaped,PyData.canLay0,PyData.canLayAll0,PyData.depth,PyData.depthAll]
def Fx(h:∀x∈xs,gX b k x)(K:k<=60):cg (.list xs) (.list [])=↑(.bool xs.isEmpty):=by
 have s:SeqAt.shaped (.list xs)=true:=(gX.lst (b:=max b xs.length) (k:=k) (Nat.le_max_right _ _) λx H=>(h x H).mono (Nat.le_max_left _ _) (yN _)).shaped (by lia);simp?[cg,LH,s,AS,jQ,xI,PyData.eqv,rG,zB]
def il:small []=↑[]:=rfl
def DP(xs:Γ α)(k:Nat):cut xs none (↑(k:Int))=xs.take k:=by
 simp?[cut,HT.wo,HT.BH,List.drop_zero,Nat.sub_zero];rw[List.take_eq_take_iff];lia
def yh(xs:Γ α)(k:Nat):cut xs (↑(k:Int)) none=xs.drop k:=by
 simp?[cut,HT.wo,HT.BH];rw[kM (by rw[qJ];lia)];by_cases h:k<=xs.length
 .rw[Nat.min_eq_left h]
 .rw[Nat.min_eq_right (by lia),List.drop_of_length_le (yN _),List.drop_of_length_le (by lia)]
def gF(b:θ):gB (.bool b)=↑b:=rfl
def GX(a b:Γ Int):PyData.eqv (ae a) (ae b)=decide (a=b):=by rw[ae,ae,PyData.eqv,nC]
def He(P:Γ (Γ Int))(a:Γ Int):((P.map ae).any λz=>PyData.eqv z (ae a))=decide (a∈P):=by
 rw[wV]
 induction P with
 | nil=>simp
 | cons r P i =>
  rw[vG,i,Function.comp_apply,GX];by_cases h:r=a
  .subst h;simp
  .simp[h,jO h]
def AM(a b:D):small [a,b]=↑[a,b]:=rfl
def m6:∀ (ρ:au) (k:Nat),hand [] k ρ=ρ
 | [],k=>rfl
 | s::r,k=>by simp[hand,m6 r]
def pq:∀ {ps:Γ D}{k:Nat}{i j:Int},[i,j]∈mv k ps↔∃m p,ps[m]?=↑p/\i=((k+m:Nat):Int)/\j∈ke p
 | [],k,i,j=>by simp[mv]
 | p::ps,k,i,j=>by
  rw[mv,List.mem_append,pq (ps:=ps)];constructor
  .rintro (h|⟨m,q,H,a,b⟩)
   .let⟨y,Y,e⟩:=List.mem_map.mp h;injection e with c E
    injection E with E _
    exact⟨0,p,rfl,by simpa using c.symm,E ▸ Y⟩
   .exact⟨m+1,q,by simpa using H,by rw[a];congr 1;lia,b⟩
  .rintro⟨m,q,H,a,b⟩;cases m with
   | zero =>
    simp at H;subst H;exact .inl (List.mem_map.mpr ⟨j,b,by rw[a];rfl⟩)
   | succ m=>exact .inr ⟨m,q,by simpa using H,by rw[a];congr 1;lia,b⟩
def sf:∀ {ps:Γ D}{k:Nat},(∀p∈ps,(ke p).Nodup)->(mv k ps).Nodup
 | [],k,_=>List.nodup_nil
 | p::ps,k,h=>by
  rw[mv,wY];refine⟨List.pairwise_map.mpr ((h p zE).imp λQ e=>Q ?_),sf λq c=>h q (zC _ c),?_⟩;rotate_left
  .injection e with _ E
   injection E
  .rintro a H b B rfl;let⟨y,Y,rfl⟩:=List.mem_map.mp H;let⟨m,q,d,f,g⟩:=pq.mp B;lia
def NB(h:Dl.lexLt a b=true):lexLe a b=true:=by
 unfold lexLe;cases e:Dl.lexLt b a with
 | false=>rfl
 | true=>have:=cZ h e;rw[cP] at this;cases this
def du(h:rS i j):Dl.eu (.int i) (.int j)=↑(.int (i * j)):=by
 simp?[Dl.eu,vg,yM h,Option.some_or]
def ie(h:0 < j):Dl.lz (.int i) (.int j)=↑(.int (i % j)):=yM h
def jr(h:0 < j/\j < 1073741824):Dl.mF (.int i) (.int j)=↑(.int (i / j)):=yM h
def fu(i j:Int):Dl.za (.int i) (.int j)=↑(.bool (decide (j < i))):=rfl
def lh(i j:Int):Dl.CN (.int i) (.int j)=↑(.bool (decide (i < j))):=rfl
def lP(h:-(2 ^ 64) < i/\i < 2 ^ 64):rS i j:=.inl h
def Lw(h:-(2 ^ 64) < j/\j < 2 ^ 64):rS i j:=.inr h
def yi(i:Int):Dl.qs (.int i)=true:=rfl
def yu(i:Γ D):Dl.qs (.tuple i)=false:=rfl
def cy(ns:Γ Int):D:=.list (ns.map PyData.int)
def Ml(k:Int)(hl:ns.length<=63):∃c,eh [cy ns,.int k]=↑(.int c):=by
 have q:cg (.list (ns.map PyData.int)) (.list [])=↑(.bool ns.isEmpty):=by
  have:=Fx (b:=0) (k:=0) (xs:=ns.map PyData.int) (λx H=>by let⟨i,_,rfl⟩:=List.mem_map.mp H;exact gn i) (by decide);rw[this];cases ns<;>rfl
 by_cases n:ns=[]
 .subst n;refine⟨7 * k,?_⟩;rw[yV,List.isEmpty_nil] at q;simp! [eh,jt,cy,il,q,List.isEmpty_nil,du (lP (i:=7) (j:=k) (by decide))]
 .have S:(0:Int) < (ns.length:Int):=by have:=List.length_pos_iff.mpr n;lia
  have e:ns.isEmpty=false:=by cases ns<;>first|rfl|exact absurd rfl n
  let⟨j,J⟩:=vL (vW k (show (ns.length:Int)≠0 by lia));have Q:=vA k S;have H:ud (ns.map PyData.int) (k % (ns.length:Int))=↑(.int (ns.getD j 0)):=by
   rw[J];have:j < (ns.map PyData.int).length:=by rw[zD];lia
   rw[mM this,zG,zO,zG];rw[zK (by lia)];rfl
  refine⟨ns.getD j 0+6553 * (k / (ns.length:Int)),?_⟩;simp! [eh,jt,cy,il,q,e,yP,zD,ie S,H,jr (i:=k) (j:=(ns.length:Int)) ⟨S,by lia⟩,du (lP (i:=6553) (j:=k / (ns.length:Int)) (by decide))]
def Hj(k m:Int)(hl:ns.length<=63)(H:0 < m):∃r,aq [cy ns,.int k,.int m]=↑(.int r)/\0<=r/\r < m:=by
 let⟨c,hc⟩:=Ml k hl;have M:∀i:Int,Dl.lz (.int i) (.int 2147483563)=↑(.int (i % 2147483563)):=λi=>ie (by decide);have e:∀i:Int,Dl.lz (.int i) (.int 2147483399)=↑(.int (i % 2147483399)):=λi=>ie (by decide);have f:∀i:Int,Dl.lz (.int i) (.int 2147483647)=↑(.int (i % 2147483647)):=λi=>ie (by decide);have d:∀i:Int,Dl.mF (.int i) (.int 3)=↑(.int (i / 3)):=λi=>jr (by decide);have D:∀i:Int,Dl.mF (.int i) (.int 7)=↑(.int (i / 7)):=λi=>jr (by decide);have a:∀i:Int,Dl.mF (.int i) (.int 11)=↑(.int (i / 11)):=λi=>jr (by decide);have u:∀i:Int,Dl.eu (.int i) (.int 69069)=↑(.int (i * 69069)):=λi=>du (Lw (by decide));have U:∀i:Int,Dl.eu (.int 104723) (.int i)=↑(.int (104723 * i)):=λi=>du (lP (by decide));have b:∀x:Int,Dl.eu (.int (x % 2147483563)) (.int (x % 2147483563))=↑(.int (x % 2147483563 * (x % 2147483563))):=λx=>du (lP (by
  have:=vW x (show (2147483563:Int)≠0 by decide);have:=vA x (show (0:Int) < 2147483563 by decide);lia))
 have B:∀x:Int,Dl.eu (.int (x % 2147483399)) (.int (x % 2147483399))=↑(.int (x % 2147483399 * (x % 2147483399))):=λx=>du (lP (by
  have:=vW x (show (2147483399:Int)≠0 by decide);have:=vA x (show (0:Int) < 2147483399 by decide);lia))
 suffices h:∃x,aq [cy ns,.int k,.int m]=↑(.int (x % m)) by
  let⟨x,X⟩:=h;exact⟨_,X,vW x (show m≠0 by lia),vA x H⟩
 .refine⟨(((((c % 2147483563 * 69069+104723 * (k+1)) % 2147483563) * ((c % 2147483563 * 69069+104723 * (k+1)) % 2147483563)+((c % 2147483563 * 69069+104723 * (k+1)) % 2147483563) / 3) % 2147483399) * ((((c % 2147483563 * 69069+104723 * (k+1)) % 2147483563) * ((c % 2147483563 * 69069+104723 * (k+1)) % 2147483563)+((c % 2147483563 * 69069+104723 * (k+1)) % 2147483563) / 3) % 2147483399)+((((c % 2147483563 * 69069+104723 * (k+1)) % 2147483563) * ((c % 2147483563 * 69069+104723 * (k+1)) % 2147483563)+((c % 2147483563 * 69069+104723 * (k+1)) % 2147483563) / 3) % 2147483399) / 7) % 2147483647 / 11,?_⟩;simp! [aq,mK,hc,M,u,U,Dl.aD,yi,yX,yW,b,d,e,B,D,f,a,ie (j:=m) H]
def dr(ns:Γ Int)(k m:Int):Int:=ix ((aq [cy ns,.int k,.int m]).getD .none)
def di(k m:Int)(hl:ns.length<=63)(M:0 < m):aq [cy ns,.int k,.int m]=↑(.int (dr ns k m))/\0<=dr ns k m/\dr ns k m < m:=by
 let⟨r,H,a⟩:=Hj k m hl M;have:dr ns k m=r:=by simp?[dr,H,qH,ix]
 rw[this];exact⟨H,a⟩
def yd(k m:Int)(hl:ns.length<=63)(H:0 < m):aq [cy ns,.int k,.int m]=↑(.int (dr ns k m)):=(di k m hl H).1
def N2(k m:Int)(hl:ns.length<=63)(H:0 < m):0<=dr ns k m:=(di k m hl H).2.1
def N6(k m:Int)(hl:ns.length<=63)(H:0 < m):dr ns k m < m:=(di k m hl H).2.2
def bW(r:Γ Int):D:=.list (r.map PyData.int)
def insI(ds:Γ Int)(k:Int)(d:Int):Γ Int:=let j:=if k < 0 then (k+(ds.length:Int)).toNat else min k.toNat ds.length;ds.take j++d::ds.drop j
def CQ(ds:Γ Int)(k d:Int):Cj (ds.map PyData.int) k (.int d)=(insI ds k d).map PyData.int:=by
 simp?[Cj,insI,zD,jB,zI,List.map_take,List.map_drop]
def insI_perm(ds:Γ Int)(k d:Int):(insI ds k d).Perm (d::ds):=by
 simp?[insI];refine List.perm_middle.trans ?_;rw[List.take_append_drop]
def oB:au->Δ Out:=(D5 6 [8] (ah 3 aq (aa (ab 0) (aa (f2 aC (f2 aC (ab 1) (f2 eu (fC (.int 4)) (ab 4))) (ab 7)) (aa (f2 aC (bp bE (aa (ab 6) af)) (fC (.int 1))) af)))) (ab 8))
def Lk{s3:Slot}(hl:ns.length<=63)(o:order.length<=1000) :
  oB [.val (cy ns),.val (.int a),s2,s3,.val (.int k),s5,.own (order.map PyData.int),.val (.int j),.val (.int x)] =
   some (.nx [.val (cy ns),.val (.int a),s2,s3,.val (.int k),s5,.own ((insI order (dr ns (a+4 * k+j) ((order.length:Int)+1)) x).map PyData.int),.val (.int j),.val (.int x)]):=by
 have H:Dl.eu (.int 4) (.int k)=↑(.int (4 * k)):=du (lP (by decide));have d:=di (ns:=ns) (a+4 * k+j) ((order.length:Int)+1) hl (by lia);have r:Dj (dr ns (a+4 * k+j) ((order.length:Int)+1))=true:=by
  simp?[Dj,zF,zJ];lia
 have z:(order.map PyData.int).length < sizeLine:=by rw[zD];exact jA o (by decide)
 simp! [oB,D5,lE,yi,oh,zD,H,d.1];rw[zD] at z;simp?[r,z,jQ,xI,zB,CQ,yX,yW]
def Ed{s3:Slot}(hl:ns.length<=63):∀ {row order:Γ Int}{j:Nat}{s7 s8:Slot},order.length+row.length<=1000 ->
  ∃ (o:Γ Int) (t T:Slot),cG (iN 7 8) oB (bw j (row.map PyData.int)) [.val (cy ns),.val (.int a),s2,s3,.val (.int k),s5,.own (order.map PyData.int),s7,s8] =
   some (.nx [.val (cy ns),.val (.int a),s2,s3,.val (.int k),s5,.own (o.map PyData.int),t,T])/\o.Perm (row++order)
 | [],order,j,s7,s8,_=>⟨order,s7,s8,by simp[bw,cG],by simp⟩
 | x::row,order,j,s7,s8,h=>by
  rw[zL] at h;have H:=insI_perm order (dr ns (a+4 * k+((j:Nat):Int)) ((order.length:Int)+1)) x;have n:=H.length_eq;rw[zL] at n;let⟨o,t,T,e,p⟩:=Ed (s2:=s2) (s3:=s3) (s5:=s5) (a:=a) (k:=k) hl (row:=row) (order:=insI order (dr ns (a+4 * k+((j:Nat):Int)) ((order.length:Int)+1)) x) (j:=j+1) (s7:=.val (.int (j:Nat))) (s8:=.val (.int x)) (by lia);refine⟨o,t,T,?_,p.trans ?_⟩
  .have s:iN 7 8 [.val (cy ns),.val (.int a),s2,s3,.val (.int k),s5,.own (order.map PyData.int),s7,s8] (.tuple [.int (j:Nat),.int x])=↑[.val (cy ns),.val (.int a),s2,s3,.val (.int k),s5,.own (order.map PyData.int),.val (.int (j:Nat)),.val (.int x)]:=rfl;simp?[zI,bw,cG,s,zA,Lk hl (show order.length<=1000 by lia),e]
  .refine (H.append_left row).trans ?_;rw[xG];exact List.perm_middle
def rH:Γ (Γ Int)->Γ (Γ Int)->Prop|[],[]=>True|a::l,b::m=>a.Perm b/\rH l m|_,_=>False
def rB:au->Δ Out:=(av (aN 6 [] (gc af)) (av (dc [5] (bj (aa (ab 5) af)) (iN 7 8) oB) (lN 3 [6] (bp br (aa (ab 6) af)))))
def Mh(hl:ns.length<=63)(r:row.length<=1000)(f:found.length<=1000) :
  ∃ (o:Γ Int) (t T:Slot),rB [.val (cy ns),.val (.int a),.val rows,.own found,.val (.int k),.val (bW row),s6,s7,s8]=↑(.nx [.val (cy ns),.val (.int a),.val rows,.own (found++[ae o]),.val (.int k),.val (bW row),.val (bW o),t,T])/\o.Perm row:=by
 let⟨o,t,T,e,p⟩:=Ed (s2:=.val rows) (s3:=.own found) (s5:=.val (bW row)) (a:=a) (k:=k) hl (row:=row) (order:=[]) (j:=0) (s7:=s7) (s8:=s8) (by simpa using r);rw[qG] at p;refine⟨o,t,T,?_,p⟩;have b:aN 6 [] (gc af) [.val (cy ns),.val (.int a),.val rows,.own found,.val (.int k),.val (bW row),s6,s7,s8]=↑(.nx [.val (cy ns),.val (.int a),.val rows,.own found,.val (.int k),.val (bW row),.own [],s7,s8]):=by
  simp?[aN,m6,gc,af,zA,il,zB,yX,yW]
 have c:dc [5] (bj (aa (ab 5) af)) (iN 7 8) oB [.val (cy ns),.val (.int a),.val rows,.own found,.val (.int k),.val (bW row),.own [],s7,s8]=↑(.nx [.val (cy ns),.val (.int a),.val rows,.own found,.val (.int k),.val (bW row),.own (o.map PyData.int),t,T]):=by
  have H:hand [5] 0 [Slot.val (cy ns),.val (.int a),.val rows,.own found,.val (.int k),.val (bW row),.own [],s7,s8]=[Slot.val (cy ns),.val (.int a),.val rows,.own found,.val (.int k),.val (bW row),.own [],s7,s8]:=rfl;have q:bj (aa (ab 5) af) (bV [Slot.val (cy ns),.val (.int a),.val rows,.own found,.val (.int k),.val (bW row),.own [],s7,s8])=↑(bw 0 (row.map PyData.int)):=by
   simp?[bV,zI,yV];simp! [bj,bW]
  simp?[dc,H,q,zA];exact e
 have d:lN 3 [6] (bp br (aa (ab 6) af)) [.val (cy ns),.val (.int a),.val rows,.own found,.val (.int k),.val (bW row),.own (o.map PyData.int),t,T]=↑(.nx [.val (cy ns),.val (.int a),.val rows,.own (found++[ae o]),.val (.int k),.val (bW row),.val (bW o),t,T]):=by
  have z:found.length < sizeLine:=jA f (by decide);have H:hand [6] 0 [Slot.val (cy ns),.val (.int a),.val rows,.own found,.val (.int k),.val (bW row),.own (o.map PyData.int),t,T]=[Slot.val (cy ns),.val (.int a),.val rows,.own found,.val (.int k),.val (bW row),.val (bW o),t,T]:=rfl;simp?[lN,lE,H,bV,zI,yV];simp! [yu,yP,oh,z,yX,yW,bW,ae]
 simp?[rB,av,b,c,d,zA]
def El{rws:D}(hl:ns.length<=63):∀ {rows:Γ (Γ Int)}{found:Γ D}{k:Nat}{s4 s5 s6 s7 s8:Slot},(∀r∈rows,r.length<=1000)->found.length+rows.length<=1000 ->
  ∃ (s:Γ (Γ Int)) (t T b c d:Slot),cG (iN 4 5) rB (bw k (rows.map bW)) [.val (cy ns),.val (.int a),.val rws,.own found,s4,s5,s6,s7,s8]=↑(.nx [.val (cy ns),.val (.int a),.val rws,.own (found++s.map ae),t,T,b,c,d])/\rH s rows
 | [],found,k,s4,s5,s6,s7,s8,_,_=>⟨[],s4,s5,s6,s7,s8,by simp[bw,cG],trivial⟩
 | r::rows,found,k,s4,s5,s6,s7,s8,h,f=>by
  rw[zL] at f;let⟨o,u,U,E,P⟩:=Mh (rows:=rws) (a:=a) (k:=((k:Nat):Int)) (s6:=s6) (s7:=s7) (s8:=s8) hl (h r zE) (show found.length<=1000 by lia);let⟨s,t,T,b,c,d,e,p⟩:=El hl (rws:=rws) (a:=a) (rows:=rows) (found:=found++[ae o]) (k:=k+1) (s4:=.val (.int (k:Nat))) (s5:=.val (bW r)) (s6:=.val (bW o)) (s7:=u) (s8:=U) (λg R=>h g (zC _ R)) (by rw[zN,xD];lia);refine⟨o::s,t,T,b,c,d,?_,P,p⟩;have H:iN 4 5 [.val (cy ns),.val (.int a),.val rws,.own found,s4,s5,s6,s7,s8] (.tuple [.int (k:Nat),bW r])=↑[.val (cy ns),.val (.int a),.val rws,.own found,.val (.int (k:Nat)),.val (bW r),s6,s7,s8]:=rfl;simp?[zI,bw,cG,H,zA,E];rw[e,List.append_assoc];rfl
def yf(hl:ns.length<=63)(R:∀r∈rows,r.length<=1000)(n:rows.length<=1000):∃o:Γ (Γ Int),bJ [cy ns,.int a,.list (rows.map bW)]=↑(.list (o.map ae))/\rH o rows:=by
 let⟨o,t,T,d,f,g,e,p⟩:=El hl (rws:=.list (rows.map bW)) (a:=a) (rows:=rows) (found:=[]) (k:=0) (s4:=.QB) (s5:=.QB) (s6:=.QB) (s7:=.QB) (s8:=.QB) R (by simpa using n);refine⟨o,?_,p⟩;rw[xP] at e;have b:aN 3 [] (gc af) [.val (cy ns),.val (.int a),.val (.list (rows.map bW)),.QB,.QB,.QB,.QB,.QB,.QB]=↑(.nx [.val (cy ns),.val (.int a),.val (.list (rows.map bW)),.own [],.QB,.QB,.QB,.QB,.QB]):=by
  simp?[aN,m6,gc,af,zA,il,zB,yX,yW]
 have H:dc [2] (bj (aa (ab 2) af)) (iN 4 5) rB [.val (cy ns),.val (.int a),.val (.list (rows.map bW)),.own [],.QB,.QB,.QB,.QB,.QB]=↑(.nx [.val (cy ns),.val (.int a),.val (.list (rows.map bW)),.own (o.map ae),t,T,d,f,g]):=by
  have c:hand [2] 0 [Slot.val (cy ns),.val (.int a),.val (.list (rows.map bW)),.own [],.QB,.QB,.QB,.QB,.QB]=[Slot.val (cy ns),.val (.int a),.val (.list (rows.map bW)),.own [],.QB,.QB,.QB,.QB,.QB]:=rfl;have q:bj (aa (ab 2) af) (bV [Slot.val (cy ns),.val (.int a),.val (.list (rows.map bW)),.own [],.QB,.QB,.QB,.QB,.QB])=↑(bw 0 (rows.map bW)):=by
   simp?[bV,zI,yV];simp! [bj]
  simp?[dc,c,q,zA];exact e
 unfold rB oB at H;simp! [bJ,lI,b,H]
abbrev Pl:=Int×Γ Int
abbrev Wy:=Int×Int×Int
def aU(p:Pl):D:=.tuple [.int p.1,ae p.2]
def ao(w:Wy):D:=.tuple [.int w.1,.int w.2.1,.int w.2.2]
def ay(G T:Γ Pl)(W:Γ Wy):D:=.tuple [.tuple (G.map aU),.tuple (T.map aU),.tuple (W.map ao)]
def BF(W:Γ Wy)(i:Int):Γ Int:=(W.filter λw=>decide (w.1=i)).map λw=>w.2.1
def ofT(W:Γ Wy)(j:Int):Γ Int:=(W.filter λw=>decide (w.2.1=j)).map λw=>w.1
abbrev rZ(W:Γ Wy):Prop:=W.Pairwise λa b=>a.1 < b.1\/(a.1=b.1/\a.2.1 < b.2.1)
structure Wd(G T:List Pl)(W:List Wy):Prop where
 g1:1<=G.length
 g4:G.length<=4
 t1:1<=T.length
 t4:T.length<=4
 ga:∀p∈G,0<=p.1/\p.1<=9
 ta:∀p∈T,0<=p.1/\p.1<=9
 gl:∀ (i:Nat) (p:Pl),G[i]?=↑p->p.2.Perm (BF W i)
 tl:∀ (j:Nat) (p:Pl),T[j]?=↑p->p.2.Perm (ofT W j)
 wr:∀w∈W,(0<=w.1/\w.1 < G.length)/\(0<=w.2.1/\w.2.1 < T.length)/\1<=w.2.2/\w.2.2<=9
 wp:rZ W
 wl:W.length<=16
def uy:j∈BF W i↔[i,j]∈W.map λw=>[w.1,w.2.1]:=by
 simp?[BF,List.mem_map,List.mem_filter,zJ,kY,and_true];constructor
 .rintro⟨w,⟨H,a⟩,b⟩;exact⟨w,H,a,b⟩
 .rintro⟨w,H,a,b⟩;exact⟨w,⟨H,a⟩,b⟩
def uH:i∈ofT W j↔[i,j]∈W.map λw=>[w.1,w.2.1]:=by
 simp?[ofT,List.mem_map,List.mem_filter,zJ,kY,and_true];constructor
 .rintro⟨w,⟨H,a⟩,b⟩;exact⟨w,H,b,a⟩
 .rintro⟨w,H,a,b⟩;exact⟨w,⟨H,b⟩,a⟩
def nG(h:rZ W)(i:Int):(BF W i).Nodup:=by
 unfold BF List.Nodup;rw[jF,List.pairwise_filter];refine h.imp λR a b=>?_;rw[zJ] at a b;lia
def oq(h:rZ W)(i:Int):(ofT W i).Nodup:=by
 unfold ofT List.Nodup;rw[jF,List.pairwise_filter];refine h.imp λR a b=>?_;rw[zJ] at a b;lia
def fE(p:Pl):ke (aU p)=p.2:=by
 show ((p.2.map PyData.int).map ix)=p.2;rw[zM];exact List.map_id _
def oG(a:0<=p.1/\p.1<=9)(N:p.2.Nodup)(r:∀j∈p.2,0<=j/\j < n):placeOk n (aU p)=true:=by
 have e:(p.2.map PyData.int).map ix=p.2:=fE p;have E:(p.2.map PyData.int).all (whole 0 (n - 1))=true:=by
  rw[xH];intro x X;let⟨j,H,rfl⟩:=List.mem_map.mp X;have:=r j H;simp?[whole,zF,zJ];lia
 simp?[placeOk,aU,ae,zL,xM,wF,wG,iB,whole,e,E,a.1,a.2,N,jR,Bool.and_self]
def CM(h:(0<=w.1/\w.1 < g)/\(0<=w.2.1/\w.2.1 < t)/\1<=w.2.2/\w.2.2<=9):i6 g t (ao w)=true:=by
 let⟨⟨a,b⟩,⟨c,d⟩,e,f⟩:=h;have B:w.1<=g - 1:=by lia
 have D:w.2.1<=t - 1:=by lia
 simp?[i6,ao,zL,xM,wF,wG,whole,a,B,c,D,e,f,jR,Bool.and_self]
def Pz(h:a < c\/(a=c/\b < d)):Dl.lexLt [a,b] [c,d]=true:=by
 show HT.lexLt [a,b] [c,d]=true;rw[HT.bY];by_cases e:a=c
 .rw[yM e,HT.bY,yO (by lia)];simp?[zJ];lia
 .rw[yO e];simp?[zJ];lia
def Wd.XD(h:Wd G T W)(P:p∈G):∃i:Nat,i < G.length/\p.2.Perm (BF W i):=by
 let⟨i,H,e⟩:=qS P;exact⟨i,H,h.gl i p (by rw[zK H,e])⟩
def Wd.XF(h:Wd G T W)(P:p∈T):∃i:Nat,i < T.length/\p.2.Perm (ofT W i):=by
 let⟨i,H,e⟩:=qS P;exact⟨i,H,h.tl i p (by rw[zK H,e])⟩
def Wd.gok(h:Wd G T W):(G.map aU).all (placeOk T.length)=true:=by
 rw[xH];intro x X;let⟨p,H,rfl⟩:=List.mem_map.mp X;let⟨i,I,q⟩:=h.XD H;refine oG (h.ga p H) (q.nodup_iff.mpr (nG h.wp _)) λj J=>?_;let⟨w,hw,e⟩:=List.mem_map.mp (uy.mp (q.mem_iff.mp J));injection e with a E
 injection E with E _
 have:=(h.wr w hw).2.1;rw[E] at this;exact this
def Wd.tok(h:Wd G T W):(T.map aU).all (placeOk G.length)=true:=by
 rw[xH];intro x X;let⟨p,H,rfl⟩:=List.mem_map.mp X;let⟨i,I,q⟩:=h.XF H;refine oG (h.ta p H) (q.nodup_iff.mpr (oq h.wp _)) λj J=>?_;let⟨w,hw,e⟩:=List.mem_map.mp (uH.mp (q.mem_iff.mp J));injection e with E a
 have:=(h.wr w hw).1;rw[E] at this;exact this
def pO{W:Γ Wy}{p:Wy->θ}(h:W.length<=16):(W.filter p).length<=16:=yD (xQ _ _) h
def Bh(h:p.2.length<=16):gX 16 2 (aU p):=.tup (by simp?[zL,xM];lia) λx H=>by
 rcases List.mem_cons.mp H with rfl|H
 .exact gn _
 .rw[yK] at H;subst H;exact oY h
def Iv(w:Wy):gX 16 1 (ao w):=.tup (by simp?[zL,xM];lia) λx H=>by
 simp?[zQ,yF,xV] at H;rcases H with rfl|rfl|rfl<;>exact gn _
def Wd.fit(h:Wd G T W):gX 16 4 (ay G T W):=by
 refine .tup (by simp?[zL,xM];lia) λx hx=>?_;simp?[zQ,yF,xV] at hx;have h4:=h.g4;have h5:=h.t4;have h6:=h.wl;rcases hx with rfl|rfl|rfl
 .refine .tup (by rw[zD];lia) λx hx=>?_;let⟨p,hp,rfl⟩:=List.mem_map.mp hx;let⟨i,hi,q⟩:=h.XD hp;exact Bh (by rw[q.length_eq,BF,zD];exact pO h.wl)
 .refine .tup (by rw[zD];lia) λx hx=>?_;let⟨p,hp,rfl⟩:=List.mem_map.mp hx;let⟨i,hi,q⟩:=h.XF hp;exact Bh (by rw[q.length_eq,ofT,zD];exact pO h.wl)
 .refine .tup (by rw[zD];lia) λx hx=>?_;let⟨p,hp,rfl⟩:=List.mem_map.mp hx;exact (Iv p).mono (yN _) (by decide)
def CK(a:0<=c)(b:c<=9):Wd [(c,[0,1]),(c,[1,0])] [(c,[1,0]),(c,[0,1])] [(0,0,2),(0,1,2),(1,0,2),(1,1,2)] where
 g1:=by simp?[zL,xM];lia
 g4:=by simp?[zL,xM];lia
 t1:=by simp?[zL,xM];lia
 t4:=by simp?[zL,xM];lia
 ga:=by intro p H;simp?[zQ,yF,xV] at H;rcases H with rfl|rfl<;>exact⟨a,b⟩
 ta:=by intro p H;simp?[zQ,yF,xV] at H;rcases H with rfl|rfl<;>exact⟨a,b⟩
 gl:=by
  intro i p H
  match i,H with
  | 0,H=>injection H with H;subst H;exact (show List.Perm ([0,1]:Γ Int) (BF [(0,0,2),(0,1,2),(1,0,2),(1,1,2)] ((0:Nat):Int)) by decide)
  | 1,H=>injection H with H;subst H;exact (show List.Perm ([1,0]:Γ Int) (BF [(0,0,2),(0,1,2),(1,0,2),(1,1,2)] ((1:Nat):Int)) by decide)
 tl:=by
  intro i p H
  match i,H with
  | 0,H=>injection H with H;subst H;exact (show List.Perm ([1,0]:Γ Int) (ofT [(0,0,2),(0,1,2),(1,0,2),(1,1,2)] ((0:Nat):Int)) by decide)
  | 1,H=>injection H with H;subst H;exact (show List.Perm ([0,1]:Γ Int) (ofT [(0,0,2),(0,1,2),(1,0,2),(1,1,2)] ((1:Nat):Int)) by decide)
 wr:=show ∀w∈([(0,0,2),(0,1,2),(1,0,2),(1,1,2)]:Γ Wy),(0<=w.1/\w.1 < ((2:Nat):Int))/\(0<=w.2.1/\w.2.1 < ((2:Nat):Int))/\1<=w.2.2/\w.2.2<=9 by decide
 wp:=by decide
 wl:=by decide
def ji(f:Nat->Int):Nat->Γ (Γ Int)->Γ Pl|_,[]=>[]|k,r::s=>(f k,r)::ji f (k+1) s
def ij(f:Nat->Int):∀ (s:Γ (Γ Int)) (k:Nat),(ji f k s).length=s.length
 | [],k=>rfl
 | r::s,k=>by rw[ji,zL,zL,ij f s]
def g0(f:Nat->Int):∀ {s:Γ (Γ Int)}{k i:Nat}{p:Pl},(ji f k s)[i]?=↑p->∃r,s[i]?=↑r/\p=(f (k+i),r)
 | [],k,i,p,h=>by simp[ji] at h
 | r::s,k,0,p,h=>by simp[ji] at h;exact⟨r,rfl,h.symm⟩
 | r::s,k,i+1,p,h=>by
  simp?[ji,yZ] at h;let⟨y,H,a⟩:=g0 f h;exact⟨y,by simpa using H,by rw[a];congr 2;lia⟩
def dI:∀ {a b:Γ (Γ Int)},rH a b->a.length=b.length
 | [],[],_=>rfl
 | x::a,y::b,h=>by rw[zL,zL,dI h.2]
 | [],_::_,h=>h.elim
 | _::_,[],h=>h.elim
def nM:∀ {a b:Γ (Γ Int)}{i:Nat}{r:Γ Int},rH a b->a[i]?=↑r->∃s,b[i]?=↑s/\r.Perm s
 | [],[],i,r,_,h=>by simp at h
 | x::a,y::b,0,r,h,e=>by
  simp?[xR,yL] at e;subst e;exact⟨y,rfl,h.1⟩
 | x::a,y::b,i+1,r,h,e=>by
  simp?[yZ] at e;let⟨s,H,c⟩:=nM h.2 e;exact⟨s,by simpa using H,c⟩
 | [],_::_,i,r,h,_=>h.elim
 | _::_,[],i,r,h,_=>h.elim
def lA(W:Γ Wy)(m:Nat):Γ (Γ Int):=(List.range m).map λi=>BF W ((i:Nat):Int)
def i8(W:Γ Wy)(m:Nat):Γ (Γ Int):=(List.range m).map λi=>ofT W ((i:Nat):Int)
def HL(n:1<=m)(o:m<=4)(S:1<=s)(s4:s<=4)(F:∀k,0<=f k/\f k<=9)(G:∀k,0<=g k/\g k<=9)
  (M:rH QW (lA W m)) (y:rH U (i8 W s)) (wr:∀w∈W,(0<=w.1/\w.1 < m)/\(0<=w.2.1/\w.2.1 < s)/\1<=w.2.2/\w.2.2<=9) (j:rZ W) (d:W.length<=16):Wd (ji f 0 QW) (ji g 0 U) W:=by
 have l:(ji f 0 QW).length=m:=by rw[ij,dI M,lA,zD,zR]
 have L:(ji g 0 U).length=s:=by rw[ij,dI y,i8,zD,zR]
 have A:∀ {h:Nat->Int}{R:Γ (Γ Int)},(∀k,0<=h k/\h k<=9)->∀p∈ji h 0 R,0<=p.1/\p.1<=9:=λ{h R} c p P=>by
  let⟨i,I⟩:=List.mem_iff_getElem?.mp P;let⟨r,_,rfl⟩:=g0 h I;exact c _
 refine⟨by lia,by lia,by lia,by lia,A F,A G,λi p P=>?_,λi p P=>?_,by rw[l,L];exact wr,j,d⟩
 .let⟨r,a,rfl⟩:=g0 f P;let⟨t,H,b⟩:=nM M a;rw[lA,zO] at H;let⟨k,K,rfl⟩:=Option.map_eq_some_iff.mp H;have:k=i:=by
   rw[zT] at K;let⟨h,e⟩:=K;rw[List.getElem_range] at e;exact e.symm
  subst this;exact b
 .let⟨r,a,rfl⟩:=g0 g P;let⟨t,H,b⟩:=nM y a;rw[i8,zO] at H;let⟨k,K,rfl⟩:=Option.map_eq_some_iff.mp H;have:k=i:=by
   rw[zT] at K;let⟨h,e⟩:=K;rw[List.getElem_range] at e;exact e.symm
  subst this;exact b
def bS{i:Nat}{fz:Γ Nat}{f:Dl.Env->Δ D}{ρ ρ':au}{d:D}(H:f (aV ρ)=↑d)(hs:Dl.qs d=false)(a:hand fz 0 ρ=ρ')(v:bV ρ'=aV ρ)(r:lC d=false\/ρ'=ρ:=by first|exact .inr rfl|exact .inl rfl):Dl.aD i fz f ρ=↑(.nx (ρ'.set i (.val d))):=by
 rcases r with r|r
 .simp?[Dl.aD,H,zA,hs,yP,qQ,a,v,zB,r]
 .subst r;simp?[Dl.aD,H,zA,hs,yP,qQ,a,v,zB,ite_self]
def cH{i:Nat}{fz:Γ Nat}{f:Dl.Env->Δ D}{ρ:au}{d:D}(H:f (aV ρ)=↑d)(hs:Dl.qs d=true):Dl.aD i fz f ρ=↑(.nx (ρ.set i (.val d))):=by
 simp?[Dl.aD,H,zA,hs,xI]
def J1(w:Wy):aw (ao w) (.int 0)=↑(.int w.1):=rfl
def JC(w:Wy):aw (ao w) (.int 1)=↑(.int w.2.1):=rfl
def Ax(a b c:D):small [a,b,c]=↑[a,b,c]:=rfl
def N1{a b s:Int}(hs:s=1\/s=2\/s=3)(h:a < b):a / s < b / s\/(a / s=b / s/\a % s < b % s):=by rcases hs with rfl|rfl|rfl<;>lia
def MB{k m s:Int}(hs:s=1\/s=2\/s=3)(H:m=1\/m=2\/m=3)(a:0<=k)(h:k < m * s):(0<=k / s/\k / s < m)/\0<=k % s/\k % s < s:=by
 rcases hs with rfl|rfl|rfl<;>rcases H with rfl|rfl|rfl<;>lia
def lB:au->Δ Out:=(fF (fU (fB (f2 CN (bp bE (aa (ab 7) af)) (ab 2))) (fB (f2 za (ah 3 aq (aa (ab 0) (aa (f2 aC (f2 aC (ab 1) (fC (.int 2))) (ab 8)) (aa (fC (.int 4)) af)))) (fC (.int 0))))) (lN 7 [0,1,6,8] (aF (aa (f2 mF (ab 8) (ab 6)) (aa (f2 lz (ab 8) (ab 6)) (aa (f2 aC (fC (.int 1)) (ah 3 aq (aa (ab 0) (aa (f2 aC (f2 aC (ab 1) (fC (.int 12))) (ab 8)) (aa (fC (.int 2)) af))))) af))))) e9)
abbrev st(ns:Γ Int)(a mo m s:Int)(x4 x7 x8 x9 x10 x11:Slot):au:=[.val (cy ns),.val (.int a),.val (.int mo),.QB,x4,.val (.int m),.val (.int s),x7,x8,x9,x10,x11]
def Jc(ns:Γ Int)(a mo s k:Int)(W:Γ Wy):Γ Wy:=if (W.length:Int) < mo/\0 < dr ns (a+2+k) 4 then W++[(k / s,k % s,1+dr ns (a+12+k) 2)] else W
def zq{ns:Γ Int}{a mo m s k:Int}{W:Γ Wy}(hl:ns.length<=63)(hs:s=1\/s=2\/s=3)(hw:W.length<=9) :
  lB (st ns a mo m s .QB (.own (W.map ao)) (.val (.int k)) .QB .QB .QB)=↑(.nx (st ns a mo m s .QB (.own ((Jc ns a mo s k W).map ao)) (.val (.int k)) .QB .QB .QB)):=by
 have H:0 < s:=by lia
 have z:W.length < sizeLine:=jA hw (by decide);have d:Dl.mF (.int k) (.int s)=↑(.int (k / s)):=jr ⟨H,by lia⟩;have M:Dl.lz (.int k) (.int s)=↑(.int (k % s)):=ie H;have e:=yd (ns:=ns) (a+2+k) 4 hl (by decide);have E:=yd (ns:=ns) (a+12+k) 2 hl (by decide);have b:hand [0,1,6,8] 0 (st ns a mo m s .QB (.own (W.map ao)) (.val (.int k)) .QB .QB .QB)=st ns a mo m s .QB (.own (W.map ao)) (.val (.int k)) .QB .QB .QB:=rfl;have A:lN 7 [0,1,6,8] (aF (aa (f2 mF (ab 8) (ab 6)) (aa (f2 lz (ab 8) (ab 6)) (aa (f2 aC (fC (.int 1)) (ah 3 aq (aa (ab 0) (aa (f2 aC (f2 aC (ab 1) (fC (.int 12))) (ab 8)) (aa (fC (.int 2)) af))))) af)))) (st ns a mo m s .QB (.own (W.map ao)) (.val (.int k)) .QB .QB .QB)=↑(.nx (st ns a mo m s .QB (.own ((W++[(k / s,k % s,1+dr ns (a+12+k) 2)]).map ao)) (.val (.int k)) .QB .QB .QB)):=by
  simp?[lN,lE,b,bV,zI,yV];simp! [yu,yP,oh,d,M,E,Ax,zD,z,yX,yW,jB];rfl
 by_cases c:(W.length:Int) < mo
 .by_cases C:0 < dr ns (a+2+k) 4
  .rw[show Jc ns a mo s k W=W++[(k / s,k % s,1+dr ns (a+12+k) 2)] from yM ⟨c,C⟩,<- A];simp! [lB,lh,fu,zD,c,C,jR,gF,e]
  .rw[show Jc ns a mo s k W=W from yO λh=>C h.2];simp! [lB,lh,fu,zD,c,C,jR,wQ,gF,e,yP]
 .rw[show Jc ns a mo s k W=W from yO λh=>c h.1];simp! [lB,lh,fu,zD,c,wQ,gF,yP]
structure Do(mo s k:Int)(W:List Wy):Prop where
 mem:∀w∈W,∃j:Int,0<=j/\j < k/\w.1=j / s/\w.2.1=j % s/\1<=w.2.2/\w.2.2<=2
 Wg:rZ W
 len:(W.length:Int)<=k
 lem:(W.length:Int)<=mo
def Do.next{ns:Γ Int}{a mo s k:Int}{W:Γ Wy}(hl:ns.length<=63)(hs:s=1\/s=2\/s=3)(K:0<=k)(h:Do mo s k W):Do mo s (k+1) (Jc ns a mo s k W):=by
 have o:∀w∈W,∃j:Int,0<=j/\j < k+1/\w.1=j / s/\w.2.1=j % s/\1<=w.2.2/\w.2.2<=2:=λw hw=>by
  let⟨j,a,b,c⟩:=h.mem w hw;exact⟨j,a,by lia,c⟩
 by_cases c:(W.length:Int) < mo/\0 < dr ns (a+2+k) 4
 .rw[show Jc ns a mo s k W=W++[(k / s,k % s,1+dr ns (a+12+k) 2)] from yM c];have g:=N2 (ns:=ns) (a+12+k) 2 hl (by decide);have G:=N6 (ns:=ns) (a+12+k) 2 hl (by decide);refine⟨λw hw=>?_,?_,?_,?_⟩
  .rcases List.mem_append.mp hw with hw|hw
   .exact o w hw
   .rw[yK] at hw;subst hw;exact⟨k,K,by lia,rfl,rfl,by simp only;lia,by simp only;lia⟩
  .refine List.pairwise_append.mpr ⟨h.Wg,vK _ _,λa A b H=>?_⟩;rw[yK] at H;subst H;let⟨j,_,b,C,d,_⟩:=h.mem a A;rw[C,d];exact N1 hs b
  .have:=h.len;rw[zN,xD];lia
  .have:=c.1;rw[zN,xD];lia
 .rw[show Jc ns a mo s k W=W from yO c];exact⟨o,h.Wg,by have:=h.len;lia,h.lem⟩
def Ew{ns:Γ Int}{a mo m s:Int}(hl:ns.length<=63)(hs:s=1\/s=2\/s=3):∀ (n k:Nat) {W:Γ Wy}{x8:Slot},k+n<=9->Do mo s k W ->
  ∃w t,cG (mr 8) lB ((List.range' k n).map λi=>PyData.int ((i:Nat):Int)) (st ns a mo m s .QB (.own (W.map ao)) x8 .QB .QB .QB)=↑(.nx (st ns a mo m s .QB (.own (w.map ao)) t .QB .QB .QB))/\(n=0/\t=x8\/∃d,t=.val d)/\Do mo s ((k+n:Nat):Int) w
 | 0,k,W,x8,K,h=>⟨W,x8,rfl,.inl ⟨rfl,rfl⟩,h⟩
 | n+1,k,W,x8,K,h=>by
  have H:Do mo s ((k+1:Nat):Int) (Jc ns a mo s k W):=by
   have:=h.next (ns:=ns) (a:=a) hl hs (by lia)
   rwa [show ((k:Int)+1)=((k+1:Nat):Int) by lia] at this
  let⟨w,t,e,q,b⟩:=Ew hl hs n (k+1) (W:=Jc ns a mo s k W) (x8:=.val (.int (k:Nat))) (by lia) H;refine⟨w,t,?_,.inr (q.elim (λz=>⟨_,z.2⟩) id),by rw[show k+(n+1)=k+1+n by lia];exact b⟩;have g:∀d,mr 8 (st ns a mo m s .QB (.own (W.map ao)) x8 .QB .QB .QB) d=↑(st ns a mo m s .QB (.own (W.map ao)) (.val d) .QB .QB .QB):=λd=>rfl;rw[vI,zI,cG,g,zA,zq hl hs (by have:=h.len;lia)];exact e
def Qb(W:Γ Wy)(i:Int)(hw:W.length<=20):aj 1 [0] (aM (ab 1)) (fG 0) (fB (f2 cg (f2 aw (ab 0) (fC (.int 0))) (ab 1))) (f2 aw (ab 0) (fC (.int 1))) [↑(.int i),↑(.list (W.map ao))]=↑((BF W i).map PyData.int):=by
 rw[mw (ds:=W.map ao) (p:=λd=>decide (ix ((cw d).getD 0 .none)=i)) (h:=λd=>(cw d).getD 1 .none) rfl (by rw[zD];lia) (λd H=>?_) λd H _=>?_]
 .rw[kJ,zM,BF,zM];rfl
 .let⟨w,_,rfl⟩:=List.mem_map.mp H;simp! [J1,dw,gF];rfl
 .let⟨w,_,rfl⟩:=List.mem_map.mp H;simp! [JC];rfl
def Qw(W:Γ Wy)(i:Int)(hw:W.length<=20):aj 1 [0] (aM (ab 1)) (fG 0) (fB (f2 cg (f2 aw (ab 0) (fC (.int 1))) (ab 1))) (f2 aw (ab 0) (fC (.int 0))) [↑(.int i),↑(.list (W.map ao))]=↑((ofT W i).map PyData.int):=by
 rw[mw (ds:=W.map ao) (p:=λd=>decide (ix ((cw d).getD 1 .none)=i)) (h:=λd=>(cw d).getD 0 .none) rfl (by rw[zD];lia) (λd H=>?_) λd H _=>?_]
 .rw[kJ,zM,ofT,zM];rfl
 .let⟨w,_,rfl⟩:=List.mem_map.mp H;simp! [JC,dw,gF];rfl
 .let⟨w,_,rfl⟩:=List.mem_map.mp H;simp! [J1];rfl
def uM{m:Nat}(M:m<=1000):Dj ((m:Nat):Int)=true:=by
 unfold Dj;rw[zF,zJ,zJ];have H:(0:Int)<=(m:Int):=Int.natCast_nonneg m;have a:(m:Int)<=1000:=by lia
 exact⟨jV (by decide) H,Int.lt_of_le_of_lt a (by decide)⟩
def vq{j:Int}(h:Dj j=true):lO [.int j]=↑((List.range j.toNat).map λi=>PyData.int ((i:Nat):Int)):=by
 rw[lO,yM h]
def uS{fi:Dl.Env->Δ D}{ρ:Dl.Env}(m:Nat)(H:m<=1000)(h:fi ρ=↑(.int (m:Nat))):bA (aa fi af) ρ=↑((List.range m).map λi=>PyData.int ((i:Nat):Int)):=by
 have e:aa fi af ρ=↑[.int ((m:Nat):Int)]:=by simp?[aa,af,h,zA,zB]
 have E:bA (aa fi af) ρ=(aa fi af ρ).bind lO:=rfl;rw[E,e,zA,vq (uM H),yG]
def IG{W:Γ Wy}{m:Nat}{ρ:Dl.Env}(hw:W.length<=20)(M:m<=1000)(H:ab i5 ρ=↑(.int (m:Nat)))(a:(ρ[i7]?).getD none=↑(.list (W.map ao))) :
  aj 1 [i7] (bA (aa (ab i5) af)) (fG 0) (λ_=>↑true) (bN (aj 1 [0] V0 (fG 0) (fB (f2 cg (f2 aw (ab 0) (fC (.int 0))) (ab 1))) (f2 aw (ab 0) (fC (.int 1))))) ρ=↑((lA W m).map bW):=by
 rw[bR (h:=λd=>bW (BF W (ix d))) (uS m M H) (by rw[zD,zR];lia) λd D=>?_]
 .rw[lA,zM,zM];rfl
 .let⟨i,_,rfl⟩:=List.mem_map.mp D;simp?[zI,yV,a,bN,Qb W _ hw,zB,bW,ix]
def IU{W:Γ Wy}{m:Nat}{ρ:Dl.Env}(hw:W.length<=20)(M:m<=1000)(H:ab i5 ρ=↑(.int (m:Nat)))(a:(ρ[i7]?).getD none=↑(.list (W.map ao))) :
  aj 1 [i7] (bA (aa (ab i5) af)) (fG 0) (λ_=>↑true) (bN (aj 1 [0] V0 (fG 0) (fB (f2 cg (f2 aw (ab 0) (fC (.int 1))) (ab 1))) (f2 aw (ab 0) (fC (.int 0))))) ρ=↑((i8 W m).map bW):=by
 rw[bR (h:=λd=>bW (ofT W (ix d))) (uS m M H) (by rw[zD,zR];lia) λd D=>?_]
 .rw[i8,zM,zM];rfl
 .let⟨i,_,rfl⟩:=List.mem_map.mp D;simp?[zI,yV,a,bN,Qw W _ hw,zB,bW,ix]
def Kg(c:Int):Dl.Env->Δ D:=(aF (aa (ah 3 aq (aa (ab 2) (aa (f2 aC (f2 aC (ab 3) (fC (.int c))) (ab 0)) (aa (fC (.int 4)) af)))) (aa (ab 1) af)))
def MW{ns:Γ Int}{a:Int}(c:Int)(hl:ns.length<=63):∀ (Q:Γ (Γ Int)) (k:Nat),cq (fy 0 1) (λ_=>↑true) (Kg c) [none,none,↑(cy ns),↑(.int a)] (bw k (Q.map ae))=↑((ji (λk=>dr ns (a+c+((k:Nat):Int)) 4) k Q).map aU)
 | [],k=>rfl
 | r::Q,k=>by
  have g:fy 0 1 [none,none,↑(cy ns),↑(.int a)] (.tuple [.int ((k:Nat):Int),ae r])=↑[↑(.int ((k:Nat):Int)),↑(ae r),↑(cy ns),↑(.int a)]:=rfl;have e:Kg c [↑(.int ((k:Nat):Int)),↑(ae r),↑(cy ns),↑(.int a)]=↑(aU (dr ns (a+c+((k:Nat):Int)) 4,r)):=by
   simp! [Kg,yd (ns:=ns) (a+c+((k:Nat):Int)) 4 hl (by decide),AM,aU]
  have i:=MW (a:=a) c hl Q (k+1);rw[zI,bw,cq,g];simp?[zA,xI,e,i,zB,ji,zI]
def wg{ns:Γ Int}{a c:Int}{i:Nat}{ρ:Dl.Env}{Q:Γ (Γ Int)}(hl:ns.length<=63)(m:Q.length<=1000)(d:ab i ρ=↑(.list (Q.map ae)))(H:(ρ[0]?).getD none=↑(cy ns))(b:(ρ[1]?).getD none=↑(.int a)) :
  bp br (aa (bN (aj 2 [0,1] (bj (aa (ab i) af)) (fy 0 1) (λ_=>↑true) (Kg c))) af) ρ=↑(.tuple ((ji (λk=>dr ns (a+c+((k:Nat):Int)) 4) 0 Q).map aU)):=by
 have I:bj (aa (ab i) af) ρ=↑(bw 0 (Q.map ae)):=by
  simp?[bj,aa,af,d,zA,zB,eK,oneOf,gq]
 have hc:aj 2 [0,1] (bj (aa (ab i) af)) (fy 0 1) (λ_=>↑true) (Kg c) ρ=↑((ji (λk=>dr ns (a+c+((k:Nat):Int)) 4) 0 Q).map aU):=by
  simp?[aj,I,zA,dz,zI,yV,H,b,List.replicate,xG,xP,MW c hl];exact aZ (by rw[zD,ij];lia)
 simp?[bp,aa,af,bN,hc,zB,zA,br,eK,oneOf,gq]
def ai{g1 g2:au->Δ Out}{ρ ρ':au}(h:g1 ρ=↑(.nx ρ')):av g1 g2 ρ=g2 ρ':=by
 simp?[av,h,zA]
def aE{g:au->Δ Out}{n:Nat}{a:Γ D}{d:D}(h:g (a.map Slot.val++List.replicate (n - a.length) .QB)=↑(.rt d)):aS g n a=↑d:=by
 simp?[aS,h,zB]
def je{g:D->D->Δ D}{fa fb:Dl.Env->Δ D}{ρ:Dl.Env}{a b:D}(H:fa ρ=↑a)(B:fb ρ=↑b):f2 g fa fb ρ=g a b:=by
 simp?[f2,H,B,zA]
def Kz{ns:Γ Int}{a mo:Int}{m s:Nat}(M:m<=3)(S:s<=3):f2 eu (ab 5) (ab 6) (bV (st ns a mo m s .QB (.own []) .QB .QB .QB .QB))=↑(.int ((m * s:Nat):Int)):=by
 have h:Dl.eu (.int (m:Int)) (.int (s:Int))=↑(.int ((m:Int) * (s:Int))):=du (lP (by lia));rw[je (a:=.int (m:Int)) (b:=.int (s:Int)) rfl rfl,h,Int.natCast_mul]
def Mt{ns:Γ Int}{a mo:Int}{m s:Nat}(M:m<=3)(b:s<=3)(S:m * s<=9){W:Γ Wy}{t:Slot}(e: cG (mr 8) lB ((List.range' 0 (m * s)).map λi=>PyData.int ((i:Nat):Int)) (st ns a mo m s .QB (.own (([]:Γ Wy).map ao)) .QB .QB .QB .QB)=↑(.nx (st ns a mo m s .QB (.own (W.map ao)) t .QB .QB .QB))):dc [5,6] (bA (aa (f2 eu (ab 5) (ab 6)) af)) (mr 8) lB (st ns a mo m s .QB (.own []) .QB .QB .QB .QB)=↑(.nx (st ns a mo m s .QB (.own (W.map ao)) t .QB .QB .QB)):=by
 have H:hand [5,6] 0 (st ns a mo m s .QB (.own []) .QB .QB .QB .QB)=st ns a mo m s .QB (.own []) .QB .QB .QB .QB:=rfl;have r:=uS (fi:=f2 eu (ab 5) (ab 6)) (ρ:=bV (st ns a mo m s .QB (.own []) .QB .QB .QB .QB)) (m * s) (by lia) (Kz M b);rw[yH] at r;rw[yV] at e;simp?[dc,H,r,zA];exact e
structure OZ(mo:Int)(G T:List Pl)(W:List Wy):Prop where
 g3:G.length<=3
 t3:T.length<=3
 w2:∀w∈W,w.2.2<=2
 ga:∀p∈G,p.1<=3
 ta:∀p∈T,p.1<=3
 wm:(W.length:Int)<=mo
def uV{ns:Γ Int}{a mo:Int}(hl:ns.length<=63)(o:3 < mo)(c:dr ns (a+64) 4=0):∃G T W,cF [cy ns,.int a,.int mo]=↑(ay G T W)/\Wd G T W/\OZ mo G T W:=by
 have e:=yd (ns:=ns) (a+64) 4 hl (by decide);have E:=di (ns:=ns) (a+65) 2 hl (by decide);refine⟨_,_,_,?_,CK (c:=1+dr ns (a+65) 2) (by lia) (by lia),⟨by simp,by simp,by decide,λp H=>?_,λp H=>?_,by simp;lia⟩⟩;rotate_left
 .simp?[zQ,yF,xV] at H;rcases H with rfl|rfl<;>(simp only;lia)
 .simp?[zQ,yF,xV] at H;rcases H with rfl|rfl<;>(simp only;lia)
 have s:Dl.aD 3 [0,1] (f2 aC (fC (.int 1)) (ah 3 aq (aa (ab 0) (aa (f2 aC (ab 1) (fC (.int 65))) (aa (fC (.int 2)) af))))) [.val (cy ns),.val (.int a),.val (.int mo),.QB,.QB,.QB,.QB,.QB,.QB,.QB,.QB,.QB]=↑(.nx [.val (cy ns),.val (.int a),.val (.int mo),.val (.int (1+dr ns (a+65) 2)),.QB,.QB,.QB,.QB,.QB,.QB,.QB,.QB]) :=
  cH (d:=.int (1+dr ns (a+65) 2)) (by simp! [E.1]) rfl
 generalize 1+dr ns (a+65) 2=x at *;have S:Dl.aD 4 [3] (aF (aa (aF (aa (ab 3) (aa (aF (aa (fC (.int 1)) (aa (fC (.int 0)) af))) af))) (aa (aF (aa (ab 3) (aa (aF (aa (fC (.int 0)) (aa (fC (.int 1)) af))) af))) af))) [.val (cy ns),.val (.int a),.val (.int mo),.val (.int x),.QB,.QB,.QB,.QB,.QB,.QB,.QB,.QB]=↑(.nx [.val (cy ns),.val (.int a),.val (.int mo),.val (.int x),.val (.tuple [aU (x,[1,0]),aU (x,[0,1])]),.QB,.QB,.QB,.QB,.QB,.QB,.QB]) :=
  bS (d:=.tuple [aU (x,[1,0]),aU (x,[0,1])]) (by simp! [AM];rfl) rfl rfl rfl
 simp! [cF,eX,fu,e,c,dw,jR,gF,show decide ((3:Int) < mo)=true from yA o,s,S,AM,Ax,show ∀a b c d:D,small [a,b,c,d]=↑[a,b,c,d] fromλ_ _ _ _=>rfl];rfl
def uX{ns:Γ Int}{a mo:Int}(hl:ns.length<=63)(o:0<=mo)(c:¬ (3 < mo/\dr ns (a+64) 4=0)):∃G T W,cF [cy ns,.int a,.int mo]=↑(ay G T W)/\Wd G T W/\OZ mo G T W:=by
 have E:=yd (ns:=ns) (a+64) 4 hl (by decide);have X:=di (ns:=ns) a 3 hl (by decide);have Y:=di (ns:=ns) (a+1) 3 hl (by decide);let⟨m,hm⟩:=vL (show 0<=1+dr ns a 3 by lia);let⟨s,hs⟩:=vL (show 0<=1+dr ns (a+1) 3 by lia);have M:1<=m/\m<=3:=by lia
 have S:1<=s/\s<=3:=by lia
 have F:(s:Int)=1\/(s:Int)=2\/(s:Int)=3:=by lia
 have Z:(m:Int)=1\/(m:Int)=2\/(m:Int)=3:=by lia
 have t5:Dl.aD 5 [0,1] (f2 aC (fC (.int 1)) (ah 3 aq (aa (ab 0) (aa (ab 1) (aa (fC (.int 3)) af))))) [.val (cy ns),.val (.int a),.val (.int mo),.QB,.QB,.QB,.QB,.QB,.QB,.QB,.QB,.QB]=↑(.nx [.val (cy ns),.val (.int a),.val (.int mo),.QB,.QB,.val (.int (m:Nat)),.QB,.QB,.QB,.QB,.QB,.QB]) :=
  cH (d:=.int (m:Nat)) (by simp! [X.1,hm]) rfl
 have t6:Dl.aD 6 [0,1] (f2 aC (fC (.int 1)) (ah 3 aq (aa (ab 0) (aa (f2 aC (ab 1) (fC (.int 1))) (aa (fC (.int 3)) af))))) [.val (cy ns),.val (.int a),.val (.int mo),.QB,.QB,.val (.int (m:Nat)),.QB,.QB,.QB,.QB,.QB,.QB]=↑(.nx (st ns a mo m s .QB .QB .QB .QB .QB .QB)) :=
  cH (d:=.int (s:Nat)) (by simp! [Y.1,hs]) rfl
 have t7:aN 7 [] (gc af) (st ns a mo m s .QB .QB .QB .QB .QB .QB)=↑(.nx (st ns a mo m s .QB (.own []) .QB .QB .QB .QB)):=by
  simp?[aN,m6,gc,af,zA,il,zB,yX,yW]
 have u:m * s<=9:=vZ M.2 S.2;have O:1<=m * s:=vZ M.1 S.1;let⟨W,t8,e,h8,I⟩:=Ew (ns:=ns) (a:=a) (m:=m) (s:=s) hl F (m * s) 0 (W:=[]) (x8:=.QB) (by lia) (mo:=mo) ⟨λw hw=>(by cases hw),List.Pairwise.nil,by decide,o⟩;rw[jE] at I;obtain⟨l,rfl⟩:∃d,t8=.val d:=h8.elim (λz=>by lia) id;have V:W.length<=9:=by have:=I.len;lia
 have N:=Mt M.2 S.2 u e;unfold lB at N;have J:W.length<=20:=by lia
 have wr:∀w∈W,(0<=w.1/\w.1 < m)/\(0<=w.2.1/\w.2.1 < s)/\1<=w.2.2/\w.2.2<=9:=λw hw=>by
  let⟨j,j0,jk,U,b,C,K⟩:=I.mem w hw;have:=MB F Z j0 (by rw[<- Int.natCast_mul];exact jk);rw[U,b];exact⟨this.1,this.2,C,by lia⟩
 have A:∀r∈lA W m,r.length<=1000:=λr R=>by
  let⟨i,_,rfl⟩:=List.mem_map.mp R;rw[BF,zD];exact yD (xQ _ _) (by lia)
 have x:∀r∈i8 W s,r.length<=1000:=λr R=>by
  let⟨i,_,rfl⟩:=List.mem_map.mp R;rw[ofT,zD];exact yD (xQ _ _) (by lia)
 let⟨Q,om,v⟩:=yf (ns:=ns) (a:=a+24) (rows:=lA W m) hl A (by rw[lA,zD,zR];lia);let⟨n,oy,y⟩:=yf (ns:=ns) (a:=a+40) (rows:=i8 W s) hl x (by rw[i8,zD,zR];lia);have lm:Q.length<=1000:=by rw[dI v,lA,zD,zR];lia
 have ly:n.length<=1000:=by rw[dI y,i8,zD,zR];lia
 have t9:Dl.aD 9 [0,1,5,7] (ah 3 bJ (aa (ab 0) (aa (f2 aC (ab 1) (fC (.int 24))) (aa (bN (aj 1 [7] (bA (aa (ab 5) af)) (fG 0) (λ_=>↑true) (bN (aj 1 [0] (aM (ab 1)) (fG 0) (fB (f2 cg (f2 aw (ab 0) (fC (.int 0))) (ab 1))) (f2 aw (ab 0) (fC (.int 1))))))) af)))) (st ns a mo m s .QB (.own (W.map ao)) (.val l) .QB .QB .QB)=↑(.nx (st ns a mo m s .QB (.val (.list (W.map ao))) (.val l) (.val (.list (Q.map ae))) .QB .QB)):=by
  refine (bS (ρ':=st ns a mo m s .QB (.val (.list (W.map ao))) (.val l) .QB .QB .QB) (d:=.list (Q.map ae)) ?_ rfl rfl ?_).trans rfl
  .have q:=IG (ρ:=aV (st ns a mo m s .QB (.own (W.map ao)) (.val l) .QB .QB .QB)) (i5:=5) (i7:=7) J (show m<=1000 by lia) rfl rfl;simp?[ah,aa,af,bN,q,zB,zA];simp! [om]
  .simp?[st,bV,aV,zI,yV];rfl
 have B:Dl.aD 10 [0,1,6,7] (ah 3 bJ (aa (ab 0) (aa (f2 aC (ab 1) (fC (.int 40))) (aa (bN (aj 1 [7] (bA (aa (ab 6) af)) (fG 0) (λ_=>↑true) (bN (aj 1 [0] (aM (ab 1)) (fG 0) (fB (f2 cg (f2 aw (ab 0) (fC (.int 1))) (ab 1))) (f2 aw (ab 0) (fC (.int 0))))))) af)))) (st ns a mo m s .QB (.val (.list (W.map ao))) (.val l) (.val (.list (Q.map ae))) .QB .QB)=↑(.nx (st ns a mo m s .QB (.val (.list (W.map ao))) (.val l) (.val (.list (Q.map ae))) (.val (.list (n.map ae))) .QB)):=by
  refine (bS (ρ':=st ns a mo m s .QB (.val (.list (W.map ao))) (.val l) (.val (.list (Q.map ae))) .QB .QB) (d:=.list (n.map ae)) ?_ rfl ?_ ?_).trans rfl
  .have q:=IU (ρ:=aV (st ns a mo m s .QB (.val (.list (W.map ao))) (.val l) (.val (.list (Q.map ae))) .QB .QB)) (i5:=6) (i7:=7) J (show s<=1000 by lia) rfl rfl;simp?[ah,aa,af,bN,q,zB,zA];simp! [oy]
  .rfl
  .simp?[st,bV,aV,zI,yV];rfl
 have t:Dl.aD 11 [0,1,8,9] (bp br (aa (bN (aj 2 [0,1] (bj (aa (ab 9) af)) (fy 0 1) (λ_=>↑true) (Kg 56))) af)) (st ns a mo m s .QB (.val (.list (W.map ao))) (.val l) (.val (.list (Q.map ae))) (.val (.list (n.map ae))) .QB)=↑(.nx (st ns a mo m s .QB (.val (.list (W.map ao))) (.val l) (.val (.list (Q.map ae))) (.val (.list (n.map ae))) (.val (.tuple ((ji (λk=>dr ns (a+56+((k:Nat):Int)) 4) 0 Q).map aU))))):=by
  refine (bS (ρ':=st ns a mo m s .QB (.val (.list (W.map ao))) (.val l) (.val (.list (Q.map ae))) (.val (.list (n.map ae))) .QB) (wg hl lm rfl rfl rfl) rfl rfl ?_).trans rfl;simp?[st,bV,aV,zI,yV];rfl
 have L:∀G:D,Dl.aD 4 [0,1,8,10] (bp br (aa (bN (aj 2 [0,1] (bj (aa (ab 10) af)) (fy 0 1) (λ_=>↑true) (Kg 60))) af)) (st ns a mo m s .QB (.val (.list (W.map ao))) (.val l) (.val (.list (Q.map ae))) (.val (.list (n.map ae))) (.val G))=↑(.nx (st ns a mo m s (.val (.tuple ((ji (λk=>dr ns (a+60+((k:Nat):Int)) 4) 0 n).map aU))) (.val (.list (W.map ao))) (.val l) (.val (.list (Q.map ae))) (.val (.list (n.map ae))) (.val G))):=λG=>by
  refine (bS (ρ':=st ns a mo m s .QB (.val (.list (W.map ao))) (.val l) (.val (.list (Q.map ae))) (.val (.list (n.map ae))) (.val G)) (wg hl ly rfl rfl rfl) rfl rfl ?_).trans rfl;simp?[st,bV,aV,zI,yV];rfl
 refine⟨_,_,W,?_,HL (f:=λk=>dr ns (a+56+((k:Nat):Int)) 4) (g:=λk=>dr ns (a+60+((k:Nat):Int)) 4) M.1 (by lia) S.1 (by lia) (λk=>?_) (λk=>?_) v y wr I.Wg (by lia),⟨by rw[ij,dI v,lA,zD,zR];lia,by rw[ij,dI y,i8,zD,zR];lia,λw hw=>(by let⟨j,_,_,_,_,_,z⟩:=I.mem w hw;exact z),λp P=>?_,λp P=>?_,I.lem⟩⟩
 .unfold Kg at t L;have tA:∀g,fF (fU (fB (f2 za (ab 2) (fC (.int 3)))) (fB (f2 cg (ah 3 aq (aa (ab 0) (aa (f2 aC (ab 1) (fC (.int 64))) (aa (fC (.int 4)) af)))) (fC (.int 0))))) g e9 [.val (cy ns),.val (.int a),.val (.int mo),.QB,.QB,.QB,.QB,.QB,.QB,.QB,.QB,.QB]=↑(.nx [.val (cy ns),.val (.int a),.val (.int mo),.QB,.QB,.QB,.QB,.QB,.QB,.QB,.QB,.QB]):=λg=>by
   by_cases C:3 < mo
   .have K:¬ dr ns (a+64) 4=0:=λz=>c ⟨C,z⟩;simp! [fu,E,C,K,dw,wQ,jR,gF,yP]
   .simp! [fu,C,wQ,gF,yP]
  refine aE ?_;show eX [.val (cy ns),.val (.int a),.val (.int mo),.QB,.QB,.QB,.QB,.QB,.QB,.QB,.QB,.QB]=_;unfold eX;rw[ai (tA _),ai t5,ai t6,ai t7,ai N,ai t9,ai B,ai t,ai (L _)];simp! [Ax,ay]
 .have q:=di (ns:=ns) (a+56+((k:Nat):Int)) 4 hl (by decide);exact⟨q.2.1,by lia⟩
 .have q:=di (ns:=ns) (a+60+((k:Nat):Int)) 4 hl (by decide);exact⟨q.2.1,by lia⟩
 .let⟨i,H⟩:=List.getElem?_of_mem P;let⟨r,_,rfl⟩:=g0 _ H;have q:=di (ns:=ns) (a+56+((0+i:Nat):Int)) 4 hl (by decide);simp only;lia
 .let⟨i,H⟩:=List.getElem?_of_mem P;let⟨r,_,rfl⟩:=g0 _ H;have q:=di (ns:=ns) (a+60+((0+i:Nat):Int)) 4 hl (by decide);simp only;lia
def xl{ns:Γ Int}{a mo:Int}(hl:ns.length<=63)(H:0<=mo):∃G T W,cF [cy ns,.int a,.int mo]=↑(ay G T W)/\Wd G T W/\OZ mo G T W:=by
 by_cases c:3 < mo/\dr ns (a+64) 4=0
 .exact uV hl c.1 c.2
 .exact uX hl H c
def Ke(h:rZ W):(W.map λw=>[w.1,w.2.1]).Pairwise λa b=>Dl.lexLt a b=true:=List.pairwise_map.mpr (h.imp λR=>Pz R)
def FR(h:rZ W):(W.map λw=>[w.1,w.2.1]).Nodup:=(Ke h).imp λ{a b} R e=>by
 rw[e,cP] at R;cases R
def FS(h:rZ W)(n:m.Nodup)(H:∀r,r∈W.map (λw=>[w.1,w.2.1])↔r∈m):W.map (λw=>[w.1,w.2.1])=Ra m :=
 nZ ((List.perm_ext_iff_of_nodup (FR h) n).mpr H) ((Ke h).imp λR=>NB R)
def Wd.wok(h:Wd G T W):Oy (ay G T W)=true:=by
 have k:(W.map ao).map eR=W.map λw=>[w.1,w.2.1]:=by rw[zM];rfl
 have g:∀i j:Int,[i,j]∈W.map (λw=>[w.1,w.2.1])↔[i,j]∈mv 0 (G.map aU):=λi j=>by
  rw[pq];constructor
  .intro M;let⟨w,hw,e⟩:=List.mem_map.mp M;simp?[kY,and_true] at e;have R:=(h.wr w hw).1;obtain⟨p,H⟩:∃p,G[i.toNat]?=↑p:=⟨G[i.toNat]'(by lia),zK (by lia)⟩
   refine⟨i.toNat,aU p,by rw[zO,H];rfl,by lia,?_⟩;rw[fE,(h.gl _ p H).mem_iff,uy,show ((i.toNat:Nat):Int)=i by lia];exact M
  .rintro⟨m,p,H,rfl,J⟩;rw[zO] at H;let⟨P,X,rfl⟩:=Option.map_eq_some_iff.mp H;rw[fE,(h.gl m P X).mem_iff,uy] at J
   rwa [jE]
 have t:∀i j:Int,[i,j]∈W.map (λw=>[w.1,w.2.1])↔[j,i]∈mv 0 (T.map aU):=λi j=>by
  rw[pq];constructor
  .intro M;let⟨w,hw,e⟩:=List.mem_map.mp M;simp?[kY,and_true] at e;have R:=(h.wr w hw).2.1;obtain⟨p,H⟩:∃p,T[j.toNat]?=↑p:=⟨T[j.toNat]'(by lia),zK (by lia)⟩
   refine⟨j.toNat,aU p,by rw[zO,H];rfl,by lia,?_⟩;rw[fE,(h.tl _ p H).mem_iff,uH,show ((j.toNat:Nat):Int)=j by lia];exact M
  .rintro⟨m,p,H,rfl,J⟩;rw[zO] at H;let⟨P,X,rfl⟩:=Option.map_eq_some_iff.mp H;rw[fE,(h.tl m P X).mem_iff,uH] at J
   rwa [jE]
 have o:∀ {r:Γ Int},r∈W.map (λw=>[w.1,w.2.1])->∃i j,r=[i,j]:=λR=>by
  let⟨w,_,rfl⟩:=List.mem_map.mp R;exact⟨_,_,rfl⟩
 have n:∀ (L:Γ Pl),(∀p∈L,p.2.Nodup)->(mv 0 (L.map aU)).Nodup:=λL l=>sf λp H=>by
  let⟨P,X,rfl⟩:=List.mem_map.mp H;rw[fE];exact l P X
 have E:W.map (λw=>[w.1,w.2.1])=Ra (mv 0 (G.map aU)):=FS h.wp (n G λp H=>by
   let⟨i,I,e⟩:=qS H;exact (h.gl i p (by rw[zK I,e])).nodup_iff.mpr (nG h.wp i)) λr=>⟨λR=>by
   let⟨i,j,rfl⟩:=o R;exact (g i j).mp R,λR=>by
   let⟨i,j,rfl⟩:=lj r R;exact (g i j).mpr R⟩
 have d:W.map (λw=>[w.1,w.2.1])=Ra ((mv 0 (T.map aU)).map List.reverse):=FS h.wp (by
   exact List.pairwise_map.mpr (List.Pairwise.imp (λ{a b} Q e=>Q (List.reverse_inj.mp e)) (n T λp H=>by
    let⟨i,I,e⟩:=qS H;exact (h.tl i p (by rw[zK I,e])).nodup_iff.mpr (oq h.wp i)))) λr=>⟨λR=>by
   let⟨i,j,rfl⟩:=o R;exact List.mem_map.mpr ⟨[j,i],(t i j).mp R,rfl⟩,λR=>by
   let⟨v,c,rfl⟩:=List.mem_map.mp R;let⟨i,j,rfl⟩:=lj v c;exact (t j i).mpr c⟩
 have hw:(W.map ao).all (i6 G.length T.length)=true:=by
  rw[xH];intro x u;let⟨w,hw,rfl⟩:=List.mem_map.mp u;exact CM (h.wr w hw)
 have s:∀ {L:Γ Pl},1<=L.length->L.length<=4->nQ (.tuple (L.map aU))=true:=λ{L} a b=>by
  simp?[nQ,long,zD,zF,zJ];lia
 have f:long 3 3 (ay G T W)=true:=rfl;have q:=h.gok;have ht:=h.tok;unfold Oy zk;rw[f,jM];simp?[ay,cw,wF,wG,k,<- E,<- d,jR,Bool.and_true,iY,s h.g1 h.g4,s h.t1 h.t4,zD,q,ht,hw,Kn]
def sI(b:θ):Int:=if b then 1 else 0
def bb(b:θ)(w:Wy):Int:=if b then w.2.1 else w.1
def bP(b:θ)(w:Wy):Int:=bb (!b) w
def aH(b:θ)(G T:Γ Pl):Γ Pl:=if b then T else G
def dX(b:θ)(G T:Γ Pl)(W:Γ Wy):aw (ay G T W) (.int (sI b))=↑(.tuple ((aH b G T).map aU)):=by cases b<;>rfl
def k5(G T:Γ Pl)(W:Γ Wy):aw (ay G T W) (.int 2)=↑(.tuple (W.map ao)):=rfl
def uC(b:θ)(w:Wy):aw (ao w) (.int (sI b))=↑(.int (bb b w)):=by cases b<;>rfl
def Jx(b:θ)(w:Wy):aw (ao w) (.int (1 - sI b))=↑(.int (bP b w)):=by cases b<;>rfl
def u5(w:Wy):aw (ao w) (.int 2)=↑(.int w.2.2):=rfl
def Hl(p:Pl):aw (aU p) (.int 0)=↑(.int p.1):=rfl
def IA(p:Pl):aw (aU p) (.int 1)=↑(ae p.2):=rfl
def qr(h:ds[i]?=↑d):aw (.tuple ds) (.int ((i:Nat):Int))=↑d:=by
 show ud ds (i:Nat)=_;exact uP h
def K7(h:ds[i]?=↑d):aw (.list ds) (.int ((i:Nat):Int))=↑d:=by
 show ud ds (i:Nat)=_;exact uP h
def jz{l:Γ α}(h:l[i]?=↑x):aw (.tuple (l.map f)) (.int ((i:Nat):Int))=↑(f x):=qr (by rw[zO,h];rfl)
def tL{l:Γ α}(h:l[i]?=↑x):aw (.list (l.map f)) (.int ((i:Nat):Int))=↑(f x):=K7 (by rw[zO,h];rfl)
def MC(b:θ)(W:Γ Wy)(p:Int):Γ Int:=(W.filter λw=>decide (bb b w=p)).map (bP b)
def Wd.YY{G T:Γ Pl}{W:Γ Wy}(h:Wd G T W){b:θ}{i:Nat}{p:Pl}(e:(aH b G T)[i]?=↑p):p.2.Perm (MC b W i):=by
 cases b
 .exact h.gl i p e
 .exact h.tl i p e
def Wd.nod(h:Wd G T W)(b:θ)(i:Int):(MC b W i).Nodup:=by
 cases b
 .exact nG h.wp i
 .exact oq h.wp i
def qy{tt:Dl.Env->Δ θ}{te:Dl.Env->Δ D}{r:Γ (Δ D)}{p:Nat->D->θ}{h:Nat->D->D}:∀ {ds:Γ D}{k:Nat},
  (∀i d,ds[i]?=↑d->tt (↑(.int ((k+i:Nat):Int))::↑d::r)=↑(p (k+i) d)/\(p (k+i) d=true->te (↑(.int ((k+i:Nat):Int))::↑d::r)=↑(h (k+i) d))) ->
  cq (fy 0 1) tt te (none::none::r) (bw k ds)=↑(((ds.zipIdx k).filter λq=>p q.2 q.1).map λq=>h q.2 q.1)
 | [],k,_=>rfl
 | d::ds,k,c=>by
  let⟨a,b⟩:=c 0 d rfl;have I:=qy (ds:=ds) (k:=k+1) λi x X=>by
   have:=c (i+1) x (by simpa using X);rw[show k+1+i=k+(i+1) by lia];exact this
  have g:fy 0 1 (none::none::r) (.tuple [.int ((k:Nat):Int),d])=↑(↑(.int ((k:Nat):Int))::↑d::r):=by
   simp?[fy,isFree,xR,yZ,qH,wK,jQ,xI,yW,yX]
  rw[bw,cq,g,List.zipIdx_cons];simp?[Nat.add_zero] at a b;simp?[zA,a];cases H:p k d with
  | true=>simp[b H,I,H]
  | false=>simp[I,H]
def Du{fi:Dl.Env->Δ (Γ D)}{tt:Dl.Env->Δ θ}{te:Dl.Env->Δ D}{ρ:Dl.Env}{ds:Γ D}{p:Nat->D->θ}{h:Nat->D->D}(R:fi ρ=↑(bw 0 ds))(hl:ds.length<=1000)
  (H:∀i d,ds[i]?=↑d->tt (↑(.int ((i:Nat):Int))::↑d::cs.map λj=>(ρ[j]?).getD none)=↑(p i d)/\(p i d=true->te (↑(.int ((i:Nat):Int))::↑d::cs.map λj=>(ρ[j]?).getD none)=↑(h i d))) :
  aj 2 cs fi (fy 0 1) tt te ρ=↑((ds.zipIdx.filter λq=>p q.2 q.1).map λq=>h q.2 q.1):=by
 have:=qy (tt:=tt) (te:=te) (r:=cs.map λj=>(ρ[j]?).getD none) (p:=p) (h:=h) (ds:=ds) (k:=0) (by simpa using H);simp?[aj,R,zA,dz,List.replicate,xG,xP,this];refine aZ ?_;rw[zD];refine yD (xQ _ _) ?_;rw[List.length_zipIdx];lia
def gQ(f:α->Int):∀ {l m:Γ α},l.Perm m->(l.Pairwise λa b=>f a<=f b)->(m.Pairwise λa b=>f a < f b)->l=m
 | l,[],p,_,_=>p.eq_nil
 | [],x::m,p,_,_=>absurd p.symm.eq_nil (by simp)
 | y::l,x::m,p,H,c=>by
  rw[List.pairwise_cons] at H c;have e:y=x:=by
   have X:x∈y::l:=p.mem_iff.mpr zE;rcases List.mem_cons.mp X with z|X
   .exact z.symm
   .have Y:y∈x::m:=p.mem_iff.mp zE;rcases List.mem_cons.mp Y with z|Y
    .exact z
    .have:=H.1 x X;have:=c.1 y Y;lia
  subst e;rw[gQ f ((List.perm_cons y).mp p) H.2 c.2]
def rg(z:Nat->Int)(l:Γ α)(d:α)(f:α->Int)(h:∀i,i < l.length->z i=f (l.getD i d)):(pj z l d).Pairwise λa b=>f a<=f b:=by
 unfold pj;split
 .rename_i H
  match l,H with
  | [],_=>exact List.Pairwise.nil
  | [a],_=>exact vK _ _
 .rename_i H;let⟨p,s⟩:=SP.gz (z:=z) (n:=l.length) (by lia);rw[jF] at s ⊢;refine s.imp_of_mem λ{i j} I J Q=>?_;have R:i < l.length:=by have:=p.mem_iff.mp I;simpa using this
  have o:j < l.length:=by have:=p.mem_iff.mp J;simpa using this
  rw[<- h i R,<- h j o];exact Q
def aA(W:Γ Wy)(i:Nat):Wy:=W.getD i (0,0,0)
def iO(H:k < W.length):W[k]=aA W k:=by simp[aA,H]
def m7(H:k < W.length):W[k]?=↑(aA W k):=by rw[zK H,iO H]
def own(b:θ)(W:Γ Wy)(p:Int):Γ Nat:=(List.range W.length).filter λi=>decide (bb b (aA W i)=p)
def oR(b:θ)(W:Γ Wy)(p o:Int):Nat:=W.findIdx λw=>decide (bb b w=p)&&decide (bP b w=o)
def eG(b:θ)(W:Γ Wy)(p:Int)(L:Γ Int):Γ Nat:=L.map (oR b W p)
def bZ:i∈own b W p↔i < W.length/\bb b (aA W i)=p:=by simp[own]
def map_range(d:α)(f:α->β)(l:Γ α):(List.range l.length).map (λi=>f (l.getD i d))=l.map f:=by
 apply jI
 .simp
 .intro i a H;have:i < l.length:=by simpa using H
  simp[this]
def uQ(d:α)(q:α->θ):∀ (l:Γ α),((List.range l.length).filter λi=>q (l.getD i d)).map (λi=>l.getD i d)=l.filter q:=by
 intro l;have e:l=(List.range l.length).map λi=>l.getD i d:=by
  have:=map_range d (λx=>x) l;simp at this;simpa using this.symm
 conv=>rhs;rw[e]
 rw[kJ];rfl
def k7(b:θ)(W:Γ Wy)(p:Int):(own b W p).map (λi=>bP b (aA W i))=MC b W p:=by
 unfold own MC aA;rw[<- uQ (0,0,0) (λw=>decide (bb b w=p)) W,zM];rfl
def tN(h:rZ W)(hi:i < W.length)(H:j < W.length)(c:(aA W i).1=(aA W j).1)(d:(aA W i).2.1=(aA W j).2.1):i=j:=by
 have e:∀k,k < W.length->W[k]?=↑(aA W k):=λk K=>by simp[aA,K]
 rcases Nat.lt_trichotomy i j with z|z|z
 .have:=List.pairwise_iff_getElem.mp h i j hi H z;have a:=e i hi;have b:=e j H;rw[zK hi] at a;rw[zK H] at b;rw[xE a,xE b] at this;rcases this with z|z<;>lia
 .exact z
 .have:=List.pairwise_iff_getElem.mp h j i H hi z;have a:=e i hi;have b:=e j H;rw[zK hi] at a;rw[zK H] at b;rw[xE a,xE b] at this;rcases this with z|z<;>lia
def yt(h:rZ W)(hi:i < W.length)(J:j < W.length)(H:bb b (aA W i)=bb b (aA W j))(a:bP b (aA W i)=bP b (aA W j)):i=j:=by
 cases b
 .exact tN h hi J H a
 .exact tN h hi J a H
def tK(h:rZ W)(hi:i∈own b W p):oR b W p (bP b (aA W i))=i:=by
 let⟨l,e⟩:=bZ.mp hi;have hw:W[i]=aA W i:=by simp[aA,l]
 unfold oR;have Q:W.findIdx (λw=>decide (bb b w=p)&&decide (bP b w=bP b (aA W i))) < W.length:=by
  apply kN;exact⟨W[i],qB _,by rw[hw];simp[e]⟩
 have q:=List.findIdx_getElem (w:=Q);rw[zF,zJ,zJ] at q;rw[iO Q] at q;exact yt h Q l (by rw[q.1,e]) q.2
def eA{G T:Γ Pl}{W:Γ Wy}(h:Wd G T W){b:θ}{i:Nat}(e:(aH b G T)[i]?=↑p):(eG b W i p.2).Perm (own b W i):=by
 have H:=(h.YY e).map (oR b W i);rw[<- k7 b W i,zM] at H;have E:(own b W i).map (oR b W i ∘ λj=>bP b (aA W j))=own b W i:=by
  conv=>rhs;rw[<- List.map_id (own b W i)]
  exact yI λj J=>tK h.wp J
 rw[E] at H;exact H
def mN{G T:Γ Pl}{W:Γ Wy}(h:Wd G T W){b:θ}{i:Nat}{p:Pl}(e:(aH b G T)[i]?=↑p){o:Int}(O:o∈p.2):oR b W i o < W.length/\bb b (aA W (oR b W i o))=i/\bP b (aA W (oR b W i o))=o:=by
 have m:=(h.YY e).mem_iff.mp O;rw[<- k7 b W i] at m;let⟨j,H,rfl⟩:=List.mem_map.mp m;rw[tK h.wp H];let⟨a,c⟩:=bZ.mp H;exact⟨a,c,rfl⟩
def kD(b:θ)(W:Γ Wy)(L:Γ Int)(d:D):Int:=(L.findIdx λo=>decide (o=bP b (aA W (ix d).toNat)):Nat)
def oo:∀ {L:Γ Int}{x:Int},x∈L->we x L=↑(L.findIdx λo=>decide (o=x))
 | [],x,h=>by cases h
 | o::L,x,h=>by
  unfold we;by_cases e:o=x
  .simp[e,vE]
  .rw[yO e];have H:x∈L:=(List.mem_cons.mp h).resolve_left λz=>e z.symm;rw[oo H];simp[vE,e]
def GO{G T:Γ Pl}{W:Γ Wy}(h:Wd G T W){b:θ}{i:Nat}{p:Pl}(e:(aH b G T)[i]?=↑p)(z:Nat->Int)(Z:∀j,j < (own b W i).length->z j=kD b W p.2 (((own b W i).map λn=>PyData.int ((n:Nat):Int)).getD j .none)) :
  pj z ((own b W i).map λn=>PyData.int ((n:Nat):Int)) .none=(eG b W i p.2).map λn=>PyData.int ((n:Nat):Int):=by
 refine gQ (kD b W p.2) ((fK _ _ _).trans ((eA h e).symm.map _)) (rg z _ _ _ λj J=>Z j (by simpa using J)) ?_;have N:p.2.Nodup:=(h.YY e).nodup_iff.mpr (h.nod b i);unfold eG;rw[zM,jF];have y:∀k (H:k < p.2.length),kD b W p.2 (PyData.int ((oR b W i p.2[k]:Nat):Int))=(k:Nat):=λk H=>by
  let⟨_,_,E⟩:=mN h e (qB H);unfold kD;simp?[ix,yG,E]
  congr 1
  rw[List.findIdx_eq (by exact H)];refine⟨by simp,λj J=>?_⟩;have:=List.pairwise_iff_getElem.mp N j k (by lia) H J;simpa using this
 refine List.pairwise_iff_getElem.mpr λj k J H V=>?_;show kD b W p.2 (PyData.int ((oR b W i p.2[j]:Nat):Int)) < kD b W p.2 (PyData.int ((oR b W i p.2[k]:Nat):Int));rw[y j J,y k H];lia
abbrev nD(n:Nat):D:=.int ((n:Nat):Int)
def nU:∀ {ds:Γ D},(∀d∈ds,te (ρ.set 0 (↑d))=↑(h d))->iu te ρ ds=↑(ds.map h)
 | [],_=>rfl
 | d::ds,H=>by
  unfold iu;rw[H d zE,zA,nU λx X=>H x (zC _ X)];rfl
def uf(b:θ)(W:Γ Wy)(p:Int):(own b W p).length<=W.length:=by
 unfold own;refine yD (xQ _ _) ?_;rw[zR];exact yN _
def AK(b:θ)(W:Γ Wy)(p:Int):(((W.map ao).zipIdx.filter λq=>decide (bb b (aA W q.2)=p)).map λq=>nD q.2)=(own b W p).map nD:=by
 have e:(W.map ao).zipIdx=(List.range W.length).map λi=>(ao (aA W i),i):=by
  apply jI
  .simp
  .intro i a H;have:i < W.length:=by simpa using H
   simp[iO this]
 rw[e,kJ,zM];rfl
def sG(h:Wd G T W)(e:(aH b G T)[i]?=↑p):iq [ay G T W,.int (sI b),nD i]=↑(.list ((eG b W i p.2).map nD)):=by
 have hw:=h.wl;have E:aw (.tuple ((aH b G T).map aU)) (nD i)=↑(aU p):=jz e;have L:=uf b W i;have t:Dl.aD 3 [0] (f2 aw (ab 0) (fC (.int 2))) [.val (ay G T W),.val (.int (sI b)),.val (nD i),.QB,.QB,.QB]=↑(.nx [.val (ay G T W),.val (.int (sI b)),.val (nD i),.val (.tuple (W.map ao)),.QB,.QB]) :=
  bS (d:=.tuple (W.map ao)) rfl rfl rfl rfl
 have n:Dl.aD 4 [0,1,2] (f2 aw (f2 aw (f2 aw (ab 0) (ab 1)) (ab 2)) (fC (.int 1))) [.val (ay G T W),.val (.int (sI b)),.val (nD i),.val (.tuple (W.map ao)),.QB,.QB]=↑(.nx [.val (ay G T W),.val (.int (sI b)),.val (nD i),.val (.tuple (W.map ao)),.val (ae p.2),.QB]):=by
  refine bS (d:=ae p.2) ?_ rfl rfl rfl;rw[je (a:=aU p) (b:=.int 1) ?_ rfl,IA];rw[je (a:=.tuple ((aH b G T).map aU)) (b:=nD i) ?_ rfl,E];rw[je (a:=ay G T W) (b:=.int (sI b)) rfl rfl,dX]
 have c:aj 2 [1,2] (bj (aa (ab 3) af)) (fy 0 1) (fB (f2 cg (f2 aw (ab 1) (ab 2)) (ab 3))) (ab 0) [↑(ay G T W),↑(.int (sI b)),↑(nD i),↑(.tuple (W.map ao)),↑(ae p.2),none]=↑((own b W i).map nD):=by
  rw[Du (ds:=W.map ao) (p:=λj _=>decide (bb b (aA W j)=i)) (h:=λj _=>nD j) rfl (by rw[zD];lia) λj d D=>?_,AK];rw[zO] at D;let⟨w,H,rfl⟩:=Dl.ag D;have J:j < W.length:=(List.getElem?_eq_some_iff.mp H).1;rw[m7 J] at H;cases H;refine⟨?_,λ_=>rfl⟩;show fB (f2 cg (f2 aw (ab 1) (ab 2)) (ab 3)) [↑(nD j),↑(ao (aA W j)),↑(.int (sI b)),↑(nD i)]=_;simp?[fB];rw[je (a:=.int (bb b (aA W j))) (b:=nD i) (by rw[je (a:=ao (aA W j)) (b:=.int (sI b)) rfl rfl,uC]) rfl,dw];rfl
 have q:aN 5 [1,2,3] (aj 2 [1,2] (bj (aa (ab 3) af)) (fy 0 1) (fB (f2 cg (f2 aw (ab 1) (ab 2)) (ab 3))) (ab 0)) [.val (ay G T W),.val (.int (sI b)),.val (nD i),.val (.tuple (W.map ao)),.val (ae p.2),.QB]=↑(.nx [.val (ay G T W),.val (.int (sI b)),.val (nD i),.val (.tuple (W.map ao)),.val (ae p.2),.own ((own b W i).map nD)]):=by
  have g:hand [1,2,3] 0 [Slot.val (ay G T W),.val (.int (sI b)),.val (nD i),.val (.tuple (W.map ao)),.val (ae p.2),.QB]=[Slot.val (ay G T W),.val (.int (sI b)),.val (nD i),.val (.tuple (W.map ao)),.val (ae p.2),.QB]:=rfl;simp?[aN,g,bV,zI,yV,Slot.RC,c,zB,yX,yW]
 have K:iu (f2 oW (ab 3) (f2 aw (f2 aw (ab 2) (ab 0)) (f2 Dl.gT (fC (.int 1)) (ab 1)))) [none,↑(.int (sI b)),↑(.tuple (W.map ao)),↑(ae p.2)] ((own b W i).map nD)=↑(((own b W i).map nD).map λd=>.int (kD b W p.2 d)):=by
  refine nU λd D=>?_;let⟨j,J,rfl⟩:=List.mem_map.mp D;let⟨l,k⟩:=bZ.mp J;show f2 oW (ab 3) (f2 aw (f2 aw (ab 2) (ab 0)) (f2 Dl.gT (fC (.int 1)) (ab 1))) [↑(nD j),↑(.int (sI b)),↑(.tuple (W.map ao)),↑(ae p.2)]=_;have f:aw (.tuple (W.map ao)) (nD j)=↑(ao (aA W j)):=jz (m7 l);rw[je (a:=ae p.2) (b:=.int (bP b (aA W j))) rfl ?_]
  .have m:bP b (aA W j)∈p.2:=(h.YY e).mem_iff.mpr (by rw[<- k7];exact List.mem_map.mpr ⟨j,J,rfl⟩);simp?[oW,ae,cC,zA,oo m,zB,kD,ix,yG]
   all_goals first|rfl|(congr 3;funext o;congr)
  .rw[je (a:=ao (aA W j)) (b:=.int (1 - sI b)) ?_ ?_,Jx]
   .rw[je (a:=.tuple (W.map ao)) (b:=nD j) rfl rfl,f]
   .rw[je (a:=.int 1) (b:=.int (sI b)) rfl rfl,my]
 have I:intsOf (((own b W i).map nD).map λd=>PyData.int (kD b W p.2 d))=↑(((own b W i).map nD).map (kD b W p.2)):=by
  rw[show (((own b W i).map nD).map λd=>PyData.int (kD b W p.2 d))=(((own b W i).map nD).map (kD b W p.2)).map PyData.int by simp?[zM];rfl,cC]
 have r:aK (bN (n9 [1,3,4] (ab 5) (f2 oW (ab 3) (f2 aw (f2 aw (ab 2) (ab 0)) (f2 Dl.gT (fC (.int 1)) (ab 1)))))) [.val (ay G T W),.val (.int (sI b)),.val (nD i),.val (.tuple (W.map ao)),.val (ae p.2),.own ((own b W i).map nD)]=↑(.rt (.list ((eG b W i p.2).map nD))):=by
  have s:n9 [1,3,4] (ab 5) (f2 oW (ab 3) (f2 aw (f2 aw (ab 2) (ab 0)) (f2 Dl.gT (fC (.int 1)) (ab 1)))) [↑(ay G T W),↑(.int (sI b)),↑(nD i),↑(.tuple (W.map ao)),↑(ae p.2),↑(.list ((own b W i).map nD))]=↑((eG b W i p.2).map nD):=by
   unfold n9;show (iu _ [none,↑(.int (sI b)),↑(.tuple (W.map ao)),↑(ae p.2)] ((own b W i).map nD)).bind _=_;rw[K,zA,I,zA,yM (by rw[zD];lia),GO h e _ λj J=>?_];simp[J]
  simp?[aK,aV,zI,yV,ug,vf,bN,s,zB]
 refine aE ?_;show nH [.val (ay G T W),.val (.int (sI b)),.val (nD i),.QB,.QB,.QB]=_;unfold nH;rw[ai t,ai n,ai q,r]
local macro_rules|`(tactic| dsimp! [$ts,*])=>`(tactic| simp only[ab,fC,f1,f2,aa,af,ah,bp,m8,aM,gq,bN,fB,gB,bT,fU,nI,bj,aV,bV,ug,vf,B9,A9,BA,Cf,zI,yV,xR,yZ,zA,zB,qH,zL,xM,Nat.reduceAdd,jE,reduceIte,yX,yW,$ts,*])
def ju(R:S->au->Prop)(f:α->D)(st:S->α->S):∀ {l:Γ α}{s:S}{ρ:au},
  (∀s ρ x,x∈l->R s ρ->∃Y M,tgt ρ (f x)=↑Y/\gb Y=↑(.nx M)/\R (st s x) M)->R s ρ->∃ρ',cG tgt gb (l.map f) ρ=↑(.nx ρ')/\R (l.foldl st s) ρ'
 | [],s,ρ,_,h=>⟨ρ,rfl,h⟩
 | d::g,s,ρ,H,h=>by
  let⟨Y,M,e,E,b⟩:=H s ρ d zE h;let⟨ρ',a,c⟩:=ju R f st (λs ρ x X=>H s ρ x (zC _ X)) b;refine⟨ρ',?_,c⟩;rw[zI,cG,e,zA,E];exact a
def lQ(R:au->Prop)(f:α->D)(q:α->θ)(o:α->D):∀ {l:Γ α}{ρ:au},
  (∀ρ x,x∈l->R ρ->∃Y,tgt ρ (f x)=↑Y/\(q x=true->gb Y=↑(.rt (o x)))/\(q x=false->∃S,gb Y=↑(.nx S)/\R S))->R ρ ->
  (∀x,l.find? q=↑x->cG tgt gb (l.map f) ρ=↑(.rt (o x)))/\(l.find? q=none->∃ρ',cG tgt gb (l.map f) ρ=↑(.nx ρ')/\R ρ')
 | [],ρ,_,h=>⟨λx X=>(by cases X),λ_=>⟨ρ,rfl,h⟩⟩
 | x::l,ρ,a,h=>by
  let⟨Y,e,E,b⟩:=a ρ x zE h;rw[zI,cG,e,zA];cases H:q x with
  | true =>
   rw[List.find?_cons_of_pos (by simpa using H),E H];exact⟨λy g=>(by cases g;rfl),λn=>(by cases n)⟩
  | false =>
   let⟨S,c,d⟩:=b H;rw[List.find?_cons_of_neg (by simp[H]),c];exact lQ R f q o (λρ x X=>a ρ x (zC _ X)) d
def cM(h:cG tgt gb ds U=o)(hi:fi (bV U)=↑ds)(H:hand fz 0 ρ=U):dc fz fi tgt gb ρ=o:=by
 simp?[dc,H,hi,zA,h]
def o8(a:hand fz 0 ρ=ρ')(H:f (bV ρ')=↑ds):aN i fz f ρ=↑(.nx (ρ'.set i (.own ds))):=by
 simp?[aN,a,H,zB]
def hJ(H:f (bV ρ)=↑ds)(a:hand fz 0 ρ=ρ):aN i fz f ρ=↑(.nx (ρ.set i (.own ds))):=o8 a H
def lZ(H:hand fz 0 ρ=ρ')(A:f (aV ρ)=↑d)(F:f (bV ρ')=↑d)(hs:Dl.qs d=false)(r:lC d=false\/ρ'=ρ:=by first|exact .inr rfl|exact .inl rfl):Dl.aD i fz f ρ=↑(.nx (ρ'.set i (.val d))):=by
 rcases r with r|r
 .simp?[Dl.aD,A,zA,hs,yP,qQ,H,F,zB,r]
 .subst r;simp?[Dl.aD,A,zA,hs,yP,qQ,H,F,zB,ite_self]
def call_of(h:m ds=↑d)(f:fs ρ=↑ds)(H:ds.length=n):ah n m fs ρ=↑d:=by
 unfold ah;rw[f,zA,yM H,h]
def cons_of(h:f ρ=↑d)(hs:fs ρ=↑ds):aa f fs ρ=↑(d::ds):=by
 unfold aa;rw[h,hs];rfl
def aJ(H:f (aV ρ)=↑d):aK f ρ=↑(.rt d):=by
 simp?[aK,H,zB]
def cI(H:f (aV ρ)=↑d):lM f ρ=↑(.nx ρ):=by
 simp?[lM,H,zB]
def bU(h:t (aV ρ)=↑false):fF t g e9 ρ=↑(.nx ρ):=by
 simp[fF,h,e9]
def iW(h:t (aV ρ)=↑true):fF t g g2 ρ=g ρ:=by
 simp[fF,h]
def l8(h:g1 ρ=↑(.rt d)):av g1 g2 ρ=↑(.rt d):=by
 simp?[av,h,zA]
def Da(H:f (aV ρ)=↑d)(hs:Dl.qs d=true)(K:fk (aV ρ)=↑(nD k))(o:ρ[i]?=↑(.own ds))(hl:k < ds.length):AE i fz fk f ρ=↑(.nx (ρ.set i (.own (ds.set k d)))):=by
 have x:GQ ds.length ((k:Nat):Int)=↑k:=by
  unfold GQ;rw[yM (Int.natCast_nonneg k),yM (by lia)];simp
 simp?[AE,lE,H,zA,hs,xI,K,oh,o,x,zB]
def lp(c:S->θ)(st:S->S):Nat->S->S
 | 0,s=>s
 | n+1,s=>if c s=true then lp c st n (st s) else s
def wc(R:S->au->Prop)(c:S->θ)(st:S->S)(a:S->Nat)
  (ht:∀s ρ,R s ρ->t (aV ρ)=↑(c s)) (b:∀s ρ,R s ρ->c s=true->∃ρ',gb ρ=↑(.nx ρ')/\R (st s) ρ'/\a (st s) < a s) :
  ∀ (n:Nat) (s:S) (ρ:au),a s < n->R s ρ->∃ρ',Iz t gb n ρ=↑(.nx ρ')/\R (lp c st n s) ρ'/\c (lp c st n s)=false
 | 0,s,ρ,h,_=>absurd h (by lia)
 | n+1,s,ρ,h,r=>by
  rw[Iz,ht s ρ r,zA,lp];cases hc:c s with
  | false=>exact⟨ρ,by simp,by simpa [hc] using r,by simpa [hc] using hc⟩
  | true =>
   let⟨ρ',e,d,m⟩:=b s ρ r hc;let⟨M,E,f,C⟩:=wc R c st a ht b n (st s) ρ' (by lia) d;refine⟨M,?_,by simpa [hc] using f,by simpa [hc] using C⟩;simp?[xI,e,zA];exact E
def gM{off:Γ Int}(h:i < off.length):aw (ae off) (nD i)=↑(.int (off.getD i 0)):=jz (f:=PyData.int) (l:=off) (by simp[h])
def LC{off:Γ Int}(h:i < off.length):aw (.list (off.map PyData.int)) (nD i)=↑(.int (off.getD i 0)):=tL (f:=PyData.int) (l:=off) (by simp[h])
def lY(h:i < W.length):aw (.tuple (W.map ao)) (nD i)=↑(ao (aA W i)):=jz (m7 h)
def OI(a b c:Int):yb [.int a,.int b,.int c]=↑(.int (min (min a b) c)):=rfl
def ID(l:Γ Int)(k:Nat)(v:Int):(l.map PyData.int).set k (.int v)=(l.set k v).map PyData.int:=by rw[List.map_set]
def Jv(l:Γ Int):br [.list (l.map PyData.int)]=↑(ae l):=rfl
def An(l:Γ D):br [.list l]=↑(.tuple l):=rfl
def Cp(l:Γ D):bE [.tuple l]=↑(nD l.length):=rfl
def IV(l:Γ Int):bE [ae l]=↑(nD l.length):=by
 show some (PyData.int ((l.map PyData.int).length:Nat))=_;rw[zD]
def C9(h:n<=1000):lO [nD n]=↑((List.range n).map nD):=by
 rw[vq (uM h),yG]
def qk(h:fs ρ=↑[nD n])(H:n<=1000):bA fs ρ=↑((List.range n).map nD):=by
 unfold bA;rw[h,zA,C9 H]
def sub_int(i j:Int):Dl.gT (.int i) (.int j)=↑(.int (i - j)):=my i j
def zeros(R:fi ρ=↑ds)(hl:ds.length<=1000):aj 1 [] fi (fG 0) (λ_=>↑true) (fC (.int 0)) ρ=↑((List.replicate ds.length (0:Int)).map PyData.int):=by
 rw[bR (h:=λ_=>.int 0) R (by lia) λd H=>rfl];simp[List.map_const']
def JN:∀n,(List.replicate n [PyData.int 0]).flatten=(List.replicate n (0:Int)).map PyData.int
 | 0=>rfl
 | n+1=>by rw[xF,qN,JN n,xF];rfl
def td:∀ (a b:Γ Int),cq (fy 0 1) (λ_=>↑true) (f2 aC (ab 0) (ab 1)) (none::none::r) (jx (a.map PyData.int) (b.map PyData.int))=↑((List.zipWith (·+·) a b).map PyData.int)
 | [],b=>by cases b<;>rfl
 | x::a,[]=>rfl
 | x::a,y::b=>by
  have i:=td (r:=r) a b;have g:fy 0 1 (none::none::r) (.tuple [.int x,.int y])=↑(↑(.int x)::↑(.int y)::r):=by
   simp?[fy,isFree,xR,yZ,qH,wK,jQ,xI,yW,yX]
  rw[zI,zI,jx,cq,g,zA];dsimp! [eE,i,List.zipWith_cons_cons]
def Eo(R:fi ρ=↑(jx (a.map PyData.int) (b.map PyData.int)))(hl:a.length<=1000) :
  aj 2 [] fi (fy 0 1) (λ_=>↑true) (f2 aC (ab 0) (ab 1)) ρ=↑((List.zipWith (·+·) a b).map PyData.int):=by
 have:=td (r:=[]) a b;simp?[aj,R,zA,dz,List.replicate,yV,qG,this];refine aZ ?_;rw[zD,List.length_zipWith];lia
def cV(W:Γ Wy)(off:Γ Int)(left:Int)(i:Nat):Int:=min (min (off.getD i 0) (aA W i).2.2) left
def mn(W:Γ Wy)(off:Γ Int)(s:Int×Γ Int)(i:Nat):Int×Γ Int:=(s.1 - cV W off s.1 i,s.2.set i (cV W off s.1 i))
def rN(W:Γ Wy)(off:Γ Int)(amt:Int)(i:Γ Nat):Γ Int:=(i.foldl (mn W off) (amt,List.replicate W.length 0)).2
def BW(W:Γ Wy)(off:Γ Int):∀ (I:Γ Nat) (s:Int×Γ Int),(I.foldl (mn W off) s).2.length=s.2.length
 | [],s=>rfl
 | i::I,s=>by rw[yJ,BW W off I];simp[mn]
def uL(W:Γ Wy)(off:Γ Int)(amt:Int)(i:Γ Nat):(rN W off amt i).length=W.length:=by rw[rN,BW];simp
def M8{W:Γ Wy}(e:(aH b G T)[i]?=↑p):aw (.tuple ((aH b G T).map aU)) (nD i)=↑(aU p):=jz e
def Mc{off:Γ Int}(hi:i < W.length)(o:off.length=W.length)(hs:s.2.length=W.length) :
  (av (AE 4 [0,3,5,6] (ab 6) (bp yb (aa (f2 aw (ab 3) (ab 6)) (aa (f2 aw (f2 aw (f2 aw (ab 0) (fC (.int 2))) (ab 6)) (fC (.int 2))) (aa (ab 5) af))))) (Dl.aD 5 [4,5,6] (f2 Dl.gT (ab 5) (f2 aw (ab 4) (ab 6))))) [.val (ay G T W),.val U,.val d2,.val (ae off),.own (s.2.map PyData.int),.val (.int s.1),.val (nD i)]=↑(.nx [.val (ay G T W),.val U,.val d2,.val (ae off),.own ((mn W off s i).2.map PyData.int),.val (.int (mn W off s i).1),.val (nD i)]):=by
 have v:(bp yb (aa (f2 aw (ab 3) (ab 6)) (aa (f2 aw (f2 aw (f2 aw (ab 0) (fC (.int 2))) (ab 6)) (fC (.int 2))) (aa (ab 5) af)))) (aV [.val (ay G T W),.val U,.val d2,.val (ae off),.own (s.2.map PyData.int),.val (.int s.1),.val (nD i)])=↑(.int (cV W off s.1 i)):=by
  dsimp! [gM (show i < off.length by lia),k5,lY hi,u5,OI,cV]
 have t:=Da (i:=4) (fz:=[0,3,5,6]) (fk:=ab 6) (k:=i) (ds:=s.2.map PyData.int) v rfl rfl rfl (by rw[zD];lia);rw[ID] at t;rw[ai t];have l:i < (s.2.set i (cV W off s.1 i)).length:=by rw[yC];lia
 have g:(s.2.set i (cV W off s.1 i)).getD i 0=cV W off s.1 i:=by
  have:i < s.2.length:=by lia
  simp[this]
 have H:(f2 Dl.gT (ab 5) (f2 aw (ab 4) (ab 6))) (aV ([.val (ay G T W),.val U,.val d2,.val (ae off),.own (s.2.map PyData.int),.val (.int s.1),.val (nD i)].set 4 (.own ((s.2.set i (cV W off s.1 i)).map PyData.int))))=↑(.int (mn W off s i).1):=by
  dsimp! [LC l,sub_int,g,mn]
 rw[cH H rfl];rfl
def oD{off:Γ Int}(h:Wd G T W)(o:off.length=W.length)(e:(aH b G T)[i]?=↑p) :
  eC [ay G T W,.int (sI b),nD i,ae off]=↑(ae (rN W off p.1 (eG b W i p.2))):=by
 have hw:W.length<=16:=h.wl;have t:aN 4 [0] (aj 1 [] (aM (f2 aw (ab 0) (fC (.int 2)))) (fG 0) (λ_=>↑true) (fC (.int 0))) [.val (ay G T W),.val (.int (sI b)),.val (nD i),.val (ae off),.QB,.QB,.QB]=↑(.nx [.val (ay G T W),.val (.int (sI b)),.val (nD i),.val (ae off),.own ((List.replicate W.length (0:Int)).map PyData.int),.QB,.QB]):=by
  have z:=zeros (fi:=aM (f2 aw (ab 0) (fC (.int 2)))) (ρ:=bV [.val (ay G T W),.val (.int (sI b)),.val (nD i),.val (ae off),.QB,.QB,.QB]) (ds:=W.map ao) rfl (by rw[zD];lia);rw[zD] at z;exact o8 rfl z
 have c:Dl.aD 5 [0,1,2] (f2 aw (f2 aw (f2 aw (ab 0) (ab 1)) (ab 2)) (fC (.int 0))) [.val (ay G T W),.val (.int (sI b)),.val (nD i),.val (ae off),.own ((List.replicate W.length (0:Int)).map PyData.int),.QB,.QB]=↑(.nx [.val (ay G T W),.val (.int (sI b)),.val (nD i),.val (ae off),.own ((List.replicate W.length (0:Int)).map PyData.int),.val (.int p.1),.QB]) :=
  cH (d:=.int p.1) (by dsimp! [dX,M8 (W:=W) e,Hl]) rfl
 let⟨f,E,q,x,rfl⟩:=ju (tgt:=mr 6) (gb:=(av (AE 4 [0,3,5,6] (ab 6) (bp yb (aa (f2 aw (ab 3) (ab 6)) (aa (f2 aw (f2 aw (f2 aw (ab 0) (fC (.int 2))) (ab 6)) (fC (.int 2))) (aa (ab 5) af))))) (Dl.aD 5 [4,5,6] (f2 Dl.gT (ab 5) (f2 aw (ab 4) (ab 6)))))) (R:=λs a=>s.2.length=W.length/\∃x,a=[.val (ay G T W),.val (.int (sI b)),.val (nD i),.val (ae off),.own (s.2.map PyData.int),.val (.int s.1),x]) nD (mn W off)
  (l:=eG b W i p.2) (s:=(p.1,List.replicate W.length (0:Int))) (ρ:=[.val (ay G T W),.val (.int (sI b)),.val (nD i),.val (ae off),.own ((List.replicate W.length (0:Int)).map PyData.int),.val (.int p.1),.QB])
  (λs a j J z=>by
   let⟨S,x,U⟩:=z;subst U;let⟨H,_⟩:=bZ.mp ((eA h e).mem_iff.mp J);refine⟨_,_,rfl,Mc H o S,?_,.val (nD j),rfl⟩;simp[mn,S]) ⟨by simp,_,rfl⟩
 refine aE ?_;show kq [.val (ay G T W),.val (.int (sI b)),.val (nD i),.val (ae off),.QB,.QB,.QB]=_;unfold kq;rw[ai t,ai c,ai (cM E (by dsimp! [sG h e]) rfl)];exact aJ rfl
def bL(b:θ)(G T:Γ Pl)(i:Nat):Pl:=(aH b G T).getD i (0,[])
def xf(b:θ)(G T:Γ Pl)(W:Γ Wy)(off s:Γ Int)(i:Nat):Γ Int:=List.zipWith (·+·) s (rN W off (bL b G T i).1 (eG b W i (bL b G T i).2))
def bu(b:θ)(G T:Γ Pl)(W:Γ Wy)(off:Γ Int):Γ Int:=(List.range (aH b G T).length).foldl (xf b G T W off) (List.replicate W.length 0)
def gJ(h:i < (aH b G T).length):(aH b G T)[i]?=↑(bL b G T i):=by simp[bL,h]
def oX{off:Γ Int}(h:s.length=W.length):(xf b G T W off s i).length=W.length:=by
 unfold xf;rw[List.length_zipWith,uL,h,Nat.min_self]
def lr(R:S->Prop):∀ {l:Γ α}{s:S},(∀s x,x∈l->R s->R (f s x))->R s->R (l.foldl f s)
 | [],s,_,h=>h
 | x::l,s,H,h=>by
  rw[yJ];exact lr (l:=l) R (λs y Y=>H s y (zC _ Y)) (H s x zE h)
def nE(b:θ)(G T:Γ Pl)(W:Γ Wy)(off:Γ Int):(bu b G T W off).length=W.length :=
 lr (λs:Γ Int=>s.length=W.length) (λs i _ h=>oX h) (by simp)
def Wd.pl(h:Wd G T W)(b:θ):(aH b G T).length<=4:=by
 cases b
 .exact h.g4
 .exact h.t4
def Qm:au->Δ Out:=(av (Dl.aD 5 [0,1,2,4] (ah 4 eC (aa (ab 0) (aa (ab 1) (aa (ab 4) (aa (ab 2) af)))))) (aN 3 [3,5] (aj 2 [] (jg (aa (ab 3) (aa (ab 5) af))) (fy 0 1) (λ_=>↑true) (f2 aC (ab 0) (ab 1)))))
def eI{off:Γ Int}(h:Wd G T W)(o:off.length=W.length)(b:θ) :
  bq [ay G T W,.int (sI b),ae off]=↑(ae (bu b G T W off)):=by
 have hw:W.length<=16:=h.wl;have p:=h.pl b;have j:aN 3 [0] (aj 1 [] (aM (f2 aw (ab 0) (fC (.int 2)))) (fG 0) (λ_=>↑true) (fC (.int 0))) [.val (ay G T W),.val (.int (sI b)),.val (ae off),.QB,.QB,.QB]=↑(.nx [.val (ay G T W),.val (.int (sI b)),.val (ae off),.own ((List.replicate W.length (0:Int)).map PyData.int),.QB,.QB]):=by
  have z:=zeros (fi:=aM (f2 aw (ab 0) (fC (.int 2)))) (ρ:=bV [.val (ay G T W),.val (.int (sI b)),.val (ae off),.QB,.QB,.QB]) (ds:=W.map ao) rfl (by rw[zD];lia);rw[zD] at z;exact hJ z rfl
 let⟨c,f,q,x,y,rfl⟩:=ju (tgt:=mr 4) (gb:=Qm) (R:=λs e=>s.length=W.length/\∃x y,e=[.val (ay G T W),.val (.int (sI b)),.val (ae off),.own (s.map PyData.int),x,y]) nD (xf b G T W off)
  (l:=List.range (aH b G T).length) (s:=List.replicate W.length (0:Int)) (ρ:=[.val (ay G T W),.val (.int (sI b)),.val (ae off),.own ((List.replicate W.length (0:Int)).map PyData.int),.QB,.QB])
  (λs e i H z=>by
   let⟨S,x,y,U⟩:=z;subst U;have E:=gJ (List.mem_range.mp H);have t:Dl.aD 5 [0,1,2,4] (ah 4 eC (aa (ab 0) (aa (ab 1) (aa (ab 4) (aa (ab 2) af))))) [.val (ay G T W),.val (.int (sI b)),.val (ae off),.own (s.map PyData.int),.val (nD i),y]=↑(.nx [.val (ay G T W),.val (.int (sI b)),.val (ae off),.own (s.map PyData.int),.val (nD i),.val (ae (rN W off (bL b G T i).1 (eG b W i (bL b G T i).2)))]):=by
    refine lZ (ρ':=[.val (ay G T W),.val (.int (sI b)),.val (ae off),.own (s.map PyData.int),.val (nD i),y]) rfl (d:=ae (rN W off (bL b G T i).1 (eG b W i (bL b G T i).2))) ?_ ?_ rfl
    .dsimp! [oD h o E]
    .dsimp! [oD h o E]
   have g:aN 3 [3,5] (aj 2 [] (jg (aa (ab 3) (aa (ab 5) af))) (fy 0 1) (λ_=>↑true) (f2 aC (ab 0) (ab 1))) [.val (ay G T W),.val (.int (sI b)),.val (ae off),.own (s.map PyData.int),.val (nD i),.val (ae (rN W off (bL b G T i).1 (eG b W i (bL b G T i).2)))]=↑(.nx [.val (ay G T W),.val (.int (sI b)),.val (ae off),.own ((xf b G T W off s i).map PyData.int),.val (nD i),.val (ae (rN W off (bL b G T i).1 (eG b W i (bL b G T i).2)))]):=by
    refine o8 (ρ':=[.val (ay G T W),.val (.int (sI b)),.val (ae off),.val (.list (s.map PyData.int)),.val (nD i),.val (ae (rN W off (bL b G T i).1 (eG b W i (bL b G T i).2)))]) rfl (ds:=(xf b G T W off s i).map PyData.int) ?_;exact Eo (a:=s) (b:=rN W off (bL b G T i).1 (eG b W i (bL b G T i).2)) rfl (by lia)
   exact⟨_,_,rfl,(ai t).trans g,oX S,_,_,rfl⟩) ⟨by simp,_,_,rfl⟩
 refine aE ?_;show eM [.val (ay G T W),.val (.int (sI b)),.val (ae off),.QB,.QB,.QB]=_;unfold eM;rw[ai j];refine (ai (cM f (qk (by dsimp! [dX,Cp,zD]) (by lia)) rfl)).trans ?_;exact aJ rfl
def mI(h:(xs++ys).length<=4000):Dl.aC (.tuple xs) (.tuple ys)=↑(.tuple (xs++ys)):=by
 simp?[Dl.aC,vg,Jl,aZ h,zB,Option.none_or,Option.some_or]
def AZ(h:f ρ=↑d):aF (aa f af) ρ=↑(.tuple [d]):=by
 simp?[aF,aa,af,h,zA,zB];rw[aZ (by simp),zB]
def O4(h:f ρ=↑d)(H:g ρ=↑e):aF (aa f (aa g af)) ρ=↑(.tuple [d,e]):=by
 simp?[aF,aa,af,h,H,zA,zB];rw[aZ (by simp),zB]
def ar(h:g a b=↑c)(H:fa ρ=↑a)(B:fb ρ=↑b):f2 g fa fb ρ=↑c:=by rw[je H B,h]
def uq(h:f ρ=↑(.tuple ds))(H:g ρ=↑(nD k)):fj cn f e8 (rK g) ρ=↑(.tuple (ds.take k)):=by
 simp?[fj,h,e8,rK,H,zA,gI,zB,cn,DP]
def AI(h:f ρ=↑(.tuple ds))(H:g ρ=↑(nD k)):fj cn f (rK g) e8 ρ=↑(.tuple (ds.drop k)):=by
 simp?[fj,h,e8,rK,H,zA,gI,zB,cn,yh]
def PF(d:D)(ds:Γ D):aw (.tuple (d::ds)) (.int 0)=↑d:=qr (i:=0) rfl
def OD(c d:D)(ds:Γ D):aw (.tuple (c::d::ds)) (.int 1)=↑d:=qr (i:=1) rfl
def A6(c:Γ Int)(i:Nat)(v:Int)(h:i < c.length):((c.map PyData.int).take i++[PyData.int v])++(c.map PyData.int).drop (i+1)=(c.set i v).map PyData.int:=by
 rw[List.set_eq_take_append_cons_drop,yM h];simp
def PP(i:Nat):Dl.aC (nD i) (.int 1)=↑(nD (i+1)):=by
 rw[eE];rfl
def zy(h:i < c.length)(hl:c.length<=1000):dM [ae c,nD i,.int v]=↑(ae (c.set i v)):=by
 refine aE ?_;show iP [.val (ae c),.val (nD i),.val (.int v)]=_;refine aJ ?_;refine ar (a:=.tuple ((c.map PyData.int).take i++[PyData.int v])) (b:=.tuple ((c.map PyData.int).drop (i+1))) ?_ (ar (a:=.tuple ((c.map PyData.int).take i)) (b:=.tuple [.int v]) (mI ?_) (uq rfl rfl) (AZ rfl)) (AI rfl (ar (PP i) rfl rfl))
 .rw[mI,A6 c i v h]
  .rfl
  .rw[A6 c i v h];simp;lia
 .simp;lia
def sd(h:i < c.length)(hl:c.length<=1000):dO [ae c,nD i,.int v]=↑(ae (c.set i v)):=by
 refine aE ?_;show sC [.val (ae c),.val (nD i),.val (.int v)]=_;exact aJ (call_of (zy h hl) rfl rfl)
def c7(W:Γ Wy):Γ Int:=W.map λw=>w.2.2
def Gp(h:Wd G T W)(F:f ρ=↑(ay G T W)):(bp br (aa (bN (aj 1 [] (aM (f2 aw f (fC (.int 2)))) (fG 0) (λ_=>↑true) Yw)) af)) ρ=↑(ae (c7 W)):=by
 have hw:=h.wl;have s:(aM (f2 aw f (fC (.int 2)))) ρ=↑(W.map ao):=by
  unfold aM;rw[ar (k5 G T W) F rfl];rfl
 have e:aj 1 [] (aM (f2 aw f (fC (.int 2)))) (fG 0) (λ_=>↑true) Yw ρ=↑((c7 W).map PyData.int):=by
  rw[bR (h:=λd=>.int (ix ((cw d).getD 2 .none))) s (by rw[zD];lia) λd H=>?_]
  .rw[c7,zM,zM];rfl
  .let⟨w,a,rfl⟩:=List.mem_map.mp H;rfl
 simp?[bp,aa,af,bN,e,zB,zA,Jv]
def mL(h:Wd G T W):p5 [ay G T W]=↑(ae (c7 W)):=by
 refine aE ?_;show xj [.val (ay G T W)]=_;exact aJ (Gp h rfl)
def nu(W:Γ Wy):(c7 W).length=W.length:=by simp[c7]
def jc(G T:Γ Pl)(W:Γ Wy)(c:Γ Int):Γ Int:=bu true G T W (bu false G T W c)
def qR(G T:Γ Pl)(W:Γ Wy)(c:Γ Int)(k:Nat):θ:=decide ((jc G T W c).getD k 0 < (bu false G T W c).getD k 0)
def rL(G T:Γ Pl)(W:Γ Wy)(c:Γ Int):Δ (Nat×Int):=((List.range W.length).find? (qR G T W c)).map λk=>(k,(jc G T W c).getD k 0)
def AU:Δ (Nat×Int)->D
 | none=>.none
 | some p=>.tuple [nD p.1,.int p.2]
def enum_zip:∀ (ds:Γ D) (k:Nat),bw k ds=(ds.zipIdx k).map λq=>.tuple [nD q.2,q.1]
 | [],k=>rfl
 | d::ds,k=>by rw[bw,enum_zip ds (k+1),List.zipIdx_cons];rfl
def C4(l:Γ Int):bw 0 (l.map PyData.int)=(List.range l.length).map λk=>.tuple [nD k,.int (l.getD k 0)]:=by
 rw[enum_zip];apply jI
 .simp
 .intro i a H;have:i < l.length:=by simpa using H
  simp[this]
def KF(G T:Γ Pl)(W:Γ Wy)(c:Γ Int):(jc G T W c).length=W.length:=nE _ _ _ _ _
def OE:au->Δ Out:=(fF (fB (f2 CN (ab 5) (f2 aw (ab 2) (ab 4)))) (aK (aF (aa (ab 4) (aa (ab 5) af)))) e9)
def k6(h:Wd G T W)(o:c.length=W.length):hZ [ay G T W,ae c]=↑(AU (rL G T W c)):=by
 have hw:W.length<=16:=h.wl;have t:Dl.aD 2 [0,1] (ah 3 bq (aa (ab 0) (aa (fC (.int 0)) (aa (ab 1) af)))) [.val (ay G T W),.val (ae c),.QB,.QB,.QB,.QB]=↑(.nx [.val (ay G T W),.val (ae c),.val (ae (bu false G T W c)),.QB,.QB,.QB]) :=
  bS (call_of (eI h o false) rfl rfl) rfl rfl rfl
 have b:Dl.aD 3 [0,2] (ah 3 bq (aa (ab 0) (aa (fC (.int 1)) (aa (ab 2) af)))) [.val (ay G T W),.val (ae c),.val (ae (bu false G T W c)),.QB,.QB,.QB]=↑(.nx [.val (ay G T W),.val (ae c),.val (ae (bu false G T W c)),.val (ae (jc G T W c)),.QB,.QB]) :=
  bS (call_of (eI h (nE _ _ _ _ _) true) rfl rfl) rfl rfl rfl
 have H:=lQ (tgt:=iN 4 5) (gb:=OE) (R:=λa=>∃x y,a=[.val (ay G T W),.val (ae c),.val (ae (bu false G T W c)),.val (ae (jc G T W c)),x,y]) (λk=>.tuple [nD k,.int ((jc G T W c).getD k 0)]) (qR G T W c) (λk=>.tuple [nD k,.int ((jc G T W c).getD k 0)])
  (l:=List.range W.length) (ρ:=[.val (ay G T W),.val (ae c),.val (ae (bu false G T W c)),.val (ae (jc G T W c)),.QB,.QB])
  (λa k K z=>by
   let⟨x,y,U⟩:=z;subst U;have Q:k < (bu false G T W c).length:=by rw[nE];exact List.mem_range.mp K
   have hc:(fB (f2 CN (ab 5) (f2 aw (ab 2) (ab 4)))) (aV [.val (ay G T W),.val (ae c),.val (ae (bu false G T W c)),.val (ae (jc G T W c)),.val (nD k),.val (.int ((jc G T W c).getD k 0))])=↑(qR G T W c k):=by
    dsimp! [gM Q,lh,qR]
   refine⟨[.val (ay G T W),.val (ae c),.val (ae (bu false G T W c)),.val (ae (jc G T W c)),.val (nD k),.val (.int ((jc G T W c).getD k 0))],rfl,λq=>?_,λq=>?_⟩
   .rw[q] at hc;unfold OE;rw[iW hc];exact aJ (O4 rfl rfl)
   .rw[q] at hc;unfold OE;rw[bU hc];exact⟨_,rfl,_,_,rfl⟩) ⟨_,_,rfl⟩
 have i:(bj (aa (ab 3) af)) (bV [.val (ay G T W),.val (ae c),.val (ae (bu false G T W c)),.val (ae (jc G T W c)),.QB,.QB])=↑((List.range W.length).map λk=>.tuple [nD k,.int ((jc G T W c).getD k 0)]):=by
  have:=C4 (jc G T W c);rw[KF] at this;rw[<- this];rfl
 refine aE ?_;show nR [.val (ay G T W),.val (ae c),.QB,.QB,.QB,.QB]=_;unfold nR;rw[ai t,ai b];unfold rL;cases q:(List.range W.length).find? (qR G T W c) with
 | some k =>
  exact l8 (cM (H.1 k q) i rfl)
 | none =>
  let⟨d,e,x,y,rfl⟩:=H.2 q;exact (ai (cM e i rfl)).trans (aJ rfl)
def cf(l:Γ Int)(k:Nat)(v:Int)(i:Nat):(l.set k v).getD i 0=if k=i/\i < l.length then v else l.getD i 0:=by
 simp?[zG,xJ];by_cases h:k=i
 .subst h;by_cases H:k < l.length
  .simp[H]
  .simp[H]
 .simp[h]
def w6{a b:Γ Int}{i:Nat}(H:i < a.length)(B:i < b.length):(List.zipWith (·+·) a b).getD i 0=a.getD i 0+b.getD i 0:=by
 rw[zG,zG,zG,List.getElem?_zipWith,zK H,zK B];rfl
def Off(off:Γ Int):Prop:=∀i,0<=off.getD i 0
def OS(W:Γ Wy):Prop:=∀i,0<=(aA W i).2.2
def Wd.lim{G T:Γ Pl}{W:Γ Wy}(h:Wd G T W):OS W:=λi=>by
 by_cases H:i < W.length
 .have:=h.wr (aA W i) (by rw[<- iO H];exact qB H);lia
 .simp?[aA,zG];rw[jN (by lia)];simp
def Wd.amt{G T:Γ Pl}{W:Γ Wy}(h:Wd G T W)(b:θ)(i:Nat):0<=(bL b G T i).1:=by
 unfold bL;rw[zG];cases e:(aH b G T)[i]? with
 | none=>simp
 | some p =>
  have m:=qC e;cases b
  .exact (h.ga p m).1
  .exact (h.ta p m).1
def Mn{W:Γ Wy}{off:Γ Int}(o:Off off)(hl:OS W){amt:Int}(a:0<=amt)(I:Γ Nat)(i:Nat):0<=(rN W off amt I).getD i 0/\(rN W off amt I).getD i 0<=off.getD i 0:=by
 have:=lr (l:=I) (f:=mn W off) (s:=(amt,List.replicate W.length 0)) (λs=>0<=s.1/\∀i,0<=s.2.getD i 0/\s.2.getD i 0<=off.getD i 0) (λs k _ z=>by
  let⟨b,H⟩:=z;have O:=o k;have L:=hl k;have v:0<=cV W off s.1 k:=by unfold cV;lia
  have V:cV W off s.1 k<=off.getD k 0:=by unfold cV;lia
  have c:cV W off s.1 k<=s.1:=by unfold cV;lia
  refine⟨by simp?[mn];lia,λi=>?_⟩;simp?[mn,cf];split
  .rename_i z;rw[<- z.1];exact⟨v,V⟩
  .exact H i) ⟨a,λi=>by
   have:=o i;have z:(List.replicate W.length (0:Int)).getD i 0=0:=by
    simp?[zG,yY];split<;>rfl
   simp?[z];lia⟩
 exact this.2 i
def BY{W:Γ Wy}{off:Γ Int}{amt:Int}{I:Γ Nat}{i:Nat}(hi:i∉I):(rN W off amt I).getD i 0=0:=by
 refine lr (l:=I) (f:=mn W off) (s:=(amt,List.replicate W.length 0)) (λs=>s.2.getD i 0=0) (λs k H h=>?_) ?_
 .simp?[mn,cf];have Z:¬ (k=i/\i < s.2.length):=λz=>hi (z.1 ▸ H);rw[yO Z,h]
 .simp?[zG,yY];split<;>rfl
def tU{G T:Γ Pl}{W:Γ Wy}(h:Wd G T W){off:Γ Int}(o:Off off)(b:θ):∀ (n:Nat),n<=(aH b G T).length ->
  ((List.range n).foldl (xf b G T W off) (List.replicate W.length 0)).length=W.length/\∀i,i < W.length->(0<=((List.range n).foldl (xf b G T W off) (List.replicate W.length 0)).getD i 0/\((List.range n).foldl (xf b G T W off) (List.replicate W.length 0)).getD i 0<=off.getD i 0)/\((n:Nat)<=bb b (aA W i)->((List.range n).foldl (xf b G T W off) (List.replicate W.length 0)).getD i 0=0)
 | 0,_=>by
  refine⟨by simp,λi H=>?_⟩;have:=o i;have z:((List.range 0).foldl (xf b G T W off) (List.replicate W.length 0)).getD i 0=0:=by simp[zG,H]
  rw[z];exact⟨by lia,λ_=>rfl⟩
 | n+1,N=>by
  let⟨a,c⟩:=tU h o b n (by lia);rw[vT,vD,yJ,List.foldl_nil];generalize (List.range n).foldl (xf b G T W off) (List.replicate W.length 0)=s at a c;refine⟨oX a,λi H=>?_⟩;let⟨f,d⟩:=c i H;have e:=gJ (b:=b) (G:=G) (T:=T) (i:=n) (by lia);have hc:=Mn o h.lim (h.amt b n) (eG b W n (bL b G T n).2) i;have Z:(xf b G T W off s n).getD i 0=s.getD i 0+(rN W off (bL b G T n).1 (eG b W n (bL b G T n).2)).getD i 0:=w6 (by lia) (by rw[uL];exact H);rw[Z];by_cases E:bb b (aA W i)=n
  .rw[d (by lia)];exact⟨by lia,λz=>by lia⟩
  .have I:i∉eG b W n (bL b G T n).2:=λz=>E (bZ.mp ((eA h e).mem_iff.mp z)).2;rw[BY I];exact⟨by lia,λz=>by rw[d (by lia)];rfl⟩
def fT{l:Γ Int}{i:Nat}(h:l.length<=i):l.getD i 0=0:=by simp[zG,h]
def iC{G T:Γ Pl}{W:Γ Wy}(h:Wd G T W){off:Γ Int}(o:Off off)(b:θ):Off (bu b G T W off):=λi=>by
 by_cases H:i < W.length
 .exact ((tU h o b _ (yN _)).2 i H).1.1
 .rw[fT (by rw[nE];lia)];exact qA 0
def zl{G T:Γ Pl}{W:Γ Wy}(h:Wd G T W){off:Γ Int}(o:Off off)(b:θ){i:Nat}(hi:i < W.length):(bu b G T W off).getD i 0<=off.getD i 0 :=
 ((tU h o b _ (yN _)).2 i hi).1.2
def A5{G T:Γ Pl}{W:Γ Wy}(h:Wd G T W){c:Γ Int}(o:Off c){p:Nat×Int}(e:rL G T W c=↑p):p.1 < W.length/\0<=p.2/\p.2 < c.getD p.1 0:=by
 unfold rL at e;let⟨k,H,rfl⟩:=Dl.ag e;have m:=jZ H;have q:=vV H;have i:=List.mem_range.mp m;rw[qR,zJ] at q;have a:=zl h o false i;have b:=iC h (iC h o false) true k;exact⟨i,b,by simp only;lia⟩
def Sr(c:Γ Int):Nat:=(c.map Int.toNat).sum
def BJ:∀ {c:Γ Int}{k:Nat}{v:Int},0<=v->v < c.getD k 0->Sr (c.set k v) < Sr c
 | [],k,v,a,H=>by simp at H;lia
 | x::c,0,v,a,H=>by
  simp at H;simp?[Sr,yW,zI,kF];lia
 | x::c,k+1,v,a,H=>by
  have:=BJ (c:=c) (k:=k) a (by simpa using H);simp?[Sr,yX,zI,kF] at this ⊢;lia
def A3:∀ {W:Γ Wy},(∀w∈W,w.2.2<=9)->Sr (c7 W)<=9 * W.length
 | [],_=>by simp[Sr,c7]
 | w::W,h=>by
  have:=A3 (W:=W) λx H=>h x (zC _ H);have:=h w zE;simp?[Sr,c7,zI,kF,zL] at *;lia
def Jm{G T:Γ Pl}{W:Γ Wy}(h:Wd G T W):Off (c7 W):=λi=>by
 have:=h.lim i;by_cases H:i < W.length
 .simpa [c7,aA,zG,H] using this
 .rw[fT (by rw[nu];lia)];exact qA 0
def Bw{c:Γ Int}(h:Off c){k:Nat}{v:Int}(H:0<=v):Off (c.set k v):=λi=>by
 rw[cf];split
 .exact H
 .exact h i
def Am(a:Γ Int):SeqAt.shaped (ae a)=true :=
 (gX.tup (b:=a.length) (k:=0) (by simp) λx H=>by let⟨i,_,rfl⟩:=List.mem_map.mp H;exact gn _).shaped (by decide)
def FM(a b:Γ Int):PyData.eqv (ae a) (ae b)=decide (a=b):=by
 rw[ae,ae,PyData.eqv,nC]
def bF(h:f ρ=↑(.bool b)):fB f ρ=↑b:=by
 simp?[fB,h,zA,gB]
def dQ(h:t ρ=↑b):bT t ρ=↑(!b):=by
 simp?[bT,h,zB]
def F7(h:t ρ=↑false)(H:u ρ=↑false):nI t u ρ=↑false:=by
 simp?[nI,h,zA,H]
def ll(a b:Γ (Γ Int)):hC (.list (a.map ae)) (.list (b.map ae))=↑(.bool (!decide (a=b))):=by
 simp?[hC,ME,gg,jQ,xI,PyData.eqv,rJ,zB]
def Jj(x:Δ (Nat×Int)):pA (AU x) .none=↑(.bool x.isSome):=by cases x<;>rfl
def aX(A:f (aV ρ)=↑d)(F:f (bV ρ)=↑d)(H:hand fz 0 ρ=ρ):Dl.aD i fz f ρ=↑(.nx (ρ.set i (.val d))):=by
 cases s:Dl.qs d with
 | true=>exact cH A s
 | false=>exact lZ H A F s (.inr rfl)
def Lj(A:f (aV ρ)=↑d)(F:f (bV ρ)=↑d)(H:hand fz 0 ρ=ρ)(o:ρ[i]?=↑(.own ds))(hl:ds.length < 4000):lN i fz f ρ=↑(.nx (ρ.set i (.own (ds++[d])))):=by
 have z:ds.length < sizeLine:=zP hl (by decide);have I:lE fz f ρ=↑(d,ρ):=by
  unfold lE;rw[A,zA,H,F];cases Dl.qs d<;>rfl
 simp?[lN,I,zA,oh,o,z,xI,zB]
def cm(h:Wd G T W):d5 [ay G T W]=↑.none:=by
 have hw:cO [ay G T W]=↑(.bool true):=by rw[Al h.fit (by decide),h.wok]
 have hc:zq1 (aV [.val (ay G T W)])=↑false:=dQ (bF (call_of hw rfl rfl));have:dZ [.val (ay G T W)]=↑(.nx [.val (ay G T W)]):=by
  unfold dZ;rw[bU hc]
 show (dZ [.val (ay G T W)]).map _=_;rw[this];rfl
def lD(H:a<=i)(c:i<=b):d9 [.int i,.int a,.int b]=↑.none:=by
 have hw:bC [.int i,.int a,.int b]=↑(.bool true):=by rw[fW rfl];simp[whole,H,c]
 have hc:zq4 (aV [.val (.int i),.val (.int a),.val (.int b)])=↑false:=dQ (bF (call_of hw rfl rfl));have:dR [.val (.int i),.val (.int a),.val (.int b)]=↑(.nx [.val (.int i),.val (.int a),.val (.int b)]):=by
  unfold dR;rw[bU hc]
 show (dR [.val (.int i),.val (.int a),.val (.int b)]).map _=_;rw[this];rfl
def jo(H:0<=i)(a:i<=n - 1):da [.int i,.int n]=↑.none:=by
 have:dy [.val (.int i),.val (.int n)]=↑(.nx [.val (.int i),.val (.int n)]):=by
  unfold dy;exact cI (call_of (lD H a) (cons_of rfl (cons_of rfl (cons_of (ar (sub_int n 1) rfl rfl) rfl))) rfl)
 show (dy [.val (.int i),.val (.int n)]).map _=_;rw[this];rfl
def mY(b:θ):iS [.int (sI b)]=↑.none:=by
 have:eS [.val (.int (sI b))]=↑(.nx [.val (.int (sI b))]):=by
  unfold eS;exact cI (call_of (jo (n:=2) (i:=sI b) (by cases b<;>decide) (by cases b<;>decide)) rfl rfl)
 show (eS [.val (.int (sI b))]).map _=_;rw[this];rfl
abbrev Sp:=Γ (Nat×Int)×Γ Int
def Kj(G T:Γ Pl)(W:Γ Wy)(s:Sp):θ:=(rL G T W s.2).isSome
def spS(G T:Γ Pl)(W:Γ Wy)(s:Sp):Sp:=match rL G T W s.2 with|some p=>(s.1++[p],s.2.set p.1 p.2)|none=>s
def low(c:Γ Int)(p:Nat×Int):Γ Int:=c.set p.1 p.2
structure y8(W:List Wy)(s:Sp):Prop where
 len:s.2.length=W.length
 off:Off s.2
 eq:s.2=s.1.foldl low (c7 W)
 bd:s.1.length+Sr s.2<=Sr (c7 W)
 mem:∀p∈s.1,p.1 < W.length
def y8.start(h:Wd G T W):y8 W ([],c7 W):=⟨nu W,Jm h,rfl,by simp,λp H=>by cases H⟩
def rD(e:rL G T W s.2=↑p):spS G T W s=(s.1++[p],s.2.set p.1 p.2):=by
 unfold spS;rw[e]
def y8.step(h:Wd G T W)(i:y8 W s)(e:rL G T W s.2=↑p):y8 W (spS G T W s)/\Sr (spS G T W s).2 < Sr s.2:=by
 let⟨a,H,b⟩:=A5 h i.off e;have m:=BJ H b;rw[rD e];refine⟨⟨by simp[i.len],Bw i.off H,?_,?_,λq Q=>?_⟩,m⟩
 .rw[vD,<- i.eq];rfl
 .have:=i.bd;simp?[zN,xD];lia
 .rcases List.mem_append.mp Q with z|z
  .exact i.mem q z
  .rw[yK] at z;rw[z];exact a
def Wd.Sr(h:Wd G T W):Sr (c7 W)<=144:=by
 have:=A3 (W:=W) λw hw=>(h.wr w hw).2.2.2;have:=h.wl;lia
def mq(r:Γ (Nat×Int)):Γ D:=(r.map λp=>[((p.1:Nat):Int),p.2]).map ae
def IT(r:Γ (Nat×Int))(p:Nat×Int):mq (r++[p])=mq r++[AU (↑p)]:=by simp[mq];rfl
def IH(r:Γ (Nat×Int)):(mq r).length=r.length:=by simp[mq]
def fin(G T:Γ Pl)(W:Γ Wy):Sp:=lp (Kj G T W) (spS G T W) Rf.turns ([],c7 W)
def OF:au->Δ Out:=(av (lN 1 [3] (ab 3)) (av (Dl.aD 2 [2,3] (ah 3 dO (aa (ab 2) (aa (f2 aw (ab 3) (fC (.int 0))) (aa (f2 aw (ab 3) (fC (.int 1))) af))))) (Dl.aD 3 [0,2] (ah 2 hZ (aa (ab 0) (aa (ab 2) af))))))
def Kc(G T:Γ Pl)(W:Γ Wy)(s:Sp):au:=[.val (ay G T W),.own (mq s.1),.val (ae s.2),.val (AU (rL G T W s.2))]
def HZ(h:Wd G T W)(i:y8 W s)(e:rL G T W s.2=↑p):OF (Kc G T W s)=↑(.nx (Kc G T W (spS G T W s))):=by
 let⟨f,k,l⟩:=A5 h i.off e;let⟨I,m⟩:=i.step h e;have B:=h.Sr;have D:=i.bd;have hw:=h.wl;have t:lN 1 [3] (ab 3) (Kc G T W s)=↑(.nx [.val (ay G T W),.own (mq s.1++[AU (↑p)]),.val (ae s.2),.val (AU (↑p))]):=by
  unfold Kc;rw[e];exact Lj rfl rfl rfl rfl (by rw[IH];lia)
 have M:∀d:Dl.Env,ab 2 d=↑(ae s.2)->ab 3 d=↑(AU (↑p))->(ah 3 dO (aa (ab 2) (aa (f2 aw (ab 3) (fC (.int 0))) (aa (f2 aw (ab 3) (fC (.int 1))) af)))) d=↑(ae (s.2.set p.1 p.2)):=λd a b =>
  call_of (sd (c:=s.2) (i:=p.1) (v:=p.2) (by rw[i.len];exact f) (by rw[i.len];lia)) (cons_of a (cons_of (ar (PF _ _) b rfl) (cons_of (ar (OD _ _ _) b rfl) rfl))) rfl
 have g:Dl.aD 2 [2,3] (ah 3 dO (aa (ab 2) (aa (f2 aw (ab 3) (fC (.int 0))) (aa (f2 aw (ab 3) (fC (.int 1))) af)))) [.val (ay G T W),.own (mq s.1++[AU (↑p)]),.val (ae s.2),.val (AU (↑p))]=↑(.nx [.val (ay G T W),.own (mq s.1++[AU (↑p)]),.val (ae (s.2.set p.1 p.2)),.val (AU (↑p))]) :=
  aX (M _ rfl rfl) (M _ rfl rfl) rfl
 have H:(s.2.set p.1 p.2).length=W.length:=by rw[yC,i.len]
 have j:Dl.aD 3 [0,2] (ah 2 hZ (aa (ab 0) (aa (ab 2) af))) [.val (ay G T W),.own (mq s.1++[AU (↑p)]),.val (ae (s.2.set p.1 p.2)),.val (AU (↑p))]=↑(.nx [.val (ay G T W),.own (mq s.1++[AU (↑p)]),.val (ae (s.2.set p.1 p.2)),.val (AU (rL G T W (s.2.set p.1 p.2)))]) :=
  aX (call_of (k6 h H) rfl rfl) (call_of (k6 h H) rfl rfl) rfl
 unfold OF;rw[ai t,ai g,j,rD e];unfold Kc;rw[IT]
def nq(h:Kj G T W s=true):∃p,rL G T W s.2=↑p:=Option.isSome_iff_exists.mp h
def Hv(h:Wd G T W):tQ [ay G T W]=↑(.list (mq (fin G T W).1))/\y8 W (fin G T W):=by
 have b:=h.Sr;have c:aN 1 [] Yx [.val (ay G T W),.QB,.QB,.QB]=↑(.nx [.val (ay G T W),.own [],.QB,.QB]):=hJ (f:=gc af) (ds:=[]) (show small []=↑[] from aZ (by simp)) rfl;have d:Dl.aD 2 [0] zq8 [.val (ay G T W),.own [],.QB,.QB]=↑(.nx [.val (ay G T W),.own [],.val (ae (c7 W)),.QB]) :=
  aX (call_of (mL h) rfl rfl) (call_of (mL h) rfl rfl) rfl
 have g:Dl.aD 3 [0,2] aaf [.val (ay G T W),.own [],.val (ae (c7 W)),.QB]=↑(.nx (Kc G T W ([],c7 W))) :=
  aX (call_of (k6 h (nu W)) rfl rfl) (call_of (k6 h (nu W)) rfl rfl) rfl
 let⟨j,w,⟨rfl,v⟩,_⟩:=wc (t:=aah) (gb:=OF) (R:=λs a=>a=Kc G T W s/\y8 W s) (Kj G T W) (spS G T W) (λs=>Sr s.2)
  (λs a z=>by
   let⟨U,i⟩:=z;subst U;exact bF (ar (Jj _) rfl rfl))
  (λs a z hc=>by
   let⟨U,i⟩:=z
   subst U;let⟨p,e⟩:=nq hc;exact⟨_,HZ h i e,⟨rfl,(i.step h e).1⟩,(i.step h e).2⟩)
  Rf.turns ([],c7 W) (Kc G T W ([],c7 W)) (jA b (by decide)) ⟨rfl,y8.start h⟩
 refine⟨?_,v⟩;refine aE ?_;show uE [.val (ay G T W),.QB,.QB,.QB]=_;unfold uE;rw[ai c,ai d,ai g];refine (ai w).trans ?_;exact aJ rfl
def II(c:Γ Int)(p:Nat×Int):(low c p).length=c.length:=by simp[low]
def EC(h:Wd G T W)(b:∀p∈r,p.1 < W.length):pC [ay G T W,.list (mq r)]=↑(ae (r.foldl low (c7 W))):=by
 have hw:=h.wl;have d:Dl.aD 2 [0] zq8 [.val (ay G T W),.val (.list (mq r)),.QB,.QB,.QB]=↑(.nx [.val (ay G T W),.val (.list (mq r)),.val (ae (c7 W)),.QB,.QB]) :=
  aX (call_of (mL h) rfl rfl) (call_of (mL h) rfl rfl) rfl
 let⟨f,E,S,x,y,rfl⟩:=ju (tgt:=iN 3 4) (gb:=Dl.aD 2 [2,3,4] Yy) (R:=λ(c:Γ Int) a=>c.length=W.length/\∃x y,a=[.val (ay G T W),.val (.list (mq r)),.val (ae c),x,y]) (λp:Nat×Int=>ae [((p.1:Nat):Int),p.2]) low
  (l:=r) (s:=c7 W) (ρ:=[.val (ay G T W),.val (.list (mq r)),.val (ae (c7 W)),.QB,.QB])
  (λc a p H z=>by
   let⟨hc,x,y,U⟩:=z;subst U;have e:=sd (c:=c) (i:=p.1) (v:=p.2) (by rw[hc];exact b p H) (by lia);have t:Dl.aD 2 [2,3,4] Yy [.val (ay G T W),.val (.list (mq r)),.val (ae c),.val (nD p.1),.val (.int p.2)]=↑(.nx [.val (ay G T W),.val (.list (mq r)),.val (ae (low c p)),.val (nD p.1),.val (.int p.2)]) :=
    aX (call_of e rfl rfl) (call_of e rfl rfl) rfl
   exact⟨_,_,rfl,t,by rw[II,hc],_,_,rfl⟩) ⟨nu W,_,_,rfl⟩
 refine aE ?_;show qx [.val (ay G T W),.val (.list (mq r)),.QB,.QB,.QB]=_;unfold qx;rw[ai d];refine (ai (cM E ?_ rfl)).trans (aJ rfl);show some (mq r)=_;rw[mq,zM];rfl
def rO(h:Wd G T W):dW [ay G T W]=↑(ae (bu false G T W (fin G T W).2)):=by
 let⟨E,i⟩:=Hv h;have e:=EC h i.mem;rw[<- i.eq] at e;refine aE ?_;show gL [.val (ay G T W)]=_;unfold gL;refine (ai (cI (call_of (cm h) rfl rfl))).trans ?_;exact aJ (call_of (eI h i.len false) (cons_of rfl (cons_of rfl (cons_of (call_of e (cons_of rfl (cons_of (call_of E rfl rfl) rfl)) rfl) rfl))) rfl)
def LG(w:Wy):Wy:=(w.2.1,w.1,w.2.2)
structure Ord(W:List Wy)(π:List Nat):Prop where
 perm:π.Perm (List.range W.length)
 up:π.Pairwise λi j=>(aA W i).2.1 < (aA W j).2.1\/((aA W i).2.1=(aA W j).2.1/\(aA W i).1 < (aA W j).1)
def f7(W:Γ Wy)(a:Γ Nat):Γ Wy:=a.map λi=>LG (aA W i)
def sR(P:Γ Int)(a:Γ Nat):Γ Int:=a.map λi=>P.getD i 0
def Ord.len(o:Ord W π):π.length=W.length:=by rw[o.perm.length_eq,zR]
def Ord.lt(o:Ord W π)(H:k < W.length):π.getD k 0 < W.length:=by
 have h:k < π.length:=by rw[o.len];exact H
 have:=o.perm.mem_iff.mp (qB h);rw[zG,zK h];simpa using this
def Ord.ex(o:Ord W π)(hi:i < W.length):∃k,k < W.length/\π.getD k 0=i:=by
 have:i∈π:=o.perm.mem_iff.mpr (by simpa using hi);let⟨k,H,e⟩:=qS this;exact⟨k,by rw[<- o.len];exact H,by rw[zG,zK H];exact e⟩
def bD(o:Ord W π):(f7 W π).length=W.length:=by simp[f7,o.len]
def Jg(o:Ord W π):(sR P π).length=W.length:=by simp[sR,o.len]
def fQ(o:Ord W π)(H:k < W.length):aA (f7 W π) k=LG (aA W (π.getD k 0)):=by
 have h:k < π.length:=by rw[o.len];exact H
 simp[aA,f7,h,zG]
def kg(o:Ord W π)(H:k < W.length):(sR P π).getD k 0=P.getD (π.getD k 0) 0:=by
 have h:k < π.length:=by rw[o.len];exact H
 simp[sR,h,zG]
def uI(b:θ)(w:Wy):bb (!b) (LG w)=bb b w:=by cases b<;>rfl
def ue(b:θ)(w:Wy):bP (!b) (LG w)=bP b w:=by cases b<;>rfl
def Ord.Wg(o:Ord W π):rZ (f7 W π):=by
 unfold rZ f7;rw[jF];exact o.up
def Kq(h:rZ W)(hi:i < W.length)(H:j < W.length)(e:(aA W i).1 < (aA W j).1\/((aA W i).1=(aA W j).1/\(aA W i).2.1 < (aA W j).2.1)):i < j:=by
 rcases Nat.lt_or_ge i j with q|q
 .exact q
 .exfalso;rcases Nat.eq_or_lt_of_le q with q|q
  .subst q;lia
  .have:=List.pairwise_iff_getElem.mp h j i H hi q;rw[iO hi,iO H] at this;lia
def AB(p:l.Perm (List.range n))(h:l.Pairwise (· < ·)):l=List.range n:=by
 refine gQ (λi=>((i:Nat):Int)) p (h.imp λ{a b} q=>by lia) (List.pairwise_lt_range.imp λ{a b} q=>by lia)
def map_getD(l:Γ Nat):(List.range l.length).map (λk=>l.getD k 0)=l:=by
 apply jI
 .simp
 .intro i a H;simp[H]
def Ord.back(h:rZ W)(o:Ord W π)(O:Ord (f7 W π) U):U.map (λk=>π.getD k 0)=List.range W.length:=by
 have l:(f7 W π).length=W.length:=bD o;refine AB ?_ ?_
 .have:=(O.perm.map λk=>π.getD k 0)
  rw[l,<- o.len,map_getD] at this;exact this.trans o.perm
 .rw[jF];refine O.up.imp_of_mem λ{i j} H J q=>?_;have R:i < W.length:=by have:=O.perm.mem_iff.mp H;rw[l] at this;simpa using this
  have r:j < W.length:=by have:=O.perm.mem_iff.mp J;rw[l] at this;simpa using this
  rw[fQ o R,fQ o r] at q;exact Kq h (o.lt R) (o.lt r) q
def B0(h:rZ W)(o:Ord W π)(O:Ord (f7 W π) U):f7 (f7 W π) U=W:=by
 have l:(f7 W π).length=W.length:=bD o;have e:f7 (f7 W π) U=(U.map λk=>π.getD k 0).map λi=>aA W i:=by
  unfold f7;rw[zM];refine yI λk H=>?_;have Q:k < W.length:=by have:=O.perm.mem_iff.mp H;rw[l] at this;simpa using this
  have:=fQ o Q;unfold f7 at this;rw[this];rfl
 rw[e,o.back h O];have:=map_range (0,0,0) (λw:Wy=>w) W;simpa [aA] using this
def Be(h:rZ W)(o:Ord W π)(O:Ord (f7 W π) U)(p:P.length=W.length):sR (sR P π) U=P:=by
 have l:(f7 W π).length=W.length:=bD o;have e:sR (sR P π) U=(U.map λk=>π.getD k 0).map λi=>P.getD i 0:=by
  rw[zM];unfold sR;refine yI λk H=>?_;have Q:k < W.length:=by have:=O.perm.mem_iff.mp H;rw[l] at this;simpa using this
  have:=kg (P:=P) o Q;unfold sR at this;rw[this];rfl
 rw[e,o.back h O,<- p];have:=map_range 0 (λx:Int=>x) P;simpa using this
def Fc(o:Ord W π)(b:θ)(p:Int):((own (!b) (f7 W π) p).map λk=>π.getD k 0).Perm (own b W p):=by
 have l:(f7 W π).length=W.length:=bD o;have e:((own (!b) (f7 W π) p).map λk=>π.getD k 0)=π.filter λi=>decide (bb b (aA W i)=p):=by
  conv=>rhs;rw[<- map_getD π,kJ,o.len]
  unfold own;rw[l]
  congr 1
  refine List.filter_congr λk H=>?_;have Q:k < W.length:=by simpa using H
  rw[fQ o Q,uI];rfl
 rw[e];exact o.perm.filter _
def FA(o:Ord W π)(b:θ)(p:Int):(MC (!b) (f7 W π) p).Perm (MC b W p):=by
 have l:(f7 W π).length=W.length:=bD o;rw[<- k7,<- k7];have:=(Fc o b p).map λi=>bP b (aA W i);rw[zM] at this;refine List.Perm.trans (List.Perm.of_eq ?_) this;refine yI λk H=>?_;have Q:k < W.length:=by have:=(bZ.mp H).1;rwa [l] at this
 show bP (!b) (aA (f7 W π) k)=bP b (aA W (π.getD k 0));rw[fQ o Q,ue]
def Ord.wd(h:Wd G T W)(o:Ord W π):Wd T G (f7 W π) where
 g1:=h.t1
 g4:=h.t4
 t1:=h.g1
 t4:=h.g4
 ga:=h.ta
 ta:=h.ga
 gl:=λi p e=>(h.tl i p e).trans (FA o true i).symm
 tl:=λi p e=>(h.gl i p e).trans (FA o false i).symm
 wr:=λw hw=>by
  let⟨i,H,rfl⟩:=List.mem_map.mp hw;have R:i < W.length:=by have:=o.perm.mem_iff.mp H;simpa using this
  have:=h.wr (aA W i) (by rw[<- iO R];exact qB _);exact⟨this.2.1,this.1,this.2.2⟩
 wp:=o.Wg
 wl:=by rw[bD o];exact h.wl
def nB(b:θ)(G T:Γ Pl):aH (!b) T G=aH b G T:=by cases b<;>rfl
def AJ(b:θ)(G T:Γ Pl)(i:Nat):bL (!b) T G i=bL b G T i:=by unfold bL;rw[nB]
def jl(b:θ)(W:Γ Wy)(P:Γ Int)(p:Int):Int:=((own b W p).map λi=>P.getD i 0).sum
def ye{l m:Γ Int}(p:l.Perm m):l.sum=m.sum:=by
 induction p with
 | nil=>rfl
 | cons x _ i=>simp[i]
 | swap x y l=>simp?[kF];lia
 | trans _ _ H a=>exact H.trans a
def Aq(o:Ord W π)(b:θ)(p:Int):jl (!b) (f7 W π) (sR P π) p=jl b W P p:=by
 have l:(f7 W π).length=W.length:=bD o;have:=ye ((Fc o b p).map λi=>P.getD i 0);unfold jl;rw[<- this,zM]
 congr 1
 refine yI λk H=>?_;have Q:k < W.length:=by have:=(bZ.mp H).1;rwa [l] at this
 exact kg o Q
def LS(h:Wd G T W)(o:Ord W π){b:θ}{i:Nat}{p:Pl}(e:(aH b G T)[i]?=↑p){x:Int}(X:x∈p.2):oR (!b) (f7 W π) i x < W.length/\π.getD (oR (!b) (f7 W π) i x) 0=oR b W i x:=by
 have E:(aH (!b) T G)[i]?=↑p:=by rw[nB];exact e
 let⟨H,a,c⟩:=mN (o.wd h) E X;let⟨g,d,f⟩:=mN h e X;rw[bD o] at H;rw[fQ o H,uI] at a;rw[fQ o H,ue] at c;exact⟨H,yt h.wp (o.lt H) g (by rw[a,d]) (by rw[c,f])⟩
def rV(L:Γ Int)(x:Int):Nat:=L.findIdx λo=>decide (o=x)
def uJ(b:θ)(G T:Γ Pl)(W:Γ Wy)(P:Γ Int)(k:Nat):θ :=
 decide (jl b W P (bb b (aA W k)) < (bL b G T (bb b (aA W k)).toNat).1) ||
 ((bL b G T (bb b (aA W k)).toNat).2.drop (rV (bL b G T (bb b (aA W k)).toNat).2 (bP b (aA W k))+1)).any λo=>decide (0 < P.getD (oR b W (bb b (aA W k)) o) 0)
def lx(G T:Γ Pl)(W:Γ Wy)(P:Γ Int)(k:Nat):Nat :=
 if P.getD k 0=(aA W k).2.2 then 0 else if uJ false G T W P k=false then 1 else if uJ true G T W P k=false then 2 else 3
def vz(G T:Γ Pl)(W:Γ Wy)(P:Γ Int):Γ Nat:=(List.range W.length).filter λk=>decide (lx G T W P k=3)
def Wd.Rc(h:Wd G T W)(b:θ)(H:k < W.length):0<=bb b (aA W k)/\(bb b (aA W k)).toNat < (aH b G T).length/\((bb b (aA W k)).toNat:Int)=bb b (aA W k):=by
 have:=h.wr (aA W k) (by rw[<- iO H];exact qB _);cases b
 .simp?[bb,aH,yP,qQ];lia
 .simp?[bb,aH,xI];lia
def sD:∀ {l:Γ α},(∀x∈l,p x=q x)->l.any p=l.any q
 | [],_=>rfl
 | a::l,h=>by rw[vG,vG,h a zE,sD λx H=>h x (zC _ H)]
def FU(h:Wd G T W)(o:Ord W π)(b:θ)(H:k < W.length):uJ (!b) T G (f7 W π) (sR P π) k=uJ b G T W P (π.getD k 0):=by
 let⟨d,a,c⟩:=h.Rc b (o.lt H);unfold uJ;rw[fQ o H,uI,ue,AJ,Aq o]
 congr 1
 rw[<- c];simp?[yG];refine sD λx X=>?_;let⟨e,E⟩:=LS h o (gJ a) (List.mem_of_mem_drop X);rw[kg o e,E]
def KD(h:Wd G T W)(o:Ord W π)(H:k < W.length):(lx T G (f7 W π) (sR P π) k=3)↔(lx G T W P (π.getD k 0)=3):=by
 have e:=FU (P:=P) h o false H;have E:=FU (P:=P) h o true H;simp?[Bool.not_false,xZ] at e E;unfold lx;rw[kg o H,fQ o H,e,E];have:(LG (aA W (π.getD k 0))).2.2=(aA W (π.getD k 0)).2.2:=rfl;rw[this];cases uJ false G T W P (π.getD k 0)<;>cases uJ true G T W P (π.getD k 0)<;>simp<;>split<;>simp
def Ng(h:Wd G T W)(o:Ord W π):((vz T G (f7 W π) (sR P π)).map λk=>π.getD k 0).Perm (vz G T W P):=by
 have l:(f7 W π).length=W.length:=bD o;have e:((vz T G (f7 W π) (sR P π)).map λk=>π.getD k 0)=π.filter λi=>decide (lx G T W P i=3):=by
  conv=>rhs;rw[<- map_getD π,kJ,o.len]
  unfold vz;rw[l]
  congr 1
  refine List.filter_congr λk H=>?_;have Q:k < W.length:=by simpa using H
  exact decide_eq_decide.mpr (KD h o Q)
 rw[e];exact o.perm.filter _
def EW(h:Wd G T W)(o:Ord W π):(vz T G (f7 W π) (sR P π)=[])↔(vz G T W P=[]):=by
 have:=(Ng (P:=P) h o).length_eq;rw[zD] at this;rw[<- List.length_eq_zero_iff,<- List.length_eq_zero_iff,this]
structure Pn(G T:List Pl)(W:List Wy)(P:List Int):Prop where
 len:P.length=W.length
 bd:∀k,k < W.length->0<=P.getD k 0/\P.getD k 0<=(aA W k).2.2
 am:∀ (b:θ) (i:Nat),i < (aH b G T).length->jl b W P i<=(bL b G T i).1
def Pn.tu(h:Wd G T W)(o:Ord W π)(p:Pn G T W P):Pn T G (f7 W π) (sR P π) where
 len:=by rw[Jg o,bD o]
 bd:=λk H=>by
  rw[bD o] at H;rw[kg o H,fQ o H];exact p.bd _ (o.lt H)
 am:=λb i I=>by
  have:=p.am (!b) i (by rw[<- nB b T G] at I;exact I);rw[<- Aq o (!b),<- AJ (!b),Bool.not_not] at this;exact this
section
variable {off:Γ Int}
def BE(h:Wd G T W)(b:θ):∀ (n:Nat),n<=(aH b G T).length ->
  ((List.range n).foldl (xf b G T W off) (List.replicate W.length 0)).length=W.length/\∀k,k < W.length ->
   ((List.range n).foldl (xf b G T W off) (List.replicate W.length 0)).getD k 0=if bb b (aA W k) < n then (rN W off (bL b G T (bb b (aA W k)).toNat).1 (eG b W (bb b (aA W k)).toNat (bL b G T (bb b (aA W k)).toNat).2)).getD k 0 else 0
 | 0,_=>by
  refine⟨by simp,λk H=>?_⟩;let⟨a,_,_⟩:=h.Rc b H;rw[yO (by lia)];simp[zG,H]
 | n+1,N=>by
  let⟨a,c⟩:=BE h b n (by lia);rw[vT,vD,yJ,List.foldl_nil];generalize (List.range n).foldl (xf b G T W off) (List.replicate W.length 0)=s at a c;refine⟨oX a,λk H=>?_⟩;have Z:(xf b G T W off s n).getD k 0=s.getD k 0+(rN W off (bL b G T n).1 (eG b W n (bL b G T n).2)).getD k 0:=w6 (by lia) (by rw[uL];exact H);rw[Z,c k H];let⟨g,_,_⟩:=h.Rc b H;have e:=gJ (b:=b) (G:=G) (T:=T) (i:=n) (by lia);by_cases E:bb b (aA W k)=n
  .have X:(bb b (aA W k)).toNat=n:=by lia
   rw[yO (by lia),yM (by lia),X];lia
  .have I:k∉eG b W n (bL b G T n).2:=λz=>E (bZ.mp ((eA h e).mem_iff.mp z)).2;rw[BY I];by_cases Q:bb b (aA W k) < n
   .rw[yM Q,yM (by lia)];lia
   .rw[yO Q,yO (by lia)];rfl
def Ei(h:Wd G T W)(b:θ)(H:k < W.length):(bu b G T W off).getD k 0=(rN W off (bL b G T (bb b (aA W k)).toNat).1 (eG b W (bb b (aA W k)).toNat (bL b G T (bb b (aA W k)).toNat).2)).getD k 0:=by
 have:=(BE (off:=off) h b _ (yN _)).2 k H;let⟨_,a,c⟩:=h.Rc b H;rw[yM (by lia)] at this;exact this
def By{amt:Int}:∀ (I:Γ Nat) (s:Int×Γ Int),I.Nodup->(∀i∈I,i < s.2.length/\s.2.getD i 0=0) ->
  ((I.foldl (mn W off) s).2.length=s.2.length)/\(I.map λi=>(I.foldl (mn W off) s).2.getD i 0).sum=s.1 - (I.foldl (mn W off) s).1/\∀j,j∉I->(I.foldl (mn W off) s).2.getD j 0=s.2.getD j 0
 | [],s,_,_=>⟨rfl,by simp,λ_ _=>rfl⟩
 | i::I,s,n,Z=>by
  rw[kX] at n;let⟨c,e⟩:=Z i zE;have S:∀j∈I,j < (mn W off s i).2.length/\(mn W off s i).2.getD j 0=0:=λj H=>by
   let⟨a,b⟩:=Z j (zC _ H);refine⟨by simpa [mn] using a,?_⟩;simp?[mn,cf];have Q:¬ (i=j/\j < s.2.length):=λz=>n.1 (z.1 ▸ H);rw[yO Q,b]
  let⟨R,d,r⟩:=By (amt:=amt) I (mn W off s i) n.2 S;rw[yJ];refine⟨by rw[R];simp[mn],?_,λj H=>?_⟩
  .rw[zI,kF,d,r i n.1];simp?[mn,cf];rw[yM ⟨trivial,c⟩];lia
  .rw[r j λz=>H (zC _ z)];simp?[mn,cf];have Q:¬ (i=j/\j < s.2.length):=λz=>H (z.1 ▸ zE);rw[yO Q]
def ya(o:Off off)(hl:OS W):∀ (I:Γ Nat) (s:Int×Γ Int),0<=s.1->0<=(I.foldl (mn W off) s).1
 | [],s,h=>h
 | i::I,s,h=>by
  rw[yJ];refine ya o hl I _ ?_;simp?[mn,cV];have:=o i;have:=hl i;lia
def Js(h:Wd G T W)(o:Off off)(hi:i < (aH b G T).length) :
  ((own b W i).map λk=>(rN W off (bL b G T i).1 (eG b W i (bL b G T i).2)).getD k 0).sum<=(bL b G T i).1:=by
 have e:=gJ hi;have p:=eA h e;rw[<- ye (p.map λk=>(rN W off (bL b G T i).1 (eG b W i (bL b G T i).2)).getD k 0)];have n:(eG b W i (bL b G T i).2).Nodup:=p.nodup_iff.mpr (List.nodup_range.filter _);let⟨_,r,_⟩:=By (W:=W) (off:=off) (amt:=0) (eG b W i (bL b G T i).2) ((bL b G T i).1,List.replicate W.length 0) n λk H=>by
  have Q:=(bZ.mp (p.mem_iff.mp H)).1;refine⟨by simpa using Q,by simp[zG,Q]⟩
 have:=ya o h.lim (eG b W i (bL b G T i).2) ((bL b G T i).1,List.replicate W.length 0) (h.amt b i);unfold rN;rw[r];show (bL b G T i).1 - _<=(bL b G T i).1;lia
def Ca(h:Wd G T W)(o:Off off)(hi:i < (aH b G T).length):jl b W (bu b G T W off) i<=(bL b G T i).1:=by
 refine jV (Int.le_of_eq ?_) (Js h o hi);unfold jl
 congr 1
 refine yI λk H=>?_;let⟨Q,e⟩:=bZ.mp H;have:=Ei (off:=off) h b Q;rw[e,yG] at this;exact this
def CI(h:∀k,k < W.length->P.getD k 0=Q.getD k 0):jl b W P p=jl b W Q p:=by
 unfold jl
 congr 1
 exact yI λk H=>h k (bZ.mp H).1
def Iy(h:Wd G T W)(o:Off c)(hc:∀k,k < W.length->c.getD k 0<=(aA W k).2.2)(e:rL G T W c=none):Pn G T W (bu false G T W c) where
 len:=nE _ _ _ _ _
 bd:=λk H=>⟨iC h o false k,jV (zl h o false H) (hc k H)⟩
 am:=λb i I=>by
  cases b
  .exact Ca h o I
  .have E:∀k,k < W.length->(jc G T W c).getD k 0=(bu false G T W c).getD k 0:=λk H=>by
    have f:=zl h (iC h o false) true H;have a:qR G T W c k=false:=by
     unfold rL at e;rw[Option.map_eq_none_iff] at e;have:=List.find?_eq_none.mp e k (by simpa using H);simpa using this
    unfold qR at a;have d:=wJ a;unfold jc at d ⊢;lia
   rw[<- CI E];exact Ca h (iC h o false) I
end
def zs(n:Nat):Γ Int:=List.replicate n 0
section
variable {W:Γ Wy}{G T:Γ Pl}{d:Nat->Int}
def Fe(h:∀k,P.getD k 0=0):jl b W P p=0:=by
 unfold jl;have:((own b W p).map λi=>P.getD i 0)=(own b W p).map λ_=>(0:Int):=yI λk _=>h k;rw[this];generalize own b W p=l
 induction l with
 | nil=>rfl
 | cons a l I=>simp[I]
def JO(n k:Nat):(zs n).getD k 0=0:=by
 simp?[zs,zG,yY];split<;>rfl
end
section
variable {P off:Γ Int}
def Gv:∀ (xs:Γ Nat),(∀i∈xs,0<=off.getD i 0)->0<=(xs.map λi=>off.getD i 0).sum
 | [],_=>by simp
 | i::xs,h=>by
  have:=Gv xs λj H=>h j (zC _ H);have:=h i zE;rw[zI,kF];lia
def BD:∀ (xs:Γ Nat),(∀i∈xs,0<=P.getD i 0)->(0 < (xs.map λi=>P.getD i 0).sum↔(xs.any λi=>decide (0 < P.getD i 0))=true)
 | [],_=>by simp
 | i::xs,h=>by
  have I:=BD xs λj H=>h j (zC _ H);have a:=Gv (off:=P) xs λj H=>h j (zC _ H);have b:=h i zE;rw[zI,kF,vG,jC,zJ,<- I];lia
def Ic(h:Wd G T W){b:θ}(H:k < W.length) :
  let i:=(bb b (aA W k)).toNat;let L:=(bL b G T i).2
  eG b W i L=(L.take (rV L (bP b (aA W k)))).map (oR b W i)++k::(L.drop (rV L (bP b (aA W k))+1)).map (oR b W i):=by
 intro i L;let⟨d,c,a⟩:=h.Rc b H;have e:=gJ c;have m:bP b (aA W k)∈L:=by
  rw[(h.YY e).mem_iff,<- k7];exact List.mem_map.mpr ⟨k,bZ.mpr ⟨H,a.symm⟩,rfl⟩
 have Q:rV L (bP b (aA W k)) < L.length:=by
  unfold rV;exact kN ⟨_,m,by simp⟩
 have g:L[rV L (bP b (aA W k))]=bP b (aA W k):=by
  have:=List.findIdx_getElem (w:=Q);exact yR this
 have x:oR b W i (bP b (aA W k))=k:=tK h.wp (bZ.mpr ⟨H,a.symm⟩);unfold eG
 conv=>lhs;rw[<- List.take_append_drop (rV L (bP b (aA W k))) L,vB Q,g,jB,zI,x]
end
def nS{tt:Dl.Env->Δ θ}{te:Dl.Env->Δ D}{r:Γ (Δ D)}{x y h:Nat->D}{p:Nat->θ}:∀ (s:Γ Nat),
  (∀i∈s,tt (↑(x i)::↑(y i)::r)=↑(p i)/\(p i=true->te (↑(x i)::↑(y i)::r)=↑(h i))) ->
  cq (fy 0 1) tt te (none::none::r) (s.map λi=>.tuple [x i,y i])=↑((s.filter p).map h)
 | [],_=>rfl
 | i::s,a=>by
  let⟨b,c⟩:=a i zE;have I:=nS s λj J=>a j (zC _ J);have g:fy 0 1 (none::none::r) (.tuple [x i,y i])=↑(↑(x i)::↑(y i)::r):=by
   simp?[fy,isFree,xR,yZ,qH,wK,jQ,xI,yW,yX]
  rw[zI,cq,g];simp?[zA,b];cases H:p i with
  | true=>simp[c H,I,H]
  | false=>simp[I,H]
def j5{fi:Dl.Env->Δ (Γ D)}{tt:Dl.Env->Δ θ}{te:Dl.Env->Δ D}{ρ:Dl.Env}{n:Nat}{x y h:Nat->D}{p:Nat->θ}(R:fi ρ=↑((List.range n).map λi=>.tuple [x i,y i]))(hl:n<=1000)
  (H:∀i,i < n->tt (↑(x i)::↑(y i)::cs.map λj=>(ρ[j]?).getD none)=↑(p i)/\(p i=true->te (↑(x i)::↑(y i)::cs.map λj=>(ρ[j]?).getD none)=↑(h i))) :
  aj 2 cs fi (fy 0 1) tt te ρ=↑(((List.range n).filter p).map h):=by
 have:=nS (tt:=tt) (te:=te) (r:=cs.map λj=>(ρ[j]?).getD none) (p:=p) (h:=h) (List.range n) λi I=>H i (by simpa using I);simp?[aj,R,zA,dz,List.replicate,xG,xP,this];refine aZ ?_;rw[zD];refine yD (xQ _ _) ?_;rw[zR];lia
def sQ{W:Γ Wy}{P:Γ Int}(h:P.length=W.length):jx (W.map ao) (P.map PyData.int)=(List.range W.length).map λi=>.tuple [ao (aA W i),.int (P.getD i 0)]:=by
 apply List.ext_getElem?;intro i;by_cases H:i < W.length
 .have z:i < (jx (W.map ao) (P.map PyData.int)).length:=by rw[nr];simp[h];exact H
  rw[zK z];let⟨x,y,E,e,a⟩:=pQ (zK z);rw[zO,m7 H] at E;rw[zO,zK (by lia)] at e;cases E;have e:PyData.int P[i]=y:=by simpa using e
  rw[a,<- e];have:i < P.length:=by lia
  simp[H,this,zG]
 .rw[jN (by rw[nr];simp;lia),jN (by simp;lia)]
def Sm(P:Γ Int):Prop:=∀k,-1000000<=P.getD k 0/\P.getD k 0<=1000000
def Io(hs:Sm P)(hw:W.length<=16)(b:θ)(p:Int):LD ((own b W p).map λi=>P.getD i 0)=true:=by
 unfold LD;rw[zF,zJ,xH];refine⟨?_,λx H=>?_⟩
 .have:=uf b W p;rw[zD];lia
 .let⟨i,_,rfl⟩:=List.mem_map.mp H;rw[zF,zJ,zJ];exact hs i
def og(h:Wd G T W)(H:P.length=W.length)(hs:Sm P)(b:θ)(p:Int):cX [ay G T W,ae P,.int (sI b),.int p]=↑(.int (jl b W P p)):=by
 have hw:=h.wl;refine aE ?_;show sZ [.val (ay G T W),.val (ae P),.val (.int (sI b)),.val (.int p)]=_;have z:jg (aa (f2 aw (ab 0) (fC (.int 2))) (aa (ab 1) af)) [↑(ay G T W),↑(ae P),↑(.int (sI b)),↑(.int p)]=↑((List.range W.length).map λi=>.tuple [ao (aA W i),.int (P.getD i 0)]):=by
  rw[<- sQ H];rfl
 have c:aj 2 [2,3] (jg (aa (f2 aw (ab 0) (fC (.int 2))) (aa (ab 1) af))) (fy 0 1) (fB (f2 cg (f2 aw (ab 0) (ab 2)) (ab 3))) (ab 1) [↑(ay G T W),↑(ae P),↑(.int (sI b)),↑(.int p)]=↑((own b W p).map λi=>.int (P.getD i 0)):=by
  rw[j5 (p:=λi=>decide (bb b (aA W i)=p)) (h:=λi=>.int (P.getD i 0)) z (by lia) λi I=>⟨?_,λ_=>rfl⟩]
  .rfl
  .show fB (f2 cg (f2 aw (ab 0) (ab 2)) (ab 3)) [↑(ao (aA W i)),↑(.int (P.getD i 0)),↑(.int (sI b)),↑(.int p)]=_;exact bF (by rw[je (a:=.int (bb b (aA W i))) (b:=.int p) (ar (uC b _) rfl rfl) rfl,dw])
 refine aJ ?_;have e:((own b W p).map λi=>PyData.int (P.getD i 0))=((own b W p).map λi=>P.getD i 0).map PyData.int:=by rw[zM];rfl
 show bp CL (aa (bN (aj 2 [2,3] (jg (aa (f2 aw (ab 0) (fC (.int 2))) (aa (ab 1) af))) (fy 0 1) (fB (f2 cg (f2 aw (ab 0) (ab 2)) (ab 3))) (ab 1))) af) [↑(ay G T W),↑(ae P),↑(.int (sI b)),↑(.int p)]=_;rw[e] at c;simp?[bp,aa,af,bN,c,zB,zA];show CL [.list (((own b W p).map λi=>P.getD i 0).map PyData.int)]=_;simp?[CL,eK,oneOf,gq,zA,cC,Io hs hw b p,xI];rfl
def qq(L:Γ Pl):bw 0 (L.map aU)=(List.range L.length).map λi=>.tuple [nD i,aU (L.getD i (0,[]))]:=by
 rw[enum_zip];apply jI
 .simp
 .intro i a H;have:i < L.length:=by simpa using H
  simp[this,zG]
def sJ(s:Γ Nat):jw [.list (s.map λi=>.bool (p i))]=↑(.bool (s.all p)):=by
 have:∀s:Γ Nat,boolsOf (s.map λi=>PyData.bool (p i))=↑(s.map p):=λs=>by
  induction s with
  | nil=>rfl
  | cons i s I=>simp[boolsOf,I]
 simp?[jw,oneOf,zA,this,zB,List.all_map];rfl
def BQ(h:Wd G T W)(H:P.length=W.length)(hs:Sm P)(b:θ):cN [ay G T W,ae P,.int (sI b)]=↑(.bool ((List.range (aH b G T).length).all λi=>decide (jl b W P i<=(bL b G T i).1))):=by
 have l:=h.pl b;refine aE ?_;show jh [.val (ay G T W),.val (ae P),.val (.int (sI b))]=_;have e:bj (aa (f2 aw (ab 0) (ab 2)) af) [↑(ay G T W),↑(ae P),↑(.int (sI b))]=↑((List.range (aH b G T).length).map λi=>.tuple [nD i,aU (bL b G T i)]):=by
  have:=qq (aH b G T);unfold bL;rw[<- this];cases b<;>rfl
 have c:=j5 (cs:=[0,1,2]) (tt:=λ_=>↑true) (te:=f2 Cr (ah 4 cX (aa (ab 2) (aa (ab 3) (aa (ab 4) (aa (ab 0) af))))) (f2 aw (ab 1) (fC (.int 0)))) (p:=λ_=>true) (h:=λi=>.bool (decide (jl b W P i<=(bL b G T i).1))) e (by lia) λi I=>⟨rfl,λ_=>ar (a:=.int (jl b W P i)) (b:=.int (bL b G T i).1) rfl (call_of (og h H hs b i) rfl rfl) rfl⟩
 refine aJ ?_;show bp jw (aa (bN (aj 2 [0,1,2] (bj (aa (f2 aw (ab 0) (ab 2)) af)) (fy 0 1) (λ_=>↑true) (f2 Cr (ah 4 cX (aa (ab 2) (aa (ab 3) (aa (ab 4) (aa (ab 0) af))))) (f2 aw (ab 1) (fC (.int 0)))))) af) [↑(ay G T W),↑(ae P),↑(.int (sI b))]=_;simp?[bp,aa,af,bN,c,zB,zA];rw[show (List.range (aH b G T).length).filter (λ_=>true)=List.range (aH b G T).length by simp,sJ]
def Gs(a:fa ρ=↑(.bool true))(b:fb ρ=↑d):lu fa fb ρ=↑d:=by
 simp?[lu,a,zA,b]
def IK(a:fa ρ=↑(.bool false)):lu fa fb ρ=↑(.bool false):=by
 simp?[lu,a,zA]
def HN(H:fa ρ=↑(.bool a))(B:fb ρ=↑(.bool b)):lu fa fb ρ=↑(.bool (a&&b)):=by
 cases a
 .exact IK H
 .exact Gs H B
def oe(h:f ρ=↑d):bp g (aa f af) ρ=g [d]:=by
 simp?[bp,aa,af,h,zB,zA]
def lT{l:Γ α}(h:f ρ=↑(.tuple (l.map k))):bp bE (aa f af) ρ=↑(nD l.length):=by
 rw[oe h,Cp,zD]
def Ol(W:Γ Wy)(P:Γ Int):θ:=(List.range W.length).all λk=>decide (0<=P.getD k 0)&&decide (P.getD k 0<=(aA W k).2.2)
def OJ(b:θ)(G T:Γ Pl)(W:Γ Wy)(P:Γ Int):θ:=(List.range (aH b G T).length).all λi=>decide (jl b W P i<=(bL b G T i).1)
def Kb(G T:Γ Pl)(W:Γ Wy)(P:Γ Int):θ:=Ol W P&&(OJ false G T W P&&OJ true G T W P)
def uc(a:P.length=W.length):Kb G T W P=true↔Pn G T W P:=by
 simp?[Kb,Ol,OJ,zF,xH,zS,zJ];constructor
 .rintro⟨H,c,d⟩;exact⟨a,H,λb=>by cases b<;>assumption⟩
 .intro p;exact⟨p.bd,p.am false,p.am true⟩
def LF(P:Γ Int):oQ (ae P)=true:=rfl
def tH(h:Wd G T W)(H:P.length=W.length)(hs:Sm P):cU [ay G T W,ae P]=↑(.bool (Kb G T W P)):=by
 have hw:=h.wl;have n:(P.map PyData.int).length=W.length:=by rw[zD,H]
 refine aE ?_;show ox [.val (ay G T W),.val (ae P),.QB]=_;unfold ox;have t:Dl.aD 2 [0] (f2 aw (ab 0) (fC (.int 2))) [.val (ay G T W),.val (ae P),.QB]=↑(.nx [.val (ay G T W),.val (ae P),.val (.tuple (W.map ao))]):=bS (d:=.tuple (W.map ao)) rfl rfl rfl rfl;rw[ai t];have e:bG [ae P,nD W.length,nD W.length]=↑(.bool true):=by
  rw[show nD W.length=.int ((W.length:Nat):Int) from rfl,dD (LF P)];simp[long,ae,H]
 have l:∀a:Dl.Env,ab 2 a=↑(.tuple (W.map ao))->bp bE (aa (ab 2) af) a=↑(nD W.length):=λa r=>lT r;have c:(bT (fB (ah 3 bG (aa (ab 1) (aa (bp bE (aa (ab 2) af)) (aa (bp bE (aa (ab 2) af)) af)))))) (aV [.val (ay G T W),.val (ae P),.val (.tuple (W.map ao))])=↑false :=
  dQ (bF (call_of e (cons_of rfl (cons_of (l _ rfl) (cons_of (l _ rfl) rfl))) rfl))
 rw[ai (bU c)];have z:jg (aa (ab 2) (aa (ab 1) af)) [↑(ay G T W),↑(ae P),↑(.tuple (W.map ao))]=↑((List.range W.length).map λi=>.tuple [ao (aA W i),.int (P.getD i 0)]):=by
  rw[<- sQ H];rfl
 have C:=j5 (cs:=[]) (tt:=λ_=>↑true) (te:=ah 3 bC (aa (ab 1) (aa (fC (.int 0)) (aa (f2 aw (ab 0) (fC (.int 2))) af)))) (p:=λ_=>true) (h:=λk=>.bool (decide (0<=P.getD k 0)&&decide (P.getD k 0<=(aA W k).2.2))) z (by lia)
  λi I=>⟨rfl,λ_=>call_of (fW (d:=.int (P.getD i 0)) rfl 0 (aA W i).2.2) rfl rfl⟩
 have S:(fB (bp jw (aa (bN (aj 2 [] (jg (aa (ab 2) (aa (ab 1) af))) (fy 0 1) (λ_=>↑true) (ah 3 bC (aa (ab 1) (aa (fC (.int 0)) (aa (f2 aw (ab 0) (fC (.int 2))) af)))))) af))) [↑(ay G T W),↑(ae P),↑(.tuple (W.map ao))]=↑(Ol W P):=by
  refine bF ?_;simp?[bp,aa,af,bN,C,zB,zA];rw[show (List.range W.length).filter (λ_=>true)=List.range W.length by simp,sJ];rfl
 have K:=BQ h H hs false;have f:=BQ h H hs true;cases b:Ol W P with
 | false =>
  rw[b] at S;refine l8 ((iW (dQ S)).trans ?_);rw[Kb,b];exact aJ rfl
 | true =>
  rw[b] at S;rw[ai (bU (dQ S)),Kb,b,jM];exact aJ (HN (call_of K rfl rfl) (call_of f rfl rfl))
def rE(H:k < W.length):aA W k∈W:=iO H ▸ qB H
def Pn.smP(h:Wd G T W)(p:Pn G T W P):Sm P:=λk=>by
 by_cases H:k < W.length
 .have:=p.bd k H;have:=(h.wr _ (rE H)).2.2.2;lia
 .rw[zG,jN (by rw[p.len];lia)];simp
def dY(h:Wd G T W)(p:Pn G T W P):cU [ay G T W,ae P]=↑(.bool true):=by
 rw[tH h p.len (p.smP h),(uc p.len).mpr p]
def mz(h:Wd G T W)(p:Pn G T W P):eV [ay G T W,ae P]=↑.none:=by
 have:eZ [.val (ay G T W),.val (ae P)]=↑(.nx [.val (ay G T W),.val (ae P)]):=by
  unfold eZ;refine (ai (cI (call_of (cm h) rfl rfl))).trans ?_;exact bU (dQ (bF (call_of (dY h p) rfl rfl)))
 show (eZ [.val (ay G T W),.val (ae P)]).map _=_;rw[this];rfl
def ni(W:Γ Wy)(i:Nat):Γ Int:=[(aA W i).2.1,(aA W i).1]
def gf(W:Γ Wy):Γ (Γ Int):=(List.range W.length).map (ni W)
def bI(W:Γ Wy):Γ Nat:=pj (λi=>rk (gf W) ((gf W).getD i [])) (List.range W.length) 0
def Fm(z:Nat->Int)(n:Nat):pj z ((List.range n).map nD) .none=(pj z (List.range n) 0).map nD:=by
 unfold pj;rw[zD];split
 .rfl
 .rename_i h;rw[zM];let⟨p,_⟩:=SP.gz (z:=z) (n:=(List.range n).length) (by lia);refine yI λi H=>?_;have R:i < (List.range n).length:=by have:=p.mem_iff.mp H;simpa using this
  rw[zR] at R;simp[R]
def Eu(hi:i < W.length):(gf W).getD i []=ni W i:=by
 simp[gf,hi]
def bf(h:rZ W):Ord W (bI W) where
 perm:=fK _ _ _
 up:=by
  have p:(bI W).Perm (List.range W.length):=fK _ _ _;have s:(bI W).Pairwise λi j=>rk (gf W) (ni W i)<=rk (gf W) (ni W j):=by
   refine rg _ _ _ (λi=>rk (gf W) (ni W i)) λi H=>?_;rw[zR] at H;have e:(List.range W.length).getD i 0=i:=by simp[H]
   show rk (gf W) ((gf W).getD i [])=rk (gf W) (ni W ((List.range W.length).getD i 0));rw[e,Eu H]
  have N:(bI W).Nodup:=p.nodup_iff.mpr List.nodup_range;refine (s.and N).imp_of_mem λ{i j} H J Q=>?_;have g:i < W.length:=by have:=p.mem_iff.mp H;simpa using this
  have R:j < W.length:=by have:=p.mem_iff.mp J;simpa using this
  let⟨b,S⟩:=Q;have m:ni W j∈gf W:=List.mem_map.mpr ⟨j,by simpa using R,rfl⟩;have n:Dl.lexLt (ni W j) (ni W i)=false:=by
   rw[oN m,xC];lia
  simp?[ni,HT.lexLt] at n;by_cases E:(aA W j).2.1=(aA W i).2.1
  .rw[yM E] at n;by_cases a:(aA W j).1=(aA W i).1
   .exact absurd (tN h R g a E).symm S
   .rw[yO a,xC] at n;exact .inr ⟨E.symm,by lia⟩
  .rw[yO E,xC] at n;exact .inl (by lia)
def tup_is(h:fs ρ=↑ds)(hl:ds.length<=1000):aF fs ρ=↑(.tuple ds):=by
 simp?[aF,h,zA,aZ (show ds.length<=4000 by lia),zB]
def Px(w:Wy):aw (ao w) (.int 0)=↑(.int w.1):=rfl
def O8(w:Wy):aw (ao w) (.int 1)=↑(.int w.2.1):=rfl
def jy(h:Wd G T W):bo [ay G T W]=↑(.list ((bI W).map nD)):=by
 have hw:=h.wl;have t:Dl.aD 1 [0] (f2 aw (ab 0) (fC (.int 2))) [.val (ay G T W),.QB]=↑(.nx [.val (ay G T W),.val (.tuple (W.map ao))]):=bS (d:=.tuple (W.map ao)) rfl rfl rfl rfl;have L:(bp bE (aa (ab 1) af)) [↑(ay G T W),↑(.tuple (W.map ao))]=↑(nD W.length):=lT (l:=W) (k:=ao) rfl;have K:iu (aF (aa (f2 aw (f2 aw (ab 1) (ab 0)) (fC (.int 1))) (aa (f2 aw (f2 aw (ab 1) (ab 0)) (fC (.int 0))) af))) [none,↑(.tuple (W.map ao))] ((List.range W.length).map nD)=↑(((List.range W.length).map nD).map λd=>ae (ni W (ix d).toNat)):=by
  refine nU λd D=>?_;let⟨j,H,rfl⟩:=List.mem_map.mp D;have R:j < W.length:=by simpa using H
  have a:∀b:Dl.Env,ab 1 b=↑(.tuple (W.map ao))->ab 0 b=↑(nD j)->(f2 aw (ab 1) (ab 0)) b=↑(ao (aA W j)):=λb E f=>ar (lY R) E f;show aF (aa (f2 aw (f2 aw (ab 1) (ab 0)) (fC (.int 1))) (aa (f2 aw (f2 aw (ab 1) (ab 0)) (fC (.int 0))) af)) [↑(nD j),↑(.tuple (W.map ao))]=_;have c:(aa (f2 aw (f2 aw (ab 1) (ab 0)) (fC (.int 1))) (aa (f2 aw (f2 aw (ab 1) (ab 0)) (fC (.int 0))) af)) [↑(nD j),↑(.tuple (W.map ao))]=↑[.int (aA W j).2.1,.int (aA W j).1] :=
   cons_of (ar (O8 (aA W j)) (a _ rfl rfl) rfl) (cons_of (ar (Px (aA W j)) (a _ rfl rfl) rfl) rfl)
  rw[tup_is c (by simp)];simp[ix,ni,ae]
 have r:rowsOf (((List.range W.length).map nD).map λd=>ae (ni W (ix d).toNat))=↑(gf W):=by
  have e:(((List.range W.length).map nD).map λd=>ae (ni W (ix d).toNat))=(gf W).map ae:=by
   simp?[zM,gf];refine yI λj H=>?_;simp[ix]
  rw[e,iy];intro n S;let⟨j,_,rfl⟩:=List.mem_map.mp S;exact List.cons_ne_nil _ _
 refine aE ?_;show fN [.val (ay G T W),.QB]=_;unfold fN;rw[ai t];refine aJ ?_;have s:rA [1] (aa (bp bE (aa (ab 1) af)) af) (aF (aa (f2 aw (f2 aw (ab 1) (ab 0)) (fC (.int 1))) (aa (f2 aw (f2 aw (ab 1) (ab 0)) (fC (.int 0))) af))) [↑(ay G T W),↑(.tuple (W.map ao))]=↑((bI W).map nD):=by
  unfold rA;rw[cons_of L rfl,zA];show (if (0:Int)<=((W.length:Nat):Int)/\((W.length:Nat):Int) < 64 then _ else none)=_;rw[yM ⟨by lia,by lia⟩,yG];show (iu _ [none,↑(.tuple (W.map ao))] ((List.range W.length).map nD)).bind _=_;rw[K,zA,r,zB];exact jD some (Fm _ _)
 show bN _ [↑(ay G T W),↑(.tuple (W.map ao))]=_;simp?[bN,s,zB]
def ir{fi:Dl.Env->Δ (Γ D)}{te:Dl.Env->Δ D}{ρ:Dl.Env}{s:Γ Nat}{f:Nat->D}(R:fi ρ=↑(s.map nD))(hl:s.length<=1000)(a:∀i∈s,te (↑(nD i)::cs.map λj=>(ρ[j]?).getD none)=↑(f i)):aj 1 cs fi (fG 0) (λ_=>↑true) te ρ=↑(s.map f):=by
 rw[bR (h:=λd=>f (ix d).toNat) R (by rw[zD];lia) λd H=>?_]
 .rw[zM];refine jD some (yI λi _=>?_);simp[ix]
 .let⟨i,I,rfl⟩:=List.mem_map.mp H;rw[a i I];simp[ix]
def ig(h:m ds=↑(.list es))(f:fs ρ=↑ds)(H:ds.length=n):aM (ah n m fs) ρ=↑es:=by
 simp?[aM,call_of h f H,zA,gq]
def Bu(h:rZ W)(hi:i∈bI W):i < W.length:=by
 have:=(bf h).perm.mem_iff.mp hi;simpa using this
def wa(h:rZ W):(bI W).length=W.length:=(bf h).len
abbrev XG:=(aa (ab 1) zq9)
def oF:∀ (l:Γ Wy),cq (GT 0 1 2) (λ_=>↑true) (aF XG) (none::none::none::r) (l.map ao)=↑((l.map LG).map ao)
 | []=>rfl
 | w::l=>by
  have i:=oF (r:=r) l;have g:GT 0 1 2 (none::none::none::r) (ao w)=↑(↑(.int w.1)::↑(.int w.2.1)::↑(.int w.2.2)::r):=rfl;rw[zI,cq,g,zA];have e:aF XG (↑(.int w.1)::↑(.int w.2.1)::↑(.int w.2.2)::r)=↑(ao (LG w)):=rfl;simp?[zA,xI,e,i,zB,zI]
def yv(h:Wd G T W):pN [ay G T W]=↑(ay T G (f7 W (bI W))):=by
 have hw:=h.wl;have n:=wa h.wp;refine aE ?_;show qa [.val (ay G T W),.QB]=_;unfold qa;refine (ai (cI (call_of (cm h) rfl rfl))).trans ?_;have c:aj 1 [0] (aM (ah 1 bo (aa (ab 0) af))) (fG 0) (λ_=>↑true) (f2 aw (f2 aw (ab 1) (fC (.int 2))) (ab 0)) [↑(ay G T W),none]=↑((bI W).map λi=>ao (aA W i)) :=
  ir (ig (jy h) rfl rfl) (by lia) λi H=>ar (lY (Bu h.wp H)) rfl rfl
 have t:aN 1 [0] (aj 1 [0] (aM (ah 1 bo (aa (ab 0) af))) (fG 0) (λ_=>↑true) (f2 aw (f2 aw (ab 1) (fC (.int 2))) (ab 0))) [.val (ay G T W),.QB]=↑(.nx [.val (ay G T W),.own ((bI W).map λi=>ao (aA W i))]):=hJ c rfl;rw[ai t];refine aJ ?_;have e:aj 3 [] (aM (ab 1)) (GT 0 1 2) (λ_=>↑true) (aF (aa (ab 1) (aa (ab 0) (aa (ab 2) af)))) [↑(ay G T W),↑(.list ((bI W).map λi=>ao (aA W i)))]=↑((f7 W (bI W)).map ao):=by
  have:=oF (r:=[]) ((bI W).map λi=>aA W i);rw[zM,zM] at this;have f:aM (ab 1) [↑(ay G T W),↑(.list ((bI W).map λi=>ao (aA W i)))]=↑((bI W).map λi=>ao (aA W i)):=rfl;unfold aj;rw[f,zA];show (cq (GT 0 1 2) (λ_=>↑true) (aF (aa (ab 1) (aa (ab 0) (aa (ab 2) af)))) [none,none,none] ((bI W).map λi=>ao (aA W i))).bind small=_;rw[show ((bI W).map λi=>ao (aA W i))=List.map (ao ∘ λi=>aA W i) (bI W) from rfl,this,zA];rw[aZ (by simp;lia),f7];simp?[zM];rfl
 show aF (aa (f2 aw (ab 0) (fC (.int 1))) (aa (f2 aw (ab 0) (fC (.int 0))) (aa (bp br (aa (bN (aj 3 [] (aM (ab 1)) (GT 0 1 2) (λ_=>↑true) (aF (aa (ab 1) (aa (ab 0) (aa (ab 2) af)))))) af)) af))) [↑(ay G T W),↑(.list ((bI W).map λi=>ao (aA W i)))]=_;have E:(bp br (aa (bN (aj 3 [] (aM (ab 1)) (GT 0 1 2) (λ_=>↑true) (aF (aa (ab 1) (aa (ab 0) (aa (ab 2) af)))))) af)) [↑(ay G T W),↑(.list ((bI W).map λi=>ao (aA W i)))]=↑(.tuple ((f7 W (bI W)).map ao)):=by
  simp?[bp,aa,af,bN,e,zB,zA,An]
 exact tup_is (ds:=[.tuple (T.map aU),.tuple (G.map aU),.tuple ((f7 W (bI W)).map ao)]) (cons_of (ar (a:=ay G T W) (b:=.int 1) (c:=.tuple (T.map aU)) rfl rfl rfl) (cons_of (ar (a:=ay G T W) (b:=.int 0) (c:=.tuple (G.map aU)) rfl rfl rfl) (cons_of E rfl))) (by simp)
def rQ(h:Wd G T W)(p:Pn G T W P):gW [ay G T W,ae P]=↑(ae (sR P (bI W))):=by
 have hw:=h.wl;have n:=wa h.wp;refine aE ?_;show gO [.val (ay G T W),.val (ae P)]=_;unfold gO;refine (ai (cI (call_of (mz h p) rfl rfl))).trans ?_;have c:aj 1 [1] (aM (ah 1 bo (aa (ab 0) af))) (fG 0) (λ_=>↑true) (f2 aw (ab 1) (ab 0)) [↑(ay G T W),↑(ae P)]=↑((bI W).map λi=>.int (P.getD i 0)) :=
  ir (ig (jy h) rfl rfl) (by lia) λi H=>ar (gM (by rw[p.len];exact Bu h.wp H)) rfl rfl
 refine aJ ?_;show bp br (aa (bN (aj 1 [1] (aM (ah 1 bo (aa (ab 0) af))) (fG 0) (λ_=>↑true) (f2 aw (ab 1) (ab 0)))) af) [↑(ay G T W),↑(ae P)]=_;simp?[bp,aa,af,bN,c,zB,zA,An];simp[ae,sR]
def HG(h:f ρ=↑(.list ds))(H:g ρ=↑(nD k)):fj cn f (rK g) e8 ρ=↑(.list (ds.drop k)):=by
 have:=yh ds k;simp?[fj,h,rK,H,e8,gI,cn,zA,zB,this]
def Dg(s:Γ Nat):Rf.GC [.list (s.map λi=>.bool (p i))]=↑(.bool (s.any p)):=by
 have:∀s:Γ Nat,boolsOf (s.map λi=>PyData.bool (p i))=↑(s.map p):=λs=>by
  induction s with
  | nil=>rfl
  | cons i s I=>simp[boolsOf,I]
 simp?[Rf.GC,oneOf,zA,this,zB,wV];rfl
def mE(f:α->β)(p:β->θ)(q:α->θ):∀ (l:Γ α),(∀x∈l,p (f x)=q x)->(l.map f).findIdx p=l.findIdx q
 | [],_=>rfl
 | x::l,h=>by
  rw[zI,vE,vE,h x zE,mE f p q l λy H=>h y (zC _ H)]
def L5(h:Wd G T W){b:θ}{i:Nat}(e:(aH b G T)[i]?=↑p){k:Nat}(d:k < W.length)(c:bb b (aA W k)=i):oW (.list ((eG b W i p.2).map nD)) (nD k)=↑(nD (rV p.2 (bP b (aA W k)))):=by
 have K:k∈own b W i:=bZ.mpr ⟨d,c⟩;have m:k∈eG b W i p.2:=(eA h e).mem_iff.mpr K;have E:(eG b W i p.2).map nD=((eG b W i p.2).map λj=>((j:Nat):Int)).map PyData.int:=by rw[zM];rfl
 have M:((k:Nat):Int)∈(eG b W i p.2).map λj=>((j:Nat):Int):=List.mem_map.mpr ⟨k,m,rfl⟩;rw[E];show (intsOf _).bind _=_;rw[cC,zA,oo M,zB];have a:((eG b W i p.2).map λj=>((j:Nat):Int)).findIdx (λo=>decide (o=((k:Nat):Int)))=rV p.2 (bP b (aA W k)):=by
  unfold eG rV;rw[zM];refine mE _ _ _ _ λx X=>?_;let⟨l,f,H⟩:=mN h e X;show decide (((oR b W i x:Nat):Int)=(k:Int))=decide (x=bP b (aA W k));rw[decide_eq_decide];constructor
  .intro z;have z:oR b W i x=k:=by lia
   rw[<- z,H]
  .intro z;rw[z,tK h.wp K]
 rw[a]
def nA(h:Wd G T W)(hp:P.length=W.length)(hs:Sm P)(b:θ){k:Nat}(hk:k < W.length):fg [ay G T W,ae P,.int (sI b),nD k]=↑(.bool (uJ b G T W P k)):=by
 have hw:=h.wl;let⟨z1,z2,z3⟩:=h.Rc b hk;have hx:(aH b G T)[(bb b (aA W k)).toNat]?=↑(bL b G T (bb b (aA W k)).toNat):=by
  rw[zK z2];simp[bL,z2]
 have hL:∀x∈(bL b G T (bb b (aA W k)).toNat).2,_:=λx U4=>mN h hx U4;have hb:(bL b G T (bb b (aA W k)).toNat).2.length<=16:=by
  have:=(eA h hx).length_eq;have h2:=uf b W ((bb b (aA W k)).toNat:Int);unfold eG at this;rw[zD] at this;lia
 have ei:=L5 h hx hk z3.symm;have ew:=sG h hx;generalize RH:bL b G T (bb b (aA W k)).toNat=pl at *;generalize hj:(bb b (aA W k)).toNat=j at *;have ez:PyData.int (bb b (aA W k))=nD j:=by rw[<- z3]
 refine aE ?_;show iD [.val (ay G T W),.val (ae P),.val (.int (sI b)),.val (nD k),.QB,.QB,.QB]=_;unfold iD;have t4:Dl.aD 4 [0,2,3] (f2 aw (f2 aw (f2 aw (ab 0) (fC (.int 2))) (ab 3)) (ab 2)) [.val (ay G T W),.val (ae P),.val (.int (sI b)),.val (nD k),.QB,.QB,.QB]=↑(.nx [.val (ay G T W),.val (ae P),.val (.int (sI b)),.val (nD k),.val (nD j),.QB,.QB]):=by
  rw[<- ez];exact cH (d:=.int (bb b (aA W k))) (ar (uC b _) (ar (lY hk) rfl rfl) rfl) rfl
 rw[ai t4];have ep:aw (.tuple ((aH b G T).map aU)) (nD j)=↑(aU pl):=jz hx;have ct:(fB (f2 CN (ah 4 cX (aa (ab 0) (aa (ab 1) (aa (ab 2) (aa (ab 4) af))))) (f2 aw (f2 aw (f2 aw (ab 0) (ab 2)) (ab 4)) (fC (.int 0))))) (aV [.val (ay G T W),.val (ae P),.val (.int (sI b)),.val (nD k),.val (nD j),.QB,.QB])=↑(decide (jl b W P j < pl.1)):=by
  refine bF (ar (lh _ _) (call_of (og h hp hs b j) rfl rfl) ?_);refine ar (a:=aU pl) (b:=.int 0) rfl (ar ep (ar (dX b G T W) rfl rfl) rfl) rfl
 have hm:uJ b G T W P k=(decide (jl b W P j < pl.1)||(pl.2.drop (rV pl.2 (bP b (aA W k))+1)).any λo=>decide (0 < P.getD (oR b W j o) 0)):=by
  unfold uJ;rw[hj,RH,z3]
 rw[hm];cases hc:decide (jl b W P j < pl.1) with
 | true =>
  rw[hc] at ct;exact l8 ((iW ct).trans (aJ rfl))
 | false =>
  rw[hc] at ct;rw[ai (bU ct),Bool.false_or];have t5:Dl.aD 5 [0,2,4] (ah 3 iq (aa (ab 0) (aa (ab 2) (aa (ab 4) af)))) [.val (ay G T W),.val (ae P),.val (.int (sI b)),.val (nD k),.val (nD j),.QB,.QB]=↑(.nx [.val (ay G T W),.val (ae P),.val (.int (sI b)),.val (nD k),.val (nD j),.val (.list ((eG b W j pl.2).map nD)),.QB]) :=
   aX (call_of ew rfl rfl) (call_of ew rfl rfl) rfl
  rw[ai t5];have cu:∀ρ:Dl.Env,ab 5 ρ=↑(.list ((eG b W j pl.2).map nD))->ab 3 ρ=↑(nD k)->(fj cn (ab 5) (rK (f2 aC (f2 oW (ab 5) (ab 3)) (fC (.int 1)))) e8) ρ=↑(.list (((eG b W j pl.2).map nD).drop (rV pl.2 (bP b (aA W k))+1))):=λρ a c =>
   HG a (ar (eE _ _) (ar ei a c) rfl)
  have t6:Dl.aD 6 [3,5] (fj cn (ab 5) (rK (f2 aC (f2 oW (ab 5) (ab 3)) (fC (.int 1)))) e8) [.val (ay G T W),.val (ae P),.val (.int (sI b)),.val (nD k),.val (nD j),.val (.list ((eG b W j pl.2).map nD)),.QB]=↑(.nx [.val (ay G T W),.val (ae P),.val (.int (sI b)),.val (nD k),.val (nD j),.val (.list ((eG b W j pl.2).map nD)),.val (.list (((eG b W j pl.2).drop (rV pl.2 (bP b (aA W k))+1)).map nD))]):=by
   rw[List.map_drop];exact aX (cu _ rfl rfl) (cu _ rfl rfl) rfl
  rw[ai t6];have c:aj 1 [1] (aM (ab 6)) (fG 0) (λ_=>↑true) (f2 za (f2 aw (ab 1) (ab 0)) (fC (.int 0))) [↑(ay G T W),↑(ae P),↑(.int (sI b)),↑(nD k),↑(nD j),↑(.list ((eG b W j pl.2).map nD)),↑(.list (((eG b W j pl.2).drop (rV pl.2 (bP b (aA W k))+1)).map nD))]=↑(((eG b W j pl.2).drop (rV pl.2 (bP b (aA W k))+1)).map λi=>.bool (decide (0 < P.getD i 0))):=by
   refine ir rfl ?_ λi hi=>?_
   .rw[qJ,eG,zD];lia
   .have Rg:=List.mem_of_mem_drop hi;unfold eG at Rg;let⟨x,U4,rfl⟩:=List.mem_map.mp Rg;exact ar (fu _ _) (ar (gM (by rw[hp];exact (hL x U4).1)) rfl rfl) rfl
  refine aJ ?_;show bp Rf.GC (aa (bN (aj 1 [1] (aM (ab 6)) (fG 0) (λ_=>↑true) (f2 za (f2 aw (ab 1) (ab 0)) (fC (.int 0))))) af) [↑(ay G T W),↑(ae P),↑(.int (sI b)),↑(nD k),↑(nD j),↑(.list ((eG b W j pl.2).map nD)),↑(.list (((eG b W j pl.2).drop (rV pl.2 (bP b (aA W k))+1)).map nD))]=_;simp?[bp,aa,af,bN,c,zB,zA,Dg];unfold eG;rw[<- List.map_drop,wV];rfl
def MU:Nat->D|0=>.str "full" | 1=>.str "giver" | 2=>.str "taker" | _=>.none
def zg(h:Wd G T W)(p:P.length=W.length)(hs:Sm P)(H:k < W.length):lU [ay G T W,ae P,nD k]=↑(MU (lx G T W P k)):=by
 refine aE ?_;show mh [.val (ay G T W),.val (ae P),.val (nD k)]=_;unfold mh lx;have c:aaj (aV [.val (ay G T W),.val (ae P),.val (nD k)])=↑(decide (P.getD k 0=(aA W k).2.2)) :=
  bF (ar (dw _ _) (ar (gM (by rw[p];exact H)) rfl rfl) (ar (a:=ao (aA W k)) (b:=.int 2) rfl (ar (lY H) rfl rfl) rfl))
 have w:=nA h p hs false H;have g:=nA h p hs true H;have C:aak (aV [.val (ay G T W),.val (ae P),.val (nD k)])=↑(!(uJ false G T W P k)):=dQ (bF (call_of w rfl rfl));have d:aal (aV [.val (ay G T W),.val (ae P),.val (nD k)])=↑(!(uJ true G T W P k)):=dQ (bF (call_of g rfl rfl));by_cases e:P.getD k 0=(aA W k).2.2
 .rw[yA e] at c;rw[yM e];exact l8 ((iW c).trans (aJ rfl))
 .rw[zZ e] at c;rw[yO e,ai (bU c)];cases E:uJ false G T W P k with
  | false =>
   rw[E] at C;rw[yM rfl];exact l8 ((iW C).trans (aJ rfl))
  | true =>
   rw[E] at C;rw[yO (by simp),ai (bU C)];cases f:uJ true G T W P k with
   | false =>
    rw[f] at d;rw[yM rfl];exact l8 ((iW d).trans (aJ rfl))
   | true =>
    rw[f] at d;rw[yO (by simp),ai (bU d)];exact aJ rfl
def L7(G T:Γ Pl)(W:Γ Wy)(P:Γ Int)(k:Nat):lx G T W P k<=3:=by
 unfold lx;split
 .lia
 .split
  .lia
  .split<;>lia
def GV(n:Nat)(h:n<=3):xt (MU n) .none=↑(.bool (decide (n=3))):=by
 match n,h with
 | 0,_=>rfl
 | 1,_=>rfl
 | 2,_=>rfl
 | 3,_=>rfl
def Ft{W:Γ Wy}{P:Γ Int}(p:P.length=W.length)(H:f ρ=↑(ae P)):(aa (bp bE (aa f af)) af) ρ=↑[nD W.length]:=by
 have:=IV P;rw[p] at this;refine cons_of ?_ rfl;rw[oe H,this]
def oU(h:Wd G T W)(p:P.length=W.length)(hs:Sm P):eL [ay G T W,ae P]=↑(match (List.range W.length).find? λk=>decide (lx G T W P k=3) with|some k=>nD k|none=>.none):=by
 have hw:=h.wl;refine aE ?_;show eQ [.val (ay G T W),.val (ae P),.QB]=_;unfold eQ;let⟨f,s⟩:=lQ (tgt:=mr 2) (gb:=fF YA (aK (ab 2)) e9) (λa=>∃x,a=[.val (ay G T W),.val (ae P),x]) nD (λk=>decide (lx G T W P k=3)) nD
  (l:=List.range W.length) (ρ:=[.val (ay G T W),.val (ae P),.QB])
  (λa k H U=>by
   let⟨x,rfl⟩:=U;have Q:k < W.length:=by simpa using H
   have c:YA (aV [.val (ay G T W),.val (ae P),.val (nD k)])=↑(decide (lx G T W P k=3)) :=
    bF (ar (GV _ (L7 G T W P k)) (call_of (zg h p hs Q) rfl rfl) rfl)
   refine⟨_,rfl,λq=>?_,λq=>?_⟩
   .show fF _ _ _ [.val (ay G T W),.val (ae P),.val (nD k)]=_;rw[q] at c;exact (iW c).trans (aJ rfl)
   .rw[q] at c;exact⟨_,bU c,_,rfl⟩) ⟨_,rfl⟩
 have r:bA (aa (bp bE Sf) af) [↑(ay G T W),↑(ae P),none]=↑((List.range W.length).map nD):=qk (Ft p rfl) (by lia);cases e:(List.range W.length).find? λk=>decide (lx G T W P k=3) with
 | some k=>exact l8 (cM (f k e) r rfl)
 | none =>
  let⟨b,E,x,rfl⟩:=s e;exact (ai (cM E r rfl)).trans (aJ rfl)
def pM(h:Wd G T W)(p:P.length=W.length)(hs:Sm P):iV [ay G T W,ae P]=↑(.bool (decide (vz G T W P=[]))):=by
 refine aE ?_;show mi [.val (ay G T W),.val (ae P)]=_;unfold mi;refine aJ (ar ?_ (call_of (oU h p hs) rfl rfl) rfl);cases e:(List.range W.length).find? λk=>decide (lx G T W P k=3) with
 | some k =>
  have:vz G T W P≠[]:=λz=>by
   have m:=jZ e;have q:=vV e;have:k∈vz G T W P:=List.mem_filter.mpr ⟨m,q⟩;rw[z] at this;cases this
  rw[zZ this];rfl
 | none =>
  have:vz G T W P=[]:=by
   rw[List.find?_eq_none] at e;exact List.filter_eq_nil_iff.mpr e
  rw[yA this];rfl
def Ij(h:Wd G T W)(p:Pn G T W P):uj [ay G T W,ae P]=↑(.bool (decide (vz G T W P=[]))):=by
 refine aE ?_;show u4 [.val (ay G T W),.val (ae P)]=_;unfold u4;refine (ai (cI (call_of (mz h p) rfl rfl))).trans ?_;exact aJ (call_of (pM h p.len (p.smP h)) rfl rfl)
def Bc(f:Nat->D)(R:Nat->au->Prop):∀ (n k:Nat) (ρ:au),
  (∀j ρ,k<=j->j < k+n->R j ρ->∃Y S,tgt ρ (f j)=↑Y/\gb Y=↑(.nx S)/\R (j+1) S)->R k ρ->∃ρ',cG tgt gb ((List.range' k n).map f) ρ=↑(.nx ρ')/\R (k+n) ρ'
 | 0,k,ρ,_,h=>⟨ρ,rfl,h⟩
 | n+1,k,ρ,H,h=>by
  let⟨Y,S,e,E,d⟩:=H k ρ (yN _) (by lia) h;let⟨ρ',c,g⟩:=Bc f R n (k+1) S (λj ρ a b=>H j ρ (by lia) (by lia)) d;refine⟨ρ',?_,by rw[show k+(n+1)=k+1+n by lia];exact g⟩;rw[vI,zI,cG,e,zA,E];exact c
def NO(hl:n<=1000):Dl.eu (.tuple [.int 0]) (nD n)=↑(ae (zs n)):=by
 have e:xy (.tuple [.int 0]) (nD n)=↑(ae (zs n)):=by
  show (if Dj ((n:Nat):Int)=true/\[PyData.int 0].length * ((n:Nat):Int).toNat<=sizeLine then ↑(PyData.tuple (List.replicate ((n:Nat):Int).toNat [PyData.int 0]).flatten) else none)=_;have z:[PyData.int 0].length * n<=sizeLine:=by
   rw[xD,Nat.one_mul];exact yD hl (by decide)
  rw[yG,yM ⟨uM hl,z⟩,JN];rfl
 show ((vg rS λi j=>PyData.int (i * j)) (.tuple [.int 0]) (nD n)).or (xy (.tuple [.int 0]) (nD n))=_;rw[e];rfl
def mR(h:a.length+b.length<=1000):Dl.aC (ae a) (ae b)=↑(ae (a++b)):=by
 unfold ae;rw[mI (by simp;lia),jB]
def ph(c:S->θ)(st:S->S)(a:S->Nat)(I:S->Prop)(b:∀s,I s->c s=true->I (st s)/\a (st s) < a s):∀ (n:Nat) (s:S),a s < n->I s->c (lp c st n s)=false/\I (lp c st n s)
 | 0,s,h,_=>absurd h (by lia)
 | n+1,s,h,i=>by
  rw[lp];cases hc:c s with
  | false=>exact⟨by simpa [hc] using hc,by simpa using i⟩
  | true =>
   let⟨d,m⟩:=b s i hc;have:=ph c st a I b n (st s) (by lia) d;simpa using this
def Ag(H:k < W.length):(c7 W).getD k 0=(aA W k).2.2:=by
 unfold c7;rw[zG,zO,m7 H];rfl
def mJ(h:Wd G T W):rL G T W (fin G T W).2=none/\y8 W (fin G T W)/\∀k,k < W.length->(fin G T W).2.getD k 0<=(aA W k).2.2:=by
 have B:=h.Sr;let⟨d,i,f⟩:=ph (Kj G T W) (spS G T W) (λs=>Sr s.2) (λs=>y8 W s/\∀k,k < W.length->s.2.getD k 0<=(aA W k).2.2)
  (λs z hc=>by
   let⟨i,l⟩:=z
   let⟨p,e⟩:=nq hc;let⟨a,b,c⟩:=A5 h i.off e;let⟨I,m⟩:=i.step h e;refine⟨⟨I,λk H=>?_⟩,m⟩;rw[rD e];show (s.2.set p.1 p.2).getD k 0<=_;by_cases z:k=p.1
   .subst z;have:=l p.1 a;have L:p.1 < s.2.length:=by rw[i.len];exact a
    rw[show (s.2.set p.1 p.2).getD p.1 0=p.2 by simp[L]];lia
   .rw[show (s.2.set p.1 p.2).getD k 0=s.2.getD k 0 by simp[kW (jO z)]];exact l k H) Rf.turns ([],c7 W) (jA B (by decide)) ⟨y8.start h,λk H=>by rw[Ag H];lia⟩
 refine⟨?_,i,f⟩;have:Kj G T W (fin G T W)=false:=d;unfold Kj at this;exact Option.isNone_iff_eq_none.mp (by simpa using this)
def gu(G T:Γ Pl)(W:Γ Wy):Γ Int:=bu false G T W (fin G T W).2
def j4(h:Wd G T W):Pn G T W (gu G T W):=by
 let⟨H,i,a⟩:=mJ h;exact Iy h i.off a H
def Ef(h:Wd G T W):dW [ay G T W]=↑(ae (gu G T W)):=rO h
def gx:∀ {l:Γ D},(∀d∈l,PyData.eqv d d=true)->PyData.eqvAll l l=true
 | [],_=>by simp[PyData.eqvAll]
 | d::l,h=>by
  rw[PyData.eqvAll,h d zE,gx λx H=>h x (zC _ H)];rfl
def HC(h:∀d∈l,PyData.eqv d d=true):PyData.eqv (.tuple l) (.tuple l)=true:=by
 rw[PyData.eqv,gx h]
def AQ(a:Γ Int):PyData.eqv (ae a) (ae a)=true:=by rw[FM];simp
def Ej(a:Int):PyData.eqv (.int a) (.int a)=true:=by
 have:=AQ [a];rw[ae,PyData.eqv,zI,yV,PyData.eqvAll] at this;simp?[zF] at this;exact this.1
def GY(a:Int):hC (.int a) (.int a)=↑(.bool false):=by
 have s:SeqAt.shaped (.int a)=true:=(gn (b:=1) (k:=0) a).shaped (by decide);simp?[hC,ME,s,jQ,xI,Ej,zB,xZ]
def Lf(p:l.Perm m):Ra l=Ra m:=nZ ((qd l).trans p) (zm l)
def sm(l:Γ Nat)(f:Nat->Int):Int:=(l.map f).sum
def aQ(q:Nat)(l:Γ Nat)(f:Nat->Int):sm (q::l) f=f q+sm l f:=by simp[sm]
def uY(l r:Γ Nat)(f:Nat->Int):sm (l++r) f=sm l f+sm r f:=by simp[sm]
def o6(q:Nat)(f:Nat->Int):sm [q] f=f q:=by simp[sm]
def cK:∀ {l:Γ Nat}{f g:Nat->Int},(∀q∈l,f q=g q)->sm l f=sm l g
 | [],_,_,_=>rfl
 | q::l,f,g,h=>by rw[aQ,aQ,h q zE,cK λx H=>h x (zC _ H)]
def oJ:∀ {l:Γ Nat}{f g:Nat->Int},(∀q∈l,f q<=g q)->sm l f<=sm l g
 | [],_,_,_=>qA _
 | q::l,f,g,h=>by
  have a:=h q zE;have b:=oJ (l:=l) λx H=>h x (zC _ H);rw[aQ,aQ];lia
def pG(h:∀q∈l,0<=f q):0<=sm l f:=by
 have:sm l (λ_=>0)=0:=by induction l with
  | nil=>rfl
  | cons q l i=>rw[aQ,i λx H=>h x (zC _ H)];rfl
 rw[<- this];exact oJ h
def Bo:∀ {l:Γ Nat}{f g:Nat->Int}{p:Nat},(∀q∈l,f q<=g q)->p∈l->f p < g p->sm l f < sm l g
 | q::l,f,g,p,h,P,e=>by
  have a:=h q zE;have b:=oJ (l:=l) λx H=>h x (zC _ H);rw[aQ,aQ];rcases List.mem_cons.mp P with z|z
  .subst z;lia
  .have:=Bo (l:=l) (λx H=>h x (zC _ H)) z e;lia
def NM(h:sm l f<=sm l g)(H:p∈l)(e:g p < f p):∃q∈l,f q < g q:=by
 refine Classical.byContradiction λn=>?_;have:∀q∈l,g q<=f q:=λq Q=>by
  refine Classical.byContradiction λz=>n ⟨q,Q,by lia⟩
 have:=Bo this H e;lia
def LU(h:∀q∈l,0<=f q)(P:p∈l):f p<=sm l f:=by
 let⟨x,y,rfl⟩:=List.append_of_mem P;rw[uY,aQ];have a:=pG (l:=x) λq H=>h q (qK _ H);have b:=pG (l:=y) λq H=>h q (yE _ (zC _ H));lia
def Ct(p:l.Perm r)(f:Nat->Int):sm l f=sm r f:=by
 induction p with
 | nil=>rfl
 | cons x _ i=>rw[aQ,aQ,i]
 | swap x y l=>rw[aQ,aQ,aQ,aQ];lia
 | trans _ _ H a=>rw[H,a]
def ch(m:Nat->Int):Int->Γ Nat->Nat->Int
 | _,[],_=>0
 | a,q::r,k=>if k=q then min (m q) a else ch m (a - min (m q) a) r k
def bg(m:Nat->Int)(a:Int)(q:Nat)(r:Γ Nat):ch m a (q::r) q=min (m q) a:=by simp[ch]
def ba(h:k≠q):ch m a (q::r) k=ch m (a - min (m q) a) r k:=by simp[ch,h]
def Gi:∀ {a:Int}{l:Γ Nat},(∀q∈l,0<=m q)->0<=a->∀k,0<=ch m a l k/\ch m a l k<=a/\(k∈l->ch m a l k<=m k)
 | a,[],_,H,k=>⟨qA _,H,λh=>by cases h⟩
 | a,q::r,M,H,k=>by
  have d:=M q zE;by_cases e:k=q
  .subst e;rw[bg];exact⟨by lia,by lia,λ_=>by lia⟩
  .rw[ba e];let⟨b,f,c⟩:=Gi (m:=m) (a:=a - min (m q) a) (l:=r) (λx X=>M x (zC _ X)) (by lia) k;refine⟨b,by lia,λK=>?_⟩;rcases List.mem_cons.mp K with z|z
   .exact absurd z e
   .exact c z
def FP:∀ {a:Int}{l:Γ Nat},l.Nodup->(∀q∈l,0<=m q)->0<=a->sm l (ch m a l)=min a (sm l m)
 | a,[],_,_,A=>by simp[sm];lia
 | a,q::r,n,M,A=>by
  rw[kX] at n;have b:=M q zE;have R:∀x∈r,0<=m x:=λx H=>M x (zC _ H);have s:=pG R;have i:=FP (m:=m) (a:=a - min (m q) a) n.2 R (by lia);rw[aQ,aQ,bg,cK (g:=ch m (a - min (m q) a) r) λx H=>ba λe=>n.1 (e ▸ H),i];lia
def Co:∀ {a A:Int}{l:Γ Nat}{k:Nat},a<=A->ch m a l k<=ch m A l k
 | _,_,[],_,_=>qA _
 | a,A,q::r,k,h=>by
  by_cases e:k=q
  .subst e;rw[bg,bg];lia
  .rw[ba e,ba e];exact Co (by lia)
def Bv:∀ {a:Int}{l:Γ Nat},l.Nodup->(∀q∈l,ch m a l q<=m' q/\m' q<=m q)->∀k,ch m' a l k=ch m a l k
 | _,[],_,_,_=>rfl
 | a,q::r,n,h,k=>by
  rw[kX] at n;have b:=h q zE;rw[bg] at b;have E:min (m' q) a=min (m q) a:=by lia
  by_cases e:k=q
  .subst e;rw[bg,bg,E]
  .rw[ba e,ba e,E];exact Bv n.2 (λx H=>by
    have:=h x (zC _ H)
    rwa [ba (show x≠q fromλz=>n.1 (z ▸ H))] at this) k
def qb:∀ {a:Int}{l:Γ Nat},(∀q∈l,m q=m' q)->∀k,ch m a l k=ch m' a l k
 | _,[],_,_=>rfl
 | a,q::r,h,k=>by
  have H:=h q zE;by_cases e:k=q
  .subst e;rw[bg,bg,H]
  .rw[ba e,ba e,H];exact qb (λx X=>h x (zC _ X)) k
def up:Γ Nat->Nat->Γ Nat
 | [],_=>[]
 | q::r,k=>if k=q then [q] else q::up r k
def eW(q:Nat)(r:Γ Nat):up (q::r) q=[q]:=by simp[up]
def eY(h:k≠q):up (q::r) k=q::up r k:=by simp[up,h]
def eJ:∀ {l:Γ Nat}{k q:Nat},q∈up l k->q∈l
 | [],_,_,h=>by cases h
 | x::l,k,q,h=>by
  by_cases e:k=x
  .subst e;rw[eW,yK] at h;exact h ▸ zE
  .rw[eY e] at h;rcases List.mem_cons.mp h with z|z
   .exact z ▸ zE
   .exact zC _ (eJ z)
def ve:∀ {l:Γ Nat}{k:Nat},k∈l->k∈up l k
 | x::l,k,h=>by
  by_cases e:k=x
  .subst e;rw[eW];exact zE
  .rw[eY e];rcases List.mem_cons.mp h with z|z
   .exact absurd z e
   .exact zC _ (ve z)
def uv:∀ {xs ys:Γ Nat}{k:Nat},k∉xs->up (xs++k::ys) k=xs++[k]
 | [],ys,k,_=>eW _ _
 | x::xs,ys,k,h=>by
  rw[zQ,not_or] at h;rw[xG,eY h.1,uv h.2];rfl
def BX(n:l.Nodup)(K:k∈l):∃ys,l=up l k++ys/\(∀q∈ys,q∉up l k):=by
 let⟨x,ys,rfl⟩:=List.append_of_mem K;have H:k∉x:=λz=>by
  rw[wY] at n;exact n.2.2 k z k zE rfl
 refine⟨ys,by rw[uv H];simp,λq Q S=>?_⟩;rw[uv H] at S;rw[show x++k::ys=(x++[k])++ys by simp,wY] at n;exact n.2.2 q S q Q rfl
def Bf:∀ {l:Γ Nat}{k q:Nat},l.Nodup->q∈up l k->k∈up l q->k=q
 | [],_,_,_,h,_=>by cases h
 | x::l,k,q,n,H,a=>by
  rw[kX] at n;by_cases e:k=x
  .subst e;rw[eW,yK] at H;exact H.symm
  .by_cases E:q=x
   .subst E;rw[eW,yK] at a;exact a
   .rw[eY e] at H;rw[eY E] at a;rcases List.mem_cons.mp H with z|z
    .exact absurd z E
    .rcases List.mem_cons.mp a with Z|Z
     .exact absurd Z e
     .exact Bf n.2 z Z
def A4:∀ {a:Int}{l:Γ Nat}{k:Nat},l.Nodup->k∈l->ch m a l k < m k->sm (up l k) (ch m a l)=a
 | a,q::r,k,n,H,h=>by
  rw[kX] at n;by_cases e:k=q
  .subst e;rw[bg] at h;rw[eW,o6,bg];lia
  .rw[ba e] at h;have Q:k∈r:=by
    rcases List.mem_cons.mp H with z|z
    .exact absurd z e
    .exact z
   have i:=A4 n.2 Q h;rw[eY e,aQ,bg,cK (g:=ch m (a - min (m q) a) r) λx X=>ba λz=>n.1 (z ▸ eJ X),i];lia
def FI:∀ {a:Int}{l:Γ Nat}{k q:Nat},l.Nodup->(∀x∈l,0<=m x)->0<=a->0 < ch m a l k->q∈up l k->q≠k->ch m a l q=m q
 | a,[],_,_,_,_,_,_,h,_=>by cases h
 | a,x::r,k,q,n,M,A,h,H,Q=>by
  rw[kX] at n;have b:=M x zE;have R:∀y∈r,0<=m y:=λy Y=>M y (zC _ Y);by_cases e:k=x
  .subst e;rw[eW,yK] at H;exact absurd H Q
  .rw[ba e] at h;rw[eY e] at H;rcases List.mem_cons.mp H with z|z
   .subst z;rw[bg];have:=(Gi (m:=m) (a:=a - min (m q) a) R (by lia) k).2.1;lia
   .have X:q≠x:=λw=>n.1 (w ▸ eJ z);rw[ba X];exact FI n.2 R (by lia) h z Q
def J7:∀ {a:Int}{l:Γ Nat}{k:Nat},l.Nodup->(∀x∈l,0<=m x)->0<=a->k∈l->sm (up l k) (ch m a l)=min a (sm (up l k) m)
 | a,q::r,k,n,M,A,K=>by
  rw[kX] at n;have b:=M q zE;have R:∀y∈r,0<=m y:=λy H=>M y (zC _ H);by_cases e:k=q
  .subst e;rw[eW,o6,o6,bg];lia
  .have Q:k∈r:=by
    rcases List.mem_cons.mp K with z|z
    .exact absurd z e
    .exact z
   have i:=J7 (m:=m) (a:=a - min (m q) a) n.2 R (by lia) Q;have s:=pG (l:=up r k) λy H=>R y (eJ H);rw[eY e,aQ,aQ,bg,cK (g:=ch m (a - min (m q) a) r) λx X=>ba λz=>n.1 (z ▸ eJ X),i];lia
def FH:∀ {a:Int}{l:Γ Nat},l.Nodup->(∀x∈l,x≠p->m' x=m x)->m' p<=ch m a l p->(∀k∈l,k≠p->ch m a l k<=ch m' a l k)/\(p∈l->ch m' a l p=m' p)
 | _,[],_,_,_=>⟨λ_ h=>absurd h yF,λh=>absurd h yF⟩
 | a,q::r,n,h,P=>by
  rw[kX] at n;by_cases e:q=p
  .subst e;rw[bg] at P;have s:∀x∈r,m' x=m x:=λx X=>h x (zC _ X) λz=>n.1 (z ▸ X);refine⟨λk H Q=>?_,λ_=>?_⟩
   .rw[ba Q,ba Q,qb (m:=m') (m':=m) s];exact Co (by lia)
   .rw[bg];lia
  .have b:=h q zE e;rw[ba (jO e)] at P;let⟨i,I⟩:=FH (m:=m) (m':=m') (p:=p) (a:=a - min (m q) a) n.2 (λx X=>h x (zC _ X)) P;refine⟨λk H Q=>?_,λH=>?_⟩
   .by_cases E:k=q
    .subst E;rw[bg,bg,b];exact qA _
    .rw[ba E,ba E,b];rcases List.mem_cons.mp H with z|z
     .exact absurd z E
     .exact i k z Q
   .rw[ba (jO e),b];rcases List.mem_cons.mp H with z|z
    .exact absurd z.symm e
    .exact I z
def JY:∀ {a:Int}{l:Γ Nat},l.Nodup->(∀q∈l,0<=X q/\X q<=m q)->sm l X<=a->(∀k∈l,X k=m k\/sm (up l k) X=a)->∀k∈l,ch m a l k=X k
 | _,[],_,_,_,_,_,h=>by cases h
 | a,q::r,n,x,s,h,k,K=>by
  rw[kX] at n;have b:=x q zE;have R:∀y∈r,0<=X y/\X y<=m y:=λy Y=>x y (zC _ Y);have N:=pG (l:=r) λy Y=>(R y Y).1;rw[aQ] at s;have E:min (m q) a=X q:=by
   rcases h q zE with z|z
   .lia
   .rw[eW,o6] at z;lia
  by_cases e:k=q
  .subst e;rw[bg,E]
  .rw[ba e,E];rcases List.mem_cons.mp K with z|z
   .exact absurd z e
   .refine JY n.2 R (by lia) (λj J=>?_) k z;have H:j≠q:=λw=>n.1 (w ▸ J);rcases h j (zC _ J) with w|w
    .exact .inl w
    .rw[eY H,aQ] at w;exact .inr (by lia)
def cx(b:θ)(W:Γ Wy)(k:Nat):Nat:=(bb b (aA W k)).toNat
def lst(b:θ)(G T:Γ Pl)(W:Γ Wy)(i:Nat):Γ Nat:=eG b W i (bL b G T i).2
def amt(b:θ)(G T:Γ Pl)(i:Nat):Int:=(bL b G T i).1
def mm(W:Γ Wy)(off:Γ Int)(q:Nat):Int:=min (off.getD q 0) (aA W q).2.2
def vl(P:Γ Int)(q:Nat):Int:=P.getD q 0
section
variable {G T:Γ Pl}{W:Γ Wy}{P X c off:Γ Int}{b:θ}{i k q:Nat}
def cR(h:Wd G T W)(b:θ)(H:k < W.length):cx b W k < (aH b G T).length:=(h.Rc b H).2.1
def qf(h:Wd G T W)(hi:i < (aH b G T).length):(lst b G T W i).Perm (own b W i):=eA h (gJ hi)
def bz(h:Wd G T W)(hi:i < (aH b G T).length):(lst b G T W i).Nodup:=(qf h hi).nodup_iff.mpr (List.nodup_range.filter _)
def d7(h:Wd G T W)(hi:i < (aH b G T).length):q∈lst b G T W i↔q < W.length/\cx b W q=i:=by
 rw[(qf h hi).mem_iff,bZ];constructor
 .rintro⟨H,a⟩;exact⟨H,by unfold cx;rw[a];simp⟩
 .rintro⟨H,a⟩;have:=(h.Rc b H).2.2;unfold cx at a;rw[a] at this;exact⟨H,this.symm⟩
def b9(h:Wd G T W)(b:θ)(H:k < W.length):k∈lst b G T W (cx b W k):=(d7 h (cR h b H)).mpr ⟨H,rfl⟩
def BI(h:Wd G T W)(o:Off off)(q:Nat):0<=mm W off q:=by
 have H:=o q;have a:=h.lim q;unfold mm;lia
def E9:∀ (s:Γ Nat) (a:Int) (l:Γ Int),s.Nodup->(∀i∈s,i < l.length)->∀k,(s.foldl (mn W off) (a,l)).2.getD k 0=if k∈s then ch (mm W off) a s k else l.getD k 0
 | [],a,l,_,_,k=>by simp
 | q::s,a,l,n,L,k=>by
  rw[kX] at n;have b:=E9 s (a - cV W off a q) (l.set q (cV W off a q)) n.2 (λi I=>by rw[yC];exact L i (zC _ I)) k;rw[yJ];show (s.foldl (mn W off) (a - cV W off a q,l.set q (cV W off a q))).2.getD k 0=_;rw[b];have Q:=L q zE;by_cases e:k=q
  .subst e;rw[yO n.1,yM zE,bg,cf,yM ⟨rfl,Q⟩];rfl
  .rw[ba e];by_cases H:k∈s
   .rw[yM H,yM (zC _ H)];rfl
   .rw[yO H,yO (by rw[zQ,not_or];exact⟨e,H⟩),cf,yO (λz=>e z.1.symm)]
def gK(h:Wd G T W)(b:θ)(off:Γ Int)(H:k < W.length):(bu b G T W off).getD k 0=ch (mm W off) (amt b G T (cx b W k)) (lst b G T W (cx b W k)) k:=by
 have i:=cR h b H;rw[Ei h b H];show (rN W off (amt b G T (cx b W k)) (lst b G T W (cx b W k))).getD k 0=_;unfold rN;rw[E9 _ _ _ (bz h i) (λj J=>by rw[xN];exact ((d7 h i).mp J).1),yM (b9 h b H)]
def pV(h:Wd G T W)(b:θ)(i:Nat):0<=amt b G T i:=h.amt b i
def uk(h:Wd G T W)(hi:i < (aH b G T).length):jl b W P i=sm (lst b G T W i) (vl P):=by
 unfold jl;rw[Ct (qf h hi)];rfl
def Fl(b:θ)(G T:Γ Pl)(W:Γ Wy)(P:Γ Int)(k:Nat):Prop:=sm (up (lst b G T W (cx b W k)) k) (vl P)=amt b G T (cx b W k)
def Rs(G T:Γ Pl)(W:Γ Wy)(P:Γ Int):Prop:=∀k,k < W.length->P.getD k 0=(aA W k).2.2\/Fl false G T W P k\/Fl true G T W P k
def Pn.nn(p:Pn G T W P)(q:Nat):0<=vl P q:=by
 by_cases H:q < W.length
 .exact (p.bd q H).1
 .unfold vl;rw[fT (by rw[p.len];lia)];lia
def Pn.SX(h:Wd G T W)(p:Pn G T W P)(hi:i < (aH b G T).length):sm (lst b G T W i) (vl P)<=amt b G T i:=by
 rw[<- uk h hi];exact p.am b i hi
def Bi(h:Wd G T W)(p:Pn G T W P)(b:θ)(hk:k < W.length):uJ b G T W P k=false↔Fl b G T W P k:=by
 let⟨z1,z2,z3⟩:=h.Rc b hk;have hc:lst b G T W (cx b W k)=((bL b G T (cx b W k)).2.take (rV (bL b G T (cx b W k)).2 (bP b (aA W k)))).map (oR b W (cx b W k))++k::((bL b G T (cx b W k)).2.drop (rV (bL b G T (cx b W k)).2 (bP b (aA W k))+1)).map (oR b W (cx b W k)):=Ic h hk;have hn:=bz (b:=b) h z2;change (lst b G T W (cx b W k)).Nodup at hn;have hle:=p.SX h z2;change sm (lst b G T W (cx b W k)) (vl P)<=amt b G T (cx b W k) at hle;have hth:=uk (P:=P) h z2;have hy:uJ b G T W P k=(decide (jl b W P ((cx b W k:Nat):Int) < amt b G T (cx b W k))||(((bL b G T (cx b W k)).2.drop (rV (bL b G T (cx b W k)).2 (bP b (aA W k))+1)).map (oR b W (cx b W k))).any λq=>decide (0 < vl P q)):=by
  unfold uJ;rw[wV];unfold cx amt;rw[z3];rfl
 change jl b W P ((cx b W k:Nat):Int)=sm (lst b G T W (cx b W k)) (vl P) at hth;unfold Fl;rw[hy,hth];revert hc;generalize ((bL b G T (cx b W k)).2.take (rV (bL b G T (cx b W k)).2 (bP b (aA W k)))).map (oR b W (cx b W k))=xs;generalize ((bL b G T (cx b W k)).2.drop (rV (bL b G T (cx b W k)).2 (bP b (aA W k))+1)).map (oR b W (cx b W k))=ys;intro hc;have hx:k∉xs:=λz=>by
  rw[hc,wY] at hn;exact hn.2.2 k z k zE rfl
 rw[hc,uv hx];rw[hc] at hle;have e:sm (xs++k::ys) (vl P)=sm (xs++[k]) (vl P)+sm ys (vl P):=by
  rw[<- uY];simp
 have hnn:=pG (l:=ys) λq _=>p.nn q;have Si:=BD (P:=P) ys λq _=>p.nn q;change (0 < sm ys (vl P)↔(ys.any λq=>decide (0 < vl P q))=true) at Si;rw[e] at hle ⊢;rw[Bool.or_eq_false_iff,xC];constructor
 .rintro⟨h1,h2⟩;have:¬ 0 < sm ys (vl P):=λz=>by rw[Si.mp z] at h2;cases h2
  lia
 .intro h1;refine⟨by lia,?_⟩;cases hh:(ys.any λq=>decide (0 < vl P q)) with
  | false=>rfl
  | true=>have:=Si.mpr hh;lia
def xi(h:Wd G T W)(p:Pn G T W P):vz G T W P=[]↔Rs G T W P:=by
 unfold vz;rw[List.filter_eq_nil_iff];constructor
 .intro a k H;have:=a k (by simpa using H);rw[zJ] at this;unfold lx at this;by_cases E:P.getD k 0=(aA W k).2.2
  .exact .inl E
  .rw[yO E] at this;by_cases b:uJ false G T W P k=false
   .exact .inr (.inl ((Bi h p false H).mp b))
   .rw[yO b] at this;by_cases c:uJ true G T W P k=false
    .exact .inr (.inr ((Bi h p true H).mp c))
    .rw[yO c] at this;exact absurd rfl this
 .intro a k H;rw[zJ];unfold lx;rcases a k (by simpa using H) with e|e|e
  .rw[yM e];lia
  .rw[yM ((Bi h p false (by simpa using H)).mpr e)];split<;>lia
  .rw[yM ((Bi h p true (by simpa using H)).mpr e)];split
   .lia
   .split<;>lia
def uU(e:rL G T W c=↑(k,U)):k < W.length/\U=(jc G T W c).getD k 0/\(jc G T W c).getD k 0 < (bu false G T W c).getD k 0:=by
 unfold rL at e;let⟨j,H,E⟩:=Dl.ag e;cases E;have m:=jZ H;have q:=vV H;rw[qR,zJ] at q;exact⟨List.mem_range.mp m,rfl,q⟩
def Jz(e:rL G T W c=none)(H:k < W.length):(bu false G T W c).getD k 0<=(jc G T W c).getD k 0:=by
 unfold rL at e;rw[Option.map_eq_none_iff] at e;have:=List.find?_eq_none.mp e k (by simpa using H);rw[qR,zJ] at this;lia
end
section
variable {P X c off:Γ Int}
def l6(h:Wd G T W)(H:k < W.length)(Q:q∈lst b G T W (cx b W k)):q < W.length/\cx b W q=cx b W k:=(d7 h (cR h b H)).mp Q
def nX(h:Wd G T W)(hi:i < (aH b G T).length)(Q:q∈lst b G T W i):vl (bu b G T W off) q=ch (mm W off) (amt b G T i) (lst b G T W i) q:=by
 let⟨H,a⟩:=(d7 h hi).mp Q;have:=gK h b off H;rw[a] at this;exact this
def FG(h:Wd G T W)(o:Off off)(b:θ)(H:k < W.length):sm (up (lst b G T W (cx b W k)) k) (vl (bu b G T W off))=min (amt b G T (cx b W k)) (sm (up (lst b G T W (cx b W k)) k) (mm W off)):=by
 have i:=cR h b H;rw[cK λq Q=>nX h i (eJ Q)];exact J7 (bz h i) (λq _=>BI h o q) (pV h b _) (b9 h b H)
def pX(h:Wd G T W)(b:θ)(H:k < W.length)(e:(bu b G T W off).getD k 0 < mm W off k):Fl b G T W (bu b G T W off) k:=by
 have i:=cR h b H;rw[gK h b off H] at e;unfold Fl;rw[cK λq Q=>nX h i (eJ Q)];exact A4 (bz h i) (b9 h b H) e
def IM(h:Wd G T W)(o:Off off)(H:k < W.length)(e:0 < (bu b G T W off).getD k 0)(Q:q∈up (lst b G T W (cx b W k)) k)(S:q≠k):(bu b G T W off).getD q 0=mm W off q:=by
 have i:=cR h b H;rw[gK h b off H] at e;have:=nX (off:=off) h i (eJ Q);unfold vl at this;rw[this];exact FI (bz h i) (λq _=>BI h o q) (pV h b _) e Q S
def zu(h:Wd G T W)(o:Off off)(b:θ)(H:k < W.length):0<=(bu b G T W off).getD k 0/\(bu b G T W off).getD k 0<=mm W off k:=by
 have i:=cR h b H;rw[gK h b off H];have:=Gi (m:=mm W off) (a:=amt b G T (cx b W k)) (l:=lst b G T W (cx b W k)) (λq _=>BI h o q) (pV h b _) k;exact⟨this.1,this.2.2 (b9 h b H)⟩
def BV(h:Wd G T W)(o:Off off)(hi:i < (aH b G T).length):sm (lst b G T W i) (vl (bu b G T W off))=min (amt b G T i) (sm (lst b G T W i) (mm W off)):=by
 rw[cK λq H=>nX h hi H];exact FP (bz h hi) (λq _=>BI h o q) (pV h b _)
def Nl(h:Wd G T W)(p:Pn G T W X)(b:θ)(H:k < W.length):sm (up (lst b G T W (cx b W k)) k) (vl X)<=amt b G T (cx b W k):=by
 have i:=cR h b H;have:=p.SX h i;let⟨y,e,_⟩:=BX (bz h i) (b9 h b H);rw[e,uY] at this;have n:=pG (l:=y) λq _=>p.nn q;lia
def zp(h:Wd G T W)(p:Pn G T W X)(Q:q < W.length)(f:Fl b G T W X q)(K:k∈lst b G T W (cx b W q))(n:k∉up (lst b G T W (cx b W q)) q):X.getD k 0=0:=by
 have i:=cR h b Q;have H:=p.SX h i;let⟨y,e,_⟩:=BX (bz h i) (b9 h b Q);have Y:k∈y:=by
  rw[e] at K;rcases List.mem_append.mp K with z|z
  .exact absurd z n
  .exact z
 rw[e,uY] at H;unfold Fl at f;have:=LU (l:=y) (λq _=>p.nn q) Y;have a:=p.nn k;unfold vl at this a;have:sm y (vl X)=sm y λq=>X.getD q 0:=rfl;lia
def xu(h:Wd G T W)(p:Pn G T W X)(o:Off c)(hc:∀k,k < W.length->X.getD k 0<=c.getD k 0)(H:q < W.length)(e:X.getD q 0 < (bu false G T W c).getD q 0):¬ Fl false G T W X q:=λf=>by
 have i:=cR h false H;have S:0 < (bu false G T W c).getD q 0:=by have:=p.nn q;unfold vl at this;lia
 have Q:sm (up (lst false G T W (cx false W q)) q) (vl X) < sm (up (lst false G T W (cx false W q)) q) (vl (bu false G T W c)):=by
  refine Bo (p:=q) (λr a=>?_) (ve (b9 h false H)) e;by_cases z:r=q
  .subst z;exact Int.le_of_lt e
  .have R:=(l6 h H (eJ a)).1;unfold vl;rw[IM h o H S a z];have d:=hc r R;have b:=(p.bd r R).2;unfold mm;lia
 have b:=FG h o false H;unfold Fl at f;lia
end
section
variable {P X c off:Γ Int}
def mG(h:Wd G T W)(o:Off c)(K:k < W.length):0<=(jc G T W c).getD k 0/\(jc G T W c).getD k 0<=(bu false G T W c).getD k 0/\(bu false G T W c).getD k 0<=c.getD k 0/\(bu false G T W c).getD k 0<=(aA W k).2.2/\mm W (bu false G T W c) k=(bu false G T W c).getD k 0:=by
 have a:=zu h o false K;have H:=zu h (iC h o false) true K;change 0<=(jc G T W c).getD k 0/\(jc G T W c).getD k 0<=_ at H;unfold mm at a H ⊢;lia
def EV(h:Wd G T W)(p:Pn G T W X)(r:Rs G T W X)(o:Off c)(hc:∀k,k < W.length->X.getD k 0<=c.getD k 0)(e:rL G T W c=↑(k,v)):X.getD k 0<=v:=by
 let⟨H,rfl,R⟩:=uU e;refine Classical.byContradiction λn=>?_;have n:(jc G T W c).getD k 0 < X.getD k 0:=by lia
 let⟨B,d,i,j,b⟩:=mG h o H;have F:Fl true G T W (jc G T W c) k:=pX h true H (by rw[b];exact R);have E:=Nl h p true H;unfold Fl at F;let⟨q,Q,x⟩:=NM (f:=vl X) (g:=vl (jc G T W c)) (l:=up (lst true G T W (cx true W k)) k) (p:=k) (by lia) (ve (b9 h true H)) n;let⟨S,O⟩:=l6 h H (eJ Q);unfold vl at x;have s:q≠k:=λz=>by subst z;lia
 let⟨D,m,t,u,y⟩:=mG h o S;have a:=(p.bd q S).1;rcases r q S with z|z|z
 .lia
 .exact xu h p o hc S (by lia) z
 .have Z:k∉up (lst true G T W (cx true W q)) q:=λw=>by
   rw[O] at w;exact s (Bf (bz h (cR h true H)) Q w).symm
  have:=zp h p S z (by rw[O];exact b9 h true H) Z;lia
def B7(h:Wd G T W)(p:Pn G T W X)(r:Rs G T W X)(H:k < W.length):X.getD k 0<=(fin G T W).2.getD k 0:=by
 have b:=h.Sr;let⟨_,_,a⟩:=ph (Kj G T W) (spS G T W) (λs=>Sr s.2) (λs=>y8 W s/\∀k,k < W.length->X.getD k 0<=s.2.getD k 0)
  (λs z hc=>by
   let⟨i,l⟩:=z
   let⟨⟨k,v⟩,e⟩:=nq hc;let⟨I,m⟩:=i.step h e;have x:=EV h p r i.off l e;refine⟨⟨I,λj J=>?_⟩,m⟩;rw[rD e];show _<=(s.2.set k v).getD j 0;rw[cf];split
   .rename_i z;rw[<- z.1];exact x
   .exact l j J) Rf.turns ([],c7 W) (jA b (by decide)) ⟨y8.start h,λk H=>by rw[Ag H];exact (p.bd k H).2⟩
 exact a k H
def Jn(G T:Γ Pl)(W:Γ Wy)(c:Γ Int):Prop:=∀k,k < W.length->c.getD k 0 < (aA W k).2.2->Fl true G T W (jc G T W c) k
def Lb(h:Wd G T W)(o:Off c)(hl:c.length=W.length)(e:rL G T W c=↑(k,v))(H:q < W.length):(jc G T W c).getD q 0<=(bu false G T W (c.set k v)).getD q 0:=by
 let⟨b,rfl,Q⟩:=uU e;let⟨j,B,n,r,s⟩:=mG h o b;let⟨D,d,t,u,C⟩:=mG h o H;have i:=cR h false H;have M:∀x,x≠k->mm W (c.set k ((jc G T W c).getD k 0)) x=mm W c x:=λx X=>by
  unfold mm;rw[cf,yO (λz=>X z.1.symm)]
 have K:mm W (c.set k ((jc G T W c).getD k 0)) k=(jc G T W c).getD k 0:=by
  unfold mm;rw[cf,yM ⟨rfl,by rw[hl];exact b⟩];lia
 rw[gK h false _ H];by_cases z:cx false W q=cx false W k
 .have L:k∈lst false G T W (cx false W q):=by rw[z];exact b9 h false b
  have A:vl (bu false G T W c) k=ch (mm W c) (amt false G T (cx false W q)) (lst false G T W (cx false W q)) k:=nX h i L;unfold vl at A;let⟨f,g⟩:=FH (m:=mm W c) (m':=mm W (c.set k ((jc G T W c).getD k 0))) (p:=k) (a:=amt false G T (cx false W q)) (l:=lst false G T W (cx false W q)) (bz h i) (λx _ X=>M x X) (by rw[K,<- A];exact B);by_cases y:q=k
  .subst y;rw[g L,K];exact qA _
  .have:=f q (b9 h false H) y;rw[<- gK h false c H] at this;lia
 .rw[qb (m:=mm W (c.set k ((jc G T W c).getD k 0))) (m':=mm W c) λx X=>M x λw=>by
   subst w;exact z ((d7 h i).mp X).2.symm]
  rw[<- gK h false c H];exact d
def Jn.step(h:Wd G T W)(o:Off c)(hl:c.length=W.length)(j:Jn G T W c)(e:rL G T W c=↑(k,v)):Jn G T W (c.set k v):=λq H V=>by
 have R:Off (c.set k v):=Bw o (A5 h o e).2.1;have f:Fl true G T W (jc G T W c) q:=by
  let⟨K,rfl,Q⟩:=uU e;by_cases z:q=k
  .subst z;exact pX h true H (by rw[(mG h o H).2.2.2.2];exact Q)
  .rw[cf,yO (λw=>z w.1.symm)] at V;exact j q H V
 have u:=FG h (iC h R false) true H;change sm _ (vl (jc G T W (c.set k v)))=_ at u;unfold Fl at f ⊢;have s:sm (up (lst true G T W (cx true W q)) q) (vl (jc G T W c))<=sm (up (lst true G T W (cx true W q)) q) (mm W (bu false G T W (c.set k v))):=oJ λx X=>by
  have U:=(l6 h H (eJ X)).1;have a:=Lb h o hl e U;have b:=mG h o U;unfold vl mm;lia
 rw[u];lia
def NX(h:Wd G T W):Jn G T W (fin G T W).2:=by
 have b:=h.Sr;let⟨_,_,H⟩:=ph (Kj G T W) (spS G T W) (λs=>Sr s.2) (λs=>y8 W s/\Jn G T W s.2)
  (λs z hc=>by
   let⟨i,j⟩:=z
   let⟨⟨k,v⟩,e⟩:=nq hc;let⟨I,m⟩:=i.step h e;refine⟨⟨I,?_⟩,m⟩;rw[rD e];exact j.step h i.off i.len e) Rf.turns ([],c7 W) (jA b (by decide)) ⟨y8.start h,λk K l=>by rw[Ag K] at l;lia⟩
 exact H
def Ey(h:Wd G T W):Rs G T W (gu G T W):=λk H=>by
 let⟨a,i,V⟩:=mJ h;have j:=NX h;have b:∀q,q < W.length->(gu G T W).getD q 0=(jc G T W (fin G T W).2).getD q 0:=λq Q=>by
  have n:=Jz a Q;have o:=(mG h i.off Q).2.1;unfold gu;lia
 let⟨d,D,g,l,m⟩:=mG h i.off H;by_cases e:(gu G T W).getD k 0=(aA W k).2.2
 .exact .inl e
 .by_cases E:(gu G T W).getD k 0 < mm W (fin G T W).2 k
  .exact .inr (.inl (pX h false H E))
  .have c:=(zu h i.off false H).2;have:(fin G T W).2.getD k 0 < (aA W k).2.2:=by
    unfold gu at e E;unfold mm at E c;lia
   have f:=j k H this;refine .inr (.inr ?_);unfold Fl at f ⊢;rw[<- f];exact cK λq Q=>b q (l6 h H (eJ Q)).1
def HB(h:Wd G T W)(H:k < W.length):(gu G T W).getD k 0<=(fin G T W).2.getD k 0:=(mG h (mJ h).2.1.off H).2.2.1
def mx(P X:Γ Int):Γ Int:=List.zipWith max P X
def JA(p:P.length=X.length)(q:Nat)(n:0<=P.getD q 0\/q < P.length):(mx P X).getD q 0=max (P.getD q 0) (X.getD q 0):=by
 unfold mx;by_cases H:q < P.length
 .rw[zG,List.getElem?_zipWith,zK H,zK (by lia)];simp[H,show q < X.length by lia]
 .rw[fT (by simp;lia),fT (by lia),fT (by lia)];rfl
def Fb(p:Pn G T W P)(x:Pn G T W X):Off (mx P X):=λq=>by
 rw[JA (by rw[p.len,x.len]) q (.inl (p.nn q))];have:=p.nn q;unfold vl at this;lia
def yo(p:Pn G T W P)(x:Pn G T W X)(H:q < W.length):mm W (mx P X) q=max (P.getD q 0) (X.getD q 0):=by
 unfold mm;rw[JA (by rw[p.len,x.len]) q (.inl (p.nn q))];have a:=(p.bd q H).2;have b:=(x.bd q H).2;lia
def C2(h:Wd G T W)(x:Pn G T W X)(r:Rs G T W X)(H:k < W.length):(bu false G T W (mx (gu G T W) X)).getD k 0=(gu G T W).getD k 0:=by
 have p:=j4 h;let⟨_,i,_⟩:=mJ h;have I:=cR h false H;rw[gK h false _ H,show (gu G T W).getD k 0=ch (mm W (fin G T W).2) (amt false G T (cx false W k)) (lst false G T W (cx false W k)) k from gK h false _ H];refine Bv (bz h I) (λq Q=>?_) k;have t:=(l6 h H Q).1;have A:vl (bu false G T W (fin G T W).2) q=ch (mm W (fin G T W).2) (amt false G T (cx false W k)) (lst false G T W (cx false W k)) q:=nX h I Q;rw[<- A,yo p x t];have a:=HB h t;have b:=B7 h x r t;have c:=(p.bd q t).2;have d:=(x.bd q t).2;change (gu G T W).getD q 0<=_/\_;unfold mm;lia
def Dw(h:Wd G T W)(x:Pn G T W X)(r:Rs G T W X)(H:k < W.length):(bu true G T W (mx (gu G T W) X)).getD k 0=X.getD k 0:=by
 have p:=j4 h;let⟨_,i,_⟩:=mJ h;have I:=cR h true H;rw[gK h true _ H];refine JY (X:=vl X) (bz h I) (λq Q=>?_) (x.SX h I) (λq Q=>?_) k (b9 h true H)
 .have t:=(l6 h H Q).1;rw[yo p x t];have:=(x.bd q t).1;unfold vl;lia
 .let⟨t,R⟩:=l6 h H Q;rw[yo p x t];by_cases e:X.getD q 0 < (gu G T W).getD q 0
  .refine .inr ?_;rcases r q t with z|z|z
   .have:=(p.bd q t).2;lia
   .exact absurd z (xu h x i.off (λk H=>B7 h x r H) t e)
   .unfold Fl at z
    rwa [R] at z
  .refine .inl ?_;unfold vl;lia
def Fv(h:Wd G T W)(x:Pn G T W X)(r:Rs G T W X)(hi:i < (aH false G T).length):sm (lst false G T W i) (vl X)<=sm (lst false G T W i) (vl (gu G T W)):=by
 have p:=j4 h;rw[cK (f:=vl (gu G T W)) (g:=vl (bu false G T W (mx (gu G T W) X))) λq H=>(C2 h x r ((d7 h hi).mp H).1).symm,BV h (Fb p x) hi];have a:=x.SX h hi;have b:sm (lst false G T W i) (vl X)<=sm (lst false G T W i) (mm W (mx (gu G T W) X)):=oJ λq H=>by
  rw[yo p x ((d7 h hi).mp H).1];unfold vl;lia
 lia
def EG(h:Wd G T W)(x:Pn G T W X)(r:Rs G T W X)(hi:i < (aH true G T).length):sm (lst true G T W i) (vl (gu G T W))<=sm (lst true G T W i) (vl X):=by
 have p:=j4 h;rw[cK (f:=vl X) (g:=vl (bu true G T W (mx (gu G T W) X))) λq H=>(Dw h x r ((d7 h hi).mp H).1).symm,BV h (Fb p x) hi];have a:=p.SX h hi;have b:sm (lst true G T W i) (vl (gu G T W))<=sm (lst true G T W i) (mm W (mx (gu G T W) X)):=oJ λq H=>by
  rw[yo p x ((d7 h hi).mp H).1];unfold vl;lia
 lia
def o5(h:Wd G T W)(b:θ)(f:Nat->Int):((List.range (aH b G T).length).map λi=>sm (lst b G T W i) f).sum=sm (List.range W.length) f:=by
 have y:∀n,n<=(aH b G T).length->((List.range n).map λi=>sm (lst b G T W i) f).sum=sm ((List.range W.length).filter λk=>decide (cx b W k < n)) f:=by
  intro n
  induction n with
  | zero =>
   intro _;rw[show (List.range W.length).filter (λk=>decide (cx b W k < 0))=[] from List.filter_eq_nil_iff.mpr λk _=>by simp];rfl
  | succ n I =>
   intro N;have H:n < (aH b G T).length:=N;rw[vT,jB,List.sum_append,I (by lia)];have e:∀l:Γ Nat,sm (l.filter λk=>decide (cx b W k < n+1)) f=sm (l.filter λk=>decide (cx b W k < n)) f+sm (l.filter λk=>decide (cx b W k=n)) f:=by
    intro l
    induction l with
    | nil=>rfl
    | cons x l I =>
     simp?[jY,zJ];by_cases c:cx b W x < n
     .rw[yM (by lia),yM c,yO (by lia),aQ,aQ,I];lia
     .by_cases C:cx b W x=n
      .rw[yM (by lia),yO c,yM C,aQ,aQ,I];lia
      .rw[yO (by lia),yO c,yO C,I]
   rw[e];have p:(lst b G T W n).Perm ((List.range W.length).filter λk=>decide (cx b W k=n)):=by
    refine (List.perm_ext_iff_of_nodup (bz h H) (List.nodup_range.filter _)).mpr λk=>?_;rw[d7 h H,List.mem_filter,zS,zJ]
   rw[<- Ct p];simp
 rw[y _ (yN _),List.filter_eq_self.mpr λk K=>by simpa using cR h b (by simpa using K)]
def wt:∀ {l:Γ Nat}{f g:Nat->Int},(∀i∈l,f i<=g i)->(l.map g).sum<=(l.map f).sum->∀i∈l,f i=g i:=λ{l f g} h e i H=>by
 refine Classical.byContradiction λn=>?_;have:=Bo (l:=l) (f:=f) (g:=g) h H (by have:=h i H;lia);unfold sm at this;lia
def EE{n m:Nat}{f g f' g':Nat->Int}(a:∀i,i < n->f i<=g i)(b:∀i,i < m->g' i<=f' i)(e:((List.range n).map f).sum=S)(E:((List.range m).map f').sum=S)(d:((List.range n).map g).sum=U)(j:((List.range m).map g').sum=U):(∀i,i < n->f i=g i)/\∀i,i < m->f' i=g' i:=by
 have u:sm (List.range n) f<=sm (List.range n) g:=oJ λi H=>a i (List.mem_range.mp H);have c:sm (List.range m) g'<=sm (List.range m) f':=oJ λi H=>b i (List.mem_range.mp H);unfold sm at u c;exact⟨λi H=>wt (λi H=>a i (List.mem_range.mp H)) (by lia) i (List.mem_range.mpr H),λi H=>(wt (λi H=>b i (List.mem_range.mp H)) (by lia) i (List.mem_range.mpr H)).symm⟩
def EF(h:Wd G T W)(x:Pn G T W X)(r:Rs G T W X)(b:θ)(hi:i < (aH b G T).length):jl b W X i=jl b W (gu G T W) i:=by
 let⟨t,a⟩:=EE (λi hi=>Fv (i:=i) h x r hi) (λi hi=>EG (i:=i) h x r hi) (o5 h false (vl X)) (o5 h true (vl X)) (o5 h false (vl (gu G T W))) (o5 h true (vl (gu G T W)));rw[uk h hi,uk h hi];cases b with
 | false=>exact t i hi
 | true=>exact a i hi
end
section
variable {P X c off:Γ Int}
end
def cJ(h:f ρ=↑ds):bN f ρ=↑(.list ds):=by
 simp?[bN,h,zB]
def Hf(h:f ρ=↑(.list ds)):aM f ρ=↑ds:=by
 simp?[aM,h,zA,gq]
def uD(h:fs ρ=↑ds)(hl:ds.length<=1000):gc fs ρ=↑ds:=by
 simp?[gc,h,zA,aZ (show ds.length<=4000 by lia)]
def nil_of(ρ:Dl.Env):bN Yx ρ=↑(.list []):=cJ (uD (ds:=[]) rfl (by simp))
def HU(h:t ρ=↑false):fU t u ρ=↑false:=by
 simp?[fU,h,zA]
def Fu(h:t ρ=↑true)(H:u ρ=↑b):fU t u ρ=↑b:=by
 simp?[fU,h,zA,H]
def vi(l:Γ Nat):PyData.eqvAll (l.map nD) (l.map nD)=true:=gx λd H=>by
 let⟨i,_,rfl⟩:=List.mem_map.mp H;exact Ej _
def xw{l:Γ Nat}:SeqAt.shaped (.list (l.map nD))=true :=
 (gX.lst (b:=l.length) (k:=0) (by simp) λx H=>by let⟨i,_,rfl⟩:=List.mem_map.mp H;exact gn _).shaped (by decide)
def zd{n i:Nat}{t:Dl.Env->Δ θ}{g:au->Δ Out}{R:au->Prop}{ρ:au}(b:∀ρ j,j < n->R ρ->t (aV (ρ.set i (.val (nD j))))=↑false/\R (ρ.set i (.val (nD j))))(h:R ρ):∃ρ',cG (mr i) (fF t g e9) ((List.range n).map nD) ρ=↑(.nx ρ')/\R ρ':=by
 rw[yH];exact Bc nD (λ_=>R) n 0 ρ (λj ρ _ J r=>by
  let⟨H,a⟩:=b ρ j (by lia) r;exact⟨_,_,rfl,bU H,a⟩) h
def F4(H:f ρ=↑(ay G T W))(a:g ρ=↑(.int (sI b))):(aa (bp bE (aa (f2 aw f g) af)) af) ρ=↑[nD (aH b G T).length] :=
 cons_of (lT (l:=aH b G T) (k:=aU) (ar (dX b G T W) H a)) rfl
structure Wk(G T G' T':List Pl):Prop where
 len:∀b,(aH b G' T').length=(aH b G T).length
 YY:∀b i,(bL b G' T' i).2=(bL b G T i).2
 gv:∀i,amt false G' T' i<=amt false G T i
 tk:∀i,amt true G T i<=amt true G' T' i
def sA(L:Γ Pl)(i:Nat)(a:Int):Γ Pl:=L.set i (a,(L.getD i (0,[])).2)
def kr(L:Γ Pl)(i:Nat)(a:Int):(sA L i a).length=L.length:=by simp[sA]
def JS(hi:i < L.length)(k:Nat):(sA L i a).getD k (0,[])=if k=i then (a,(L.getD i (0,[])).2) else L.getD k (0,[]):=by
 unfold sA;by_cases e:k=i
 .subst e;simp[hi]
 .rw[yO e];simp[kW (jO e)]
def zi{L:Γ Pl}{i:Nat}{a:Int}{k:Nat}{p:Pl}(h:(sA L i a)[k]?=↑p):∃P,L[k]?=↑P/\p.2=P.2/\(p.1=a\/p.1=P.1):=by
 unfold sA at h;by_cases e:i=k
 .subst e;have l:i < L.length:=by
   have:=(List.getElem?_eq_some_iff.mp h).1;simpa using this
  rw[vQ l] at h;cases h;exact⟨L[i],zK l,by simp[l],.inl rfl⟩
 .rw[kW e] at h;exact⟨p,h,rfl,.inr rfl⟩
section
variable {P X off:Γ Int}
def Fw{L:Γ Pl}{p:Pl}(A:0<=a/\a<=9)(l:∀p∈L,0<=p.1/\p.1<=9)(P:p∈sA L i a):0<=p.1/\p.1<=9:=by
 let⟨k,K,e⟩:=qS P;let⟨c,H,_,b⟩:=zi (p:=p) (k:=k) (by rw[zK K,e]);rcases b with z|z
 .rw[z];exact A
 .rw[z];exact l c (qC H)
def Wd.gA(h:Wd G T W)(A:0<=a/\a<=9):Wd (sA G i a) T W where
 g1:=by rw[kr];exact h.g1
 g4:=by rw[kr];exact h.g4
 t1:=h.t1
 t4:=h.t4
 ga:=λp H=>Fw A h.ga H
 ta:=h.ta
 gl:=λk p H=>by
  let⟨P,b,c,_⟩:=zi H;rw[c];exact h.gl k P b
 tl:=h.tl
 wr:=λw hw=>by rw[kr];exact h.wr w hw
 wp:=h.wp
 wl:=h.wl
def Wd.tA(h:Wd G T W)(A:0<=a/\a<=9):Wd G (sA T i a) W where
 g1:=h.g1
 g4:=h.g4
 t1:=by rw[kr];exact h.t1
 t4:=by rw[kr];exact h.t4
 ga:=h.ga
 ta:=λp H=>Fw A h.ta H
 gl:=h.gl
 tl:=λk p H=>by
  let⟨P,b,c,_⟩:=zi H;rw[c];exact h.tl k P b
 wr:=λw hw=>by rw[kr];exact h.wr w hw
 wp:=h.wp
 wl:=h.wl
def MZ(hi:i < G.length)(k:Nat):amt false (sA G i a) T k=if k=i then a else amt false G T k:=by
 show ((sA G i a).getD k (0,[])).1=_;rw[JS hi];split<;>rfl
def Ni(hi:i < T.length)(k:Nat):amt true G (sA T i a) k=if k=i then a else amt true G T k:=by
 show ((sA T i a).getD k (0,[])).1=_;rw[JS hi];split<;>rfl
def oI(h:i < ds.length)(hl:ds.length<=1000):dM [.tuple ds,nD i,d]=↑(.tuple (ds.set i d)):=by
 have e:(ds.take i++[d])++ds.drop (i+1)=ds.set i d:=by
  rw[List.set_eq_take_append_cons_drop,yM h];simp
 refine aE ?_;show iP [.val (.tuple ds),.val (nD i),.val d]=_;unfold iP;refine aJ (ar (a:=.tuple (ds.take i++[d])) (b:=.tuple (ds.drop (i+1))) ?_ (ar (a:=.tuple (ds.take i)) (b:=.tuple [d]) (mI ?_) (uq rfl rfl) (AZ rfl)) (AI rfl (ar (eE _ _) rfl rfl)))
 .rw[mI,e];rw[e,yC];lia
 .simp;lia
def N9(b:θ)(G T:Γ Pl)(W:Γ Wy)(i:Nat)(a:Int):D:=match b with|false=>ay (sA G i a) T W|true=>ay G (sA T i a) W
def zt(h:Wd G T W)(hi:i < (aH b G T).length):lL [ay G T W,.int (sI b),nD i,.int a,ae (bL b G T i).2]=↑(N9 b G T W i a):=by
 have l:=h.pl b;have e:=oI (ds:=(aH b G T).map aU) (d:=aU (a,(bL b G T i).2)) (i:=i) (by rw[zD];exact hi) (by rw[zD];lia);rw[<- List.map_set] at e;have E:=oI (ds:=[.tuple (G.map aU),.tuple (T.map aU),.tuple (W.map ao)]) (d:=.tuple (((aH b G T).set i (a,(bL b G T i).2)).map aU)) (i:=(sI b).toNat) (show (sI b).toNat < 3 by cases b<;>decide) (show 3<=1000 by decide);refine aE ?_;show md [.val (ay G T W),.val (.int (sI b)),.val (nD i),.val (.int a),.val (ae (bL b G T i).2)]=_;unfold md;refine aJ (call_of (ds:=[ay G T W,.int (sI b),.tuple (((aH b G T).set i (a,(bL b G T i).2)).map aU)]) ?_ (cons_of rfl (cons_of rfl (cons_of (call_of e (cons_of (ar (dX b G T W) rfl rfl) (cons_of rfl (cons_of (tup_is (ds:=[.int a,ae (bL b G T i).2]) rfl (by simp)) rfl))) rfl) rfl))) rfl);rw[show PyData.int (sI b)=nD (sI b).toNat by cases b<;>rfl];refine Eq.trans E ?_;cases b<;>rfl
def pS(h:Wd G T W)(b:θ)(hi:i < (aH b G T).length):gU [ay G T W,.int (sI b),nD i]=↑.none:=by
 have:dS [.val (ay G T W),.val (.int (sI b)),.val (nD i)]=↑(.nx [.val (ay G T W),.val (.int (sI b)),.val (nD i)]):=by
  unfold dS;refine (ai (cI (call_of (mY b) rfl rfl))).trans ?_;exact cI (call_of (jo (n:=((aH b G T).length:Nat)) (i:=(i:Nat)) (by lia) (by lia)) (cons_of rfl (cons_of (lT (l:=aH b G T) (k:=aU) (ar (dX b G T W) rfl rfl)) rfl)) rfl)
 show (dS [.val (ay G T W),.val (.int (sI b)),.val (nD i)]).map _=_;rw[this];rfl
def rP(h:Wd G T W)(hi:i < (aH b G T).length)(H:0<=a/\a<=9):gV [ay G T W,.int (sI b),nD i,.int a]=↑(N9 b G T W i a):=by
 refine aE ?_;show gR [.val (ay G T W),.val (.int (sI b)),.val (nD i),.val (.int a)]=_;unfold gR;refine (ai (cI (call_of (cm h) rfl rfl))).trans ?_;refine (ai (cI (call_of (pS h b hi) rfl rfl))).trans ?_;refine (ai (cI (call_of (lD H.1 H.2) rfl rfl))).trans ?_;exact aJ (call_of (zt h hi) (cons_of rfl (cons_of rfl (cons_of rfl (cons_of rfl (cons_of (ar (a:=aU (bL b G T i)) (b:=.int 1) rfl (ar (jz (gJ hi)) (ar (dX b G T W) rfl rfl) rfl) rfl) rfl))))) rfl)
end
def tJ(l:Int)(fs:Γ (Γ Int)):Γ (Γ Int):=(fs.map λr=>(List.range (l+1).toNat).map λm=>r++[((m:Nat):Int)]).flatten
def zc:Γ Wy->Γ (Γ Int)->Γ (Γ Int)
 | [],f=>f
 | w::W,f=>zc W (tJ w.2.2 f)
def nh:r∈tJ l fs↔∃R∈fs,∃v:Int,0<=v/\v<=l/\r=R++[v]:=by
 unfold tJ;rw[List.mem_flatten];constructor
 .rintro⟨L,a,b⟩;let⟨R,H,rfl⟩:=List.mem_map.mp a;let⟨m,M,rfl⟩:=List.mem_map.mp b;rw[zS] at M;exact⟨R,H,_,by lia,by lia,rfl⟩
 .rintro⟨R,H,v,c,d,rfl⟩;exact⟨_,List.mem_map.mpr ⟨R,H,rfl⟩,List.mem_map.mpr ⟨v.toNat,by rw[zS];lia,by rw[show ((v.toNat:Nat):Int)=v by lia]⟩⟩
def Cs:∀ {W:Γ Wy}{fs:Γ (Γ Int)}{r:Γ Int},r∈zc W fs↔∃R∈fs,∃q:Γ Int,q.length=W.length/\(∀k,k < W.length->0<=q.getD k 0/\q.getD k 0<=(aA W k).2.2)/\r=R++q
 | [],fs,r=>by
  unfold zc;constructor
  .intro h;exact⟨r,h,[],rfl,λk K=>by simp at K,by simp⟩
  .rintro⟨R,a,q,H,_,rfl⟩;have:q=[]:=List.length_eq_zero_iff.mp H;subst this;simpa using a
 | w::W,fs,r=>by
  rw[zc,Cs];constructor
  .rintro⟨R,a,q,H,b,rfl⟩;let⟨f,e,v,c,d,rfl⟩:=nh.mp a;refine⟨f,e,v::q,by simp[H],λk K=>?_,by simp⟩;cases k with
   | zero=>exact⟨c,d⟩
   | succ k=>exact b k (by simpa using K)
  .rintro⟨R,a,q,H,b,rfl⟩;cases q with
   | nil=>simp at H
   | cons v q =>
    refine⟨R++[v],nh.mpr ⟨R,a,v,(b 0 (by simp)).1,(b 0 (by simp)).2,rfl⟩,q,by simpa using H,λk K=>b (k+1) (by simpa using K),by simp⟩
def BS(l:Int)(fs:Γ (Γ Int)):(tJ l fs).length=fs.length * (l+1).toNat:=by
 unfold tJ
 induction fs with
 | nil=>simp
 | cons r fs i=>rw[zI,qN,zN,i,zL,Nat.add_mul];simp;lia
def wB:au->Δ Out:=(tV 3 [2,4] (aj 1 [4] (bA (aa (f2 Dl.aC (f2 aw (ab 2) (fC (.int 2))) (fC (.int 1))) af)) (fG 0) (λ_=>↑true) (f2 Dl.aC (ab 1) (aF (aa (ab 0) af)))))
def ext(l:Int)(r:Γ Int):Γ (Γ Int):=(List.range (l+1).toNat).map λm=>r++[((m:Nat):Int)]
def KL{acc:Γ (Γ Int)}(hl:0<=w.2.2/\w.2.2<=9)(R:r.length<=100)(A:acc.length<=7000):wB [.val d,x1,.val (ao w),.own (acc.map ae),.val (ae r)]=↑(.nx [.val d,x1,.val (ao w),.own ((acc++ext w.2.2 r).map ae),.val (ae r)]):=by
 have c:aj 1 [4] (bA (aa (f2 Dl.aC (f2 aw (ab 2) (fC (.int 2))) (fC (.int 1))) af)) (fG 0) (λ_=>↑true) (f2 Dl.aC (ab 1) (aF (aa (ab 0) af))) (bV [.val d,x1,.val (ao w),.own (acc.map ae),.val (ae r)])=↑((List.range (w.2.2+1).toNat).map λm=>ae (r++[((m:Nat):Int)])):=by
  refine ir (qk (n:=(w.2.2+1).toNat) (cons_of ?_ rfl) (by lia)) (by rw[zR];lia) λm _=>ar (mR (a:=r) (b:=[((m:Nat):Int)]) (by simp;lia)) rfl (AZ rfl);rw[show nD (w.2.2+1).toNat=.int (w.2.2+1) by show PyData.int _=_;congr 1;lia];exact ar (eE w.2.2 1) (ar (u5 w) rfl rfl) rfl
 have H:hand [2,4] 0 [Slot.val d,x1,.val (ao w),.own (acc.map ae),.val (ae r)]=[Slot.val d,x1,.val (ao w),.own (acc.map ae),.val (ae r)]:=rfl;have z:(acc.map ae).length+((List.range (w.2.2+1).toNat).map λm=>ae (r++[((m:Nat):Int)])).length<=sizeLine:=by
  rw[zD,zD,zR];exact yD (show acc.length+(w.2.2+1).toNat<=8000 by lia) (by decide)
 have e:(acc++ext w.2.2 r).map ae=acc.map ae++(List.range (w.2.2+1).toNat).map λm=>ae (r++[((m:Nat):Int)]):=by
  rw[jB,ext,zM];rfl
 unfold wB tV;rw[H,c,zA,e];simp?[oh,yZ,xR,z,xI,zB,zA];rfl
def wO:au->Δ Out:=(av (aN 3 [] Yx) (av (dc [1] V0 (mr 4) wB) (aD 1 [3] (ab 3))))
def yq(l:Int)(r:Γ Int)(fs:Γ (Γ Int)):tJ l (r::fs)=ext l r++tJ l fs:=by simp[tJ,ext]
def EO(hl:0<=w.2.2/\w.2.2<=2):∀ (fs acc:Γ (Γ Int)) (x4:Slot),(∀r∈fs,r.length<=16)->acc.length+3 * fs.length<=7000->∃y,cG (mr 4) wB (fs.map ae) [.val d,x1,.val (ao w),.own (acc.map ae),x4]=↑(.nx [.val d,x1,.val (ao w),.own ((acc++tJ w.2.2 fs).map ae),y])
 | [],acc,x4,_,_=>⟨x4,by simp[tJ,cG]⟩
 | r::fs,acc,x4,H,b=>by
  have E:(ext w.2.2 r).length<=3:=by unfold ext;rw[zD,zR];lia
  rw[zL] at b;let⟨y,e⟩:=EO (d:=d) (x1:=x1) hl fs (acc++ext w.2.2 r) (.val (ae r)) (λq Q=>H q (zC _ Q)) (by rw[zN];lia);have a:=KL (d:=d) (x1:=x1) (w:=w) (acc:=acc) (r:=r) ⟨hl.1,by lia⟩ (by have:=H r zE;lia) (by lia);have ht:mr 4 [.val d,x1,.val (ao w),.own (acc.map ae),x4] (ae r)=↑[.val d,x1,.val (ao w),.own (acc.map ae),.val (ae r)]:=rfl;refine⟨y,?_⟩;rw[zI,cG,ht,zA,a];show cG (mr 4) wB (fs.map ae) _=_;rw[e,yq,List.append_assoc]
def Kv(hl:0<=w.2.2/\w.2.2<=2)(R:∀r∈fs,r.length<=16)(f:fs.length<=2187)(H:s1=.own (fs.map ae)\/s1=.val (.list (fs.map ae))):∃Y y,wO [.val d,s1,.val (ao w),x3,x4]=↑(.nx [.val d,.val (.list ((tJ w.2.2 fs).map ae)),.val (ao w),Y,y]):=by
 let⟨y,e⟩:=EO (d:=d) (x1:=.val (.list (fs.map ae))) hl fs [] x4 R (by simp;lia);rw[xP] at e;have t:aN 3 [] Yx [.val d,s1,.val (ao w),x3,x4]=↑(.nx [.val d,s1,.val (ao w),.own [],x4]):=hJ (uD (ds:=[]) rfl (by simp)) rfl;have a:hand [1] 0 [.val d,s1,.val (ao w),.own [],x4]=[Slot.val d,.val (.list (fs.map ae)),.val (ao w),.own [],x4]:=by
  rcases H with rfl|rfl<;>rfl
 unfold wO;rw[ai t];refine⟨.val (.list ((tJ w.2.2 fs).map ae)),y,?_⟩;refine (ai (cM e rfl a)).trans ?_;exact lZ (ρ':=[.val d,.val (.list (fs.map ae)),.val (ao w),.val (.list ((tJ w.2.2 fs).map ae)),y]) rfl (d:=.list ((tJ w.2.2 fs).map ae)) rfl rfl rfl (.inl rfl)
def IW(h:∀r∈fs,r.length<=n):∀r∈tJ l fs,r.length<=n+1:=λr R=>by
 let⟨a,H,v,_,_,rfl⟩:=nh.mp R;have:=h a H;simp;lia
def E5:∀ (W:Γ Wy) (fs:Γ (Γ Int)) (s x x3 x4:Slot),(∀w∈W,0<=w.2.2/\w.2.2<=2)->fs.length * 3 ^ W.length<=2187->(∀r∈fs,r.length<=16 - W.length)->W.length<=16->(s=.own (fs.map ae)\/s=.val (.list (fs.map ae))) ->
  ∃Y j y g,cG (mr 2) wO (W.map ao) [.val d,s,x,x3,x4]=↑(.nx [.val d,Y,j,y,g])/\(Y=.own ((zc W fs).map ae)\/Y=.val (.list ((zc W fs).map ae)))
 | [],fs,s,x,x3,x4,_,_,_,_,H=>⟨s,x,x3,x4,rfl,H⟩
 | w::W,fs,s,x,x3,x4,L,f,c,hw,H=>by
  rw[zL] at f c hw;have p:1<=3 ^ W.length:=Nat.one_le_pow _ _ (by lia);have a:fs.length<=2187:=by
   refine yD ?_ f;exact Nat.le_mul_of_pos_right _ (Nat.pow_pos (by lia))
  have b:=L w zE;let⟨y,g,e⟩:=Kv (d:=d) (x3:=x3) (x4:=x4) b (λr R=>by have:=c r R;lia) a H;have l:(tJ w.2.2 fs).length<=fs.length * 3:=by rw[BS];exact Nat.mul_le_mul_left _ (by lia)
  let⟨Y,z,Z,k,E,i⟩:=E5 (d:=d) W (tJ w.2.2 fs) (.val (.list ((tJ w.2.2 fs).map ae))) (.val (ao w)) y g (λq Q=>L q (zC _ Q)) (by
   refine yD (Nat.mul_le_mul_right _ l) ?_;rw[Nat.mul_assoc,<- Nat.pow_succ'];exact f) (λr R=>by
   have:=IW (n:=16 - (W.length+1)) c r R;lia) (by lia) (.inr rfl)
  have ht:mr 2 [.val d,s,x,x3,x4] (ao w)=↑[.val d,s,.val (ao w),x3,x4]:=rfl;refine⟨Y,z,Z,k,?_,i⟩;rw[zI,cG,ht,zA,e];exact E
def GL(hl:∀w∈W,0<=w.2.2/\w.2.2<=2)(hw:W.length<=7):eP [.tuple (W.map ao)]=↑(.list ((zc W [[]]).map ae)):=by
 let⟨Y,z,Z,b,e,a⟩:=E5 (d:=.tuple (W.map ao)) W [[]] (.own ([[]].map ae)) .QB .QB .QB hl (by
  rw[xD,Nat.one_mul];exact yD (Nat.pow_le_pow_right (by lia) hw) (by decide)) (λr H=>by simp at H;subst H;simp) (by lia) (.inl rfl)
 refine aE ?_;show eO [.val (.tuple (W.map ao)),.QB,.QB,.QB,.QB]=_;unfold eO;refine (ai (hJ (ds:=[[]].map ae) (uD (cons_of (tup_is (ds:=[]) rfl (by simp)) rfl) (by simp)) rfl)).trans ?_;refine (ai (cM e rfl rfl)).trans ?_;refine aJ ?_;rcases a with rfl|rfl<;>rfl
def qg:∀ (l:Γ α),(∀x∈l,tt (↑(g x)::r)=↑(q x)/\(q x=true->te (↑(g x)::r)=↑(f x)))->cq (fG 0) tt te (none::r) (l.map g)=↑((l.filter q).map f)
 | [],_=>rfl
 | x::l,h=>by
  have i:=qg (tt:=tt) (te:=te) (r:=r) (g:=g) (f:=f) (q:=q) l λy Y=>h y (zC _ Y);let⟨H,a⟩:=h x zE;have G:fG 0 (none::r) (g x)=↑(↑(g x)::r):=rfl;rw[zI,cq,G,zA,H,zA,jY];cases e:q x with
  | true =>
   rw[yM rfl,yM rfl,a e,zA,i];rfl
  | false =>
   rw[yO (by simp),yO (by simp),i]
def nJ{α:Type}{fi:Dl.Env->Δ (Γ D)}{tt:Dl.Env->Δ θ}{te:Dl.Env->Δ D}{ρ:Dl.Env}{l:Γ α}{g f:α->D}{q:α->θ}(R:fi ρ=↑(l.map g))(hl:l.length<=3000)(H:∀x∈l,tt (↑(g x)::cs.map λj=>(ρ[j]?).getD none)=↑(q x)/\(q x=true->te (↑(g x)::cs.map λj=>(ρ[j]?).getD none)=↑(f x))):aj 1 cs fi (fG 0) tt te ρ=↑((l.filter q).map f):=by
 have:=qg l H;simp?[aj,R,zA,dz,List.replicate,xG,xP,this];refine aZ ?_;rw[zD];refine yD (xQ _ _) ?_;lia
def fA{α:Type}{fi:Dl.Env->Δ (Γ D)}{tt:Dl.Env->Δ θ}{te:Dl.Env->Δ D}{ρ:Dl.Env}{l:Γ α}{g f:α->D}{q:α->θ}(R:fi ρ=↑(l.map g))(hl:l.length<=1000)(H:∀x∈l,tt (↑(g x)::cs.map λj=>(ρ[j]?).getD none)=↑(q x)/\(q x=true->te (↑(g x)::cs.map λj=>(ρ[j]?).getD none)=↑(f x))):aj 1 cs fi (fG 0) tt te ρ=↑((l.filter q).map f):=nJ R (by lia) H
def mB:au->Δ Out:=(Dl.aD 1 [1,2] (f2 Dl.eu (ab 1) (f2 Dl.aC (f2 aw (ab 2) (fC (.int 2))) (fC (.int 1)))))
def Ga:∀ (W:Γ Wy) (p:Nat) (x:Slot),(∀w∈W,0<=w.2.2/\w.2.2<=2)->p * 3 ^ W.length<=2187->∃P y,cG (mr 2) mB (W.map ao) [.val d,.val (nD p),x]=↑(.nx [.val d,.val (nD P),y])/\P<=2187
 | [],p,x,_,H=>⟨p,x,rfl,by simpa using H⟩
 | w::W,p,x,l,H=>by
  have b:=l w zE;rw[zL] at H;have c:p<=2187:=yD (Nat.le_mul_of_pos_right _ (Nat.pow_pos (by lia))) H;let⟨P,y,e,a⟩:=Ga (d:=d) W (p * (w.2.2+1).toNat) (.val (ao w)) (λq Q=>l q (zC _ Q)) (by
   refine yD (Nat.mul_le_mul_right _ (Nat.mul_le_mul_left p (show (w.2.2+1).toNat<=3 by lia))) ?_;rw[Nat.mul_assoc,<- Nat.pow_succ'];exact H)
  have ht:mr 2 [.val d,.val (nD p),x] (ao w)=↑[.val d,.val (nD p),.val (ao w)]:=rfl;have m:mB [.val d,.val (nD p),.val (ao w)]=↑(.nx [.val d,.val (nD (p * (w.2.2+1).toNat)),.val (ao w)]):=by
   have v:nD (p * (w.2.2+1).toNat)=.int (((p:Nat):Int) * (w.2.2+1)):=by
    show PyData.int _=_;rw[Int.natCast_mul,show (((w.2.2+1).toNat:Nat):Int)=w.2.2+1 by lia]
   rw[v];unfold mB;exact cH (ar (du (.inl ⟨by lia,by lia⟩)) rfl (ar (eE _ _) (ar (u5 w) rfl rfl) rfl)) rfl
  refine⟨P,y,?_,a⟩;rw[zI,cG,ht,zA,m];exact e
def uO(hl:∀w∈W,0<=w.2.2/\w.2.2<=2)(hw:W.length<=7):iF [ay G T W]=↑.none:=by
 let⟨p,y,e,H⟩:=Ga (d:=ay G T W) W 1 .QB hl (by rw[Nat.one_mul];exact yD (Nat.pow_le_pow_right (by lia) hw) (by decide));have:eU [.val (ay G T W),.QB,.QB]=↑(.nx [.val (ay G T W),.val (nD p),y]):=by
  unfold eU;refine (ai (cH (d:=.int 1) rfl rfl)).trans ?_;refine (ai (cM e rfl rfl)).trans ?_;exact bU (bF (ar ((fu _ _).trans (by rw[zZ (by lia)])) rfl rfl))
 show (eU [.val (ay G T W),.QB,.QB]).map _=_;rw[this];rfl
def aY(G T:Γ Pl)(W:Γ Wy):Γ (Γ Int):=(zc W [[]]).filter (Kb G T W)
def allR(G T:Γ Pl)(W:Γ Wy):Γ (Γ Int):=(aY G T W).filter λP=>decide (vz G T W P=[])
def BM:r∈zc W [[]]↔r.length=W.length/\∀k,k < W.length->0<=r.getD k 0/\r.getD k 0<=(aA W k).2.2:=by
 rw[Cs];constructor
 .rintro⟨R,H,q,Q,B,rfl⟩;simp at H;subst H;exact⟨Q,B⟩
 .rintro⟨a,b⟩;exact⟨[],by simp,r,a,b,rfl⟩
def bB:X∈aY G T W↔Pn G T W X:=by
 unfold aY;rw[List.mem_filter,BM];constructor
 .rintro⟨⟨H,b⟩,a⟩;exact (uc H).mp a
 .intro p;exact⟨⟨p.len,p.bd⟩,(uc p.len).mpr p⟩
def mH(h:Wd G T W):X∈allR G T W↔Pn G T W X/\Rs G T W X:=by
 unfold allR;rw[List.mem_filter,bB,zJ];constructor
 .rintro⟨p,r⟩;exact⟨p,(xi h p).mp r⟩
 .rintro⟨p,r⟩;exact⟨p,(xi h p).mpr r⟩
def o3:∀ (W:Γ Wy) (fs:Γ (Γ Int)),(∀w∈W,0<=w.2.2/\w.2.2<=2)->(zc W fs).length<=fs.length * 3 ^ W.length
 | [],fs,_=>by simp[zc]
 | w::W,fs,l=>by
  rw[zc];refine yD (o3 W _ λq H=>l q (zC _ H)) ?_;have:=l w zE;rw[BS,zL,Nat.pow_succ',<- Nat.mul_assoc];exact Nat.mul_le_mul_right _ (Nat.mul_le_mul_left _ (by lia))
def ka(h:Wd G T W)(hl:∀w∈W,0<=w.2.2/\w.2.2<=2)(hw:W.length<=7):eB [ay G T W]=↑(.list ((aY G T W).map ae))/\(zc W [[]]).length<=2187:=by
 have n:(zc W [[]]).length<=2187:=by
  have:=o3 W [[]] hl;rw[xD,Nat.one_mul] at this;exact yD this (yD (Nat.pow_le_pow_right (by lia) hw) (by decide))
 refine⟨?_,n⟩;refine aE ?_;show j6 [.val (ay G T W)]=_;unfold j6;refine (ai (cI (call_of (cm h) rfl rfl))).trans ?_;refine (ai (cI (call_of (uO hl hw) rfl rfl))).trans ?_;refine aJ (cJ (nJ (g:=ae) (f:=ae) (q:=Kb G T W) (ig (GL hl hw) (cons_of (ar (k5 G T W) rfl rfl) rfl) rfl) (by lia) λx X=>⟨?_,λ_=>rfl⟩));let⟨c,d⟩:=BM.mp X;exact bF (call_of (tH h c λk=>by
  by_cases H:k < W.length
  .have a:=d k H;have b:=(h.wr _ (rE H)).2.2.2;lia
  .rw[fT (by lia)];lia) rfl rfl)
def tZ(h:Wd G T W)(hl:∀w∈W,0<=w.2.2/\w.2.2<=2)(hw:W.length<=7):cA [ay G T W]=↑(.list ((allR G T W).map ae))/\(allR G T W).length<=2187:=by
 let⟨e,n⟩:=ka h hl hw;have H:(aY G T W).length<=2187:=yD (xQ _ _) n;refine⟨?_,yD (xQ _ _) H⟩;refine aE ?_;show jv [.val (ay G T W)]=_;unfold jv;refine aJ (cJ (nJ (g:=ae) (f:=ae) (q:=λP=>decide (vz G T W P=[])) (ig e rfl rfl) (by lia) λx X=>⟨?_,λ_=>rfl⟩));have p:=bB.mp X;exact bF (call_of (pM h p.len (p.smP h)) rfl rfl)
def jm(h:Wd G T W)(hl:∀w∈W,0<=w.2.2/\w.2.2<=2)(hw:W.length<=4):cA [ay G T W]=↑(.list ((allR G T W).map ae))/\(allR G T W).length<=81:=by
 refine⟨(tZ h hl (by lia)).1,?_⟩;refine yD (xQ _ _) (yD (xQ _ _) ?_);have:=o3 W [[]] hl;rw[xD,Nat.one_mul] at this;exact yD this (yD (Nat.pow_le_pow_right (by lia) hw) (by decide))
def iU(b:θ)(G T:Γ Pl)(W:Γ Wy)(P:Γ Int):Γ Int:=(List.range (aH b G T).length).map λ(i:Nat)=>jl b W P ((i:Nat):Int)
def FL:(iU b G T W P).length=(aH b G T).length:=by simp[iU]
def IR(hi:i < (aH b G T).length):(iU b G T W P).getD i 0=jl b W P i:=by simp[iU,hi]
def lH(h:Wd G T W)(p:Pn G T W P)(b:θ):dP [ay G T W,ae P,.int (sI b)]=↑(ae (iU b G T W P)):=by
 have l:=h.pl b;refine aE ?_;show gN [.val (ay G T W),.val (ae P),.val (.int (sI b))]=_;unfold gN;have c:aj 1 [0,1,2] aat (fG 0) (λ_=>↑true) aau [↑(ay G T W),↑(ae P),↑(.int (sI b))]=↑((List.range (aH b G T).length).map λ(i:Nat)=>.int (jl b W P ((i:Nat):Int))) :=
  ir (qk (F4 (b:=b) rfl rfl) (by lia)) (by rw[zR];lia) λi _=>call_of (og h p.len (p.smP h) b i) rfl rfl
 refine aJ ?_;show bp br aav [↑(ay G T W),↑(ae P),↑(.int (sI b))]=_;rw[oe (cJ c),An];unfold iU ae;rw[zM];rfl
def nc(h:Wd G T W):k4 [ay G T W]=↑(.tuple [ae (iU false G T W (gu G T W)),ae (iU true G T W (gu G T W))]):=by
 refine aE ?_;show qu [.val (ay G T W),.QB]=_;unfold qu;refine (ai (aX (call_of (Ef h) rfl rfl) (call_of (Ef h) rfl rfl) rfl)).trans ?_;exact aJ (tup_is (cons_of (call_of (lH h (j4 h) false) rfl rfl) (cons_of (call_of (lH h (j4 h) true) rfl rfl) rfl)) (by simp))
def shr(b:θ)(G T:Γ Pl)(W:Γ Wy):Γ Nat:=(List.range (aH b G T).length).filter λ(i:Nat)=>decide (jl b W (gu G T W) ((i:Nat):Int) < amt b G T i)
def vd(h:Wd G T W)(b:θ):m9 [ay G T W,.int (sI b)]=↑(.list ((shr b G T W).map nD)):=by
 have l:=h.pl b;refine aE ?_;show uW [.val (ay G T W),.val (.int (sI b)),.QB]=_;unfold uW;refine (ai (cI (call_of (cm h) rfl rfl))).trans ?_;refine (ai (cI (call_of (mY b) rfl rfl))).trans ?_;have H:aw (.tuple [ae (iU false G T W (gu G T W)),ae (iU true G T W (gu G T W))]) (.int (sI b))=↑(ae (iU b G T W (gu G T W))):=by cases b<;>rfl
 refine (ai (aX (ar H (call_of (nc h) rfl rfl) rfl) (ar H (call_of (nc h) rfl rfl) rfl) rfl)).trans ?_;have e:bj (aa V3 af) [↑(ay G T W),↑(.int (sI b)),↑(ae (iU b G T W (gu G T W)))]=↑((List.range (aH b G T).length).map λi=>.tuple [nD i,aU (bL b G T i)]):=by
  have:=qq (aH b G T);unfold bL;rw[<- this];cases b<;>rfl
 refine aJ (cJ ?_);exact j5 (cs:=[2]) (x:=nD) (y:=λi=>aU (bL b G T i)) (p:=λi=>decide (jl b W (gu G T W) i < amt b G T i)) (h:=nD) e (by lia) λi I=>⟨bF (ar (lh (jl b W (gu G T W) i) (amt b G T i)) (ar ((gM (by rw[FL];exact I)).trans (by rw[IR I])) rfl rfl) (ar (a:=aU (bL b G T i)) (b:=.int 0) rfl rfl rfl)),λ_=>rfl⟩
def Me(l:Γ (Γ Int))(k:Nat):θ:=l.all λP=>decide (P.getD k 0=(l.getD 0 []).getD k 0)
def zv(hl:∀P∈l,P.length=n)(Q:l≠[])(e:l.length<=1000)(H:k < n):ml [.list (l.map ae),nD k]=↑(.bool (Me l k)):=by
 let⟨p,L,rfl⟩:=List.exists_cons_of_ne_nil Q;refine aE ?_;show lV [.val (.list ((p::L).map ae)),.val (nD k)]=_;unfold lV;have a:aw (.list ((p::L).map ae)) (.int 0)=↑(ae p):=tL (f:=ae) (l:=p::L) (i:=0) rfl;have c:aj 1 [0,1] YB (fG 0) (λ_=>↑true) aar [↑(.list ((p::L).map ae)),↑(nD k)]=↑(((p::L).filter λ_=>true).map λP=>.bool (decide (P.getD k 0=p.getD k 0))) :=
  fA (g:=ae) (f:=λP=>.bool (decide (P.getD k 0=p.getD k 0))) (q:=λ_=>true) rfl e λP b=>⟨rfl,λ_=>ar (dw _ _) (ar (gM (by rw[hl P b];exact H)) rfl rfl) (ar (gM (by rw[hl p zE];exact H)) (ar a rfl rfl) rfl)⟩
 refine aJ ?_;show bp jw aas [↑(.list ((p::L).map ae)),↑(nD k)]=_;rw[oe (cJ c),show (p::L).filter (λ_=>true)=p::L by simp];have y:∀ (m:Γ (Γ Int)) (f:Γ Int->θ),boolsOf (m.map λP=>PyData.bool (f P))=↑(m.map f):=λm f=>by
  induction m with
  | nil=>rfl
  | cons d m I=>simp[boolsOf,I]
 simp?[jw,oneOf,zA,y,zB,List.all_map];rfl
def BU(G T:Γ Pl)(W:Γ Wy):Γ Nat:=(List.range W.length).filter (Me (allR G T W))
def Eh(P:Γ Int):bw 0 (P.map PyData.int)=(List.range P.length).map λi=>.tuple [nD i,.int (P.getD i 0)]:=by
 rw[enum_zip];apply jI
 .simp
 .intro i a H;have:i < P.length:=by simpa using H
  simp[this]
def lW(G T:Γ Pl)(W:Γ Wy):Γ Int:=(allR G T W).getD 0 []
def uw(h:Wd G T W):allR G T W≠[]:=λz=>by
 have:gu G T W∈allR G T W:=(mH h).mpr ⟨j4 h,Ey h⟩;rw[z] at this;cases this
def oZ(h:Wd G T W):lW G T W∈allR G T W:=by
 unfold lW;have:=List.length_pos_iff.mpr (uw h);rw[zG,zK this];exact qB this
def xn(h:Wd G T W)(hl:∀w∈W,0<=w.2.2/\w.2.2<=2)(hw:W.length<=4):mD [ay G T W]=↑(.list ((BU G T W).map λk=>ae [((k:Nat):Int),(lW G T W).getD k 0])):=by
 let⟨e,r⟩:=jm h hl hw;have n:∀P∈allR G T W,P.length=W.length:=λP a=>((mH h).mp a).1.len;have F:=n _ (oZ h);have S:=List.length_pos_iff.mpr (uw h);have H:aw (.list ((allR G T W).map ae)) (.int 0)=↑(ae (lW G T W)):=tL (f:=ae) (i:=0) (by unfold lW;simp[S]);refine aE ?_;show pZ [.val (ay G T W),.QB]=_;unfold pZ;refine (ai (aX (call_of e rfl rfl) (call_of e rfl rfl) rfl)).trans ?_;have E:bj (aa WU af) [↑(ay G T W),↑(.list ((allR G T W).map ae))]=↑((List.range W.length).map λi=>.tuple [nD i,.int ((lW G T W).getD i 0)]):=by
  rw[<- F,<- Eh];unfold bj;rw[cons_of (ar H rfl rfl) rfl];rfl
 refine aJ (cJ ?_);exact j5 (cs:=[1]) (x:=nD) (y:=λi=>.int ((lW G T W).getD i 0)) (p:=Me (allR G T W)) (h:=λk=>ae [((k:Nat):Int),(lW G T W).getD k 0]) E (by lia) λi I=>⟨bF (call_of (zv n (uw h) (by lia) I) rfl rfl),λ_=>tup_is (ds:=[nD i,.int ((lW G T W).getD i 0)]) rfl (by simp)⟩
def any_rows(l:Γ (Γ Int))(a:Γ Int):((l.map ae).any λz=>PyData.eqv z (ae a))=decide (a∈l):=He l a
def CZ(l:Γ (Γ Int))(a:Γ Int):Di (ae a) (.list (l.map ae))=↑(.bool (!decide (a∈l))):=by
 simp?[Di,Oh,Am,gg,jQ,xI,any_rows,zB]
def zh(l:Γ (Γ Int)):cg (.list (l.map ae)) (.list [])=↑(.bool (decide (l=[]))):=by
 have H:SeqAt.shaped (.list [])=true:=xw (l:=[]);have e:(l.map ae).isEmpty=decide (l=[]):=by cases l<;>rfl
 simp?[cg,LH,gg,H,jQ,xI,PyData.eqv,rG,e,zB]
open Pg
section
variable {G T:Γ Pl}{W:Γ Wy}{P X:Γ Int}{b:θ}{k:Nat}
def Ba(l:Γ (Γ Int)):Prop:=l.Pairwise λa b=>Dl.lexLt a b=true
def Br:∀ {a b:Γ Int}(x y:Γ Int),a.length=b.length->Dl.lexLt a b=true->Dl.lexLt (a++x) (b++y)=true
 | [],[],_,_,_,h=>by cases h
 | u::a,v::b,x,y,l,h=>by
  have h:HT.lexLt (u::a) (v::b)=true:=h;show HT.lexLt (u::(a++x)) (v::(b++y))=true;rw[HT.bY] at h ⊢;by_cases e:u=v
  .rw[yM e] at h ⊢;exact Br x y (by simpa using l) h
  .rw[yO e] at h ⊢;exact h
def wx:∀ (a x y:Γ Int),Dl.lexLt (a++x) (a++y)=Dl.lexLt x y
 | [],_,_=>rfl
 | u::a,x,y=>by
  show HT.lexLt (u::(a++x)) (u::(a++y))=_;rw[HT.bY,yM rfl];exact wx a x y
def Ba.up(h:Ba l):l.Pairwise λa b=>lexLe a b=true:=List.Pairwise.imp (λ{a b} z=>by
 unfold lexLe;cases q:Dl.lexLt b a with
 | false=>rfl
 | true=>have:=cZ z q;rw[cP] at this;cases this) h
def Ba.nd(h:Ba l):l.Nodup:=List.Pairwise.imp (λ{a b} z e=>by rw[e,cP] at z;cases z) h
def Ba.Ra(h:Ba l)(p:m.Perm l):Dl.Ra m=l:=((nZ p.symm h.up).symm:_)
def La(l:Int)(r:Γ Int):Ba (ext l r):=by
 unfold Ba ext;rw[jF];refine List.Pairwise.imp (λ{a b} z=>?_) List.pairwise_lt_range;rw[wx];show HT.lexLt [((a:Nat):Int)] [((b:Nat):Int)]=true;rw[HT.bY,yO (by lia)];exact yA (by lia)
def Ee(l:Int):∀ {fs:Γ (Γ Int)}{n:Nat},(∀r∈fs,r.length=n)->Ba fs->Ba (tJ l fs)
 | [],_,_,_=>.nil
 | r::fs,n,L,h=>by
  rw[yq];have c:=List.pairwise_cons.mp h;refine List.pairwise_append.mpr ⟨La l r,Ee l (λq H=>L q (zC _ H)) c.2,λa A b B=>?_⟩;let⟨i,_,rfl⟩:=List.mem_map.mp A;let⟨q,H,v,_,_,rfl⟩:=nh.mp B;exact Br _ _ (by rw[L r zE,L q (zC _ H)]) (c.1 q H)
def GP:∀ (W:Γ Wy) {fs:Γ (Γ Int)}{n:Nat},(∀r∈fs,r.length=n)->Ba fs->Ba (zc W fs)
 | [],_,_,_,h=>h
 | w::W,fs,n,l,h=>GP W (n:=n+1) (λr R=>by
  let⟨q,H,v,_,_,rfl⟩:=nh.mp R;rw[zN,l q H];rfl) (Ee _ l h)
def iA(G T:Γ Pl)(W:Γ Wy):Ba (aY G T W):=List.Pairwise.filter _ (GP W (n:=0) (λr H=>by rw[List.mem_singleton.mp H];rfl) (vK _ _))
def uR(G T:Γ Pl)(W:Γ Wy):Ba (allR G T W):=List.Pairwise.filter _ (iA G T W)
def Oj:Nat->Γ (Γ Int)
 | 0=>[[]]
 | k+1=>(Oj k).flatMap λr=>[0::r,1::r,2::r]
def Bp:∀ {r:Γ Int},(∀x∈r,x=0\/x=1\/x=2)->r∈Oj r.length
 | [],_=>List.mem_singleton.mpr rfl
 | x::r,h=>by
  refine List.mem_flatMap.mpr ⟨r,Bp λy H=>h y (zC _ H),?_⟩;rcases h x zE with rfl|rfl|rfl<;>simp
def FC:∀k,k<=4->((Oj k).map qo).Nodup:=by decide +kernel
def r9:∀ {l:Γ α},(l.map f).Nodup->∀a∈l,∀b∈l,f a=f b->a=b
 | [],_,a,H,_,_,_=>by cases H
 | x::l,h,a,H,b,B,e=>by
  rw[zI,kX] at h;rcases List.mem_cons.mp H with c|c
  .rcases List.mem_cons.mp B with E|E
   .rw[c,E]
   .rw[c] at e;exact absurd (e ▸ List.mem_map_of_mem E) h.1
  .rcases List.mem_cons.mp B with E|E
   .rw[E] at e;exact absurd (e ▸ List.mem_map_of_mem c) h.1
   .exact r9 h.2 a c b E e
def Ht{l:Γ (Γ Int)}{k:Nat}(K:k<=4)(hl:∀r∈l,r.length=k/\∀x∈r,x=0\/x=1\/x=2)(n:l.Nodup):(l.map qo).Nodup:=by
 rw[List.nodup_iff_pairwise_ne,jF];rw[List.nodup_iff_pairwise_ne] at n;refine n.imp_of_mem λ{a b} A B z e=>z ?_;have m:∀r∈l,r∈Oj k:=λr H=>by
  have:=Bp (hl r H).2
  rwa [(hl r H).1] at this
 exact r9 (FC k K) a (m a A) b (m b B) e
def nY:∀l:Γ (Γ Int),xp (l.map ae)=↑l
 | []=>rfl
 | r::l=>by
  rw[zI];show (bQ (ae r)).bind _=_;rw[show bQ (ae r)=↑r from fV r,zA,nY l];rfl
def EA(hl:∀w∈W,0<=w.2.2/\w.2.2<=2)(p:Pn G T W P):∀x∈P,x=0\/x=1\/x=2:=λx X=>by
 let⟨k,K,rfl⟩:=List.mem_iff_getElem.mp X;have Q:k < W.length:=by rw[<- p.len];exact K
 have H:=p.bd k Q;have a:=(hl (aA W k) (rE Q)).2;rw[zG,zK K] at H;have H:0<=P[k]/\P[k]<=(aA W k).2.2:=H;lia
def vn{l:Γ (Γ Int)}(hw:W.length<=4)(hl:∀P∈l,P.length=W.length)(n:l.Nodup):(∀ns∈l,ns≠[])\/l.length < 2:=by
 by_cases e:W=[]
 .right;rcases l with _|⟨a,_|⟨b,l⟩⟩
  .simp
  .simp
  .exfalso;have H:=hl a zE;have B:=hl b (zC _ zE);rw[e] at H B;rw[List.length_eq_zero_iff.mp H,List.length_eq_zero_iff.mp B] at n;simp at n
 .exact .inl λns S z=>e (List.length_eq_zero_iff.mp (by rw[<- hl ns S,z];rfl))
def yl(hl:∀w∈W,0<=w.2.2/\w.2.2<=2)(hw:W.length<=4):(aY G T W).length<=81:=by
 have H:=o3 W [[]] hl;have b:3 ^ W.length<=3 ^ 4:=Nat.pow_le_pow_right (by decide) hw;have c:=xQ (Kb G T W) (zc W [[]]);have a:([[]]:Γ (Γ Int)).length=1:=rfl;rw[a] at H;unfold aY;lia
def C0(hl:∀w∈W,0<=w.2.2/\w.2.2<=2)(hw:W.length<=4):cT (.list ((aY G T W).map ae))=↑((aY G T W).map ae):=by
 have m:∀P∈aY G T W,Pn G T W P:=λP H=>bB.mp H;have:=yl (G:=G) (T:=T) hl hw;unfold cT;dsimp only;rw[nY,zA,yM ⟨Ht hw (λr R=>⟨(m r R).len,EA hl (m r R)⟩) (iA G T W).nd,by lia,vn hw (λP H=>(m P H).len) (iA G T W).nd⟩,(iA G T W).Ra (.refl _)]
end
section
variable {G T:Γ Pl}{W:Γ Wy}{P X:Γ Int}{b:θ}{k i:Nat}{a:Int}
def vt:∀l:Γ (Γ Int),Ih (l.map λP=>.tuple [ae P,.bool true])=↑l
 | []=>rfl
 | r::l=>by
  rw[zI];show (bQ (ae r)).bind _=_;rw[show bQ (ae r)=↑r from fV r,zA,vt l];rfl
def GE(n:l.Nodup)(hl:l.length < 1000):pJ (.list (l.map λP=>.tuple [ae P,.bool true]))=↑(iM l):=by
 unfold pJ;dsimp only;rw[vt,zA,yM ⟨n,hl⟩]
def A7(Q:Γ Int):∀l:Γ (Γ Int),Ac Q (l.map λns=>(Dl.mq ns,.bool true))=decide (Q∈l)
 | []=>rfl
 | r::l=>by
  unfold Ac;rw[zI,vG,fV];have i:=A7 Q l;unfold Ac at i;rw[i,Bool.eq_iff_iff];simp?[jC,zJ,zQ];exact⟨λz=>z.imp Eq.symm id,λz=>z.imp Eq.symm id⟩
def Il(Q:Γ Int)(l:Γ (Γ Int)):xh (ae Q) (iM l)=↑(.bool (!decide (Q∈l))):=by
 show (bQ (ae Q)).map _=_;rw[show bQ (ae Q)=↑Q from fV Q,zB,A7]
def KQ(P:Γ Int)(k:Nat):Γ Int:=P.take k++[P.getD k 0 - 1]++P.drop (k+1)
def D4(H:k < P.length)(q:Nat):(KQ P k).getD q 0=if q=k then P.getD k 0 - 1 else P.getD q 0:=by
 unfold KQ;rw[zG,List.append_assoc];by_cases c:q < k
 .rw[yO (by lia),yT (by rw[jX];lia),List.getElem?_take_of_lt c,zG]
 .rw[yU (by rw[jX];lia),jX,Nat.min_eq_left (by lia)];by_cases e:q=k
  .subst e;rw[yM rfl,Nat.sub_self];rfl
  .rw[yO e,show q - k=(q - k - 1)+1 by lia,List.singleton_append,yZ,List.getElem?_drop,zG,show k+1+(q - k - 1)=q by lia]
def Ib(H:k < P.length):(KQ P k).length=P.length:=by
 unfold KQ;simp;lia
def Fd:∀ {l:Γ Nat}{f g:Nat->Int},(∀x∈l,f x<=g x)->(l.map f).sum<=(l.map g).sum
 | [],_,_,_=>qA _
 | x::l,f,g,h=>by
  rw[zI,zI,kF,kF];exact Int.add_le_add (h x zE) (Fd λy H=>h y (zC _ H))
def Lg(p:Pn G T W P)(H:k < W.length)(a:0 < P.getD k 0):Pn G T W (KQ P k) where
 len:=by rw[Ib (by rw[p.len];exact H),p.len]
 bd:=λq Q=>by
  rw[D4 (by rw[p.len];exact H)];have:=p.bd q Q;split
  .rename_i e;subst e;lia
  .exact this
 am:=λb i I=>by
  refine jV ?_ (p.am b i I);unfold jl;refine Fd λx X=>?_;rw[D4 (by rw[p.len];exact H)];split
  .rename_i e;subst e;lia
  .exact qA _
def MO(h:Wd G T W):Pn G T W (zs W.length) where
 len:=by simp[zs]
 bd:=λk H=>by
  rw[JO];have:=(h.wr (aA W k) (rE H)).2.2.1;lia
 am:=λb i I=>by
  rw[Fe λk=>JO _ k];exact h.amt b i
def oC(h:Wd G T W):X∈allR G T W↔Pn G T W X/\vz G T W X=[]:=by
 unfold allR;rw[List.mem_filter,bB,zJ]
abbrev tw(W:Γ Wy):Γ Wy:=f7 W (bI W)
abbrev tp(W:Γ Wy)(P:Γ Int):Γ Int:=sR P (bI W)
def Bz(h:Wd G T W)(p:P.length=W.length):tp (tw W) (tp W P)=P:=Be h.wp (bf h.wp) (bf ((bf h.wp).wd h).wp) p
def FO(h:Wd G T W)(p:P.length=W.length):tp W (tp (tw W) P)=P:=by
 have o:=bf h.wp;have H:=o.wd h;have O:=bf H.wp;have e:=B0 h.wp o O;have a:Ord (f7 (tw W) (bI (tw W))) (bI W):=by rw[e];exact o
 exact Be H.wp O a (by rw[bD o];exact p)
def JB(h:Wd G T W):f7 (f7 W (bI W)) (bI (f7 W (bI W)))=W:=B0 h.wp (bf h.wp) (bf ((bf h.wp).wd h).wp)
def Bm{l L:Γ (Γ Int)}(h:Wd G T W)(n:l.Nodup)(X:L.Nodup)(hl:∀P∈l,P.length=W.length)(H:∀P∈L,P.length=W.length)(f:∀P∈l,tp W P∈L)(g:∀P∈L,tp (tw W) P∈l):(l.map (tp W)).Perm L:=by
 have d:(l.map (tp W)).Nodup:=by
  rw[List.nodup_iff_pairwise_ne,jF];rw[List.nodup_iff_pairwise_ne] at n;refine n.imp_of_mem λ{a b} A B z e=>z ?_;rw[<- Bz h (hl a A),<- Bz h (hl b B),e]
 rw[List.perm_ext_iff_of_nodup d X];intro a;constructor
 .intro z;let⟨P,p,rfl⟩:=List.mem_map.mp z;exact f P p
 .intro z;exact List.mem_map.mpr ⟨_,g a z,FO h (H a z)⟩
def Im(h:Wd G T W):((aY G T W).map (tp W)).Perm (aY T G (tw W)):=by
 have o:=bf h.wp;have a:=o.wd h;have O:=bf a.wp;refine Bm h (iA G T W).nd (iA T G (tw W)).nd (λP H=>(bB.mp H).len) (λP H=>by rw[(bB.mp H).len,bD o]) (λP H=>bB.mpr ((bB.mp H).tu h o)) λP H=>?_;have:=(bB.mp H).tu a O;rw[JB h] at this;exact bB.mpr this
def va(h:Wd G T W):((allR G T W).map (tp W)).Perm (allR T G (tw W)):=by
 have o:=bf h.wp;have a:=o.wd h;have O:=bf a.wp;refine Bm h (uR G T W).nd (uR T G (tw W)).nd (λP H=>((oC h).mp H).1.len) (λP H=>by rw[((oC a).mp H).1.len,bD o]) (λP H=>?_) λP H=>?_
 .let⟨p,e⟩:=(oC h).mp H;exact (oC a).mpr ⟨p.tu h o,(EW h o).mpr e⟩
 .let⟨p,e⟩:=(oC a).mp H;have q:=p.tu a O;have E:=(EW (P:=P) a O).mpr e;rw[JB h] at q E;exact (oC h).mpr ⟨q,E⟩
def FF(h:Wd G T W)(H:X∈allR T G (tw W)):∃Y∈allR G T W,X=tp W Y:=by
 let⟨Y,y,e⟩:=List.mem_map.mp ((va h).mem_iff.mpr H);exact⟨Y,y,e.symm⟩
def GA(h:Wd G T W)(b:θ)(hi:i < (aH b G T).length):jl (!b) (tw W) (gu T G (tw W)) i=jl b W (gu G T W) i:=by
 have o:=bf h.wp;have H:=o.wd h;let⟨Y,y,e⟩:=FF h ((mH H).mpr ⟨j4 H,Ey H⟩);let⟨p,r⟩:=(mH h).mp y;rw[e,Aq o b,EF h p r b hi]
def Bl(h:Wd G T W)(b:θ):iU (!b) T G (tw W) (gu T G (tw W))=iU b G T W (gu G T W):=by
 unfold iU;rw[nB];exact yI λi H=>GA h b (List.mem_range.mp H)
def Eb(h:Wd G T W)(b:θ):shr (!b) T G (tw W)=shr b G T W:=by
 unfold shr;rw[nB];refine List.filter_congr λi H=>?_;rw[GA h b (List.mem_range.mp H)];unfold amt;rw[AJ]
def A1(h:Wd G T W):Me (allR G T W) k=true↔∃v,∀X∈allR G T W,X.getD k 0=v:=by
 unfold Me;rw[xH];constructor
 .exactλz=>⟨_,λX H=>yR (z X H)⟩
 .rintro⟨v,z⟩ X H;have f:(allR G T W).getD 0 []∈allR G T W:=oZ h;exact yA (by rw[z X H,z _ f])
def z7(h:Wd G T W)(K:k < W.length):Me (allR T G (tw W)) k=true↔Me (allR G T W) ((bI W).getD k 0)=true:=by
 have o:=bf h.wp;rw[A1 (o.wd h),A1 h];constructor
 .rintro⟨v,z⟩;refine⟨v,λX H=>?_⟩;have:=z _ ((va h).mem_iff.mp (List.mem_map_of_mem H))
  rwa [kg o K] at this
 .rintro⟨v,z⟩;refine⟨v,λX H=>?_⟩;let⟨Y,y,rfl⟩:=FF h H;rw[kg o K];exact z Y y
def JW(G T:Γ Pl)(W:Γ Wy)(k:Nat):Γ Int:=[(aA W k).1,(aA W k).2.1,(lW G T W).getD k 0]
def N0(G T:Γ Pl)(W:Γ Wy)(k:Nat):Γ Int:=[(aA W k).2.1,(aA W k).1,(lW G T W).getD k 0]
def l7(H:k∈BU G T W):k < W.length:=List.mem_range.mp (List.mem_filter.mp H).1
def Ky(h:Wd G T W):((BU T G (tw W)).map λk=>(bI W).getD k 0).Perm (BU G T W):=by
 have o:=bf h.wp;have l:(tw W).length=W.length:=bD o;have a:∀ {i j:Nat},i < W.length->j < W.length->(bI W).getD i 0=(bI W).getD j 0->i=j:=λ{i j} I J e=>by
  have n:(bI W).Nodup:=o.perm.nodup_iff.mpr List.nodup_range;rw[List.nodup_iff_pairwise_ne,List.pairwise_iff_getElem] at n;have R:i < (bI W).length:=by rw[o.len];exact I
  have r:j < (bI W).length:=by rw[o.len];exact J
  rw[zG,zG,zK R,zK r] at e;have e:(bI W)[i]=(bI W)[j]:=e;rcases Nat.lt_trichotomy i j with z|z|z
  .exact absurd e (n i j R r z)
  .exact z
  .exact absurd e.symm (n j i r R z)
 have n:((BU T G (tw W)).map λk=>(bI W).getD k 0).Nodup:=by
  rw[List.nodup_iff_pairwise_ne,jF];have:(BU T G (tw W)).Nodup:=List.nodup_range.filter _;rw[List.nodup_iff_pairwise_ne] at this;exact this.imp_of_mem λ{i j} I J z e=>z (a (by rw[<- l];exact l7 I) (by rw[<- l];exact l7 J) e)
 have N:(BU G T W).Nodup:=List.nodup_range.filter _;rw[List.perm_ext_iff_of_nodup n N];intro q;constructor
 .intro z;let⟨k,H,rfl⟩:=List.mem_map.mp z;have Q:k < W.length:=by rw[<- l];exact l7 H
  exact List.mem_filter.mpr ⟨List.mem_range.mpr (o.lt Q),(z7 h Q).mp (List.mem_filter.mp H).2⟩
 .intro z;let⟨k,H,e⟩:=o.ex (l7 z);refine List.mem_map.mpr ⟨k,List.mem_filter.mpr ⟨List.mem_range.mpr (by rw[l];exact H),(z7 h H).mpr ?_⟩,e⟩;rw[e];exact (List.mem_filter.mp z).2
def M6(h:Wd G T W):((BU T G (tw W)).map (N0 T G (tw W))).Perm ((BU G T W).map (JW G T W)):=by
 have o:=bf h.wp;refine List.Perm.trans (.of_eq ?_) ((Ky h).map (JW G T W));rw[zM];refine yI λk H=>?_;have Q:k < W.length:=by rw[<- bD o];exact l7 H
 have a:=(z7 h Q).mp (List.mem_filter.mp H).2;let⟨v,z⟩:=(A1 h).mp a;let⟨Y,y,e⟩:=FF h (oZ (o.wd h));show N0 T G (tw W) k=JW G T W ((bI W).getD k 0);unfold N0 JW;rw[fQ o Q,e,kg o Q,z Y y,z _ (oZ h)];rfl
def Jh(p:Pn G T W P)(hi:i < (aH b G T).length)(A:amt b G T i<=a):(b=false->Pn (sA G i a) T W P)/\(b=true->Pn G (sA T i a) W P):=by
 constructor
 .rintro rfl;have hi:i < G.length:=hi;refine⟨p.len,p.bd,λc j H=>?_⟩;cases c with
  | true=>exact p.am true j H
  | false =>
   have R:j < G.length:=by have:j < (sA G i a).length:=H;rwa [kr] at this
   refine jV (p.am false j R) ?_;have:=MZ (T:=T) (a:=a) hi j;unfold amt at this A;rw[this];split
   .rename_i e;subst e;exact A
   .exact qA _
 .rintro rfl;have hi:i < T.length:=hi;refine⟨p.len,p.bd,λc j H=>?_⟩;cases c with
  | false=>exact p.am false j H
  | true =>
   have R:j < T.length:=by have:j < (sA T i a).length:=H;rwa [kr] at this
   refine jV (p.am true j R) ?_;have:=Ni (G:=G) (a:=a) hi j;unfold amt at this A;rw[this];split
   .rename_i e;subst e;exact A
   .exact qA _
def FN(h:Wd G T W)(p:Pn G T W P)(hi:i < (aH b G T).length)(A:amt b G T i<=a)(H:0<=a/\a<=9):cU [N9 b G T W i a,ae P]=↑(.bool true):=by
 let⟨c,d⟩:=Jh p hi A;cases b with
 | false=>exact dY (h.gA H) (c rfl)
 | true=>exact dY (h.tA H) (d rfl)
end
namespace K33M
section
variable {G T:Γ Pl}{W:Γ Wy}{P X:Γ Int}{b:θ}{k i:Nat}
def JL(h:g d=↑d')(H:f ρ=↑d):f1 g f ρ=↑d':=by
 simp?[f1,H,zA,h]
def mQ(l:Γ α):l.filter (λ_=>true)=l:=List.filter_eq_self.mpr λ_ _=>rfl
def qc{fi:Dl.Env->Δ (Γ D)}{te:Dl.Env->Δ D}{ρ:Dl.Env}{s:Γ Nat}{x y:Nat->D}{f:Nat->Γ Int}(R:fi ρ=↑(s.map λi=>.tuple [x i,y i]))(hl:s.length<=16)(n:∀i∈s,f i≠[])(a:∀i∈s,te (↑(x i)::↑(y i)::cs.map λj=>(ρ[j]?).getD none)=↑(ae (f i))):m8 cL (aa (bN (aj 2 cs fi (fy 0 1) (λ_=>↑true) te)) af) ρ=↑((Ra (s.map f)).map ae):=by
 have c:aj 2 cs fi (fy 0 1) (λ_=>↑true) te ρ=↑((s.map f).map ae):=by
  have:=nS (tt:=λ_=>↑true) (te:=te) (r:=cs.map λj=>(ρ[j]?).getD none) (p:=λ_=>true) (h:=λi=>ae (f i)) s λi H=>⟨rfl,λ_=>a i H⟩
  rw[mQ] at this;simp?[aj,R,zA,dz,List.replicate,xG,xP,this];rw[zM];refine aZ ?_;rw[zD];lia
 have b:rowsOf ((s.map f).map ae)=↑(s.map f):=iy λN S=>by
  let⟨i,H,rfl⟩:=List.mem_map.mp S;exact n i H
 simp?[m8,aa,af,bN,c,zB,zA,cL,oneOf,b];rw[yM (by rw[zD];lia)]
def O7(w:Wy)(h:f ρ=↑(ao w)):fj cn f e8 V6 ρ=↑(ae [w.1,w.2.1]):=uq (k:=2) h rfl
def Po(w:Wy)(h:f ρ=↑(ao w)):f1 sL f ρ=↑(ae [w.2.1,w.1]):=by
 simp?[f1,h,zA];rfl
def v8{b k:Nat}(f:gX b k d)(H:k<=64)(e:PyData.eqv d d=true):hC d d=↑(.bool false):=by
 simp?[hC,ME,f.shaped H,jQ,xI,e,zB,xZ]
def Em(a c:Γ Int):hC (.tuple [ae a,ae c]) (.tuple [ae a,ae c])=↑(.bool false) :=
 v8 (b:=max 2 (max a.length c.length)) (k:=2) (.tup (by simp;lia) λx X=>by
  rcases List.mem_cons.mp X with rfl|X
  .exact oY (by lia)
  .rw[List.mem_singleton.mp X];exact oY (by lia)) (by decide) (HC λd H=>by
  rcases List.mem_cons.mp H with rfl|H
  .exact AQ _
  .rw[List.mem_singleton.mp H];exact AQ _)
def HD(a c:Γ Nat):hC (.list [.list (a.map nD),.list (c.map nD)]) (.list [.list (a.map nD),.list (c.map nD)])=↑(.bool false):=by
 have f:∀l:Γ Nat,l.length<=max 2 (max a.length c.length)->gX (max 2 (max a.length c.length)) 1 (.list (l.map nD)):=λl z=>.lst (by simpa using z) λx H=>by
  let⟨i,_,rfl⟩:=List.mem_map.mp H;exact gn _
 refine v8 (b:=max 2 (max a.length c.length)) (k:=2) (.lst (by simp;lia) λx H=>?_) (by decide) ?_
 .rcases List.mem_cons.mp H with rfl|H
  .exact f a (by lia)
  .rw[List.mem_singleton.mp H];exact f c (by lia)
 .rw[PyData.eqv];refine gx λd D=>?_;rcases List.mem_cons.mp D with rfl|D
  .rw[PyData.eqv];exact vi _
  .rw[List.mem_singleton.mp D,PyData.eqv];exact vi _
def Lq(h:Wd G T W)(hi:i < (aH b G T).length){fb:Dl.Env->Δ D}(hw:U ρ=↑(ay G T W))(H:fb ρ=↑(.int (sI b)))(F:fi ρ=↑(nD i)):f2 aw (f2 aw (f2 aw U fb) fi) (fC (.int 0)) ρ=↑(.int (amt b G T i)) :=
 ar (a:=aU (bL b G T i)) (b:=.int 0) rfl (ar (jz (f:=aU) (l:=aH b G T) (gJ hi)) (ar (dX b G T W) hw H) F) rfl
def NZ(p:k < P.length)(hl:P.length<=1000)(H:fp ρ=↑(ae P))(c:fk ρ=↑(nD k)):(f2 aC (f2 aC (fj cn fp e8 (rK fk)) (aF (aa (f2 Dl.gT (f2 aw fp fk) (fC (.int 1))) af))) (fj cn fp (rK (f2 aC fk (fC (.int 1)))) e8)) ρ=↑(ae (KQ P k)):=by
 have e:ae (P.take k)=.tuple ((P.map PyData.int).take k):=by unfold ae;rw[List.map_take]
 have E:ae (P.drop (k+1))=.tuple ((P.map PyData.int).drop (k+1)):=by unfold ae;rw[List.map_drop]
 refine ar (mR (a:=P.take k++[P.getD k 0 - 1]) (b:=P.drop (k+1)) (by simp;lia)) (ar (mR (a:=P.take k) (b:=[P.getD k 0 - 1]) (by simp;lia)) ?_ (AZ (ar (my _ _) (ar (gM p) H c) rfl))) ?_
 .rw[e];exact uq H c
 .rw[E];exact AI H (ar (PP k) c rfl)
def NV(h:Wd G T W)(K:k < W.length)(H:fw ρ=↑(ay G T W))(c:fk ρ=↑(nD k))(d:U ρ=↑(.int ((lW G T W).getD k 0))):(f2 aC (fj cn (f2 aw (f2 aw fw (fC (.int 2))) fk) e8 V6) (aF (aa U af))) ρ=↑(ae (JW G T W k)) :=
 ar (mR (a:=[(aA W k).1,(aA W k).2.1]) (b:=[(lW G T W).getD k 0]) (by simp)) (O7 _ (ar (lY K) (ar (k5 G T W) H rfl) c)) (AZ d)
def MP(h:Wd G T W)(K:k < W.length)(H:fw ρ=↑(ay G T W))(c:fk ρ=↑(nD k))(d:U ρ=↑(.int ((lW G T W).getD k 0))):(f2 aC (f1 sL (f2 aw (f2 aw fw (fC (.int 2))) fk)) (aF (aa U af))) ρ=↑(ae (N0 G T W k)) :=
 ar (mR (a:=[(aA W k).2.1,(aA W k).1]) (b:=[(lW G T W).getD k 0]) (by simp)) (Po _ (ar (lY K) (ar (k5 G T W) H rfl) c)) (AZ d)
def Cd:(BU G T W).length<=W.length:=by
 refine yD (xQ _ _) ?_;rw[zR];exact yN _
def Nx(X:∀w∈W,0<=w.2.2/\w.2.2<=2)(h:Wd G T W):∀w∈tw W,0<=w.2.2/\w.2.2<=2:=λw hw=>by
 have o:=bf h.wp;let⟨k,H,rfl⟩:=List.mem_map.mp hw;exact X (aA W k) (rE (List.mem_range.mp (o.perm.mem_iff.mp H)))
def Gx(h:Wd G T W)(hw:W.length<=4)(hl:(allR G T W).length<=81):jn (.list ((allR G T W).map λP=>ae (tp W P)))=↑((allR T G (tw W)).map ae):=by
 have o:=bf h.wp;have p:=va h;have u:=uR T G (tw W);have n:=p.nodup_iff.mpr u.nd;have e:((allR G T W).map λP=>ae (tp W P))=((allR G T W).map (tp W)).map ae:=by rw[zM];rfl
 rw[e];unfold jn;dsimp only;rw[nY,zA,yM ⟨n,by rw[zD];lia,vn (W:=tw W) (by rw[bD o];exact hw) (λP H=>((oC (o.wd h)).mp (p.mem_iff.mp H)).1.len) n⟩,u.Ra p]
def lB:au->Δ Out:=(av (fF (bT (fB (ah 2 cU (aa (ab 1) (aa (ab 5) af))))) (aK (fC (.bool false))) e9) (dc [5] (bA (aa (bp bE (aa (ab 5) af)) af)) (mr 6) (fF (fU (fB (f2 za (f2 aw (ab 5) (ab 6)) (fC (.int 0)))) (fB (f2 xh (f2 aC (f2 aC (fj cn (ab 5) e8 (rK (ab 6))) (aF (aa (f2 Dl.gT (f2 aw (ab 5) (ab 6)) (fC (.int 1))) af))) (fj cn (ab 5) (rK (f2 aC (ab 6) (fC (.int 1)))) e8)) (ab 4)))) (aK (fC (.bool false))) e9)))
def zq(h:Wd G T W)(e:P∈aY G T W)(d:x6.Ua=x6):∃y,y.Ua=y/\lB [.val d0,.val (ay G T W),.val (.list ((aY G T W).map ae)),.val d3,.val (iM (aY G T W)),.val (ae P),x6,x7,x8,x9,x10,x11]=↑(.nx [.val d0,.val (ay G T W),.val (.list ((aY G T W).map ae)),.val d3,.val (iM (aY G T W)),.val (ae P),y,x7,x8,x9,x10,x11]):=by
 have p:=bB.mp e;have hw:=h.wl;let⟨Y,f,y,Z,rfl⟩:=zd (n:=W.length) (i:=6) (t:=(fU (fB (f2 za (f2 aw (ab 5) (ab 6)) (fC (.int 0)))) (fB (f2 xh (f2 aC (f2 aC (fj cn (ab 5) e8 (rK (ab 6))) (aF (aa (f2 Dl.gT (f2 aw (ab 5) (ab 6)) (fC (.int 1))) af))) (fj cn (ab 5) (rK (f2 aC (ab 6) (fC (.int 1)))) e8)) (ab 4))))) (g:=aK (fC (.bool false))) (R:=λc=>∃x6,x6.Ua=x6/\c=[.val d0,.val (ay G T W),.val (.list ((aY G T W).map ae)),.val d3,.val (iM (aY G T W)),.val (ae P),x6,x7,x8,x9,x10,x11]) (ρ:=[.val d0,.val (ay G T W),.val (.list ((aY G T W).map ae)),.val d3,.val (iM (aY G T W)),.val (ae P),x6,x7,x8,x9,x10,x11])
  (λc j H r=>by
   let⟨x6,_,rfl⟩:=r;have o:j < P.length:=by rw[p.len];exact H
   refine⟨?_,_,rfl,rfl⟩;have a:fB (f2 za (f2 aw (ab 5) (ab 6)) (fC (.int 0))) (aV [.val d0,.val (ay G T W),.val (.list ((aY G T W).map ae)),.val d3,.val (iM (aY G T W)),.val (ae P),.val (nD j),x7,x8,x9,x10,x11])=↑(decide (0 < P.getD j 0)):=bF (ar (fu _ _) (ar (gM o) rfl rfl) rfl);by_cases z:0 < P.getD j 0
   .rw[yA z] at a;have N:=Il (KQ P j) (aY G T W);rw[yA (bB.mpr (Lg p H z))] at N;exact Fu a (bF (ar N (NZ o (by rw[p.len];lia) rfl rfl) rfl))
   .rw[zZ z] at a;exact HU a) ⟨_,d,rfl⟩
 unfold lB;refine⟨y,Z,?_⟩;refine (ai (bU (dQ (b:=true) (bF (call_of (dY h p) rfl rfl))))).trans ?_;exact cM f (qk (n:=W.length) (cons_of ((lT (l:=P) (k:=PyData.int) rfl).trans (by rw[p.len])) rfl) (by lia)) rfl
def main(ns:Γ Int)(hl:ns.length<=63):gZ [.list (ns.map PyData.int)]=↑(.bool true):=by
 let⟨G,T,W,ew,h,F⟩:=xl (ns:=ns) (a:=0) (mo:=4) hl (by lia);have Y:W.length<=4:=by have:=F.wm;lia
 have p:∀w∈W,0<=w.2.2/\w.2.2<=2:=λw hw=>⟨by have:=(h.wr w hw).2.2.1;lia,F.w2 w hw⟩
 let⟨er,L⟩:=jm h p Y;let⟨ea,_⟩:=ka h p (by lia);have RH:=yl (G:=G) (T:=T) p Y;have o:=bf h.wp;have r:=o.wd h;have t:(tw W).length=W.length:=bD o;have y:=Nx p h;let⟨C,_⟩:=jm r y (by rw[t];exact Y);let⟨E,_⟩:=ka r y (by rw[t];lia);have ek:=xn h p Y;have K:=xn r y (by rw[t];exact Y);have B:=di (ns:=ns) 70 2 hl (by lia);obtain⟨b,eb⟩:∃b:θ,dr ns 70 2=sI b:=by
  rcases (by lia:dr ns 70 2=0\/dr ns 70 2=1) with z|z
  .exact⟨false,z⟩
  .exact⟨true,z⟩
 have D:=B.1;rw[eb] at D;have hpb:1<=(aH b G T).length:=by
  cases b
  .exact h.g1
  .exact h.t1
 have V:=di (ns:=ns) 71 (((aH b G T).length:Nat):Int) hl (by lia);obtain⟨i,ei⟩:∃i:Nat,dr ns 71 (((aH b G T).length:Nat):Int)=((i:Nat):Int):=⟨_,(Int.toNat_of_nonneg V.2.1).symm⟩
 rw[ei] at V;have H:i < (aH b G T).length:=by have:=V.2.2;lia
 have O:=di (ns:=ns) 72 4 hl (by lia);have ha0:0<=amt b G T i:=pV h b i;have ha3:amt b G T i<=3:=by
  have:=qC (gJ (b:=b) (G:=G) (T:=T) H);cases b
  .exact F.ga _ this
  .exact F.ta _ this
 generalize dr ns 72 4=v at O;have I:=rP (b:=b) (i:=i) (a:=amt b G T i+v) h H (by lia);let⟨RY,e1,m,x,Z,rfl⟩:=ju (tgt:=mr 5) (gb:=lB) (R:=λ(_:Unit) j=>∃m x,x.Ua=x/\j=[.val (cy ns),.val (ay G T W),.val (.list ((aY G T W).map ae)),.val (.list ((allR G T W).map ae)),.val (iM (aY G T W)),m,x,.QB,.QB,.QB,.QB,.QB]) ae (λs _=>s)
  (l:=aY G T W) (s:=()) (ρ:=[.val (cy ns),.val (ay G T W),.val (.list ((aY G T W).map ae)),.val (.list ((allR G T W).map ae)),.val (iM (aY G T W)),.QB,.QB,.QB,.QB,.QB,.QB,.QB])
  (λ_ j X hX UD=>by
   let⟨m,x,J,rfl⟩:=UD;let⟨y6,Z,e⟩:=zq (d0:=cy ns) (d3:=.list ((allR G T W).map ae)) (x6:=x) (x7:=.QB) (x8:=.QB) (x9:=.QB) (x10:=.QB) (x11:=.QB) h hX J;exact⟨_,_,rfl,e,_,_,Z,rfl⟩) ⟨_,_,rfl,rfl⟩
 refine aE ?_;show (av aaz (av aaA (av aaB (av (fF (nI (fB (f2 hC (ab 2) (bN (λj=>((ab 2) j).bind cT)))) aaC) SF e9) (av aaE (av (Dl.aD 4 [2,5] (f1 pJ YD)) (av (dc [2] V4 (mr 5) lB) (av aaG (av (fF (nI (fB (f2 hC (bN (λj=>(YE j).bind jn)) (ah 1 cA V5))) Xu) SF e9) XC))))))))) [.val (cy ns),.QB,.QB,.QB,.QB,.QB,.QB,.QB,.QB,.QB,.QB,.QB]=_;refine (ai (aX (call_of ew rfl rfl) (call_of ew rfl rfl) rfl)).trans ?_;refine (ai (aX (call_of ea rfl rfl) (call_of ea rfl rfl) rfl)).trans ?_;refine (ai (aX (call_of er rfl rfl) (call_of er rfl rfl) rfl)).trans ?_;have s1:∀j:Dl.Env,ab 2 j=↑(.list ((aY G T W).map ae))->(λj=>((ab 2) j).bind cT) j=↑((aY G T W).map ae):=λj e=>by
  show (ab 2 j).bind cT=_;rw[e,zA,C0 p Y]
 have hz:=CZ (aY G T W) (zs W.length);rw[yA (bB.mpr (MO h))] at hz;refine (ai (bU (F7 (bF (ar ((ll _ _).trans (by rw[yA rfl];rfl)) rfl (cJ (s1 _ rfl)))) (bF (ar hz (ar (NO (n:=W.length) (by lia)) (AZ rfl) (lT (l:=W) (k:=ao) (ar (k5 _ _ _) rfl rfl))) rfl))))).trans ?_;have c1:=fA (cs:=[1]) (fi:=aM (ab 2)) (tt:=aaD) (te:=ab 0) (ρ:=aV [.val (cy ns),.val (ay G T W),.val (.list ((aY G T W).map ae)),.val (.list ((allR G T W).map ae)),.QB,.QB,.QB,.QB,.QB,.QB,.QB,.QB]) (l:=aY G T W) (g:=ae) (f:=ae) (q:=λP=>decide (vz G T W P=[])) rfl (by lia) λP u=>⟨bF (call_of (Ij h (bB.mp u)) rfl rfl),λ_=>rfl⟩
 refine (ai (bU (bF (ar ((ll (allR G T W) (allR G T W)).trans (by rw[yA rfl];rfl)) rfl (cJ c1))))).trans ?_;have Q:∀j:Dl.Env,ab 2 j=↑(.list ((aY G T W).map ae))->(f1 pJ YD) j=↑(iM (aY G T W)):=λj e=>by
  have:=fA (cs:=[]) (fi:=aM (ab 2)) (tt:=λ_=>↑true) (te:=aaF) (ρ:=j) (l:=aY G T W) (g:=ae) (f:=λP=>.tuple [ae P,.bool true]) (q:=λ_=>true) (Hf e) (by lia) λP u=>⟨rfl,λ_=>tup_is (ds:=[ae P,.bool true]) rfl (by simp)⟩
  rw[mQ] at this;exact JL (GE (iA G T W).nd (by lia)) (cJ this)
 refine (ai (aX (Q _ rfl) (Q _ rfl) rfl)).trans ?_;refine (ai (cM e1 rfl rfl)).trans ?_;refine (ai (aX (call_of (yv h) rfl rfl) (call_of (yv h) rfl rfl) rfl)).trans ?_;have S:=fA (cs:=[1]) (fi:=aM (ab 3)) (tt:=λ_=>↑true) (te:=aaH) (ρ:=aV [.val (cy ns),.val (ay G T W),.val (.list ((aY G T W).map ae)),.val (.list ((allR G T W).map ae)),.val (iM (aY G T W)),m,x,.val (ay T G (tw W)),.QB,.QB,.QB,.QB]) (l:=allR G T W) (g:=ae) (f:=λP=>ae (tp W P)) (q:=λ_=>true) rfl (by lia) λP u=>⟨rfl,λ_=>call_of (rQ h ((oC h).mp u).1) rfl rfl⟩
 rw[mQ] at S;have s3:(λj=>(YE j).bind jn) (aV [.val (cy ns),.val (ay G T W),.val (.list ((aY G T W).map ae)),.val (.list ((allR G T W).map ae)),.val (iM (aY G T W)),m,x,.val (ay T G (tw W)),.QB,.QB,.QB,.QB])=↑((allR T G (tw W)).map ae):=by
  show ((bN _) _).bind jn=_;rw[cJ S,zA,Gx h Y L]
 refine (ai (bU (F7 (bF (ar ((ll _ _).trans (by rw[yA rfl];rfl)) (cJ s3) (call_of C rfl rfl))) (bF (ar (GY (((aY G T W).length:Nat):Int)) ?_ ?_))))).trans ?_
 .refine (oe (d:=.list ((aY T G (tw W)).map ae)) (call_of E rfl rfl)).trans ?_;show some (PyData.int (((aY T G (tw W)).map ae).length:Nat))=_;rw[zD,<- (Im h).length_eq,zD]
 .rw[oe (d:=.list ((aY G T W).map ae)) rfl];show some (PyData.int (((aY G T W).map ae).length:Nat))=_;rw[zD]
 have J:hand [1,6] 0 [.val (cy ns),.val (ay G T W),.val (.list ((aY G T W).map ae)),.val (.list ((allR G T W).map ae)),.val (iM (aY G T W)),m,x,.val (ay T G (tw W)),.QB,.QB,.QB,.QB]=[.val (cy ns),.val (ay G T W),.val (.list ((aY G T W).map ae)),.val (.list ((allR G T W).map ae)),.val (iM (aY G T W)),m,x,.val (ay T G (tw W)),.QB,.QB,.QB,.QB]:=by
  show [.val (cy ns),.val (ay G T W),.val (.list ((aY G T W).map ae)),.val (.list ((allR G T W).map ae)),.val (iM (aY G T W)),m,x.Ua,.val (ay T G (tw W)),.QB,.QB,.QB,.QB]=_;rw[Z]
 refine (ai (o8 J (qc (ig ek rfl rfl) (yD Cd (by lia)) (λi _=>List.cons_ne_nil _ _) λi H=>NV h (l7 H) rfl rfl rfl))).trans ?_;refine (ai (bU (bF (ar ((ll (Ra ((BU G T W).map (JW G T W))) (Ra ((BU T G (tw W)).map (N0 T G (tw W))))).trans (by rw[yA (Lf (M6 h)).symm];rfl)) rfl (cJ (qc (ig K rfl rfl) (yD Cd (by rw[t];lia)) (λi _=>List.cons_ne_nil _ _) λi H=>MP r (l7 H) rfl rfl rfl)))))).trans ?_;have et:=nc r;rw[show iU false T G (tw W) (gu T G (tw W))=_ from Bl h true,show iU true T G (tw W) (gu T G (tw W))=_ from Bl h false] at et;refine (ai (bU (bF (ar (Em _ _) (call_of et rfl rfl) (JL (d:=.tuple [ae (iU false G T W (gu G T W)),ae (iU true G T W (gu G T W))]) rfl (call_of (nc h) rfl rfl)))))).trans ?_;have U:=fA (cs:=[7]) (fi:=Xw) (tt:=λ_=>↑true) (te:=Xx) (ρ:=aV [.val (cy ns),.val (ay G T W),.val (.list ((aY G T W).map ae)),.val (.list ((allR G T W).map ae)),.val (iM (aY G T W)),m,x,.val (ay T G (tw W)),.own ((Ra ((BU G T W).map (JW G T W))).map ae),.QB,.QB,.QB]) (l:=[true,false]) (g:=λc=>.int (sI c)) (f:=λc=>.list ((shr c T G (tw W)).map nD)) (q:=λ_=>true) rfl (by decide) λc _=>⟨rfl,λ_=>call_of (vd r c) rfl rfl⟩
 rw[mQ,zI,zI,yV,show shr true T G (tw W)=_ from Eb h false,show shr false T G (tw W)=_ from Eb h true] at U;refine (ai (bU (bF (ar (HD _ _) (cJ U) (cJ (uD (cons_of (call_of (vd h false) rfl rfl) (cons_of (call_of (vd h true) rfl rfl) rfl)) (by simp))))))).trans ?_;refine (ai (aX (call_of D rfl rfl) (call_of D rfl rfl) rfl)).trans ?_;have ls:∀j:Dl.Env,ab 1 j=↑(ay G T W)->ab 9 j=↑(.int (sI b))->Xz j=↑(nD (aH b G T).length):=λj a c=>lT (l:=aH b G T) (k:=aU) (ar (dX b G T W) a c);refine (ai (aX (call_of V.1 (cons_of rfl (cons_of rfl (cons_of (ls _ rfl rfl) rfl))) rfl) (call_of V.1 (cons_of rfl (cons_of rfl (cons_of (ls _ rfl rfl) rfl))) rfl) rfl)).trans ?_;have em:∀j:Dl.Env,ab 0 j=↑(cy ns)->ab 1 j=↑(ay G T W)->ab 9 j=↑(.int (sI b))->ab 10 j=↑(nD i)->XA j=↑(N9 b G T W i (amt b G T i+v)):=λj a0 M N A=>call_of I (cons_of M (cons_of N (cons_of A (cons_of (ar (eE _ _) (Lq h H M N A) (call_of O.1 (cons_of a0 rfl) rfl)) rfl)))) rfl;refine (ai (aX (em _ rfl rfl rfl rfl) (em _ rfl rfl rfl rfl) rfl)).trans ?_;have c5:=fA (cs:=[11]) (fi:=aM (ab 2)) (tt:=XB) (te:=ab 0) (ρ:=aV [.val (cy ns),.val (ay G T W),.val (.list ((aY G T W).map ae)),.val (.list ((allR G T W).map ae)),.val (iM (aY G T W)),m,x,.val (ay T G (tw W)),.own ((Ra ((BU G T W).map (JW G T W))).map ae),.val (.int (sI b)),.val (nD i),.val (N9 b G T W i (amt b G T i+v))]) (l:=aY G T W) (g:=ae) (f:=ae) (q:=λ_=>false) rfl (by lia) λP u=>⟨dQ (b:=true) (bF (call_of (FN h (bB.mp u) H (by lia) (by lia)) rfl rfl)),λz=>by cases z⟩
 rw[show (aY G T W).filter (λ_=>false)=[] by simp] at c5;exact aJ (ar (zh []) (cJ c5) (nil_of _))
end
end K33M
end Wm
namespace K33
open PySem L2 Dl PySem.Spec PyProof.Rows Pg Hd PySem.W Rg0
def main(ns:Γ Int)(h:ns.length<=63):gZ [.list (ns.map PyData.int)]=↑(.bool true):=Wm.K33M.main ns h
def ins(P:Params){h:ι}{m:Str->Δ Θ}(X:(Kf P).In h)(G:h.Ns mainGlobals m):LN (Kf P) m:=⟨λ_ _ _=>by
 have B:∀x∈dq,m x=none:=λx H=>mg_none_of X G (Dl.K6 (by kernel_rfl) x H);refine on (top 65) (f3 388 387 GR) ?_;refine on (top 64) (f3 383 382 GR) ?_;refine on (top 63) (f3 376 375 GR) ?_;refine on (top 62) (f2 369 368 GR) ?_;refine on (top 60) (f4 362 361 On) ?_;refine on (top 59) (f5 355 354 On) ?_;refine on (top 57) (f2 348 347 vh) ?_;refine on (top 56) (f1 343 342 vh) ?_;refine on (top 55) (f3 336 335 vh) ?_;refine on (top 54) (f1 331 330 vh) ?_;refine on (top 53) (f2 326 325 vh) ?_;refine on (top 52) (f1 321 320 vh) ?_;refine on (top 51) (f1 316 315 vh) ?_;refine on (top 50) (f1 311 310 vh) ?_;refine on (top 49) (f1 306 305 vh) ?_;refine on (top 46) (f1 299 298 B6) ?_;refine on (top 45) (f2 292 291 B6) ?_;refine on (top 44) (f1 285 284 B6) ?_;refine on (top 43) (f2 278 277 B6) ?_;refine on (top 42) (f3 271 270 B6) ?_;refine on (top 41) (f1 264 263 B6) ?_;refine on (top 40) (f3 259 258 B6) ?_;refine on (top 38) (f2 254 253 Bq) ?_;refine on (top 37) (f2 247 246 Bq) ?_;refine on (top 36) (f2 240 239 Bq) ?_;refine on (top 35) (f3 233 232 Bq) ?_;refine on (top 34) (f4 226 225 Bq) ?_;refine on (top 33) (f4 221 220 Bq) ?_;refine ol (top 32) CF "ways_of.<locals>.<lambda>" (l3 216 215 Bq) ?_;refine on (top 30) (f2 211 210 gC) ?_;refine on (top 29) (f1 206 205 gC) ?_;refine ol (top 28) rl "turned_order.<locals>.<lambda>" (l1 201 200 gC) ?_;refine on (top 27) (f3 194 193 gC) ?_;refine on (top 26) (f3 187 186 gC) ?_;refine on (top 25) (f1 180 179 gC) ?_;refine on (top 24) (f2 173 172 gC) ?_;refine on (top 23) (f3 166 165 gC) ?_;refine on (top 22) (f2 159 158 gC) ?_;refine on (top 21) (f1 152 151 gC) ?_;refine on (top 20) (f2 145 144 gC) ?_;refine on (top 19) (f3 140 139 gC) ?_;refine on (top 18) (f4 135 134 gC) ?_;refine on (top 17) (f1 130 129 gC) ?_;refine on (top 16) (f1 125 124 gC) ?_;refine on (top 15) (f3 120 119 gC) ?_;refine on (top 14) (f3 115 114 gC) ?_;refine on (top 13) (f2 108 107 gC) ?_;refine on (top 12) (f2 101 100 gC) ?_;refine on (top 11) (f3 96 95 gC) ?_;refine on (top 10) (f2 89 88 gC) ?_;refine on (top 9) (f3 82 81 gC) ?_;exact⟨Rf.OQ,(Rf.Et ⟨273,mg_of X G (by kernel_rfl)⟩ (Rf.Et ⟨275,mg_of X G (by kernel_rfl)⟩ (Rf.Et ⟨558,mg_of X G (by kernel_rfl)⟩ Rf.Pf))),B,⟨_,X,G⟩⟩,ja.mg (f1 393 392 GR) X G⟩
def Qq(w:δ):nv (Kf w.params) [196,213]=true:=by kernel_rfl
end K33
open PySem PySem.W PyProof.Rows
theorem PySem.Challenge.cw_stillflow_k33_whole_lists_holds : PySem.Challenge.rw_stillflow_k33_whole_lists.Holds := by
 refine holds_law K33.OO λk1=>?_
 refine holds_open (XP:=XL K33.vw []) (YP:=K33.hk.says) K33.left K33.hk.of K33.hk.keeps (λs e=>xl_of s (Bool.and_eq_true_iff.mp e).1) XL.keeps (by rfl) (by rfl) (by rfl) (λs e=>recFacts_of (Bool.and_eq_true_iff.mp e).2) (by rfl) k1 (by decide +kernel) ⟨rfl,rfl,rfl,rfl,rfl,by decide +kernel⟩ ?hw ?hc
 case hw=>w_witness2
 case hc=>exact K33.walk (l:=PySem.Challenge.rw_stillflow_k33_whole_lists) (K:=K33.Kf) (ts:=[196,213]) rfl rfl rfl (λw h Y=>⟨Y.1,Y.2⟩) K33.Qq (λw=>K33.ins w.params) K33.main
