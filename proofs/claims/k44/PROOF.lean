import PyProof.Rows.All
import Wide.All
import OpenK.AllK
import Wide.FinOn
import PyProof.EqAt
import PyProof.EqKinds
import PyProof.TupleCall
import Lean
import PySem.SetTable
import PyProof.Draws
import PyProof.ListRange
import KE.KIsAll
import PySem.Challenge.RW_stillflow_k44_whole_walks
set_option Elab.async false
set_option linter.all false
set_option maxRecDepth 100000
set_option maxHeartbeats 4000000
abbrev _root_.zA:=@Option.bind_some
abbrev _root_.zC:=@Option.map_some
abbrev _root_.zD:=@List.mem_cons_of_mem
abbrev _root_.zE:=@List.length_map
abbrev _root_.zF:=@List.mem_cons_self
abbrev _root_.zG:=@Bool.and_eq_true
abbrev _root_.zH:=@List.getD_eq_getElem?_getD
abbrev _root_.zI:=@List.size_toArray
abbrev _root_.zJ:=@List.map_cons
abbrev _root_.zK:=@decide_eq_true_eq
abbrev _root_.zL:=@List.getElem?_eq_getElem
abbrev _root_.zM:=@List.length_cons
abbrev _root_.zN:=@List.map_map
abbrev _root_.zO:=@List.length_append
abbrev _root_.zP:=@List.getElem?_map
abbrev _root_.zQ:=@Nat.lt_of_lt_of_le
abbrev _root_.zR:=@List.mem_cons
abbrev _root_.zS:=@List.length_range
abbrev _root_.zT:=@List.mem_range
abbrev _root_.zU:=@List.getElem?_eq_some_iff
abbrev _root_.zV:=@PySem.Heap.get?_push_of_some
abbrev _root_.zW:=@PySem.wpAny_bind
abbrev _root_.zX:=@PySem.wpAny_pure
abbrev _root_.zY:=@PySem.Heap.get?_push_size
abbrev _root_.zZ:=@PySem.Heap.lt_size
abbrev _root_.yA:=@decide_eq_false
abbrev _root_.yB:=@decide_eq_true
abbrev _root_.yC:=@List.lookup_cons
abbrev _root_.yD:=@List.length_set
abbrev _root_.yE:=@Nat.le_trans
abbrev _root_.yF:=@List.mem_append_right
abbrev _root_.yG:=@List.not_mem_nil
abbrev _root_.yH:=@Int.toNat_natCast
abbrev _root_.yI:=@List.map_congr_left
abbrev _root_.yJ:=@List.foldl_cons
abbrev _root_.yK:=@List.mem_singleton
abbrev _root_.yL:=@Option.some.injEq
abbrev _root_.yM:=@if_pos
abbrev _root_.yN:=@Nat.le_refl
abbrev _root_.yO:=@if_neg
abbrev _root_.yP:=@Bool.false_eq_true
abbrev _root_.yQ:=@Bool.not_eq_true'
abbrev _root_.yR:=@of_decide_eq_true
abbrev _root_.yS:=@Nat.ne_of_lt
abbrev _root_.yT:=@List.getElem?_append_left
abbrev _root_.yU:=@List.getElem?_append_right
abbrev _root_.yV:=@List.map_nil
abbrev _root_.yW:=@List.set_cons_zero
abbrev _root_.yX:=@List.set_cons_succ
abbrev _root_.yY:=@List.getElem?_replicate
abbrev _root_.yZ:=@List.getElem?_cons_succ
abbrev _root_.xA:=@Bool.false_ne_true
abbrev _root_.xB:=@PySem.wpAny_mono
abbrev _root_.xC:=@decide_eq_false_iff_not
abbrev _root_.xD:=@List.length_singleton
abbrev _root_.xE:=@Option.some.inj
abbrev _root_.xF:=@List.replicate_succ
abbrev _root_.xG:=@List.cons_append
abbrev _root_.xH:=@List.all_eq_true
abbrev _root_.xI:=@if_true
abbrev _root_.xJ:=@List.getElem?_set
abbrev _root_.xK:=@PySem.Heap.size_push
abbrev _root_.xM:=@List.length_nil
abbrev _root_.xN:=@List.length_replicate
abbrev _root_.xO:=@PySem.Heap.get?_update_other
abbrev _root_.xP:=@List.nil_append
abbrev _root_.xQ:=@List.length_filter_le
abbrev _root_.xR:=@List.getElem?_cons_zero
abbrev _root_.xS:=@PySem.wpAny_pyIter_tuple
abbrev _root_.xU:=@List.all_cons
abbrev _root_.xV:=@or_false
abbrev _root_.xW:=@Nat.zero_le
abbrev _root_.xX:=@PySem.wpAny_truthy_bool
abbrev _root_.xY:=@PySem.wpAny_holding
abbrev _root_.xZ:=@Bool.not_true
abbrev _root_.qA:=@Int.le_refl
abbrev _root_.qB:=@List.getElem_mem
abbrev _root_.qC:=@List.mem_of_getElem?
abbrev _root_.qD:=@PySem.wpAny_callSpecial?_slot
abbrev _root_.qE:=@Array.getD_eq_getD_getElem?
abbrev _root_.qF:=@Nat.lt_irrefl
abbrev _root_.qG:=@List.append_nil
abbrev _root_.qH:=@Option.getD_some
abbrev _root_.qJ:=@List.length_drop
abbrev _root_.qK:=@List.mem_append_left
abbrev _root_.qL:=@PySem.wpAny_pyIter_list
abbrev _root_.qM:=@PySem.wpAny_newObj_type
abbrev _root_.qN:=@List.flatten_cons
abbrev _root_.qP:=@PySem.F.plainAttrs_list
abbrev _root_.qQ:=@if_false
abbrev _root_.qS:=@List.getElem_of_mem
abbrev _root_.qT:=@PyProof.Rows.callWith_type1
abbrev _root_.qU:=@PySem.wpAny_field
abbrev _root_.qV:=@PySem.sizeLine_eq
abbrev _root_.qX:=@PySem.wpAny_call_entry
abbrev _root_.qY:=@PySem.call_meets
abbrev _root_.qZ:=@PySem.wpAny_Call_Name_kw
abbrev _root_.jA:=@Nat.lt_of_le_of_lt
abbrev _root_.jB:=@List.map_append
abbrev _root_.jC:=@Bool.or_eq_true
abbrev _root_.jD:=@congrArg
abbrev _root_.jE:=@Nat.zero_add
abbrev _root_.jF:=@List.pairwise_map
abbrev _root_.jG:=@PyProof.Rows.slot_tuple_getitem
abbrev _root_.jH:=@List.filterMap_cons
abbrev _root_.jI:=@List.ext_getElem
abbrev _root_.jJ:=@Nat.ne_of_gt
abbrev _root_.jK:=@PySem.wpAny_passesOwn
abbrev _root_.jL:=@Bool.true_and
abbrev _root_.jM:=@List.getElem?_eq_none
abbrev _root_.jN:=@Ne.symm
abbrev _root_.jO:=@Nat.lt_succ_of_lt
abbrev _root_.jP:=@and_self
abbrev _root_.jQ:=@decide_true
abbrev _root_.jR:=@PySem.F.slot_tuple_iterator_next
abbrev _root_.jS:=@PySem.codeAny_mono
abbrev _root_.jT:=@Nat.le_of_lt
abbrev _root_.jU:=@Int.le_trans
abbrev _root_.jV:=@Nat.le_add_right
abbrev _root_.jW:=@List.length_take
abbrev _root_.jX:=@List.filter_cons
abbrev _root_.jY:=@Array.getElem?_eq_getElem
abbrev _root_.jZ:=@PySem.mem_of_lookup
abbrev _root_.kA:=@PyProof.Rows.listUpdate_at
abbrev _root_.kC:=@PyProof.Rows.get?_update_seq
abbrev _root_.kE:=@PySem.codeAny_builtin
abbrev _root_.kF:=@List.filter_map
abbrev _root_.kG:=@PySem.wpAny_seqItems
abbrev _root_.kH:=@PySem.SeqAt.canLay_of_shaped
abbrev _root_.kJ:=@List.take_of_length_le
abbrev _root_.kK:=@List.find?_cons_of_neg
abbrev _root_.kL:=@List.findIdx_lt_length_of_exists
abbrev _root_.kM:=@Option.getD_none
abbrev _root_.kN:=@Nat.lt_succ_self
abbrev _root_.kO:=@PySem.wpAny_newList
abbrev _root_.kP:=@PySem.wpAny_attempt
abbrev _root_.kR:=@List.getElem?_set_ne
abbrev _root_.kU:=@List.nodup_cons
abbrev _root_.kW:=@List.cons.injEq
abbrev _root_.kX:=@PySem.wpAny_setField_rec
abbrev _root_.kY:=@Int.emod_lt_of_pos
abbrev _root_.kZ:=@List.drop_eq_getElem_cons
abbrev _root_.vA:=@List.findIdx_cons
abbrev _root_.vB:=@PySem.wpAny_standAt
abbrev _root_.vC:=@List.any_cons
abbrev _root_.vD:=@PySem.F.args_tuple_add_2
abbrev _root_.vE:=@List.range'_succ
abbrev _root_.vF:=@PySem.F.entry_tuple_add
abbrev _root_.vG:=@List.pairwise_singleton
abbrev _root_.vH:=@Int.eq_ofNat_of_zero_le
abbrev _root_.vI:=@PyProof.Rows.listItems_at
abbrev _root_.vJ:=@PySem.F.slot_tuple_add
abbrev _root_.vK:=@List.range_succ_eq_map
abbrev _root_.vL:=@List.getElem?_set_self
abbrev _root_.vM:=@List.find?_cons_of_pos
abbrev _root_.vN:=@PySem.wpAny_execs_nil
abbrev _root_.vO:=@Nat.not_lt_zero
abbrev _root_.vP:=@List.range_succ
abbrev _root_.vQ:=@List.of_mem_zip
abbrev _root_.vR:=@Int.emod_nonneg
abbrev _root_.vS:=@PySem.F.slot_zip_next
abbrev _root_.vT:=@List.getElem?_toArray
abbrev _root_.vU:=@Nat.mul_le_mul
abbrev _root_.vV:=@Bool.false_and
abbrev _root_.vW:=@List.mem_of_mem_drop
abbrev _root_.vX:=@List.getD_cons_zero
abbrev _root_.vY:=@List.getD_cons_succ
abbrev _root_.vZ:=@Array.length_toList
abbrev _root_.wA:=@PySem.wpAny_rule
abbrev _root_.wC:=@List.find?_eq_none
abbrev _root_.wD:=@PySem.F.args_tuple_mul_2
abbrev _root_.wF:=@PySem.Code.quiet_builtin
abbrev _root_.wG:=@PySem.wpAny_typeOf
abbrev _root_.wH:=@decide_false
abbrev _root_.wI:=@PySem.concat_meets
abbrev _root_.wJ:=@Nat.lt_trans
abbrev _root_.wK:=@List.any_map
abbrev _root_.wL:=@PySem.wpAny_pyIter_enum
abbrev _root_.wM:=@List.nodup_append
abbrev _root_.wN:=@Function.comp_def
abbrev _root_.wQ:=@PySem.F.entry_tuple_mul
local macro_rules|`(tactic|simp?[$t,*] $[$l:location]?)=>`(tactic|simp only[$t,*] $[$l]?)
local macro_rules|`(tactic|let ⟨$a,*⟩:=$e)=>do
 let rec f(n:Nat)(t:Lean.Syntax):Lean.MacroM (Lean.TSyntax `rcasesPat):=match n with
 |0=>Lean.Macro.throwUnsupported
 |n+1=>match t with
  |`(⟨$b,*⟩)=>do
    let c<-b.getElems.mapM fun x=>do `(Lean.Parser.Tactic.rcasesPatLo|$(<-f n x):rcasesPat)
    `(rcasesPat|⟨$c,*⟩)
  |`($x:ident)=>`(rcasesPat|$x:ident)
  |_=>`(rcasesPat|_)
 `(tactic|obtain $(<-f 9 (<-`(⟨$a,*⟩))):rcasesPat:=$e)
local macro_rules|`(tactic|lia)=>`(tactic|omega)
local macro_rules|`(def $i:declId $s:optDeclSig $v:declVal)=>`(noncomputable def $i:declId $s:optDeclSig $v:declVal)
local macro_rules|`(abbrev $i:declId $s:optDeclSig $v:declVal)=>`(noncomputable abbrev $i:declId $s:optDeclSig $v:declVal)
namespace L2
open PySem
def gF(s:Stmt):Arguments:=match s with
 | .FunctionDef _ a _ _ _ _ _ _ _ _=>a
 | _=>{ posonlyargs:=[],args:=[],vararg:=none,kwonlyargs:=[],kw_defaults:=[],kwarg:=none,defaults:=[] }
def b8(s:Stmt):List Stmt:=match s with
 | .FunctionDef _ _ b _ _ _ _ _ _ _=>b
 | _=>[]
def aF(s:Stmt):Scope:=match s with
 | .FunctionDef _ _ _ _ _ _ sc _ _ _=>sc
 | _=>{ kind:=.function,names:=[],isGenerator:=false,isCoroutine:=false }
end L2
namespace Hd
open PySem L2 PySem.Spec PyProof.Rows
def en(P:Params)(x:String)(t:Nat)(v:Value):DictEntry:=⟨PyData.keyHash P (Str.ofString x),.str (Str.ofString x) t,v⟩
def fo(x:Str)(st:Stmt)(pm:Value)(c:Addr):Obj:=⟨.type "function",none,.func (W.fnOf x x (gF st) (b8 st) (aF st) .none .none .none pm none (.ref c) .none),#[]⟩
def co(vs:List Value):Obj:=⟨.type "code",none,.fields vs.toArray,#[]⟩
def MZ(n:Nat):Value:=if n=0 then .none else .ref n
def iL(x:Str)(t l n a b c d e f u:Nat):Obj:=co [.str x t,.str x (t+1),.str "/claim/cut.py" (t+2),.int l 0,.int n 0,.int 0 0,.int 0 0,.int 3 0,MZ a,.bool true,.int 181 0,MZ b,MZ c,MZ d,MZ e,MZ f,.int u 0,.int l 0,.str "/claim/cut.py" (u+1)]
def Ma{S A B C D E F J O:Type}{x:Option S}{f:S->A×B×C×D×E×F×J}{o:S->O}{g:A×B×C×D×E×F×J}{v:O}(h0:x.map (λs=>(f s).1)=some g.1)(h1:x.map (λs=>(f s).2.1)=some g.2.1)(h2:x.map (λs=>(f s).2.2.1)=some g.2.2.1)(h3:x.map (λs=>((f s).2.2.2.1,(f s).2.2.2.2.1))=some (g.2.2.2.1,g.2.2.2.2.1))(h4:x.map (λs=>(f s).2.2.2.2.2.1)=some g.2.2.2.2.2.1)(h5:x.map (λs=>(f s).2.2.2.2.2.2)=some g.2.2.2.2.2.2)(h6:x.map o=some v):x.map (λs=>(f s,o s))=some (g,v):=by
 let⟨a,b,c,d,e,i,j⟩:=g;cases x with
 | none=>cases h0
 | some s =>
  simp?[zC,yL,Prod.mk.injEq] at h0 h1 h2 h3 h4 h5 h6 ⊢;refine⟨?_,h6⟩;generalize f s=t at *;let⟨a',b',c',d',e',i',j'⟩:=t;dsimp only at *;let⟨h3,h3'⟩:=h3;subst h0 h1 h2 h3 h3' h4 h5;rfl
end Hd
namespace K44
open PySem L2 PySem.Spec PyProof.Rows Hd PySem.W
abbrev top(i:Nat):Stmt:=PySem.Challenge.pw_stillflow_k44_whole_walks.main.body.getD i (.Pass ⟨0,0,0,0⟩)
def vw:Program:=W.view PySem.Challenge.pw_stillflow_k44_whole_walks [1,2,3,4,6,7,8,9,10,11,12,13,14,15,16,17,18,19,20,21,22,23,24,26,27,28,29,30,31,32,34,35,36,37,38,40,41,42,43,44,45,46,47,48,49]
def kj:Value:=(.str "stillflow.worlds" 255)
def BL:Value:=(.str "stillflow.flows" 387)
def Hi:Value:=(.str "stillflow.walks" 441)
def sD:Value:=(.str "law_stillflow_k44_whole_walks" 491)
def Kf(P:Params):W.Frag:=[(3,⟨.type "dict",none,.dict #[en P "__name__" 165 (.str "law_stillflow_k44_whole_walks" 491),en P "__doc__" 166 .none,en P "__package__" 167 .none,en P "__loader__" 168 (.builtin "__main__.__loader__#opaque"),en P "__spec__" 169 .none,en P "__annotations__" 170 (.ref 6),en P "__builtins__" 171 (.ref 4),en P "__file__" 173 (.str "/claim/cut.py" 172),en P "__cached__" 174 .none,en P "FlowError" 206 (.ref 24),en P "NoWorld" 222 (.ref 37),en P "NoPlan" 238 (.ref 49),en P "NoPlace" 254 (.ref 61),en P "MOST_PLACES" 258 (.int 4 257),en P "MOST" 260 (.int 9 259),en P "is_whole" 269 (.ref 70),en P "is_number" 277 (.ref 77),en P "is_long" 286 (.ref 84),en P "are_likes" 292 (.ref 89),en P "is_end" 300 (.ref 96),en P "is_way" 309 (.ref 103),en P "are_parts" 315 (.ref 108),en P "liked_pairs" 321 (.ref 113),en P "is_world" 327 (.ref 118),en P "through" 333 (.ref 123),en P "keeps_amounts" 339 (.ref 128),en P "is_plan" 345 (.ref 133),en P "check_world" 352 (.ref 140),en P "check_plan" 360 (.ref 147),en P "check_whole" 369 (.ref 154),en P "check_number" 377 (.ref 161),en P "replaced" 386 (.ref 168),en P "ways_of" 394 (.ref 173),en P "wants_more" 400 (.ref 178),en P "why_kept" 409 (.ref 185),en P "first_leaving" 418 (.ref 192),en P "is_still" 426 (.ref 199),en P "leaving" 432 (.ref 204),en P "rests" 440 (.ref 211),en P "least_liked_used" 448 (.ref 216),en P "pushed_on" 461 (.ref 223),en P "pushed" 470 (.ref 230),en P "walk" 482 (.ref 237),en P "comes_to_rest" 490 (.ref 244),en P "_law_cell" 500 (.ref 251),en P "_law_drawn" 510 (.ref 258),en P "_law_orders" 525 (.ref 265),en P "_law_world" 531 (.ref 270),en P "_law_used" 537 (.ref 275),en P "_law_fits" 548 (.ref 282),en P "_law_plan" 562 (.ref 289),en P "_law_better" 568 (.ref 294),en P "_law_turns" 574 (.ref 299),en P "law" 590 (.ref 306)] 54,#[]⟩),
 (69,iL "is_whole" 261 13 3 64 65 0 66 67 68 267),
 (70,fo "is_whole" (top 8) kj 69),
 (76,iL "is_number" 270 17 2 71 72 0 73 74 75 275),
 (77,fo "is_number" (top 9) kj 76),
 (83,iL "is_long" 278 19 3 78 79 0 80 81 82 284),
 (84,fo "is_long" (top 10) kj 83),
 (88,iL "are_likes" 287 21 2 85 86 0 0 0 87 290),
 (89,fo "are_likes" (top 11) kj 88),
 (95,iL "is_end" 293 27 2 90 91 0 92 93 94 298),
 (96,fo "is_end" (top 12) kj 95),
 (102,iL "is_way" 301 29 3 97 98 0 99 100 101 307),
 (103,fo "is_way" (top 13) kj 102),
 (107,iL "are_parts" 310 33 3 104 105 0 0 0 106 313),
 (108,fo "are_parts" (top 14) kj 107),
 (112,iL "liked_pairs" 316 41 1 109 110 0 0 0 111 319),
 (113,fo "liked_pairs" (top 15) kj 112),
 (117,iL "is_world" 322 46 1 114 115 0 0 0 116 325),
 (118,fo "is_world" (top 16) kj 117),
 (122,iL "through" 328 53 4 119 120 0 0 0 121 331),
 (123,fo "through" (top 17) kj 122),
 (127,iL "keeps_amounts" 334 55 3 124 125 0 0 0 126 337),
 (128,fo "keeps_amounts" (top 18) kj 127),
 (132,iL "is_plan" 340 57 2 129 130 0 0 0 131 343),
 (133,fo "is_plan" (top 19) kj 132),
 (139,iL "check_world" 346 64 1 134 135 0 136 137 138 350),
 (140,fo "check_world" (top 20) kj 139),
 (146,iL "check_plan" 353 67 2 141 142 0 143 144 145 358),
 (147,fo "check_plan" (top 21) kj 146),
 (153,iL "check_whole" 361 71 3 148 149 0 150 151 152 367),
 (154,fo "check_whole" (top 22) kj 153),
 (160,iL "check_number" 370 74 2 155 156 0 157 158 159 375),
 (161,fo "check_number" (top 23) kj 160),
 (167,iL "replaced" 378 76 3 162 163 0 164 165 166 384),
 (168,fo "replaced" (top 24) kj 167),
 (172,iL "ways_of" 389 79 3 169 170 0 0 0 171 392),
 (173,fo "ways_of" (top 26) BL 172),
 (177,iL "wants_more" 395 84 4 174 175 0 0 0 176 398),
 (178,fo "wants_more" (top 27) BL 177),
 (184,iL "why_kept" 401 91 3 179 180 0 181 182 183 407),
 (185,fo "why_kept" (top 28) BL 184),
 (191,iL "first_leaving" 410 99 2 186 187 0 188 189 190 416),
 (192,fo "first_leaving" (top 29) BL 191),
 (198,iL "is_still" 419 104 2 193 194 0 195 196 197 424),
 (199,fo "is_still" (top 30) BL 198),
 (203,iL "leaving" 427 106 2 200 201 0 0 0 202 430),
 (204,fo "leaving" (top 31) BL 203),
 (210,iL "rests" 433 109 2 205 206 0 207 208 209 438),
 (211,fo "rests" (top 32) BL 210),
 (215,iL "least_liked_used" 443 113 4 212 213 0 0 0 214 446),
 (216,fo "least_liked_used" (top 34) Hi 215),
 (222,iL "pushed_on" 449 115 3 217 218 0 219 220 221 459),
 (223,fo "pushed_on" (top 35) Hi 222),
 (229,iL "pushed" 462 123 3 224 225 0 226 227 228 468),
 (230,fo "pushed" (top 36) Hi 229),
 (236,iL "walk" 471 129 2 231 232 0 233 234 235 480),
 (237,fo "walk" (top 37) Hi 236),
 (243,iL "comes_to_rest" 483 142 2 238 239 0 240 241 242 488),
 (244,fo "comes_to_rest" (top 38) Hi 243),
 (250,iL "_law_cell" 493 145 2 245 246 0 247 248 249 498),
 (251,fo "_law_cell" (top 40) sD 250),
 (257,iL "_law_drawn" 501 149 3 252 253 0 254 255 256 508),
 (258,fo "_law_drawn" (top 41) sD 257),
 (264,iL "_law_orders" 511 153 3 259 260 0 261 262 263 523),
 (265,fo "_law_orders" (top 42) sD 264),
 (269,iL "_law_world" 526 161 3 266 267 0 0 0 268 529),
 (270,fo "_law_world" (top 43) sD 269),
 (274,iL "_law_used" 532 177 4 271 272 0 0 0 273 535),
 (275,fo "_law_used" (top 44) sD 274),
 (281,iL "_law_fits" 538 179 2 276 277 0 278 279 280 546),
 (282,fo "_law_fits" (top 45) sD 281),
 (288,iL "_law_plan" 549 185 3 283 284 0 285 286 287 560),
 (289,fo "_law_plan" (top 46) sD 288),
 (293,iL "_law_better" 563 192 4 290 291 0 0 0 292 566),
 (294,fo "_law_better" (top 47) sD 293),
 (298,iL "_law_turns" 569 204 0 295 296 0 0 0 297 572),
 (299,fo "_law_turns" (top 48) sD 298),
 (305,iL "law" 575 211 1 300 301 0 302 303 304 588),
 (306,fo "law" (top 49) sD 305)]
def hk:W.Hook:=W.kmHook Kf [3,69,70,76,77,83,84,88,89,95,96,102,103,107,108,112,113,117,118,122,123,127,128,132,133,139,140,146,147,153,154,160,161,167,168,172,173,177,178,184,185,191,192,198,199,203,204,210,211,215,216,222,223,229,230,236,237,243,244,250,251,257,258,264,265,269,270,274,275,281,282,288,289,293,294,298,299,305,306] (λ_=>rfl) [170]
abbrev rn(w:World):=openEnds treeTable PySem.Challenge.pw_stillflow_k44_whole_walks w 6000
abbrev sn(s:Shared):=openSeen vw [] (importedModules PySem.Challenge.pw_stillflow_k44_whole_walks.main.body) (λs=>xlAt vw [] s&&recOk [] s) true s
abbrev gd:=openGood vw []
def Qe(w:World):(rn w).map (λs=>(sn s).1)=some (gd.1):=by kernel_rfl
def Ql(w:World):(rn w).map (λs=>(sn s).2.1)=some (gd.2.1):=by kernel_rfl
def Qr(w:World):(rn w).map (λs=>(sn s).2.2.1)=some (gd.2.2.1):=by kernel_rfl
def Qt(w:World):(rn w).map (λs=>((sn s).2.2.2.1,(sn s).2.2.2.2.1))=some ((gd.2.2.2.1,gd.2.2.2.2.1)):=by kernel_rfl
def Qg(w:World):(rn w).map (λs=>(sn s).2.2.2.2.2.1)=some (gd.2.2.2.2.2.1):=by kernel_rfl
def Qu(w:World):(rn w).map (λs=>(sn s).2.2.2.2.2.2)=some (gd.2.2.2.2.2.2):=by kernel_rfl
def QF(w:World):(rn w).map (λs=>hk.obs s)=some (hk.val w):=by kernel_rfl
def left:LeftO PySem.Challenge.pw_stillflow_k44_whole_walks vw [] (λs=>xlAt vw [] s&&recOk [] s) hk.obs hk.val 6000:=λw=>Ma (Qe w) (Ql w) (Qr w) (Qt w) (Qg w) (Qu w) (QF w)
def OR:PySem.Challenge.rw_stillflow_k44_whole_walks.wellSaid=true:=by kernel_rfl
end K44
namespace L2
open PySem PySem.Spec PyProof.Rows
abbrev nG:=Sum Int Str
def Ci:nG->Value->Bool
 | .inl k,v=>Value.isInt k v
 | .inr x,v=>Value.isStrOf x v
def PL(w:World):nG->Int
 | .inl k=>hashInt k
 | .inr x=>hashStr w x
def bD:∀ {k:nG}{v:Value},Ci k v=true->(∃i t,k=Sum.inl i/\v=Value.int i t)\/(∃x t,k=Sum.inr x/\v=Value.str x t)
 | .inl i,v,h=>by
  let⟨t,e⟩:=Value.isInt_shape (k:=i) (v:=v) h;exact .inl ⟨i,t,rfl,e⟩
 | .inr x,v,h=>by
  let⟨t,e⟩:=Value.isStrOf_shape (x:=x) (v:=v) h;exact .inr ⟨x,t,rfl,e⟩
def CT(i:Int)(t:Tok):Ci (.inl i) (.int i t)=true:=by simp[Ci,Value.isInt]
def MI(a b:Int):decide ((Sum.inl a:nG)=Sum.inl b)=(a == b):=by
 by_cases e:a=b
 ·subst e;simp
 ·have h:¬ (Sum.inl a:nG)=Sum.inl b:=λq=>e (Sum.inl.inj q);rw[yA h];exact (beq_eq_false_iff_ne.mpr e).symm
def MK(a b:Str):decide ((Sum.inr a:nG)=Sum.inr b)=decide (a=b):=by
 by_cases e:a=b
 ·subst e;simp
 ·have h:¬ (Sum.inr a:nG)=Sum.inr b:=λq=>e (Sum.inr.inj q);rw[yA h,yA e]
def Lg(a:Int)(b:Str):decide ((Sum.inl a:nG)=Sum.inr b)=false:=yA (λq=>nomatch q)
def Lj(a:Str)(b:Int):decide ((Sum.inr a:nG)=Sum.inl b)=false:=yA (λq=>nomatch q)
def mF(prog:Program)(w:World):PySem.KeyKind prog w nG where
 is:=Ci
 hash:=PL w
 inj:=λv a b ha hb=>by
  rcases bD ha with ⟨i,t,rfl,rfl⟩|⟨x,t,rfl,rfl⟩
  ·rcases bD hb with ⟨j,u,rfl,e⟩|⟨y,u,rfl,e⟩
   ·injection e with e1 _;rw[e1]
   ·exact nomatch e
  ·rcases bD hb with ⟨j,u,rfl,e⟩|⟨y,u,rfl,e⟩
   ·exact nomatch e
   ·injection e with e1 _;rw[e1]
 byValue:=λk v h=>by
  rcases bD h with ⟨i,t,rfl,rfl⟩|⟨x,t,rfl,rfl⟩<;>rfl
 pyHash:=λhv h=>by
  rcases bD hv with ⟨i,t,rfl,rfl⟩|⟨x,t,rfl,rfl⟩
  ·exact wpAny_pyHash_int h
  ·exact wpAny_pyHash_str h
 eqBool:=λhu hv h=>by
  rcases bD hu with ⟨i,t,rfl,rfl⟩|⟨x,t,rfl,rfl⟩
  ·rcases bD hv with ⟨j,u,rfl,rfl⟩|⟨y,u,rfl,rfl⟩
   ·rw[MI] at h;exact wpAny_eqBool_int h
   ·rw[Lg] at h;exact SeqAt.EqAt.int_str i t y u _ _ _ _ h
  ·rcases bD hv with ⟨j,u,rfl,rfl⟩|⟨y,u,rfl,rfl⟩
   ·rw[Lj] at h;exact SeqAt.EqAt.str_int x t j u _ _ _ _ h
   ·rw[MK] at h;exact wpAny_eqBool_str h
 «strs»:=λk x t v h=>by
  rcases bD h with ⟨i,u,rfl,e⟩|⟨y,u,rfl,e⟩
  ·exact nomatch e
  ·injection e with e1 _
   subst e1;cases v<;>rfl
def vj(prog:Program)(w:World)(i:Int)(t:Tok):(mF prog w).is (.inl i) (.int i t)=true:=CT i t
inductive V where
 | QK|bl (b:Bool)|int (i:Int)|str (x:Str)|byt (b:Array UInt8)|flt (b:UInt64)|ref (a:Addr)|ty (n:String)
 deriving DecidableEq
def RelV:V->Value->Prop
 | .QK,u=>u=Value.none
 | .bl b,u=>u=Value.bool b
 | .int i,u=>∃t,u=Value.int i t
 | .str x,u=>∃t,u=Value.str x t
 | .byt b,u=>∃t,u=Value.bytes b t
 | .flt b,u=>∃t,u=Value.float b t
 | .ref a,u=>u=Value.ref a
 | .ty n,u=>u=Value.type n
abbrev aD:List V->List Value->Prop:=Paired RelV
def aD.length(r:aD xs us):xs.length=us.length:=Paired.length r
def aD.get:∀ {xs:List V}{us:List Value}{i:Nat}{x:V},aD xs us->xs[i]?=some x->∃u,us[i]?=some u/\RelV x u
 | _,_,_,_,.nil,e=>by simp at e
 | _,_,0,_,.cons r _,e=>by simp at e;subst e;exact⟨_,rfl,r⟩
 | _,_,i+1,x,.cons _ t,e=>by
  let⟨u,h1,h2⟩:=aD.get (i:=i) (x:=x) t (by simpa using e);exact⟨u,by simpa using h1,h2⟩
def aD.set(r:RelV x u):∀ {xs:List V}{us:List Value}(i:Nat),aD xs us->aD (xs.set i x) (us.set i u)
 | _,_,_,.nil=>.nil
 | _,_,0,.cons _ t=>.cons r t
 | _,_,i+1,.cons q t=>.cons q (aD.set r i t)
def aD.append:∀ {xs ys:List V}{us ws:List Value},aD xs us->aD ys ws->aD (xs++ys) (us++ws)
 | _,_,_,_,.nil,s=>s
 | _,_,_,_,.cons r t,s=>.cons r (aD.append t s)
def aD.take:∀ {xs:List V}{us:List Value}(n:Nat),aD xs us->aD (xs.take n) (us.take n)
 | _,_,0,_=>.nil
 | _,_,_+1,.nil=>.nil
 | _,_,n+1,.cons r t=>.cons r (aD.take n t)
def aD.drop:∀ {xs:List V}{us:List Value}(n:Nat),aD xs us->aD (xs.drop n) (us.drop n)
 | _,_,0,r=>r
 | _,_,_+1,.nil=>.nil
 | _,_,n+1,.cons _ t=>aD.drop n t
def Oq:Option V->Option Value->Prop
 | some v,some u=>RelV v u
 | none,none=>True
 | _,_=>False
def KV:List (κ×V)->List (κ×Value)->Prop:=Paired λ(p:κ×V) (q:κ×Value)=>p.1=q.1/\RelV p.2 q.2
def kV:nG->V
 | .inl i=>.int i
 | .inr x=>.str x
inductive HO where
  | lst (xs:List V)
  | tup (xs:List V)
  | dK (Q2:List (nG×V))|dT (xs:List (List nG×Addr×Value))
  | set (S:Int->Bool) (n:Nat)
  | ins (C dx:Addr) (fs:List (Str×V))
  | own (x:Addr)
  | xd (fs:List (Str×V))
  | met (f x:Addr)
  | rng (lo hi:Int)
  | Ro (o:Obj) (u:HO)
  | tab (q:Str)
 | Tw (q:Str)
  | ext (φ:Heap->Prop)
abbrev Hp:=Addr->Option HO
def upd(H:Hp)(a:Addr)(o:HO):Hp:=λb=>if b=a then some o else H b
def aC:upd H a o a=some o:=by unfold upd;rw[yM rfl]
def av(h:b≠a):upd H a o b=H b:=by unfold upd;rw[yO h]
def aA{H:Hp}{a b:Addr}{o:HO}(h:H a=some o)(h':H b=none):a≠b:=by
 intro e;subst e;rw[h] at h';cases h'
def pb(h:Heap)(a:Addr)(its:Array Value):Prop:=IsTup h a its/\∃o,h.get? a=some o/\o.dict=none
def pb.new(h:Heap)(its:Array Value):pb (h.push { cls:=.type "tuple",data:=.seq its }) h.objs.size its:=⟨IsTup.new _ _,_,zY _ rfl,rfl⟩
section
variable (P:Program) (w:World)
def eF(H:Hp)(h:Heap)(a:Addr):HO->Prop
 | .lst xs=>xs.length<=sizeLine/\∃ (its:List Value) (n:Nat),aD xs its/\h.get? a=some { cls:=.type "list",data:=.seq its.toArray n }
 | .tup xs=>xs.length<=sizeLine/\∃its:List Value,aD xs its/\pb h a its.toArray
 | .dK Q2=>Q2.length<=sizeLine/\(a == sysModules)=false/\∃vs,KV Q2 vs/\h.DictOf (mF P w) a vs
 | .dT xs=>xs.length<=sizeLine/\(a == sysModules)=false /\
   ∃o es ep,h.get? a=some o/\o.ExactDict/\o.data=.dict es ep/\es.toList=xs.map (entryOfKey (tupleKind (mF P w)))/\(xs.map (·.1)).Nodup
 | .set S n=>h.SetOf (intKind P w) a S n
 | .ins C dx fs=>H dx=some (.own a)/\fs.length<=1000/\dx≠a/\h.get? a=some (W.instObj C dx) /\
   ∃mA,h.Ns1 dx mA/\(∀f,Oq (fs.lookup f) (mA f))/\PySem.Within mA (fs.map (·.1))
 | .own _=>∃o,h.get? a=some o
 | .xd fs=>∃mA,h.Ns1 a mA/\∀f,Oq (fs.lookup f) (mA f)
 | .rng lo hi=>∃t u v,h.get? a=some { cls:=.type "range",data:=.fields #[.int lo t,.int hi u,.int 1 v] }
 | .Ro o u=>h.get? a=some o/\eF H h a u
 | .tab q=>∃ps:Array Value,h.get? a=some { cls:=.none,data:=.fields ps }/\TriplesOk ps.toList/\∀pos v,codeAmong pos ps.toList=some v->∃c,v=.ref c/\H c=some (.Tw q)
 | .Tw q=>h.CodeRec (.ref a) q
 | .met f x=>h.get? a=some (W.methodObj (.ref f) (.ref x))
 | .ext φ=>φ h/\(∃o,h.get? a=some o)/\∀h1 h2:Heap,φ h1->(∀o,h1.get? a=some o->h2.get? a=some o)->φ h2
def oR(H:Hp)(h:Heap):Prop:=∀a o,H a=some o->eF P w H h a o
end
def eF.lt(x:eF P w H h a o):a < h.objs.size:=by
 cases o with
 | lst xs=>let⟨_,_,_,_,e⟩:=x;exact zZ e
 | tup xs=>let⟨_,_,_,p⟩:=x;exact p.1.lt
 | dK Q2=>let⟨_,_,_,_,o,_,_,e,_⟩:=x;exact zZ e
 | dT Q2=>let⟨_,_,o,_,_,e,_⟩:=x;exact zZ e
 | set S n=>let⟨o,_,_,_,e,_⟩:=x;exact zZ e
 | ins C dx fs=>let⟨_,_,_,e,_⟩:=x;exact zZ e
 | own y=>let⟨_,e⟩:=x;exact zZ e
 | xd fs=>let⟨_,⟨_,_,_,e,_⟩,_⟩:=x;exact zZ e
 | rng lo hi=>let⟨_,_,_,e⟩:=x;exact zZ e
 | Ro ob u=>let⟨e,_⟩:=x;exact zZ e
 | tab q=>let⟨_,e,_⟩:=x;exact zZ e
 | Tw q=>let⟨_,_,_,_,e0,e,_⟩:=x;cases e0;exact zZ e
 | met f y=>exact zZ (show h.get? a=some _ from x)
 | ext φ=>let⟨_,⟨_,e⟩,_⟩:=x;exact zZ e
def Paired.Xy:∀ {Xz:List α}{XA:List β},Paired F Xz XA->(∀a b,F a b->G a b)->Paired G Xz XA
 | _,_,.nil,_=>.nil
 | _,_,.cons r t,f=>.cons (f _ _ r) (Paired.Xy t f)
def Qa:HO->Prop
 | .tup _=>True
 | .Tw _=>True
 | _=>False
def eF.Rr(x:eF P w H h a o)(k:∀b u,(b=a\/H b=some (.own a))->h.get? b=some u->h'.get? b=some u)
  (ho:∀b,H b=some (.own a)->H' b=some (.own a)) (ht:∀b u,H b=some u->Qa u->H' b=some u):eF P w H' h' a o:=by
 induction o with
 | lst xs=>let⟨z,its,n,r,e⟩:=x;exact⟨z,its,n,r,k _ _ (.inl rfl) e⟩
 | tup xs=>let⟨z,its,r,⟨ob,e,c⟩,o2,e2,d2⟩:=x;exact⟨z,its,r,⟨ob,k _ _ (.inl rfl) e,c⟩,o2,k _ _ (.inl rfl) e2,d2⟩
 | dK Q2=>let⟨z,y,vs,r,ob,es,ep,e,c⟩:=x;exact⟨z,y,vs,r,ob,es,ep,k _ _ (.inl rfl) e,c⟩
 | dT Q2 =>
  let⟨z,y,ob,es,ep,e,c⟩:=x;exact⟨z,y,ob,es,ep,k _ _ (.inl rfl) e,c⟩
 | set S n=>let⟨ob,es,ep,t,e,c⟩:=x;exact⟨ob,es,ep,t,k _ _ (.inl rfl) e,c⟩
 | ins C dx fs =>
  let⟨d,z,ne,e,mA,⟨od,es,ep,e2,c⟩,r⟩:=x;exact⟨ho _ d,z,ne,k _ _ (.inl rfl) e,mA,⟨od,es,ep,k _ _ (.inr d) e2,c⟩,r⟩
 | own y=>let⟨ob,e⟩:=x;exact⟨ob,k _ _ (.inl rfl) e⟩
 | xd fs=>let⟨mA,⟨od,es,ep,e,c⟩,r⟩:=x;exact⟨mA,⟨od,es,ep,k _ _ (.inl rfl) e,c⟩,r⟩
 | rng lo hi=>let⟨t,u,v,e⟩:=x;exact⟨t,u,v,k _ _ (.inl rfl) e⟩
 | Ro ob u ih=>let⟨e,q⟩:=x;exact⟨k _ _ (.inl rfl) e,ih q⟩
 | tab q=>let⟨ps,e,t,c⟩:=x;exact⟨ps,k a _ (.inl rfl) e,t,λpos v z=>let ⟨c0,z1,z2⟩:=c pos v z;⟨c0,z1,ht _ _ z2 trivial⟩⟩
 | Tw q=>let⟨c,oc,vs,t,e0,e,r⟩:=x;cases e0;exact⟨_,oc,vs,t,rfl,k _ _ (.inl rfl) e,r⟩
 | met f y =>
  have e:h.get? a=some (W.methodObj (.ref f) (.ref y)):=x;show h'.get? a=some (W.methodObj (.ref f) (.ref y));exact k a _ (.inl rfl) e
 | ext φ=>let⟨p,⟨o,e⟩,st⟩:=x;exact⟨st _ _ p λo q=>k _ _ (.inl rfl) q,⟨o,k _ _ (.inl rfl) e⟩,st⟩
def oR.lt(x:oR P w H h)(e:H a=some o):a < h.objs.size:=(x a o e).lt
def oR.fresh(x:oR P w H h)(e:h.objs.size<=a):H a=none:=by
 cases q:H a with
 | none=>rfl
 | some u=>exact absurd (zQ (x.lt q) e) (qF _)
def oR.kept(x:oR P w H h)(k:∀b u,h.get? b=some u->h'.get? b=some u):oR P w H h':=λa o e =>
 (x a o e).Rr (λb u _ q=>k b u q) (λ_ q=>q) λ_ _ q _=>q
def oR.laid(x:oR P w H h)(k:∀b u,h.get? b=some u->h'.get? b=some u)(hp:h.objs.size<=a)(new:eF P w (upd H a o) h' a o):oR P w (upd H a o) h':=λb u e=>by
 have hn:=x.fresh hp;by_cases hb:b=a
 ·subst hb;rw[aC] at e;cases e;exact new
 ·rw[av hb] at e;exact (x b u e).Rr (λc v _ q=>k c v q) (λc q=>by rw[av (aA q hn)];exact q) λc xs q _=>by rw[av (aA q hn)];exact q
def Rd(H:Hp)(a:Addr)(u:HO):Prop:=H a=some u\/∃o,H a=some (.Ro o u)
def Rd.ok(r:Rd H a u)(x:oR P w H h):eF P w H h a u:=by
 rcases r with r|⟨o,r⟩
 ·exact x a u r
 ·let⟨_,q⟩:=x a _ r;exact q
def NF:Option HO->Prop
 | some (.lst _)=>True
 | some (.dK _)=>True
 | some (.dT _)=>True
 | some (.set _ _)=>True
 | some (.ins _ _ _)=>True
 | some (.ext _)=>True
 | _=>False
def oR.write(ok:oR P w H h)(mu:NF (H x))(he:e=x\/H e=some (.own x))(k:∀b u,b≠e->h.get? b=some u->h'.get? b=some u)(Xh:∃u,h'.get? e=some u)
  (new:eF P w (upd H x o') h' x o'):oR P w (upd H x o') h':=λb u q=>by
 have XB:∀c y,H c=some (.own y)->c≠x:=λc y r z=>by subst z;rw[r] at mu;exact mu
 have aa4:∀c u,H c=some u->Qa u->c≠x:=λc u r hr z=>by subst z;rw[r] at mu;cases u<;>first|exact mu|exact hr
 by_cases hb:b=x
 ·subst hb;rw[aC] at q;cases q;exact new
 ·rw[av hb] at q;by_cases Wg:b=e
  ·have q':H b=some (.own x):=by
    rcases he with z|z
    ·exact absurd (Wg.trans z) hb
    ·rw[Wg];exact z
   rw[q] at q';cases q';let⟨v,hv⟩:=Xh;exact⟨v,by rw[Wg];exact hv⟩
  ·refine (ok b u q).Rr (λc v hc r=>k c v ?_ r) (λc r=>by rw[av (XB c b r)];exact r) λc xs r hr=>by rw[av (aa4 c xs r hr)];exact r
   rcases hc with rfl|hc
   ·exact Wg
   ·rintro rfl;rcases he with z|z
    ·exact XB c b hc z
    ·rw[hc] at z;cases z;exact hb rfl
def OC:HO->Prop
 | .tab _=>True
 | .Tw _=>True
 | _=>False
def OC.UY(h:OC u):¬ NF (some u):=by cases u<;>first|exactλz=>z|exact h.elim
structure Kl(H H':Hp)(h h':Heap):Prop where
 st:∀b u,H b=some u->OC u->H' b=some u
 gr:∀b q ps,H b=some (.tab q)->h.get? b=some { cls:=.none,data:=.fields ps }->∃more:Array Value,h'.get? b=some { cls:=.none,data:=.fields (ps++more) }
def Kl.kept(k:∀b u,(∃q,H b=some (.tab q))->h.get? b=some u->h'.get? b=some u)(st:∀b u,H b=some u->OC u->H' b=some u):Kl H H' h h' :=
 ⟨st,λb q ps e z=>⟨#[],by rw[Array.append_empty];exact k b _ ⟨q,e⟩ z⟩⟩
def Kl.trans(a:Kl H H1 h h1)(b:Kl H1 H2 h1 h2):Kl H H2 h h2 :=
 ⟨λc u q t=>b.st c u (a.st c u q t) t,λc q ps e z=>by
  let⟨m1,z1⟩:=a.gr c q ps e z;let⟨m2,z2⟩:=b.gr c q _ (a.st c _ e trivial) z1;exact⟨m1++m2,by rw[z2,Array.append_assoc]⟩⟩
structure Un(fs ex:List Addr)(H H':Hp)(h h':Heap):Prop where
 keep:∀b o,h.get? b=some o->H b=none->b∉fs->b∉ex->h'.get? b=some o
 slot:∀b o,h.get? b=some o->H b=none->b∈fs->b∉ex->∃sl,h'.get? b=some { o with slots:=sl }
 free:∀b o,h.get? b=some o->H b=none->b∉ex->H' b=none
 there:∀b o,h.get? b=some o->b∉ex->∃o',h'.get? b=some o'
 RY:∀b xs,H b=some (.tup xs)->H' b=some (.tup xs)
 RN:∀b o u,H b=some (.Ro o u)->H' b=some (.Ro o u)
 RI:Kl H H' h h'
def Un.any(u:Un fs ex H H1 h h1)(q:h.get? b=some ob)(n:H b=none)(hx:b∉ex):∃sl,h1.get? b=some { ob with slots:=sl }:=by
 by_cases hb:b∈fs
 ·exact u.slot b ob q n hb hx
 ·exact⟨ob.slots,u.keep b ob q n hb hx⟩
def Un.kept(k:∀b u,h.get? b=some u->h'.get? b=some u):Un fs ex H H h h' :=
 ⟨λb ob q _ _ _=>k b ob q,λb ob q _ _ _=>⟨ob.slots,k b ob q⟩,λ_ _ _ n _=>n,λb ob q _=>⟨ob,k b ob q⟩,λ_ _ q=>q,λ_ _ _ q=>q,.kept (λb u _ e=>k b u e) λ_ _ e _=>e⟩
def Un.refl:Un fs ex H H h h:=Un.kept λ_ _ q=>q
def Un.laid(k:∀b u,h.get? b=some u->h'.get? b=some u)(hp:h.objs.size<=a)(hn:H a=none):Un fs ex H (upd H a o) h h' where
 keep:=λb u q _ _ _=>k b u q
 slot:=λb u q _ _ _=>⟨u.slots,k b u q⟩
 free:=λb u q n _=>by rw[av (yS (zQ (zZ q) hp))];exact n
 there:=λb u q _=>⟨u,k b u q⟩
 RY:=λb xs q=>by rw[av (aA q hn)];exact q
 RN:=λb u xs q=>by rw[av (aA q hn)];exact q
 RI:=.kept (λb u _ e=>k b u e) λb u q _=>by rw[av (aA q hn)];exact q
def Un.write(mu:NF (H x))(he:e=x\/H e=some (.own x))(k:∀b u,b≠e->h.get? b=some u->h'.get? b=some u)(Xh:∃u,h'.get? e=some u):Un fs ex H (upd H x o) h h':=by
 have hx:∀b,H b=none->b≠x:=λb n z=>by subst z;rw[n] at mu;exact mu
 have hb:∀b,H b=none->b≠e:=λb n z=>by
  subst z;rcases he with r|r
  ·exact hx b n r
  ·rw[n] at r;cases r
 have hm:∀b u,H b=some u->¬ NF (some u)->b≠x:=λb u q nm z=>by subst z;rw[q] at mu;exact nm mu
 refine⟨λb u q n _ _=>k b u (hb b n) q,λb u q n _ _=>⟨u.slots,k b u (hb b n) q⟩,λb u q n _=>by rw[av (hx b n)];exact n,λb u q _=>?_,
  λb xs q=>by rw[av (hm b _ q λz=>z)];exact q,λb u xs q=>by rw[av (hm b _ q λz=>z)];exact q,.kept (λb u z e=>k b u (λr=>by subst r;rcases he with r|r<;>first|(subst r;rcases z with ⟨q,z⟩;rw[z] at mu;exact mu)|(rcases z with ⟨q,z⟩;rw[z] at r;cases r)) e) λb u q nm=>by rw[av (hm b _ q (nm.UY))];exact q⟩
 by_cases Wg:b=e
 ·subst Wg;exact Xh
 ·exact⟨u,k b u Wg q⟩
def OD(h:Heap)(H:Hp):List Addr:=(List.range h.objs.size).filter λa=>(H a).isSome
def uA(h:Heap)(H:Hp):Heap:=W.hideAll h (OD h H)
def CJ(h:Heap)(H:Hp):(uA h H).objs.size=h.objs.size:=W.hideAll_size _ _
def FO(e:h.get? b=some o)(n:H b=none):(uA h H).get? b=some o :=
 W.hideAll_get _ e λhm=>by
  have q:(H b).isSome=true:=(List.mem_filter.mp hm).2;rw[n] at q;simp at q
def JN(e:(uA h H).get? b=some o):h.get? b=some o/\H b=none:=by
 have e':h.get? b=some o:=W.of_hideAll (OD h H) e;refine⟨e',?_⟩;cases q:H b with
 | none=>rfl
 | some x =>
  have hm:b∈OD h H:=List.mem_filter.mpr ⟨List.mem_range.mpr (zZ e'),by simp[q]⟩;have z:(uA h H).get? b=none:=W.hideAll_none (OD h H) hm;rw[z] at e;cases e
def OA(mg:Str->Option Value)(base:Heap):Prop:=∃bm o,mg "__builtins__"=some (.ref bm)/\bm≠builtinsNs/\bm≠mainGlobals/\base.get? bm=some o/\o.cls=.type "module"/\o.dict=some builtinsNs/\o.data=.plain
structure Mod(K:W.Frag)(mg:Str->Option Value)(base:Heap):Prop where
 XC:K.In base
 glob:base.Ns mainGlobals mg
 blt:∃mb,base.Ns builtinsNs mb/\∀x:Str,x≠"__name__"->mb x=bootBuiltins x
 nolimit:base.NoLimit
 bmd:OA mg base
structure Cx where
 prog:Program
 w:World
 K:W.Frag
 mg:Str->Option Value
 base:Heap
 A:Around
 N:List Str
 QZ:Shared
 QM:Hp
 env:Env
 outer:List Env
 stack:List Env
 ex:List Addr
 fn:Str->Bool
 calm:Bool
 pn:List (Addr×Obj)
 xe:Value->Shared->Prop
def E2(l:List Env):List Addr:=l.filterMap (·.frame)
abbrev Cx.fs(X:Cx):List Addr:=E2 X.outer
def BB(sc:Scope)(x:Str):Prop:=sc.names.lookup x=some .local \/ sc.names.lookup x=some .cell\/sc.names.lookup x=some .free
def Loc(sc:Scope)(x:Str):Prop:=sc.names.lookup x=some .local \/ sc.names.lookup x=some .cell
def Look(env:Env)(h:Heap)(m:Str->Option Value)(x:Str)(u:Value):Prop :=
 (env.kindOf x=some .local /\ m x=some u)\/((env.kindOf x=some .cell\/env.kindOf x=some .free)/\∃c,env.cells.lookup x=some c/\h.IsCell c (some u))
structure Cx.Ok(X:Cx):Prop where
 mod:Mod X.K X.mg X.base
 kind:X.env.scope.kind=.function
 glob:X.env.globals=mainGlobals
 blt:X.env.builtins=builtinsNs
 above:X.QZ.heap.objs.size<=X.env.locals
 inj:∀x y c,X.env.cells.lookup x=some c->X.env.cells.lookup y=some c->x=y
 has:∀x,(X.env.kindOf x=some .cell\/X.env.kindOf x=some .free)->∃c,X.env.cells.lookup x=some c
 XD:∀x c,X.fn x=true->X.env.cells.lookup x=some c->X.QZ.heap.objs.size<=c
 hd:X.calm=true->X.A.handled=none
 frames:X.A.frames=some X.stack
 stk:X.stack=X.outer\/(X.stack=X.env::X.outer/\X.env.frame=some X.env.locals)
 exf:∀b∈X.ex,b≠X.env.locals/\∀x c,X.env.cells.lookup x=some c->c≠b
 bs:∀b o,X.base.get? b=some o->X.QZ.heap.get? b=some o/\X.QM b=none
 Vl:X.base.objs.size<=X.QZ.heap.objs.size
 Tz:∀b o,X.base.get? b=some o->b∉X.ex
 Ua:∀b∈X.ex,b∉X.fs
 RJ:X.QZ.heap.FunFrames X.base X.outer
 Xi:∀b∈X.fs,X.QM b=none
structure Inv(X:Cx)(pins:List (Addr×Obj))(σ:List (Option V))(H:Hp)(s:Shared):Prop where
 ok:X.Ok
 os:s.os=X.QZ.os
 bare:AllBare s.gens
 base:Un X.fs X.ex X.QM H X.QZ.heap s.heap
 loc:∃m,s.heap.Ns X.env.locals m/\∀ (i:Nat) (x:Str) (v:V),X.N[i]?=some x->σ[i]?=some (some v)->BB X.env.scope x->∃u,RelV v u/\Look X.env s.heap m x u
 cell:∀x c,X.env.cells.lookup x=some c->∃v,s.heap.IsCell c v
 free:H X.env.locals=none
 Q5:∀x c,X.env.cells.lookup x=some c->H c=none
 pin:∀p∈X.pn++pins,s.heap.get? p.1=some p.2/\H p.1=none/\p.1≠X.env.locals/\p.1∉X.fs/\∀v,p.2.data≠.cell v
 QR:oR X.prog X.w H s.heap
 len:σ.length=X.N.length
def Cx.Ok.aa5{X:Cx}(ok:X.Ok)(e:X.base.get? b=some o):b∉X.fs:=λhb=>by
 have:=(ok.RJ.mem hb).1;rw[e] at this;cases this
def Inv.bs{X:Cx}{s:Shared}(I:Inv X pins σ H s):∀b o,X.base.get? b=some o->s.heap.get? b=some o/\H b=none:=λb o e =>
 ⟨I.base.keep b o (I.ok.bs b o e).1 (I.ok.bs b o e).2 (I.ok.aa5 e) (I.ok.Tz b o e),I.base.free b o (I.ok.bs b o e).1 (I.ok.bs b o e).2 (I.ok.Tz b o e)⟩
def Inv.bk(I:Inv X pins σ H s):∀b o,X.base.get? b=some o->s.heap.get? b=some o:=λb o e=>(I.bs b o e).1
def Inv.mod(I:Inv X pins σ H s):Mod X.K X.mg X.base:=I.ok.mod
def Inv.TB(I:Inv X pins σ H s):X.K.In s.heap:=I.ok.mod.XC.keeps I.bk
def Inv.nolimit(I:Inv X pins σ H s):s.heap.NoLimit:=I.ok.mod.nolimit.keeps I.bk
def Inv.lt(I:Inv X pins σ H s):X.env.locals < s.heap.objs.size:=let ⟨_,hn,_⟩:=I.loc;hn.lt
def Inv.sz(I:Inv X pins σ H s):X.QZ.heap.objs.size<=s.heap.objs.size:=yE I.ok.above (jT I.lt)
def Inv.aa6(I:Inv X pins σ H s)(h:s.heap.objs.size<=a):a∉X.fs:=λhb=>by
 let⟨_,o,ho,_⟩:=I.ok.RJ.mem hb;exact absurd (zQ (zZ ho) (yE I.sz h)) (qF _)
def Inv.Wh(I:Inv X pins σ H s):∀x c,X.env.cells.lookup x=some c->c≠X.env.locals:=λx c e z=>by
 let⟨v,o,ho,hd⟩:=I.cell x c e;let⟨m,⟨o',es,ep,RK,UZ,_⟩,_⟩:=I.loc;rw[z,RK] at ho;cases ho;rw[UZ] at hd;cases hd
def Inv.RJ(I:Inv X pins σ H s):s.heap.FunFrames X.base X.outer:=by
 have all:∀ (l:List Env),(∀b∈E2 l,b∈X.fs)->X.QZ.heap.FunFrames X.base l->s.heap.FunFrames X.base l:=by
  intro l
  induction l with
  | nil=>intro _ _;trivial
  | cons env r ih =>
   intro hs hl;let⟨hk,⟨L,o,hf,hn,ho,hd⟩,hr⟩:=hl;have hL:L∈X.fs:=hs L (by unfold E2;rw[jH,hf];exact zF);let⟨sl,e⟩:=I.base.slot L o ho (I.ok.Xi L hL) hL λz=>I.ok.Ua L z hL;exact⟨hk,⟨L,_,hf,hn,e,hd⟩,ih (λb hb=>hs b (by unfold E2;rw[jH,hf];exact zD _ hb)) hr⟩
 exact all X.outer (λ_ hb=>hb) I.ok.RJ
def Inv.stack(I:Inv X pins σ H s):s.heap.FunFrames X.base X.stack:=by
 rcases I.ok.stk with e|⟨e,hf⟩
 ·rw[e];exact I.RJ
 ·rw[e];let⟨m,hn,_⟩:=I.loc;refine .cons (by rw[I.ok.kind];decide) hf hn ?_ I.RJ;exact Heap.get?_none_of_le (yE I.ok.Vl I.ok.above)
def Inv.SI(I:Inv X pins σ H s):∀b∈E2 X.stack,b∈X.env.locals::X.fs:=λb hb=>by
 rcases I.ok.stk with e|⟨e,hf⟩
 ·rw[e] at hb;exact zD _ hb
 ·rw[e] at hb;unfold E2 at hb;rw[jH,hf] at hb;exact hb
def Inv.RZ(I:Inv X pins σ H s):∀b∈E2 X.stack,H b=none:=λb hb=>by
 rcases List.mem_cons.mp (I.SI b hb) with e|hb
 ·rw[e];exact I.free
 ·let⟨_,o,ho,_⟩:=I.ok.RJ.mem hb;exact I.base.free b o ho (I.ok.Xi b hb) λz=>I.ok.Ua b z hb
def Inv.step{g':Array GenState}{t':Nat}{d':Drawn}{ch:List Addr}(I:Inv X pins σ H s)
  (R7:∀b∈ch,(b∈X.ex\/X.QZ.heap.objs.size<=b)/\b≠X.env.locals/\(∀x c,X.env.cells.lookup x=some c->c≠b)/\∀p∈X.pn++pins,p.1≠b)
  (keep:∀b o,b≠X.env.locals->b∉X.fs->b∉ch->s.heap.get? b=some o->H b=none->h'.get? b=some o)
  (slot:∀b o,b≠X.env.locals->b∈X.fs->b∉ch->s.heap.get? b=some o->H b=none->∃sl,h'.get? b=some { o with slots:=sl }) (free:∀b o,b∉ch->s.heap.get? b=some o->H b=none->H' b=none)
  (there:∀b o,b∉ch->s.heap.get? b=some o->∃o',h'.get? b=some o')
  (RY:∀b xs,H b=some (.tup xs)->H' b=some (.tup xs)) (RN:∀b o u,H b=some (.Ro o u)->H' b=some (.Ro o u)) (RI:Kl H H' s.heap h')
  (ns:∀m,s.heap.Ns X.env.locals m->h'.Ns X.env.locals m) (QR:oR X.prog X.w H' h') (hg:AllBare g') :
  Inv X pins σ H' { s with heap:=h',gens:=g',drawn:=d',toks:=t' }:=by
 have neL:∀b o,X.QZ.heap.get? b=some o->b≠X.env.locals:=λb o e=>yS (zQ (zZ e) I.ok.above);have neC:∀b o,X.QZ.heap.get? b=some o->b∉X.ex->b∉ch:=λb o e hx hb=>by
  rcases (R7 b hb).1 with z|z
  ·exact hx z
  ·exact absurd (zQ (zZ e) z) (qF _)
 have cellK:∀x c,X.env.cells.lookup x=some c->∀v,s.heap.IsCell c v->h'.IsCell c v:=λx c e v z=>by
  let⟨o,ho,hd⟩:=z;have TC:c∉ch:=λz=>(R7 c z).2.2.1 x c e rfl;by_cases hc:c∈X.fs
  ·let⟨sl,q⟩:=slot c o (I.Wh x c e) hc TC ho (I.Q5 x c e);exact⟨_,q,hd⟩
  ·exact⟨o,keep c o (I.Wh x c e) hc TC ho (I.Q5 x c e),hd⟩
 refine⟨I.ok,I.os,hg,⟨λb o e n hb hx=>?_,λb o e n hb hx=>?_,λb o e n hx=>?_,λb o e hx=>?_,λb xs e=>RY b xs (I.base.RY b xs e),λb o xs e=>RN b o xs (I.base.RN b o xs e),I.base.RI.trans RI⟩,?_,λx c e=>?_,?_,λx c e=>?_,λp hp=>?_,QR,I.len⟩
 ·exact keep b o (neL b o e) hb (neC b o e hx) (I.base.keep b o e n hb hx) (I.base.free b o e n hx)
 ·let⟨sl,e1⟩:=I.base.slot b o e n hb hx;let⟨sl',e2⟩:=slot b _ (neL b o e) hb (neC b o e hx) e1 (I.base.free b o e n hx);exact⟨sl',e2⟩
 ·let⟨o',e1⟩:=I.base.there b o e hx;exact free b o' (neC b o e hx) e1 (I.base.free b o e n hx)
 ·let⟨o',e1⟩:=I.base.there b o e hx;exact there b o' (neC b o e hx) e1
 ·let⟨m,hn,hl⟩:=I.loc;refine⟨m,ns m hn,λi x v e1 e2 e3=>?_⟩;let⟨u,r,l⟩:=hl i x v e1 e2 e3;refine⟨u,r,?_⟩;rcases l with l|⟨k,c,e,z⟩
  ·exact .inl l
  ·exact .inr ⟨k,c,e,cellK x c e _ z⟩
 ·let⟨v,z⟩:=I.cell x c e;exact⟨v,cellK x c e v z⟩
 ·let⟨m,⟨o,_,_,ho,_⟩,_⟩:=I.loc;exact free _ o (λz=>(R7 _ z).2.1 rfl) ho I.free
 ·let⟨v,o,ho,hd⟩:=I.cell x c e;exact free c o (λz=>(R7 c z).2.2.1 x c e rfl) ho (I.Q5 x c e)
 ·let⟨e,n,ne,nf,d⟩:=I.pin p hp;have TC:p.1∉ch:=λz=>(R7 p.1 z).2.2.2 p hp rfl;exact⟨keep p.1 p.2 ne nf TC e n,free p.1 p.2 TC e n,ne,nf,d⟩
def Inv.un{t':Nat}(I:Inv X pins σ H s)(u:Un X.fs [] H H' s.heap h')(QR:oR X.prog X.w H' h'):Inv X pins σ H' { s with heap:=h',toks:=t' }:=by
 let⟨m,⟨o,es,ep,ho,r⟩,_⟩:=id I.loc;let⟨sl,hL⟩:=u.any ho I.free (by simp);exact I.step (g':=s.gens) (d':=s.drawn) (ch:=[]) (λ_ z=>nomatch z) (λb o _ hb _ e n=>u.keep b o e n hb (by simp)) (λb o _ hb _ e n=>u.slot b o e n hb (by simp)) (λb o _ e n=>u.free b o e n (by simp)) (λb o _ e=>u.there b o e (by simp)) u.RY u.RN u.RI (λm' hm=>by
  let⟨o',es',ep',RK,r'⟩:=hm;rw[ho] at RK;cases RK;exact⟨_,es',ep',hL,r'⟩) QR I.bare
def Inv.call{t':Nat}{d':Drawn}{ch:List Addr}(I:Inv X pins σ H s)(u:Un (E2 X.stack) ch H H' s.heap h')(QR:oR X.prog X.w H' h')(hg:AllBare g')
  (R7:∀b∈ch,(b∈X.ex\/X.QZ.heap.objs.size<=b)/\b≠X.env.locals/\(∀x c,X.env.cells.lookup x=some c->c≠b)/\∀p∈X.pn++pins,p.1≠b) :
  Inv X pins σ H' { s with heap:=h',gens:=g',drawn:=d',toks:=t' }:=by
 let⟨m,⟨o,es,ep,ho,r⟩,_⟩:=id I.loc;let⟨sl,hL⟩:=u.any ho I.free λz=>(R7 _ z).2.1 rfl;exact I.step (ch:=ch) R7 (λb o hL hb hc e n=>u.keep b o e n (λz=>(List.mem_cons.mp (I.SI b z)).elim hL hb) hc) (λb o _ _ hc e n=>u.any e n hc) (λb o hc e n=>u.free b o e n hc) (λb o hc e=>u.there b o e hc) u.RY u.RN u.RI (λm' hm=>by
  let⟨o',es',ep',RK,r'⟩:=hm;rw[ho] at RK;cases RK;exact⟨_,es',ep',hL,r'⟩) QR hg
def Inv.turned{t':Nat}(I:Inv X pins σ H s)(k:∀b o,b≠it->s.heap.get? b=some o->h'.get? b=some o)(hn:H it=none)(hL:it≠X.env.locals)
  (h1:it∈X.ex\/X.QZ.heap.objs.size<=it) (h2:∀x c,X.env.cells.lookup x=some c->c≠it) (h3:∀p∈X.pn++pins,p.1≠it):Inv X pins σ H { s with heap:=h',toks:=t' }:=by
 have nit:∀b u,H b=some u->b≠it:=λb u e z=>by rw[z,hn] at e;cases e
 refine I.step (g':=s.gens) (d':=s.drawn) (ch:=[it]) (λb hb=>?_) (λb o _ _ hc e _=>k b o (λz=>hc (by simp[z])) e) (λb o _ _ hc e _=>⟨o.slots,k b o (λz=>hc (by simp[z])) e⟩) (λ_ _ _ _ n=>n)
  (λb o hc e=>⟨o,k b o (λz=>hc (by simp[z])) e⟩) (λ_ _ e=>e) (λ_ _ _ e=>e) (.kept (λb u z e=>k b u (λr=>by subst r;rcases z with ⟨q,z⟩;rw[hn] at z;cases z) e) λ_ _ e _=>e) (λm hm=>?_) (λb u e=>?_) I.bare
 ·have e:b=it:=by simpa using hb
  subst e;exact⟨h1,hL,h2,h3⟩
 ·let⟨o,es,ep,ho,r⟩:=hm;exact⟨o,es,ep,k _ o (jN hL) ho,r⟩
 ·refine (I.QR b u e).Rr (λc v hc q=>k c v ?_ q) (λ_ q=>q) λ_ _ q _=>q;rcases hc with z|z
  ·rw[z];exact nit b u e
  ·exact nit c _ z
def Inv.tok(I:Inv X pins σ H s)(t:Nat):Inv X pins σ H { s with toks:=t }:=I.un (h':=s.heap) (t':=t) Un.refl I.QR
def Inv.kept{t':Nat}(I:Inv X pins σ H s)(k:∀b u,s.heap.get? b=some u->h'.get? b=some u):Inv X pins σ H { s with heap:=h',toks:=t' }:=I.un (Un.kept k) (I.QR.kept k)
def Inv.laid{t':Nat}(I:Inv X pins σ H s)(k:∀b u,s.heap.get? b=some u->h'.get? b=some u)(hp:s.heap.objs.size<=a)(new:eF X.prog X.w (upd H a o) h' a o) :
  Inv X pins σ (upd H a o) { s with heap:=h',toks:=t' }:=I.un (Un.laid k hp (I.QR.fresh hp)) (I.QR.laid k hp new)
def Inv.write{t':Nat}(I:Inv X pins σ H s)(mu:NF (H x))(he:e=x\/H e=some (.own x))(k:∀b u,b≠e->s.heap.get? b=some u->h'.get? b=some u)(Xh:∃u,h'.get? e=some u)
  (new:eF X.prog X.w (upd H x o) h' x o):Inv X pins σ (upd H x o) { s with heap:=h',toks:=t' }:=I.un (Un.write mu he k Xh) (I.QR.write mu he k Xh new)
def Inv.S7(I:Inv X pins σ H s)(h:∀p∈XF,s.heap.get? p.1=some p.2/\H p.1=none/\p.1≠X.env.locals/\p.1∉X.fs/\∀v,p.2.data≠.cell v):Inv X XF σ H s :=
 ⟨I.ok,I.os,I.bare,I.base,I.loc,I.cell,I.free,I.Q5,λp hp=>(List.mem_append.mp hp).elim (λz=>I.pin p (qK _ z)) (h p),I.QR,I.len⟩
def v8{N:List Str}(hN:N.Nodup){i j:Nat}(a:N[i]?=some x)(b:N[j]?=some x):i=j:=by
 let⟨h1,e1⟩:=List.getElem?_eq_some_iff.mp a;let⟨h2,e2⟩:=List.getElem?_eq_some_iff.mp b;exact (List.getElem_inj hN).mp (e1.trans e2.symm)
def sU{M:Model}{A:Around}{E:Value->Shared->Prop}{i:Nat}{Q:Unit->Shared->Prop}(I:Inv X pins σ H s)(hN:X.N.Nodup)(hi:X.N[i]?=some x)(hx:Loc X.env.scope x)(r:RelV v u)
  (h:∀s',Inv X pins (σ.set i (some v)) H s'->(∃a,Heap.SameBut a s.heap s'.heap/\(a=X.env.locals\/X.env.cells.lookup x=some a))->Q () s') (hf:X.fn x=true\/X.env.scope.names.lookup x=some .local:=by first|exact .inl rfl|exact .inr rfl|assumption):wpAny M A (storeName X.env x u) Q E s:=by
 let⟨m,hn,hl⟩:=id I.loc;have aa8:(X.env.scope.kind == .class||(X.env.scope.kind == .module&&X.env.locals != X.env.globals))=false:=by rw[I.ok.kind];rfl
 have XG:i < σ.length:=by rw[I.len];exact (List.getElem?_eq_some_iff.mp hi).1
 have Wh:=I.Wh;have tracked:∀ {a:Addr}{h':Heap},(∃o,s.heap.get? a=some o/\H a=none)->Heap.SameBut a s.heap h'->oR X.prog X.w H h':=λ{a h'} ha hs b ob e=>by
  let⟨_,_,Rt⟩:=ha;refine (I.QR b ob e).Rr (λc w' hc q=>(hs.2 c ?_).trans q) (λ_ q=>q) λ_ _ q _=>q;rintro rfl;rcases hc with rfl|hc
  ·rw[Rt] at e;cases e
  ·rw[Rt] at hc;cases hc
 rcases hx with hk|hk
 ·refine wpAny_storeName_local hk hn (λh' hn' hs=>?_) aa8;let⟨oL,_,_,hoL,_⟩:=id hn;refine h _ ⟨I.ok,I.os,I.bare,⟨λb o e n hb hx=>?_,λb o e n hb hx=>?_,I.base.free,λb o e hx=>?_,I.base.RY,I.base.RN,I.base.RI.trans (.kept (λb u z e=>(hs.2 b (λr=>by rcases z with ⟨q,z⟩;rw[r,I.free] at z;cases z)).trans e) λ_ _ e _=>e)⟩,⟨_,hn',λj y v' e1 e2 e3=>?_⟩,λy c e=>?_,I.free,I.Q5,λp hp=>?_,tracked ⟨oL,hoL,I.free⟩ hs,by simpa using I.len⟩ ⟨_,hs,.inl rfl⟩
  ·exact (hs.2 b (yS (zQ (zZ e) I.ok.above))).trans (I.base.keep b o e n hb hx)
  ·let⟨sl,e1⟩:=I.base.slot b o e n hb hx;exact⟨sl,(hs.2 b (yS (zQ (zZ e) I.ok.above))).trans e1⟩
  ·let⟨o',e1⟩:=I.base.there b o e hx;exact⟨o',(hs.2 b (yS (zQ (zZ e) I.ok.above))).trans e1⟩
  ·by_cases hj:j=i
   ·subst hj;rw[hi] at e1;cases e1;rw[vL XG] at e2;cases e2;exact⟨u,r,.inl ⟨hk,by simp⟩⟩
   ·rw[kR (jN hj)] at e2;let⟨u',r',q⟩:=hl j y v' e1 e2 e3;refine⟨u',r',?_⟩;rcases q with ⟨k,e⟩|⟨k,c,e,z⟩
    ·refine .inl ⟨k,?_⟩;have:y≠x:=λe=>hj (v8 hN e1 (e ▸ hi));simp[this,e]
    ·exact .inr ⟨k,c,e,z.sameBut hs (Wh y c e)⟩
  ·let⟨w',z⟩:=I.cell y c e;exact⟨w',z.sameBut hs (Wh y c e)⟩
  ·let⟨e,n,ne,nf,d⟩:=I.pin p hp;exact⟨(hs.2 p.1 ne).trans e,n,ne,nf,d⟩
 ·have Ub:X.fn x=true:=by
   rcases hf with z|z
   ·exact z
   ·rw[z] at hk;cases hk
  let⟨c,hc⟩:=I.ok.has x (.inl hk);let⟨w',z⟩:=I.cell x c hc;refine wpAny_storeName_cell I.ok.kind hk hc z (λh' RO hs=>?_);let⟨oc,hoc,aba⟩:=id z;refine h { s with heap:=h' } ⟨I.ok,I.os,I.bare,⟨λb o e n hb hx=>?_,λb o e n hb hx=>?_,I.base.free,λb o e hx=>?_,I.base.RY,I.base.RN,I.base.RI.trans (.kept (λb u z e=>(hs.2 b (λr=>by rcases z with ⟨q,z⟩;rw[r,I.Q5 x c hc] at z;cases z)).trans e) λ_ _ e _=>e)⟩,⟨m,hn.sameBut hs (jN (Wh x c hc)),λj y v' e1 e2 e3=>?_⟩,λy c' e=>?_,I.free,I.Q5,λp hp=>?_,tracked ⟨oc,hoc,I.Q5 x c hc⟩ hs,by simpa using I.len⟩ ⟨c,hs,.inr hc⟩
  ·exact (hs.2 b (yS (zQ (zZ e) (I.ok.XD x c Ub hc)))).trans (I.base.keep b o e n hb hx)
  ·let⟨sl,e1⟩:=I.base.slot b o e n hb hx;exact⟨sl,(hs.2 b (yS (zQ (zZ e) (I.ok.XD x c Ub hc)))).trans e1⟩
  ·let⟨o',e1⟩:=I.base.there b o e hx;exact⟨o',(hs.2 b (yS (zQ (zZ e) (I.ok.XD x c Ub hc)))).trans e1⟩
  ·by_cases hj:j=i
   ·subst hj;rw[hi] at e1;cases e1;rw[vL XG] at e2;cases e2;exact⟨u,r,.inr ⟨.inl hk,c,hc,RO⟩⟩
   ·rw[kR (jN hj)] at e2;let⟨u',r',q⟩:=hl j y v' e1 e2 e3;refine⟨u',r',?_⟩;rcases q with q|⟨k,c',e,z'⟩
    ·exact .inl q
    ·refine .inr ⟨k,c',e,z'.sameBut hs ?_⟩;rintro rfl;exact hj (v8 hN e1 (I.ok.inj _ _ _ e hc ▸ hi))
  ·by_cases hcc:c'=c
   ·subst hcc;exact⟨_,RO⟩
   ·let⟨w2,z2⟩:=I.cell y c' e;exact⟨w2,z2.sameBut hs hcc⟩
  ·let⟨e,n,ne,nf,d⟩:=I.pin p hp;refine⟨(hs.2 p.1 ?_).trans e,n,ne,nf,d⟩;intro q;rw[q,hoc] at e;have q':oc=p.2:=xE e;exact d w' (by rw[<- q'];exact aba)
def yn{M:Model}{A:Around}{E:Value->Shared->Prop}(I:Inv X pins σ H s)(hN:X.N.Nodup)(hi:X.N[i]?=some x)(hx:Loc X.env.scope x)(r:RelV v u)
  (h:∀s',Inv X pins (σ.set i (some v)) H s'->Q () s') (hf:X.fn x=true\/X.env.scope.names.lookup x=some .local:=by first|exact .inl rfl|exact .inr rfl|assumption):wpAny M A (storeName X.env x u) Q E s :=
 sU I hN hi hx r (λs' I' _=>h s' I') hf
def Inv.Vm{ch:List Addr}(I:Inv X pins σ H s)(ho:s'.os=s.os)(u:Un (E2 X.stack) ch H H' s.heap s'.heap)(QR:oR X.prog X.w H' s'.heap)(hg:AllBare s'.gens)
  (R7:∀b∈ch,(b∈X.ex\/X.QZ.heap.objs.size<=b)/\b≠X.env.locals/\(∀x c,X.env.cells.lookup x=some c->c≠b)/\∀p∈X.pn++pins,p.1≠b):Inv X pins σ H' s':=by
 let⟨h',g',d',t',o'⟩:=s';have e:o'=s.os:=ho;subst e;exact I.call (g':=g') (t':=t') (d':=d') u QR hg R7
abbrev XK:=Value->Option Addr->Hp->Prop
abbrev St:=List (Option V)
abbrev VK:=V->Hp->Prop
abbrev TE:=St->Hp->VK->Prop
abbrev TT:=St->Hp->(Bool->Hp->Prop)->Prop
abbrev TA:=St->Hp->(List V->Hp->Prop)->Prop
structure Ends where
 nx:St->Hp->Prop
 rt:VK
 bk:St->Hp->Prop:=λ_ _=>False
 ct:St->Hp->Prop:=λ_ _=>False
abbrev TS:=Ends->St->Hp->Prop
def EP(X:Cx)(pins:List (Addr×Obj))(σ:St)(Q:VK)(u:Value)(s':Shared):Prop:=∃v H',Inv X pins σ H' s'/\RelV v u/\Q v H'
def TP(X:Cx)(pins:List (Addr×Obj))(σ:St)(Q:Bool->Hp->Prop)(b:Bool)(s':Shared):Prop:=∃H',Inv X pins σ H' s'/\Q b H'
def AP(X:Cx)(pins:List (Addr×Obj))(σ:St)(Q:List V->Hp->Prop)(us:List Value)(s':Shared):Prop:=∃vs H',Inv X pins σ H' s'/\aD vs us/\Q vs H'
def SP(X:Cx)(pins:List (Addr×Obj))(D:Ends)(f:Flow)(s':Shared):Prop :=
 match f with
 | .next=>∃σ' H',Inv X pins σ' H' s'/\D.nx σ' H'
 | .brk=>∃σ' H',Inv X pins σ' H' s'/\D.bk σ' H'
 | .cont=>∃σ' H',Inv X pins σ' H' s'/\D.ct σ' H'
 | .ret u=>∃v σ' H',Inv X pins σ' H' s'/\RelV v u/\D.rt v H'
def PE(X:Cx)(e:Expr)(t:TE):Prop :=
 ∀ (pins:List (Addr×Obj)) (s:Shared) (σ:St) (H:Hp) (Q:VK),Inv X pins σ H s->t σ H Q->wpAny (model X.prog X.w) X.A (eval e X.env) (EP X pins σ Q) X.xe s
def PT(X:Cx)(e:Expr)(t:TT):Prop :=
 ∀ (pins:List (Addr×Obj)) (s:Shared) (σ:St) (H:Hp) (Q:Bool->Hp->Prop),Inv X pins σ H s->t σ H Q->wpAny (model X.prog X.w) X.A (isTrue e X.env (eval e X.env)) (TP X pins σ Q) X.xe s
def PW(X:Cx)(e:Expr)(t:TT):Prop :=
 ∀ (whole:Sem Value) (pins:List (Addr×Obj)) (s:Shared) (σ:St) (H:Hp) (Q:Bool->Hp->Prop),Inv X pins σ H s->t σ H Q->wpAny (model X.prog X.w) X.A (isTrue e X.env whole) (TP X pins σ Q) X.xe s
def PW.pt(h:PW X e t):PT X e t:=h _
def PA(X:Cx)(es:List Expr)(t:TA):Prop :=
 ∀ (pos:Pos) (pins:List (Addr×Obj)) (s:Shared) (σ:St) (H:Hp) (Q:List V->Hp->Prop),Inv X pins σ H s->t σ H Q->wpAny (model X.prog X.w) X.A (spliced (backTo pos (starEach es X.env))) (AP X pins σ Q) X.xe s
def PS(X:Cx)(st:Stmt)(t:TS):Prop :=
 ∀ (pins:List (Addr×Obj)) (s:Shared) (σ:St) (H:Hp) (D:Ends),Inv X pins σ H s->t D σ H->wpAny (model X.prog X.w) X.A (exec st X.env) (SP X pins D) X.xe s
def A2(X:Cx)(st:List Stmt)(t:TS):Prop :=
 ∀ (pins:List (Addr×Obj)) (s:Shared) (σ:St) (H:Hp) (D:Ends),Inv X pins σ H s->t D σ H->wpAny (model X.prog X.w) X.A (execs st X.env) (SP X pins D) X.xe s
def bS(h:wpAny M A t Q E s)(hQ:∀a s,Q a s->Q' a s):wpAny M A t Q' E s:=xB h hQ λ_ _ x=>x
section
def Pu(i:Nat):TE:=λσ H Q=>∃v,σ[i]?=some (some v)/\Q v H
def tC(v:V):TE:=λ_ H Q=>Q v H
def fR(hN:X.N[i]?=some x)(hv:BB X.env.scope x)(hd:(x == ("__debug__":Str))=false:=by decide)(Rp:(x == ("__classdict__":Str))=false:=by decide):PE X (.Name x pos) (Pu i):=by
 intro pins s σ H Q I h;let⟨v,e,h⟩:=h;let⟨m,hn,hl⟩:=I.loc;let⟨u,r,l⟩:=hl i x v hN e hv;have fin:EP X pins σ Q u s:=⟨v,H,I,r,h⟩
 rcases l with ⟨hk,hm⟩|⟨hk,c,hc,Vn⟩
 ·exact wpAny_Name (wpAny_loadName_local I.ok.kind hk hn hm fin) hd
 ·rcases hk with hk|hk
  ·exact wpAny_Name (wpAny_loadName_cell I.ok.kind hk hc Vn fin) hd
  ·exact wpAny_Name (wpAny_loadName_free I.ok.kind hk hc Vn fin Rp) hd
def ML{i j pos}:PE X (.Constant (.int i) j pos) (tC (.int i)):=λ_ _ _ H _ I h=>wpAny_Constant_int ⟨.int i,H,I.tok _,⟨_,rfl⟩,h⟩
def NT{b j pos}:PE X (.Constant (.bool b) j pos) (tC (.bl b)):=λ_ _ _ H _ I h=>Constant_bool ⟨.bl b,H,I,rfl,h⟩
def L9{j pos}:PE X (.Constant .none j pos) (tC .QK):=λ_ _ _ H _ I h=>Constant_none ⟨.QK,H,I,rfl,h⟩
def LO{x j pos}:PE X (.Constant (.str x) j pos) (tC (.str x)):=λ_ _ _ H _ I h=>Calls.Constant_str ⟨.str x,H,I.tok _,⟨_,rfl⟩,h⟩
def Gl(X:Cx)(x:Str):Prop:=X.env.kindOf x=some .globalImplicit
def va{E:Value->Shared->Prop}{pos:Pos}(I:Inv X pins σ H s)(hg:Gl X x)(hm:X.mg x=some u)(h:Q u s)
  (hd:(x == ("__debug__":Str))=false:=by decide):wpAny (model X.prog X.w) X.A (eval (.Name x pos) X.env) Q E s :=
 Calls.Name_function_global I.ok.kind hg (Calls.loadGlobal_global (by rw[I.ok.glob];exact I.mod.glob.keeps I.bk) hm h) hd
def iK{E:Value->Shared->Prop}{pos:Pos}(I:Inv X pins σ H s)(hg:Gl X x)(hm:X.mg x=none)(hv:bootBuiltins x=some u)(h:Q u s)
  (hn:x≠"__name__":=by decide) (hd:(x == ("__debug__":Str))=false:=by decide):wpAny (model X.prog X.w) X.A (eval (.Name x pos) X.env) Q E s:=by
 let⟨mb,h1,h2⟩:=I.mod.blt;exact Calls.Name_function_global I.ok.kind hg (Calls.loadGlobal_builtin (by rw[I.ok.glob];exact I.mod.glob.keeps I.bk) hm (by rw[I.ok.blt];exact h1.keeps I.bk) ((h2 x hn).trans hv) h) hd
def IY(hg:Gl X x)(hm:X.mg x=some u)(r:RelV v u)(hd:(x == ("__debug__":Str))=false:=by decide):PE X (.Name x pos) (tC v) :=
 λ_ _ _ H _ I h=>va I hg hm ⟨v,H,I,r,h⟩ hd
def ID(hg:Gl X x)(hm:X.mg x=none)(hv:bootBuiltins x=some u)(r:RelV v u)(hn:x≠"__name__":=by decide)(hd:(x == ("__debug__":Str))=false:=by decide):PE X (.Name x pos) (tC v) :=
 λ_ _ _ H _ I h=>iK I hg hm hv ⟨v,H,I,r,h⟩ hn hd
def tB(t:TE):TT:=λσ H Q=>t σ H λx H1=>∃c,x=.bl c/\Q c H1
def Ms(h:PE X e t)(he:∀whole,isTrue e X.env whole=(do let v <- whole;standAt e.pos;holding [v] (truthy v)):=by intro _;rfl):PT X e (tB t):=by
 intro pins s σ H Q I hw;refine isTrue_plain (bS (h pins s σ H _ I hw) λv s1 ⟨x,H1,I1,r1,q1⟩=>?_) (he _);let⟨d,rfl,q⟩:=q1;cases r1;exact xX ⟨H1,I1,q⟩
variable {rest:List Expr}
def OI(t u:TT):TT:=λσ H Q=>t σ H λc H1=>if c=true then u σ H1 Q else Q false H1
def Qh(t u:TT):TT:=λσ H Q=>t σ H λc H1=>if c=true then Q true H1 else u σ H1 Q
def Pw(t:TT):TT:=λσ H Q=>t σ H λc H1=>Q (!c) H1
def IW(ha:PT X a tA):PW X (.BoolOp .And [a] pos) tA:=by
 intro wh pins s σ H Q I h;refine isTrue_and (bS (ha pins s σ H Q I h) λc s1 e=>?_);cases c with
 | true=>exact isTrue_and_nil e
 | false=>exact e
def LD(ha:PT X a tA):PW X (.BoolOp .Or [a] pos) tA:=by
 intro wh pins s σ H Q I h;refine isTrue_or (bS (ha pins s σ H Q I h) λc s1 e=>?_);cases c with
 | false=>exact isTrue_or_nil e
 | true=>exact e
def LB(ha:PT X a tA)(hb:PW X (.BoolOp .And (b::rest) pos) tB'):PW X (.BoolOp .And (a::b::rest) pos) (OI tA tB'):=by
 intro wh pins s σ H Q I h;refine isTrue_and (bS (ha pins s σ H _ I h) λc s1 ⟨H1,I1,q1⟩=>?_);cases c with
 | true=>exact hb wh pins s1 σ H1 Q I1 q1
 | false=>exact⟨H1,I1,q1⟩
def NU(ha:PT X a tA)(hb:PW X (.BoolOp .Or (b::rest) pos) tB'):PW X (.BoolOp .Or (a::b::rest) pos) (Qh tA tB'):=by
 intro wh pins s σ H Q I h;refine isTrue_or (bS (ha pins s σ H _ I h) λc s1 ⟨H1,I1,q1⟩=>?_);cases c with
 | true=>exact⟨H1,I1,q1⟩
 | false=>exact hb wh pins s1 σ H1 Q I1 q1
def Lb(ha:PT X a tA):PT X (.UnaryOp .Not a pos) (Pw tA):=by
 intro pins s σ H Q I h;exact isTrue_not (ha pins s σ H (λc H1=>Q (!c) H1) I h)
def Nw(ta tb:TE):TE:=λσ H Q=>ta σ H λx H1=>∃c,x=.bl c/\if c=true then tb σ H1 Q else Q (.bl false) H1
def Ph(ta tb:TE):TE:=λσ H Q=>ta σ H λx H1=>∃c,x=.bl c/\if c=true then Q (.bl true) H1 else tb σ H1 Q
def Ln{op}(h:PE X a t):PE X (.BoolOp op [a] pos) t:=λpins s σ H Q I hw=>BoolOp_one (h pins s σ H Q I hw)
def KI(ha:PE X a ta)(hb:PE X (.BoolOp .And (b::rest) pos) tb):PE X (.BoolOp .And (a::b::rest) pos) (Nw ta tb):=by
 intro pins s σ H Q I h;refine BoolOp_and (bS (ha pins s σ H _ I h) λv s1 ⟨x,H1,I1,r1,q1⟩=>?_);let⟨c,rfl,q1⟩:=q1;cases r1;refine xX ?_;cases c with
 | true=>exact hb pins s1 σ H1 Q I1 q1
 | false=>exact⟨.bl false,H1,I1,rfl,q1⟩
def Ks(ha:PE X a ta)(hb:PE X (.BoolOp .Or (b::rest) pos) tb):PE X (.BoolOp .Or (a::b::rest) pos) (Ph ta tb):=by
 intro pins s σ H Q I h;refine BoolOp_or (bS (ha pins s σ H _ I h) λv s1 ⟨x,H1,I1,r1,q1⟩=>?_);let⟨c,rfl,q1⟩:=q1;cases r1;refine xX ?_;cases c with
 | false=>exact hb pins s1 σ H1 Q I1 q1
 | true=>exact⟨.bl true,H1,I1,rfl,q1⟩
def Qv(t:TT)(ta tb:TE):TE:=λσ H Q=>t σ H λc H1=>if c=true then ta σ H1 Q else tb σ H1 Q
def FJ(hc:PT X c tA)(ha:PE X a ta)(hb:PE X b tb):PE X (.IfExp c a b pos) (Qv tA ta tb):=by
 intro pins s σ H Q I h;refine wpAny_IfExp (bS (hc pins s σ H _ I h) λd s1 ⟨H1,I1,q1⟩=>?_);cases d with
 | true=>exact ha pins s1 σ H1 Q I1 q1
 | false=>exact hb pins s1 σ H1 Q I1 q1
end
def gp(K:W.Frag)(H:Hp)(a:Addr)(xs:List V):Prop :=
 Rd H a (.lst xs) \/
  ∃ (o:Obj) (its:Array Value) (n:Nat),K.lookup a=some o/\o.cls=.type "list"/\o.dict=none/\o.data=.seq its n/\its.size<=sizeLine/\aD xs its.toList
def gq(K:W.Frag)(H:Hp)(a:Addr)(xs:List V):Prop :=
 Rd H a (.tup xs) \/
  ∃ (o:Obj) (its:Array Value) (n:Nat),K.lookup a=some o/\o.cls=.type "tuple"/\o.dict=none/\o.data=.seq its n/\its.size<=sizeLine/\aD xs its.toList
def PP:Value->Option V
 | .none=>some .QK
 | .bool b=>some (.bl b)
 | .int i _=>some (.int i)
 | .str x _=>some (.str x)
 | .bytes b _=>some (.byt b)
 | .float b _=>some (.flt b)
 | .ref a=>some (.ref a)
 | .type n=>some (.ty n)
 | _=>none
def RelV.abs(r:RelV x u):PP u=some x:=by
 cases x with
 | QK=>cases r;rfl
 | bl _=>cases r;rfl
 | int _=>let⟨t,rfl⟩:=r;rfl
 | str _=>let⟨t,rfl⟩:=r;rfl
 | byt _=>let⟨t,rfl⟩:=r;rfl
 | flt _=>let⟨t,rfl⟩:=r;rfl
 | ref _=>cases r;rfl
 | ty _=>cases r;rfl
def RelV.inj(r:RelV x u)(q:RelV y u):x=y:=xE (r.abs.symm.trans q.abs)
def aD.inj(h:aD xs us):aD ys us->xs=ys:=by
 induction h generalizing ys with
 | nil=>intro h;cases h;rfl
 | cons r t ih=>intro h;cases h with|cons r' t'=>rw[r.inj r',ih t']
def gp.of{K:W.Frag}(h:H a=some (.lst xs)):gp K H a xs:=.inl (.inl h)
def Inv.list(I:Inv X pins σ H s)(h:gp X.K H a xs):∃its:List Value,aD xs its/\PlainL s.heap a its.toArray/\xs.length<=sizeLine:=by
 rcases h with h|⟨o,its,n,hk,hc,hd,hs,hz,r⟩
 ·let⟨z,its,n,r,e⟩:=h.ok I.QR;exact⟨its,r,⟨_,n,e,rfl,rfl,rfl⟩,z⟩
 ·refine⟨its.toList,r,⟨o,n,I.TB a o hk,hc,hd,by simpa using hs⟩,?_⟩;have e:=r.length;simp?[vZ] at e;lia
def Inv.tuple(I:Inv X pins σ H s)(h:gq X.K H a xs):∃its:List Value,aD xs its/\IsTup s.heap a its.toArray/\xs.length<=sizeLine:=by
 rcases h with h|⟨o,its,n,hk,hc,_,hs,hz,r⟩
 ·let⟨z,its,r,p⟩:=h.ok I.QR;exact⟨its,r,p.1,z⟩
 ·refine⟨its.toList,r,⟨o,I.TB a o hk,hc,n,by simpa using hs⟩,?_⟩;have e:=r.length;simp?[vZ] at e;lia
def Inv.Sa(I:Inv X pins σ H s)(h:gp X.K H a xs)(h':gp X.K H a ys):xs=ys:=by
 let⟨its,r,⟨o,n,e,_,_,d⟩,_⟩:=I.list h;let⟨its',r',⟨o',n',e',_,_,d'⟩,_⟩:=I.list h';rw[e] at e';cases e';rw[d] at d';injection d' with d1 _
 have:its=its':=by simpa using jD Array.toList d1
 subst this;exact r.inj r'
def Inv.RU(I:Inv X pins σ H s)(h:gq X.K H a xs)(h':gq X.K H a ys):xs=ys:=by
 let⟨its,r,⟨o,e,_,n,d⟩,_⟩:=I.tuple h;let⟨its',r',⟨o',e',_,n',d'⟩,_⟩:=I.tuple h';rw[e] at e';cases e';rw[d] at d';injection d' with d1 _
 have:its=its':=by simpa using jD Array.toList d1
 subst this;exact r.inj r'
abbrev Cx.RP(X:Cx)(E:Value->Shared->Prop):Cx:={ X with xe:=E }
abbrev Cx.nox(X:Cx):Cx:=X.RP λ_ _=>False
def Cx.Ok.RP{X:Cx}(ok:X.Ok)(E:Value->Shared->Prop):(X.RP E).Ok :=
 ⟨ok.mod,ok.kind,ok.glob,ok.blt,ok.above,ok.inj,ok.has,ok.XD,ok.hd,ok.frames,ok.stk,ok.exf,ok.bs,ok.Vl,ok.Tz,ok.Ua,ok.RJ,ok.Xi⟩
def Cx.Ok.Ra{X:Cx}{E:Value->Shared->Prop}(ok:(X.RP E).Ok):X.Ok :=
 ⟨ok.mod,ok.kind,ok.glob,ok.blt,ok.above,ok.inj,ok.has,ok.XD,ok.hd,ok.frames,ok.stk,ok.exf,ok.bs,ok.Vl,ok.Tz,ok.Ua,ok.RJ,ok.Xi⟩
def Inv.RP(I:Inv X pins σ H s)(E:Value->Shared->Prop):Inv (X.RP E) pins σ H s:=⟨I.ok.RP E,I.os,I.bare,I.base,I.loc,I.cell,I.free,I.Q5,I.pin,I.QR,I.len⟩
def Inv.Ra(I:Inv (X.RP E) pins σ H s):Inv X pins σ H s:=⟨I.ok.Ra,I.os,I.bare,I.base,I.loc,I.cell,I.free,I.Q5,I.pin,I.QR,I.len⟩
def SP.Ra{D:Ends}(h:SP (X.RP E) pins D f s'):SP X pins D f s':=by
 cases f with
 | next=>let⟨σ',H',I,q⟩:=h;exact⟨σ',H',I.Ra,q⟩
 | brk=>let⟨σ',H',I,q⟩:=h;exact⟨σ',H',I.Ra,q⟩
 | cont=>let⟨σ',H',I,q⟩:=h;exact⟨σ',H',I.Ra,q⟩
 | ret u=>let⟨v,σ',H',I,r,q⟩:=h;exact⟨v,σ',H',I.Ra,r,q⟩
def A2.nox{st:List Stmt}(h:A2 X.nox st t):A2 X st t:=λpins s σ H D I hw =>
 xB (h pins s σ H D (I.RP _) hw) (λ_ _ q=>q.Ra) λ_ _ z=>False.elim z
section
variable {st:Stmt}{rest:List Stmt}
def Ft:TS:=λD σ H=>D.nx σ H
def OQ(t u:TS):TS:=λD σ H=>t { D with nx:=u D } σ H
def HM:A2 X [] Ft:=λ_ _ σ H _ I h=>vN ⟨σ,H,I,h⟩
def Ep(h1:PS X st t)(h2:A2 X rest u):A2 X (st::rest) (OQ t u):=by
 intro pins s σ H D I h;refine wpAny_execs_cons (bS (h1 pins s σ H { D with nx:=u D } I h) λf s1 q=>?_);cases f with
 | next =>
  let⟨σ',H',I',q⟩:=q;exact h2 pins s1 σ' H' D I' q
 | ret v=>exact q
 | brk=>exact q
 | cont=>exact q
def HL(h1:PS X st t):A2 X [st] t:=by
 intro pins s σ H D I h;refine wpAny_execs_cons (bS (h1 pins s σ H D I h) λf s1 q=>?_);cases f with
 | next=>exact vN q
 | ret v=>exact q
 | brk=>exact q
 | cont=>exact q
def HU:PS X (.Pass pos) Ft:=λ_ _ σ H _ I h=>wpAny_Pass ⟨σ,H,I,h⟩
def Inv.quiet(I:Inv X pins σ H s):interactive X.env=false:=by simp[interactive,I.ok.kind]
def MB{x j pos pos'}:PS X (.Expr (.Constant (.str x) j pos) pos') Ft:=λ_ s σ H _ I h=>wpAny_Expr (Calls.Constant_str (show SP X _ _ .next { s with toks:=s.toks+1 } from ⟨σ,H,I.tok _,h⟩)) I.quiet
def NQ(te:TE):TS:=λD σ H=>te σ H λ_ H1=>D.nx σ H1
def mL(he:PE X e te)(hs:swapsWith e none pos.line X.env=pure false:=by rfl):PS X (.Expr e pos) (NQ te):=by
 intro pins s σ H D I h;exact wpAny_Expr_any (bS (he pins s σ H _ I h) λv s1 ⟨x,H1,I1,r1,q1⟩=>⟨σ,H1,I1,q1⟩) I.quiet hs
def O5(te:TE):TS:=λD σ H=>te σ H D.rt
def Ld(he:PE X e te):PS X (.Return (some e) pos) (O5 te):=by
 intro pins s σ H D I h;exact wpAny_Return_some (bS (he pins s σ H _ I h) λv s1 ⟨x,H1,I1,r1,q1⟩=>⟨x,σ,H1,I1,r1,q1⟩)
def Py(c:TT)(t u:TS):TS:=λD σ H=>c σ H λb H1=>if b=true then t D σ H1 else u D σ H1
def KF(hc:PT X c tc)(ha:A2 X a t)(hb:A2 X b u):PS X (.If c a b pos) (Py tc t u):=by
 intro pins s σ H D I h;refine wpAny_If (bS (hc pins s σ H _ I h) λd s1 ⟨H1,I1,q1⟩=>?_);cases d with
 | true=>exact ha pins s1 σ H1 D I1 q1
 | false=>exact hb pins s1 σ H1 D I1 q1
end
abbrev TG:=V->St->Hp->(St->Hp->Prop)->Prop
abbrev N8:=List V->St->Hp->(St->Hp->Prop)->Prop
def PG(X:Cx)(target:Expr)(t:TG):Prop :=
 ∀ (pins:List (Addr×Obj)) (s:Shared) (σ:St) (H:Hp) (v:V) (u:Value) (Q:St->Hp->Prop),Inv X pins σ H s->RelV v u->t v σ H Q ->
  wpAny (model X.prog X.w) X.A (assign target X.env u) (λ_ s'=>∃σ' H',Inv X pins σ' H' s'/\Q σ' H') X.xe s
def Ow(X:Cx)(ts:List Expr)(t:N8):Prop :=
 ∀ (pins:List (Addr×Obj)) (s:Shared) (σ:St) (H:Hp) (vs:List V) (us:List Value) (Q:St->Hp->Prop),Inv X pins σ H s->aD vs us->t vs σ H Q ->
  wpAny (model X.prog X.w) X.A (assignInOrder ((assignEach ts X.env).map (·.2)) us) (λ_ s'=>∃σ' H',Inv X pins σ' H' s'/\Q σ' H') X.xe s
abbrev N6:=V->V->V->Hp->(Hp->Prop)->Prop
def Mg(X:Cx)(t:N6):Prop :=
 ∀ (pins:List (Addr×Obj)) (s:Shared) (σ:St) (H:Hp) (o i v:V) (ov iv u:Value) (Q:Hp->Prop),Inv X pins σ H s->RelV o ov->RelV i iv->RelV v u->t o i v H Q ->
  wpAny (model X.prog X.w) X.A (setItem ov iv u) (λ_ s'=>∃H',Inv X pins σ H' s'/\Q H') X.xe s
def vx(i:Nat):TG:=λv σ H Q=>Q (σ.set i (some v)) H
def fM(hN:X.N.Nodup)(hi:X.N[i]?=some x)(hx:Loc X.env.scope x)(hf:X.fn x=true\/X.env.scope.names.lookup x=some .local:=by first|exact .inl rfl|exact .inr rfl|assumption):PG X (.Name x pos) (vx i):=by
 intro pins s σ H v u Q I r h;exact wpAny_assign_Name (yn I hN hi hx r (λs' I'=>⟨_,H,I',h⟩) hf)
def OT:N8:=λvs σ H Q=>vs=[]/\Q σ H
def NK(t:TG)(u:N8):N8:=λvs σ H Q=>∃v r,vs=v::r/\t v σ H λσ' H'=>u r σ' H' Q
def uN:Ow X [] OT:=by
 intro pins s σ H vs us Q I r h;let⟨e,h⟩:=h;subst e;cases r;exact assignInOrder_nil ⟨σ,H,I,h⟩
def gm(h1:PG X e t)(h2:Ow X es u)
  (hs:(assignEach (e::es) X.env).map (·.2)=assign e X.env::(assignEach es X.env).map (·.2):=by rfl):Ow X (e::es) (NK t u):=by
 intro pins s σ H vs us Q I r h;let⟨v,vr,e1,h⟩:=h;subst e1;cases r with
 | cons r rr =>
  rw[hs];refine assignInOrder_cons (bS (h1 pins s σ H _ _ _ I r h) λ_ s1 ⟨Xj,H1,I1,q1⟩=>?_);exact h2 pins s1 Xj H1 _ _ Q I1 rr q1
def Pm(K:W.Frag)(n:Nat)(t:N8):TG:=λv σ H Q=>∃a xs,v=.ref a/\gq K H a xs/\xs.length=n/\t xs σ H Q
def AV{k:Nat}(hc:X.calm=true)(h:Ow X es t)
  (hn:(assignEach es X.env).length=n:=by rfl) (XH:(assignEach es X.env).findIdx? (·.1)=none:=by rfl):PG X (.Tuple es k pos) (Pm X.K n t):=by
 intro pins s σ H v u Q I r hw;let⟨a,xs,e1,hq,hl,hw⟩:=hw;subst e1;cases r;let⟨its,rv,ht,hz⟩:=I.tuple hq;refine assign_Tuple_tuple (I.ok.hd hc) ht (by simp[hn,<- hl,rv.length]) XH λh' hx=>?_;have I1:Inv X pins σ H { s with heap:=h' }:=I.kept (t':=s.toks) λb o e=>hx b o (yS (zZ e)) e;exact h pins _ σ H xs _ Q I1 (by simpa using rv) hw
def ig(to ti:TE)(t:N6):TG:=λv σ H Q=>to σ H λo H1=>ti σ H1 λi H2=>t o i v H2 λH3=>Q σ H3
def Ee(ho:PE X o to)(hi:PE X i ti)(hs:Mg X t)
  (ha:∀v,assign (.Subscript o i pos) X.env v=(do
   let ov <- holding [v] (eval o X.env)
   let iv <- holding [v,ov] (eval i X.env)
   standAt pos
   holding [v,ov,iv] (setItem ov iv v)
   release [v,ov,iv] []):=by intro _;rfl):PG X (.Subscript o i pos) (ig to ti t):=by
 intro pins s σ H v u Q I r h;rw[ha];refine zW (xY (bS (ho pins s σ H _ I h) λov s1 ⟨x,H1,I1,r1,q1⟩=>?_));refine zW (xY (bS (hi pins s1 σ H1 _ I1 q1) λiv s2 ⟨y,H2,I2,r2,q2⟩=>?_));refine zW (vB (zW (xY (bS (hs pins s2 σ H2 x y v ov iv u _ I2 r1 r2 r q2) λ_ s3 ⟨H3,I3,q3⟩=>?_))));exact wpAny_release ⟨σ,H3,I3,q3⟩
def EZ(te:TE)(g:TG):TS:=λD σ H=>te σ H λx H1=>g x σ H1 D.nx
def FI(he:PE X e te)(hg:PG X tg g)(hs:swapsWithSole [tg] e pos.line X.env=pure false:=by rfl)(hw:swappedStores [tg] e X.env=pure none:=by rfl)
  (h1:(assignEach [tg] X.env).map (·.2)=[assign tg X.env]:=by rfl):PS X (.Assign [tg] e pos) (EZ te g):=by
 intro pins s σ H D I h;refine wpAny_Assign_stores (bS (he pins s σ H _ I h) λv s1 ⟨x,H1,I1,r1,q1⟩=>?_) hs hw;rw[h1];exact bS (hg pins s1 σ H1 x v _ I1 r1 q1) λ_ s2 q=>q
def uZ(hN:X.N.Nodup)(hi:X.N[i]?=some x)(hx:Loc X.env.scope x)(he:PE X e te)(hs:swapsWith e (some (.Name x pos')) pos.line X.env=pure false:=by rfl)(hf:X.fn x=true\/X.env.scope.names.lookup x=some .local:=by first|exact .inl rfl|exact .inr rfl|assumption) :
  PS X (.Assign [.Name x pos'] e pos) (EZ te (vx i)):=by
 intro pins s σ H D I h;refine wpAny_Assign_Name (bS (he pins s σ H _ I h) λv s1 ⟨y,H1,I1,r1,q1⟩=>?_) hs;exact yn I1 hN hi hx r1 (λs2 I2=>⟨_,H1,I2,q1⟩) hf
def Li(c:TT)(tb:TS):TS:=λD σ H=>∃W:Nat->St->Hp->Prop,(∃m,W m σ H)/\∀m σ H,W m σ H ->
 c σ H λb H1=>if b=true then ∃N:St->Hp->Prop,(∀σ' H',N σ' H'->∃m',m' < m/\W m' σ' H')/\tb { D with nx:=N,ct:=N,bk:=D.nx } σ H1 else D.nx σ H1
def GB(hp:PassesOwn (model X.prog X.w) X.A X.env X.xe)(hc:PT X c tc)(hb:A2 X body tb):PS X (.While c body [] pos) (Li tc tb):=by
 intro pins s σ H D I h;let⟨W,⟨m0,w0⟩,turn⟩:=h;refine wpAny_While (codeAny_whileLoop (λn s'=>∃σ' H',Inv X pins σ' H' s'/\W n σ' H') ?_ m0 ⟨σ,H,I,w0⟩);rintro n s1 ⟨Xj,H1,I1,w1⟩;refine jK hp (bS (hc pins s1 Xj H1 _ I1 (turn n Xj H1 w1)) λb s2 ⟨H2,I2,q2⟩=>?_);cases b with
 | true =>
  let⟨N,hN,q2⟩:=q2;rw[yM rfl];refine jK hp (bS (hb pins s2 Xj H2 _ I2 q2) λf s3 q3=>?_);cases f with
  | next =>
   let⟨Uc,H3,I3,n3⟩:=q3;let⟨m',hm,w3⟩:=hN Uc H3 n3;exact⟨m',hm,Uc,H3,I3,w3⟩
  | cont =>
   let⟨Uc,H3,I3,n3⟩:=q3;let⟨m',hm,w3⟩:=hN Uc H3 n3;exact⟨m',hm,Uc,H3,I3,w3⟩
  | brk=>exact q3
  | ret v=>exact q3
 | false =>
  rw[yO xA];exact vN ⟨Xj,H2,I2,q2⟩
structure It where
 go:Nat->Hp->Prop
 Vo:Nat->Hp->V->Hp->Prop
 stop:Nat->Hp->Prop
def cB(X:Cx)(pins:List (Addr×Obj))(H:Hp)(b:Addr):Prop :=
 H b=none/\b≠X.env.locals/\b∉X.fs/\(b∈X.ex\/X.QZ.heap.objs.size<=b)/\(∀x c,X.env.cells.lookup x=some c->c≠b)/\∀p∈X.pn++pins,p.1≠b
def Inv.RL(I:Inv X pins σ H s)(hb:s.heap.objs.size<=b)(hn:H' b=none):cB X pins H' b:=by
 refine⟨hn,jJ (zQ I.lt hb),I.aa6 hb,.inr (yE I.sz hb),λx c e z=>?_,λp hp z=>?_⟩
 ·let⟨v,q⟩:=I.cell x c e;exact absurd (zQ q.lt (by rw[z];exact hb)) (qF _)
 ·exact absurd (zQ (zZ (I.pin p hp).1) (by rw[z];exact hb)) (qF _)
structure Turn(P:Program)(w:World)(K:W.Frag)(tg:Expr)(J:It)(fp:List Addr)(it:Addr)(tn:Nat->Heap->Prop):Prop where
 mem:it∈fp
 obj:∀i h,tn i h->∀b∈fp,∃o,h.get? b=some o/\∀v,o.data≠.cell v
 keep:∀i h h',tn i h->(∀b∈fp,∀o,h.get? b=some o->h'.get? b=some o)->tn i h'
 item:∀ (X:Cx),X.prog=P->X.w=w->X.K=K->X.calm=true->∀ (i:Nat) (pins:List (Addr×Obj)) (s:Shared) (σ:St) (H:Hp) (E:Value->Shared->Prop),Inv X pins σ H s->(∀b∈fp,cB X pins H b)->tn i s.heap->J.go i H ->
  wpAny (model P w) X.A (pyNext (.ref it)) (λr s1=>∃u,r=some u /\
   wpAny (model P w) X.A (letOwnedTupleGo tg (.ref it) u) (λ_ s2=>∃x H',Inv X pins σ H' s2/\RelV x u/\J.Vo i H x H'/\tn (i+1) s2.heap/\∀b∈fp,H' b=none) E s1) E s
 done:∀ (X:Cx),X.prog=P->X.w=w->X.K=K->X.calm=true->∀ (i:Nat) (pins:List (Addr×Obj)) (s:Shared) (σ:St) (H:Hp) (E:Value->Shared->Prop),Inv X pins σ H s->(∀b∈fp,cB X pins H b)->tn i s.heap->J.stop i H ->
  wpAny (model P w) X.A (pyNext (.ref it)) (λr s1=>r=none/\Inv X pins σ H s1) E s
 self:∀ (A:Around) (i:Nat) (s:Shared) (Q:Value->Shared->Prop) (E:Value->Shared->Prop),tn i s.heap->Q (.ref it) s->wpAny (model P w) A (pyIter (.ref it)) Q E s
abbrev TI:=St->Hp->(It->Hp->Prop)->Prop
def PU(X:Cx)(pins:List (Addr×Obj))(σ:St)(tg:Expr)(R:It->Hp->Prop)(itv:Value)(s2:Shared):Prop :=
 ∃ (it:Addr) (fp:List Addr) (tn:Nat->Heap->Prop) (J:It) (H':Hp),itv=.ref it/\Inv X pins σ H' s2/\Turn X.prog X.w X.K tg J fp it tn/\tn 0 s2.heap/\(∀b∈fp,cB X pins H' b)/\R J H'
def PI(X:Cx)(tg iter:Expr)(wi:TI):Prop :=
 ∀ (pins:List (Addr×Obj)) (s:Shared) (σ:St) (H:Hp) (R:It->Hp->Prop),Inv X pins σ H s->wi σ H R ->
  wpAny (model X.prog X.w) X.A (eval iter X.env) (λv s1=>wpAny (model X.prog X.w) X.A (pyIter v) (PU X pins σ tg R) X.xe s1) X.xe s
def EB(ho:s.heap.get? it=some o)(hc:o.cls=.type n)(hd:o.data=.fields vs)
  (hn:["enumerate","zip","dict_itemiterator","dict_reverseitemiterator","odict_iterator","itertools.zip_longest","itertools.pairwise"].contains n=false) (hQ:Q () s):wpAny M A (letOwnedTupleGo tg (.ref it) u) Q E s:=by
 unfold letOwnedTupleGo;cases tg<;>first
  | exact zX hQ
  | (cases u<;>first
    | exact zX hQ
    | (refine zW (wpAny_load ho ?_)
       rw[hc,hd];show wpAny M A (if (["enumerate","zip","dict_itemiterator","dict_reverseitemiterator","odict_iterator","itertools.zip_longest","itertools.pairwise"].contains n&&vs[0]? == some (rawInt _))=true then _ else _) Q E s;rw[yO (by intro h;rw[hn,vV] at h;cases h)];exact zX hQ))
def OO(K:W.Frag)(a:Addr):It :=
 ⟨λi H=>∃xs x,gp K H a xs/\xs[i]?=some x,λi H x H'=>H'=H/\∀xs,gp K H a xs->xs[i]?=some x,λi H=>∃xs,gp K H a xs/\xs.length<=i⟩
def Pe(K:W.Frag)(a:Addr):It :=
 ⟨λi H=>∃xs x,gq K H a xs/\xs[i]?=some x,λi H x H'=>H'=H/\∀xs,gq K H a xs->xs[i]?=some x,λi H=>∃xs,gq K H a xs/\xs.length<=i⟩
def Oy(lo:Int)(n:Nat):It:=⟨λi _=>i < n,λi H x H'=>H'=H/\x=.int (lo+i),λi _=>n<=i⟩
def Ds{K:W.Frag}(a it:Addr):Turn P w K tg (OO K a) [it] it (λi h=>h.IsListIter it a i) where
 mem:=by simp
 obj:=λi h st b hb=>by
  have e:b=it:=by simpa using hb
  subst e;let⟨o,e,c,d⟩:=st;exact⟨o,e,λv z=>by rw[d] at z;cases z⟩
 keep:=λi h h' st k=>st.at λo e=>k it (by simp) o e
 item:=by
  intro X hP hw hK hc i pins s σ H E I hf st hg;subst hP hw hK;let⟨xs,x,hq,hx⟩:=hg;let⟨its,rv,p,hz⟩:=I.list hq;let⟨u,hu,ru⟩:=rv.get hx;let⟨f0,f1,f2,f3,f4,f5⟩:=hf it (by simp);refine wpAny_pyNext_list_item st p.isList (x:=u) (by simpa using hu) λh' Rh sb=>?_;have I1:Inv X pins σ H { s with heap:=h' }:=I.turned (t':=s.toks) (λb o hb e=>(sb.2 b hb).trans e) f0 f1 f3 f4 f5;let⟨o,e,c,d⟩:=id Rh;exact⟨u,rfl,EB (s:={ s with heap:=h' }) e c d (by decide) ⟨x,H,I1,ru,⟨rfl,λys hy=>by rw[I.Sa hy hq];exact hx⟩,Rh,λb hb=>(hf b hb).1⟩⟩
 done:=by
  intro X hP hw hK hc i pins s σ H E I hf st hg;subst hP hw hK;let⟨xs,hq,hx⟩:=hg;let⟨its,rv,p,hz⟩:=I.list hq;let⟨f0,f1,f2,f3,f4,f5⟩:=hf it (by simp);have hl:=rv.length;exact wpAny_pyNext_list_end (I.ok.hd hc) st p.isList (by simp;lia) λh' eb=>⟨rfl,I.turned (t':=s.toks) (λb o hb e=>eb b o hb e) f0 f1 f3 f4 f5⟩
 self:=λ_ _ _ _ _ st h=>wpAny_pyIter_listiter st h
def A1{K:W.Frag}(a it:Addr):Turn P w K tg (Pe K a) [it] it (λi h=>h.IsTupleIter it a i) where
 mem:=by simp
 obj:=λi h st b hb=>by
  have e:b=it:=by simpa using hb
  subst e;let⟨o,e,c,d⟩:=st;exact⟨o,e,λv z=>by rw[d] at z;cases z⟩
 keep:=λi h h' st k=>st.at λo e=>k it (by simp) o e
 item:=by
  intro X hP hw hK hc i pins s σ H E I hf st hg;subst hP hw hK;let⟨xs,x,hq,hx⟩:=hg;let⟨its,rv,p,hz⟩:=I.tuple hq;let⟨u,hu,ru⟩:=rv.get hx;let⟨f0,f1,f2,f3,f4,f5⟩:=hf it (by simp);refine wpAny_pyNext_tuple_item st (show s.heap.IsTuple a its.toArray from p) (x:=u) (by simpa using hu) λh' Rh sb=>?_;have I1:Inv X pins σ H { s with heap:=h' }:=I.turned (t':=s.toks) (λb o hb e=>(sb.2 b hb).trans e) f0 f1 f3 f4 f5;let⟨o,e,c,d⟩:=id Rh;exact⟨u,rfl,EB (s:={ s with heap:=h' }) e c d (by decide) ⟨x,H,I1,ru,⟨rfl,λys hy=>by rw[I.RU hy hq];exact hx⟩,Rh,λb hb=>(hf b hb).1⟩⟩
 done:=by
  intro X hP hw hK hc i pins s σ H E I hf st hg;subst hP hw hK;let⟨xs,hq,hx⟩:=hg;let⟨its,rv,p,hz⟩:=I.tuple hq;let⟨f0,f1,f2,f3,f4,f5⟩:=hf it (by simp);have hl:=rv.length;exact wpAny_pyNext_tuple_end (I.ok.hd hc) st (show s.heap.IsTuple a its.toArray from p) (by simp;lia) λh' eb=>⟨rfl,I.turned (t':=s.toks) (λb o hb e=>eb b o hb e) f0 f1 f3 f4 f5⟩
 self:=λ_ _ _ _ _ st h=>wpAny_pyIter_tupleiter st h
def As{K:W.Frag}(it:Addr)(lo:Int)(n:Nat):Turn P w K tg (Oy lo n) [it] it (λi h=>IsRangeIter h it (lo+(i:Nat) * 1) ((n:Int) - (i:Nat)) 1) where
 mem:=by simp
 obj:=λi h st b hb=>by
  have e:b=it:=by simpa using hb
  subst e;exact⟨_,st,λv z=>by
   have z':Data.fields _=Data.cell v:=z;cases z'⟩
 keep:=λi h h' st k=>k it (by simp) _ st
 item:=by
  intro X hP hw hK hc i pins s σ H E I hf st hg;subst hP hw hK;let⟨f0,f1,f2,f3,f4,f5⟩:=hf it (by simp);have W:=Walks.range (prog:=X.prog) (w:=X.w) (I.ok.hd hc) it lo 1 n;refine W.item i s _ _ hg st λv h' tk hv Rh kk=>?_;let⟨t,rfl⟩:=hv;have I1:Inv X pins σ H { s with heap:=h',toks:=tk }:=I.turned (λb o hb e=>kk b o (by simpa using hb) e) f0 f1 f3 f4 f5;refine⟨_,rfl,EB (s:={ s with heap:=h',toks:=tk }) (n:="range_iterator") Rh rfl rfl (by decide) ⟨.int (lo+i),H,I1,⟨t,?_⟩,⟨rfl,rfl⟩,Rh,λb hb=>(hf b hb).1⟩⟩;rw[Int.mul_one]
 done:=by
  intro X hP hw hK hc i pins s σ H E I hf st hg;subst hP hw hK;let⟨f0,f1,f2,f3,f4,f5⟩:=hf it (by simp);exact wpAny_pyNext_range_end (I.ok.hd hc) st (by have:n<=i:=hg;lia) λh' eb=>⟨rfl,I.turned (t':=s.toks) (λb o hb e=>eb b o hb e) f0 f1 f3 f4 f5⟩
 self:=λ_ _ _ _ _ st h=>wpAny_pyIter_rangeiter st h
def Er{lo:Int}{t u v:Tok}{tk:Nat}(I:Inv X pins σ H s)(h1:-(2 ^ 62)<=lo)(h2:lo < 2 ^ 62)(h3:-(2 ^ 62)<=hi)(h4:hi < 2 ^ 62)
  (q:R (Oy lo (hi - lo).toNat) H):wpAny (model X.prog X.w) X.A (pyIter (.ref s.heap.objs.size)) (PU X pins σ tg R) E { s with heap:=s.heap.push { cls:=.type "range",data:=.fields #[.int lo t,.int hi u,.int 1 v] },toks:=tk }:=by
 refine wpAny_pyIter_range (IsRange.new ..) (small_one h1 h2 h3 h4) ?_;have I1:Inv X pins σ H { s with heap:=s.heap.push { cls:=.type "range",data:=.fields #[.int lo t,.int hi u,.int 1 v] },toks:=tk }:=I.kept λb o e=>zV _ e;refine⟨(s.heap.push { cls:=.type "range",data:=.fields #[.int lo t,.int hi u,.int 1 v] }).objs.size,[(s.heap.push { cls:=.type "range",data:=.fields #[.int lo t,.int hi u,.int 1 v] }).objs.size],_,_,H,rfl,
  I1.kept (t':=tk) λb o e=>zV _ e,As _ lo (hi - lo).toNat,?_,λb hb=>?_,q⟩
 ·have e1:lo+((0:Nat):Int) * 1=lo:=by simp
  have e2:(((hi - lo).toNat:Nat):Int) - ((0:Nat):Int)=Builtin.Range.rangeSize lo hi 1:=by rw[rangeSize_one];split<;>lia
  show IsRangeIter _ _ (lo+((0:Nat):Int) * 1) ((((hi - lo).toNat:Nat):Int) - ((0:Nat):Int)) 1;rw[e1,e2];exact zY _ rfl
 ·have e:b=(s.heap.push { cls:=.type "range",data:=.fields #[.int lo t,.int hi u,.int 1 v] }).objs.size:=by simpa using hb
  subst e;exact I1.RL (yN _) (I1.QR.fresh (yN _))
def Ni(ta:TA):TI:=λσ H R=>ta σ H λvs H1=>∃j:Int,vs=[.int j]/\-(2 ^ 62)<=j/\j < 2 ^ 62/\R (Oy 0 j.toNat) H1
def D4(hg:Gl X "range")(hm:X.mg "range"=none)(ha:PA X [a] ta)(hs:starEach [a] X.env=[(false,eval a X.env)]:=by rfl):PI X tg (.Call (.Name "range" p) [a] [] pos) (Ni ta):=by
 intro pins s σ H R I h;refine Call_ (iK I hg hm boot_range (qT (bS (ha pos pins s σ H _ I h) λus s1 ⟨vs,H1,I1,r1,q1⟩=>?_) hs rfl));let⟨j,e,q1,q2,q⟩:=q1;subst e;cases r1 with
 | cons r rr =>
  cases rr;let⟨t,rfl⟩:=r;exact call_range_1 (Er I1 (by lia) (by lia) q1 q2 (by simpa using q))
def Pq(wi:TI)(g:TG)(tb:TS):TS:=λD σ H=>wi σ H λJ H1=>∃W:Nat->Nat->St->Hp->Prop,(∃m,W 0 m σ H1)/\∀i m σ H,W i m σ H ->
 (J.stop i H/\D.nx σ H)\/(J.go i H/\∃N:St->Hp->Prop,(∀σ' H',N σ' H'->∃m',m' < m/\W (i+1) m' σ' H')/\∀x H',J.Vo i H x H'->g x σ H' λS8 H2=>tb { D with nx:=N,ct:=N,bk:=D.nx } S8 H2)
def nH(fp:List Addr)(h:Heap):List (Addr×Obj):=fp.filterMap λb=>(h.get? b).map λo=>(b,o)
def d0(hb:b∈fp)(e:h.get? b=some o):(b,o)∈nH fp h:=List.mem_filterMap.mpr ⟨b,hb,by rw[e];rfl⟩
def Dk(hp:p∈nH fp h):p.1∈fp/\h.get? p.1=some p.2:=by
 let⟨b,hb,e⟩:=List.mem_filterMap.mp hp;cases q:h.get? b with
 | none=>rw[q] at e;cases e
 | some o =>
  rw[q] at e;have e':(b,o)=p:=xE e;subst e';exact⟨hb,q⟩
def Inv.pinned(I:Inv X pins σ H s)(hf:∀b∈fp,cB X pins H b)(ho:∀b∈fp,∃o,s.heap.get? b=some o/\∀v,o.data≠.cell v):Inv X (pins++nH fp s.heap) σ H s :=
 I.S7 λp hp=>(List.mem_append.mp hp).elim (λz=>I.pin p (yF _ z)) λz=>by
  let⟨hb,e⟩:=Dk z;let⟨f0,f1,f2,_⟩:=hf p.1 hb;let⟨o,e',d⟩:=ho p.1 hb;rw[e] at e';cases e';exact⟨e,f0,f1,f2,d⟩
def Inv.Q6(I:Inv X (pins++pl) σ H s):Inv X pins σ H s:=I.S7 λp hp=>I.pin p (yF _ (qK _ hp))
def LS{pos:Pos}(hp:PassesOwn (model X.prog X.w) X.A X.env X.xe)(hc:X.calm=true)(hi:PI X tg iter wi)(hg:PG X tg g)(hb:A2 X body tb)
  (hs:∀x,foldedSetIterable iter X.env x=pure x:=by intro _;rfl):PS X (.For tg iter body [] pos) (Pq wi g tb):=by
 intro pins s σ H D I h;refine wpAny_For (bS (hi pins s σ H _ I h) λv s1 h1=>bS h1 λitv s2 h2=>?_) hs;let⟨it,fp,tn,J,H2,e,I2,T,UM,f2,W,⟨m0,w0⟩,turn⟩:=h2;subst e;have Wi:∀ {H':Hp},(∀b∈fp,H' b=none)->∀b∈fp,cB X pins H' b:=λhn b hb=>⟨hn b hb,(f2 b hb).2⟩
 refine codeAny_forLoop_any (λn s'=>∃i σ' H',Inv X pins σ' H' s'/\tn i s'.heap/\(∀b∈fp,H' b=none)/\W i n σ' H') ?_ m0 ⟨0,σ,H2,I2,UM,λb hb=>(f2 b hb).1,w0⟩;rintro n s3 ⟨i,Uc,H3,I3,Wj,fr3,w3⟩;rcases turn i n Uc H3 w3 with ⟨stop,qn⟩|⟨go,N,hN,step⟩
 ·refine jK hp (bS (T.done X rfl rfl rfl hc i pins s3 Uc H3 X.xe I3 (Wi fr3) Wj stop) λr s4 ⟨hr,I4⟩=>?_);subst hr;exact vN ⟨Uc,H3,I4,qn⟩
 ·refine jK hp (bS (T.item X rfl rfl rfl hc i pins s3 Uc H3 X.xe I3 (Wi fr3) Wj go) λr s4 ⟨u,hr,h4⟩=>?_);subst hr;refine jK hp (bS h4 λ_ s5 ⟨x,H5,I5,r5,y5,Xl,fr5⟩=>?_);have I5':=I5.pinned (Wi fr5) (T.obj _ _ Xl);refine jK hp (bS (hg _ s5 Uc H5 x u _ I5' r5 (step x H5 y5)) λ_ s6 ⟨σ6,H6,I6,q6⟩=>?_);refine jK hp (bS (hb _ s6 σ6 H6 _ I6 q6) λf s7 q7=>?_);have again:∀ {Ud:St}{H7:Hp},Inv X (pins++nH fp s5.heap) Ud H7 s7->N Ud H7->∃m,m < n/\∃i σ' H',Inv X pins σ' H' s7/\tn i s7.heap/\(∀b∈fp,H' b=none)/\W i m σ' H':=λ{Ud H7} I7 n7=>by
   let⟨m',hm,w7⟩:=hN Ud H7 n7;refine⟨m',hm,i+1,Ud,H7,I7.Q6,T.keep _ _ _ Xl λb hb o e=>(I7.pin (b,o) (yF _ (yF _ (d0 hb e)))).1,λb hb=>?_,w7⟩;let⟨o,e,d⟩:=T.obj _ _ Xl b hb;exact (I7.pin (b,o) (yF _ (yF _ (d0 hb e)))).2.1
  cases f with
  | next=>let⟨Ud,H7,I7,n7⟩:=q7;exact again I7 n7
  | cont=>let⟨Ud,H7,I7,n7⟩:=q7;exact again I7 n7
  | brk=>let⟨Ud,H7,I7,q7⟩:=q7;exact⟨Ud,H7,I7.Q6,q7⟩
  | ret v=>let⟨x7,Ud,H7,I7,r7,q7⟩:=q7;exact⟨x7,Ud,H7,I7.Q6,r7,q7⟩
abbrev R2:=V->V->Hp->VK->Prop
def gK(X:Cx)(f:Value->Value->Sem Value)(r:R2):Prop :=
 ∀ (pins:List (Addr×Obj)) (s:Shared) (σ:St) (H:Hp) (x y:V) (v u:Value) (Q:VK),Inv X pins σ H s->RelV x v->RelV y u->r x y H Q ->
  wpAny (model X.prog X.w) X.A (f v u) (EP X pins σ Q) X.xe s
def PM(X:Cx)(f:Value->Sem Value)(r:V->Hp->VK->Prop):Prop :=
 ∀ (pins:List (Addr×Obj)) (s:Shared) (σ:St) (H:Hp) (x:V) (v:Value) (Q:VK),Inv X pins σ H s->RelV x v->r x H Q ->
  wpAny (model X.prog X.w) X.A (f v) (EP X pins σ Q) X.xe s
def eC(X:Cx)(f:Value)(r:List V->Hp->VK->Prop):Prop :=
 ∀ (pins:List (Addr×Obj)) (s:Shared) (σ:St) (H:Hp) (xs:List V) (us:List Value) (Q:VK),Inv X pins σ H s->aD xs us->r xs H Q ->
  wpAny (model X.prog X.w) X.A (call f us) (EP X pins σ Q) X.xe s
def Nt(r:R2)(ta tb:TE):TE:=λσ H Q=>ta σ H λx H1=>tb σ H1 λy H2=>r x y H2 Q
def QD(r:V->Hp->VK->Prop)(ta:TE):TE:=λσ H Q=>ta σ H λx H1=>r x H1 Q
def rI(C:Int->Int->Prop)(g:Int->Int->V):R2:=λx y H Q=>∃i j,x=.int i/\y=.int j/\C i j/\Q (g i j) H
def HC(g:Int->Int->V):R2:=λx y H Q=>∃i j,x=.int i/\y=.int j/\Q (g i j) H
def rU(g:Int->V):V->Hp->VK->Prop:=λx H Q=>∃i,x=.int i/\Q (g i) H
def MG(ha:PE X a ta)(hb:PE X b tb){pins:List (Addr×Obj)}{σ:St}{R:V->V->Hp->Prop}(I:Inv X pins σ H s)
  (h:ta σ H λx H1=>tb σ H1 λy H2=>R x y H2) {Q:Value->Shared->Prop}{f:Value->Value->Sem Value}
  (hf:∀v u s2 x y H2,Inv X pins σ H2 s2->RelV x v->RelV y u->R x y H2->wpAny (model X.prog X.w) X.A (f v u) Q X.xe s2) :
  wpAny (model X.prog X.w) X.A (eval a X.env) (λv QP=>wpAny (model X.prog X.w) X.A (eval b X.env) (λu U0=>wpAny (model X.prog X.w) X.A (f v u) Q X.xe U0) X.xe QP) X.xe s:=by
 refine bS (ha pins s σ H _ I h) λv s1 z=>?_;let⟨x,H1,I1,r1,q1⟩:=z;refine bS (hb pins s1 σ H1 _ I1 q1) λu s2 z=>?_;let⟨y,H2,I2,r2,q2⟩:=z;exact hf v u s2 x y H2 I2 r1 r2 q2
def M6(ho:gK X (binaryOp op) r)(ha:PE X a ta)(hb:PE X b tb):PE X (.BinOp a op b pos) (Nt r ta tb):=by
 intro pins s σ H Q I h;exact wpAny_BinOp (MG ha hb I h λv u s2 x y H2 I2 rx ry q=>ho pins s2 σ H2 x y v u Q I2 rx ry q)
def N9(ho:PM X (unaryOp op) r)(ha:PE X a ta):PE X (.UnaryOp op a pos) (QD r ta):=by
 intro pins s σ H Q I h;exact UnaryOp_ (bS (ha pins s σ H _ I h) λv s1 ⟨x,H1,I1,r1,q1⟩=>ho pins s1 σ H1 x v Q I1 r1 q1)
def Pf{f:Value->Value->Sem Value}{C:Int->Int->Prop}{g:Int->Int->Int}
  (rule:∀ (i j:Int) (t u:Tok) (s:Shared) (Q:Value->Shared->Prop) (E:Value->Shared->Prop),C i j->Q (.int (g i j) s.toks) { s with toks:=s.toks+1 }->wpAny (model X.prog X.w) X.A (f (.int i t) (.int j u)) Q E s) :
  gK X f (rI C λi j=>.int (g i j)):=by
 intro pins s σ H x y v u Q I rx ry h;let⟨i,j,rfl,rfl,hc,q⟩:=h;let⟨t,rfl⟩:=rx;let⟨t',rfl⟩:=ry;exact rule i j t t' s _ _ hc ⟨.int (g i j),H,I.tok _,⟨_,rfl⟩,q⟩
def NM{f:Value->Value->Sem Value}{g:Int->Int->Int}
  (rule:∀ (i j:Int) (t u:Tok) (s:Shared) (Q:Value->Shared->Prop) (E:Value->Shared->Prop),Q (.int (g i j) s.toks) { s with toks:=s.toks+1 }->wpAny (model X.prog X.w) X.A (f (.int i t) (.int j u)) Q E s) :
  gK X f (HC λi j=>.int (g i j)):=by
 intro pins s σ H x y v u Q I rx ry h;let⟨i,j,rfl,rfl,q⟩:=h;let⟨t,rfl⟩:=rx;let⟨t',rfl⟩:=ry;exact rule i j t t' s _ _ ⟨.int (g i j),H,I.tok _,⟨_,rfl⟩,q⟩
def MU{f:Value->Value->Sem Value}{g:Int->Int->Bool}
  (rule:∀ (i j:Int) (t u:Tok) (s:Shared) (Q:Value->Shared->Prop) (E:Value->Shared->Prop),Q (.bool (g i j)) s->wpAny (model X.prog X.w) X.A (f (.int i t) (.int j u)) Q E s) :
  gK X f (HC λi j=>.bl (g i j)):=by
 intro pins s σ H x y v u Q I rx ry h;let⟨i,j,rfl,rfl,q⟩:=h;let⟨t,rfl⟩:=rx;let⟨t',rfl⟩:=ry;exact rule i j t t' s _ _ ⟨.bl (g i j),H,I,rfl,q⟩
def HW(i j:Int):Prop:=0 < j/\j < 1073741824
def rH(i j:Int):Prop:=(-(2 ^ 64) < i/\i < 2 ^ 64)\/(-(2 ^ 64) < j/\j < 2 ^ 64)
def rH.ok(h:rH i j):IntMulOk i j:=by
 rcases h with ⟨h1,h2⟩|⟨h1,h2⟩
 ·exact .of_left (intBits_le_64 h1 h2)
 ·exact .of_right (intBits_le_64 h1 h2)
def LR:gK X (binaryOp .Add) (HC λi j=>.int (i+j)):=NM λ_ _ _ _ _ _ _ q=>add_int q
def KR:gK X (binaryOp .Sub) (HC λi j=>.int (i - j)):=NM λ_ _ _ _ _ _ _ q=>sub_int q
def KN:gK X (binaryOp .Mult) (rI rH λi j=>.int (i * j)):=Pf λ_ _ _ _ _ _ _ hc q=>mul_int q hc.ok
def JD:gK X (binaryOp .FloorDiv) (rI HW λi j=>.int (i / j)):=Pf λi j _ _ _ _ _ hc q=>by
 have h1:(0:Int) < j:=hc.1;have h2:j < 1073741824:=hc.2;exact floordiv_int (by lia) (by rw[Int.fdiv_eq_ediv_of_nonneg i (by lia)];exact q) (.inl (PyProof.noPylong_small (by lia)))
def K0:gK X (binaryOp .Mod) (rI (λ_ j=>0 < j) λi j=>.int (i % j)):=Pf λi j _ _ _ _ _ hc q=>by
 have h1:(0:Int) < j:=hc;exact mod_int' (by lia) (by rw[Int.fmod_eq_emod_of_nonneg i (by lia)];exact q)
def Qf{f:Value->Sem Value}{g:Int->Int}
  (rule:∀ (i:Int) (t:Tok) (s:Shared) (Q:Value->Shared->Prop) (E:Value->Shared->Prop),Q (.int (g i) s.toks) { s with toks:=s.toks+1 }->wpAny (model X.prog X.w) X.A (f (.int i t)) Q E s) :
  PM X f (rU λi=>.int (g i)):=by
 intro pins s σ H x v Q I rx h;let⟨i,rfl,q⟩:=h;let⟨t,rfl⟩:=rx;exact rule i t s _ _ ⟨.int (g i),H,I.tok _,⟨_,rfl⟩,q⟩
def Lp:PM X (unaryOp .USub) (rU λi=>.int (-i)):=Qf λ_ _ _ _ _ q=>neg_int q
def Ff(I:Inv X pins σ H s)(q:Q (.bl k) H)(e:k=k'):EP X pins σ Q (.bool k') s:=by
 subst e;exact⟨.bl k,H,I,rfl,q⟩
def Gq:gK X (compareOp .Lt) (HC λi j=>.bl (decide (i < j))):=MU λ_ _ _ _ _ _ _ q=>lt_int q
def Ei:gK X (compareOp .LtE) (HC λi j=>.bl (decide (i<=j))):=MU λ_ _ _ _ _ _ _ q=>le_int q
def J8:gK X (compareOp .Gt) (HC λi j=>.bl (decide (j < i))):=MU λ_ _ _ _ _ _ _ q=>gt_int q
def Eh:gK X (compareOp .Is) (λx y H Q=>y=.QK/\Q (.bl (decide (x=.QK))) H):=by
 intro pins s σ H x y v u Q I rx ry h;let⟨rfl,q⟩:=h;cases ry;refine is_none_gen (Ff I q ?_);cases x<;>first
  | (cases rx;rfl)
  | (let⟨t,rfl⟩:=rx;rfl)
def BY:gK X (compareOp .IsNot) (λx y H Q=>y=.QK/\Q (.bl (!decide (x=.QK))) H):=by
 intro pins s σ H x y v u Q I rx ry h;let⟨rfl,q⟩:=h;cases ry;refine isnot_none_gen (Ff I q ?_);cases x<;>first
  | (cases rx;rfl)
  | (let⟨t,rfl⟩:=rx;rfl)
def gK.or(h:gK X f r)(h':gK X f r'):gK X f (λx y H Q=>r x y H Q\/r' x y H Q):=by
 intro pins s σ H x y v u Q I rx ry q;rcases q with q|q
 ·exact h pins s σ H x y v u Q I rx ry q
 ·exact h' pins s σ H x y v u Q I rx ry q
def dI(b:Expr)(h:op≠.In:=by decide)(h2:op≠.NotIn:=by decide):behindInMarks op b=false:=by
 have e1:(op == CmpOp.In)=false:=by cases op<;>first|rfl|exact absurd rfl h
 have e2:(op == CmpOp.NotIn)=false:=by cases op<;>first|rfl|exact absurd rfl h2
 cases b<;>simp[behindInMarks,e1,e2]
def Jl(ho:gK X (compareOp op) r)(ha:PE X a ta)(hb:PE X b tb)(hm:behindInMarks op b=false):PE X (.Compare a [op] [b] pos) (Nt r ta tb):=by
 intro pins s σ H Q I h;exact wpAny_Compare1 (MG ha hb I h λv u s2 x y H2 I2 rx ry q=>ho pins s2 σ H2 x y v u Q I2 rx ry q) hm
def Kg(t:TE):TT:=λσ H Q=>t σ H λx H'=>∃k,x=.bl k/\Q k H'
def BW(ho:gK X (compareOp op) r)(ha:PE X a ta)(hb:PE X b tb)(hm:behindInMarks op b=false):PT X (.Compare a [op] [b] pos) (Kg (Nt r ta tb)):=by
 intro pins s σ H Q I h;refine wpAny_isTrue_Compare1 (bS (ha pins s σ H _ I h) λv s1 ⟨x,H1,I1,r1,q1⟩=>bS (hb pins s1 σ H1 _ I1 q1) λu s2 ⟨y,H2,I2,r2,q2⟩ =>
  bS (ho pins s2 σ H2 x y v u _ I2 r1 r2 q2) λc s3 ⟨z,H3,I3,r3,k,e,q3⟩=>?_) hm
 subst e;cases r3;exact xX ⟨H3,I3,q3⟩
def Ai(r r':R2)(ta tb tc:TE):TE:=λσ H Q=>ta σ H λx H1=>tb σ H1 λy H2=>r x y H2 λz H3=>∃k,z=.bl k /\
 (if k=true then tc σ H3 λw' H4=>r' y w' H4 Q else Q (.bl false) H3)
def F2(ho:gK X (compareOp op) r)(RK:gK X (compareOp Ue) r')(ha:PE X a ta)(hb:PE X b tb)(hc:PE X c tc)
  (hm:lastMarks [op,Ue] [b,c]=false:=by with_unfolding_all rfl):PE X (.Compare a [op,Ue] [b,c] pos) (Ai r r' ta tb tc):=by
 intro pins s σ H Q I h;refine Compare_chain (bS (ha pins s σ H _ I h) λv s1 ⟨x,H1,I1,r1,q1⟩=>chain_link (bS (hb pins s1 σ H1 _ I1 q1) λu s2 ⟨y,H2,I2,r2,q2⟩ =>
  bS (ho pins s2 σ H2 x y v u _ I2 r1 r2 q2) λd s3 ⟨z,H3,I3,r3,k,e,q3⟩=>?_)) hm
 subst e;cases r3;refine xX ?_;cases k with
 | false=>exact ite_ff ⟨.bl false,H3,I3,rfl,q3⟩
 | true=>exact ite_tt (chain_last (bS (hc pins s3 σ H3 _ I3 q3) λw' s4 ⟨z',H4,I4,r4,q4⟩=>RK pins s4 σ H4 y z' u w' Q I4 r2 r4 q4))
def F8(ho:gK X (compareOp op) r)(RK:gK X (compareOp Ue) r')(ha:PE X a ta)(hb:PE X b tb)(hc:PE X c tc)
  (hm:lastMarks [op,Ue] [b,c]=false:=by with_unfolding_all rfl):PT X (.Compare a [op,Ue] [b,c] pos) (Kg (Ai r r' ta tb tc)):=by
 intro pins s σ H Q I h;refine isTrue_chain (bS (ha pins s σ H _ I h) λv s1 ⟨x,H1,I1,r1,q1⟩=>test_link (bS (hb pins s1 σ H1 _ I1 q1) λu s2 ⟨y,H2,I2,r2,q2⟩ =>
  bS (ho pins s2 σ H2 x y v u _ I2 r1 r2 q2) λd s3 ⟨z,H3,I3,r3,k,e,q3⟩=>?_)) hm
 subst e;cases r3;refine xX ?_;cases k with
 | false =>
  let⟨k',e',q'⟩:=q3;cases e';exact ite_ff ⟨H3,I3,q'⟩
 | true =>
  refine ite_tt (test_last (bS (hc pins s3 σ H3 _ I3 q3) λw' s4 ⟨z',H4,I4,r4,q4⟩=>bS (RK pins s4 σ H4 y z' u w' _ I4 r2 r4 q4) λd' s5 ⟨z2,H5,I5,r5,k2,e2,q5⟩=>?_));subst e2;cases r5;exact xX ⟨H5,I5,q5⟩
def pX:(sizeLine:Nat) < 2 ^ 63:=by rw[qV];decide
def vals1(r:aD [x] us):∃u,us=[u]/\RelV x u:=by
 cases r with
 | cons r1 r2=>cases r2;exact⟨_,rfl,r1⟩
def vals2(r:aD [x,y] us):∃u w',us=[u,w']/\RelV x u/\RelV y w':=by
 cases r with
 | cons r1 r2 =>
  cases r2 with
  | cons r3 r4=>cases r4;exact⟨_,_,rfl,r1,r3⟩
def w8:eC X (.builtin "abs") (λxs H Q=>∃i,xs=[.int i]/\Q (.int (if i < 0 then -i else i)) H):=by
 intro pins s σ H xs us Q I r h;let⟨i,rfl,q⟩:=h;let⟨u,rfl,t,rfl⟩:=vals1 r;exact call_abs_int λu tk=>⟨.int (if i < 0 then -i else i),H,I.tok _,⟨_,rfl⟩,q⟩
section
variable {K:W.Frag}
end
structure dM(k:Nat)(A:Around):Prop where
 hd:A.handled=none
 dp:A.depth+3 * k+5 < recursionLimit
 un:A.units+16 * k+200 < cLine
def dM.mono(r:dM k A)(h:j<=k):dM j A:=⟨r.hd,by have:=r.dp;lia,by have:=r.un;lia⟩
def dM.deeper(r:dM (k+1) A)(env:Env):dM k (A.deeper env) :=
 ⟨r.hd,by have:=r.dp;show A.depth+1+3 * k+5 < _;lia,by have:=r.un;show A.units+3+16 * k+200 < _;lia⟩
def dM.in1(r:dM (k+1) A):dM k A.in1 :=
 ⟨r.hd,by have:=r.dp;show A.depth+3 * k+5 < _;lia,by have:=r.un;show A.units+1+16 * k+200 < _;lia⟩
def dM.depth(r:dM k A):A.depth < recursionLimit:=by have:=r.dp;lia
def dM.units(r:dM k A):A.units+64 < cLine:=by have:=r.un;lia
def dM.Ug(r:dM k A):A.units < cLine:=by have:=r.un;lia
def NI:TA:=λ_ H Q=>Q [] H
def NB(ta:TE)(tr:TA):TA:=λσ H Q=>ta σ H λx H1=>tr σ H1 λxs H2=>Q (x::xs) H2
def eX:PA X [] NI:=λ_ _ _ _ H Q I h=>Calls.spliced_nil ⟨[],H,I,.nil,h⟩
def bY(ha:PE X e te)(hr:PA X es t)(hs:starEach (e::es) X.env=(false,eval e X.env)::starEach es X.env:=by rfl):PA X (e::es) (NB te t):=by
 intro pos pins s σ H Q I h;rw[hs];show wpAny _ _ (spliced ((false,eval e X.env)::backTo pos (starEach es X.env))) _ _ s;refine Calls.spliced_cons (bS (ha pins s σ H _ I h) λu s1 ⟨x,H1,I1,r1,q1⟩=>?_);exact bS (hr pos pins s1 σ H1 _ I1 q1) λus s2 ⟨xs,H2,I2,r2,q2⟩=>⟨x::xs,H2,I2,.cons r1 r2,q2⟩
def O6(t:TA):TE:=λσ H Q=>t σ H λxs H1=>xs.length<=sizeLine/\∀p,H1 p=none->Q (.ref p) (upd H1 p (.tup xs))
def ON(t:TA):TE:=λσ H Q=>t σ H λxs H1=>xs.length<=sizeLine/\∀p,H1 p=none->Q (.ref p) (upd H1 p (.lst xs))
def La{x1}(h:PA X es t):PE X (.Tuple es x1 pos) (O6 t):=by
 intro pins s σ H Q I hq;refine wpAny_Tuple_spliced (bS (h pos pins s σ H _ I hq) λus s1 ⟨xs,H1,I1,r,z,q⟩=>⟨by rw[<- r.length];exact z,?_⟩);have hf:H1 s1.heap.objs.size=none:=I1.QR.fresh (yN _);refine⟨.ref s1.heap.objs.size,upd H1 s1.heap.objs.size (.tup xs),I1.laid (t':=s1.toks) (λb u e=>zV _ e) (yN _) ?_,rfl,q _ hf⟩;exact⟨z,us,r,⟨_,zY _ rfl,rfl,_,rfl⟩,_,zY _ rfl,rfl⟩
def GF(h:PA X es t):PE X (.List es pos) (ON t):=by
 intro pins s σ H Q I hq;refine wpAny_List_spliced (bS (h pos pins s σ H _ I hq) λus s1 ⟨xs,H1,I1,r,z,q⟩=>⟨by rw[<- r.length];exact z,?_⟩);have hf:H1 s1.heap.objs.size=none:=I1.QR.fresh (yN _);refine⟨.ref s1.heap.objs.size,upd H1 s1.heap.objs.size (.lst xs),I1.laid (t':=s1.toks) (λb u e=>zV _ e) (yN _) ?_,rfl,q _ hf⟩;exact⟨z,us,0,r,zY _ rfl⟩
abbrev Sp:=List V->Hp->VK->XK->Prop
abbrev JS:=List Env->Hp->Shared->XK->Value->Shared->Prop
structure Im(P:Program)(w:World)(K:W.Frag)(mg:Str->Option Value)(base:Heap)(A:Around)(outer:List Env)(s:Shared)(H:Hp):Prop where
 frames:A.frames=some outer
 mod:Mod K mg base
 bs:∀b o,base.get? b=some o->s.heap.get? b=some o/\H b=none
 Vl:base.objs.size<=s.heap.objs.size
 RJ:s.heap.FunFrames base outer
 Xi:∀b∈E2 outer,H b=none
 QR:oR P w H s.heap
 bare:AllBare s.gens
def CE(outer:List Env)(P:Program)(w:World)(H:Hp)(s:Shared)(Q:VK)(u:Value)(s':Shared):Prop :=
 ∃v H',s'.os=s.os/\AllBare s'.gens/\Un (E2 outer) [] H H' s.heap s'.heap/\oR P w H' s'.heap/\RelV v u/\Q v H'
def CR(CX:JS)(outer:List Env)(P:Program)(w:World)(H:Hp)(s:Shared)(Q:VK)(E:XK)(r:Result)(s':Shared):Prop :=
 match r with
 | .ok (.ret u)=>CE outer P w H s Q u s'
 | .ok _=>False
 | .error e=>CX outer H s E e s'
structure oA(P:Program)(w:World)(K:W.Frag)(mg:Str->Option Value)(base:Heap)(CX:JS)(k:Nat)(f:Addr)(fd:FuncData)(ps:List Str)(sp:Sp):Prop where
 len:∀vs H Q E,sp vs H Q E->vs.length=ps.length
 run:∀ (A:Around) (outer:List Env) (s:Shared) (H:Hp) (args:Args) (us:List Value) (vs:List V) (Q:VK) (E:XK),dM k A->Im P w K mg base A outer s H->BindsTo s fd args (ps.zip us)->aD vs us->sp vs H Q E ->
  codeAny (model P w) A (.call (.ref f) args) (CR CX outer P w H s Q E) s
def oA.mono{K:W.Frag}(F:oA P w K mg base CX j f fd ps sp)(h:j<=k) :
  oA P w K mg base CX k f fd ps sp:=⟨F.len,λA outer s H args us vs Q E hr=>F.run A outer s H args us vs Q E (hr.mono h)⟩
def Inv.abc(I:Inv X pins σ H s):Im X.prog X.w X.K X.mg X.base X.A X.stack s H :=
 ⟨I.ok.frames,I.ok.mod,I.bs,yE I.ok.Vl I.sz,I.stack,I.RZ,I.QR,I.bare⟩
def Inv.after(I:Inv X pins σ H s)(h:CE X.stack X.prog X.w H s Q u s'):EP X pins σ Q u s':=by
 let⟨v,H',os,bare,un,QR,r,q⟩:=h;let⟨hh,g,d,t,XI⟩:=s';obtain rfl:XI=s.os:=os;exact⟨v,H',I.call (h':=hh) (g':=g) (d':=d) (t':=t) (ch:=[]) un QR bare (λb z=>absurd z (by simp)),r,q⟩
def J3(sp:Sp)(U1:List V)(E:XK)(t:TA):TE:=λσ H Q=>t σ H λvs H1=>sp (vs++U1) H1 Q E
def Binds(K:W.Frag)(fd:FuncData)(ps:List Str)(ds:List Value):Prop :=
 ∀ (s:Shared) (us:List Value),K.In s.heap->(us++ds).length=ps.length->BindsTo s fd ⟨us,[]⟩ (ps.zip (us++ds))
def Binds.all{K:W.Frag}(h:∀us:List Value,us.length=ps.length->bindArgs fd ⟨us,[]⟩=pure (ps.zip us)):Binds K fd ps []:=λs us _ hl=>by
 rw[qG] at hl ⊢;exact .of_eq (h us hl)
def uD(CX:JS)(X:Cx)(E:XK):Prop:=∀ (pins:List (Addr×Obj)) (σ:St) (H:Hp) (s:Shared) (e:Value) (s':Shared),Inv X pins σ H s->CX X.stack H s E e s'->X.xe e s'
def Hc(F:oA X.prog X.w X.K X.mg X.base CX k f fd ps sp)(hr:dM k X.A)(hb:Binds X.K fd ps ds)(hd:aD U1 ds)(hx:uD CX X E)
  (I:Inv X pins σ H s) (r:aD vs us) (h:sp (vs++U1) H Q E):wpAny (model X.prog X.w) X.A (call (.ref f) us) (EP X pins σ Q) X.xe s:=by
 have r2:aD (vs++U1) (us++ds):=r.append hd;have hl:(us++ds).length=ps.length:=by rw[<- r2.length];exact F.len _ _ _ _ h
 refine wpAny_call (jS (F.run X.A X.stack s H ⟨us,[]⟩ (us++ds) (vs++U1) Q E hr I.abc (hb s us I.TB hl) r2 h) λr s' hq=>?_);cases r with
 | error e=>exact hx pins σ H s e s' I hq
 | ok fl =>
  cases fl with
  | ret u=>exact I.after hq
  | next=>exact False.elim hq
  | brk=>exact False.elim hq
  | cont=>exact False.elim hq
def Ia(F:oA X.prog X.w X.K X.mg X.base CX k f fd ps sp)(hr:dM k X.A)(hg:Gl X x)(hm:X.mg x=some (.ref f))(hk:W.keepIn X.K (.ref f)=true)(hb:Binds X.K fd ps ds)(hd:aD U1 ds)(hx:uD CX X E)
  (ha:PA X (e::es) t) (R0:(x == ("__debug__":Str))=false:=by decide) (he:starEach (e::es) X.env=(false,eval e X.env)::starEach es X.env:=by rfl) (RF:(backTo pos (starEach es X.env)).any (·.1)=false:=by rfl) :
  PE X (.Call (.Name x p) (e::es) [] pos) (J3 sp U1 E t):=by
 intro pins s σ H Q I h;refine qZ (va I hg hm ?_ R0);refine W.callWith_K (h₀:=X.base) I.ok.mod.XC hk (bS (ha pos pins s σ H _ I h) λus s1 ⟨vs,H1,I1,r,q⟩=>⟨I1.TB,?_⟩) he RF;exact Hc F hr hb hd hx I1 r q
def Eo(F:oA X.prog X.w X.K X.mg X.base CX k f fd ps sp)(hr:dM k X.A)(hg:Gl X x)(hm:X.mg x=some (.ref f))(hk:W.keepIn X.K (.ref f)=true)(hb:Binds X.K fd ps ds)(hd:aD U1 ds)(hx:uD CX X E)
  (R0:(x == ("__debug__":Str))=false:=by decide):PE X (.Call (.Name x p) [] [] pos) (J3 sp U1 E NI):=by
 intro pins s σ H Q I h;refine qZ (va I hg hm ?_ R0);exact W.callWith_K0 I.TB hk (Hc (us:=[]) F hr hb hd hx I .nil h)
structure fI(N P:List Str)(sc:Scope):Prop where
 kind:sc.kind=.function
 co:sc.isCoroutine=false
 gen:sc.isGenerator=false
 nd:N.Nodup
 pre:N.take P.length=P
 par:∀x∈P,sc.names.lookup x=some .local \/ sc.names.lookup x=some .cell
 Wl:∀y∈sc.names,y.2≠.free
def sM{kindOf:Str->Option NameKind}:∀ {binds:List (Str×Value)}{m:Str->Option Value},(∀v,(x,v)∉binds)->bindL kindOf binds m x=m x
 | [],_,_=>rfl
 | (n,v)::r,m,h=>by
  unfold bindL;rw[sM λw hw=>h w (zD _ hw)];split
  ·have:x≠n:=by rintro rfl;exact h v zF
   simp[this]
  ·rfl
def tI{kindOf:Str->Option NameKind}:∀ {binds:List (Str×Value)}{m:Str->Option Value},(∀v,(x,v)∉binds)->bindC kindOf binds m x=m x
 | [],_,_=>rfl
 | (n,v)::r,m,h=>by
  unfold bindC;rw[tI λw hw=>h w (zD _ hw)];split
  ·rfl
  ·have:x≠n:=by rintro rfl;exact h v zF
   simp[this]
def rW{kindOf:Str->Option NameKind}:∀ {P:List Str}{vs:List Value}{i:Nat}{m:Str->Option Value},P.Nodup->P[i]?=some x->vs[i]?=some v->kindOf x=some .local ->
  bindL kindOf (P.zip vs) m x=some v
 | [],_,_,_,_,h,_,_=>by simp at h
 | _::_,[],_,_,_,_,h,_=>by simp at h
 | p::P,w::vs,0,m,nd,h1,h2,hk=>by
  simp at h1 h2;subst h1;subst h2;show bindL kindOf ((p,w)::P.zip vs) m p=_;unfold bindL;rw[sM λv hv=>(List.nodup_cons.mp nd).1 (vQ hv).1,yM hk];simp
 | p::P,w::vs,i+1,m,nd,h1,h2,hk=>by
  show bindL kindOf ((p,w)::P.zip vs) m x=_;unfold bindL;exact rW (i:=i) (List.nodup_cons.mp nd).2 (by simpa using h1) (by simpa using h2) hk
def tG{kindOf:Str->Option NameKind}:∀ {P:List Str}{vs:List Value}{i:Nat}{m:Str->Option Value},P.Nodup->P[i]?=some x->vs[i]?=some v->kindOf x≠some .local ->
  bindC kindOf (P.zip vs) m x=some v
 | [],_,_,_,_,h,_,_=>by simp at h
 | _::_,[],_,_,_,_,h,_=>by simp at h
 | p::P,w::vs,0,m,nd,h1,h2,hk=>by
  simp at h1 h2;subst h1;subst h2;show bindC kindOf ((p,w)::P.zip vs) m p=_;unfold bindC;rw[tI λv hv=>(List.nodup_cons.mp nd).1 (vQ hv).1,yO hk];simp
 | p::P,w::vs,i+1,m,nd,h1,h2,hk=>by
  show bindC kindOf ((p,w)::P.zip vs) m x=_;unfold bindC;exact tG (i:=i) (List.nodup_cons.mp nd).2 (by simpa using h1) (by simpa using h2) hk
def start(N:List Str)(vs:List V):St:=vs.map some++List.replicate (N.length - vs.length) none
def Do(CX:JS)(P:Program)(w:World)(K:W.Frag)(mg:Str->Option Value)(base:Heap)(N:List Str)(qual:Str)(scope:Scope)(f:Addr)(cd:Value)(A:Around)(outer:List Env)(s:Shared)(H:Hp)(E:XK):Cx where
 prog:=P
 w:=w
 K:=K
 mg:=mg
 base:=base
 A:=A.deeper (envOfC qual scope s.heap.objs.size f cd)
 N:=N
 QZ:=s
 QM:=H
 env:=envOfC qual scope s.heap.objs.size f cd
 outer:=outer
 stack:=envOfC qual scope s.heap.objs.size f cd::outer
 ex:=[]
 calm:=true
 fn:=λ_=>true
 pn:=[]
 xe:=λe s'=>wpAny (model P w) (A.deeper (envOfC qual scope s.heap.objs.size f cd)) (leaving (envOfC qual scope s.heap.objs.size f cd) e) (λ_ SE=>CX outer H s E e SE) (λe' SE=>CX outer H s E e' SE) s'
def pC{sc:Scope}{n:Nat}(h:sc.names.lookup x=some .cell):∃c,(cellsFrom n sc.names []).lookup x=some c:=by
 have q:=W.cellsFrom_some sc.names n [] (.inl h);exact Option.isSome_iff_exists.mp q
def Dp{CX:JS}{K:W.Frag}{mg:Str->Option Value}{ps:List Str}{scope:Scope}{cd:Value}{A:Around}{outer:List Env}{s:Shared}{E:XK}{us:List Value}{vs:List V}
  (S:fI N ps scope) (hd:A.handled=none) (e0:Im P w K mg base A outer s H) (hl:vs.length=ps.length) (r:aD vs us)
  (x:InCallC s s.heap.objs.size (bindL (envOfC qual scope s.heap.objs.size f cd).kindOf (ps.zip us) λ_=>none) (cellsFrom (s.heap.objs.size+1) scope.names []) (bindC (envOfC qual scope s.heap.objs.size f cd).kindOf (ps.zip us) λ_=>none) s1) :
  Inv (Do CX P w K mg base N qual scope f cd A outer s H E) [] (start N vs) H s1:=by
 have RF:ps.length<=N.length:=by have:=jD List.length S.pre;rw[jW] at this;lia
 let⟨h1,tk,rfl,hk⟩:=x.done;have UN:∀b:Addr,b∉(Do CX P w K mg base N qual scope f cd A outer s H E).ex:=λb z=>absurd (show b∈([]:List Addr) from z) (by simp);refine⟨⟨e0.mod,S.kind,rfl,rfl,yN _,λy z c h1 h2=>?_,λy hy=>?_,λy c _ h=>?_,λ_=>hd,Around.frames_deeper e0.frames,.inr ⟨rfl,rfl⟩,λb z=>absurd z (UN b),e0.bs,e0.Vl,λb _ _=>UN b,λb z=>absurd z (UN b),e0.RJ,e0.Xi⟩,
  rfl,e0.bare,Un.kept hk,⟨_,x.toInCall.ns,λi y v h1 h2 h3=>?_⟩,λy c h=>⟨_,x.cell y c h⟩,e0.QR.fresh (yN _),λy c h=>?_,λp hp=>absurd (show p∈([]:List (Addr×Obj)) from hp) (by simp),e0.QR.kept hk,?_⟩
 ·exact name_of_addr x.apart (jZ h1) (jZ h2)
 ·have hy:scope.names.lookup y=some .cell\/scope.names.lookup y=some .free:=hy;rcases hy with hy|hy
  ·exact pC hy
  ·exact absurd rfl (S.Wl _ (jZ hy))
 ·exact jT (x.above y c (jZ h))
 ·have hi:i < vs.length:=by
   unfold start at h2;by_cases hi:i < vs.length
   ·exact hi
   ·rw[yU (by simpa using hi)] at h2;rw[yY] at h2;split at h2<;>cases h2
  have ha:vs[i]?=some v:=by
   unfold start at h2;rw[yT (by simpa using hi),zP] at h2;cases e:vs[i]? with
   | none=>rw[e] at h2;cases h2
   | some a=>rw[e] at h2;cases h2;rfl
  let⟨u,hu,rv⟩:=r.get ha;have hp:ps[i]?=some y:=by
   rw[<- S.pre,List.getElem?_take_of_lt (by lia)];exact h1
  have ndP:ps.Nodup:=by rw[<- S.pre];exact S.nd.sublist (List.take_sublist _ _)
  refine⟨u,rv,?_⟩;rcases S.par y (qC hp) with k|k
  ·exact .inl ⟨k,rW ndP hp hu k⟩
  ·let⟨c,e⟩:=pC (n:=s.heap.objs.size+1) k;refine .inr ⟨.inl k,c,e,?_⟩;have q:=x.cell y c e;rw[tG ndP hp hu (by show scope.names.lookup y≠_;rw[k];decide)] at q;exact q
 ·exact e0.QR.fresh (jT (x.above y c (jZ h)))
 ·unfold start;show _=N.length;rw[zO,zE,xN];lia
def M7{K:W.Frag}{kV:Value}
  {S9:Array (Option Value)}{N ps:List Str}{sp:Sp}(lk:K.lookup f=some ⟨oc,od,.func (W.fnOf name qual params body scope dV kV doc pm an Ru ct),S9⟩) (Rp:W.codeIn K Ru qual=true) (S:fI N ps scope)
  (len:∀vs H Q E,sp vs H Q E->vs.length=ps.length)
  (XJ:∀ (A:Around) (outer:List Env) (s:Shared) (H:Hp) (vs:List V) (Q:VK) (E:XK),dM k (A.deeper (envOfC qual scope s.heap.objs.size f Ru))->sp vs H Q E ->
   ∃t,A2 (Do CX P w K mg base N qual scope f Ru A outer s H E) body t/\t { nx:=λ_ H'=>Q .QK H',rt:=Q } (start N vs) H) :
  oA P w K mg base CX (k+1) f (W.fnOf name qual params body scope dV kV doc pm an Ru ct) ps sp:=by
 refine⟨len,λA outer s H args us vs Q E hr e0 hb r Xm=>?_⟩;have hl:=len _ _ _ _ Xm;have KX:K.In s.heap:=e0.mod.XC.keeps λb o e=>(e0.bs b o e).1;have lim:s.heap.NoLimit:=e0.mod.nolimit.keeps λb o e=>(e0.bs b o e).1;have XM:∀y∈ps.zip us,scope.names.lookup y.1=some .local \/ (scope.names.lookup y.1=some .cell/\((cellsFrom (s.heap.objs.size+1) scope.names []).lookup y.1).isSome=true):=λ⟨n,v⟩ hy=>by
  rcases S.par n (vQ hy).1 with q|q
  ·exact .inl q
  ·exact .inr ⟨q,W.cellsFrom_some _ _ _ (.inl q)⟩
 refine codeAny_call_function hr.depth (KX _ _ lk) rfl S.co S.gen rfl (W.codeRec_of KX Rp) (hb _ _ _ _ ?_);refine wpAny_newFunctionEnv_cells S.kind XM λenv he s1 x=>?_;subst he;refine⟨lim.keeps x.toInCall.keep,codeAny_func ?_⟩;let⟨t,ht,hq⟩:=XJ A outer s H vs Q E (hr.deeper _) Xm;have I:Inv (Do CX P w K mg base N qual scope f Ru A outer s H E) [] (start N vs) H s1:=Dp S hr.hd e0 hl r x;refine xB (ht [] s1 (start N vs) H _ I hq) (λfl s' hs=>?_) λe s' hs=>hs;have fin:∀ {σ':St}{H':Hp}{v:V}{u:Value},Inv (Do CX P w K mg base N qual scope f Ru A outer s H E) [] σ' H' s'->RelV v u->Q v H'->CE outer P w H s Q u s' :=
  λ{σ' H' v u} J rv q=>⟨v,H',J.os,J.bare,J.base,J.QR,rv,q⟩
 cases fl with
 | ret u =>
  let⟨v,σ',H',J,rv,q⟩:=hs;exact fin J rv q
 | next =>
  let⟨σ',H',J,q⟩:=hs;exact fin (v:=V.QK) (u:=Value.none) J rfl q
 | brk =>
  let⟨_,_,_,q⟩:=hs;exact False.elim q
 | cont =>
  let⟨_,_,_,q⟩:=hs;exact False.elim q
section
variable {id T:String}
def OE(r:List V->Hp->VK->Prop)(t:TA):TE:=λσ H Q=>t σ H λvs H1=>r vs H1 Q
def mT(hc:eC X (.builtin id) r)(hg:Gl X x)(hm:X.mg x=none)(hv:bootBuiltins x=some (.builtin id))(ha:PA X (e::es) t)(hn:x≠"__name__":=by decide)(R0:(x == ("__debug__":Str))=false:=by decide)
  (he:starEach (e::es) X.env=(false,eval e X.env)::starEach es X.env:=by rfl) (RF:(backTo pos (starEach es X.env)).any (·.1)=false:=by rfl):PE X (.Call (.Name x p) (e::es) [] pos) (OE r t):=by
 intro pins s σ H Q I h;refine qZ (iK I hg hm hv ?_ hn R0);exact PyProof.Rows.callWith_builtin1 (bS (ha pos pins s σ H _ I h) λus s1 ⟨vs,H1,I1,r1,q1⟩=>hc pins s1 σ H1 vs us Q I1 r1 q1) he RF
def sZ(hc:eC X (.type T) r)(hg:Gl X x)(hm:X.mg x=none)(hv:bootBuiltins x=some (.type T))(ha:PA X (e::es) t)(hn:x≠"__name__":=by decide)(R0:(x == ("__debug__":Str))=false:=by decide)
  (he:starEach (e::es) X.env=(false,eval e X.env)::starEach es X.env:=by rfl) (RF:(backTo pos (starEach es X.env)).any (·.1)=false:=by rfl):PE X (.Call (.Name x p) (e::es) [] pos) (OE r t):=by
 intro pins s σ H Q I h;refine qZ (iK I hg hm hv ?_ hn R0);exact qT (bS (ha pos pins s σ H _ I h) λus s1 ⟨vs,H1,I1,r1,q1⟩=>hc pins s1 σ H1 vs us Q I1 r1 q1) he RF
end
end L2
namespace HT
open PySem PyProof.Rows
def lexLt:List Int->List Int->Bool
 | [],[]=>false
 | [],_::_=>true
 | _::_,[]=>false
 | x::xs,y::ys=>if x=y then lexLt xs ys else decide (x < y)
def cD(x y:Int)(xs ys:List Int):lexLt (x::xs) (y::ys)=if x=y then lexLt xs ys else decide (x < y):=rfl
def FU(A:Around)(s:Shared)(a:Int)(t:Tok)(c:Int)(u:Tok):∃e,SeqAt.EqAt A s (.int a t) (.int c u) e/\(e=true↔a=c) :=
 ⟨(a == c),SeqAt.EqAt.int_int a t c u,by simp⟩
section
open PySem.SeqAt
open PySem.AutoSeq1 (wpAny_loadPart')
open PySem.MeetsSeq PySem.MeetsSeq2 PySem.MeetsSeq3
end
def IV(ht:IsTup s.heap t vs.toArray)(hb:IsTup s.heap b ws.toArray)(hv:vs≠[])
  (h1:ws=[]->Q (.ref t) s) (h2:ws≠[]->Q (.ref s.heap.objs.size) { s with heap:=s.heap.push { cls:=.type "tuple",data:=.seq (vs++ws).toArray } })
  (hsz:vs.length+ws.length<=sizeLine):wpAny (model prog w) A (binaryOp .Add (.ref t) (.ref b)) Q E s:=by
 let⟨⟨cls,dd,data,sl⟩,ho,hc,n,hd⟩:=id ht;let⟨⟨XN,UO,data2,UP⟩,TF,TH,n2,hd2⟩:=id hb;simp only at hc hd TH hd2;subst hc hd TH hd2;have e:vs.toArray++ws.toArray=(vs++ws).toArray:=by simp
 by_cases hw:ws=[]
 ·exact wI ⟨_,ho,rfl⟩ ⟨_,TF,rfl⟩ noFill_tuple_add seq_tuple_add vJ vF (vD _ _)
   (tuple_addW1 t b vs.toArray ws.toArray n n2 dd UO sl UP (by simpa using hv) (by simp[hw])) ⟨ho,TF,h1 hw⟩
 ·refine wI ⟨_,ho,rfl⟩ ⟨_,TF,rfl⟩ noFill_tuple_add seq_tuple_add vJ vF (vD _ _)
   (tuple_addW2 t b vs.toArray ws.toArray n n2 dd UO sl UP (by simpa using hv) (by simpa using hw) (by rw[zI,zI];exact hsz)) ⟨ho,TF,?_⟩
  rw[e];exact h2 hw
def dq(n d:Nat):Option Int->Nat
 | none=>d
 | some v=>if v < 0 then (v+(n:Int)).toNat else min v.toNat n
def w6(n d:Nat):dq n d none=d:=rfl
def B4(n d k:Nat):dq n d (some (k:Int))=min k n:=by
 show (if (k:Int) < 0 then ((k:Int)+(n:Int)).toNat else min (k:Int).toNat n)=min k n;rw[yO (by lia),yH]
def LA(n d:Nat)(hd:d<=n)(o:Option Int):dq n d o<=n:=by
 cases o with
 | none=>exact hd
 | some v =>
  show (if v < 0 then (v+(n:Int)).toNat else min v.toNat n)<=n;by_cases hv:v < 0
  ·rw[yM hv];lia
  ·rw[yO hv];exact Nat.min_le_right _ _
def BD(v:Int)(n d:Nat):(if v < 0 then max (v+(n:Int)) 0 else min v (n:Int))=((dq n d (some v):Nat):Int):=by
 show (if v < 0 then max (v+(n:Int)) 0 else min v (n:Int))=(((if v < 0 then (v+(n:Int)).toNat else min v.toNat n):Nat):Int)
 by_cases hv:v < 0
 ·simp?[yM hv];lia
 ·simp?[yO hv];lia
def Ap(lo hi:Option Int)(n:Nat):Builtin.Slice.sliceAdjust lo hi 1 (n:Int)=(((dq n 0 lo:Nat):Int),((dq n n hi:Nat):Int)):=by
 have h1:¬ ((1:Int) < 0):=by lia
 unfold Builtin.Slice.sliceAdjust;simp?[h1,qQ];refine Prod.ext ?_ ?_
 ·cases lo with
  | none=>rfl
  | some v=>exact BD v n 0
 ·cases hi with
  | none=>rfl
  | some v=>exact BD v n n
def AQ(i j:Nat):Builtin.Slice.slicePlaces (i:Int) (j:Int) 1=j - i:=by
 unfold Builtin.Slice.slicePlaces;have h1:(1:Int) > 0:=by lia
 simp?[h1,xI,Int.ediv_one];split<;>lia
def qp(p:IsPart v o)(h:Q o s):wpAny (model prog w) A (Builtin.Slice.slicePartIndex v) Q E s:=by
 cases p with
 | none=>exact slicePart_none h
 | int i t=>exact slicePart_int h
def ie{vl:Value}{lo hi:Option Int}{n:Nat}{Q:Int×Int×Nat->Shared->Prop}(hs:s.heap.IsSliceOf sl vl vu .none)(pl:IsPart vl lo)(pu:IsPart vu hi)
  (h:Q (((dq n 0 lo:Nat):Int),1,dq n n hi - dq n 0 lo) s):wpAny (model prog w) A (Builtin.Slice.sliceApplied (.ref sl) (pure (n:Int))) Q E s:=by
 let⟨os,Wn,hcs,Vp⟩:=id hs;unfold Builtin.Slice.sliceApplied Builtin.Slice.sliceFields;refine zW (zW (qU Wn Vp (x:=vl) rfl (zW (qU Wn Vp (x:=vu) rfl (zW (qU Wn Vp (x:=.none) rfl (zX ?_)))))));refine zW (slicePart_none ?_);show wpAny _ _ (if ((1:Int) == 0)=true then _ else _) _ _ s;rw[yO (by decide)];refine zW (qp pl (zW (qp pu (zW (zX ?_)))));show wpAny _ _ (match Builtin.Slice.sliceAdjust lo hi 1 (n:Int) with|(lo,hi)=>pure (lo,(1:Int),Builtin.Slice.slicePlaces lo hi 1)) _ _ s;rw[Ap lo hi n];show wpAny _ _ (pure (((dq n 0 lo:Nat):Int),(1:Int),Builtin.Slice.slicePlaces ((dq n 0 lo:Nat):Int) ((dq n n hi:Nat):Int) 1)) _ _ s;rw[AQ];exact zX h
def F0(xs:Array Value)(i k:Nat):((List.range k).filterMap λ(m:Nat)=>xs[((i:Int)+(m:Int) * 1).toNat]?).toArray=((xs.toList.drop i).take k).toArray:=by
 have e:(λ(m:Nat)=>xs[((i:Int)+(m:Int) * 1).toNat]?)=λm=>xs[i+m]?:=by
  funext m;have:((i:Int)+(m:Int) * 1).toNat=i+m:=by lia
  rw[this]
 rw[e];have:=pick_run xs i k;rw[List.filterMap_map] at this;have e2:((λx=>xs[x]?) ∘ λx=>i+x)=λm=>xs[i+m]?:=rfl;rw[e2] at this;rw[this]
def mz{items:Array Value}{vl:Value}{lo:Option Int}(ht:IsTup s.heap t items)(hs:s.heap.IsSliceOf sl vl vu .none)(pl:IsPart vl lo)(pu:IsPart vu hi)
  (hw:¬ (dq items.size 0 lo=0/\dq items.size items.size hi=items.size))
  (h:Q (.ref s.heap.objs.size) { s with heap:=s.heap.push { cls:=.type "tuple",data:=.seq ((items.toList.drop (dq items.size 0 lo)).take (dq items.size items.size hi - dq items.size 0 lo)).toArray } })
  (hsz:items.size<=sizeLine):wpAny (model prog w) A (getItem (.ref t) (.ref sl)) Q E s:=by
 have Ta:sizeOk (.seq ((items.toList.drop (dq items.size 0 lo)).take (dq items.size items.size hi - dq items.size 0 lo)).toArray):=by
  show ((items.toList.drop (dq items.size 0 lo)).take (dq items.size items.size hi - dq items.size 0 lo)).toArray.size<=sizeLine;rw[zI,jW,qJ,vZ];lia
 have hj:dq items.size items.size hi<=items.size:=LA _ _ (yN _) hi;let⟨os,Wn,hcs,Vp⟩:=id hs;have hTs:s.TypeIs (.ref sl) "slice":=⟨os,Wn,hcs⟩
 unfold getItem
 try with_reducible refine xY ?_
 first|refine zW (zX ?_)|skip
 refine zW (wpAny_sequenceKey ht.typeIs (by decide) ?_);refine zW (qD (name:=Str.ofString "__getitem__") ht.typeIs jG
  (qX jG ht.typeIs entry_tuple_getitem ?_ (args_tuple_getitem _ _)))
 show wpAny _ _ (Builtin.Tuple.tupleItemsOf (.ref t) >>= _) _ _ s;refine zW (tupleItemsOf_ ht ?_);refine zW (wG hTs ?_);rw[yM (by decide)];refine zW (ie hs pl pu ?_);have XO:¬ ((((dq items.size 0 lo:Nat):Int) == 0&&(1:Int) == 1&&(dq items.size items.size hi - dq items.size 0 lo) == items.size)=true):=by
  intro q;rw[zG,zG] at q;have q1:((dq items.size 0 lo:Nat):Int)=0:=eq_of_beq q.1.1;have q2:dq items.size items.size hi - dq items.size 0 lo=items.size:=eq_of_beq q.2;exact hw ⟨by lia,by lia⟩
 show wpAny _ _ (if (((dq items.size 0 lo:Nat):Int) == 0&&(1:Int) == 1&&(dq items.size items.size hi - dq items.size 0 lo) == items.size)=true then _ else _) _ _ s;rw[yO XO,F0]
 first
  | exact zW (m:=Builtin.Tuple.tupleExact _) (qM (zX ⟨_,rfl,zX h⟩) Ta)
  | exact zW (m:=Builtin.Tuple.tupleExact _) (qM (zW (zX (zX ⟨_,rfl,zX h⟩))) Ta)
  | exact zW (zW (m:=Builtin.Tuple.tupleExact _) (qM (zX (zX ⟨_,rfl,zX h⟩)) Ta))
  | exact zW (zW (m:=Builtin.Tuple.tupleExact _) (qM (zX ⟨_,rfl,zX h⟩) Ta))
end HT
namespace L2
open PySem PySem.Spec PyProof.Rows
abbrev TO:=St->Hp->(Option Int->Hp->Prop)->Prop
def PO(X:Cx)(e:Option Expr)(t:TO):Prop :=
 ∀ (pins:List (Addr×Obj)) (s:Shared) (σ:St) (H:Hp) (Q:Option Int->Hp->Prop),Inv X pins σ H s->t σ H Q ->
  wpAny (model X.prog X.w) X.A (evalPart e X.env) (λu s'=>∃o H',Inv X pins σ H' s'/\IsPart u o/\Q o H') X.xe s
def Jt:TO:=λ_ H Q=>Q none H
def Ny(t:TE):TO:=λσ H Q=>t σ H λx H1=>∃i,x=.int i/\Q (some i) H1
def intsAre_of:∀ {us:List Value},aD (ns.map V.int) us->IntsAre us ns:=by
 induction ns with
 | nil=>intro us r;rw[yV] at r;cases r;exact .nil
 | cons n ns ih =>
  intro us r;rw[zJ] at r;cases r with
  | cons r1 r2 =>
   let⟨t,e⟩:=r1;subst e;exact .cons n t (ih r2)
section
variable {lo hi:Option Expr}
def IA:PO X none Jt:=by
 intro pins s σ H Q I h;rw[evalPart_none];exact zX ⟨none,H,I,.none,h⟩
def IU(h:PE X e te):PO X (some e) (Ny te):=by
 intro pins s σ H Q I hw;rw[evalPart_some];refine bS (h pins s σ H _ I hw) λu s1 z=>?_;let⟨x,H1,I1,r1,q1⟩:=z;let⟨i,rfl,q⟩:=q1;let⟨t,rfl⟩:=r1;exact⟨some i,H1,I1,.int i t,q⟩
def Kc(X:Cx)(r:V->Option Int->Option Int->Hp->VK->Prop):Prop :=
 ∀ (pins:List (Addr×Obj)) (s:Shared) (σ:St) (H:Hp) (x:V) (v vl vu:Value) (lo hi:Option Int) (sl:Addr) (Q:VK),Inv X pins σ H s->RelV x v->s.heap.IsSliceOf sl vl vu .none->IsPart vl lo->IsPart vu hi->r x lo hi H Q ->
  ∃T id,typeLookup (.type T) "__getitem__"=pure (some (.builtin id))/\s.TypeIs v T/\wpAny (model X.prog X.w) X.A (getItem v (.ref sl)) (EP X pins σ Q) X.xe s
def Kc.or(h:Kc X r)(h':Kc X r'):Kc X (λx lo hi H Q=>r x lo hi H Q\/r' x lo hi H Q):=by
 intro pins s σ H x v vl vu lo hi sl Q I rx hs pl pu q;rcases q with q|q
 ·exact h pins s σ H x v vl vu lo hi sl Q I rx hs pl pu q
 ·exact h' pins s σ H x v vl vu lo hi sl Q I rx hs pl pu q
def QB(r:V->Option Int->Option Int->Hp->VK->Prop)(te:TE)(tl th:TO):TE:=λσ H Q=>te σ H λx H1=>tl σ H1 λl H2=>th σ H2 λu H3=>r x l u H3 Q
def FV(hr:Kc X r)(he:PE X e te)(hl:PO X lo tl)(hu:PO X hi th):PE X (.Subscript e (.Slice lo hi none p2) pos) (QB r te tl th):=by
 intro pins s σ H Q I h;refine Subscript_ (bS (he pins s σ H _ I h) λv s1 ⟨x,H1,I1,r1,q1⟩=>?_);refine wpAny_Slice (bS (hl pins s1 σ H1 _ I1 q1) λvl s2 ⟨l,H2,I2,pl,q2⟩=>bS (hu pins s2 σ H2 _ I2 q2) λvu s3 ⟨u,H3,I3,pu,q3⟩=>?_);rw[evalPart_none];refine zX ?_;have I4:Inv X pins σ H3 { s3 with heap:=s3.heap.push { cls:=.type "slice",data:=.fields #[vl,vu,.none] } }:=I3.kept (t':=s3.toks) λb ob q=>zV _ q;let⟨T,id,hT,ht,hg⟩:=hr pins { s3 with heap:=s3.heap.push { cls:=.type "slice",data:=.fields #[vl,vu,.none] } } σ H3 x v vl vu l u s3.heap.objs.size Q I4 r1 (Heap.IsSliceOf.new ..) pl pu q3;show wpAny (model X.prog X.w) X.A (subscriptTail e (.Slice lo hi none p2) v (.ref s3.heap.objs.size)) (EP X pins σ Q) X.xe { s3 with heap:=s3.heap.push { cls:=.type "slice",data:=.fields #[vl,vu,.none] } };exact tail_any (ops:=[.ref s3.heap.objs.size,v]) ht hT hg (by with_unfolding_all rfl)
def HQ(xs:List V)(lo hi:Option Int):List V:=(xs.drop (HT.dq xs.length 0 lo)).take (HT.dq xs.length xs.length hi - HT.dq xs.length 0 lo)
def v9(xs:List V)(lo hi:Option Int):(HQ xs lo hi).length<=xs.length:=by
 unfold HQ;rw[jW,qJ];lia
def Pk(K:W.Frag):V->Option Int->Option Int->Hp->VK->Prop:=λx lo hi H Q=>∃a xs,x=.ref a/\gq K H a xs /\
 ¬ (HT.dq xs.length 0 lo=0/\HT.dq xs.length xs.length hi=xs.length)/\∀p,H p=none->Q (.ref p) (upd H p (.tup (HQ xs lo hi)))
def Lq:Kc X (Pk X.K):=by
 intro pins s σ H x v vl vu lo hi sl Q I rx hs pl pu h;let⟨a,xs,rfl,hx,hw,q⟩:=h;cases rx;let⟨its,r,ht,hz⟩:=I.tuple hx;have hlen:its.toArray.size=xs.length:=by rw[zI];exact r.length.symm
 refine⟨"tuple",_,PyProof.Rows.slot_tuple_getitem.lookup,ht.typeIs,?_⟩;refine HT.mz ht hs pl pu (by rw[hlen];exact hw) ?_ (by rw[hlen];exact hz);rw[hlen];refine⟨.ref s.heap.objs.size,_,I.laid (t':=s.toks) (o:=.tup (HQ xs lo hi)) (λb ob q=>zV _ q) (yN _) ?_,rfl,q _ (I.QR.fresh (yN _))⟩;exact⟨yE (v9 xs lo hi) hz,_,(r.drop (HT.dq xs.length 0 lo)).take (HT.dq xs.length xs.length hi - HT.dq xs.length 0 lo),pb.new _ _⟩
def NA(K:W.Frag):R2:=λx y H Q=>∃a b xs ys,x=.ref a/\y=.ref b/\gq K H a xs/\gq K H b ys/\xs≠[]/\xs.length+ys.length<=sizeLine /\
 (ys=[]->Q (.ref a) H)/\(ys≠[]->∀p,H p=none->Q (.ref p) (upd H p (.tup (xs++ys))))
def aD.RG(r:aD xs us):us=[]↔xs=[]:=by
 cases r with
 | nil=>simp
 | cons _ _=>simp
def Il:gK X (binaryOp .Add) (NA X.K):=by
 intro pins s σ H x y v u Q I rx ry h;let⟨a,b,xs,ys,rfl,rfl,ha,hb,hx,hz,q1,q2⟩:=h;cases rx;cases ry;let⟨its,r1,p1,_⟩:=I.tuple ha;let⟨Rm,r2,p2,_⟩:=I.tuple hb;refine HT.IV p1 p2 (λz=>hx (r1.RG.mp z)) (λz=>⟨.ref a,H,I,rfl,q1 (r2.RG.mp z)⟩) (λz=>?_) (by rw[<- r1.length,<- r2.length];exact hz);refine⟨.ref s.heap.objs.size,_,I.laid (t':=s.toks) (o:=.tup (xs++ys)) (λb ob q=>zV _ q) (yN _) ?_,rfl,q2 (λw=>z (r2.RG.mpr w)) _ (I.QR.fresh (yN _))⟩;exact⟨by rw[zO];exact hz,_,r1.append r2,pb.new _ _⟩
end
def Dh(n:Nat)(i:Int):Option Nat:=if 0<=i then (if i < n then some i.toNat else none) else if -(n:Int)<=i then some (i+n).toNat else none
def pI(xs:List α)(i:Int):Option α:=(Dh xs.length i).bind λj=>xs[j]?
def BP(h:Dh n i=some j):seqIndex? i n=some j/\j < n/\-(n:Int)<=i/\i < n:=by
 unfold Dh at h;by_cases h0:0<=i
 ·rw[yM h0] at h;by_cases h1:i < n
  ·rw[yM h1] at h;have e:i.toNat=j:=xE h;exact⟨by rw[seqIndex_of h0 h1,e],by lia,by lia,h1⟩
  ·rw[yO h1] at h;cases h
 ·rw[yO h0] at h;by_cases h1:-(n:Int)<=i
  ·rw[yM h1] at h;have e:(i+n).toNat=j:=xE h;exact⟨by rw[seqIndex_neg (by lia) h1,e],by lia,h1,by lia⟩
  ·rw[yO h1] at h;cases h
def tV(h:pI xs i=some v):∃j,seqIndex? i xs.length=some j/\xs[j]?=some v/\j < xs.length/\-(xs.length:Int)<=i/\i < xs.length:=by
 unfold pI at h;cases e:Dh xs.length i with
 | none=>rw[e] at h;cases h
 | some j =>
  rw[e] at h;let⟨h1,h2,h3,h4⟩:=BP e;exact⟨j,h1,h,h2,h3,h4⟩
def uO{α:Type}{xs:List α}{j:Nat}{v:α}(h:xs[j]?=some v):pI xs (j:Int)=some v:=by
 have hj:j < xs.length:=(List.getElem?_eq_some_iff.mp h).1;have e:Dh xs.length (j:Int)=some j:=by
  unfold Dh;rw[yM (by lia),yM (by lia)];simp
 unfold pI;rw[e];exact h
def oU(b:Expr):Prop:=∀o i,subscripted b false o i=operate [o,i] (getItem o i)
def Hl(X:Cx)(r:R2):Prop :=
 ∀ (value slice:Expr) (pins:List (Addr×Obj)) (s:Shared) (σ:St) (H:Hp) (x y:V) (v u:Value) (Q:VK),Inv X pins σ H s->RelV x v->RelV y u->r x y H Q ->
  subscripted slice false v u=operate [v,u] (getItem v u)->wpAny (model X.prog X.w) X.A (subscriptTail value slice v u) (EP X pins σ Q) X.xe s
def Qd(X:Cx)(id:String)(r:V->List V->Hp->VK->Prop):Prop :=
 ∀ (pins:List (Addr×Obj)) (s:Shared) (σ:St) (H:Hp) (x:V) (xs:List V) (v:Value) (us:List Value) (Q:VK),Inv X pins σ H s->RelV x v->aD xs us->r x xs H Q ->
  wpAny (model X.prog X.w) X.A (call (.builtin id) (v::us)) (EP X pins σ Q) X.xe s
section
def Hl.or(h:Hl X r)(h':Hl X r'):Hl X (λx y H Q=>r x y H Q\/r' x y H Q):=by
 intro value slice pins s σ H x y v u Q I rx ry q hs;rcases q with q|q
 ·exact h value slice pins s σ H x y v u Q I rx ry q hs
 ·exact h' value slice pins s σ H x y v u Q I rx ry q hs
def J9(hr:Hl X r)(ha:PE X a ta)(hb:PE X b tb)(hs:oU b):PE X (.Subscript a b pos) (Nt r ta tb):=by
 intro pins s σ H Q I h;exact Subscript_ (MG ha hb I h λv u s2 x y H2 I2 rx ry q=>hr a b pins s2 σ H2 x y v u Q I2 rx ry q (hs _ _))
def NY(K:W.Frag):R2:=λx y H Q=>∃p xs i v,x=.ref p/\y=.int i/\gp K H p xs/\pI xs i=some v/\Q v H
def M8(K:W.Frag):R2:=λx y H Q=>∃p xs i v,x=.ref p/\y=.int i/\gq K H p xs/\pI xs i=some v/\Q v H
def Ng:R2:=λx y H Q=>∃z i c,x=.str z/\y=.int i/\z.length<=sizeLine/\pI z.cps.toList i=some c/\Q (.str ⟨#[c]⟩) H
def IC:Hl X (NY X.K):=by
 intro value slice pins s σ H x y v u Q I rx ry h hs;let⟨p,xs,i,z,rfl,rfl,hq,he,q⟩:=h;cases rx;let⟨t,rfl⟩:=ry;let⟨its,r,pl,hz⟩:=I.list hq;let⟨j,h1,h2,h3,h4,h5⟩:=tV he;let⟨w,ew,Wo⟩:=r.get h2;have hl:=r.length;have hn:=pX;have fin:EP X pins σ Q w s:=⟨z,H,I,Wo,q⟩
 by_cases h0:0<=i
 ·have hj:i.toNat=j:=by
   rw[seqIndex_of h0 h5] at h1;exact xE h1
  exact item_listR pl.isList h0 (by lia) (by rw[hj];simpa using ew) fin hs
 ·have hj:(i+(its.toArray.size:Int)).toNat=j:=by
   rw[seqIndex_neg (by lia) h4] at h1;rw[zI,<- hl];exact xE h1
  exact subscriptTail_builtinR (x:=w) pl.isList.typeIs slot_list_getitem.lookup
   (wpAny_getItem_list_neg (Q:=λr s'=>r=w/\EP X pins σ Q r s') pl.isList (by lia) (by rw[zI]<;>lia) (by lia) (by rw[hj];simpa using ew) ⟨rfl,fin⟩) hs
def AI:Hl X (M8 X.K):=by
 intro value slice pins s σ H x y v u Q I rx ry h hs;let⟨p,xs,i,z,rfl,rfl,hq,he,q⟩:=h;cases rx;let⟨t,rfl⟩:=ry;let⟨its,r,pl,hz⟩:=I.tuple hq;let⟨j,h1,h2,h3,h4,h5⟩:=tV he;let⟨w,ew,Wo⟩:=r.get h2;have hl:=r.length;have hn:=pX;have fin:EP X pins σ Q w s:=⟨z,H,I,Wo,q⟩
 exact subscriptTail_builtinR (x:=w) pl.typeIs slot_tuple_getitem.lookup
  (getItem_tuple (j:=j) (Q:=λr s'=>r=w/\EP X pins σ Q r s') pl (by lia) (by lia) (by rw[zI,<- hl];exact h1) (by simpa using ew) ⟨rfl,fin⟩) hs
def LQ:Hl X Ng:=by
 intro value slice pins s σ H x y v u Q I rx ry h hs;let⟨z,i,c,rfl,rfl,hz,he,q⟩:=h;let⟨t,rfl⟩:=rx;let⟨t',rfl⟩:=ry;let⟨j,h1,h2,h3,h4,h5⟩:=tV he;have hl:z.cps.toList.length=z.length:=by simp[Str.length]
 rw[hl] at h1 h4 h5;have hn:=pX;exact tail_any (typeIs_str s z t) slot_str_getitem.lookup (getItem_str (c:=c) (by
  have e1:decide (i < -(2 ^ 63:Int))=false:=yA (by lia);have e2:decide (i >= 2 ^ 63)=false:=yA (by lia);rw[e1,e2,Bool.or_false]) (by rw[h1];simpa using h2) ⟨.str ⟨#[c]⟩,H,I.tok _,⟨_,rfl⟩,q⟩) hs
def P8(K:W.Frag):R2:=λx y H Q=>NY K x y H Q\/M8 K x y H Q\/Ng x y H Q
def Gs:Hl X (P8 X.K):=IC.or (AI.or LQ)
def Aj(its:List Value)(n j:Nat)(u:Value):Obj.mapSeq (·.setIfInBounds j u) { cls:=.type "list",data:=.seq its.toArray n }={ cls:=.type "list",data:=.seq (its.set j u).toArray n }:=by
 simp[Obj.mapSeq]
def Inv.lst(I:Inv X pins σ H s)(h:H p=some (.lst xs)) :
  ∃ (its:List Value) (n:Nat),aD xs its/\s.heap.get? p=some { cls:=.type "list",data:=.seq its.toArray n }/\xs.length<=sizeLine:=by
 let⟨z,its,n,r,e⟩:=I.QR p _ h;exact⟨its,n,r,e,z⟩
def Inv.Wq{ys:List V}{its its':List Value}{n n':Nat}{f:Obj->Obj}(I:Inv X pins σ H s)(h:H p=some (.lst xs))
  (ho:s.heap.get? p=some { cls:=.type "list",data:=.seq its.toArray n }) (hf:f { cls:=.type "list",data:=.seq its.toArray n }={ cls:=.type "list",data:=.seq its'.toArray n' }) (r:aD ys its') (hz:ys.length<=sizeLine) (t:Nat) :
  Inv X pins σ (upd H p (.lst ys)) { s with heap:=s.heap.update p f,toks:=t }:=by
 have e:(s.heap.update p f).get? p=some { cls:=.type "list",data:=.seq its'.toArray n' }:=by
  rw[Heap.get?_update_self f ho (by rw[hf]<;>rfl),hf]
 refine I.write (x:=p) (e:=p) (by rw[h];trivial) (.inl rfl) (λb u hb q=>(xO _ _ (jN hb)).trans q) ⟨_,e⟩ ?_;exact⟨hz,its',n',r,e⟩
def Np:V->V->V->Hp->(Hp->Prop)->Prop:=λo i v H Q=>∃p xs k j,o=.ref p/\i=.int k/\H p=some (.lst xs)/\Dh xs.length k=some j/\Q (upd H p (.lst (xs.set j v)))
def set_list:Mg X Np:=by
 intro pins s σ H o i v ov iv u Q I ro ri rv h;let⟨p,xs,k,j,rfl,rfl,hp,hj,q⟩:=h;cases ro;let⟨t,rfl⟩:=ri;let⟨its,n,r,ho,hz⟩:=I.lst hp;let⟨h1,h2,h3,h4⟩:=BP hj;have hl:=r.length;have hn:=pX;have I':Inv X pins σ (upd H p (.lst (xs.set j v))) { s with heap:=s.heap.update p (Obj.mapSeq (·.setIfInBounds j u)) } :=
  I.Wq hp ho (Aj its n j u) (r.set rv j) (by rw[yD];exact hz) s.toks
 by_cases h0:0<=k
 ·have hk:k.toNat=j:=by
   rw[seqIndex_of h0 h4] at h1;exact xE h1
  exact W.ki_setAt ho h0 (by lia) (by rw[zI,<- hl];exact h4) (by rw[hk];exact⟨_,I',q⟩)
 ·have hk:(k+(its.toArray.size:Int)).toNat=j:=by
   rw[seqIndex_neg (by lia) h3] at h1;rw[zI,<- hl];exact xE h1
  exact W.ki_setBack ho (by lia) (by rw[zI,<- hl];exact h3) (by lia) (by rw[hk];exact⟨_,I',q⟩)
def uj:eC X (.builtin "len") (λxs H Q=>∃p ys,xs=[.ref p]/\(gp X.K H p ys\/gq X.K H p ys)/\Q (.int ys.length) H):=by
 intro pins s σ H xs us Q I r h;let⟨p,ys,rfl,hq,q⟩:=h;let⟨u,rfl,rx⟩:=vals1 r;cases rx;have hn:=pX;rcases hq with hq|hq
 ·let⟨its,r',pl,hz⟩:=I.list hq;have hlen:=r'.length;exact Calls.call_len_list pl.isList (by simp?[zI]<;>lia) ⟨.int ys.length,H,I.tok _,⟨s.toks+1,by rw[zI,hlen]⟩,q⟩
 ·let⟨its,r',pl,hz⟩:=I.tuple hq;have hlen:=r'.length;exact len_tuple pl (by simp?[zI]<;>lia) ⟨.int ys.length,H,I.tok _,⟨s.toks+1,by rw[zI,hlen]⟩,q⟩
def rL:eC X (.type "tuple") (λxs H Q=>∃p ys,xs=[.ref p]/\((gp X.K H p ys/\∀l,H l=none->Q (.ref l) (upd H l (.tup ys)))\/(gq X.K H p ys/\Q (.ref p) H))):=by
 intro pins s σ H xs us Q I r h;let⟨p,ys,rfl,h⟩:=h;let⟨u,rfl,rx⟩:=vals1 r;cases rx;rcases h with ⟨hq,q⟩|⟨hq,q⟩
 ·let⟨its,r',pl,hz⟩:=I.list hq;have hlen:=r'.length;refine call_tuple_list pl.isList (λh' kp=>?_) (by simp?[zI]<;>lia);have I1:Inv X pins σ H { s with heap:=h' }:=I.kept (t':=s.toks) kp;have I2:Inv X pins σ (upd H h'.objs.size (.tup ys)) { s with heap:=h'.push { cls:=.type "tuple",data:=.seq its.toArray } } :=
   I1.laid (t':=s.toks) (λb o e=>zV _ e) (yN _) (show eF X.prog X.w _ _ _ (.tup ys) from ⟨hz,its,r',pb.new _ _⟩)
  exact⟨.ref h'.objs.size,_,I2,rfl,q _ (I1.QR.fresh (yN _))⟩
 ·let⟨its,r',pl,hz⟩:=I.tuple hq;exact call_tuple_same pl ⟨.ref p,H,I,rfl,q⟩
def Qb(K:W.Frag)(T:String)(x:V)(H:Hp):Prop:=match x with
 | .str _=>T="str"
 | .int _=>T="int"
 | .ref p=>(T="list"/\∃xs,gp K H p xs)\/(T="tuple"/\∃xs,gq K H p xs) \/
   (T="dict"/\((∃Q2,H p=some (.dK Q2))\/∃Q2,H p=some (.dT Q2)))\/(T="set"/\∃S n,H p=some (.set S n))
 | _=>False
def Lk(I:Inv X pins σ H s)(r:RelV x v)(ty:Qb X.K T x H) :
  s.TypeIs v T/\∀a,v=.ref a->∃ob,s.heap.get? a=some ob/\ob.dict=none:=by
 cases x with
 | str z =>
  let⟨t,rfl⟩:=r;cases (show T="str" from ty);exact⟨typeIs_str s z t,λ_ e=>nomatch e⟩
 | int i =>
  let⟨t,rfl⟩:=r;cases (show T="int" from ty);exact⟨typeIs_int s i t,λ_ e=>nomatch e⟩
 | ref p =>
  cases r;rcases ty with ⟨rfl,xs,hq⟩|⟨rfl,xs,hq⟩|⟨rfl,hk⟩|⟨rfl,S,n,hk⟩
  ·let⟨its,_,pl,_⟩:=I.list hq;refine⟨pl.isList.typeIs,λa e=>?_⟩;cases e;let⟨o,n,e,c,hd,_⟩:=pl;exact⟨o,e,hd⟩
  ·rcases hq with hq|⟨o,its,n,hk,hc,hd,_⟩
   ·let⟨_,_,_,⟨o,e1,e2,_⟩,o2,e3,e4⟩:=hq.ok I.QR;exact⟨⟨o,e1,e2⟩,λa e=>by cases e;exact⟨o2,e3,e4⟩⟩
   ·exact⟨⟨o,I.TB p o hk,hc⟩,λa e=>by cases e;exact⟨o,I.TB _ o hk,hd⟩⟩
  ·have z:∃o,s.heap.get? p=some o/\o.ExactDict:=by
    rcases hk with ⟨Q2,hk⟩|⟨Q2,hk⟩
    ·let⟨_,_,_,_,o,_,_,e,ex,_⟩:=I.QR p _ hk;exact⟨o,e,ex⟩
    ·let⟨_,_,o,_,_,e,ex,_⟩:=I.QR p _ hk;exact⟨o,e,ex⟩
   let⟨o,e,ex⟩:=z;refine⟨⟨o,e,ex.1⟩,λa e2=>?_⟩;cases e2;exact⟨o,e,ex.2.1⟩
  ·let⟨o,_,_,_,e,ex,_⟩:=I.QR p _ hk;refine⟨⟨o,e,ex.1⟩,λa e2=>?_⟩;cases e2;exact⟨o,e,ex.2.1⟩
 | _=>exact False.elim ty
def Qn(K:W.Frag)(T:String)(r:V->List V->Hp->VK->Prop)(to:TE)(t:TA):TE:=λσ H Q=>to σ H λx H1=>Qb K T x H1/\t σ H1 λxs H2=>r x xs H2 Q
variable {T id:String}
def qm(pa:PlainAttrs T)(slot:Slot T name id)(hty:typeOf (.builtin id)=pure (.type "method_descriptor"))(hm:Qd X id r)(ho:PE X o to)(ha:PA X (e::es) t)
  (Rl:attributeBase o name X.env (eval o X.env)=eval o X.env:=by rfl)
  (Ri:((backTo QS (starEach (e::es) X.env)).all (λx=>!x.1)&&(backToKw QS (keywordEach [] X.env)).all (λx=>x.1.isSome)
   &&decide ((e::es).length+([]:List Keyword).length+(if ([]:List Keyword).isEmpty then 0 else 1) < 30))=true:=by rfl)
  (QU:(apos.endLine == QS.line)=true:=by rfl) (hs:starEach (e::es) X.env=(false,eval e X.env)::starEach es X.env:=by rfl) (Wr:(backTo QS (starEach es X.env)).any (·.1)=false:=by rfl) :
  PE X (.Call (.Attribute o name apos) (e::es) [] QS) (Qn X.K T r to t):=by
 intro pins s σ H Q I h;refine wpAny_Call_method_late Rl Ri QU rfl (bS (ho pins s σ H _ I h) λv s1 ⟨x,H1,I1,r1,ty,q1⟩=>?_);let⟨h1,h2⟩:=Lk I1 r1 ty;refine⟨T,id,pa,slot,hty,h1,h2,?_⟩;have hA:=ha QS pins s1 σ H1 _ I1 q1;rw[hs] at hA ⊢;refine Calls.callWith_builtin (by show (false||(backTo QS (starEach es X.env)).any (·.1))=false;rw[Wr]<;>rfl) (Calls.evalArgs_plain ?_);exact bS hA λus s2 ⟨vs,H2,I2,r2,q2⟩=>hm pins s2 σ H2 x vs v us Q I2 r1 r2 q2
/- xs.append(e),list.index on a XQ tuple .. are Qd facts of 06m -/
end
def M5(X:Cx)(id:String)(r:V->List V->Hp->VK->Prop):Prop :=
 ∀ (pins:List (Addr×Obj)) (s:Shared) (σ:St) (H:Hp) (x:V) (xs:List V) (v:Value) (us:List Value) (Q:VK),Inv X pins σ H s->RelV x v->aD xs us->r x xs H Q ->
  wpAny (model X.prog X.w) X.A (call (.builtin id) (v::us)) (EP X pins σ Q) X.xe s
def aD.one(h:aD [x] us):∃u,us=[u]/\RelV x u:=by
 cases h with|cons r t=>cases t;exact⟨_,rfl,r⟩
def aD.two(h:aD [x,y] us):∃u v,us=[u,v]/\RelV x u/\RelV y v:=by
 cases h with|cons r t=>let⟨v,rfl,q⟩:=aD.one t;exact⟨_,_,rfl,r,q⟩
def aD.rep(h:aD xs us):∀k:Nat,aD (List.replicate k xs).flatten (List.replicate k us).flatten
 | 0=>.nil
 | k+1=>by
  rw[xF,xF,qN,qN];exact aD.append h (aD.rep h k)
def foldl_rep(its:List Value):∀ (k:Nat) (acc:List Value),
  List.foldl (λx1 x2=>x1++x2) acc.toArray (List.replicate k its.toArray)=(acc++(List.replicate k its).flatten).toArray
 | 0,acc=>by simp
 | k+1,acc=>by
  have e:acc.toArray++its.toArray=(acc++its).toArray:=by simp
  have e2:(acc++its)++(List.replicate k its).flatten=acc++(List.replicate (k+1) its).flatten:=by
   rw[xF,qN,List.append_assoc]
  rw[<- e2,<- foldl_rep its k (acc++its),<- e,xF,yJ]
section
variable {xs ys zs:List V}
def Inv.Ws{its its':List Value}{n:Nat}{f:Array Value->Array Value}{t':Nat}(I:Inv X pins σ H s)(hH:H l=some (.lst xs))
  (e:s.heap.get? l=some { cls:=.type "list",data:=.seq its.toArray n }) (hf:f its.toArray=its'.toArray) (hv:aD ys its') (hz:ys.length<=sizeLine) :
  Inv X pins σ (upd H l (.lst ys)) { s with heap:=s.heap.update l (Obj.mapSeq f),toks:=t' }:=by
 have q:=PySem.IsL.update e f;rw[hf] at q;refine I.write (x:=l) (e:=l) (by rw[hH];exact trivial) (.inl rfl) (λb' u hb hu=>(xO s.heap (Obj.mapSeq f) (jN hb)).trans hu) ⟨_,q⟩ ?_;exact⟨hz,its',_,hv,q⟩
def Inv.Wt{t':Nat}(I:Inv X pins σ H s)(hv:aD ys its)(hz:ys.length<=sizeLine) :
  Inv X pins σ (upd H s.heap.objs.size (.lst ys)) { s with heap:=s.heap.push { cls:=.type "list",data:=.seq its.toArray },toks:=t' } :=
 I.laid (λ_ _ q=>zV _ q) (yN _) ⟨hz,its,0,hv,zY _ rfl⟩
def Inv.fresh(I:Inv X pins σ H s):H s.heap.objs.size=none:=I.QR.fresh (yN _)
def Inv.U2(I:Inv X pins σ H s)(hH:H l=some (.lst xs)):xs.length<=sizeLine/\∃ (its:List Value) (n:Nat),aD xs its/\xs.length=its.length/\s.heap.get? l=some { cls:=.type "list",data:=.seq its.toArray n }:=by
 let⟨z,its,n,r,e⟩:=I.QR l _ hH;exact⟨z,its,n,r,r.length,e⟩
def Gj(h:n<=sizeLine):Builtin.List.listTooLong n=false:=by
 unfold Builtin.List.listTooLong;exact yA (by lia)
end
def IS:V->List V->Hp->VK->Prop:=λx vs H Q=>∃l xs y,x=.ref l/\vs=[y]/\H l=some (.lst xs)/\xs.length < sizeLine/\Q .QK (upd H l (.lst (xs++[y])))
def nA:M5 X "list.append" IS:=by
 intro pins s σ H x vs v us Q I rx rv h;let⟨l,xs,y,rfl,rfl,hH,hz,q⟩:=h;cases rx;let⟨u,rfl,ru⟩:=rv.one;let⟨z,its,n,r,hl,e⟩:=I.U2 hH;refine qY F.slot_list_append ⟨_,e,rfl⟩ F.entry_list_append (F.args_list_append_2 _ _) (PySem.list_append l its.toArray n u (by rw[zI];lia)) ⟨e,?_⟩;refine⟨.QK,_,I.Ws (its':=its++[u]) hH e (by simp) (r.append (.cons ru .nil)) ?_,rfl,q⟩;rw[zO,xD];lia
def JL:V->List V->Hp->VK->Prop:=λx vs H Q=>∃l b xs zs,x=.ref l/\vs=[.ref b]/\H l=some (.lst xs)/\H b=some (.lst zs)/\xs.length+zs.length<=sizeLine/\Q .QK (upd H l (.lst (xs++zs)))
def C9:M5 X "list.extend" JL:=by
 intro pins s σ H x vs v us Q I rx rv h;let⟨l,b,xs,zs,rfl,rfl,hH,hB,hz,q⟩:=h;cases rx;let⟨u,rfl,ru⟩:=rv.one;cases ru;let⟨z,its,n,r,hl,e⟩:=I.U2 hH;let⟨z2,Rm,n2,r2,hl2,e2⟩:=I.U2 hB;have hsz:its.toArray.size+Rm.toArray.size<=sizeLine:=by rw[zI,zI];lia
 have XR:¬ (!its.toArray.isEmpty&&Builtin.List.listTooLong (its.toArray.size+Rm.toArray.size))=true:=by
  rw[Gj hsz,Bool.and_false];exact xA
 refine qY F.slot_list_extend ⟨_,e,rfl⟩ F.entry_list_extend (F.args_list_extend_2 _ _)
  (AutoSeq1.list_extend_list_list_0 l its.toArray n b Rm.toArray n2 XR (by rw[zI];lia) (by lia)) ⟨e,e2,?_⟩
 refine⟨.QK,_,I.Ws (its':=its++Rm) hH e (by simp) (r.append r2) ?_,rfl,q⟩;rw[zO];lia
def len_rep(xs:List α)(k:Nat):(List.replicate k xs).flatten.length=k * xs.length:=by
 induction k with
 | zero=>simp
 | succ k ih=>rw[xF,qN,zO,ih,Nat.succ_mul,Nat.add_comm]
end L2
namespace Att
open PySem PySem.W PySem.Calls PyProof.Rows
variable {n:Nat}
def RE:∀ (ns:List Int) (vs:List Value),WellAll P h vs (ns.map WData.int)->IntsAre vs ns:=by
 intro ns
 induction ns with
 | nil =>
  intro vs w;rw[yV] at w;cases w;exact .nil
 | cons n ns ih =>
  intro vs w;rw[zJ] at w;cases w with
  | cons a b =>
   cases a;exact .cons _ _ (ih _ b)
def TJ{l:OpenLaw}(hn:l.most=some n){P:Params}{h:Heap}{args:List WData}{vals:List Value}
  (U3:l.row.toRowW.claim.pre args=true) (Uh:WellAll P h vals args) :
  ∃a vs ns,vals=[Value.ref a]/\args=[WData.list (ns.map WData.int)]/\h.get? a=some { cls:=.type "list",data:=.seq vs.toArray }/\IntsAre vs ns/\ns.length<=n:=by
 have hsh:WShape.hasAll [] args [.list .int]=true:=(pre_splitW U3).1;have hc:l.pre.holds [] { args:=args }=true:=(pre_splitW U3).2;let⟨d,r,rfl,h1,h2⟩:=hasAllW_cons hsh;obtain rfl:=hasAllW_nil h2;let⟨xs,rfl,h3⟩:=hasW_list h1;let⟨ns,rfl⟩:=items_int h3;have hlen:ns.length<=n:=by
  unfold OpenLaw.pre at hc;have h4:(WTm.not (.lt (.lit (.int (n:Int))) (.len (.arg 0)))).holds [] { args:=[.list (ns.map .int)] }=true:=by
   have h4:=(holds_andW hc).1;rw[hn] at h4;exact h4
  have h5:=condW_of h4 (w_not (w_lt w_lit (w_len_list (w_arg rfl))));rw[zE] at h5;refine Nat.le_of_not_lt λq=>?_;have q':(n:Int) < ((ns.length:Nat):Int):=by lia
  first
   | (rw[yB q'] at h5;exact absurd h5 (by decide))
   | (simp at h5;lia)
 cases Uh with
 | cons w1 w2 =>
  cases w2;cases w1 with
  | list ho Sb=>exact⟨_,_,ns,rfl,rfl,ho,RE ns _ Sb,hlen⟩
def TK(l:OpenLaw)(args:List WData):l.row.toRowW.claim.post args (.bool true) args=true :=
 postW_of (r:=l.row.toRowW) (X:=(true == true))
  (show WShape.has [] (.bool true) .bool=true by first|rfl|decide|simp[WShape.has,WShape.arms,WShape.armsAll])
  (show (WTm.eq .res (.lit (.bool true))).value [] { args:=args,res:=some (.bool true),after:=args }=some (.bool (true == true)) from w_eq_bool (w_res rfl) w_lit) rfl
def Sd{l:OpenLaw}{q:Program}{loose:List Str}{XP:(Str->Option Value)->Heap->Prop}{YP:World->Heap->Prop}{d:DefRec}
  (hn:l.most=some n) (XT:d.params.defaults=[])
  (call:∀ (w:World) (QZ QP:Shared) (mg mb:Str->Option Value) (fa:Addr) (o:Obj) (pm cd doc:Value) (a:Addr) (vs:List Value) (ns:List Int),
   Ground q loose [] XP w QZ mg mb QP.heap->YP w QP.heap ->
   QP.heap.get? fa=some o->o.data=.func (docDef d.name d.params d.body d.scope pm cd doc)->QP.heap.CodeRec cd d.name->mg d.name=some (.ref fa) ->
   QP.heap.get? a=some { cls:=.type "list",data:=.seq vs.toArray }->IntsAre vs ns->ns.length<=n->QP.gens=#[] ->
   codeAny (model l.prog w) callerA (.call (.ref fa) ⟨[.ref a],[]⟩) (λr s'=>r=.ok (.ret (.bool true))/\OldK QP.heap s'.heap/\s'.os=QP.os/\AllBare s'.gens) QP) :
  WalkO q loose XP YP l.row.toRowW d [] (λf vs=>PySem.call f vs):=by
 intro w QZ QP mg mb G Y fa o pm cd doc dV kV ho hd Rp hD XU hg args vals as U3 aer hrd Uh hlo;obtain rfl:dV=.none:=Dflts.none hD XT;obtain rfl:kV=.none:=Dflts.noKw hD;let⟨a,vs,ns,rfl,rfl,Wu,hints,hlen⟩:=TJ hn U3 Uh;refine enter_call (jS (call w QZ QP mg mb fa o pm cd doc a vs ns G Y ho (fd_plain hd) Rp XU Wu hints hlen hg) λr s' hq=>?_);let⟨rfl,h2,h3,h4⟩:=hq;exact⟨.inl ⟨.bool true,.bool true,[],rfl,λ_=>rfl,.bool true,TK l _,λ_=>⟨List.Pairwise.nil,λ_ hm=>(nomatch hm)⟩⟩,h2,h3,h4⟩
section
variable {K:Frag}
end
end Att
namespace L2
open PySem PySem.Spec PyProof.Rows
variable {B:Prop}
def rQ:∀ {vs:List Value}{ns:List Int},IntsAre vs ns->aD (ns.map V.int) vs
 | _,_,.nil=>.nil
 | _,_,.cons n t h=>.cons ⟨t,rfl⟩ (rQ h)
abbrev MY:JS:=λ_ _ _ _ _ _=>False
abbrev E0:XK:=λ_ _ _=>False
def Kn:uD MY X E0:=λ_ _ _ _ _ _ _ h=>h.elim
structure Ih(K:W.Frag)(x qual:Str)(st:Stmt)(f:Addr)(fd:FuncData):Prop where
 ex:∃ (oc:Value) (od:Option Addr) (kV doc pm:Value) (an:Option Addr) (Ru ct:Value) (S9:Array (Option Value)),
  fd=W.fnOf x qual (gF st) (b8 st) (aF st) .none kV doc pm an Ru ct/\K.lookup f=some ⟨oc,od,.func fd,S9⟩/\W.codeIn K Ru qual=true
 kp:W.keepIn K (.ref f)=true
section
variable {K:W.Frag}
def Ih.binds{st:Stmt}(F:Ih K x qual st f fd)
  (h:∀ (kV doc pm:Value) (an:Option Addr) (Ru ct:Value) (us:List Value),us.length=ps.length->bindArgs (W.fnOf x qual (gF st) (b8 st) (aF st) .none kV doc pm an Ru ct) ⟨us,[]⟩=pure (ps.zip us)):Binds K fd ps []:=by
 let⟨oc,od,kV,doc,pm,an,Ru,ct,S9,rfl,lk,Rp⟩:=F.ex;exact .all (h kV doc pm an Ru ct)
def uR{st:Stmt}{kV:Value}(l:K.lookup f=some ⟨oc,od,.func (W.fnOf x qual (gF st) (b8 st) (aF st) .none kV doc pm an Ru ct),S9⟩)
  (c:W.codeIn K Ru qual=true) (k:W.keepIn K (.ref f)=true):Ih K x qual st f (W.fnOf x qual (gF st) (b8 st) (aF st) .none kV doc pm an Ru ct):=⟨⟨oc,od,kV,doc,pm,an,Ru,ct,S9,rfl,l,c⟩,k⟩
end
def wR{A B:Prop}(h:B):if false=true then A else B:=by
 rw[yO xA];exact h
def yi{A B:Prop}(h:A):if true=true then A else B:=by
 rw[yM rfl];exact h
def aK(H H':Hp):Prop:=∀b o,H b=some o->H' b=some o
def aK.refl(H:Hp):aK H H:=λ_ _ h=>h
def aK.trans(a:aK H H1)(b:aK H1 H2):aK H H2:=λc o h=>b c o (a c o h)
def aK.free(e:aK H H')(h:H' l=Option.none):H l=Option.none:=by
 cases q:H l with
 | none=>rfl
 | some o =>
  rw[e l o q] at h;cases h
def aK.seq{K:W.Frag}(e:aK H H')(h:gp K H a xs):gp K H' a xs:=by
 rcases h with (h|⟨o,h⟩)|h
 ·exact .inl (.inl (e _ _ h))
 ·exact .inl (.inr ⟨o,e _ _ h⟩)
 ·exact .inr h
def bF:∀ (names:List (Str×NameKind)) (n:Nat) (acc:List (Str×Addr)),cellsFrom n names acc=cellsFrom n names []++acc
 | [],_,_=>rfl
 | (name,kind)::r,n,acc=>by
  unfold cellsFrom;split
  ·rw[bF r (n+1) ((name,n)::acc),bF r (n+1) [(name,n)]];simp
  ·exact bF r n acc
def iV:∀ {l m:List (Str×α)},(l++m).lookup x=some c->l.lookup x=some c\/(l.lookup x=none/\m.lookup x=some c)
 | [],_,h=>.inr ⟨rfl,h⟩
 | (k,v)::r,m,h=>by
  have ih:=@iV α x c r m;rw[xG,yC] at h;rw[yC];cases e:x == k with
  | true=>rw[e] at h;exact .inl h
  | false=>rw[e] at h;exact ih h
def iY:∀ {l m:List (Str×α)},l.lookup x=some c->(l++m).lookup x=some c
 | [],_,h=>by cases h
 | (k,v)::r,m,h=>by
  have ih:=@iY α x c r m;rw[yC] at h;rw[xG,yC];cases e:x == k with
  | true=>rw[e] at h;exact h
  | false=>rw[e] at h;exact ih h
def gU:∀ {l m:List (Str×α)},l.lookup x=none->(l++m).lookup x=m.lookup x
 | [],_,_=>rfl
 | (k,v)::r,m,h=>by
  have ih:=@gU α x r m;rw[yC] at h;rw[xG,yC];cases e:x == k with
  | true=>rw[e] at h;cases h
  | false=>rw[e] at h;exact ih h
def gn:∀ (names:List (Str×NameKind)) (n:Nat) (x:Str) (c:Addr),(x,c)∈cellsFrom n names []->(x,NameKind.cell)∈names
 | [],_,_,_,h=>by cases h
 | (name,kind)::r,n,x,c,h=>by
  unfold cellsFrom at h;split at h
  ·rename_i hk;rw[bF] at h;rcases List.mem_append.mp h with h|h
   ·exact zD _ (gn r _ x c h)
   ·have:(x,c)=(name,n):=by simpa using h
    cases this;have:kind=.cell:=by simpa using hk
    subst this;exact zF
  ·exact zD _ (gn r n x c h)
def eJ(env:Env):List (Str×NameKind)->List (Str×Addr)->List (Str×Addr)
 | [],acc=>acc
 | (n,k)::r,acc=>if k == .free then eJ env r ((n,(env.cells.lookup n).getD 0)::acc) else eJ env r acc
def lF(env:Env):∀ (names:List (Str×NameKind)) (acc:List (Str×Addr)),(∀x∈names,x.2=.free->∃c,env.cells.lookup x.1=some c) ->
  (forIn names acc (λ(p:Str×NameKind) (cs:List (Str×Addr))=>(if p.2 == .free then (do let a <- cellOf env p.1;pure (.yield ((p.1,a)::cs))) else pure (.yield cs):Sem (ForInStep (List (Str×Addr))))))=pure (eJ env names acc)
 | [],acc,_=>rfl
 | (n,k)::r,acc,h=>by
  rw[List.forIn_cons];have hr:=λx hx=>h x (zD _ hx);unfold eJ;by_cases hk:k=.free
  ·let⟨c,hc⟩:=h (n,k) zF hk;subst hk;have e1:cellOf env n=pure c:=by
    have RO:env.cells.lookup n=some c:=hc;unfold cellOf;rw[RO]
   have RO:env.cells.lookup n=some c:=hc;simp?[beq_self_eq_true,xI,e1,pure_bind,RO,qH];exact lF env r _ hr
  ·have hb:(k == NameKind.free)=false:=by simpa using hk
   simp?[hb,yP,qQ,pure_bind];exact lF env r _ hr
def lP{env:Env}(h:∀x∈scope.names,x.2=.free->∃c,env.cells.lookup x.1=some c):closureFor scope env=pure (eJ env scope.names []):=by
 have:=lF env scope.names [] h;unfold closureFor;exact (bind_pure _).trans this
def kc{env:Env}:∀ {names:List (Str×NameKind)}{acc:List (Str×Addr)},(∀x∈names,x.2=.free->∃c,env.cells.lookup x.1=some c)->(∀x c,(x,c)∈acc->env.cells.lookup x=some c) ->
  ∀x c,(x,c)∈eJ env names acc->env.cells.lookup x=some c
 | [],acc,_,ha,x,c,hm=>ha x c hm
 | (n,k)::r,acc,h,ha,x,c,hm=>by
  unfold eJ at hm;have hr:=λx hx=>h x (zD _ hx);split at hm
  ·rename_i hk;have SF:k=.free:=by simpa using hk
   let⟨c',hc⟩:=h (n,k) zF SF;have hc:env.cells.lookup n=some c':=hc;refine kc hr (λy d hy=>?_) x c hm;rcases List.mem_cons.mp hy with e|hy
   ·cases e;rw[hc];rfl
   ·exact ha y d hy
  ·exact kc hr ha x c hm
def fQ{env:Env}:∀ {names:List (Str×NameKind)}{acc:List (Str×Addr)}{x:Str},(names.lookup x=some .free\/∃c,acc.lookup x=some c)->∃c,(eJ env names acc).lookup x=some c
 | [],acc,x,h=>by
  rcases h with h|h
  ·cases h
  ·exact h
 | (n,k)::r,acc,x,h=>by
  unfold eJ;split
  ·rename_i hk;refine fQ ?_;rcases h with h|⟨c,h⟩
   ·rw[yC] at h;cases e:x == n with
    | true=>exact .inr ⟨_,by rw[yC,e]⟩
    | false=>rw[e] at h;exact .inl h
   ·refine .inr ?_;rw[yC];cases e:x == n with
    | true=>exact⟨_,rfl⟩
    | false=>exact⟨c,h⟩
  ·rename_i hk;refine fQ ?_;rcases h with h|h
   ·rw[yC] at h;cases e:x == n with
    | true =>
     rw[e] at h;cases h;exact absurd rfl hk
    | false=>rw[e] at h;exact .inl h
   ·exact .inr h
def mC{env:Env}:∀ {names:List (Str×NameKind)}{x:Str}{k:NameKind},names.lookup x=some k ->
  (names.map λ(n,k)=>if (k == NameKind.free&&env.scope.kind == .function&&env.kindOf n == some .cell) then (n,NameKind.cell) else (n,k)).lookup x=some (if (k == NameKind.free&&env.scope.kind == .function&&env.kindOf x == some .cell) then NameKind.cell else k)
 | [],_,_,h=>by cases h
 | (n,k)::r,x,k',h=>by
  have ih:=@mC env r x k';rw[zJ];dsimp only;cases hx:x == n with
  | true =>
   have e:x=n:=by simpa using hx
   subst e;rw[yC,hx] at h;cases h;split<;>simp[yC, *]
  | false =>
   rw[yC,hx] at h;have ih:=ih h;split
   ·rw[yC,hx];exact ih
   ·rw[yC,hx];exact ih
def og{env:Env}:∀ {names:List (Str×NameKind)}{x:Str},names.lookup x=none ->
  (names.map λ(n,k)=>if (k == NameKind.free&&env.scope.kind == .function&&env.kindOf n == some .cell) then (n,NameKind.cell) else (n,k)).lookup x=none
 | [],_,h=>rfl
 | (n,k)::r,x,h=>by
  have ih:=@og env r x;rw[zJ];dsimp only;cases hx:x == n with
  | true=>rw[yC,hx] at h;cases h
  | false =>
   rw[yC,hx] at h;split
   ·rw[yC,hx];exact ih h
   ·rw[yC,hx];exact ih h
def eQ(X:Cx)(scope:Scope)(C:Addr):Env :=
 { scope:=relabel scope X.env,locals:=C,globals:=X.env.globals,cells:=cellsFrom (C+1) scope.names (eJ X.env scope.names []),qual:=X.env.qual,func:=none,code:=X.env.code,frame:=X.env.frame,builtins:=X.env.builtins }
def aR(X:Cx)(scope:Scope)(N:List Str)(fp:List Addr)(s:Shared)(H:Hp):Cx :=
 { X with N:=N,QZ:=s,QM:=H,env:=eQ X scope s.heap.objs.size,outer:=X.stack,ex:=fp,fn:=λx=>decide (scope.names.lookup x=some .cell),pn:=[],xe:=λ_ _=>False }
def Az{M:Model}{A:Around}{E:Value->Shared->Prop}{globals:Addr}{cl:List (Str×Addr)}{qual:Str}{env:Env}
  (hQ:∀h',h'.Ns s.heap.objs.size (λ_=>none)->(∀b o,s.heap.get? b=some o->h'.get? b=some o)->CellsOk h' (s.heap.objs.size+1) (cellsFrom (s.heap.objs.size+1) scope.names []) ->
   Q { scope:=scope,locals:=s.heap.objs.size,globals:=globals,cells:=cellsFrom (s.heap.objs.size+1) scope.names cl,qual:=qual,func:=none,code:=env.code,frame:=env.frame,builtins:=env.builtins } { s with heap:=h' }) :
  wpAny M A (newFunctionEnv scope globals cl [] qual none .none (some env)) Q E s:=by
 simp?[newFunctionEnv,Option.isSome_some,xI];refine zW (wpAny_alloc ?_);refine zW (wpAny_layCells _ (λname kind cells=>by cases hkc:kind == NameKind.cell<;>simp[hkc]) _ _ _ _ ?_);have ok:=cellsFrom_ok scope.names (s.heap.push { cls:=.type "dict",data:=.dict #[] }) (s.heap.objs.size+1) [] ⟨λ_ _ hm=>(nomatch hm),List.Pairwise.nil⟩ (by rw[xK];exact yN _);rw[xK] at ok;rw[show ({ s with heap:=s.heap.push { cls:=.type "dict",data:=.dict #[] } }:Shared).heap.objs.size=s.heap.objs.size+1 from xK ..];rw[List.forIn_nil];refine zW (zX (zX ?_));exact hQ _ ((Heap.Ns.new s.heap (.type "dict")).keeps (pushCells_keeps _ _)) (λb o e=>pushCells_keeps _ _ b o (zV _ e)) ok
section
variable {X:Cx}{pins:List (Addr×Obj)}{σ σ':St}{H:Hp}{s:Shared}{fp:List Addr}{scope:Scope}{N:List Str}{h4:Heap}
def j6(ok:X.Ok)(Rt:∀x∈scope.names,x.2=.free->X.env.kindOf x.1=some .cell\/X.env.kindOf x.1=some .free):∀x∈scope.names,x.2=.free->∃c,X.env.cells.lookup x.1=some c :=
 λx hx hk=>ok.has x.1 (Rt x hx hk)
def nz(h:scope.names.lookup x=some k):(eQ X scope C).kindOf x=some k\/(k=.free/\(eQ X scope C).kindOf x=some .cell):=by
 have q:=mC (env:=X.env) h;have q':(eQ X scope C).kindOf x=some (if (k == NameKind.free&&X.env.scope.kind == .function&&X.env.kindOf x == some .cell) then NameKind.cell else k):=q;rw[q'];split
 ·rename_i hc;have:k=.free:=by
   simp?[zG,beq_iff_eq] at hc;exact hc.1.1
  exact .inr ⟨this,rfl⟩
 ·exact .inl rfl
def lg(h:(eQ X scope C).kindOf x=some k):scope.names.lookup x=some k\/(k=.cell/\scope.names.lookup x=some .free):=by
 cases e:scope.names.lookup x with
 | none =>
  have q:(eQ X scope C).kindOf x=none:=og (env:=X.env) e;rw[q] at h;cases h
 | some k' =>
  rcases nz (X:=X) (C:=C) e with q|⟨q,q'⟩
  ·rw[q] at h;cases h;exact .inl rfl
  ·rw[q'] at h;cases h;subst q;exact .inr ⟨rfl,rfl⟩
def ED(I:Inv X pins σ H s)(hf:∀b∈fp,cB X pins H b)(Tb:∀b∈fp,b < s.heap.objs.size)(hk:scope.kind=.function)
  (Rt:∀x∈scope.names,x.2=.free->X.env.kindOf x.1=some .cell\/X.env.kindOf x.1=some .free)
  (UQ:h4.Ns s.heap.objs.size (λ_=>none)) (Rv:∀b o,s.heap.get? b=some o->h4.get? b=some o) (T7:CellsOk h4 (s.heap.objs.size+1) (cellsFrom (s.heap.objs.size+1) scope.names []))
  (Wv:∀ {x:Str},(x,NameKind.cell)∈scope.names->(x,NameKind.free)∈scope.names->False) (Ww:∀ (i:Nat) (x:Str) (v:V),N[i]?=some x->σ'[i]?=some (some v)->scope.names.lookup x=some .free/\∃j:Nat,X.N[j]?=some x/\σ[j]?=some (some v)) (hlen:σ'.length=N.length) (t':Nat) :
  Inv (aR X scope N fp s H) [] σ' H { s with heap:=h4,toks:=t' }:=by
 have R1:=j6 I.ok Rt;have Vq:∀x c,(eJ X.env scope.names []).lookup x=some c->X.env.cells.lookup x=some c:=λx c e=>kc R1 (λ_ _ z=>by cases z) x c (mem_of_lookup e);have look:∀x c,(eQ X scope s.heap.objs.size).cells.lookup x=some c->(x,c)∈cellsFrom (s.heap.objs.size+1) scope.names []\/X.env.cells.lookup x=some c:=λx c e=>by
  have e:(cellsFrom (s.heap.objs.size+1) scope.names (eJ X.env scope.names [])).lookup x=some c:=e;rw[bF] at e;rcases iV e with q|⟨_,q⟩
  ·exact .inl (mem_of_lookup q)
  ·exact .inr (Vq x c q)
 have old:∀x c,X.env.cells.lookup x=some c->c < s.heap.objs.size:=λx c e=>let ⟨_,q⟩:=I.cell x c e;q.lt;have new:∀x c,(x,c)∈cellsFrom (s.heap.objs.size+1) scope.names []->s.heap.objs.size < c:=λx c e=>(T7.empty x c e).2;refine⟨⟨I.ok.mod,?_,I.ok.glob,I.ok.blt,yN _,?_,?_,?_,I.ok.hd,I.ok.frames,.inl rfl,?_,I.bs,yE I.ok.Vl I.sz,?_,?_,I.stack,I.RZ⟩,rfl,I.bare,Un.kept Rv,⟨_,UQ,?_⟩,?_,I.QR.fresh (yN _),?_,
  λp hp=>absurd (show p∈([]:List (Addr×Obj)) from hp) (by simp),I.QR.kept Rv,hlen⟩
 ·show (relabel scope X.env).kind=_;exact hk
 ·intro x y c e1 e2;rcases look x c e1 with a|a<;>rcases look y c e2 with b|b
  ·exact name_of_addr T7.apart a b
  ·exact absurd (wJ (new x c a) (old y c b)) (qF _)
  ·exact absurd (wJ (new y c b) (old x c a)) (qF _)
  ·exact I.ok.inj x y c a b
 ·intro x hx;show ∃c,(cellsFrom (s.heap.objs.size+1) scope.names (eJ X.env scope.names [])).lookup x=some c;refine Option.isSome_iff_exists.mp (W.cellsFrom_some _ _ _ ?_);rcases hx with hx|hx
  ·rcases lg hx with q|⟨_,q⟩
   ·exact .inl q
   ·exact .inr (Option.isSome_iff_exists.mpr (fQ (.inl q)))
  ·rcases lg hx with q|⟨q,_⟩
   ·exact .inr (Option.isSome_iff_exists.mpr (fQ (.inl q)))
   ·cases q
 ·intro x c Ub e;have Ub:scope.names.lookup x=some .cell:=yR Ub;have e:(cellsFrom (s.heap.objs.size+1) scope.names (eJ X.env scope.names [])).lookup x=some c:=e;let⟨c',RO⟩:=pC (n:=s.heap.objs.size+1) Ub;rw[bF,iY RO] at e;cases e;exact jT (new x c (mem_of_lookup RO))
 ·intro b hb;refine⟨yS (Tb b hb),λx c e z=>?_⟩;rcases look x c e with a|a
  ·exact absurd (wJ (new x c a) (by rw[z];exact Tb b hb)) (qF _)
  ·exact (hf b hb).2.2.2.2.1 x c a z
 ·intro b o e hb;let⟨f0,f1,f2,f3,f4,f5⟩:=hf b hb;rcases f3 with z|z
  ·exact I.ok.Tz b o e z
  ·exact absurd (zQ (zZ (I.ok.bs b o e).1) z) (qF _)
 ·intro b hb hz;let⟨f0,f1,f2,f3,f4,f5⟩:=hf b hb;rcases List.mem_cons.mp (I.SI b hz) with z|z
  ·exact f1 z
  ·exact f2 z
 ·intro i x v e1 e2 e3;let⟨Wx,j,hj,hv⟩:=Ww i x v e1 e2;have hm:(x,NameKind.free)∈scope.names:=mem_of_lookup Wx;let⟨m,hn,hl⟩:=I.loc;have kx:=Rt _ hm rfl;let⟨u,ru,lk⟩:=hl j x v hj hv (kx.elim (λk=>.inr (.inl k)) λk=>.inr (.inr k));refine⟨u,ru,.inr ⟨?_,?_⟩⟩
  ·rcases nz (X:=X) (C:=s.heap.objs.size) Wx with q|⟨_,q⟩
   ·exact .inr q
   ·exact .inl q
  ·rcases lk with ⟨k,_⟩|⟨_,c,ec,ic⟩
   ·have k:X.env.kindOf x=some .local:=k;rcases kx with k'|k'<;>· rw[k] at k';cases k'
   ·let⟨c',RO⟩:=fQ (env:=X.env) (acc:=[]) (.inl Wx);have e':=Vq x c' RO;rw[ec] at e';cases e';refine⟨c,?_,ic.keeps Rv⟩;show (cellsFrom (s.heap.objs.size+1) scope.names (eJ X.env scope.names [])).lookup x=some c;rw[bF];cases eo:(cellsFrom (s.heap.objs.size+1) scope.names []).lookup x with
    | none=>rw[gU eo];exact RO
    | some d =>
     have hcm:=gn _ _ _ _ (mem_of_lookup eo);exact (Wv hcm hm).elim
 ·intro x c e;rcases look x c e with a|a
  ·exact⟨_,(T7.empty x c a).1⟩
  ·let⟨v,q⟩:=I.cell x c a;exact⟨v,q.keeps Rv⟩
 ·intro x c e;rcases look x c e with a|a
  ·exact I.QR.fresh (jT (new x c a))
  ·exact I.Q5 x c a
end
abbrev xi(ifs:List Expr)(env:Env):Sem Bool:=forIn ifs true λc r=>if r=true then do let ok <- isTrue c env (eval c env);pure (ForInStep.yield ok) else pure (ForInStep.yield r)
def M3(X:Cx)(ifs:List Expr)(t:TT):Prop :=
 ∀ (pins:List (Addr×Obj)) (s:Shared) (σ:St) (H:Hp) (Q:Bool->Hp->Prop),Inv X pins σ H s->t σ H Q->wpAny (model X.prog X.w) X.A (xi ifs X.env) (TP X pins σ Q) X.xe s
def Iu:M3 X [] (λ_ H Q=>Q true H):=λ_ _ _ H _ I h=>wpAny_tests_nil ⟨H,I,h⟩
def Hw(h:PT X c t):M3 X [c] t:=λpins s σ H Q I q=>wpAny_tests_one (h pins s σ H Q I q)
def ue{R:Result->Shared->Prop}{elt target iter:Expr}{ifs:List Expr}{scope:Scope}{pos:Pos}{acc:Value}{env:Env}(I:Nat->Shared->Prop)
  (turn:∀n s,I n s->wpAny (model prog w) A (pyNext it) (λr QP=>match r with
   | none=>R (.ok .next) QP
   | some v=>wpAny (model prog w) A (letOwnedTupleGo target it v) (λ_ Vr=>wpAny (model prog w) A (assign target env v) (λ_ U0 =>
     wpAny (model prog w) A (xi ifs env) (λok Ui =>
      if ok=true then wpAny (model prog w) A (eval elt env) (λx U4 =>
       wpAny (model prog w) A (call (.builtin "list.append") [acc,x]) (λ_ XW=>∃m,m < n/\I m XW) (λ_ _=>False) U4) (λ_ _=>False) Ui
      else ∃m,m < n/\I m Ui) (λ_ _=>False) U0) (λ_ _=>False) Vr) (λ_ _=>False) QP) (λ_ _=>False) s)
  (n:Nat) (h:I n s) :
  codeAny (model prog w) A (.compLoop (.ListComp elt [⟨target,iter,ifs,0⟩] scope pos) 0 it acc env) R s:=by
 refine codeAny_loop rfl I (λn s hI=>?_) n h;show wpAny _ A ((compTurn (.ListComp elt [⟨target,iter,ifs,0⟩] scope pos) 0 it acc env).onRaise (λx=>do noteFrame x env;theTreesLotGoes x)) _ _ s;refine wpAny_noted ?_;rw[compTurn_list];refine zW (vB (zW (xB (turn n s hI) (λr QP XX=>?_) λ_ _ h'=>h'.elim)));cases r with
 | none=>exact zX XX
 | some v =>
  refine zW (xB XX (λ_ Vr XY=>?_) λ_ _ h'=>h'.elim);refine zW (xB XY (λ_ U0 abf=>zW (xB abf (λok Ui XZ=>?_) λ_ _ h'=>h'.elim)) λ_ _ h'=>h'.elim);cases ok with
  | false=>exact zX ⟨rfl,XZ⟩
  | true =>
   exact zW (zW (xB XZ (λx U4 abg=>zW (xB abg (λ_ XW abh=>zX (zX ⟨rfl,abh⟩)) λ_ _ h'=>h'.elim)) λ_ _ h'=>h'.elim))
def Cy(X:Cx)(pins:List (Addr×Obj))(σ:St)(Q:VK)(acc:Value)(C:Addr)(r:Result)(s5:Shared):Prop :=
 ∃ (D:Addr) (H5:Hp) (m:Str->Option Value),acc=.ref D/\r=.ok .next/\Inv X pins σ H5 s5/\s5.heap.Ns C m/\cB X pins H5 C/\Q (.ref D) H5
def Ek(J:It)(g:TG)(tt:TT)(te:TE)(D:Addr)(σ0:St)(H0:Hp)(Q:VK):Prop :=
 ∃W:Nat->Nat->St->Hp->Prop,(∃m,W 0 m σ0 H0)/\∀i m σ H,W i m σ H ->
  (J.stop i H/\Q (.ref D) H)\/(J.go i H/\∀x H',J.Vo i H x H'->g x σ H' λS8 H2=>tt S8 H2 λb H3 =>
   if b=true then te S8 H3 λv H4=>∃ys,H4 D=some (.lst ys)/\ys.length < sizeLine/\∃m',m' < m/\W (i+1) m' S8 (upd H4 D (.lst (ys++[v])))
   else ∃m',m' < m/\W (i+1) m' S8 H3)
section
variable {X:Cx}{pins:List (Addr×Obj)}{σ σ':St}{H:Hp}{s:Shared}{scope:Scope}{N:List Str}
 {tg iter elt:Expr}{ifs:List Expr}{pos:Pos}{g:TG}{tt:TT}{te:TE}
def rT(hc:X.calm=true)(I:Inv X pins σ H s)(T:Turn X.prog X.w X.K tg J fp it tn)(st:tn 0 s.heap)(hf:∀b∈fp,cB X pins H b)(hk:scope.kind=.function)
  (Rt:∀x∈scope.names,x.2=.free->X.env.kindOf x.1=some .cell\/X.env.kindOf x.1=some .free) (Wv:∀ {x:Str},(x,NameKind.cell)∈scope.names->(x,NameKind.free)∈scope.names->False)
  (Ww:∀ (i:Nat) (x:Str) (v:V),N[i]?=some x->σ'[i]?=some (some v)->scope.names.lookup x=some .free/\∃j:Nat,X.N[j]?=some x/\σ[j]?=some (some v)) (hlen:σ'.length=N.length)
  (hY:∀fp s H,PG (aR X scope N fp s H) tg g/\M3 (aR X scope N fp s H) ifs tt/\PE (aR X scope N fp s H) elt te)
  (hrd:∀D,H D=none->Ek J g tt te D σ' (upd H D (.lst [])) Q) {E:Value->Shared->Prop} :
  wpAny (model X.prog X.w) X.A (newList []) (λacc Ui=>wpAny (model X.prog X.w) X.A (newFunctionEnv scope X.env.globals (eJ X.env scope.names []) [] X.env.qual none .none (some X.env)) (λUj U4 =>
   codeAny (model X.prog X.w) X.A (.compStart (.ListComp elt [⟨tg,iter,ifs,0⟩] scope pos) 0 (.ref it) acc { Uj with scope:=relabel scope X.env }) (Cy X pins σ Q acc Uj.locals) U4) E Ui) E s:=by
 refine qM ?_;have Tb:∀b∈fp,b < s.heap.objs.size:=λb hb=>let ⟨o,e,_⟩:=T.obj _ _ st b hb;zZ e;have I3:=I.Wt (ys:=[]) (its:=[]) (t':=s.toks) .nil (xW _);have hD:H s.heap.objs.size=none:=I.fresh;let⟨W,⟨m0,w0⟩,turn⟩:=hrd _ hD;generalize e3:({ s with heap:=s.heap.push { cls:=.type "list",data:=.seq ([]:List Value).toArray },toks:=s.toks }:Shared)=s3 at I3;have e3h:s3.heap=s.heap.push { cls:=.type "list",data:=.seq ([]:List Value).toArray }:=by rw[<- e3]
 generalize hH3:upd H s.heap.objs.size (.lst [])=H3 at I3 w0 turn;have Q0:s.heap.objs.size < s3.heap.objs.size:=by rw[e3h,xK];exact kN _
 have Xn:∀b o,s.heap.get? b=some o->s3.heap.get? b=some o:=λb o e=>by rw[e3h];exact zV _ e
 generalize s.heap.objs.size=D at *;have f3:∀b∈fp,cB X pins H3 b:=λb hb=>by
  let⟨f0,f⟩:=hf b hb;refine⟨?_,f⟩;rw[<- hH3,av (yS (Tb b hb))];exact f0
 have Wj:tn 0 s3.heap:=T.keep _ _ _ st λb _ o e=>Xn b o e;refine Az λh4 UQ hkp T7=>?_;dsimp only;have I4:=ED (N:=N) (σ':=σ') (fp:=fp) I3 f3 (λb hb=>wJ (Tb b hb) Q0) hk Rt UQ hkp T7 Wv Ww hlen s3.toks;have fC:∀H',H' s3.heap.objs.size=none->cB X pins H' s3.heap.objs.size:=λH' hn=>I3.RL (yN _) hn;let⟨hg,htt,Wz⟩:=hY fp s3 H3;have efp:∀b∈fp,∀H':Hp,H' b=none->cB (aR X scope N fp s3 H3) [] H' b:=λb hb H' hn=>by
  refine⟨hn,(I4.ok.exf b hb).1,I4.ok.Ua b hb,.inl hb,(I4.ok.exf b hb).2,λp hp=>?_⟩;cases hp
 have loop:codeAny (model X.prog X.w) X.A (.compLoop (.ListComp elt [⟨tg,iter,ifs,0⟩] scope pos) 0 (.ref it) (.ref D) (eQ X scope s3.heap.objs.size)) (Cy X pins σ Q (.ref D) s3.heap.objs.size) { s3 with heap:=h4 }:=by
  refine ue (λn s'=>∃i σ' H',Inv (aR X scope N fp s3 H3) [] σ' H' s'/\tn i s'.heap/\(∀b∈fp,H' b=none)/\W i n σ' H') ?_ m0
   ⟨0,σ',H3,I4,T.keep _ _ _ Wj λb _ o e=>hkp b o e,λb hb=>(f3 b hb).1,w0⟩
  rintro n s5 ⟨i,σ5,H5,I5,Xl,fr5,w5⟩;rcases turn i n σ5 H5 w5 with ⟨stop,q⟩|⟨go,step⟩
  ·refine bS (T.done (aR X scope N fp s3 H3) rfl rfl rfl hc i [] s5 σ5 H5 _ I5 (λb hb=>efp b hb H5 (fr5 b hb)) Xl stop) λr s6 ⟨hr,I6⟩=>?_;subst hr;let⟨m,hn6,_⟩:=I6.loc;refine⟨D,H5,m,rfl,rfl,I3.Vm I6.os I6.base I6.QR I6.bare (λb hb=>?_),hn6,fC H5 I6.free,q⟩;let⟨f0,f1,f2,f4,f5,f6⟩:=f3 b hb;exact⟨f4,f1,f5,f6⟩
  ·refine bS (T.item (aR X scope N fp s3 H3) rfl rfl rfl hc i [] s5 σ5 H5 _ I5 (λb hb=>efp b hb H5 (fr5 b hb)) Xl go) λr s6 ⟨u,hr,h6⟩=>?_;subst hr;refine bS h6 λ_ s7 z=>?_;let⟨x,H7,I7,r7,y7,st7,fr7⟩:=z;have I7':=I7.pinned (λb hb=>efp b hb H7 (fr7 b hb)) (T.obj _ _ st7);have again:∀ {pl:List (Addr×Obj)}{σ9:St}{H9:Hp}{s9:Shared}{n':Nat},Inv (aR X scope N fp s3 H3) ([]++nH fp s7.heap) σ9 H9 s9->W (i+1) n' σ9 H9->∃i σ' H',Inv (aR X scope N fp s3 H3) [] σ' H' s9/\tn i s9.heap/\(∀b∈fp,H' b=none)/\W i n' σ' H':=λ{pl σ9 H9 s9 n'} I9 w9=>by
    refine⟨i+1,σ9,H9,I9.Q6,T.keep _ _ _ st7 λb hb o e=>(I9.pin (b,o) (yF _ (yF _ (d0 hb e)))).1,λb hb=>?_,w9⟩;let⟨o,e,d⟩:=T.obj _ _ st7 b hb;exact (I9.pin (b,o) (yF _ (yF _ (d0 hb e)))).2.1
   refine bS (hg _ s7 σ5 H7 x u _ I7' r7 (step x H7 y7)) λ_ s8 z=>?_;let⟨σ8,H8,I8,q8⟩:=z;refine bS (htt _ s8 σ8 H8 _ I8 q8) λok s9 z=>?_;let⟨H9,I9,q9⟩:=z;cases ok with
   | false =>
    rw[yO (by decide)] at q9;rw[yO (by decide)];let⟨m',hm,w9⟩:=q9;exact⟨m',hm,again (pl:=[]) I9 w9⟩
   | true =>
    rw[yM rfl] at q9;rw[yM rfl];refine bS (Wz _ s9 σ8 H9 _ I9 q9) λy s10 z=>?_;let⟨v,H10,I10,r10,ys,abm,hz,m',hm,w10⟩:=z;refine bS (nA (X:=aR X scope N fp s3 H3) _ s10 σ8 H10 (.ref D) [v] (.ref D) [y] (λ_ H'=>W (i+1) m' σ8 H') I10 rfl (.cons r10 .nil) ⟨D,ys,v,rfl,rfl,abm,hz,w10⟩) λ_ s11 z=>?_;let⟨_,H11,I11,_,w11⟩:=z;exact⟨m',hm,again (pl:=[]) I11 w11⟩
 exact codeAny_compStart_list loop (T.self _ 0 _ _ _ (T.keep _ _ _ Wj λb _ o e=>hkp b o e) loop)
end
def GZ(wi:TI)(g:TG)(tt:TT)(te:TE)(Rj:St->St):TE:=λσ H Q=>wi σ H λJ H1=>∀D,H1 D=none->Ek J g tt te D (Rj σ) (upd H1 D (.lst [])) Q
structure iC(X:Cx)(scope:Scope)(N:List Str)(Rj:St->St):Prop where
 kind:scope.kind=.function
 free:∀x∈scope.names,x.2=.free->X.env.kindOf x.1=some .cell\/X.env.kindOf x.1=some .free
 dup:∀ {x:Str},(x,NameKind.cell)∈scope.names->(x,NameKind.free)∈scope.names->False
 loc:∀x∈scope.names,x.2=.local -> scope.names.lookup x.1=some .local
 cap:∀ (σ:St) (i:Nat) (x:Str) (v:V),N[i]?=some x->(Rj σ)[i]?=some (some v)->scope.names.lookup x=some .free/\∃j:Nat,X.N[j]?=some x/\σ[j]?=some (some v)
 len:∀σ:St,(Rj σ).length=N.length
section
variable {X:Cx}{scope:Scope}{N:List Str}{Rj:St->St}{tg iter elt:Expr}{ifs:List Expr}{pos:Pos}{wi:TI}{g:TG}{tt:TT}{te:TE}
def IG(hc:X.calm=true)(S:iC X scope N Rj)(hi:PI X tg iter wi)
  (hY:∀fp s H,PG (aR X scope N fp s H) tg g/\M3 (aR X scope N fp s H) ifs tt/\PE (aR X scope N fp s H) elt te)
  (hs:∀x,foldedSetIterable iter X.env x=pure x:=by intro _;rfl):PE X (.ListComp elt [⟨tg,iter,ifs,0⟩] scope pos) (GZ wi g tt te Rj):=by
 intro pins s σ H Q I h;rw[eval_ListComp];refine wpAny_comprehension_free (use:=none) rfl hs (lP (j6 I.ok S.free)) S.kind S.loc (bS (hi pins s σ H _ I h) λv s1 h1=>bS h1 λitv s2 h2=>?_);let⟨it,fp,tn,J,H2,e,I2,T,UM,f2,rd⟩:=h2;subst e;refine bS (rT (iter:=iter) (pos:=pos) (E:=X.xe) hc I2 T UM f2 S.kind S.free S.dup (S.cap σ) (S.len σ) hY rd) λacc s3 h3=>bS h3 λUj s4 h4=>?_;refine jS h4 λr s5 h5=>?_;let⟨D,H5,m,rfl,rfl,I5,hn,fC,q⟩:=h5;refine⟨m,hn,λh' sb=>?_⟩;let⟨f0,f1,Se,f3,f4,f5⟩:=fC;exact⟨.ref D,H5,I5.turned (t':=s5.toks) (λb o hb e=>(sb.2 b hb).trans e) f0 f1 f3 f4 f5,rfl,q⟩
def HV(hc:X.calm=true)(S:iC X scope N Rj)(hi:PI X tg iter wi)
  (hY:∀fp s H,PG (aR X scope N fp s H) tg g/\M3 (aR X scope N fp s H) ifs tt/\PE (aR X scope N fp s H) elt te)
  (hN:X.N.Nodup) (hiy:X.N[i]?=some y) (hy:X.env.scope.names.lookup y=some .local)
  (hsw:swapsWith (.ListComp elt [⟨tg,iter,ifs,0⟩] scope pos) (some (.Name y py)) Q9.line X.env=pure true)
  (hs:∀x,foldedSetIterable iter X.env x=pure x:=by intro _;rfl):PS X (.Assign [.Name y py] (.ListComp elt [⟨tg,iter,ifs,0⟩] scope pos) Q9) (EZ (GZ wi g tt te Rj) (vx i)):=by
 intro pins s σ H D I h;rw[exec_Assign_Name_used _ _ _ _ hsw];refine zW (vB (zW ?_));show wpAny _ X.A (do let _ <- comprehension (.ListComp elt [⟨tg,iter,ifs,0⟩] scope pos) scope X.env _ (newList []) false (eval iter X.env) (some (assign (.Name y py) X.env))) _ _ s;refine zW (xB (wpAny_comprehension_free (use:=some (assign (.Name y py) X.env)) (Q:=λ_ s'=>SP X pins D .next s') rfl hs (lP (j6 I.ok S.free)) S.kind S.loc
  (bS (hi pins s σ H _ I h) λv s1 h1=>bS h1 λitv s2 h2=>?_)) (λ_ s' hq=>zX (zX hq)) λ_ _ e=>e)
 let⟨it,fp,tn,J,H2,e,I2,T,UM,f2,rd⟩:=h2;subst e;refine bS (rT (iter:=iter) (pos:=pos) (E:=X.xe) hc I2 T UM f2 S.kind S.free S.dup (S.cap σ) (S.len σ) hY rd) λacc s3 h3=>bS h3 λUj s4 h4=>?_;refine jS h4 λr s5 h5=>?_;let⟨D',H5,m,rfl,rfl,I5,hn,fC,q⟩:=h5;show wpAny _ X.A (assign (.Name y py) X.env (.ref D')) _ _ _;refine wpAny_assign_Name (sU (v:=.ref D') I5 hN hiy (.inl hy) rfl (λs6 I6 ⟨a,sa,ha⟩=>?_) (.inr hy));let⟨f0,f1,Se,f3,f4,f5⟩:=fC;have Q7:Uj.locals≠a:=by
  rcases ha with z|z
  ·rw[z];exact f1
  ·exactλw=>f4 y a z w.symm
 refine⟨m,hn.sameBut sa Q7,λh' sb=>?_⟩;exact⟨_,H5,I6.turned (t':=s6.toks) (λb o hb e=>(sb.2 b hb).trans e) f0 f1 f3 f4 f5,q⟩
end
abbrev OU(X:Cx)(qual:Str)(scope:Scope)(f c L:Addr):Env:=W.envX qual scope L f (.ref c) (eJ X.env scope.names [])
def i4(X:Cx)(A:Around)(qual:Str)(scope:Scope)(N:List Str)(f c:Addr)(s:Shared)(H:Hp):Cx where
 prog:=X.prog
 w:=X.w
 K:=X.K
 mg:=X.mg
 base:=X.base
 A:=A.deeper (OU X qual scope f c s.heap.objs.size)
 N:=N
 QZ:=s
 QM:=H
 env:=OU X qual scope f c s.heap.objs.size
 outer:=X.stack
 stack:=OU X qual scope f c s.heap.objs.size::X.stack
 ex:=[]
 fn:=λ_=>false
 calm:=true
 pn:=[]
 xe:=λ_ _=>False
def IM(I:Inv X pins σ H s)(hd:A.handled=none)(hA:A.frames=some X.stack)(S:iC X scope N Rj)(Xo:∀x∈scope.names,x.2≠.cell)(Xp:N[0]?=some p)(hp:scope.names.lookup p=some .local)(hNd:N.Nodup)(r:RelV v u)
  (UQ:h1.Ns s.heap.objs.size (λx=>[(p,u)].reverse.lookup x)) (Rv:∀b o,s.heap.get? b=some o->h1.get? b=some o) (t':Nat) :
  Inv (i4 X A qual scope N f c s H) [] ((Rj σ).set 0 (some v)) H { s with heap:=h1,toks:=t' }:=by
 have R1:=j6 I.ok S.free;have Vq:∀x c,(eJ X.env scope.names []).lookup x=some c->X.env.cells.lookup x=some c:=λx c e=>kc R1 (λ_ _ z=>by cases z) x c (mem_of_lookup e);have UN:∀b:Addr,b∉(i4 X A qual scope N f c s H).ex:=λb z=>absurd (show b∈([]:List Addr) from z) (by simp);refine⟨⟨I.ok.mod,S.kind,rfl,rfl,yN _,λx y d e1 e2=>I.ok.inj x y d (Vq x d e1) (Vq y d e2),λx hx=>?_,λx d z=>?_,λ_=>hd,Around.frames_deeper hA,.inr ⟨rfl,rfl⟩,λb z=>absurd z (UN b),I.bs,yE I.ok.Vl I.sz,λb _ _=>UN b,λb z=>absurd z (UN b),I.stack,I.RZ⟩,
  rfl,I.bare,Un.kept Rv,⟨_,UQ,λi x w e1 e2 e3=>?_⟩,λx d e=>?_,I.QR.fresh (yN _),λx d e=>I.Q5 x d (Vq x d e),λq hq=>absurd (show q∈([]:List (Addr×Obj)) from hq) (by simp),I.QR.kept Rv,?_⟩
 ·rcases hx with hx|hx
  ·exact absurd rfl (Xo _ (mem_of_lookup (show scope.names.lookup x=some .cell from hx)))
  ·exact fQ (.inl hx)
 ·cases z
 ·cases i with
  | zero =>
   have e1:N[0]?=some x:=e1;rw[Xp] at e1;cases e1;have hl:0 < (Rj σ).length:=by rw[S.len];exact (List.getElem?_eq_some_iff.mp Xp).1
   rw[vL hl] at e2;cases e2;exact⟨u,r,.inl ⟨hp,by simp⟩⟩
  | succ i =>
   have X0:(Rj σ)[i+1]?=some (some w):=by
    rw[kR (by lia)] at e2;exact e2
   let⟨Wx,j,hj,hv⟩:=S.cap σ (i+1) x w e1 X0;have hm:(x,NameKind.free)∈scope.names:=mem_of_lookup Wx;let⟨m,hn,hl⟩:=I.loc;have kx:=S.free _ hm rfl;let⟨u',ru,lk⟩:=hl j x w hj hv (kx.elim (λk=>.inr (.inl k)) λk=>.inr (.inr k));refine⟨u',ru,.inr ⟨.inr Wx,?_⟩⟩;rcases lk with ⟨k,_⟩|⟨_,c',ec,ic⟩
   ·have k:X.env.kindOf x=some .local:=k;rcases kx with k'|k'<;>· rw[k] at k';cases k'
   ·let⟨c'',RO⟩:=fQ (env:=X.env) (acc:=[]) (.inl Wx);have e':=Vq x c'' RO;rw[ec] at e';cases e';exact⟨c',RO,ic.keeps Rv⟩
 ·let⟨w,q⟩:=I.cell x d (Vq x d e);exact⟨w,q.keeps Rv⟩
 ·rw[yD];exact S.len σ
def GI(I:Inv X pins σ H s)(hr:dM (k+1) A)(hA:A.frames=some X.stack)(S:iC X scope N Rj)(Xo:∀x∈scope.names,x.2≠.cell)
  (Xp:N[0]?=some p) (hp:scope.names.lookup p=some .local) (hNd:N.Nodup) (T7:scope.isCoroutine=false) (WA:scope.isGenerator=false)
  (hf:s.heap.get? f=some (W.kla_obj name qual params body scope (eJ X.env scope.names []) pm c Sf)) (WB:H c=some (.Tw qual)) (hb:bindArgs (W.kla_fn name qual params body scope (eJ X.env scope.names []) pm (.ref c) Sf) ⟨[u],[]⟩=pure [(p,u)])
  (r:RelV v u) (hY:PE (i4 X A qual scope N f c s H) body te) (q:te ((Rj σ).set 0 (some v)) H Q) :
  wpAny (model X.prog X.w) A (call (.ref f) [u]) (EP X pins σ Q) (λ_ _=>False) s:=by
 have Rp:s.heap.CodeRec (.ref c) qual:=I.QR c _ WB;refine wpAny_call (W.kla_callFunE hr.depth hf rfl T7 WA rfl Rp ?_);rw[hb];refine zX (wpAny_newFunctionEnv Xo (λy hy=>?_) (λh1 UQ hsb=>⟨?_,?_⟩) S.kind)
 ·rw[List.mem_singleton.mp hy];exact hp
 ·exact I.nolimit.fresh _ hsb
 ·have hk1:∀b o,s.heap.get? b=some o->h1.get? b=some o:=λb o e=>hsb.extBut b o (yS (zZ e)) (zV _ e);have I1:=IM (qual:=qual) (f:=f) (c:=c) I hr.hd hA S Xo Xp hp hNd r UQ hk1 (s.toks+[(p,u)].length);refine W.kla_codeExpr (xB (hY [] _ _ H Q I1 q) (λw s' ⟨v',H',I',r',q'⟩=>?_) λe s' h=>False.elim h);exact⟨v',H',I.Vm I'.os I'.base I'.QR I'.bare (λb z=>absurd (show b∈([]:List Addr) from z) (by simp)),r',q'⟩
def Ao{pos:Pos}(l:List Value)(h:TriplesOk l)(e:codeAmong pos' (l++[rawInt pos.line,rawInt pos.col,c])=some v):codeAmong pos' l=some v\/v=c:=by
 fun_induction TriplesOk l with
 | case1 =>
  simp?[xP,codeAmong,rawInt] at e;split at e
  ·cases e;exact .inr rfl
  ·cases e
 | case2 a t b u x rest ih =>
  simp?[xG,codeAmong] at e ⊢;split at e
  ·rename_i hc;rw[yM hc];exact .inl e
  ·rename_i hc;rw[yO hc];exact ih h e
 | case3 l h1 h2=>exact h.elim
def GC(I:Inv X pins σ H s)(S:iC X scope N Rj)(hq:X.env.qual++"<lambda>"=qual)(Tc:X.env.code=.ref c)(C:W.CodeHd X.base c P)(hT:H P=some (.tab qual))(hB:OA X.mg X.base)
  (WC:defaultsOf params X.env=([],[]))
  (h:∀ (f c':Addr) (pm Sf:Value) (s':Shared) (H':Hp),Inv X pins σ H' s'->s'.heap.get? f=some (W.kla_obj "<lambda>" qual params body scope (eJ X.env scope.names []) pm c' Sf)->H' f=none->H' c'=some (.Tw qual)->aK H H'->cB X pins H' f->(∀b,H' b≠none->H b≠none\/H' b=some (.Tw qual))->Q (.ref f) s') :
  wpAny (model X.prog X.w) X.A (eval (.Lambda params body scope R3) X.env) Q X.xe s:=by
 have R1:=lP (j6 I.ok S.free);have hCs:=C.keeps I.bk;have hg:s.heap.Ns mainGlobals X.mg:=by
  let⟨o,es,ep,e,r⟩:=I.ok.mod.glob;exact⟨o,es,ep,I.bk _ _ e,r⟩
 have hPn:X.base.get? P=none:=by
  cases e:X.base.get? P with
  | none=>rfl
  | some o=>rw[(I.bs P o e).2] at hT;cases hT
 let⟨ps,hP,ht,T7⟩:=I.QR P _ hT;have hb:s.heap.BuiltinsAt X.mg P:=by
  let⟨bm,o,b1,b2,b3,b4,b5⟩:=hB;exact⟨bm,o,b1,b2,b3,(λz=>by rw[z,hPn] at b4;cases b4),I.bk _ _ b4,b5⟩
 refine W.kla_eval WC ?_;rw[hq];cases hf:codeAmong R3 ps.toList with
 | some cv =>
  let⟨c',rfl,RO⟩:=T7 R3 cv hf;refine W.kla_makeFunctionHit R1 I.ok.glob hg Tc hCs hP ht hf hb λSf h' tk kp hz=>?_;have kp2:∀b o,s.heap.get? b=some o->(h'.push (W.kla_obj "<lambda>" qual params body scope (eJ X.env scope.names []) ((X.mg "__name__").getD .none) c' Sf)).get? b=some o:=λb o e=>zV _ (kp b o e);have hn:H h'.objs.size=none:=I.QR.fresh hz;exact h _ c' _ Sf _ H (I.kept (t':=tk) kp2) (zY _ rfl) hn RO (.refl _) (I.RL hz hn) λb z=>.inl z
 | none =>
  have hgP:mainGlobals≠P:=λz=>by
   let⟨o,es,ep,e,r⟩:=I.ok.mod.glob;rw[z,hPn] at e;cases e
  refine W.kla_makeFunction R1 I.ok.glob hg Tc hCs hP ht hf hgP hb λc' Sf h' tk hx X1 TH hcr hP'=>?_;have hn:H c'=none:=I.QR.fresh X1;have hz:s.heap.objs.size<=h'.objs.size:=jT (jA X1 TH);have nP:∀ {b:Addr}{u:HO},H b=some u->(∀q,u≠.tab q)->b≠P:=λ{b u} e Q7 z=>by subst z;rw[hT] at e;cases e;exact Q7 _ rfl
  have kp:∀b o,b≠P->s.heap.get? b=some o->(h'.push (W.kla_obj "<lambda>" qual params body scope (eJ X.env scope.names []) ((X.mg "__name__").getD .none) c' Sf)).get? b=some o:=λb o hb e=>zV _ (hx b o hb e);have hPc:P≠c':=λz=>by rw[<- z,hT] at hn;cases hn
  have up:∀b u,H b=some u->upd H c' (.Tw qual) b=some u:=λb u e=>by rw[av (aA e hn)];exact e
  have un:Un X.fs [] H (upd H c' (.Tw qual)) s.heap (h'.push (W.kla_obj "<lambda>" qual params body scope (eJ X.env scope.names []) ((X.mg "__name__").getD .none) c' Sf)):=by
   refine⟨λb o e n _ _=>kp b o (λz=>by rw[z,hT] at n;cases n) e,λb o e n _ _=>⟨o.slots,kp b o (λz=>by rw[z,hT] at n;cases n) e⟩,λb o e n _=>?_,λb o e _=>?_,λb xs e=>up b _ e,λb o u e=>up b _ e,⟨λb u e _=>up b u e,λb q ps' e z=>?_⟩⟩
   ·rw[av (yS (zQ (zZ e) X1))];exact n
   ·by_cases hb:b=P
    ·subst hb;exact⟨_,zV _ hP'⟩
    ·exact⟨o,kp b o hb e⟩
   ·by_cases hb:b=P
    ·subst hb;rw[hP] at z;cases z;exact⟨_,zV _ hP'⟩
    ·exact⟨#[],by rw[Array.append_empty];exact kp b _ hb z⟩
  have QR:oR X.prog X.w (upd H c' (.Tw qual)) (h'.push (W.kla_obj "<lambda>" qual params body scope (eJ X.env scope.names []) ((X.mg "__name__").getD .none) c' Sf)):=by
   intro b u e;by_cases X2:b=c'
   ·subst X2;rw[aC] at e;cases e;let⟨c0,oc,vs,t,e0,e1,r⟩:=hcr;exact⟨c0,oc,vs,t,e0,zV _ e1,r⟩
   ·rw[av X2] at e;by_cases hb:b=P
    ·subst hb;rw[hT] at e;cases e;refine⟨_,zV _ hP',?_,λpos v hv=>?_⟩
     ·have:=TriplesOk_snoc R3.line R3.col (.ref c') ps.toList ht;simpa using this
     ·have Vs:codeAmong pos (ps.toList++[rawInt R3.line,rawInt R3.col,.ref c'])=some v:=by simpa using hv
      rcases Ao ps.toList ht Vs with z|z
      ·let⟨c0,z1,z2⟩:=T7 pos v z;exact⟨c0,z1,up _ _ z2⟩
      ·exact⟨c',z,aC⟩
    ·exact (I.QR b u e).Rr (λd o hd eo=>kp d o (by
      rcases hd with rfl|hd
      ·exact hb
      ·exact nP hd λq z=>by cases z) eo) (λd hd=>up d _ hd) λd o hd _=>up d _ hd
  have I':=I.un (t':=tk) un QR;have hnf:upd H c' (.Tw qual) h'.objs.size=none:=by
   rw[av (jJ TH)];exact I.QR.fresh hz
  refine h _ c' _ Sf _ _ I' (zY _ rfl) hnf aC up (I.RL hz hnf) λb z=>?_;by_cases X2:b=c'
  ·subst X2;exact .inr aC
  ·rw[av X2] at z;exact .inl z
end L2
namespace Dl
open PySem L2 PySem.Spec PyProof.Rows
variable {gi:Int->Int->Int}
abbrev D:=PyData
mutual
def Rep(K:W.Frag)(H:Hp):D->V->Prop
 | .none,v=>v=.QK
 | .bool b,v=>v=.bl b
 | .int i,v=>v=.int i
 | .str x,v=>v=.str x
 | .tuple ds,v=>∃a vs,v=.ref a/\gq K H a vs/\au K H ds vs
 | .list ds,v=>∃a vs,v=.ref a/\gp K H a vs/\au K H ds vs
 | .dict _,_=>False
def au(K:W.Frag)(H:Hp):List D->List V->Prop
 | [],vs=>vs=[]
 | d::ds,vs=>∃v r,vs=v::r/\Rep K H d v/\au K H ds r
end
def ay{K:W.Frag}(e:aK H H')(h:gq K H a xs):gq K H' a xs:=by
 rcases h with (h|⟨o,h⟩)|h
 ·exact .inl (.inl (e _ _ h))
 ·exact .inl (.inr ⟨o,e _ _ h⟩)
 ·exact .inr h
mutual
theorem Rep.mono{K:W.Frag}{H H':Hp}(e:aK H H'):∀ {d:D}{v:V},Rep K H d v->Rep K H' d v
 | .none,_,h=>h
 | .bool _,_,h=>h
 | .int _,_,h=>h
 | .str _,_,h=>h
 | .tuple ds,_,h=>by
  simp?[Rep] at h ⊢;let⟨a,vs,rfl,q,r⟩:=h;exact⟨a,vs,rfl,ay e q,au.mono e r⟩
 | .list ds,_,h=>by
  simp?[Rep] at h ⊢;let⟨a,vs,rfl,q,r⟩:=h;exact⟨a,vs,rfl,e.seq q,au.mono e r⟩
 | .dict _,_,h=>h
theorem au.mono{K:W.Frag}{H H':Hp}(e:aK H H'):∀ {ds:List D}{vs:List V},au K H ds vs->au K H' ds vs
 | [],_,h=>h
 | d::ds,_,h=>by
  simp?[au] at h ⊢;let⟨v,r,rfl,a,b⟩:=h;exact⟨v,r,rfl,Rep.mono e a,au.mono e b⟩
end
section
variable {K:W.Frag}
def au.nil:au K H [] []:=by simp[au]
def au.cons(a:Rep K H d v)(b:au K H ds vs):au K H (d::ds) (v::vs):=by
 simp?[au];exact⟨v,vs,rfl,a,b⟩
def au.cons_inv(h:au K H (d::ds) vs):∃v r,vs=v::r/\Rep K H d v/\au K H ds r:=by simpa only[au] using h
def au.nil_inv(h:au K H [] vs):vs=[]:=by simpa only[au] using h
def au.length:∀ {ds:List D}{vs:List V},au K H ds vs->vs.length=ds.length
 | [],_,h=>by rw[h.nil_inv];rfl
 | d::ds,_,h=>by let⟨v,r,rfl,_,b⟩:=h.cons_inv;simp[au.length b]
def au.get:∀ {ds:List D}{vs:List V}{i:Nat}{v:V},au K H ds vs->vs[i]?=some v->∃d,ds[i]?=some d/\Rep K H d v
 | [],_,i,v,h,e=>by rw[h.nil_inv] at e;simp at e
 | d::ds,_,i,v,h,e=>by
  let⟨v',r,rfl,a,b⟩:=h.cons_inv;cases i with
  | zero=>simp at e;subst e;exact⟨d,rfl,a⟩
  | succ i=>simp at e;let⟨d',h1,h2⟩:=au.get b e;exact⟨d',by simpa using h1,h2⟩
def au.getD:∀ {ds:List D}{vs:List V}{i:Nat}{d:D},au K H ds vs->ds[i]?=some d->∃v,vs[i]?=some v/\Rep K H d v
 | [],_,i,d,h,e=>by simp at e
 | d::ds,_,i,d',h,e=>by
  let⟨v',r,rfl,a,b⟩:=h.cons_inv;cases i with
  | zero=>simp at e;subst e;exact⟨v',rfl,a⟩
  | succ i=>simp at e;let⟨v,h1,h2⟩:=au.getD b e;exact⟨v,by simpa using h1,h2⟩
def au.append:∀ {ds es:List D}{vs us:List V},au K H ds vs->au K H es us->au K H (ds++es) (vs++us)
 | [],_,_,_,h,g=>by rw[h.nil_inv];exact g
 | d::ds,_,_,_,h,g=>by let⟨v,r,rfl,a,b⟩:=h.cons_inv;exact au.cons a (au.append b g)
def au.take:∀ {ds:List D}{vs:List V}(n:Nat),au K H ds vs->au K H (ds.take n) (vs.take n)
 | [],_,n,h=>by rw[h.nil_inv];simp[au]
 | d::ds,_,0,h=>by simp[au]
 | d::ds,_,n+1,h=>by let⟨v,r,rfl,a,b⟩:=h.cons_inv;exact au.cons a (au.take n b)
def au.drop:∀ {ds:List D}{vs:List V}(n:Nat),au K H ds vs->au K H (ds.drop n) (vs.drop n)
 | [],_,n,h=>by rw[h.nil_inv];simp[au]
 | d::ds,_,0,h=>h
 | d::ds,_,n+1,h=>by let⟨v,r,rfl,a,b⟩:=h.cons_inv;exact au.drop n b
end
structure bR(HF H QN H':Hp):Prop where
 hh:aK H H'
 ff:aK HF QN
 fh:aK QN H'
 nw:∀a o,QN a=some o->HF a=some o\/H a=none
def bR.refl(s:aK HF H):bR HF H HF H:=⟨.refl _,.refl _,s,λ_ _ e=>.inl e⟩
def bR.trans(a:bR HF H QO H1)(b:bR QO H1 Q3 H2):bR HF H Q3 H2 :=
 ⟨a.hh.trans b.hh,a.ff.trans b.ff,b.fh,λx o e=>(b.nw x o e).elim (λz=>a.nw x o z) λz=>.inr (a.hh.free z)⟩
def bK(h:H p=none):aK H (upd H p o):=λb u e=>by rw[av (aA e h)];exact e
def bR.new(s:aK HF H)(h:H p=none):bR HF H (upd HF p o) (upd H p o):=by
 have hf:HF p=none:=s.free h;refine⟨bK h,bK hf,λb u e=>?_,λb u e=>?_⟩
 ·by_cases hb:b=p
  ·subst hb;rw[aC] at e ⊢;exact e
  ·rw[av hb] at e ⊢;exact s b u e
 ·by_cases hb:b=p
  ·subst hb;exact .inr h
  ·rw[av hb] at e;exact .inl e
def bR.own(s:aK HF H)(h:H p=none):bR HF H HF (upd H p o) :=
 ⟨bK h,.refl _,λb u e=>by rw[av (aA (s b u e) h)];exact s b u e,λ_ _ e=>.inl e⟩
def bR.freeze(g:bR HF H QO H1)(h:H p=none)(h1:H1 p=some o)(hf:QO p=none):bR HF H (upd QO p o) H1 :=
 ⟨g.hh,g.ff.trans (bK hf),λb u e=>by
  by_cases hb:b=p
  ·subst hb;rw[aC] at e;rw[h1,<- e]
  ·rw[av hb] at e;exact g.fh b u e,λb u e=>by
  by_cases hb:b=p
  ·subst hb;exact .inr h
  ·rw[av hb] at e;exact g.nw b u e⟩
def jj:List Str:=["ways_of","turned_order","fairest"]
def fS(K:W.Frag)(HF:Hp):Prop:=∀ (f:Addr) (oc:Value) (od:Option Addr) (fd:FuncData) (sl:Array (Option Value)) (c P:Addr),K.lookup f=some ⟨oc,od,.func fd,sl⟩->fd.qualname∈jj->fd.code=.ref c->W.codeHdIn K c P=true->HF P=some (.tab (fd.qualname++".<locals>."++"<lambda>"))
def fS.mono{K:W.Frag}(h:fS K HF)(e:aK HF QN):fS K QN:=λf oc od fd sl c P a b d q=>e _ _ (h f oc od fd sl c P a b d q)
abbrev Env:=List (Option D)
structure cH(K:W.Frag)(HF:Hp)(ρ:Env)(σ:L2.St):Prop where
 get:∀ (i:Nat) (d:D),ρ[i]?=some (some d)->∃v,σ[i]?=some (some v)/\Rep K HF d v
 len:ρ.length<=σ.length
 tb:fS K HF
def cH.mono{K:W.Frag}(h:cH K HF ρ σ)(e:aK HF QN):cH K QN ρ σ:=⟨λi d q=>let ⟨v,a,b⟩:=h.get i d q;⟨v,a,b.mono e⟩,h.len,h.tb.mono e⟩
def tD(K:W.Frag)(f:Env->Option D):TE:=λσ H Q=>∃HF ρ d,aK HF H/\cH K HF ρ σ/\f ρ=some d/\∀v H' QN,bR HF H QN H'->Rep K QN d v->Q v H'
def DE(X:Cx)(e:Expr)(f:Env->Option D):Prop:=PE X e (tD X.K f)
def tF(K:W.Frag)(f:Env->Option (List D)):TE:=λσ H Q=>∃HF ρ ds,aK HF H/\cH K HF ρ σ/\f ρ=some ds /\
 ∀a vs H' QN,bR HF H QN H'->H a=none->QN a=none->H' a=some (.lst vs)->au K QN ds vs->Q (.ref a) H'
def DF(X:Cx)(e:Expr)(f:Env->Option (List D)):Prop:=PE X e (tF X.K f)
def K1(K:W.Frag)(f:Env->Option Bool):TT:=λσ H Q=>∃HF ρ b,aK HF H/\cH K HF ρ σ/\f ρ=some b/\∀H' QN,bR HF H QN H'->Q b H'
def DT(X:Cx)(e:Expr)(f:Env->Option Bool):Prop:=PT X e (K1 X.K f)
def OP(K:W.Frag)(f:Env->Option (List D)):TA:=λσ H Q=>∃HF ρ ds,aK HF H/\cH K HF ρ σ/\f ρ=some ds/\∀vs H' QN,bR HF H QN H'->au K QN ds vs->Q vs H'
def DA(X:Cx)(es:List Expr)(f:Env->Option (List D)):Prop:=PA X es (OP X.K f)
def aZ(h:PE X e t)(i:∀σ H Q,t' σ H Q->t σ H Q):PE X e t':=λpins s σ H Q I q=>h pins s σ H Q I (i σ H Q q)
def uo(h:PT X e t)(i:∀σ H Q,t' σ H Q->t σ H Q):PT X e t':=λpins s σ H Q I q=>h pins s σ H Q I (i σ H Q q)
def E5(h:PA X e t)(i:∀σ H Q,t' σ H Q->t σ H Q):PA X e t':=λpos pins s σ H Q I q=>h pos pins s σ H Q I (i σ H Q q)
def bs(h:x.bind f=some b):∃a,x=some a/\f a=some b:=by
 cases x with
 | none=>cases h
 | some a=>exact⟨a,rfl,h⟩
def DF.de(h:DF X e f):DE X e (λρ=>(f ρ).map PyData.list):=aZ h λσ H Q z=>by
 let⟨HF,ρ,d,sm,eo,hf,q⟩:=z;have hf:(f ρ).map PyData.list=some d:=hf;cases e1:f ρ with
 | none=>rw[e1] at hf;cases hf
 | some ds =>
  rw[e1] at hf;obtain rfl:PyData.list ds=d:=xE hf;refine⟨HF,ρ,ds,sm,eo,e1,λa vs H' QN g ha T8 h' r=>q _ _ (upd QN a (.lst vs)) (g.freeze ha h' T8) ?_⟩;simp?[Rep];exact⟨a,vs,rfl,.inl (.inl aC),r.mono (bK T8)⟩
def ae(i:Nat):Env->Option D:=λρ=>(ρ[i]?).getD none
def MT(i:Nat)(hN:X.N[i]?=some x)(hv:BB X.env.scope x)(hd:(x == ("__debug__":Str))=false:=by decide)(Rp:(x == ("__classdict__":Str))=false:=by decide):DE X (.Name x pos) (ae i) :=
 aZ (fR hN hv hd Rp) λσ H Q z=>by
  let⟨HF,ρ,d,sm,eo,hf,q⟩:=z;have hf:(ρ[i]?).getD none=some d:=hf;cases e:ρ[i]? with
  | none=>rw[e] at hf;cases hf
  | some o =>
   rw[e] at hf;have hf:o=some d:=hf;subst hf;let⟨v,a,b⟩:=eo.get i d e;exact⟨v,a,q v H HF (.refl sm) b⟩
def fC(d:D):Env->Option D:=λ_=>some d
def K6{i j pos}:DE X (.Constant (.int i) j pos) (fC (.int i)):=aZ ML λσ H Q ⟨HF,ρ,d,sm,eo,hf,q⟩=>by cases hf;exact q _ H HF (.refl sm) (by simp[Rep])
def NL{b j pos}:DE X (.Constant (.bool b) j pos) (fC (.bool b)):=aZ NT λσ H Q ⟨HF,ρ,d,sm,eo,hf,q⟩=>by cases hf;exact q _ H HF (.refl sm) (by simp[Rep])
def KP{j pos}:DE X (.Constant .none j pos) (fC .none):=aZ L9 λσ H Q ⟨HF,ρ,d,sm,eo,hf,q⟩=>by cases hf;exact q _ H HF (.refl sm) (by simp[Rep])
def Mz{x j pos}:DE X (.Constant (.str x) j pos) (fC (.str x)):=aZ LO λσ H Q ⟨HF,ρ,d,sm,eo,hf,q⟩=>by cases hf;exact q _ H HF (.refl sm) (by simp[Rep])
def Ju(hg:Gl X x)(hm:X.mg x=some (.int i t))(hd:(x == ("__debug__":Str))=false:=by decide):DE X (.Name x pos) (fC (.int i)) :=
 aZ (IY (v:=.int i) hg hm ⟨t,rfl⟩ hd) λσ H Q ⟨HF,ρ,d,sm,eo,hf,q⟩=>by cases hf;exact q _ H HF (.refl sm) (by simp[Rep])
def fE(K:W.Frag)(r:R2)(g:D->D->Option D):Prop:=∀HF H x y v1 v2 d Q,aK HF H->Rep K HF x v1->Rep K HF y v2->g x y=some d->(∀v H' QN,bR HF H QN H'->Rep K QN d v->Q v H')->r v1 v2 H Q
def f2(g:D->D->Option D)(f1 f2:Env->Option D):Env->Option D:=λρ=>(f1 ρ).bind λx=>(f2 ρ).bind λy=>g x y
def IQ{X:Cx}{fa fb:Env->Option D}(hr:fE X.K r g):∀σ H Q,tD X.K (f2 g fa fb) σ H Q->Nt r (tD X.K fa) (tD X.K fb) σ H Q:=λσ H Q z=>by
 let⟨HF,ρ,d,sm,eo,hf,q⟩:=z;let⟨x,hx,hf⟩:=bs hf;let⟨y,hy,hg⟩:=bs hf;exact⟨HF,ρ,x,sm,eo,hx,λv1 H1 QO g1 r1=>⟨QO,ρ,y,g1.fh,eo.mono g1.ff,hy,λv2 H2 Q3 g2 r2=>hr Q3 H2 x y v1 v2 d Q g2.fh (r1.mono g2.ff) r2 hg λv H' QN g3 r3=>q v H' QN ((g1.trans g2).trans g3) r3⟩⟩
def xw(ho:gK X (binaryOp op) r)(hr:fE X.K r g)(ha:DE X a fa)(hb:DE X b fb):DE X (.BinOp a op b pos) (f2 g fa fb):=aZ (M6 ho ha hb) (IQ hr)
def iN(ho:gK X (compareOp op) r)(hr:fE X.K r g)(ha:DE X a fa)(hb:DE X b fb)(hm:behindInMarks op b=false):DE X (.Compare a [op] [b] pos) (f2 g fa fb):=aZ (Jl ho ha hb hm) (IQ hr)
def vf(C:Int->Int->Prop)[∀i j,Decidable (C i j)](g:Int->Int->D):D->D->Option D
 | .int i,.int j=>if C i j then some (g i j) else none
 | _,_=>none
def FR{K:W.Frag}{C:Int->Int->Prop}[∀i j,Decidable (C i j)]:fE K (rI C λi j=>.int (gi i j)) (vf C λi j=>.int (gi i j)):=by
 intro HF H x y v1 v2 d Q sm r1 r2 hg q;cases x<;>cases y<;>simp?[vf] at hg<;>try cases hg
 rename_i i j;simp?[Rep] at r1 r2;by_cases hc:C i j
 ·rw[yM hc] at hg;cases hg;exact⟨i,j,r1,r2,hc,q _ H HF (.refl sm) (by simp[Rep])⟩
 ·rw[yO hc] at hg;cases hg
def Ey{K:W.Frag}:fE K (HC λi j=>.int (gi i j)) (vf (λ_ _=>True) λi j=>.int (gi i j)):=by
 intro HF H x y v1 v2 d Q sm r1 r2 hg q;cases x<;>cases y<;>simp?[vf] at hg<;>try cases hg
 rename_i i j;simp?[Rep] at r1 r2;exact⟨i,j,r1,r2,q _ H HF (.refl sm) (by simp[Rep])⟩
def j1{K:W.Frag}{gi:Int->Int->Bool}:fE K (HC λi j=>.bl (gi i j)) (vf (λ_ _=>True) λi j=>.bool (gi i j)):=by
 intro HF H x y v1 v2 d Q sm r1 r2 hg q;cases x<;>cases y<;>simp?[vf] at hg<;>try cases hg
 rename_i i j;simp?[Rep] at r1 r2;exact⟨i,j,r1,r2,q _ H HF (.refl sm) (by simp[Rep])⟩
noncomputable instance (i j:Int):Decidable (rH i j):=by unfold rH;infer_instance
noncomputable instance (i j:Int):Decidable (HW i j):=by unfold HW;infer_instance
section
variable {X:Cx}{a b c:Expr}{fa fb fc:Env->Option D}{pos:Pos}{rest:List Expr}
def jg(fa fb:Env->Option D):Env->Option D:=λρ=>(fa ρ).bind fun|.bool true=>fb ρ|.bool false=>some (.bool false)|_=>none
def Qz(fa fb:Env->Option D):Env->Option D:=λρ=>(fa ρ).bind fun|.bool true=>some (.bool true)|.bool false=>fb ρ|_=>none
def NS:D->Option D|.bool b=>some (.bool (!b))|_=>none
def Pb(fa:Env->Option D):Env->Option D:=λρ=>(fa ρ).bind NS
def KM{op}(h:DE X a fa):DE X (.BoolOp op [a] pos) fa:=Ln h
def Mh(ha:DE X a fa)(hb:DE X (.BoolOp .And (b::rest) pos) fb):DE X (.BoolOp .And (a::b::rest) pos) (jg fa fb):=aZ (KI ha hb) λσ H Q z=>by
 let⟨HF,ρ,d,sm,eo,hf,q⟩:=z;let⟨x,hx,hf⟩:=bs hf;refine⟨HF,ρ,x,sm,eo,hx,λv1 H1 QO g1 r1=>?_⟩;cases x<;>try cases hf
 rename_i k;simp?[Rep] at r1;refine⟨k,r1,?_⟩;cases k with
 | true=>exact yi ⟨QO,ρ,d,g1.fh,eo.mono g1.ff,hf,λv H' QN g r=>q v H' QN (g1.trans g) r⟩
 | false=>cases hf;exact wR (q _ H1 QO g1 (by simp[Rep]))
def gB:D->Option Bool|.bool b=>some b|_=>none
def fB(f:Env->Option D):Env->Option Bool:=λρ=>(f ρ).bind gB
def AH:∀σ H (Q:Bool->Hp->Prop),K1 X.K (fB f) σ H Q->tD X.K f σ H λx H1=>∃c,x=.bl c/\Q c H1:=λσ H Q z=>by
 let⟨HF,ρ,k,sm,eo,hf,q⟩:=z;let⟨x,hx,hf⟩:=bs hf;refine⟨HF,ρ,x,sm,eo,hx,λv1 H1 QO g1 r1=>?_⟩;cases x<;>try cases hf
 simp?[Rep] at r1;exact⟨_,r1,q H1 QO g1⟩
def Bl(h:DE X a f)(he:∀whole,isTrue a X.env whole=(do let v <- whole;standAt a.pos;holding [v] (truthy v)):=by intro _;rfl):DT X a (fB f):=uo (Ms h he) AH
def iy(ho:gK X (compareOp op) r)(hr:fE X.K r g)(ha:DE X a fa)(hb:DE X b fb)(hm:behindInMarks op b=false):DT X (.Compare a [op] [b] pos) (fB (f2 g fa fb)) :=
 uo (BW ho ha hb hm) λσ H Q h=>IQ hr σ H _ (AH σ H Q h)
def dQ(fa fb:Env->Option Bool):Env->Option Bool:=λρ=>(fa ρ).bind fun|true=>fb ρ|false=>some false
def lA(fa fb:Env->Option Bool):Env->Option Bool:=λρ=>(fa ρ).bind fun|true=>some true|false=>fb ρ
def br(fa:Env->Option Bool):Env->Option Bool:=λρ=>(fa ρ).map (!·)
variable {ta tb:Env->Option Bool}
def DW(X:Cx)(e:Expr)(f:Env->Option Bool):Prop:=PW X e (K1 X.K f)
def El(h:PW X e t)(i:∀σ H Q,t' σ H Q->t σ H Q):PW X e t':=λwh pins s σ H Q I q=>h wh pins s σ H Q I (i σ H Q q)
def DW.dt(h:DW X a ta):DT X a ta:=PW.pt h
def Ht(ha:DT X a ta):DW X (.BoolOp .And [a] pos) ta:=IW ha
def KW(ha:DT X a ta):DW X (.BoolOp .Or [a] pos) ta:=LD ha
def Lw(ha:DT X a ta)(hb:DW X (.BoolOp .And (b::rest) pos) tb):DW X (.BoolOp .And (a::b::rest) pos) (dQ ta tb):=El (LB ha hb) λσ H Q z=>by
 let⟨HF,ρ,d,sm,eo,hf,q⟩:=z;let⟨x,hx,hf⟩:=bs hf;refine⟨HF,ρ,x,sm,eo,hx,λH1 QO g1=>?_⟩;cases x with
 | true=>exact yi ⟨QO,ρ,d,g1.fh,eo.mono g1.ff,hf,λH' QN g=>q H' QN (g1.trans g)⟩
 | false=>cases hf;exact wR (q H1 QO g1)
def Nu(ha:DT X a ta)(hb:DW X (.BoolOp .Or (b::rest) pos) tb):DW X (.BoolOp .Or (a::b::rest) pos) (lA ta tb):=El (NU ha hb) λσ H Q z=>by
 let⟨HF,ρ,d,sm,eo,hf,q⟩:=z;let⟨x,hx,hf⟩:=bs hf;refine⟨HF,ρ,x,sm,eo,hx,λH1 QO g1=>?_⟩;cases x with
 | false=>exact wR ⟨QO,ρ,d,g1.fh,eo.mono g1.ff,hf,λH' QN g=>q H' QN (g1.trans g)⟩
 | true=>cases hf;exact yi (q H1 QO g1)
def K7(ha:DT X a ta):DT X (.UnaryOp .Not a pos) (br ta):=uo (Lb ha) λσ H Q z=>by
 let⟨HF,ρ,d,sm,eo,hf,q⟩:=z;have hf:(ta ρ).map (!·)=some d:=hf;cases e:ta ρ with
 | none=>rw[e] at hf;cases hf
 | some k=>rw[e] at hf;cases hf;exact⟨HF,ρ,k,sm,eo,e,λH1 QO g1=>q H1 QO g1⟩
def HA(tc:Env->Option Bool)(fa fb:Env->Option D):Env->Option D:=λρ=>(tc ρ).bind fun|true=>fa ρ|false=>fb ρ
def Om(hc:DT X c ta)(ha:DE X a fa)(hb:DE X b fb):DE X (.IfExp c a b pos) (HA ta fa fb):=aZ (FJ hc ha hb) λσ H Q z=>by
 let⟨HF,ρ,d,sm,eo,hf,q⟩:=z;let⟨x,hx,hf⟩:=bs hf;refine⟨HF,ρ,x,sm,eo,hx,λH1 QO g1=>?_⟩;cases x with
 | true=>exact yi ⟨QO,ρ,d,g1.fh,eo.mono g1.ff,hf,λv H' QN g r=>q v H' QN (g1.trans g) r⟩
 | false=>exact wR ⟨QO,ρ,d,g1.fh,eo.mono g1.ff,hf,λv H' QN g r=>q v H' QN (g1.trans g) r⟩
def jx(g g':D->D->Option D)(fa fb fc:Env->Option D):Env->Option D:=λρ=>(fa ρ).bind λx=>(fb ρ).bind λy=>(g x y).bind fun|.bool true=>(fc ρ).bind λz=>g' y z|.bool false=>some (.bool false)|_=>none
def Cb(hr:fE X.K r g)(Sh:fE X.K r' g'):∀σ H Q,tD X.K (jx g g' fa fb fc) σ H Q->Ai r r' (tD X.K fa) (tD X.K fb) (tD X.K fc) σ H Q:=λσ H Q z=>by
 let⟨HF,ρ,d,sm,eo,hf,q⟩:=z;let⟨x,hx,hf⟩:=bs hf;let⟨y,hy,hf⟩:=bs hf;let⟨z,hz,hf⟩:=bs hf;refine⟨HF,ρ,x,sm,eo,hx,λv1 H1 QO g1 r1=>⟨QO,ρ,y,g1.fh,eo.mono g1.ff,hy,λv2 H2 Q3 g2 r2=>hr Q3 H2 x y v1 v2 z _ g2.fh (r1.mono g2.ff) r2 hz λv3 H3 Ry g3 r3=>?_⟩⟩;cases z<;>try cases hf
 rename_i k;simp?[Rep] at r3;refine⟨k,r3,?_⟩;have G:=(g1.trans g2).trans g3;cases k with
 | false=>cases hf;exact wR (q _ H3 Ry G (by simp[Rep]))
 | true =>
  let⟨w,hw,hg⟩:=bs hf;exact yi ⟨Ry,ρ,w,G.fh,eo.mono G.ff,hw,λv4 H4 R4 g4 r4=>Sh R4 H4 y w v2 v4 d Q g4.fh (r2.mono (g3.ff.trans g4.ff)) r4 hg λv H' QN g5 r5=>q v H' QN ((G.trans g4).trans g5) r5⟩
def GM(ho:gK X (compareOp op) r)(hr:fE X.K r g)(RK:gK X (compareOp Ue) r')(Sh:fE X.K r' g')(ha:DE X a fa)(hb:DE X b fb)(hc:DE X c fc)
  (hm:lastMarks [op,Ue] [b,c]=false:=by with_unfolding_all rfl):DE X (.Compare a [op,Ue] [b,c] pos) (jx g g' fa fb fc):=aZ (F2 ho RK ha hb hc hm) (Cb hr Sh)
def EW(ho:gK X (compareOp op) r)(hr:fE X.K r g)(RK:gK X (compareOp Ue) r')(Sh:fE X.K r' g')(ha:DE X a fa)(hb:DE X b fb)(hc:DE X c fc)
  (hm:lastMarks [op,Ue] [b,c]=false:=by with_unfolding_all rfl):DT X (.Compare a [op,Ue] [b,c] pos) (fB (jx g g' fa fb fc)) :=
 uo (F8 ho RK ha hb hc hm) λσ H Q h=>Cb hr Sh σ H _ (AH σ H Q h)
def ah:Env->Option (List D):=λ_=>some []
def aa(f:Env->Option D)(g:Env->Option (List D)):Env->Option (List D):=λρ=>(f ρ).bind λx=>(g ρ).map (x::·)
def AC:DA X [] ah:=E5 eX λσ H Q ⟨HF,ρ,d,sm,eo,hf,q⟩=>by cases hf;exact q [] H HF (.refl sm) au.nil
def uB(he:DE X e f)(hs:DA X es g)(XH:starEach (e::es) X.env=(false,eval e X.env)::starEach es X.env:=by rfl):DA X (e::es) (aa f g) :=
 E5 (bY he hs XH) λσ H Q z=>by
  let⟨HF,ρ,d,sm,eo,hf,q⟩:=z;let⟨x,hx,hf⟩:=bs hf;have hf:(g ρ).map (x::·)=some d:=hf;cases e1:g ρ with
  | none=>rw[e1] at hf;cases hf
  | some xs =>
   rw[e1] at hf;cases hf;exact⟨HF,ρ,x,sm,eo,hx,λv1 H1 QO g1 r1=>⟨QO,ρ,xs,g1.fh,eo.mono g1.ff,e1,λvs H2 Q3 g2 r2=>q (v1::vs) H2 Q3 (g1.trans g2) (au.cons (r1.mono g2.ff) r2)⟩⟩
variable {es:List Expr}{fs:Env->Option (List D)}
def small(ds:List D):Option (List D):=if ds.length<=sizeLine then some ds else none
def f7{ds es:List D}(h:small ds=some es):es=ds/\ds.length<=sizeLine:=by
 unfold small at h;split at h
 ·cases h;exact⟨rfl,‹_›⟩
 ·cases h
def aL(g:Env->Option (List D)):Env->Option D:=λρ=>(g ρ).bind λds=>(small ds).map PyData.tuple
def gu(g:Env->Option (List D)):Env->Option (List D):=λρ=>(g ρ).bind small
def Lf{x1}(h:DA X es fs):DE X (.Tuple es x1 pos) (aL fs):=aZ (La h) λσ H Q z=>by
 let⟨HF,ρ,d,sm,eo,hf,q⟩:=z;let⟨ds,hx,hf⟩:=bs hf;have hf:(small ds).map PyData.tuple=some d:=hf;cases e:small ds with
 | none=>rw[e] at hf;cases hf
 | some es' =>
  rw[e] at hf;cases hf;let⟨rfl,hz⟩:=f7 e;refine⟨HF,ρ,_,sm,eo,hx,λvs H1 QO g1 r1=>⟨by rw[r1.length];exact hz,λp hp=>q _ _ (upd QO p (.tup vs)) (g1.trans (.new g1.fh hp)) ?_⟩⟩;simp?[Rep];exact⟨p,vs,rfl,.inl (.inl aC),r1.mono (bK (g1.fh.free hp))⟩
def Lh(h:DA X es fs):DF X (.List es pos) (gu fs):=aZ (GF h) λσ H Q z=>by
 let⟨HF,ρ,d,sm,eo,hf,q⟩:=z;let⟨ds,hx,hf⟩:=bs hf;let⟨rfl,hz⟩:=f7 hf;exact⟨HF,ρ,_,sm,eo,hx,λvs H1 QO g1 r1=>⟨by rw[r1.length];exact hz,λp hp=>q p vs _ QO (g1.trans (.own g1.fh hp)) (g1.hh.free hp) (g1.fh.free hp) aC r1⟩⟩
def az:D->D->Option D
 | .tuple ds,.int i=>pI ds i
 | .list ds,.int i=>pI ds i
 | _,_=>none
def zl{K:W.Frag}(r:au K HF ds vs)(h:pI ds i=some d):∃v,pI vs i=some v/\Rep K HF d v:=by
 unfold pI at h ⊢;rw[r.length];let⟨j,hj,h⟩:=bs h;let⟨v,a,b⟩:=r.getD h;exact⟨v,by rw[hj];exact a,b⟩
def MP{K:W.Frag}:fE K (P8 K) az:=by
 intro HF H x y v1 v2 d Q sm r1 r2 hg q;cases x<;>cases y<;>simp?[az] at hg<;>try cases hg
 ·simp?[Rep] at r1 r2;let⟨a,vs,rfl,hs,r⟩:=r1;let⟨v,hv,rv⟩:=zl r hg;exact .inl ⟨a,vs,_,v,rfl,r2,sm.seq hs,hv,q v H HF (.refl sm) rv⟩
 ·simp?[Rep] at r1 r2;let⟨a,vs,rfl,hs,r⟩:=r1;let⟨v,hv,rv⟩:=zl r hg;exact .inr (.inl ⟨a,vs,_,v,rfl,r2,ay sm hs,hv,q v H HF (.refl sm) rv⟩)
def Nm(ha:DE X a fa)(hb:DE X b fb)(hs:oU b:=by intro _ _;rfl):DE X (.Subscript a b pos) (f2 az fa fb):=aZ (J9 Gs ha hb hs) (IQ MP)
mutual
theorem dD{pins:List (Addr×Obj)}{σ:L2.St}{H HF:Hp}{s:Shared}(I:Inv X pins σ H s)(sm:aK HF H):∀ {d:D}{v:V}{u:Value},Rep X.K HF d v->RelV v u->∃as,Reads s.heap u d as
 | .none,_,_,h,r=>by simp?[Rep] at h;subst h;cases r;exact⟨_,.none⟩
 | .bool b,_,_,h,r=>by simp?[Rep] at h;subst h;cases r;exact⟨_,.bool b⟩
 | .int i,_,_,h,r=>by simp?[Rep] at h;subst h;let⟨t,rfl⟩:=r;exact⟨_,.int i t⟩
 | .str i,_,_,h,r=>by simp?[Rep] at h;subst h;let⟨t,rfl⟩:=r;exact⟨_,.str i t⟩
 | .tuple ds,_,_,h,r=>by
  simp?[Rep] at h;let⟨a,vs,rfl,hs,rr⟩:=h;cases r;let⟨its,rv,⟨o,ho,hc,n,hd⟩,_⟩:=I.tuple (ay sm hs);let⟨as,q⟩:=nO I sm rr rv;exact⟨as,.tuple ho hc hd (by simpa using q)⟩
 | .list ds,_,_,h,r=>by
  simp?[Rep] at h;let⟨a,vs,rfl,hs,rr⟩:=h;cases r;let⟨its,rv,pl,_⟩:=I.list (sm.seq hs);let⟨o,ho,hc,n,hd⟩:=pl.isList;let⟨as,q⟩:=nO I sm rr rv;exact⟨_,.list ho hc hd (by simpa using q)⟩
 | .dict _,_,_,h,r=>by simp?[Rep] at h
theorem nO{pins:List (Addr×Obj)}{σ:L2.St}{H HF:Hp}{s:Shared}(I:Inv X pins σ H s)(sm:aK HF H):∀ {ds:List D}{vs:List V}{us:List Value},au X.K HF ds vs->aD vs us->∃as,ReadsAll s.heap us ds as
 | [],_,_,h,r=>by rw[h.nil_inv] at r;cases r;exact⟨_,.nil⟩
 | d::ds,_,_,h,r=>by
  let⟨v,vr,rfl,a,b⟩:=h.cons_inv;cases r with
  | cons r rr =>
   let⟨as,q⟩:=dD I sm a r;let⟨bs,p⟩:=nO I sm b rr;exact⟨_,.cons q p⟩
end
def NV(K:W.Frag)(g:D->D->Option Bool):R2:=λv1 v2 H Q=>∃HF x y k,aK HF H/\Rep K HF x v1/\Rep K HF y v2/\g x y=some k/\Q (.bl k) H
def j8{K:W.Frag}:fE K (NV K g) (λx y=>(g x y).map PyData.bool):=by
 intro HF H x y v1 v2 d Q sm r1 r2 hg q;have hg:(g x y).map PyData.bool=some d:=hg;cases e:g x y with
 | none=>rw[e] at hg;cases hg
 | some k=>rw[e] at hg;cases hg;exact⟨HF,x,y,k,sm,r1,r2,e,q _ H HF (.refl sm) (by simp[Rep])⟩
def LW(x y:D):Option Bool:=if SeqAt.shaped x=true/\SeqAt.shaped y=true then some (PyData.eqv x y) else none
def JV(x y:D):Option Bool:=if SeqAt.shaped x=true/\SeqAt.shaped y=true then some (!PyData.eqv x y) else none
def Gb(hu:X.A.units+64 < cLine):gK X (compareOp .Eq) (NV X.K LW):=by
 intro pins s σ H v1 v2 u1 u2 Q I rx ry h;let⟨HF,x,y,k,sm,r1,r2,hg,q⟩:=h;unfold LW at hg;split at hg<;>cases hg;rename_i hh;let⟨as,ra⟩:=dD I sm r1 rx;let⟨bs,rb⟩:=dD I sm r2 ry;exact eq_dataH ra rb hh.1 hh.2 hu ⟨.bl _,H,I,rfl,q⟩
def GX(hu:X.A.units+64 < cLine):gK X (compareOp .NotEq) (NV X.K JV):=by
 intro pins s σ H v1 v2 u1 u2 Q I rx ry h;let⟨HF,x,y,k,sm,r1,r2,hg,q⟩:=h;unfold JV at hg;split at hg<;>cases hg;rename_i hh;let⟨as,ra⟩:=dD I sm r1 rx;let⟨bs,rb⟩:=dD I sm r2 ry;exact ne_dataH ra rb hh.1 hh.2 hu ⟨.bl _,H,I,rfl,q⟩
def items:D->Option (List D)|.tuple ds=>some ds|.list ds=>some ds|_=>none
end
def Oj(K:W.Frag)(n:Nat)(m:List D->Option D):Sp:=λvs H Q _=>∃HF ds d,aK HF H/\fS K HF/\au K HF ds vs/\ds.length=n/\m ds=some d/\∀v H' QN,bR HF H QN H'->Rep K QN d v->Q v H'
structure eU(P:Program)(w:World)(K:W.Frag)(mg:Str->Option Value)(base:Heap)(k:Nat)(x:Str)(n:Nat)(m:List D->Option D):Prop where
 ex:∃ (f:Addr) (fd:FuncData) (ps:List Str),oA P w K mg base MY k f fd ps (Oj K n m)/\mg x=some (.ref f)/\W.keepIn K (.ref f)=true/\Binds K fd ps []
def eU.mono{K:W.Frag}(F:eU P w K mg base k x n m)(h:k<=j):eU P w K mg base j x n m:=by
 let⟨f,fd,ps,a,b,c,d⟩:=F.ex;exact⟨f,fd,ps,a.mono h,b,c,d⟩
def ai(n:Nat)(m:List D->Option D)(fs:Env->Option (List D)):Env->Option D:=λρ=>(fs ρ).bind λds=>if ds.length=n then m ds else none
def Js(F:eU X.prog X.w X.K X.mg X.base k x n m)(hr:dM k X.A)(hg:Gl X x)(ha:DA X (e::es) fs)(R0:(x == ("__debug__":Str))=false:=by decide)
  (he:starEach (e::es) X.env=(false,eval e X.env)::starEach es X.env:=by rfl) (RF:(backTo pos (starEach es X.env)).any (·.1)=false:=by rfl):DE X (.Call (.Name x p) (e::es) [] pos) (ai n m fs):=by
 let⟨f,fd,ps,ok,hm,hk,hb⟩:=F.ex;refine aZ (Ia (E:=E0) ok hr hg hm hk hb .nil Kn ha R0 he RF) λσ H Q z=>?_;let⟨HF,ρ,d,sm,eo,hf,q⟩:=z;let⟨ds,hx,hf⟩:=bs hf;split at hf
 ·rename_i hl;exact⟨HF,ρ,ds,sm,eo,hx,λvs H1 QO g1 r1=>⟨QO,ds,d,g1.fh,eo.tb.mono g1.ff,by rw[qG];exact r1,hl,hf,λv H' QN g r=>q v H' QN (g1.trans g) r⟩⟩
 ·cases hf
def EH(K:W.Frag)(r:List V->Hp->VK->Prop)(g:List D->Option D):Prop:=∀HF H ds vs d Q,aK HF H->au K HF ds vs->g ds=some d->(∀v H' QN,bR HF H QN H'->Rep K QN d v->Q v H')->r vs H Q
def bh(g:List D->Option D)(fs:Env->Option (List D)):Env->Option D:=λρ=>(fs ρ).bind g
def NC{X:Cx}{fs:Env->Option (List D)}(hs:EH X.K r g):∀σ H Q,tD X.K (bh g fs) σ H Q->OE r (OP X.K fs) σ H Q:=λσ H Q z=>by
 let⟨HF,ρ,d,sm,eo,hf,q⟩:=z;let⟨ds,hx,hf⟩:=bs hf;exact⟨HF,ρ,ds,sm,eo,hx,λvs H1 QO g1 r1=>hs QO H1 ds vs d Q g1.fh r1 hf λv H' QN g2 r2=>q v H' QN (g1.trans g2) r2⟩
def Ku(K:W.Frag)(r:List V->Hp->VK->Prop)(g:List D->Option (List D)):Prop:=∀HF H ds vs es Q,aK HF H->au K HF ds vs->g ds=some es ->
 (∀a us H' QN,bR HF H QN H'->H a=none->QN a=none->H' a=some (.lst us)->au K QN es us->Q (.ref a) H')->r vs H Q
def rE(g:List D->Option (List D))(fs:Env->Option (List D)):Env->Option (List D):=λρ=>(fs ρ).bind g
def N4{X:Cx}{fs:Env->Option (List D)}(hs:Ku X.K r g):∀σ H Q,tF X.K (rE g fs) σ H Q->OE r (OP X.K fs) σ H Q:=λσ H Q z=>by
 let⟨HF,ρ,d,sm,eo,hf,q⟩:=z;let⟨ds,hx,hf⟩:=bs hf;exact⟨HF,ρ,ds,sm,eo,hx,λvs H1 QO g1 r1=>hs QO H1 ds vs d Q g1.fh r1 hf λa us H' QN g2 ha T8 h' r2=>q a us H' QN (g1.trans g2) (g1.hh.free ha) T8 h' r2⟩
structure oY(X:Cx)(x:Str)(v:Value):Prop where
 gl:Gl X x
 mg:X.mg x=none
 bt:bootBuiltins x=some v
def ib{id:String}(hc:eC X (.builtin id) r)(hs:EH X.K r g)(B:oY X x (.builtin id))(ha:DA X (e::es) fs)(hn:x≠"__name__":=by decide)(R0:(x == ("__debug__":Str))=false:=by decide)
  (he:starEach (e::es) X.env=(false,eval e X.env)::starEach es X.env:=by rfl) (RF:(backTo pos (starEach es X.env)).any (·.1)=false:=by rfl):DE X (.Call (.Name x p) (e::es) [] pos) (bh g fs) :=
 aZ (mT hc B.gl B.mg B.bt ha hn R0 he RF) (NC hs)
def Gv{id:String}(hc:eC X (.builtin id) r)(hs:Ku X.K r g)(B:oY X x (.builtin id))(ha:DA X (e::es) fs)(hn:x≠"__name__":=by decide)(R0:(x == ("__debug__":Str))=false:=by decide)
  (he:starEach (e::es) X.env=(false,eval e X.env)::starEach es X.env:=by rfl) (RF:(backTo pos (starEach es X.env)).any (·.1)=false:=by rfl):DF X (.Call (.Name x p) (e::es) [] pos) (rE g fs) :=
 aZ (mT hc B.gl B.mg B.bt ha hn R0 he RF) (N4 hs)
def C8(hc:eC X (.type T) r)(hs:EH X.K r g)(B:oY X x (.type T))(ha:DA X (e::es) fs)(hn:x≠"__name__":=by decide)(R0:(x == ("__debug__":Str))=false:=by decide)
  (he:starEach (e::es) X.env=(false,eval e X.env)::starEach es X.env:=by rfl) (RF:(backTo pos (starEach es X.env)).any (·.1)=false:=by rfl):DE X (.Call (.Name x p) (e::es) [] pos) (bh g fs) :=
 aZ (sZ hc B.gl B.mg B.bt ha hn R0 he RF) (NC hs)
def eI:D->Option (List D)|.tuple ds=>some ds|.list ds=>some ds|_=>none
def oneOf:List D->Option D|[d]=>some d|_=>none
def gf(h:oneOf ds=some d):ds=[d]:=by
 cases ds with
 | nil=>cases h
 | cons x r=>cases r with
  | nil=>cases h;rfl
  | cons _ _=>cases h
def lI(h:eI d=some ds):d=.tuple ds\/d=.list ds:=by
 cases d<;>cases h
 ·exact .inr rfl
 ·exact .inl rfl
def dc:List D->Option (List D):=λds=>(oneOf ds).bind eI
def j3{ds es:List D}(h:dc ds=some es):ds=[.tuple es]\/ds=[.list es]:=by
 let⟨d,h1,h2⟩:=bs h;rw[gf h1];rcases lI h2 with rfl|rfl
 ·exact .inl rfl
 ·exact .inr rfl
def bA:List D->Option D:=λds=>(dc ds).map λes=>.int es.length
def ag{α β:Type}{x:Option α}{f:α->β}{b:β}(h:x.map f=some b):∃a,x=some a/\f a=b:=by
 cases x with
 | none=>cases h
 | some a=>exact⟨a,rfl,xE h⟩
def JH{K:W.Frag}:EH K (λxs H Q=>∃p ys,xs=[.ref p]/\(gp K H p ys\/gq K H p ys)/\Q (.int ys.length) H) bA:=by
 intro HF H ds vs d Q sm r hg q;let⟨es,h1,rfl⟩:=ag hg;rcases j3 h1 with rfl|rfl
 all_goals
  let⟨v,r',rfl,a,b⟩:=r.cons_inv;rw[b.nil_inv];simp?[Rep] at a;let⟨p,us,rfl,h,rr⟩:=a
 ·exact⟨p,us,rfl,.inr (ay sm h),q _ H HF (.refl sm) (by simp[Rep,rr.length])⟩
 ·exact⟨p,us,rfl,.inl (sm.seq h),q _ H HF (.refl sm) (by simp[Rep,rr.length])⟩
def L6(B:oY X "len" (.builtin "len"))(ha:DA X [e] fs)(he:starEach [e] X.env=(false,eval e X.env)::starEach [] X.env:=by rfl):DE X (.Call (.Name "len" p) [e] [] pos) (bh bA fs) :=
 ib uj JH B ha (by decide) (by decide) he rfl
def d4{K:W.Frag}(h:HF l=none)(r:au K HF ds vs):Rep K (upd HF l (.tup vs)) (.tuple ds) (.ref l):=by
 simp?[Rep];exact⟨l,vs,rfl,.inl (.inl aC),r.mono (bK h)⟩
def C6{K:W.Frag}:EH K (λxs H Q=>∃p ys,xs=[.ref p]/\((gp K H p ys/\∀l,H l=none->Q (.ref l) (upd H l (.tup ys)))\/(gq K H p ys/\Q (.ref p) H))) (λds=>(dc ds).map PyData.tuple):=by
 intro HF H ds vs d Q sm r hg q;let⟨es,h1,rfl⟩:=ag hg;rcases j3 h1 with rfl|rfl
 all_goals
  let⟨v,r',rfl,a,b⟩:=r.cons_inv;rw[b.nil_inv];have a':=a;simp?[Rep] at a;let⟨p,us,rfl,h,rr⟩:=a
 ·exact⟨p,us,rfl,.inr ⟨ay sm h,q _ H HF (.refl sm) a'⟩⟩
 ·exact⟨p,us,rfl,.inl ⟨sm.seq h,λl hl=>q _ _ _ (.new sm hl) (d4 (sm.free hl) rr)⟩⟩
def Fe(B:oY X "tuple" (.type "tuple"))(ha:DA X [e] fs)(he:starEach [e] X.env=(false,eval e X.env)::starEach [] X.env:=by rfl):DE X (.Call (.Name "tuple" p) [e] [] pos) (bh (λds=>(dc ds).map PyData.tuple) fs) :=
 C8 rL C6 B ha (by decide) (by decide) he rfl
def gL:D->String|.none=>"NoneType" | .bool _=>"bool" | .int _=>"int" | .str _=>"str" | .tuple _=>"tuple" | .list _=>"list" | .dict _=>"dict"
def ud(a b:String):Option Bool:=if ((Value.type a) == (Value.type b))=true then some true else if W.kitMeta b=true then (fastBuiltinMro a).map (·.contains (Value.type b)) else none
def JC:∀a∈["NoneType","bool","int","str","tuple","list"],ud a "int"=some (a == "int"||a == "bool"):=by decide +kernel
def GV:∀a∈["NoneType","bool","int","str","tuple","list"],ud a "bool"=some (a == "bool"):=by decide +kernel
def kit_tuple:∀a∈["NoneType","bool","int","str","tuple","list"],ud a "tuple"=some (a == "tuple"):=by decide +kernel
def Fk{A:Around}{E:Value->Shared->Prop}(I:Inv X pins σ H s)(sm:aK HF H)(r:Rep X.K HF d v)(rv:RelV v u)
  (e:ud (gL d) T=some k) (h:∀tk,Q (.bool k) { s with toks:=tk }):wpAny (model X.prog X.w) A (call (.builtin "isinstance") [u,.type T]) Q E s:=by
 have e':W.kitOne X.K (.type (gL d)) (.type T)=some k:=e;cases d<;>simp?[Rep] at r
 ·subst r;cases rv;exact W.kia_one W.kitx_none I.TB True.intro e' (λz=>nomatch z) h
 ·subst r;cases rv;exact W.kia_one W.kitx_bool I.TB True.intro e' (λz=>nomatch z) h
 ·subst r;let⟨t,rfl⟩:=rv;exact W.kia_one W.kitx_int I.TB True.intro e' (λz=>nomatch z) h
 ·subst r;let⟨t,rfl⟩:=rv;exact W.kia_one W.kitx_str I.TB True.intro e' (λz=>nomatch z) h
 ·let⟨a,vs,rfl,hs,rr⟩:=r;cases rv;let⟨its,rv,pl,_⟩:=I.list (sm.seq hs);let⟨o,ho,hc,n,hd⟩:=pl.isList;exact W.kia_one W.kitx_list I.TB ⟨o,ho,hc⟩ e' (λz=>nomatch z) h
 ·let⟨a,vs,rfl,hs,rr⟩:=r;cases rv;let⟨its,rv,⟨o,ho,hc,n,hd⟩,_⟩:=I.tuple (ay sm hs);exact W.kia_one W.kitx_tuple I.TB ⟨o,ho,hc⟩ e' (λz=>nomatch z) h
def Kq(T:String)(f:Env->Option D):Env->Option D:=λρ=>(f ρ).bind λd=>(ud (gL d) T).map PyData.bool
def Na(B:oY X "isinstance" (.builtin "isinstance"))(C:oY X xT (.type T))(h:DE X e f)(hn:xT≠"__name__":=by decide)(hd:(xT == ("__debug__":Str))=false:=by decide)
  (he:starEach [e,.Name xT pT] X.env=(false,eval e X.env)::starEach [.Name xT pT] X.env:=by rfl):DE X (.Call (.Name "isinstance" p) [e,.Name xT pT] [] pos) (Kq T f):=by
 have hc:eC X (.builtin "isinstance") (λxs H Q=>∃HF d v k,xs=[v,.ty T]/\aK HF H/\Rep X.K HF d v/\ud (gL d) T=some k/\Q (.bl k) H):=by
  intro pins s σ H xs us Q I r h;let⟨HF,d,v,k,rfl,sm,rp,hk,q⟩:=h;cases r with
  | cons ra rr =>
   cases rr with
   | cons rb rn =>
    cases rn;cases rb;exact Fk I sm rp ra hk λtk=>⟨.bl k,H,I.tok _,rfl,q⟩
 refine aZ (mT hc B.gl B.mg B.bt (bY h (bY (ID (v:=.ty T) C.gl C.mg C.bt rfl hn hd) eX) he) (by decide) (by decide) he rfl) λσ H Q z=>?_;let⟨HF,ρ,d,sm,eo,hf,q⟩:=z;let⟨x,hx,hf⟩:=bs hf;let⟨k,hk,rfl⟩:=ag hf;exact⟨HF,ρ,x,sm,eo,hx,λv1 H1 QO g1 r1=>⟨QO,x,v1,k,rfl,g1.fh,r1,hk,q _ H1 QO g1 (by simp[Rep])⟩⟩
def Jy:D->D->Option D
 | .tuple xs,.tuple ys=>(small (xs++ys)).map PyData.tuple
 | _,_=>none
def BN(K:W.Frag):R2:=λx y H Q=>∃a b xs ys,x=.ref a/\y=.ref b/\gq K H a xs/\gq K H b ys/\xs.length+ys.length<=sizeLine /\
 (xs=[]->Q (.ref b) H)/\(ys=[]->Q (.ref a) H)/\(∀p,H p=none->Q (.ref p) (upd H p (.tup (xs++ys))))
def Dm:gK X (binaryOp .Add) (BN X.K):=by
 intro pins s σ H x y v u Q I rx ry h;let⟨a,b,xs,ys,rfl,rfl,ha,hb,hz,q0,q1,q2⟩:=h;by_cases hx:xs=[]
 ·cases rx;cases ry;let⟨its,r1,p1,_⟩:=I.tuple ha;let⟨Rm,r2,p2,_⟩:=I.tuple hb;let⟨⟨cls,dd,data,sl⟩,ho,hc,n,hd⟩:=id p1;let⟨⟨XN,UO,data2,UP⟩,TF,TH,n2,hd2⟩:=id p2;simp only at hc hd TH hd2;subst hc hd TH hd2;have e:its=[]:=(L2.aD.RG r1).mpr hx;exact wI ⟨_,ho,rfl⟩ ⟨_,TF,rfl⟩ noFill_tuple_add seq_tuple_add vJ vF (vD _ _)
   (tuple_addW0 a b its.toArray Rm.toArray n n2 dd UO sl UP (by simp[e])) ⟨ho,TF,⟨.ref b,H,I,rfl,q0 hx⟩⟩
 ·exact Il pins s σ H _ _ v u Q I rx ry ⟨a,b,xs,ys,rfl,rfl,ha,hb,hx,hz,q1,λ_ p hp=>q2 p hp⟩
def Jw{K:W.Frag}:fE K (BN K) Jy:=by
 intro HF H x y v1 v2 d Q sm r1 r2 hg q;cases x<;>cases y<;>simp?[Jy] at hg<;>try cases hg
 rename_i xs ys;let⟨es,h1,rfl⟩:=ag hg;let⟨rfl,hz⟩:=f7 h1;have Xq:=r1;have r2':=r2;simp?[Rep] at r1 r2;let⟨a,vs,rfl,ha,ra⟩:=r1;let⟨b,us,rfl,hb,rb⟩:=r2;refine⟨a,b,vs,us,rfl,rfl,ay sm ha,ay sm hb,by rw[ra.length,rb.length,<- zO];exact hz,λe=>?_,λe=>?_,λp hp=>q _ _ _ (.new sm hp) (d4 (sm.free hp) (ra.append rb))⟩
 ·have:xs=[]:=by have:=ra.length;rw[e] at this;exact List.length_eq_zero_iff.mp this.symm
  subst this;exact q _ H HF (.refl sm) r2'
 ·have:ys=[]:=by have:=rb.length;rw[e] at this;exact List.length_eq_zero_iff.mp this.symm
  subst this;rw[qG] at q;exact q _ H HF (.refl sm) Xq
structure rS(K:W.Frag)(J:It)(HF:Hp)(ds:List D):Prop where
 go:∀i d Rb QV,ds[i]?=some d->aK HF QV->aK QV Rb->J.go i Rb/\∀x SJ,J.Vo i Rb x SJ->∃Vt,bR QV Rb Vt SJ/\Rep K Vt d x
 stop:∀Rb QV,aK HF QV->aK QV Rb->J.stop ds.length Rb
def P9(K:W.Frag)(f:Env->Option (List D)):TI:=λσ H R=>∃HF ρ ds,aK HF H/\cH K HF ρ σ/\f ρ=some ds/\∀J H' QN,bR HF H QN H'->rS K J QN ds->R J H'
def DI(X:Cx)(tg iter:Expr)(f:Env->Option (List D)):Prop:=PI X tg iter (P9 X.K f)
def CL{K:W.Frag}(h:gp K HF a vs)(r:au K HF ds vs):rS K (OO K a) HF ds where
 go:=λi d Rb QV e s1 s2=>by
  let⟨v,hv,rv⟩:=r.getD e;have q:=s2.seq (s1.seq h);refine⟨⟨vs,v,q,hv⟩,λx SJ ⟨e2,hy⟩=>⟨QV,by rw[e2];exact .refl s2,?_⟩⟩;have:=hy vs q;rw[hv] at this;cases this;exact rv.mono s1
 stop:=λRb QV s1 s2=>⟨vs,s2.seq (s1.seq h),by rw[r.length];exact yN _⟩
def FN{K:W.Frag}(h:gq K HF a vs)(r:au K HF ds vs):rS K (Pe K a) HF ds where
 go:=λi d Rb QV e s1 s2=>by
  let⟨v,hv,rv⟩:=r.getD e;have q:=ay s2 (ay s1 h);refine⟨⟨vs,v,q,hv⟩,λx SJ ⟨e2,hy⟩=>⟨QV,by rw[e2];exact .refl s2,?_⟩⟩;have:=hy vs q;rw[hv] at this;cases this;exact rv.mono s1
 stop:=λRb QV s1 s2=>⟨vs,ay s2 (ay s1 h),by rw[r.length];exact yN _⟩
def AJ{K:W.Frag}{lo:Int}:rS K (Oy lo n) HF ((List.range n).map λi=>PyData.int (lo+(i:Nat))) where
 go:=λi d Rb QV e s1 s2=>by
  rw[zP] at e;let⟨j,hj,rfl⟩:=ag e;let⟨hi,Vu⟩:=List.getElem?_eq_some_iff.mp hj;have R5:i < n:=by simpa using hi
  have:j=i:=by rw[<- Vu];simp
  subst this;exact⟨R5,λx SJ ⟨e2,hx⟩=>⟨QV,by rw[e2];exact .refl s2,by simp[Rep,hx]⟩⟩
 stop:=λRb QV s1 s2=>by
  show n<=_;simp
section
variable {X:Cx}{tg l e:Expr}{f:Env->Option D}{fs:Env->Option (List D)}{pos p:Pos}
def uw(h:PI X tg l t)(i:∀σ H R,t' σ H R->t σ H R):PI X tg l t':=λpins s σ H R I q=>h pins s σ H R I (i σ H R q)
def Ml(hl:PE X l tl):PI X tg l (λσ H R=>tl σ H λx H1=>∃a,x=.ref a/\((∃xs,gp X.K H1 a xs/\R (OO X.K a) H1)\/∃xs,gq X.K H1 a xs/\R (Pe X.K a) H1)):=by
 intro pins s σ H R I h;refine bS (hl pins s σ H _ I h) λv s1 z=>?_;let⟨x,H1,I1,r1,q1⟩:=z;let⟨a,e,q⟩:=q1;subst e;cases r1;rcases q with ⟨xs,hq,q⟩|⟨xs,hq,q⟩
 ·let⟨its,rv,pl,hz⟩:=I1.list hq;refine qL pl.isList ⟨s1.heap.objs.size,[s1.heap.objs.size],_,_,H1,rfl,I1.kept (t':=s1.toks) λb o e=>zV _ e,Ds a _,⟨_,zY _ rfl,rfl,rfl⟩,λb hb=>?_,q⟩;cases List.mem_singleton.mp hb;exact I1.RL (yN _) I1.fresh
 ·let⟨its,rv,pl,hz⟩:=I1.tuple hq;refine xS (show s1.heap.IsTuple a its.toArray from pl) ⟨s1.heap.objs.size,[s1.heap.objs.size],_,_,H1,rfl,I1.kept (t':=s1.toks) λb o e=>zV _ e,A1 a _,⟨_,zY _ rfl,rfl,rfl⟩,λb hb=>?_,q⟩;cases List.mem_singleton.mp hb;exact I1.RL (yN _) I1.fresh
def bG(f:Env->Option D):Env->Option (List D):=λρ=>(f ρ).bind eI
def GR(h:DE X l f):DI X tg l (bG f):=uw (Ml h) λσ H R z=>by
 let⟨HF,ρ,ds,sm,eo,hf,q⟩:=z;let⟨x,hx,hf⟩:=bs hf;refine⟨HF,ρ,x,sm,eo,hx,λv1 H1 QO g1 r1=>?_⟩;rcases lI hf with rfl|rfl
 ·simp?[Rep] at r1;let⟨a,vs,rfl,hs,rr⟩:=r1;exact⟨a,rfl,.inr ⟨vs,ay g1.fh hs,q _ H1 QO g1 (FN hs rr)⟩⟩
 ·simp?[Rep] at r1;let⟨a,vs,rfl,hs,rr⟩:=r1;exact⟨a,rfl,.inl ⟨vs,g1.fh.seq hs,q _ H1 QO g1 (CL hs rr)⟩⟩
def DD(i:Int):Bool:=decide (-(2 ^ 62)<=i)&&decide (i < 2 ^ 62)
def lC:List D->Option (List D)
 | [.int j]=>if DD j then some ((List.range j.toNat).map λi=>PyData.int ((i:Nat):Int)) else none
 | _=>none
def wZ(h:lC ds=some es):∃j,ds=[.int j]/\DD j=true/\es=(List.range j.toNat).map λi=>PyData.int ((i:Nat):Int):=by
 unfold lC at h;split at h
 ·split at h
  ·cases h;exact⟨_,rfl,‹_›,rfl⟩
  ·cases h
 ·cases h
def bw(fs:Env->Option (List D)):Env->Option (List D):=λρ=>(fs ρ).bind lC
def Fw(B:oY X "range" (.type "range"))(h:DA X [e] fs)(hs:starEach [e] X.env=[(false,eval e X.env)]:=by rfl):DI X tg (.Call (.Name "range" p) [e] [] pos) (bw fs) :=
 uw (D4 B.gl B.mg h hs) λσ H R z=>by
  let⟨HF,ρ,ds,sm,eo,hf,q⟩:=z;let⟨x,hx,hf⟩:=bs hf;let⟨j,rfl,hj,rfl⟩:=wZ hf;refine⟨HF,ρ,_,sm,eo,hx,λvs H1 QO g1 r1=>?_⟩;let⟨v,r,rfl,a,b⟩:=r1.cons_inv;rw[b.nil_inv];simp?[Rep] at a;subst a;unfold DD at hj;rw[zG] at hj;refine⟨j,rfl,yR hj.1,yR hj.2,q _ H1 QO g1 ?_⟩;have:=AJ (K:=X.K) (HF:=QO) (lo:=0) (n:=j.toNat);simpa using this
def OF(K:W.Frag)(f:Env->D->Option Env):TG:=λv σ H Q=>∃HF ρ d ρ',aK HF H/\cH K HF ρ σ/\Rep K HF d v/\f ρ d=some ρ'/\∀σ',cH K HF ρ' σ'->cH K HF ρ σ'->Q σ' H
def DG(X:Cx)(tg:Expr)(f:Env->D->Option Env):Prop:=PG X tg (OF X.K f)
def pJ(h:PG X tg t)(i:∀v σ H Q,t' v σ H Q->t v σ H Q):PG X tg t':=λpins s σ H v u Q I r q=>h pins s σ H v u Q I r (i v σ H Q q)
def isFree(ρ:Env)(i:Nat):Bool:=((ρ[i]?).getD none).isNone
def iE{K:W.Frag}(eo:cH K HF ρ σ)(r:Rep K HF d v):cH K HF (ρ.set i (some d)) (σ.set i (some v)):=by
 refine⟨λj e h=>?_,by rw[yD,yD];exact eo.len,eo.tb⟩;rw[xJ] at h ⊢;by_cases QQ:i=j
 ·rw[yM QQ] at h ⊢;by_cases hl:i < ρ.length
  ·rw[yM hl] at h;cases h;rw[yM (zQ hl eo.len)];exact⟨v,rfl,r⟩
  ·rw[yO hl] at h;cases h
 ·rw[yO QQ] at h ⊢;exact eo.get j e h
def k4{K:W.Frag}(eo:cH K HF ρ σ)(hf:isFree ρ i=true):cH K HF ρ (σ.set i (some v)):=by
 refine⟨λj e h=>?_,by rw[yD];exact eo.len,eo.tb⟩;have QQ:i≠j:=by
  intro z;subst z;unfold isFree at hf;rw[h] at hf;cases hf
 rw[xJ,yO QQ];exact eo.get j e h
def fG(i:Nat):Env->D->Option Env:=λρ d=>if isFree ρ i=true then some (ρ.set i (some d)) else none
def Ja(i:Nat)(hN:X.N.Nodup)(hi:X.N[i]?=some x)(hx:Loc X.env.scope x)(hf:X.fn x=true\/X.env.scope.names.lookup x=some .local:=by first|exact .inl rfl|exact .inr rfl|assumption):DG X (.Name x pos) (fG i) :=
 pJ (fM hN hi hx hf) λv σ H Q z=>by
  let⟨HF,ρ,d,ρ',sm,eo,r,hf,q⟩:=z;unfold fG at hf;split at hf
  ·cases hf;exact q _ (iE eo r) (k4 eo ‹_›)
  ·cases hf
def ip(i j:Nat):Env->D->Option Env:=λρ d=>match d with
 | .tuple [x,y]=>if isFree ρ i=true/\isFree ρ j=true then some ((ρ.set i (some x)).set j (some y)) else none
 | _=>none
def Mw(i j:Nat){px py:Pos}{k:Nat}(hc:X.calm=true)(hN:X.N.Nodup)(hi:X.N[i]?=some x)(hx:Loc X.env.scope x)(hj:X.N[j]?=some y)(hy:Loc X.env.scope y)
  (hf:X.fn x=true\/X.env.scope.names.lookup x=some .local:=by first|exact .inl rfl|exact .inr rfl|assumption) (T8:X.fn y=true\/X.env.scope.names.lookup y=some .local:=by first|exact .inl rfl|exact .inr rfl|assumption) :
  DG X (.Tuple [.Name x px,.Name y py] k pos) (ip i j) :=
 pJ (AV hc (gm (fM hN hi hx hf) (gm (fM hN hj hy T8) uN))) λv σ H Q z=>by
  let⟨HF,ρ,d,ρ',sm,eo,r,hf,q⟩:=z;unfold ip at hf;split at hf
  ·rename_i x' y';split at hf
   ·rename_i hh;cases hf;simp?[Rep] at r;let⟨a,vs,rfl,hs,rr⟩:=r;let⟨v1,r1,rfl,a1,b1⟩:=rr.cons_inv;let⟨v2,r2,rfl,a2,b2⟩:=b1.cons_inv;rw[b2.nil_inv] at hs;exact⟨a,_,rfl,ay sm hs,rfl,v1,_,rfl,v2,_,rfl,rfl,q _ (iE (iE eo a1) a2) (k4 (k4 eo hh.1) hh.2)⟩
   ·cases hf
  ·cases hf
def dJ(tgt:Env->D->Option Env)(tt:Env->Option Bool)(te:Env->Option D)(ρ:Env):List D->Option (List D)
 | []=>some []
 | d::ds=>(tgt ρ d).bind λρ'=>(tt ρ').bind λb=>if b=true then (te ρ').bind λx=>(dJ tgt tt te ρ ds).map (x::·) else dJ tgt tt te ρ ds
def NP(X:Cx)(ifs:List Expr)(f:Env->Option Bool):Prop:=M3 X ifs (K1 X.K f)
def Jb:NP X [] (λ_=>some true):=λpins s σ H Q I ⟨HF,ρ,b,sm,eo,hf,q⟩=>Iu pins s σ H Q I (by cases hf;exact q H HF (.refl sm))
def Jo(h:DT X c t):NP X [c] t:=Hw h
def js(t:Nat)(cs:List Nat)(σ:L2.St):L2.St:=List.replicate t none++cs.map λj=>(σ[j]?).getD none
def gh(t:Nat)(cs:List Nat)(ρ:Env):Env:=List.replicate t none++cs.map λj=>(ρ[j]?).getD none
def Ce{K:W.Frag}{cs:List Nat}(eo:cH K HF ρ σ):cH K HF (gh t cs ρ) (js t cs σ):=by
 refine⟨λi d h=>?_,by simp[gh,js],eo.tb⟩;unfold gh at h;unfold js;by_cases hi:i < t
 ·rw[yT (by simpa using hi),yY,yM hi] at h;cases h
 ·rw[yU (by simpa using hi),zP,xN] at h;rw[yU (by simpa using hi),zP,xN];let⟨j,hj,h⟩:=ag h;rw[hj];cases e:ρ[j]? with
  | none=>rw[e] at h;cases h
  | some o =>
   rw[e] at h;have h:o=some d:=h;subst h;let⟨v,a,b⟩:=eo.get j d e;exact⟨v,by show some ((σ[j]?).getD none)=_;rw[a];rfl,b⟩
def aw(t:Nat)(cs:List Nat)(fi:Env->Option (List D))(tgt:Env->D->Option Env)(tt:Env->Option Bool)(te:Env->Option D):Env->Option (List D):=λρ=>(fi ρ).bind λds=>(dJ tgt tt te (gh t cs ρ) ds).bind small
variable {elt iter:Expr}{ifs:List Expr}{scope:Scope}{N:List Str}{t:Nat}{cs:List Nat}{fi:Env->Option (List D)}{tgt:Env->D->Option Env}{tt:Env->Option Bool}{te:Env->Option D}
def Gp:∀σ H Q,tF X.K (aw t cs fi tgt tt te) σ H Q->GZ (P9 X.K fi) (OF X.K tgt) (K1 X.K tt) (tD X.K te) (js t cs) σ H Q:=λσ H Q z=>by
 let⟨HF,ρ,out,sm,eo,hf,q⟩:=z;let⟨ds,hx,hf⟩:=bs hf;let⟨aeL,ho,hf⟩:=bs hf;let⟨rfl,hz⟩:=f7 hf;refine⟨HF,ρ,ds,sm,eo,hx,λJ H1 QO g1 it Dn hD=>?_⟩;have eo1:=Ce (t:=t) (cs:=cs) (eo.mono g1.ff);have hFD:QO Dn=none:=g1.fh.free hD;refine⟨λi m σ' H'=>m+i=ds.length/\∃QN xs ys rest,bR QO H1 QN H'/\QN Dn=none/\H' Dn=some (.lst ys)/\au X.K QN xs ys/\cH X.K QN (gh t cs ρ) σ'/\dJ tgt tt te (gh t cs ρ) (ds.drop i)=some rest/\xs++rest=out,
  ⟨ds.length,rfl,QO,[],[],out,.own g1.fh hD,hFD,aC,au.nil,eo1,ho,rfl⟩,?_⟩
 rintro i m σ' H' ⟨hm,QN,xs,ys,rest,G,X3,hHD,rr,eo',hc,Uk⟩;by_cases hi:i < ds.length
 ·refine .inr ?_;have hd:ds.drop i=ds[i]::ds.drop (i+1):=kZ hi;have he:ds[i]?=some ds[i]:=List.getElem?_eq_some_iff.mpr ⟨hi,rfl⟩;generalize ds[i]=d at hd he;rw[hd] at hc;unfold dJ at hc;let⟨ρ',h1,hc⟩:=bs hc;let⟨b,h2,hc⟩:=bs hc;let⟨go,Vo⟩:=it.go i d H' QN he G.ff G.fh;refine⟨go,λx H2 y=>?_⟩;let⟨Q3,G2,rx⟩:=Vo x H2 y;refine⟨Q3,_,d,ρ',G2.fh,eo'.mono G2.ff,rx,h1,λS8 eo2 X4=>?_⟩;refine⟨Q3,ρ',b,G2.fh,eo2,h2,λH3 Ry G3=>?_⟩;have nof:∀R4 H4,bR QN H' R4 H4->R4 Dn=none:=λR4 H4 G4=>by
   cases e4:R4 Dn with
   | none=>rfl
   | some o =>
    rcases G4.nw Dn o e4 with z|z
    ·rw[X3] at z;cases z
    ·rw[hHD] at z;cases z
  cases b with
  | false =>
   refine wR ⟨m - 1,by lia,by lia,Ry,xs,ys,rest,(G.trans G2).trans G3,nof _ _ (G2.trans G3),(G2.trans G3).hh _ _ hHD,rr.mono (G2.trans G3).ff,X4.mono G3.ff,by simpa using hc,Uk⟩
  | true =>
   rw[yM rfl] at hc;let⟨z,h3,hc⟩:=bs hc;let⟨Vv,h4,rfl⟩:=ag hc;refine yi ⟨Ry,ρ',z,G3.fh,eo2.mono G3.ff,h3,λv H4 R4 G4 rv=>?_⟩;have GG:=(G2.trans G3).trans G4;have n4:=nof _ _ GG;have h4D:=GG.hh _ _ hHD;have hlen:ys.length < sizeLine:=by
    have e1:=rr.length;have e2:out.length=xs.length+(Vv.length+1):=by rw[<- Uk];simp
    lia
   refine⟨ys,h4D,hlen,m - 1,by lia,by lia,R4,xs++[z],ys++[v],Vv,?_,n4,aC,(rr.mono GG.ff).append (au.cons rv au.nil),X4.mono (G3.ff.trans G4.ff),h4,by simp[<- Uk]⟩;have G5:=G.trans GG;refine⟨λb o e=>?_,G5.ff,λb o e=>?_,G5.nw⟩
   ·rw[av (aA e hD)];exact G5.hh b o e
   ·rw[av (aA e n4)];exact G5.fh b o e
 ·have R5:i=ds.length:=by lia
  subst R5;rw[List.drop_length] at hc;cases hc;rw[qG] at Uk;subst Uk;exact .inl ⟨it.stop H' QN G.ff G.fh,q Dn ys H' QN (g1.trans G) (g1.hh.free hD) X3 hHD rr⟩
def Jx(hc:X.calm=true)(S:iC X scope N (js t cs))(hi:DI X tg iter fi)
  (hY:∀fp s H,DG (aR X scope N fp s H) tg tgt/\NP (aR X scope N fp s H) ifs tt/\DE (aR X scope N fp s H) elt te)
  (hs:∀x,foldedSetIterable iter X.env x=pure x:=by intro _;rfl):DF X (.ListComp elt [⟨tg,iter,ifs,0⟩] scope pos) (aw t cs fi tgt tt te):=aZ (IG (g:=OF X.K tgt) (tt:=K1 X.K tt) (te:=tD X.K te) hc S hi hY hs) Gp
end
inductive Slot where
 | QK|val (d:D)|own (ds:List D)|nest (dss:List (List D))|tab (ks:List (List Int))
abbrev ao:=List Slot
def Slot.all:Slot->Option D|.QK=>none|.val d=>some d|.own ds=>some (.list ds)|.nest dss=>some (.list (dss.map PyData.list))|.tab _=>none
def Slot.Ro:Slot->Option D|.val d=>some d|_=>none
def Slot.X5:Slot->Slot|.own ds=>.val (.list ds)|.nest dss=>.val (.list (dss.map PyData.list))|s=>s
def aP(ρ:ao):Env:=ρ.map Slot.all
def bx(ρ:ao):Env:=ρ.map Slot.Ro
def hand(fz:List Nat):Nat->ao->ao
 | _,[]=>[]
 | k,s::r=>(if fz.contains k=true then s.X5 else s)::hand fz (k+1) r
def fT(fz:List Nat):∀ (ρ:ao) (k i:Nat),(hand fz k ρ)[i]?=(ρ[i]?).map λs=>if fz.contains (k+i)=true then s.X5 else s
 | [],k,i=>by simp[hand]
 | s::r,k,0=>by simp[hand]
 | s::r,k,i+1=>by
  simp?[hand,yZ];rw[fT fz r (k+1) i,Nat.add_assoc,Nat.add_comm 1 i]
def zi(fz:List Nat):∀ (ρ:ao) (k:Nat),(hand fz k ρ).length=ρ.length
 | [],k=>rfl
 | s::r,k=>by simp[hand,zi fz r (k+1)]
inductive sv(K:W.Frag)(HF H QM:Hp):List Addr->List (List D)->Prop
 | nil:sv K HF H QM [] []
 | cons {b:Addr}{bs:List Addr}{ds:List D}{dss:List (List D)}{vs:List V}:H b=some (.lst vs)->HF b=none->QM b=none->au K HF ds vs->sv K HF H QM bs dss->sv K HF H QM (b::bs) (ds::dss)
structure Bp(K:W.Frag)(HF H QM:Hp)(a:Addr)(bs:List Addr)(dss:List (List D)):Prop where
 hd:H a=some (.lst (bs.map V.ref))
 fz:HF a=none
 h0:QM a=none
 ins:sv K HF H QM bs dss
 nd:(a::bs).Nodup
section
variable {K:W.Frag}{a:Addr}{bs:List Addr}{dss:List (List D)}
def sv.imp(h:sv K HF H QM bs dss)(s:aK HF QN)(e:∀b∈bs,∀o,H b=some o->HF b=none->H' b=some o/\QN b=none):sv K QN H' QM bs dss:=by
 induction h with
 | nil=>exact .nil
 | cons h1 h2 h3 r _ ih =>
  let⟨z1,z2⟩:=e _ zF _ h1 h2;exact .cons z1 z2 h3 (r.mono s) (ih λb hb=>e b (zD _ hb))
def Bp.imp(h:Bp K HF H QM a bs dss)(s:aK HF QN)(e:∀b∈a::bs,∀o,H b=some o->HF b=none->H' b=some o/\QN b=none):Bp K QN H' QM a bs dss :=
 let z:=e a zF _ h.hd h.fz
 ⟨z.1,z.2,h.h0,h.ins.imp s λb hb=>e b (zD _ hb),h.nd⟩
def sv.there(h:sv K HF H QM bs dss):∀b∈bs,HF b=none/\QM b=none/\∃vs,H b=some (.lst vs):=by
 induction h with
 | nil=>exactλb hb=>by cases hb
 | cons h1 h2 h3 _ _ ih =>
  intro b hb;rcases List.mem_cons.mp hb with e|e
  ·rw[e];exact⟨h2,h3,_,h1⟩
  ·exact ih b e
def Bp.there(h:Bp K HF H QM a bs dss):∀b∈a::bs,HF b=none/\QM b=none/\∃vs,H b=some (.lst vs):=λb hb=>by
 rcases List.mem_cons.mp hb with e|e
 ·rw[e];exact⟨h.fz,h.h0,_,h.hd⟩
 ·exact h.ins.there b e
def sv.abr(h:sv K HF H QM bs dss)(s:aK HF H):au K H (dss.map PyData.list) (bs.map V.ref):=by
 induction h with
 | nil=>exact au.nil
 | cons h1 _ _ r _ ih=>exact au.cons (by simp?[Rep];exact⟨_,_,rfl,gp.of h1,r.mono s⟩) ih
def Bp.rep(h:Bp K HF H QM a bs dss)(s:aK HF H):Rep K H (.list (dss.map PyData.list)) (.ref a):=by
 simp?[Rep];exact⟨a,_,rfl,gp.of h.hd,h.ins.abr s⟩
def sv.X6(h:sv K HF H QM bs dss)(s:aK HF QO)(e:∀b∈bs,QO b=H b):au K QO (dss.map PyData.list) (bs.map V.ref):=by
 induction h with
 | nil=>exact au.nil
 | cons h1 _ _ r _ ih=>exact au.cons (by simp?[Rep];exact⟨_,_,rfl,gp.of ((e _ zF).trans h1),r.mono s⟩) (ih λb hb=>e b (zD _ hb))
def Bp.abt(h:Bp K HF H QM a bs dss)(s:aK HF QO)(e:∀b∈a::bs,QO b=H b):Rep K QO (.list (dss.map PyData.list)) (.ref a):=by
 simp?[Rep];exact⟨a,_,rfl,gp.of ((e a zF).trans h.hd),h.ins.X6 s λb hb=>e b (zD _ hb)⟩
end
def Ec(K:W.Frag)(HF:Hp)(xs:List (List nG×Addr×Value)):Prop:=∀x∈xs,∃ns:List Int,x.1=ns.map Sum.inl/\gq K HF x.2.1 (ns.map V.int)
def Ec.mono{K:W.Frag}{xs:List (List nG×Addr×Value)}(h:Ec K HF xs)(s:aK HF QN):Ec K QN xs:=λx hx=>let ⟨ns,a,b⟩:=h x hx;⟨ns,a,ay s b⟩
structure eK(K:W.Frag)(QL QM HF H:Hp)(ρ:ao)(σ:L2.St):Prop where
 gr:bR QL QM HF H
 val:∀ (i:Nat) (d:D),ρ[i]?=some (.val d)->∃v,σ[i]?=some (some v)/\Rep K HF d v
 own:∀ (i:Nat) (ds:List D),ρ[i]?=some (.own ds)->∃a vs,σ[i]?=some (some (.ref a))/\H a=some (.lst vs)/\HF a=none/\QM a=none/\au K HF ds vs
 inj:∀ (i j:Nat) (ds es:List D) (a:Addr),ρ[i]?=some (.own ds)->ρ[j]?=some (.own es)->σ[i]?=some (some (.ref a))->σ[j]?=some (some (.ref a))->i=j
 len:ρ.length<=σ.length
 tb:fS K HF
 SG:∀ (i:Nat) (dss:List (List D)),ρ[i]?=some (.nest dss)->∃a bs,σ[i]?=some (some (.ref a))/\Bp K HF H QM a bs dss/\∀ (j:Nat) (ds:List D) (b:Addr),ρ[j]?=some (.own ds)->σ[j]?=some (some (.ref b))->b∉a::bs
 one:∀ (i j:Nat) (dss ess:List (List D)),ρ[i]?=some (.nest dss)->ρ[j]?=some (.nest ess)->i=j
 tab:∀ (i:Nat) (ks:List (List Int)),ρ[i]?=some (.tab ks)->∃a Q2,σ[i]?=some (some (.ref a))/\H a=some (.dT Q2)/\HF a=none/\QM a=none/\Q2.map (·.1)=ks.map (·.map Sum.inl)/\Ec K HF Q2
 RQ:∀ (i j:Nat) (ks ls:List (List Int)),ρ[i]?=some (.tab ks)->ρ[j]?=some (.tab ls)->i=j
section
variable {K:W.Frag}
def eK.all(S:eK K QL QM HF H ρ σ):cH K H (aP ρ) σ:=by
 refine⟨λi d h=>?_,by simpa [aP] using S.len,S.tb.mono S.gr.fh⟩;unfold aP at h;rw[zP] at h;let⟨s,hs,h⟩:=ag h;cases s with
 | QK=>cases h
 | val e=>cases h;let⟨v,a,b⟩:=S.val i _ hs;exact⟨v,a,b.mono S.gr.fh⟩
 | own ds =>
  cases h;let⟨a,vs,e1,e2,e3,_,e4⟩:=S.own i ds hs;exact⟨.ref a,e1,by simp?[Rep];exact⟨a,vs,rfl,gp.of e2,e4.mono S.gr.fh⟩⟩
 | nest dss =>
  cases h;let⟨a,bs,e1,n,_⟩:=S.SG i dss hs;exact⟨.ref a,e1,n.rep S.gr.fh⟩
 | tab ks=>cases h
def eK.Ro(S:eK K QL QM HF H ρ σ):cH K HF (bx ρ) σ:=by
 refine⟨λi d h=>?_,by simpa [bx] using S.len,S.tb⟩;unfold bx at h;rw[zP] at h;let⟨s,hs,h⟩:=ag h;cases s with
 | QK=>cases h
 | val e=>cases h;exact S.val i _ hs
 | own ds=>cases h
 | nest dss=>cases h
 | tab ks=>cases h
def bR.Rr(g:bR HF H QN H')(e3:HF a=none)(e2:H a=some u):QN a=none:=by
 cases e:QN a with
 | none=>rfl
 | some o =>
  rcases g.nw a o e with z|z
  ·rw[e3] at z;cases z
  ·rw[e2] at z;cases z
def eK.grow(S:eK K QL QM HF H ρ σ)(g:bR HF H QN H'):eK K QL QM QN H' ρ σ where
 gr:=S.gr.trans g
 val:=λi d h=>let ⟨v,a,b⟩:=S.val i d h;⟨v,a,b.mono g.ff⟩
 own:=λi ds h=>by
  let⟨a,vs,e1,e2,e3,e5,e4⟩:=S.own i ds h;exact⟨a,vs,e1,g.hh _ _ e2,g.Rr e3 e2,e5,e4.mono g.ff⟩
 inj:=S.inj
 len:=S.len
 tb:=S.tb.mono g.ff
 SG:=λi dss h=>by
  let⟨a,bs,e1,n,di⟩:=S.SG i dss h;exact⟨a,bs,e1,n.imp g.ff λb _ o z1 z2=>⟨g.hh _ _ z1,g.Rr z2 z1⟩,di⟩
 one:=S.one
 tab:=λi ks h=>by
  let⟨a,Q2,e1,e2,e3,e5,e4⟩:=S.tab i ks h;exact⟨a,Q2,e1,g.hh _ _ e2,g.Rr e3 e2,e5,e4.1,e4.2.mono g.ff⟩
 RQ:=S.RQ
def eK.step(S:eK K QL QM HF H ρ σ)(g:aK H H'):eK K QL QM HF H' ρ σ:=S.grow ⟨g,.refl _,S.gr.fh.trans g,λ_ _ e=>.inl e⟩
def oV:∀ {xs ys:List Addr},xs.map V.ref=ys.map V.ref->xs=ys
 | [],[],_=>rfl
 | [],_::_,h=>by simp at h
 | _::_,[],h=>by simp at h
 | x::xs,y::ys,h=>by
  rw[zJ,zJ] at h;injection h with h1 h2
  injection h1 with h1
  rw[h1,oV h2]
def nq{ρ:ao}{fz:List Nat}{i:Nat}{dss:List (List D)}(h:(Dl.hand fz 0 ρ)[i]?=some (Slot.nest dss)):ρ[i]?=some (Slot.nest dss)/\¬ fz.contains i=true:=by
 rw[fT,jE] at h;let⟨s,hs,h⟩:=ag h;cases s<;>split at h<;>cases h<;>exact⟨hs,by assumption⟩
def l6{ρ:ao}{fz:List Nat}{i:Nat}{ds:List D}(h:(Dl.hand fz 0 ρ)[i]?=some (Slot.own ds)):ρ[i]?=some (Slot.own ds)/\¬ fz.contains i=true:=by
 rw[fT,jE] at h;let⟨s,hs,h⟩:=ag h;cases s<;>split at h<;>cases h<;>exact⟨hs,by assumption⟩
def pO{ρ:ao}{fz:List Nat}{i:Nat}{ks:List (List Int)}(h:(Dl.hand fz 0 ρ)[i]?=some (Slot.tab ks)):ρ[i]?=some (Slot.tab ks):=by
 rw[fT] at h;let⟨s,hs,h⟩:=ag h;cases s<;>(split at h<;>cases h)<;>exact hs
def eK.hand(S:eK K QL QM HF H ρ σ)(fz:List Nat):∃QO,aK HF QO/\eK K QL QM QO H (hand fz 0 ρ) σ:=by
 let P:Addr->Prop:=λa=>(∃ (i:Nat) (ds:List D),fz.contains i=true/\ρ[i]?=some (.own ds)/\σ[i]?=some (some (.ref a)))\/∃ (i:Nat) (dss:List (List D)) (a':Addr) (bs:List Addr),fz.contains i=true/\ρ[i]?=some (.nest dss)/\σ[i]?=some (some (.ref a'))/\Bp K HF H QM a' bs dss/\a∈a'::bs;have cl:=Classical.propDecidable;let QO:Hp:=λa=>if P a then H a else HF a
 have hP:∀a,P a->HF a=none/\QM a=none:=λa z=>by
  rcases z with ⟨i,ds,_,h1,h2⟩|⟨i,dss,a',bs,_,_,_,n,hm⟩
  ·let⟨a',vs,e1,e2,e3,e5,e4⟩:=S.own i ds h1;rw[h2] at e1;cases e1;exact⟨e3,e5⟩
  ·exact⟨(n.there a hm).1,(n.there a hm).2.1⟩
 have s1:aK HF QO:=λb o e=>by
  show (if P b then H b else HF b)=some o;by_cases h:P b
  ·rw[(hP b h).1] at e;cases e
  ·rw[yO h];exact e
 have s2:aK QO H:=λb o e=>by
  have e:(if P b then H b else HF b)=some o:=e;by_cases h:P b
  ·rw[yM h] at e;exact e
  ·rw[yO h] at e;exact S.gr.fh b o e
 refine⟨QO,s1,⟨S.gr.hh,S.gr.ff.trans s1,s2,λb o e=>?_⟩,λi d h=>?_,λi ds h=>?_,λi j ds es a h1 h2=>S.inj i j ds es a (l6 h1).1 (l6 h2).1,by rw[zi];exact S.len,S.tb.mono s1,λi dss h=>?_,λi j ks ls h1 h2=>S.one i j ks ls (nq h1).1 (nq h2).1,λi ks h=>?_,λi j ks ls h1 h2=>S.RQ i j ks ls (pO h1) (pO h2)⟩
 ·have e:(if P b then H b else HF b)=some o:=e;by_cases h:P b
  ·exact .inr (hP b h).2
  ·rw[yO h] at e;exact S.gr.nw b o e
 ·rw[fT] at h;let⟨s,hs,h⟩:=ag h;rw[jE] at h;cases s with
  | QK=>split at h<;>cases h
  | tab ks=>split at h<;>cases h
  | val e =>
   have:Slot.val e=Slot.val d:=by split at h<;>exact h
   cases this;let⟨v,a,b⟩:=S.val i _ hs;exact⟨v,a,b.mono s1⟩
  | own ds =>
   split at h
   ·rename_i hc;cases h;let⟨a,vs,e1,e2,e3,e5,e4⟩:=S.own i ds hs;refine⟨.ref a,e1,?_⟩;simp?[Rep];refine⟨a,vs,rfl,.inl (.inl ?_),e4.mono s1⟩;show (if P a then H a else HF a)=_;rw[yM (.inl ⟨i,ds,hc,hs,e1⟩)];exact e2
   ·cases h
  | nest dss =>
   split at h
   ·rename_i hc;cases h;let⟨a,bs,e1,n,di⟩:=S.SG i dss hs;exact⟨.ref a,e1,n.abt s1 λb hb=>yM (.inr ⟨i,dss,a,bs,hc,hs,e1,n,hb⟩)⟩
   ·cases h
 ·let⟨hs,hc⟩:=l6 h;let⟨a,vs,e1,e2,e3,e5,e4⟩:=S.own i ds hs;refine⟨a,vs,e1,e2,?_,e5,e4.mono s1⟩;show (if P a then H a else HF a)=none;rw[yO ?_]
  ·exact e3
  ·rintro (⟨j,es,hj,h1,h2⟩|⟨j,dss,a',bs,hj,h1,h2,n,hm⟩)
   ·have:=S.inj i j ds es a hs h1 e1 h2;subst this;exact hc hj
   ·let⟨a2,bs2,f1,n2,di⟩:=S.SG j dss h1;rw[h2] at f1;cases f1;have hb:bs=bs2:=oV (by have:=n.hd;rw[n2.hd] at this;injection this with this;injection this with this;exact this.symm);subst hb;exact di i ds a hs e1 hm
 ·let⟨hs,hc⟩:=nq h;let⟨a,bs,e1,n,di⟩:=S.SG i dss hs;refine⟨a,bs,e1,n.imp s1 λb hb o z1 z2=>⟨z1,?_⟩,λj ds b h1 h2=>di j ds b (l6 h1).1 h2⟩;show (if P b then H b else HF b)=none;rw[yO ?_]
  ·exact z2
  ·rintro (⟨j,es,hj,h1,h2⟩|⟨j,ess,a',X7,hj,h1,h2,n',hm⟩)
   ·exact di j es b h1 h2 hb
   ·have:=S.one i j dss ess hs h1;subst this;exact hc hj
 ·let⟨a,Q2,e1,e2,e3,e5,e4⟩:=S.tab i ks (pO h);refine⟨a,Q2,e1,e2,?_,e5,e4.1,e4.2.mono s1⟩;show (if P a then H a else HF a)=none;rw[yO ?_]
  ·exact e3
  ·rintro (⟨j,ds,hj,h1,h2⟩|⟨j,dss,a',bs,hj,h1,h2,n,hm⟩)
   ·let⟨a',vs,f1,f2,_⟩:=S.own j ds h1;rw[h2] at f1;cases f1;rw[e2] at f2;cases f2
   ·let⟨_,_,vs,f2⟩:=n.there a hm;rw[e2] at f2;cases f2
def eK.TL(S:eK K QL QM HF H ρ σ)(r:Rep K HF d v):eK K QL QM HF H (ρ.set i (.val d)) (σ.set i (some v)):=by
 have ne:∀ {j:Nat}{s:Slot},(ρ.set i (.val d))[j]?=some s->(∀e,s≠.val e)->i≠j/\ρ[j]?=some s:=λ{j s} h hn=>by
  rw[xJ] at h;by_cases QQ:i=j
  ·rw[yM QQ] at h;split at h
   ·cases h;exact absurd rfl (hn _)
   ·cases h
  ·rw[yO QQ] at h;exact⟨QQ,h⟩
 refine⟨S.gr,λj e h=>?_,λj ds h=>?_,λj k ds es a h1 h2 h3 h4=>?_,by rw[yD,yD];exact S.len,S.tb,λj ks h=>?_,λj k ks ls h1 h2=>S.one j k ks ls (ne h1 λe z=>by cases z).2 (ne h2 λe z=>by cases z).2,λj ks h=>?_,λj k ks ls h1 h2=>S.RQ j k ks ls (ne h1 λe z=>by cases z).2 (ne h2 λe z=>by cases z).2⟩
 ·rw[xJ] at h ⊢;by_cases QQ:i=j
  ·rw[yM QQ] at h ⊢;split at h
   ·rename_i hl;cases h;rw[yM (zQ hl S.len)];exact⟨v,rfl,r⟩
   ·cases h
  ·rw[yO QQ] at h ⊢;exact S.val j e h
 ·let⟨QQ,h⟩:=ne h λe z=>by cases z
  rw[xJ,yO QQ];exact S.own j ds h
 ·let⟨n1,h1⟩:=ne h1 λe z=>by cases z
  let⟨n2,h2⟩:=ne h2 λe z=>by cases z
  rw[xJ,yO n1] at h3;rw[xJ,yO n2] at h4;exact S.inj j k ds es a h1 h2 h3 h4
 ·let⟨QQ,h⟩:=ne h λe z=>by cases z
  rw[xJ,yO QQ];let⟨a,bs,e1,n,di⟩:=S.SG j ks h;refine⟨a,bs,e1,n,λk ds b h1 h2=>?_⟩;let⟨RB,h1⟩:=ne h1 λe z=>by cases z
  rw[xJ,yO RB] at h2;exact di k ds b h1 h2
 ·let⟨QQ,h⟩:=ne h λe z=>by cases z
  rw[xJ,yO QQ];exact S.tab j ks h
def eK.Ul(S:eK K QL QM HF H ρ σ)(ha:H a=none)(s:aK H H')(j:Nat)(dss:List (List D))(a':Addr)(bs:List Addr)(h:ρ[j]?=some (.nest dss))(h1:σ[j]?=some (some (.ref a')))(h2:H' a'=some (.lst (bs.map V.ref))):a∉a'::bs:=λhm=>by
 let⟨a2,bs2,e1,n,_⟩:=S.SG j dss h;rw[h1] at e1;cases e1;have:=s _ _ n.hd;rw[h2] at this;obtain rfl:bs=bs2:=oV (by injection this with this;injection this);let⟨_,_,vs,e⟩:=n.there a hm;rw[ha] at e;cases e
def eK.abw(S:eK K QL QM HF H ρ σ)(hs:aK H H')(h1:H' a=some (.lst vs))(h2:HF a=none)(h3:QM a=none)(r:au K HF ds vs)
  (fr:∀j es,i≠j->ρ[j]?=some (.own es)->σ[j]?≠some (some (.ref a))) (fn:∀ (j:Nat) (dss:List (List D)) (a':Addr) (bs:List Addr),ρ[j]?=some (.nest dss)->σ[j]?=some (some (.ref a'))->H' a'=some (.lst (bs.map V.ref))->a∉a'::bs):eK K QL QM HF H' (ρ.set i (.own ds)) (σ.set i (some (.ref a))):=by
 have S:=S.step hs;have nb:∀ {j:Nat}{ks:List (List Int)},(ρ.set i (.own ds))[j]?=some (.tab ks)->i≠j/\ρ[j]?=some (.tab ks):=λ{j ks} h=>by
  rw[xJ] at h;by_cases QQ:i=j
  ·rw[yM QQ] at h;split at h<;>cases h
  ·rw[yO QQ] at h;exact⟨QQ,h⟩
 have nt:∀ {j:Nat}{ks:List (List D)},(ρ.set i (.own ds))[j]?=some (.nest ks)->i≠j/\ρ[j]?=some (.nest ks):=λ{j ks} h=>by
  rw[xJ] at h;by_cases QQ:i=j
  ·rw[yM QQ] at h;split at h<;>cases h
  ·rw[yO QQ] at h;exact⟨QQ,h⟩
 refine⟨S.gr,λj e h=>?_,λj es h=>?_,λj k xs ys b e1 e2 e3 e4=>?_,by rw[yD,yD];exact S.len,S.tb,λj ks h=>?_,λj k ks ls h1 h2=>S.one j k ks ls (nt h1).2 (nt h2).2,λj ks h=>by rw[xJ,yO (nb h).1];exact S.tab j ks (nb h).2,λj k ks ls h1 h2=>S.RQ j k ks ls (nb h1).2 (nb h2).2⟩
 ·rw[xJ] at h ⊢;by_cases QQ:i=j
  ·rw[yM QQ] at h;split at h<;>cases h
  ·rw[yO QQ] at h ⊢;exact S.val j e h
 ·rw[xJ] at h ⊢;by_cases QQ:i=j
  ·rw[yM QQ] at h ⊢;split at h
   ·rename_i hl;cases h;rw[yM (zQ hl S.len)];exact⟨a,vs,rfl,h1,h2,h3,r⟩
   ·cases h
  ·rw[yO QQ] at h ⊢;exact S.own j es h
 ·rw[xJ] at e1 e2 e3 e4;by_cases QQ:i=j
  ·by_cases RB:i=k
   ·exact QQ.symm.trans RB
   ·rw[yM QQ] at e1 e3;rw[yO RB] at e2 e4;split at e3
    ·cases e3;exact absurd e4 (fr k ys RB e2)
    ·cases e3
  ·by_cases RB:i=k
   ·rw[yO QQ] at e1 e3;rw[yM RB] at e2 e4;split at e4
    ·cases e4;exact absurd e3 (fr j xs QQ e1)
    ·cases e4
   ·rw[yO QQ] at e1 e3;rw[yO RB] at e2 e4;exact S.inj j k xs ys b e1 e2 e3 e4
 ·let⟨QQ,h⟩:=nt h;rw[xJ,yO QQ];let⟨a',bs,e1,n,di⟩:=S.SG j ks h;refine⟨a',bs,e1,n,λk es b h1 h2=>?_⟩;rw[xJ] at h1 h2;by_cases RB:i=k
  ·rw[yM RB] at h2;split at h2
   ·cases h2;exact fn j ks a' bs h e1 n.hd
   ·cases h2
  ·rw[yO RB] at h1 h2;exact di k es b h1 h2
end
inductive Out where
 | nx (ρ:ao)|rt (d:D)
def Cs(K:W.Frag)(QL QM HF:Hp)(E:Ends):Out->Prop
 | .nx ρ'=>∀σ' H' QN,eK K QL QM QN H' ρ' σ'->aK HF QN->E.nx σ' H'
 | .rt d=>∀v H' QN,bR QL QM QN H'->Rep K QN d v->E.rt v H'
def tS(K:W.Frag)(QL QM:Hp)(g:ao->Option Out):TS:=λE σ H=>∃HF ρ o,eK K QL QM HF H ρ σ/\g ρ=some o/\Cs K QL QM HF E o
def DS(X:Cx)(QL QM:Hp)(st:Stmt)(g:ao->Option Out):Prop:=PS X st (tS X.K QL QM g)
def Bt(X:Cx)(QL QM:Hp)(st:List Stmt)(g:ao->Option Out):Prop:=A2 X st (tS X.K QL QM g)
section
variable {X:Cx}{QL QM:Hp}{st:Stmt}{rest:List Stmt}{g g1 g2:ao->Option Out}{e:Expr}{pos:Pos}
def bT(h:PS X st t)(i:∀E σ H,t' E σ H->t E σ H):PS X st t':=λpins s σ H E I q=>h pins s σ H E I (i E σ H q)
def Cn(h:A2 X rest t)(i:∀E σ H,t' E σ H->t E σ H):A2 X rest t':=λpins s σ H E I q=>h pins s σ H E I (i E σ H q)
def cT:ao->Option Out:=λρ=>some (.nx ρ)
def aq(g1 g2:ao->Option Out):ao->Option Out:=λρ=>(g1 ρ).bind fun|.nx ρ'=>g2 ρ'|.rt d=>some (.rt d)
def Cs.mono{K:W.Frag}(s:aK HF QN)(h:Cs K QL QM HF E o):Cs K QL QM QN E o:=by
 cases o with
 | nx ρ'=>exactλσ' H' Q3 S s2=>h σ' H' Q3 S (s.trans s2)
 | rt d=>exact h
def HX:Bt X QL QM [] cT:=Cn HM λE σ H ⟨HF,ρ,o,S,hg,q⟩=>by cases hg;exact q σ H HF S (.refl _)
def Gn(h1:DS X QL QM st g1)(h2:Bt X QL QM rest g2):Bt X QL QM (st::rest) (aq g1 g2):=Cn (Ep h1 h2) λE σ H ⟨HF,ρ,o,S,hg,q⟩=>by
 let⟨o1,h,hg⟩:=bs hg;refine⟨HF,ρ,o1,S,h,?_⟩;cases o1 with
 | nx ρ'=>exactλσ' H' QN S' s=>⟨QN,ρ',o,S',hg,q.mono s⟩
 | rt d=>cases hg;exact q
def Iw(h1:DS X QL QM st g1):Bt X QL QM [st] g1:=HL h1
def Ie:DS X QL QM (.Pass pos) cT:=bT HU λE σ H ⟨HF,ρ,o,S,hg,q⟩=>by cases hg;exact q σ H HF S (.refl _)
def KU{x j pos pos'}:DS X QL QM (.Expr (.Constant (.str x) j pos) pos') cT:=bT MB λE σ H ⟨HF,ρ,o,S,hg,q⟩=>by cases hg;exact q σ H HF S (.refl _)
def dw(t:Env->Option Bool)(g1 g2:ao->Option Out):ao->Option Out:=λρ=>(t (aP ρ)).bind λb=>if b=true then g1 ρ else g2 ρ
def NR(hc:DT X c t)(ha:Bt X QL QM a g1)(hb:Bt X QL QM b g2):DS X QL QM (.If c a b pos) (dw t g1 g2):=bT (KF hc ha hb) λE σ H ⟨HF,ρ,o,S,hg,q⟩=>by
 let⟨b,h,hg⟩:=bs hg;refine⟨H,aP ρ,b,.refl _,S.all,h,λH' QN G=>?_⟩;cases b with
 | true=>exact yi ⟨HF,ρ,o,S.step G.hh,hg,q⟩
 | false=>exact wR ⟨HF,ρ,o,S.step G.hh,hg,q⟩
def xh:∀ (ρ:ao) (k n:Nat),k+ρ.length<=n->bx (hand (List.range n) k ρ)=aP ρ
 | [],k,n,h=>rfl
 | s::r,k,n,h=>by
  have hk:(List.range n).contains k=true:=by simp at h ⊢;lia
  have ih:=xh r (k+1) n (by simp at h;lia);unfold bx aP at ih ⊢;rw[hand,yM hk,zJ,zJ,ih];cases s<;>rfl
def aO(f:Env->Option D):ao->Option Out:=λρ=>(f (aP ρ)).map Out.rt
def Mt(h:DE X e f):DS X QL QM (.Return (some e) pos) (aO f):=bT (Ld h) λE σ H ⟨HF,ρ,o,S,hg,q⟩=>by
 let⟨d,h,rfl⟩:=ag hg;let⟨QO,s1,S1⟩:=S.hand (List.range ρ.length);refine⟨QO,aP ρ,d,S1.gr.fh,?_,h,λv H' QN G r=>q v H' QN (S1.gr.trans G) r⟩;have:=S1.Ro;rw[xh ρ 0 ρ.length (by lia)] at this;exact this
def mM:D->Bool|.none=>true|.bool _=>true|.int _=>true|.str _=>true|_=>false
def wc{K:W.Frag}(h:mM d=true)(r:Rep K HF d v):Rep K QN d v:=by
 cases d<;>cases h<;>(simp?[Rep] at r ⊢;exact r)
mutual
def jf:D->Bool
 | .tuple ds=>pD ds
 | .list _=>false
 | .dict _=>false
 | _=>true
def pD:List D->Bool
 | []=>true
 | d::ds=>jf d&&pD ds
end
mutual
theorem vm{K:W.Frag}{H1 H2:Hp}(ht:∀a xs,gq K H1 a xs->gq K H2 a xs):∀ {d:D}{v:V},jf d=true->Rep K H1 d v->Rep K H2 d v
 | .none,_,_,r=>by simp?[Rep] at r ⊢;exact r
 | .bool _,_,_,r=>by simp?[Rep] at r ⊢;exact r
 | .int _,_,_,r=>by simp?[Rep] at r ⊢;exact r
 | .str _,_,_,r=>by simp?[Rep] at r ⊢;exact r
 | .tuple ds,v,h,r=>by
  simp?[jf] at h;simp?[Rep] at r ⊢;let⟨a,vs,e,q,rr⟩:=r;exact⟨a,vs,e,ht _ _ q,sN ht h rr⟩
 | .list _,_,h,_=>by simp[jf] at h
 | .dict _,_,h,_=>by simp[jf] at h
theorem sN{K:W.Frag}{H1 H2:Hp}(ht:∀a xs,gq K H1 a xs->gq K H2 a xs):∀ {ds:List D}{vs:List V},pD ds=true->au K H1 ds vs->au K H2 ds vs
 | [],_,_,r=>by simp?[au] at r ⊢;exact r
 | d::ds,vs,h,r=>by
  simp?[pD,zG] at h;simp?[au] at r ⊢;let⟨v,r',e,a,b⟩:=r;exact⟨v,r',e,vm ht h.1 a,sN ht h.2 b⟩
end
def eK.back{K:W.Frag}(S:eK K QL QM HF H ρ σ)(S1:eK K QL QM QO H ρ1 σ)(s1:aK HF QO)(G:bR QO H QN H'):∃Q3,aK HF Q3/\eK K QL QM Q3 H' ρ σ/\(∀d v,jf d=true->Rep K QN d v->Rep K Q3 d v)/\∀b o,Q3 b=some o->QN b=some o:=by
 have cl:=Classical.propDecidable;let O:Addr->Prop:=λa=>(∃ (i:Nat) (ds:List D),ρ[i]?=some (Slot.own ds)/\σ[i]?=some (some (V.ref a)))\/(∃ (i:Nat) (dss:List (List D)) (a':Addr) (bs:List Addr),ρ[i]?=some (Slot.nest dss)/\σ[i]?=some (some (V.ref a'))/\Bp K HF H QM a' bs dss/\a∈a'::bs)\/∃ (i:Nat) (ks:List (List Int)),ρ[i]?=some (Slot.tab ks)/\σ[i]?=some (some (V.ref a));let Q3:Hp:=λa=>if O a then none else QN a
 have hO:∀a,O a->HF a=none/\((∃vs,H a=some (.lst vs))\/∃Q2,H a=some (.dT Q2)):=λa z=>by
  rcases z with ⟨i,ds,h1,h2⟩|⟨i,dss,a',bs,_,_,n,hm⟩|⟨i,ks,h1,h2⟩
  ·let⟨a',vs,e1,e2,e3,_,_⟩:=S.own i ds h1;rw[h2] at e1;cases e1;exact⟨e3,.inl ⟨vs,e2⟩⟩
  ·exact⟨(n.there a hm).1,.inl (n.there a hm).2.2⟩
  ·let⟨a',Q2,e1,e2,e3,_,_⟩:=S.tab i ks h1;rw[h2] at e1;cases e1;exact⟨e3,.inr ⟨Q2,e2⟩⟩
 have h2:∀a,¬ O a->Q3 a=QN a:=λa n=>yO n;have h3:∀a,O a->Q3 a=none:=λa n=>yM n;have sa:aK HF Q3:=λb o e=>by
  have nb:¬ O b:=λz=>by rw[(hO b z).1] at e;cases e
  rw[h2 b nb];exact G.ff b o (s1 b o e)
 have sb:∀b o,Q3 b=some o->QN b=some o:=λb o e=>by
  by_cases z:O b
  ·rw[h3 b z] at e;cases e
  ·rwa [h2 b z] at e
 have g2:=S1.gr.trans G;refine⟨Q3,sa,⟨⟨g2.hh,S.gr.ff.trans sa,λb o e=>G.fh b o (sb b o e),λb o e=>g2.nw b o (sb b o e)⟩,λi d h=>?_,λi ds h=>?_,S.inj,S.len,S.tb.mono sa,λi dss h=>?_,S.one,λi ks h=>?_,S.RQ⟩,λd v hn r=>vm (λa xs q=>?_) hn r,sb⟩
 ·let⟨v,e1,r⟩:=S.val i d h;exact⟨v,e1,r.mono sa⟩
 ·let⟨a,vs,e1,e2,e3,e5,e4⟩:=S.own i ds h;exact⟨a,vs,e1,G.hh _ _ e2,h3 a (.inl ⟨i,ds,h,e1⟩),e5,e4.mono sa⟩
 ·let⟨a,bs,e1,n,di⟩:=S.SG i dss h;exact⟨a,bs,e1,n.imp sa λb hb o z1 z2=>⟨G.hh _ _ z1,h3 b (.inr (.inl ⟨i,dss,a,bs,h,e1,n,hb⟩))⟩,di⟩
 ·let⟨a,Q2,e1,e2,e3,e5,e4⟩:=S.tab i ks h;exact⟨a,Q2,e1,G.hh _ _ e2,h3 a (.inr (.inr ⟨i,ks,h,e1⟩)),e5,e4.1,e4.2.mono sa⟩
 ·have nt:∀o,QN a=some o->(∀vs,o≠.lst vs)->(∀Q2,o≠.dT Q2)->Q3 a=some o:=λo e Q7 hnt=>by
   by_cases z:O a
   ·rcases (hO a z).2 with ⟨vs,e2⟩|⟨vs,e2⟩
    ·have:=G.hh _ _ e2;rw[G.fh a o e] at this;cases this;exact absurd rfl (Q7 vs)
    ·have:=G.hh _ _ e2;rw[G.fh a o e] at this;cases this;exact absurd rfl (hnt vs)
   ·rw[h2 a z];exact e
  rcases q with (q|⟨o,q⟩)|q
  ·exact .inl (.inl (nt _ q (λvs z=>by cases z) λvs z=>by cases z))
  ·exact .inl (.inr ⟨o,nt _ q (λvs z=>by cases z) λvs z=>by cases z⟩)
  ·exact .inr q
def aE(i:Nat)(fz:List Nat)(f:Env->Option D):ao->Option Out:=λρ=>(f (aP ρ)).bind λd=>if mM d=true then some (.nx (ρ.set i (.val d))) else (f (bx (hand fz 0 ρ))).map λd'=>.nx ((if jf d'=true then ρ else hand fz 0 ρ).set i (.val d'))
def M9:∀E σ H,tS X.K QL QM (aE i fz f) E σ H->EZ (tD X.K f) (vx i) E σ H:=λE σ H ⟨HF,ρ,o,S,hg,q⟩=>by
 let⟨d,h,hg⟩:=bs hg;split at hg
 ·rename_i hs;cases hg;exact⟨H,aP ρ,d,.refl _,S.all,h,λv H' QN G r=>q _ H' HF ((S.step G.hh).TL (wc hs r)) (.refl _)⟩
 ·let⟨d',h',rfl⟩:=ag hg;let⟨QO,s1,S1⟩:=S.hand fz;refine⟨QO,_,d',S1.gr.fh,S1.Ro,h',λv H' QN G r=>?_⟩;by_cases hn:jf d'=true
  ·rw[yM hn] at q;let⟨Q3,s2,S2,hb,_⟩:=S.back S1 s1 G;exact q _ H' Q3 (S2.TL (hb d' v hn r)) s2
  ·rw[yO hn] at q;exact q _ H' QN ((S1.grow G).TL r) (s1.trans G.ff)
def K8(i:Nat)(fz:List Nat)(hN:X.N.Nodup)(hi:X.N[i]?=some x)(hx:Loc X.env.scope x)(he:DE X e f)(hs:swapsWith e (some (.Name x pos')) pos.line X.env=pure false:=by rfl)
  (hf:X.fn x=true\/X.env.scope.names.lookup x=some .local:=by first|exact .inl rfl|exact .inr rfl|assumption):DS X QL QM (.Assign [.Name x pos'] e pos) (aE i fz f):=bT (uZ hN hi hx he hs hf) M9
def bo(i:Nat)(fz:List Nat)(f:Env->Option (List D)):ao->Option Out:=λρ=>(f (bx (hand fz 0 ρ))).map λds=>.nx ((hand fz 0 ρ).set i (.own ds))
def GH:∀E σ H,tS X.K QL QM (bo i fz f) E σ H->EZ (tF X.K f) (vx i) E σ H:=λE σ H ⟨HF,ρ,o,S,hg,q⟩=>by
 let⟨ds,h,rfl⟩:=ag hg;let⟨QO,s1,S1⟩:=S.hand fz;refine⟨QO,_,ds,S1.gr.fh,S1.Ro,h,λa vs H' QN G ha hf h' r=>q _ H' QN ?_ (s1.trans G.ff)⟩;have S2:=S1.grow G;refine S2.abw (.refl _) h' hf (S1.gr.hh.free ha) r (λj es _ hj z=>?_) (S1.Ul ha G.hh);let⟨b,us,e1,e2,_⟩:=S1.own j es hj;rw[e1] at z;cases z;rw[ha] at e2;cases e2
def u5(i:Nat)(fz:List Nat)(hN:X.N.Nodup)(hi:X.N[i]?=some x)(hx:Loc X.env.scope x)(he:DF X e f)(hs:swapsWith e (some (.Name x pos')) pos.line X.env=pure false:=by rfl)
  (hf:X.fn x=true\/X.env.scope.names.lookup x=some .local:=by first|exact .inl rfl|exact .inr rfl|assumption):DS X QL QM (.Assign [.Name x pos'] e pos) (bo i fz f):=bT (uZ hN hi hx he hs hf) GH
def Hv(i:Nat)(fz:List Nat){cs:List Nat}
  (hc:X.calm=true) (S:iC X scope N (js t cs)) (hi:DI X tg iter fi)
  (hY:∀fp s H,DG (aR X scope N fp s H) tg tgt/\NP (aR X scope N fp s H) ifs tt/\DE (aR X scope N fp s H) elt te)
  (hN:X.N.Nodup) (hiy:X.N[i]?=some y) (hy:X.env.scope.names.lookup y=some .local)
  (hsw:swapsWith (.ListComp elt [⟨tg,iter,ifs,0⟩] scope pos) (some (.Name y py)) Q9.line X.env=pure true)
  (hs:∀x,foldedSetIterable iter X.env x=pure x:=by intro _;rfl):DS X QL QM (.Assign [.Name y py] (.ListComp elt [⟨tg,iter,ifs,0⟩] scope pos) Q9) (bo i fz (aw t cs fi tgt tt te)) :=
 bT (HV (g:=OF X.K tgt) (tt:=K1 X.K tt) (te:=tD X.K te) hc S hi hY hN hiy hy hsw hs) λE σ H q=>by
  have:=GH E σ H q;exact Gp σ H _ this
def Qo(K:W.Frag)(QL QM:Hp)(f:ao->D->Option ao):TG:=λv σ H Q=>∃HF ρ d ρ',eK K QL QM HF H ρ σ/\Rep K HF d v/\f ρ d=some ρ'/\∀σ',eK K QL QM HF H ρ' σ'->Q σ' H
def Oz(X:Cx)(QL QM:Hp)(tg:Expr)(f:ao->D->Option ao):Prop:=PG X tg (Qo X.K QL QM f)
def td(i:Nat):ao->D->Option ao:=λρ d=>some (ρ.set i (.val d))
def Ew(i:Nat)(hN:X.N.Nodup)(hi:X.N[i]?=some x)(hx:Loc X.env.scope x)(hf:X.fn x=true\/X.env.scope.names.lookup x=some .local:=by first|exact .inl rfl|exact .inr rfl|assumption):Oz X QL QM (.Name x pos) (td i) :=
 pJ (fM hN hi hx hf) λv σ H Q ⟨HF,ρ,d,ρ',S,r,hf,q⟩=>by cases hf;exact q _ (S.TL r)
def eL(i j:Nat):ao->D->Option ao:=λρ d=>match d with
 | .tuple [x,y]=>some ((ρ.set i (.val x)).set j (.val y))
 | _=>none
def Jj(i j:Nat){px py:Pos}{k:Nat}(hc:X.calm=true)(hN:X.N.Nodup)(hi:X.N[i]?=some x)(hx:Loc X.env.scope x)(hj:X.N[j]?=some y)(hy:Loc X.env.scope y)
  (hf:X.fn x=true\/X.env.scope.names.lookup x=some .local:=by first|exact .inl rfl|exact .inr rfl|assumption) (T8:X.fn y=true\/X.env.scope.names.lookup y=some .local:=by first|exact .inl rfl|exact .inr rfl|assumption) :
  Oz X QL QM (.Tuple [.Name x px,.Name y py] k pos) (eL i j) :=
 pJ (AV hc (gm (fM hN hi hx hf) (gm (fM hN hj hy T8) uN))) λv σ H Q ⟨HF,ρ,d,ρ',S,r,hf,q⟩=>by
  unfold eL at hf;split at hf
  ·cases hf;simp?[Rep] at r;let⟨a,vs,rfl,hs,rr⟩:=r;let⟨v1,r1,rfl,a1,b1⟩:=rr.cons_inv;let⟨v2,r2,rfl,a2,b2⟩:=b1.cons_inv;rw[b2.nil_inv] at hs;exact⟨a,_,rfl,ay S.gr.fh hs,rfl,v1,_,rfl,v2,_,rfl,rfl,q _ ((S.TL a1).TL a2)⟩
  ·cases hf
def dO(tgt:ao->D->Option ao)(gb:ao->Option Out):List D->ao->Option Out
 | [],ρ=>some (.nx ρ)
 | d::ds,ρ=>(tgt ρ d).bind λρ1=>(gb ρ1).bind fun|.nx Si=>dO tgt gb ds Si|.rt v=>some (.rt v)
def dB(fz:List Nat)(fi:Env->Option (List D))(tgt:ao->D->Option ao)(gb:ao->Option Out):ao->Option Out:=λρ=>(fi (bx (hand fz 0 ρ))).bind λds=>dO tgt gb ds (hand fz 0 ρ)
def Lv(fz:List Nat)(hp:PassesOwn (model X.prog X.w) X.A X.env X.xe)(hc:X.calm=true)(hi:DI X tg iter fi)(hg:Oz X QL QM tg tgt)(hb:Bt X QL QM body gb)
  (hs:∀x,foldedSetIterable iter X.env x=pure x:=by intro _;rfl):DS X QL QM (.For tg iter body [] pos) (dB fz fi tgt gb):=bT (LS hp hc hi hg hb hs) λE σ H ⟨HF,ρ,o,S,hg,q⟩=>by
 let⟨ds,h,hg⟩:=bs hg;let⟨QO,s1,S1⟩:=S.hand fz;refine⟨QO,_,ds,S1.gr.fh,S1.Ro,h,λJ H2 Q3 G it=>?_⟩;refine⟨λi m σ' H'=>m+i=ds.length/\∃QN ρ',eK X.K QL QM QN H' ρ' σ'/\aK Q3 QN/\dO tgt gb (ds.drop i) ρ'=some o,⟨ds.length,rfl,Q3,_,S1.grow G,.refl _,hg⟩,?_⟩;rintro i m σ' H' ⟨hm,QN,ρ',S',s',hf⟩;by_cases hi:i < ds.length
 ·refine .inr ?_;have hd:ds.drop i=ds[i]::ds.drop (i+1):=kZ hi;have he:ds[i]?=some ds[i]:=List.getElem?_eq_some_iff.mpr ⟨hi,rfl⟩;generalize ds[i]=d at hd he;rw[hd] at hf;unfold dO at hf;let⟨ρ1,h1,hf⟩:=bs hf;let⟨o1,h2,hf⟩:=bs hf;let⟨go,Vo⟩:=it.go i d H' QN he s' S'.gr.fh;refine⟨go,λS8 H3=>∃Ry U5,eK X.K QL QM Ry H3 U5 S8/\aK Q3 Ry/\dO tgt gb (ds.drop (i+1)) U5=some o,λS8 H3 ⟨Ry,U5,a1,a2,a3⟩=>⟨m - 1,by lia,by lia,Ry,U5,a1,a2,a3⟩,λx H3 y=>?_⟩;let⟨Ry,G3,rx⟩:=Vo x H3 y;refine⟨Ry,ρ',d,ρ1,S'.grow G3,rx,h1,λS8 S2=>⟨Ry,ρ1,o1,S2,h2,?_⟩⟩;cases o1 with
  | nx Si=>exactλσ4 H4 R4 S4 s4=>⟨R4,Si,S4,(s'.trans G3.ff).trans s4,hf⟩
  | rt d=>cases hf;exact q
 ·have R5:i=ds.length:=by lia
  subst R5;rw[List.drop_length] at hf;cases hf;exact .inl ⟨it.stop H' QN s' S'.gr.fh,q σ' H' QN S' ((s1.trans G.ff).trans s')⟩
end
def O7(X:Cx)(sc:Scope):Prop:=∀x k,sc.names.lookup x=some k->X.env.kindOf x=some k\/(k=.free/\X.env.kindOf x=some .cell)
structure Bk(X:Cx)(N:List Str)(sc:Scope)(k:Nat):Prop where
 n:X.N=N
 nd:N.Nodup
 tb:O7 X sc
 calm:X.calm=true
 fn:∀x,sc.names.lookup x=some .cell->X.fn x=true
 room:dM k X.A
 xe:X.xe=λ_ _=>False
 kd:X.env.scope.kind=.function
def cU:List Str:=["len","isinstance","int","bool","tuple","list","range","all","any","set","sorted","enumerate","zip","sum","min","max","reversed","abs","dict","str","type","iter","next"]
def Bn(X:Cx):Prop:=∀x∈cU,X.mg x=none
def GT(sc:Scope)(x:Str):Bool:=decide (sc.names.lookup x=some .globalImplicit)
def ox(N:List Str)(sc:Scope)(i:Nat)(x:Str):Bool:=decide (N[i]?=some x)&&(decide (sc.names.lookup x=some .local)||decide (sc.names.lookup x=some .cell)||decide (sc.names.lookup x=some .free))&&!(x == ("__debug__":Str))&&!(x == ("__classdict__":Str))
def tO(N:List Str)(sc:Scope)(i:Nat)(x:Str):Bool:=decide (N[i]?=some x)&&(decide (sc.names.lookup x=some .local)||decide (sc.names.lookup x=some .cell))
def Bk.gl(C:Bk X N sc k)(h:GT sc x=true):Gl X x:=by
 rcases C.tb x _ (yR h) with q|⟨q,_⟩
 ·exact q
 ·cases q
def Bk.U6(C:Bk X N sc k)(h:ox N sc i x=true):X.N[i]?=some x/\BB X.env.scope x/\(x == ("__debug__":Str))=false/\(x == ("__classdict__":Str))=false:=by
 unfold ox at h;simp?[zG,jC,zK,yQ] at h;let⟨⟨⟨h1,h2⟩,h3⟩,h4⟩:=h;refine⟨by rw[C.n];exact h1,?_,h3,h4⟩;rcases h2 with (h2|h2)|h2
 ·rcases C.tb x _ h2 with q|⟨q,_⟩
  ·exact .inl q
  ·cases q
 ·rcases C.tb x _ h2 with q|⟨q,_⟩
  ·exact .inr (.inl q)
  ·cases q
 ·rcases C.tb x _ h2 with q|⟨_,q⟩
  ·exact .inr (.inr q)
  ·exact .inr (.inl q)
def Bk.loc(C:Bk X N sc k)(h:tO N sc i x=true):X.N.Nodup/\X.N[i]?=some x/\Loc X.env.scope x/\(X.fn x=true\/X.env.scope.names.lookup x=some .local):=by
 unfold tO at h;simp?[zG,jC,zK] at h;let⟨h1,h2⟩:=h;refine⟨by rw[C.n];exact C.nd,by rw[C.n];exact h1,?_⟩;rcases h2 with h2|h2
 ·rcases C.tb x _ h2 with q|⟨q,_⟩
  ·exact⟨.inl q,.inr q⟩
  ·cases q
 ·rcases C.tb x _ h2 with q|⟨q,_⟩
  ·exact⟨.inr q,.inl (C.fn x h2)⟩
  ·cases q
def Bk.blt(C:Bk X N sc k)(B:Bn X)(h:GT sc x=true)(hm:x∈cU)(hv:bootBuiltins x=some v):oY X x v:=⟨C.gl h,B x hm,hv⟩
def Bk.v(C:Bk X N sc k)(i:Nat)(h:ox N sc i x=true):DE X (.Name x pos) (ae i):=let ⟨a,b,c,d⟩:=C.U6 h;MT i a b c d
def Bk.pass(C:Bk X N sc k):PassesOwn (model X.prog X.w) X.A X.env X.xe:=by rw[C.xe];exact PassesOwn.never
def nE(sc scope:Scope)(N N':List Str)(t:Nat)(cs:List Nat):Bool :=
 decide (scope.kind=.function)&&scope.names.all (λp=>(!decide (p.2=NameKind.free)||decide (sc.names.lookup p.1=some .cell)||decide (sc.names.lookup p.1=some .free))&&(!decide (p.2=NameKind.local)||decide (scope.names.lookup p.1=some .local)))
  &&scope.names.all (λp=>!decide (p.2=NameKind.cell)||!scope.names.any λq=>decide (q.1=p.1)&&decide (q.2=NameKind.free))
  &&decide (N'.length=t+cs.length)&&decide (N'.drop t=cs.filterMap λj=>N[j]?)&&cs.all (λj=>decide (j < N.length))&&(N'.drop t).all (λx=>decide (scope.names.lookup x=some .free))&&decide N'.Nodup
def filterMap_get(N:List α):∀ (cs:List Nat),(∀j∈cs,j < N.length)->∀ (i:Nat),(cs.filterMap λj=>N[j]?)[i]?=(cs[i]?).bind λj=>N[j]?
 | [],_,i=>by simp
 | c::cs,h,i=>by
  have hc:=h c zF;rw[jH,zL hc];cases i with
  | zero=>simp[hc]
  | succ i =>
   simp?[yZ];exact filterMap_get N cs (λj hj=>h j (zD _ hj)) i
def Bk.comp(C:Bk X N sc k){cs:List Nat}(h:nE sc scope N N' t cs=true):iC X scope N' (js t cs)/\∀fp s H,Bk (aR X scope N' fp s H) N' scope k:=by
 unfold nE at h;simp?[zG,zK,xH,jC,yQ,xC] at h;obtain⟨⟨⟨⟨⟨⟨⟨h1,h2⟩,h3⟩,h4⟩,h5⟩,h6⟩,h7⟩,h8⟩:=h;refine⟨⟨h1,λx hx hk=>?_,λ{x} a b=>?_,λx hx hk=>?_,λσ i x v e1 e2=>?_,λσ=>?_⟩,λfp s H=>⟨rfl,h8,λx k hx=>nz hx,C.calm,λx hx=>yB hx,C.room,rfl,h1⟩⟩
 ·rcases (h2 x hx).1 with (q|q)|q
  ·exact absurd hk q
  ·rcases C.tb _ _ q with z|⟨z,_⟩
   ·exact .inl z
   ·cases z
  ·rcases C.tb _ _ q with z|⟨_,z⟩
   ·exact .inr z
   ·exact .inl z
 ·rcases h3 _ a with q|q
  ·exact q rfl
  ·have:(scope.names.any λq=>decide (q.1=x)&&decide (q.2=NameKind.free))=true:=List.any_eq_true.mpr ⟨_,b,by simp⟩;rw[this] at q;cases q
 ·rcases (h2 x hx).2 with q|q
  ·exact absurd hk q
  ·exact q
 ·unfold js at e2;by_cases hi:i < t
  ·rw[yT (by simpa using hi),yY,yM hi] at e2;cases e2
  ·rw[yU (by simpa using hi),zP,xN] at e2;let⟨j,hj,e2⟩:=ag e2;have e3:(N'.drop t)[i - t]?=some x:=by rw[List.getElem?_drop];rw[show t+(i - t)=i by lia];exact e1
   refine⟨h7 x (qC e3),j,?_,?_⟩
   ·rw[h5,filterMap_get N cs h6,hj] at e3;rw[C.n];exact e3
   ·cases e:σ[j]? with
    | none=>rw[e] at e2;cases e2
    | some o=>rw[e] at e2;have e2:o=some v:=e2;rw[e2]
 ·unfold js;rw[zO,xN,zE,h4]
def bp(g:ao->Option Out)(n:Nat)(args:List D):Option D:=(g (args.map Slot.val++List.replicate (n - args.length) .QK)).map fun|.rt d=>d|.nx _=>.none
def Fn{ds:List D}{n i:Nat}{ks:List (List Int)}:¬ (ds.map Slot.val++List.replicate n .QK)[i]?=some (.tab ks):=λh=>by
 rcases List.mem_append.mp (qC h) with z|z
 ·let⟨d,_,e⟩:=List.mem_map.mp z;cases e
 ·cases List.eq_of_mem_replicate z
def BU{ds:List D}{n i:Nat}{ks:List (List D)}:¬ (ds.map Slot.val++List.replicate n .QK)[i]?=some (.nest ks):=λh=>by
 rcases List.mem_append.mp (qC h) with z|z
 ·let⟨d,_,e⟩:=List.mem_map.mp z;cases e
 ·cases List.eq_of_mem_replicate z
def JW{K:W.Frag}{st:Stmt}(F:Ih K x qual st f fd)(S:fI N ps (aF st))
  (body:∀X:Cx,X.prog=P->X.w=w->X.K=K->X.mg=mg->X.base=base->Bk X N (aF st) k->X.env.code=fd.code->X.env.qual=qual++".<locals>."->∀QL QM,Bt X QL QM (b8 st) g):oA P w K mg base MY (k+1) f fd ps (Oj K ps.length (bp g N.length)):=by
 let⟨oc,od,kV,doc,pm,an,Ru,ct,S9,rfl,lk,Rp⟩:=F.ex;refine M7 lk Rp S (λvs H Q E ⟨HF,ds,d,h1,_,h2,h3,_⟩=>by rw[h2.length,h3]) λA outer s H vs Q E hr ⟨HF,ds,d,sm,tb,rr,hl,hd,q⟩=>?_;refine⟨_,(body (Do MY P w K mg base N qual (aF st) f Ru A outer s H E).nox rfl rfl rfl rfl rfl ⟨rfl,S.nd,λy kd hy=>.inl hy,rfl,λ_ _=>rfl,hr,rfl,S.kind⟩ rfl rfl HF H).nox,?_⟩;unfold bp at hd;let⟨o,ho,hd⟩:=ag hd;have RF:ps.length<=N.length:=by have:=jD List.length S.pre;rw[jW] at this;lia
 refine⟨HF,_,o,⟨.refl sm,λi e h=>?_,λi es h=>?_,λi j es fs a h=>?_,?_,tb,λi ks h=>absurd h BU,λi j ks ls h=>absurd h BU,λi ks h=>absurd h Fn,λi j ks ls h=>absurd h Fn⟩,ho,?_⟩
 ·have hi:i < ds.length:=by
   by_cases hi:i < ds.length
   ·exact hi
   ·rw[yU (by simpa using hi),yY] at h;split at h<;>cases h
  rw[yT (by simpa using hi),zP] at h;let⟨d',UZ,h⟩:=ag h;cases h;let⟨v,hv,rv⟩:=rr.getD UZ;refine⟨v,?_,rv⟩;unfold L2.start;rw[yT (by simpa [rr.length] using hi),zP,hv];rfl
 ·exfalso;by_cases hi:i < ds.length
  ·rw[yT (by simpa using hi),zP] at h;let⟨d',UZ,h⟩:=ag h;cases h
  ·rw[yU (by simpa using hi),yY] at h;split at h<;>cases h
 ·exfalso;by_cases hi:i < ds.length
  ·rw[yT (by simpa using hi),zP] at h;let⟨d',UZ,h⟩:=ag h;cases h
  ·rw[yU (by simpa using hi),yY] at h;split at h<;>cases h
 ·unfold L2.start;rw[zO,zO,zE,zE,xN,xN,rr.length];exact yN _
 ·cases o with
  | rt d'=>cases hd;exactλv H' QN G r=>q v H' QN G r
  | nx ρ'=>cases hd;exactλσ' H' QN S' _=>q .QK H' QN S'.gr (by simp[Rep])
def P5{K:W.Frag}{st:Stmt}(F:Ih K x qual st f fd)(S:fI N ps (aF st))(hb:Binds K fd ps [])(hm:mg x=some (.ref f))
  (body:∀X:Cx,X.prog=P->X.w=w->X.K=K->X.mg=mg->X.base=base->Bk X N (aF st) k->X.env.code=fd.code->X.env.qual=qual++".<locals>."->∀QL QM,Bt X QL QM (b8 st) g):eU P w K mg base (k+1) x ps.length (bp g N.length):=⟨f,fd,ps,JW F S body,hm,F.kp,hb⟩
def nX(fz:List Nat)(f:Env->Option D)(ρ:ao):Option (D×ao):=(f (aP ρ)).bind λd=>if mM d=true then some (d,ρ) else (f (bx (hand fz 0 ρ))).map λd'=>(d',hand fz 0 ρ)
def nC{K:W.Frag}(S:eK K QL QM HF H ρ σ)(h:nX fz f ρ=some (d,ρ'))
  (q:∀v H' QN,aK HF QN->eK K QL QM QN H' ρ' σ->aK H H'->Rep K QN d v->Q v H'):tD K f σ H Q:=by
 let⟨d1,h1,h⟩:=bs h;split at h
 ·rename_i hs;cases h;exact⟨H,aP ρ,d,.refl _,S.all,h1,λv H' QN G r=>q v H' HF (.refl _) (S.step G.hh) G.hh (wc hs r)⟩
 ·let⟨d2,h2,h⟩:=ag h;cases h;let⟨QO,s1,S1⟩:=S.hand fz;exact⟨QO,_,d,S1.gr.fh,S1.Ro,h2,λv H' QN G r=>q v H' QN (s1.trans G.ff) (S1.grow G) G.hh r⟩
def oJ(i:Nat)(m:List D->Option (List D))(ρ:ao):Option Out:=match ρ[i]? with
 | some (.own ds)=>(m ds).map λes=>.nx (ρ.set i (.own es))
 | _=>none
def kg(h:oJ i m ρ=some o):∃ds es,ρ[i]?=some (.own ds)/\m ds=some es/\o=.nx (ρ.set i (.own es)):=by
 unfold oJ at h;split at h
 ·rename_i ds hd;let⟨es,h1,h2⟩:=ag h;exact⟨ds,es,hd,h1,h2.symm⟩
 ·cases h
def eK.mut{K:W.Frag}(S:eK K QL QM HF H ρ σ)(h:ρ[i]?=some (.own ds))(ha:σ[i]?=some (some (.ref a)))(hH:H a=some (.lst vs))(r:au K HF es us) :
  eK K QL QM HF (upd H a (.lst us)) (ρ.set i (.own es)) σ:=by
 let⟨a',Vw,e1,e2,e3,e5,e4⟩:=S.own i ds h;rw[ha] at e1;cases e1;have hl:i < ρ.length:=(List.getElem?_eq_some_iff.mp h).1;have gr:bR QL QM HF (upd H a (.lst us)):=⟨λb o e=>by rw[av (aA e e5)];exact S.gr.hh b o e,S.gr.ff,λb o e=>by rw[av (aA e e3)];exact S.gr.fh b o e,S.gr.nw⟩
 have nb:∀ {j:Nat}{ks:List (List Int)},(ρ.set i (.own es))[j]?=some (.tab ks)->ρ[j]?=some (.tab ks):=λ{j ks} h=>by
  rw[xJ] at h;by_cases QQ:i=j
  ·rw[yM QQ] at h;split at h<;>cases h
  ·rw[yO QQ] at h;exact h
 have nt:∀ {j:Nat}{ks:List (List D)},(ρ.set i (.own es))[j]?=some (.nest ks)->ρ[j]?=some (.nest ks):=λ{j ks} h=>by
  rw[xJ] at h;by_cases QQ:i=j
  ·rw[yM QQ] at h;split at h<;>cases h
  ·rw[yO QQ] at h;exact h
 refine⟨gr,λj d hj=>?_,λj xs hj=>?_,λj k xs ys b f1 f2 f3 f4=>?_,by rw[yD];exact S.len,S.tb,λj ks hj=>?_,λj k ks ls h1 h2=>S.one j k ks ls (nt h1) (nt h2),λj ks hj=>?_,λj k ks ls h1 h2=>S.RQ j k ks ls (nb h1) (nb h2)⟩
 ·rw[xJ] at hj;by_cases QQ:i=j
  ·rw[yM QQ] at hj;split at hj<;>cases hj
  ·rw[yO QQ] at hj;exact S.val j d hj
 ·rw[xJ] at hj;by_cases QQ:i=j
  ·subst QQ;rw[yM rfl,yM hl] at hj;cases hj;exact⟨a,us,ha,aC,e3,e5,r⟩
  ·rw[yO QQ] at hj;let⟨b,ws,f1,f2,f3,f5,f4⟩:=S.own j xs hj;refine⟨b,ws,f1,?_,f3,f5,f4⟩;rw[av]
   ·exact f2
   ·rintro rfl;exact QQ (S.inj i j ds xs b h hj ha f1)
 ·have old:∀ {j:Nat}{xs:List D},(ρ.set i (.own es))[j]?=some (.own xs)->∃ys,ρ[j]?=some (.own ys):=λ{j xs} hj=>by
   rw[xJ] at hj;by_cases QQ:i=j
   ·subst QQ;exact⟨ds,h⟩
   ·rw[yO QQ] at hj;exact⟨xs,hj⟩
  let⟨xs',g1⟩:=old f1;let⟨ys',g2⟩:=old f2;exact S.inj j k xs' ys' b g1 g2 f3 f4
 ·let⟨a',bs,g1,n,di⟩:=S.SG j ks (nt hj);refine⟨a',bs,g1,n.imp (.refl _) λb hb o z1 z2=>⟨?_,z2⟩,λk xs b h1 h2=>?_⟩
  ·rw[av (show b≠a fromλz=>di i ds a h ha (z ▸ hb))];exact z1
  ·rw[xJ] at h1;by_cases RB:i=k
   ·subst RB;exact di i ds b h h2
   ·rw[yO RB] at h1;exact di k xs b h1 h2
 ·let⟨b,Q2,g1,g2,g3,g5,g4⟩:=S.tab j ks (nb hj);refine⟨b,Q2,g1,?_,g3,g5,g4⟩;rw[av λz=>by rw[z,e2] at g2;cases g2];exact g2
def l7(i:Nat)(fz:List Nat)(f:Env->Option D):ao->Option Out:=λρ=>(nX fz f ρ).bind λp=>oJ i (λds=>if ds.length < sizeLine then some (ds++[p.1]) else none) p.2
def Dt(i:Nat)(fz:List Nat)(hN:X.N[i]?=some x)(hv:BB X.env.scope x)(h:DE X e f)(hd:(x == ("__debug__":Str))=false:=by decide)(Rp:(x == ("__classdict__":Str))=false:=by decide)
  (Ri:((backTo QS (starEach [e] X.env)).all (λx=>!x.1)&&(backToKw QS (keywordEach [] X.env)).all (λx=>x.1.isSome)&&decide ([e].length+([]:List Keyword).length+(if ([]:List Keyword).isEmpty then 0 else 1) < 30))=true:=by rfl)
  (QU:(apos.endLine == QS.line)=true:=by rfl) (hs:starEach [e] X.env=(false,eval e X.env)::starEach [] X.env:=by rfl) :
  DS X QL QM (.Expr (.Call (.Attribute (.Name x px) "append" apos) [e] [] QS) pos) (l7 i fz f) :=
 bT (mL (qm qP PySem.F.slot_list_append PySem.F.type_list_append nA (fR hN hv hd Rp) (bY h eX hs) rfl Ri QU hs rfl)) λE σ H ⟨HF,ρ,o,S,hg,q⟩=>by
  let⟨⟨d,ρ'⟩,h1,hg⟩:=bs hg;let⟨ds,es,h2,h3,rfl⟩:=kg hg;have SK:∃WD,ρ[i]?=some (.own WD):=by
   let⟨d1,_,h1⟩:=bs h1;split at h1
   ·cases h1;exact⟨ds,h2⟩
   ·let⟨d2,_,h1⟩:=ag h1;cases h1;rw[fT] at h2;let⟨s,hs,h2⟩:=ag h2;cases s with
    | QK=>split at h2<;>cases h2
    | nest _=>split at h2<;>cases h2
    | tab _=>split at h2<;>cases h2
    | val _=>split at h2<;>cases h2
    | own xs=>exact⟨xs,hs⟩
  let⟨WD,SK⟩:=SK;let⟨a,vs,e1,e2,e3,e5,e4⟩:=S.own i WD SK;refine⟨.ref a,e1,.inl ⟨rfl,vs,gp.of e2⟩,nC S h1 λv H' QN s1 S' sh r=>?_⟩;let⟨a',Vw,f1,f2,f3,f5,f4⟩:=S'.own i ds h2;rw[e1] at f1;cases f1;split at h3
  ·rename_i hz;cases h3;exact⟨a,Vw,v,rfl,rfl,f2,by rw[f4.length];exact hz,q σ _ QN (S'.mut h2 e1 f2 (f4.append (au.cons r au.nil))) s1⟩
  ·cases h3
def tQ(K:W.Frag)(o:Obj):Option (Addr×Str):=match o.data with
 | .func fd=>if jj.contains fd.qualname=true then (match fd.code with
   | .ref c=>(match K.lookup c with
    | some ⟨_,_,.fields vs,_⟩=>(match (vs[11]?:Option Value) with
     | some (.ref P)=>if W.codeHdIn K c P=true then some (P,fd.qualname++".<locals>."++"<lambda>") else none
     | _=>none)
    | _=>none)
   | _=>none) else none
 | _=>none
def gO(K:W.Frag):List (Addr×Str):=K.filterMap λp=>tQ K p.2
def mR(K:W.Frag)(ts:List Addr):Bool:=(gO K).all λp=>ts.contains p.1&&(K.lookup p.1).isNone&&decide ((gO K).lookup p.1=some p.2)
def xf{K:W.Frag}(h:tQ K o=some (P,q)):∃c,W.codeHdIn K c P=true:=by
 unfold tQ at h;split at h
 ·split at h
  ·split at h
   ·split at h
    ·split at h
     ·split at h
      ·cases h;exact⟨_,‹_›⟩
      ·cases h
     ·cases h
    ·cases h
   ·cases h
  ·cases h
 ·cases h
def wg{K:W.Frag}(h:(P,q)∈gO K):∃c,W.codeHdIn K c P=true:=by
 let⟨p,_,e⟩:=List.mem_filterMap.mp h;exact xf e
def A8{K:W.Frag}(a:K.lookup f=some ⟨oc,od,.func fd,sl⟩)(b:fd.qualname∈jj)(d:fd.code=.ref c)(e:W.codeHdIn K c P=true) :
  (P,fd.qualname++".<locals>."++"<lambda>")∈gO K:=by
 refine List.mem_filterMap.mpr ⟨(f,_),W.mem_of_lookupK a,?_⟩;have e':=e;unfold W.codeHdIn at e';unfold tQ;simp?[d,List.contains_iff_mem,b,xI];split at e'
 ·rename_i vs sl' hl;simp?[hl];simp?[zG] at e';have e1:=e'.1.1.1.1.1;split at e1
  ·rename_i P' hv;have:P'=P:=by simpa using e1
   subst this;simp?[hv,e,xI]
  ·cases e1
 ·cases e'
def Ef:∀ {l:List (Addr×α)},l.lookup b=some q->(b,q)∈l
 | [],e=>by cases e
 | (c,x)::r,e=>by
  rw[yC] at e;cases h:b == c with
  | true=>rw[h] at e;cases e;rw[eq_of_beq h];exact zF
  | false=>rw[h] at e;exact zD _ (Ef e)
def fu(K:W.Frag)(h0:Hp):Hp:=λb=>match (gO K).lookup b with|some q=>some (.tab q)|none=>h0 b
def CO{K:W.Frag}(h:mR K ts=true):fS K (fu K h0):=λf oc od fd sl c P a b d e=>by
 have hm:=A8 a b d e;have:=List.all_eq_true.mp h _ hm;simp?[zG,zK] at this;unfold fu;rw[this.2]
def CN{w:World}{K:W.Frag}{CX:JS}{k:Nat}{fa:Addr}{fd:FuncData}{sp:Sp}{vs:List Value}{ns:List Int}
  (KX:K.In QP.heap) (UQ:QP.heap.Ns mainGlobals mg) (hb:QP.heap.Ns builtinsNs mb) (hbb:∀x:Str,x≠"__name__"->mb x=bootBuiltins x) (abx:QP.heap.NoLimit) (WE:OA mg QP.heap) (hg:QP.gens=#[])
  (ht:mR K ts=true) (hts:∀P∈ts,QP.heap.get? P=some (W.tabObj #[]))
  (ha:QP.heap.get? a=some { cls:=.type "list",data:=.seq vs.toArray }) (hi:IntsAre vs ns) (hl:ns.length<=sizeLine) (hr:dM k callerA)
  (F:∀base:Heap,K.In base->base.Ns mainGlobals mg->oA P w K mg base CX k fa fd [x] sp) (X8:∀ (s:Shared) (u:Value),BindsTo s fd ⟨[u],[]⟩ [(x,u)])
  (Xm:∀H:Hp,fS K H->gp K H a (ns.map V.int)->sp [.ref a] H (λv _=>v=.bl true) λ_ _ _=>False)
  (hCX:∀H e s',CX [] H QP (λ_ _ _=>False) e s'->False) :
  codeAny (model P w) callerA (.call (.ref fa) ⟨[.ref a],[]⟩) (λr s'=>r=.ok (.ret (.bool true))/\OldK QP.heap s'.heap/\s'.os=QP.os/\AllBare s'.gens) QP:=by
 have rv:=rQ hi;have abA:=hi.length;have tabAt:∀b q,(gO K).lookup b=some q->QP.heap.get? b=some (W.tabObj #[])/\K.lookup b=none/\∃c,W.CodeHd QP.heap c b:=λb q e=>by
  have hm:=Ef e;have:=List.all_eq_true.mp ht _ hm;simp?[zG,zK,List.contains_iff_mem,Option.isNone_iff_eq_none] at this;let⟨c,hc⟩:=wg hm;exact⟨hts b this.1.1,this.1.2,c,W.codeHd_of_K KX hc⟩
 have aT:(gO K).lookup a=none:=by
  cases e:(gO K).lookup a with
  | none=>rfl
  | some q=>have:=(tabAt a q e).1;rw[ha] at this;cases this
 have core:∀h0:Hp,gp K (fu K h0) a (ns.map V.int)->oR P w (fu K h0) QP.heap->(∀b,h0 b≠none->b=a)->(h0 a≠none->K.lookup a=none)->(∀b,h0 b=none\/∃o xs,h0 b=some (.Ro o (.lst xs))) ->
   codeAny (model P w) callerA (.call (.ref fa) ⟨[.ref a],[]⟩) (λr s'=>r=.ok (.ret (.bool true))/\OldK QP.heap s'.heap/\s'.os=QP.os/\AllBare s'.gens) QP:=by
  intro h0 hS QR hA hK hO;have look:∀b u,fu K h0 b=some u->(∃q,(gO K).lookup b=some q/\u=.tab q)\/(b=a/\h0 b=some u):=λb u e=>by
   unfold fu at e;split at e
   ·rename_i q hq;cases e;exact .inl ⟨q,hq,rfl⟩
   ·exact .inr ⟨hA b (by rw[e];simp),e⟩
  have iJ:∀ {b:Addr}{o:Obj},QP.heap.get? b=some o->fu K h0 b=none->(uA QP.heap (fu K h0)).get? b=some o:=λe n=>FO e n;have UN:∀ {b:Addr}{o:Obj},QP.heap.get? b=some o->(∀vs n,o.data≠.seq vs n)->(∀vs,o.data≠.fields vs)->fu K h0 b=none:=λ{b o} e d d2=>by
   cases q:fu K h0 b with
   | none=>rfl
   | some u =>
    rcases look b u q with ⟨q',z,_⟩|⟨z,_⟩
    ·rw[(tabAt b q' z).1] at e;cases e;exact absurd rfl (d2 _)
    ·subst z;rw[ha] at e;cases e;exact absurd rfl (d _ _)
  have nsK:∀ {b:Addr}{m:Str->Option Value},QP.heap.Ns b m->(uA QP.heap (fu K h0)).Ns b m:=λ{b m} ⟨o,es,ep,e,d,r⟩=>⟨o,es,ep,iJ e (UN e (λ_ _ z=>by rw[d] at z;cases z) λ_ z=>by rw[d] at z;cases z),d,r⟩
  have hKb:K.In (uA QP.heap (fu K h0)):=λb o e=>iJ (KX b o e) (by
   cases q:fu K h0 b with
   | none=>rfl
   | some u =>
    rcases look b u q with ⟨q',z,_⟩|⟨z,z2⟩
    ·rw[(tabAt b q' z).2.1] at e;cases e
    ·subst z;rw[hK (by rw[z2];simp)] at e;cases e)
  have hM:Mod K mg (uA QP.heap (fu K h0)):=⟨hKb,nsK UQ,⟨mb,nsK hb,hbb⟩,let ⟨mc,h1,h2⟩:=abx;⟨mc,nsK h1,h2⟩,
   let ⟨bm,o,b1,b2,b3,b4,b5,b6,b7⟩:=WE;⟨bm,o,b1,b2,b3,iJ b4 (UN b4 (λ_ _ z=>by rw[b7] at z;cases z) λ_ z=>by rw[b7] at z;cases z),b5,b6,b7⟩⟩
  have e0:Im P w K mg (uA QP.heap (fu K h0)) callerA [] QP (fu K h0):=⟨rfl,hM,λb o e=>JN e,Nat.le_of_eq (CJ _ _),trivial,λb hb=>absurd (show b∈([]:List Addr) from hb) (by simp),QR,.of_eq hg⟩
  refine jS ((F _ hKb (nsK UQ)).run callerA [] QP (fu K h0) ⟨[.ref a],[]⟩ [.ref a] [.ref a] _ _ hr e0 (X8 QP (.ref a)) (.cons rfl .nil) (Xm _ (CO ht) hS)) λr s' h=>?_;cases r with
  | error e=>exact (hCX _ e s' h).elim
  | ok fl =>
   cases fl with
   | next=>exact False.elim h
   | brk=>exact False.elim h
   | cont=>exact False.elim h
   | ret u =>
    let⟨v,H',os,bare,un,abB,r',q⟩:=h;have q':v=.bl true:=q;subst q';obtain rfl:u=Value.bool true:=r';have key:∀b o,QP.heap.get? b=some o->s'.heap.get? b=some o\/(isCodeTable QP.heap b/\o=W.tabObj #[]/\∃ps,s'.heap.get? b=some (W.tabObj ps)):=λb o e=>by
     cases q:fu K h0 b with
     | none=>exact .inl (un.keep b o e q (by intro z;exact absurd (show b∈([]:List Addr) from z) (by simp)) (by simp))
     | some u =>
      rcases look b u q with ⟨q',z,rfl⟩|⟨z,z2⟩
      ·let⟨t1,_,c,t3⟩:=tabAt b q' z;let⟨more,m1⟩:=un.RI.gr b q' #[] q t1;rw[e] at t1;cases t1;exact .inr ⟨(t3.tab e).isCodeTable,rfl,_,m1⟩
      ·rcases hO b with z3|⟨ob,xs,z3⟩
       ·rw[z2] at z3;cases z3
       ·rw[z2] at z3;cases z3;have z4:=un.RN b ob _ q;let⟨e1,_⟩:=QR b _ q;let⟨e2,_⟩:=abB b _ z4;rw[e] at e1;cases e1;exact .inl e2
    refine⟨rfl,⟨λb o e=>?_,λb o e=>?_⟩,os,bare⟩
    ·rcases key b o e with z|⟨t,rfl,ps,z⟩
     ·exact .inl z
     ·exact .inr (.inl ⟨t,rfl,#[],ps,rfl,by rw[Array.empty_append];exact z⟩)
    ·rcases key b o e with z|⟨_,_,ps,z⟩
     ·exact⟨o,z⟩
     ·exact⟨_,z⟩
 have hoT:∀ (h0:Hp) b q,(gO K).lookup b=some q->eF P w (fu K h0) QP.heap b (.tab q):=λh0 b q e=>⟨#[],(tabAt b q e).1,trivial,λpos v z=>by cases z⟩
 cases hk:K.lookup a with
 | some o =>
  have e:=KX a o hk;rw[ha] at e;cases e;refine core (λ_=>none) (.inr ⟨_,vs.toArray,_,hk,rfl,rfl,rfl,by rw[zI,abA];exact hl,by simpa using rv⟩) (λb u z=>?_) (λb z=>absurd rfl z) (λz=>absurd rfl z) λ_=>.inl rfl;unfold fu at z;split at z
  ·rename_i q hq;cases z;exact hoT _ b q hq
  ·cases z
 | none =>
  refine core (λb=>if b=a then some (.Ro { cls:=.type "list",data:=.seq vs.toArray } (.lst (ns.map V.int))) else none) (.inl (.inr ⟨{ cls:=.type "list",data:=.seq vs.toArray },?_⟩)) (λb u z=>?_) (λb z=>?_) (λ_=>hk) λb=>?_
  ·unfold fu;rw[aT];exact yM rfl
  ·unfold fu at z;split at z
   ·rename_i q hq;cases z;exact hoT _ b q hq
   ·by_cases hb:b=a
    ·replace z:=(yM hb).symm.trans z;cases z;subst hb;exact⟨ha,by rw[zE];exact hl,vs,_,rv,ha⟩
    ·replace z:=(yO hb).symm.trans z;cases z
  ·by_cases hb:b=a
   ·exact hb
   ·exact absurd (yO hb) z
  ·by_cases hb:b=a
   ·exact .inr ⟨_,_,yM hb⟩
   ·exact .inl (yO hb)
def F5{l:W.OpenLaw}{n k:Nat}{q:Program}{loose:List Str}{XP:(Str->Option Value)->Heap->Prop}{YP:World->Heap->Prop}{d:DefRec}{K:Params->W.Frag}{CX:World->JS}{sp:World->Sp}{x:Str}{ts:List Addr}
  (hn:l.most=some n) (hn2:n<=sizeLine) (XT:d.params.defaults=[]) (hr:dM k callerA)
  (hY:∀ (w:World) (h:Heap),YP w h->(K w.params).In h/\∀P∈ts,h.get? P=some (W.tabObj #[])) (ht:∀w:World,mR (K w.params) ts=true)
  (F:∀ (w:World) (mg:Str->Option Value) (fa:Addr) (h:Heap),(K w.params).In h->h.Ns mainGlobals mg->mg d.name=some (.ref fa) ->
   ∃fd:FuncData,(∀ (s:Shared) (u:Value),BindsTo s fd ⟨[u],[]⟩ [(x,u)]) /\
    ∀base:Heap,(K w.params).In base->base.Ns mainGlobals mg->oA l.prog w (K w.params) mg base (CX w) k fa fd [x] (sp w))
  (Xm:∀ (w:World) (H:Hp) (a:Addr) (ns:List Int),ns.length<=n->fS (K w.params) H->gp (K w.params) H a (ns.map V.int)->sp w [.ref a] H (λv _=>v=.bl true) λ_ _ _=>False)
  (hCX:∀ (w:World) (H:Hp) (s:Shared) (e:Value) (s':Shared),CX w [] H s (λ_ _ _=>False) e s'->False) :
  W.WalkO q loose XP YP l.row.toRowW d [] (λf vs=>PySem.call f vs):=by
 refine Att.Sd hn XT λw QZ QP mg mb fa o pm cd doc a vs ns G Y ho hd Rp XU Wu hints hlen hg=>?_;let⟨KX,hts⟩:=hY w _ Y;let⟨fd,hb,hF⟩:=F w mg fa _ KX G.T.g XU;have WE:OA mg QP.heap:=by
  let⟨bm,ob,b1,b2,b3,b4,b5,b6⟩:=G.T.bmain;refine⟨bm,ob,b1,b2,λz=>?_,b3,b4,b5,b6⟩;let⟨o',es,ep,e1,e2,_⟩:=G.T.g;rw[<- z,b3] at e1;cases e1;rw[b6] at e2;cases e2
 exact CN KX G.T.g G.T.b G.T.builtins G.T.nolimit WE hg (ht w) hts Wu hints (yE hlen hn2) hr hF hb (λH hT hS=>Xm w H a ns hlen hT hS) λH e s'=>hCX w H QP e s'
end Dl
namespace SP
open PySem PySem.W PyProof.Rows
def run(lt:Nat->Nat->Bool):KasT α->α
 | .ret a=>a
 | .ask i j k=>run lt (k (lt i j))
def gR(lt:Nat->Nat->Bool)(f:α->KasT β):∀t:KasT α,run lt (t.bind f)=run lt (f (run lt t))
 | .ret a=>rfl
 | .ask i j k=>by
  show run lt ((k (lt i j)).bind f)=run lt (f (run lt (k (lt i j))));exact gR lt f (k (lt i j))
def M1(n:Nat):KasT α->Prop
 | .ret _=>True
 | .ask i j k=>i < n/\j < n/\∀b,M1 n (k b)
def wp_run(hc:∀i j C,i < n->j < n->C (lt i j) s->cmp i j C s):∀ (t:KasT α) {Q:α->Shared->Prop},M1 n t->Q (run lt t) s->t.kasWp cmp Q s
 | .ret a,Q,_,h=>h
 | .ask i j k,Q,b,h=>hc i j _ b.1 b.2.1 (wp_run hc (k (lt i j)) (b.2.2 _) h)
def pj(n:Nat)(R:α->Prop):KasT α->Prop
 | .ret a=>R a
 | .ask i j k=>i < n/\j < n/\∀b,pj n R (k b)
def mZ:∀ {t:KasT α},pj n R t->(∀a,R a->M1 n (f a))->M1 n (t.bind f)
 | .ret a,b,h=>h a b
 | .ask i j k,b,h=>⟨b.1,b.2.1,λc=>mZ (b.2.2 c) h⟩
def iD:∀ {t:KasT α},pj n R t->(∀a,R a->pj n S (f a))->pj n S (t.bind f)
 | .ret a,b,h=>h a b
 | .ask i j k,b,h=>⟨b.1,b.2.1,λc=>iD (b.2.2 c) h⟩
def Bd(n:Nat)(p:Array Nat):Prop:=∀a,p.getD a 0 < n
def Bd.perm(h:Bd n p)(e:q.Perm p):Bd n q:=by
 intro a;rw[qE];cases ha:q[a]? with
 | none=>have:=h p.size;rw[qE] at this;simpa using this
 | some x =>
  have hx:x∈q:=Array.mem_of_getElem? ha;have UR:x∈p:=e.mem_iff.mp hx;let⟨i,hi,rfl⟩:=Array.mem_iff_getElem.mp UR;have:=h i;rw[qE] at this;simpa [hi] using this
def FB(h:Bd n p):∀f m,pj n (λ_=>True) (kas_asc p f m)
 | 0,m=>trivial
 | f+1,m=>⟨h _,h _,λc=>by
  dsimp only;split
  ·trivial
  ·exact FB h f (m+1)⟩
def v5(h:Bd n p)(i j:Nat):Bd n (kas_rev p i j):=h.perm (mirror_perm _ _ _ _)
def vb:∀ (f:Nat) {p:Array Nat}(h:Bd n p) (m q:Nat),pj n (λr=>Bd n r.1) (kas_desc f p m q)
 | 0,p,h,m,q=>h
 | f+1,p,h,m,q=>⟨h _,h _,λc=>by
  dsimp only;split
  ·split
   ·exact vb f (v5 h _ _) (m+1) 0
   ·exact vb f h (m+1) 0
  ·exact⟨h _,h _,λd=>by
    dsimp only;split
    ·exact h
    ·exact vb f h (m+1) (q+1)⟩⟩
def Cw(h:Bd n p)(m nrem:Nat):pj n (λr=>Bd n r.2) (kas_tail3 m nrem p):=iD (FB (v5 h 0 m) _ _) λ_ _=>v5 h 0 m
def pd(h:Bd n p)(m nrem:Nat):pj n (λr=>Bd n r.2) (kas_descPart m nrem p):=iD (vb _ h _ _) λr hr=>by
 split
 ·exact Cw (v5 hr _ _) _ _
 ·exact Cw hr _ _
def Jm(h:Bd n p)(nrem:Nat):pj n (λr=>Bd n r.2) (kas_count nrem p):=iD (FB h _ _) λm _=>by
 split
 ·exact h
 ·split
  ·exact⟨h _,h _,λc=>by
    dsimp only;split
    ·exact h
    ·exact pd (v5 h _ _) _ _⟩
  ·exact pd h _ _
def tR(h:Bd n p)(k:Nat):∀f l r,pj n (λ_=>True) (kas_place p k f l r)
 | 0,l,r=>trivial
 | f+1,l,r=>by
  unfold kas_place;split
  ·trivial
  ·exact⟨h _,h _,λc=>by
    dsimp only;split
    ·exact tR h k f _ _
    ·exact tR h k f _ _⟩
def Kr:∀ (f:Nat) {p:Array Nat}(h:Bd n p) (k:Nat),M1 n (kas_bin f p k)
 | 0,p,h,k=>trivial
 | f+1,p,h,k=>mZ (tR h k _ _ _) λl _=>Kr f (h.perm (bubble_perm _ _ _)) (k+1)
def ET(h1:1<=n):M1 n (kas_sort n):=by
 have h:Bd n (List.toArray (List.range n)):=λa=>by
  rw[qE];by_cases ha:a < n
  ·simp[ha]
  ·simp[ha];lia
 refine mZ (Jm h n) λr hr=>?_;split
 ·exact Kr _ hr _
 ·trivial
section
variable (z:Nat->Int)
def Z(p:Array Nat)(a:Nat):Int:=z (p.getD a 0)
def ee:Nat->Nat->Bool:=λi j=>decide (z i < z j)
def mE(h:p[a]?=q[b]?):Z z p a=Z z q b:=by
 unfold Z;rw[qE,qE,h]
def Fq(hj:j<=p.size)(k:Nat):Z z (kas_rev p i j) k=if i<=k/\k < j then Z z p (i+j - 1 - k) else Z z p k:=by
 have e:=getElem?_mirror_all (xs:=p) (i:=i) hj k;unfold kas_rev;by_cases h1:i<=k/\k < j
 ·rw[yM h1] at e ⊢;exact mE z e
 ·rw[yO h1] at e ⊢;exact mE z e
def Fh(hs:src < p.size)(hd:d<=src)(k:Nat):Z z (bubble p src d) k=if k=src - d then Z z p src else if src - d < k/\k<=src then Z z p (k - 1) else Z z p k:=by
 have e:=getElem?_bubble hs d hd k;by_cases h1:k=src - d
 ·rw[yM h1] at e ⊢;exact mE z e
 ·rw[yO h1] at e ⊢;by_cases h2:src - d < k/\k<=src
  ·rw[yM h2] at e ⊢;exact mE z e
  ·rw[yO h2] at e ⊢;exact mE z e
def Up(p:Array Nat)(n:Nat):Prop:=∀a b,a<=b->b < n->Z z p a<=Z z p b
def Dn(p:Array Nat)(n:Nat):Prop:=∀a b,a<=b->b < n->Z z p b<=Z z p a
variable {z}
def Hy(h:Up z p n)(hn:1<=n)(h1:Z z p (n - 1)<=Z z p n):Up z p (n+1):=by
 intro a b RC hb;by_cases WG:b < n
 ·exact h a b RC WG
 ·have e:b=n:=by lia
  subst e;by_cases ha:a=b
  ·subst ha;exact qA _
  ·exact jU (h a (b - 1) (by lia) (by lia)) h1
def OW:∀ (f n:Nat),1<=n->Up z p n->n<=run (ee z) (kas_asc p f n)/\run (ee z) (kas_asc p f n)<=n+f/\Up z p (run (ee z) (kas_asc p f n))/\(run (ee z) (kas_asc p f n) < n+f->Z z p (run (ee z) (kas_asc p f n)) < Z z p (run (ee z) (kas_asc p f n) - 1))
 | 0,n,hn,h=>⟨yN _,yN _,h,λq=>absurd q (qF _)⟩
 | f+1,n,hn,h=>by
  unfold kas_asc;show n<=run (ee z) (if ee z (p.getD n 0) (p.getD (n - 1) 0)=true then .ret n else kas_asc p f (n+1))/\run (ee z) (if ee z (p.getD n 0) (p.getD (n - 1) 0)=true then .ret n else kas_asc p f (n+1))<=n+(f+1)/\Up z p (run (ee z) (if ee z (p.getD n 0) (p.getD (n - 1) 0)=true then .ret n else kas_asc p f (n+1)))/\(run (ee z) (if ee z (p.getD n 0) (p.getD (n - 1) 0)=true then .ret n else kas_asc p f (n+1)) < n+(f+1)->Z z p (run (ee z) (if ee z (p.getD n 0) (p.getD (n - 1) 0)=true then .ret n else kas_asc p f (n+1))) < Z z p (run (ee z) (if ee z (p.getD n 0) (p.getD (n - 1) 0)=true then .ret n else kas_asc p f (n+1)) - 1))
  by_cases hc:ee z (p.getD n 0) (p.getD (n - 1) 0)=true
  ·rw[yM hc];exact⟨yN _,jV _ _,h,λ_=>yR hc⟩
  ·rw[yO hc];have h1:Z z p (n - 1)<=Z z p n:=by
    have:¬ (Z z p n < Z z p (n - 1)):=λq=>hc (yB q);lia
   let⟨a,b,c,d⟩:=OW f (n+1) (by lia) (Hy h hn h1);exact⟨by lia,by lia,c,λq=>d (by lia)⟩
def AG(hj:j<=p.size)(h:∀a b,i<=a->a < j->i<=b->b < j->Z z p a=Z z p b)(k:Nat):Z z (kas_rev p i j) k=Z z p k:=by
 rw[Fq z hj];split
 ·rename_i hk;exact h _ _ (by lia) (by lia) hk.1 hk.2
 ·rfl
def FC(e:∀k,Z z q k=Z z p k)(h:Dn z p n):Dn z q n:=λa b RC hb=>by rw[e,e];exact h a b RC hb
def Mi(hn:n<=p.size)(h:Dn z p n):Up z (kas_rev p 0 n) n:=by
 intro a b RC hb;rw[Fq z hn,Fq z hn,yM ⟨xW _,by lia⟩,yM ⟨xW _,hb⟩];exact h _ _ (by lia) (by lia)
def mw(p:Array Nat)(i j:Nat):(kas_rev p i j).size=p.size:=mirror_size _ _ _ _
def mX(p:Array Nat)(i j:Nat):(kas_rev p i j).Perm p:=mirror_perm _ _ _ _
structure Ls(z:Nat->Int)(Q1 p:Array Nat)(n q nrem:Nat):Prop where
 perm:p.Perm Q1
 size:p.size=Q1.size
 le:n<=nrem
 qn:q+1<=n
 dn:Dn z p n
 eq:∀a b,n - (q+1)<=a->a < n->n - (q+1)<=b->b < n->Z z p a=Z z p b
def HR(hz:nrem<=Q1.size):∀ (f:Nat) (p:Array Nat) (n q:Nat),n+f<=nrem->Ls z Q1 p n q nrem ->
  let r:=run (ee z) (kas_desc f p n q);Ls z Q1 r.1 r.2.1 r.2.2 nrem
 | 0,p,n,q,hn,h=>h
 | f+1,p,n,q,hn,h=>by
  intro r;have hr:r=run (ee z) (if ee z (p.getD n 0) (p.getD (n - 1) 0)=true then (if q > 0 then kas_desc f (kas_rev p (n - (q+1)) n) (n+1) 0 else kas_desc f p (n+1) 0)
   else .ask (p.getD (n - 1) 0) (p.getD n 0) λd=>if d=true then .ret (p,n,q) else kas_desc f p (n+1) (q+1)):=rfl
  have hq:=h.qn;by_cases hc:ee z (p.getD n 0) (p.getD (n - 1) 0)=true
  ·rw[yM hc] at hr;have Q0:Z z p n < Z z p (n - 1):=yR hc;have step:∀p':Array Nat,p'.Perm Q1->p'.size=Q1.size->(∀k,Z z p' k=Z z p k)->Ls z Q1 p' (n+1) 0 nrem:=λp' a1 a2 a3=>by
    refine⟨a1,a2,by lia,by lia,λa b RC hb=>?_,λa b h1 h2 h3 h4=>by rw[show a=b by lia]⟩;rw[a3,a3];by_cases WG:b < n
    ·exact h.dn a b RC WG
    ·have e:b=n:=by lia
     subst e;by_cases ha:a=b
     ·subst ha;exact qA _
     ·exact jU (Int.le_of_lt Q0) (h.dn a (b - 1) (by lia) (by lia))
   by_cases hq0:q > 0
   ·rw[yM hq0] at hr;rw[hr];exact HR hz f _ (n+1) 0 (by lia) (step _ ((mX _ _ _).trans h.perm) (by rw[mw,h.size]) (AG (by rw[h.size];lia) h.eq))
   ·rw[yO hq0] at hr;rw[hr];exact HR hz f p (n+1) 0 (by lia) (step p h.perm h.size λ_=>rfl)
  ·rw[yO hc] at hr;have Vx:Z z p (n - 1)<=Z z p n:=by
    have:¬ (Z z p n < Z z p (n - 1)):=λq=>hc (yB q);lia
   have Sh:r=run (ee z) (if ee z (p.getD (n - 1) 0) (p.getD n 0)=true then .ret (p,n,q) else kas_desc f p (n+1) (q+1)):=hr;by_cases hd:ee z (p.getD (n - 1) 0) (p.getD n 0)=true
   ·rw[yM hd] at Sh;rw[Sh];exact h
   ·rw[yO hd] at Sh;rw[Sh];have heq:Z z p n=Z z p (n - 1):=by
     have:¬ (Z z p (n - 1) < Z z p n):=λq=>hd (yB q);lia
    refine HR hz f p (n+1) (q+1) (by lia) ⟨h.perm,h.size,by lia,by lia,λa b RC hb=>?_,λa b h1 h2 h3 h4=>?_⟩
    ·by_cases WG:b < n
     ·exact h.dn a b RC WG
     ·have e:b=n:=by lia
      subst e;by_cases ha:a=b
      ·subst ha;exact qA _
      ·rw[heq];exact h.dn a (b - 1) (by lia) (by lia)
    ·have key:∀c,n+1 - (q+1+1)<=c->c < n+1->Z z p c=Z z p (n - 1):=λc c1 c2=>by
      by_cases hcn:c < n
      ·exact h.eq c (n - 1) (by lia) hcn (by lia) (by lia)
      ·have e:c=n:=by lia
       subst e;exact heq
     rw[key a h1 h2,key b h3 h4]
structure Ot(z:Nat->Int)(Q1:Array Nat)(nrem:Nat)(r:Nat×Array Nat):Prop where
 perm:r.2.Perm Q1
 size:r.2.size=Q1.size
 ge:1<=r.1
 le:r.1<=nrem
 up:Up z r.2 r.1
def tail3(hz:nrem<=Q1.size)(h1:1<=n)(hn:n<=nrem)(hp:p.Perm Q1)(hs:p.size=Q1.size)(hd:Dn z p n):Ot z Q1 nrem (run (ee z) (kas_tail3 n nrem p)):=by
 unfold kas_tail3;rw[gR];let⟨a,b,c,_⟩:=OW (nrem - n) n h1 (Mi (by lia) hd);exact⟨(mX _ _ _).trans hp,by show (kas_rev p 0 n).size=_;rw[mw,hs],by show 1<=run _ (kas_asc _ _ _);lia,by show run _ (kas_asc _ _ _)<=nrem;lia,c⟩
def descPart(hz:nrem<=Q1.size)(h1:1<=n)(hn:n < nrem)(hp:p.Perm Q1)(hs:p.size=Q1.size)(hd:Dn z p n)(Q0:Z z p n<=Z z p (n - 1)):Ot z Q1 nrem (run (ee z) (kas_descPart n nrem p)):=by
 unfold kas_descPart;rw[gR];have D:=HR (z:=z) hz (nrem - (n+1)) p (n+1) 0 (by lia) ⟨hp,hs,by lia,by lia,λa b RC hb=>by
  by_cases WG:b < n
  ·exact hd a b RC WG
  ·have e:b=n:=by lia
   subst e;by_cases ha:a=b
   ·subst ha;exact qA _
   ·exact jU Q0 (hd a (b - 1) (by lia) (by lia)),λa b h1 h2 h3 h4=>by rw[show a=b by lia]⟩
 dsimp only at D;generalize run (ee z) (kas_desc (nrem - (n+1)) p (n+1) 0)=r at D;have hq:=D.qn;split
 ·exact tail3 hz (by lia) D.le ((mX _ _ _).trans D.perm) (by rw[mw,D.size]) (FC (AG (by have:=D.size;have:=D.le;lia) D.eq) D.dn)
 ·exact tail3 hz (by lia) D.le D.perm D.size D.dn
def count(hz:nrem<=p.size)(h1:1<=nrem):Ot z p nrem (run (ee z) (kas_count nrem p)):=by
 unfold kas_count;rw[gR];let⟨a,b,c,d⟩:=OW (z:=z) (p:=p) (nrem - 1) 1 (yN _) (λx y hxy hy=>by rw[show x=y by lia];exact qA _);generalize run (ee z) (kas_asc p (nrem - 1) 1)=n at a b c d;split
 ·exact⟨Array.Perm.refl _,rfl,a,by show n<=nrem;lia,c⟩
 ·rename_i Q7;have Q0:n < nrem:=by
   have:n≠nrem:=λe=>Q7 (by simp[e]);lia
  have hd:=d (by lia);split
  ·rename_i hn1;show Ot z p nrem (run (ee z) (if ee z (p.getD 0 0) (p.getD (n - 1) 0)=true then .ret (n,p) else kas_descPart n nrem (kas_rev p 0 n)));by_cases hc:ee z (p.getD 0 0) (p.getD (n - 1) 0)=true
   ·rw[yM hc];exact⟨Array.Perm.refl _,rfl,a,by show n<=nrem;lia,c⟩
   ·rw[yO hc];have Vx:Z z p (n - 1)<=Z z p 0:=by
     have:¬ (Z z p 0 < Z z p (n - 1)):=λq=>hc (yB q);lia
    have all:∀x,x < n->Z z p x=Z z p 0:=λx hx=>by
     have e1:=c 0 x (xW _) hx;have e2:=c x (n - 1) (by lia) (by lia);lia
    have same:=AG (z:=z) (p:=p) (i:=0) (j:=n) (by lia) λx y _ hx _ hy=>by rw[all x hx,all y hy]
    refine descPart hz (by lia) Q0 (mX _ _ _) (by rw[mw]) (λx y hxy hy=>?_) ?_
    ·rw[same,same,all x (by lia),all y hy];exact qA _
    ·rw[same,same];lia
  ·exact descPart hz (by lia) Q0 (Array.Perm.refl _) rfl (λx y hxy hy=>by rw[show x=y by lia];exact qA _) (by lia)
def place(hu:Up z p k):∀ (f l r:Nat),r - l<=f->l<=r->r<=k->(∀a,a < l->Z z p a<=Z z p k)->(∀a,r<=a->a < k->Z z p k<=Z z p a) ->
  let m:=run (ee z) (kas_place p k f l r);m<=k/\(∀a,a < m->Z z p a<=Z z p k)/\(∀a,m<=a->a < k->Z z p k<=Z z p a)
 | 0,l,r,hf,hl,hr,h1,h2=>by
  intro m;have e:l=r:=by lia
  subst e;exact⟨hr,h1,h2⟩
 | f+1,l,r,hf,hl,hr,h1,h2=>by
  intro m;have hm:m=run (ee z) (if l >= r then .ret l else .ask (p.getD k 0) (p.getD ((l+r) / 2) 0) λc=>if c=true then kas_place p k f l ((l+r) / 2) else kas_place p k f ((l+r) / 2+1) r):=rfl;by_cases hlr:l >= r
  ·rw[yM hlr] at hm;rw[hm];have e:l=r:=by lia
   subst e;exact⟨hr,h1,h2⟩
  ·rw[yO hlr] at hm;have RV:m=run (ee z) (if ee z (p.getD k 0) (p.getD ((l+r) / 2) 0)=true then kas_place p k f l ((l+r) / 2) else kas_place p k f ((l+r) / 2+1) r):=hm;by_cases hc:ee z (p.getD k 0) (p.getD ((l+r) / 2) 0)=true
   ·rw[yM hc] at RV;rw[RV];have Q0:Z z p k < Z z p ((l+r) / 2):=yR hc;exact place hu f l ((l+r) / 2) (by lia) (by lia) (by lia) h1 λa ha hak=>jU (Int.le_of_lt Q0) (hu _ a ha hak)
   ·rw[yO hc] at RV;rw[RV];have Vx:Z z p ((l+r) / 2)<=Z z p k:=by
     have:¬ (Z z p k < Z z p ((l+r) / 2)):=λq=>hc (yB q);lia
    exact place hu f ((l+r) / 2+1) r (by lia) (by lia) hr (λa ha=>jU (hu a ((l+r) / 2) (by lia) (by lia)) Vx) h2
def bin:∀ (f:Nat) (p:Array Nat) (k:Nat),p.Perm Q1->p.size=Q1.size->k+f<=Q1.size->Up z p k ->
  (run (ee z) (kas_bin f p k)).Perm Q1/\(run (ee z) (kas_bin f p k)).size=Q1.size/\Up z (run (ee z) (kas_bin f p k)) (k+f)
 | 0,p,k,hp,hs,hk,hu=>⟨hp,hs,hu⟩
 | f+1,p,k,hp,hs,hk,hu=>by
  unfold kas_bin;rw[gR];have P:=place hu k 0 k (by lia) (by lia) (yN _) (λa ha=>absurd ha (vO _)) λa ha hak=>absurd ha (by lia);dsimp only at P;generalize run (ee z) (kas_place p k k 0 k)=l at P;let⟨p1,p2,p3⟩:=P;have zb:=Fh z (p:=p) (src:=k) (d:=k - l) (by lia) (by lia);have e:k - (k - l)=l:=by lia
  rw[e] at zb;let⟨q1,q2,q3⟩:=bin f (bubble p k (k - l)) (k+1) ((bubble_perm _ _ _).trans hp) (by rw[bubble_size,hs]) (by lia) λa b RC hb=>by
   rw[zb,zb];by_cases ha1:a=l
   ·rw[yM ha1];by_cases X9:b=l
    ·rw[yM X9];exact qA _
    ·rw[yO X9];rw[yM (by lia)];exact p3 _ (by lia) (by lia)
   ·rw[yO ha1];by_cases X9:b=l
    ·rw[yM X9,yO (by lia)];exact p2 a (by lia)
    ·rw[yO X9];by_cases ha2:l < a/\a<=k
     ·rw[yM ha2,yM (by lia)];exact hu _ _ (by lia) (by lia)
     ·rw[yO ha2];by_cases hb2:l < b/\b<=k
      ·rw[yM hb2];exact hu _ _ (by lia) (by lia)
      ·rw[yO hb2];exact hu _ _ RC (by lia)
  exact⟨q1,q2,by rw[show k+(f+1)=k+1+f by lia];exact q3⟩
def iH(h1:1<=n):(run (ee z) (kas_sort n)).toList.Perm (List.range n)/\((run (ee z) (kas_sort n)).toList.map z).Pairwise (·<=·):=by
 have hsz:(List.toArray (List.range n)).size=n:=by simp
 have C:=count (z:=z) (p:=List.toArray (List.range n)) (nrem:=n) (by lia) h1;have fin:∀p:Array Nat,p.Perm (List.toArray (List.range n))->p.size=n->Up z p n->p.toList.Perm (List.range n)/\(p.toList.map z).Pairwise (·<=·):=λp a b c=>by
  refine⟨by have:=a.toList;simpa using this,?_⟩;rw[List.pairwise_iff_getElem];intro i j hi hj QQ;have R5:i < n:=by simpa [b] using hi
  have Vu:j < n:=by simpa [b] using hj
  have:=c i j (jT QQ) Vu;unfold Z at this;have e1:p.getD i 0=p[i]:=by simp[Array.getD,b,R5]
  have e2:p.getD j 0=p[j]:=by simp[Array.getD,b,Vu]
  rw[e1,e2] at this;simpa using this
 unfold kas_sort;rw[gR];generalize run (ee z) (kas_count n (List.toArray (List.range n)))=r at C;let⟨k,p⟩:=r;have hs:=C.size;rw[hsz] at hs;split
 ·rename_i Q0;have Vx:=C.ge;have e:max k 1=k:=by have:1<=k:=Vx;lia
  rw[e];let⟨q1,q2,q3⟩:=bin (z:=z) (n - k) p k C.perm C.size (by rw[hsz];have:k < n:=Q0;lia) C.up;refine fin _ q1 (by rw[q2,hsz]) ?_;rw[show k+(n - k)=n by have:k < n:=Q0;lia] at q3;exact q3
 ·rename_i abD;have hle:=C.le;have e:k=n:=by have h3:k<=n:=hle;have h4:¬ k < n:=abD;lia
  subst e;exact fin p C.perm hs C.up
end
end SP
namespace T9
open PySem PySem.W PySem.Calls PyProof.Rows
def QY(z:Nat->Int)(vs:List Value):List Value:=if vs.length < 2 then vs else (SP.run (SP.ee z) (kas_sort vs.length)).toList.map λi=>vs.getD i Value.none
def Sj(z:Nat->Int)(vs:List Value):(QY z vs).length=vs.length:=by
 unfold QY;split
 ·rfl
 ·rename_i h;have:=(SP.iH (z:=z) (n:=vs.length) (by lia)).1.length_eq;simpa using this
def SM{P:PySem.Fin->Shared->Prop}(ho:s.heap.get? a=some (seqObj "list" vs.toArray n))(TM:vs.length < 64)(z:Nat->Int)(κ:SortKind)
  (hk:2<=vs.length->∀h':Heap,(∀b o,b≠a->s.heap.get? b=some o->h'.get? b=some o)->∀Q':SortKind->Shared->Prop,Q' κ { s with heap:=h' }->wpAny (model prog w) A (keyKind' vs.toArray) Q' (λ_ _=>False) { s with heap:=h' })
  (Q0:2<=vs.length->∀h':Heap,(∀b o,b≠a->s.heap.get? b=some o->h'.get? b=some o)->∀i j C,i < vs.length->j < vs.length->C (SP.ee z i j) { s with heap:=h' }->kas_ask prog w A κ vs i j C { s with heap:=h' })
  (h:∀ (h':Heap) (c:Nat),(∀b o,b≠a->s.heap.get? b=some o->h'.get? b=some o)->h'.get? a=some (seqObj "list" (QY z vs).toArray c)->P (.done (.ret .none)) { s with heap:=h' }) :
  wpAny (model prog w) A (Builtin.«list.sort» ⟨[.ref a],[]⟩) P E s:=by
 rw[list_sort_plain];have ha:a < s.heap.objs.size:=zZ ho;have Td:vs.length<=sizeLine:=by rw[qV];lia
 refine zW (vI ho rfl (zW (kA ho rfl ?_ (by simpa using Td) (xW _))));obtain⟨e1,US⟩:∃e,(s.heap.update a (Obj.mapSeq λ_=>(#[]:Array Value))).get? a=some (seqObj "list" #[] e):=⟨_,kC ho λ_=>#[]⟩
 have kp1:∀b o,b≠a->s.heap.get? b=some o->(s.heap.update a (Obj.mapSeq λ_=>(#[]:Array Value))).get? b=some o:=λb o hb e=>(xO _ _ (jN hb)).trans e;refine zW (seqEpoch_at US rfl (zW (wpAny_newTuple ?_ (by simpa using Td))));refine zW (kO (xY ?_) (xW _));have Vy:(((s.heap.update a (Obj.mapSeq λ_=>(#[]:Array Value))).push (seqObj "tuple" vs.toArray 0)).push (seqObj "list" #[] 0)).get? a=some (seqObj "list" #[] e1):=zV _ (zV _ US);have kp3:∀b o,b≠a->s.heap.get? b=some o->(((s.heap.update a (Obj.mapSeq λ_=>(#[]:Array Value))).push (seqObj "tuple" vs.toArray 0)).push (seqObj "list" #[] 0)).get? b=some o:=λb o hb e=>zV _ (zV _ (kp1 b o hb e));show wpAny _ A _ P E { s with heap:=((s.heap.update a (Obj.mapSeq λ_=>(#[]:Array Value))).push (seqObj "tuple" vs.toArray 0)).push (seqObj "list" #[] 0) };generalize ((s.heap.update a (Obj.mapSeq λ_=>(#[]:Array Value))).push (seqObj "tuple" vs.toArray 0)).push (seqObj "list" #[] 0)=h3 at Vy kp3;clear US kp1;dsimp only;have fin:∀Rh:SortSt,(arrOf Rh).map (·.2)=(QY z vs).toArray->failedOf Rh=none ->
   wpAny (model prog w) A (do
    let sorted:=(arrOf Rh).map (·.2);let touched:=(<- seqEpoch a) != e1
    Builtin.List.listUpdate (.ref a) λ_=>sorted
    if let some e:=failedOf Rh then rule "list.sort.comparison-raised";throw e
    if touched then rule "list.sort.modified";raiseError "ValueError" "list modified during sort"
    ret .none) P E { s with heap:=h3 }:=λRh h1 h2=>by
  dsimp only;rw[h1,h2];refine zW (seqEpoch_at Vy rfl ?_);refine zW (kA Vy rfl ?_ (xW _) (by show (QY z vs).toArray.size<=_;rw[zI,Sj];lia));obtain⟨c,hc⟩:∃c,(h3.update a (Obj.mapSeq λ_=>(QY z vs).toArray)).get? a=some (seqObj "list" (QY z vs).toArray c):=⟨_,kC Vy λ_=>(QY z vs).toArray⟩
  have q:=h _ c (λb o hb e=>(xO _ _ (jN hb)).trans (kp3 b o hb e)) hc;simp?[bne_self_eq_false,yP,qQ];exact zX q
 by_cases h2:vs.toArray.size < 2
 ·rw[yM h2,yM h2];refine zW (zX ?_);rw[StateT.run_pure];refine zW (zX (fin _ ?_ rfl));have UT:vs.length < 2:=by simpa using h2
  unfold QY;rw[yM UT];show ((vs.toArray.zip vs.toArray).map (·.2))=vs.toArray;apply Array.toList_inj.mp;simp?[Array.toList_map,Array.toList_zip];exact List.map_snd_zip (yN _)
 ·rw[yO h2,yO h2];have UT:2<=vs.length:=by
   have:¬ vs.length < 2:=by simpa using h2
   lia
  refine zW (xB (hk UT h3 kp3 (λYa s'=>Ya=κ/\s'={ s with heap:=h3 }) ⟨rfl,rfl⟩) (λYa s' hs=>?_) λ_ _ x=>x.elim);let⟨rfl,rfl⟩:=hs;refine zW (xB (kat_run (Q:=λRh s'=>s'={ s with heap:=h3 }/\(arrOf Rh).map (·.2)=(QY z vs).toArray/\failedOf Rh=none) (G:=λp s'=>s'={ s with heap:=h3 }/\p=SP.run (SP.ee z) (kas_sort vs.length))
   rfl UT TM (λp Rh s' a1 a2 a3 a4=>⟨a4.1,?_,a3⟩) (SP.wp_run (Q0 UT h3 kp3) (kas_sort vs.length) (SP.ET (by lia)) ⟨rfl,rfl⟩)) ?_ λ_ _ e=>e)
  ·rw[kat_snds rfl a2,a4.2];unfold QY;rw[yO (by lia)]
  ·rintro⟨⟨⟩,Rh⟩ s' ⟨hs,h4,h5⟩;subst hs;exact fin Rh h4 h5
def U7(h:Heap)(l:Addr)(vs:List Value):Prop:=∃ (o:Obj) (T:String) (n:Nat),(T="list"\/T="tuple")/\h.get? l=some o/\o.cls=.type T/\o.data=.seq vs.toArray n
def Um(hl:U7 s.heap l vs)
  (h:Q vs { s with heap:=(s.heap.push (seqObj "list" #[] 0)).update s.heap.objs.size (Obj.mapSeq (·++vs.toArray)) }) (hsz:vs.length<=sizeLine):wpAny (model prog w) A (collect (.ref l)) Q E s:=by
 let⟨o,T,n,hT,ho,hc,hd⟩:=hl;unfold collect;refine zW (wpAny_runValue (kE entry_proto_collect' ?_));show wpAny _ _ (do again (.builtin "list.__iadd__" ⟨[<- newList [],.ref l],[]⟩)) _ _ s;refine zW (kO (zX ⟨wF _ (by decide +kernel),kE entry_list_iadd' ?_⟩));show wpAny _ _ (Builtin.List.listExtendWith (.ref s.heap.objs.size) (.ref l) (.ref s.heap.objs.size)) _ _ { s with heap:=s.heap.push (seqObj "list" #[] 0) };unfold Builtin.List.listExtendWith;have RK:(s.heap.push (seqObj "list" #[] 0)).get? l=some o:=zV _ ho;refine zW (wG (T:=T) ⟨o,RK,hc⟩ ?_);rw[yM (by rcases hT with rfl|rfl<;>simp)];refine zW (vI RK hd (zW (vI (xs:=#[]) (n:=0) (zY _ rfl) rfl ?_)));rw[yO (by simp)];refine zW (kA (xs:=#[]) (n:=0) (zY _ rfl) rfl ?_ (xW _) (by show (#[]++vs.toArray).size<=sizeLine+1;simp?[Array.size_append,zI,xM];lia));refine zX ?_;refine zW (wpAny_load (kC (zY _ rfl) _) ?_);show wpAny _ _ (pure ((#[]:Array Value)++vs.toArray).toList) Q E _;rw[show ((#[]:Array Value)++vs.toArray).toList=vs by simp];exact zX h
def U8{s:Shared}{Q:Value->Shared->Prop}(hl:U7 s.heap l vs)(TM:vs.length < 64)(z:Nat->Int)(κ:SortKind)
  (hk:2<=vs.length->∀h':Heap,(∀b o,s.heap.get? b=some o->h'.get? b=some o)->∀Q':SortKind->Shared->Prop,Q' κ { s with heap:=h' }->wpAny (model prog w) A.in1.in1 (keyKind' vs.toArray) Q' (λ_ _=>False) { s with heap:=h' })
  (Q0:2<=vs.length->∀h':Heap,(∀b o,s.heap.get? b=some o->h'.get? b=some o)->∀i j C,i < vs.length->j < vs.length->C (SP.ee z i j) { s with heap:=h' }->kas_ask prog w A.in1.in1 κ vs i j C { s with heap:=h' })
  (h:∀ (h':Heap) (D:Addr) (c:Nat),(∀b o,s.heap.get? b=some o->h'.get? b=some o)->s.heap.objs.size<=D->h'.get? D=some (seqObj "list" (QY z vs).toArray c)->Q (.ref D) { s with heap:=h' }) :
  wpAny (model prog w) A (call (.builtin "sorted") [.ref l]) Q E s:=by
 have Td:vs.length<=sizeLine:=by rw[qV];lia
 refine Calls.call_function_entry kind_sorted plain_sorted entry_sorted (args_sorted1 _) ?_;unfold Builtin.«sorted»;refine zW (m:=checkCount "sorted" 1 1 _) (zX (zW (Um hl ?_ Td)));refine zW (kO ?_ (by simpa using Td));have hsz:((s.heap.push (seqObj "list" #[] 0)).update s.heap.objs.size (Obj.mapSeq (·++vs.toArray))).objs.size=s.heap.objs.size+1:=by rw[Heap.size_update,size_push']
 have kp:∀b o,s.heap.get? b=some o->(((s.heap.push (seqObj "list" #[] 0)).update s.heap.objs.size (Obj.mapSeq (·++vs.toArray))).push (seqObj "list" vs.toArray 0)).get? b=some o:=λb o e =>
  zV _ ((xO _ _ (jJ (zZ e))).trans (zV _ e))
 have Xr:(((s.heap.push (seqObj "list" #[] 0)).update s.heap.objs.size (Obj.mapSeq (·++vs.toArray))).push (seqObj "list" vs.toArray 0)).get? (s.heap.objs.size+1)=some (seqObj "list" vs.toArray 0):=by
  rw[<- hsz];exact zY _ rfl
 show wpAny _ _ _ _ _ { s with heap:=((s.heap.push (seqObj "list" #[] 0)).update s.heap.objs.size (Obj.mapSeq (·++vs.toArray))).push (seqObj "list" vs.toArray 0) };rw[hsz];generalize ((s.heap.push (seqObj "list" #[] 0)).update s.heap.objs.size (Obj.mapSeq (·++vs.toArray))).push (seqObj "list" vs.toArray 0)=h1 at kp Xr;have kk:∀h':Heap,(∀b o,b≠s.heap.objs.size+1->h1.get? b=some o->h'.get? b=some o)->∀b o,s.heap.get? b=some o->h'.get? b=some o:=λh' q b o e=>q b o (yS (jO (zZ e))) (kp b o e);refine zW (xY (qX slot_list_sort ⟨_,Xr,rfl⟩ entry_list_sort (SM Xr TM z κ (λa h' q=>hk a h' (kk h' q)) (λa h' q=>Q0 a h' (kk h' q)) λh' c q e=>⟨_,rfl,?_⟩) (args_list_sort _)));exact zX ⟨_,rfl,h h' _ c (kk h' q) (by lia) e⟩
end T9
namespace Dl
open PySem L2 PySem.Spec PyProof.Rows
def CW(i:Nat)(fz:List Nat)(f:Env->Option (List D)):ao->Option Out:=λρ=>(f (bx (hand fz 0 ρ))).bind λus=>oJ i (λds=>if ds.length+us.length<=sizeLine then some (ds++us) else none) (hand fz 0 ρ)
def Di(i:Nat)(fz:List Nat)(hN:X.N[i]?=some x)(hv:BB X.env.scope x)(h:DF X e f)(hd:(x == ("__debug__":Str))=false:=by decide)(Rp:(x == ("__classdict__":Str))=false:=by decide)
  (Ri:((backTo QS (starEach [e] X.env)).all (λx=>!x.1)&&(backToKw QS (keywordEach [] X.env)).all (λx=>x.1.isSome)&&decide ([e].length+([]:List Keyword).length+(if ([]:List Keyword).isEmpty then 0 else 1) < 30))=true:=by rfl)
  (QU:(apos.endLine == QS.line)=true:=by rfl) (hs:starEach [e] X.env=(false,eval e X.env)::starEach [] X.env:=by rfl) :
  DS X QL QM (.Expr (.Call (.Attribute (.Name x px) "extend" apos) [e] [] QS) pos) (CW i fz f) :=
 bT (mL (qm qP PySem.F.slot_list_extend PySem.F.type_list_extend C9 (fR hN hv hd Rp) (bY h eX hs) rfl Ri QU hs rfl)) λE σ H ⟨HF,ρ,o,S,hg,q⟩=>by
  let⟨us,h1,hg⟩:=bs hg;let⟨ds,es,h2,h3,rfl⟩:=kg hg;let⟨QO,s1,S1⟩:=S.hand fz;let⟨a,vs,e1,e2,e3,e5,e4⟩:=S1.own i ds h2;refine⟨.ref a,e1,.inl ⟨rfl,vs,gp.of e2⟩,QO,_,us,S1.gr.fh,S1.Ro,h1,λb ws H' QN G hb hf h' r=>?_⟩;have S2:=S1.grow G;let⟨a',Vw,f1,f2,f3,f5,f4⟩:=S2.own i ds h2;rw[e1] at f1;cases f1;split at h3
  ·rename_i hz;cases h3;exact⟨a,b,Vw,ws,rfl,rfl,f2,h',by rw[f4.length,r.length];exact hz,q σ _ QN (S2.mut h2 e1 f2 (f4.append r)) (s1.trans G.ff)⟩
  ·cases h3
def Ct(ds:List D)(k:Int)(d:D):List D:=let j:=if k < 0 then (k+(ds.length:Int)).toNat else min k.toNat ds.length;ds.take j++d::ds.drop j
def Io:V->List V->Hp->VK->Prop:=λx vs H Q=>∃l xs k y,x=.ref l/\vs=[.int k,y]/\H l=some (.lst xs)/\xs.length < sizeLine/\-(2 ^ 62)<=k/\k < 2 ^ 62 /\
 Q .QK (upd H l (.lst (xs.take (if k < 0 then (k+(xs.length:Int)).toNat else min k.toNat xs.length)++y::xs.drop (if k < 0 then (k+(xs.length:Int)).toNat else min k.toNat xs.length))))
def DR:M5 X "list.insert" Io:=by
 intro pins s σ H x vs v us Q I rx rv h;let⟨l,xs,k,y,rfl,rfl,hH,hz,k1,k2,q⟩:=h;cases rx;let⟨u1,u2,rfl,⟨t,rfl⟩,ru⟩:=L2.aD.two rv;let⟨z,its,n,r,hl,e⟩:=I.U2 hH;have WH:¬(!Builtin.List.listFitsIndex k)=true:=by
  have:Builtin.List.listFitsIndex k=true:=by
   unfold Builtin.List.listFitsIndex;simp?[zG,zK];lia
  rw[this];simp
 refine qY F.slot_list_insert ⟨_,e,rfl⟩ F.entry_list_insert (F.args_list_insert_3 _ _ _) (AutoListH.list_insert_list_int_val_1 l its.toArray n k t u2 WH (by rw[zI];lia)) ⟨e,?_⟩;have hlen:its.length=xs.length:=hl.symm;refine⟨.QK,_,I.Ws (its':=its.take (if k < 0 then (k+(xs.length:Int)).toNat else min k.toNat xs.length)++u2::its.drop (if k < 0 then (k+(xs.length:Int)).toNat else min k.toNat xs.length)) hH e ?_ ((r.take _).append (.cons ru (r.drop _))) ?_,rfl,q⟩
 ·dsimp only;rw[zI,hlen];apply Array.toList_inj.mp;simp;exact kJ (by rw[qJ,hlen];exact yN _)
 ·rw[zO,zM,jW,qJ];lia
def Es(i:Nat)(fz:List Nat)(fk f:Env->Option D):ao->Option Out:=λρ=>(fk (aP ρ)).bind λkd=>match kd with
 | .int k=>(nX fz f ρ).bind λp=>oJ i (λds=>if DD k=true/\ds.length < sizeLine then some (Ct ds k p.1) else none) p.2
 | _=>none
def DH(i:Nat)(fz:List Nat)(hN:X.N[i]?=some x)(hv:BB X.env.scope x)(hk:DE X e fk)(h:DE X e2 f)(hd:(x == ("__debug__":Str))=false:=by decide)(Rp:(x == ("__classdict__":Str))=false:=by decide)
  (Ri:((backTo QS (starEach [e,e2] X.env)).all (λx=>!x.1)&&(backToKw QS (keywordEach [] X.env)).all (λx=>x.1.isSome)&&decide ([e,e2].length+([]:List Keyword).length+(if ([]:List Keyword).isEmpty then 0 else 1) < 30))=true:=by rfl)
  (QU:(apos.endLine == QS.line)=true:=by rfl) (hs:starEach [e,e2] X.env=(false,eval e X.env)::starEach [e2] X.env:=by rfl) (Xs:starEach [e2] X.env=(false,eval e2 X.env)::starEach [] X.env:=by rfl) :
  DS X QL QM (.Expr (.Call (.Attribute (.Name x px) "insert" apos) [e,e2] [] QS) pos) (Es i fz fk f) :=
 bT (mL (qm qP PySem.F.slot_list_insert PySem.F.type_list_insert DR (fR hN hv hd Rp) (bY hk (bY h eX Xs) hs) rfl Ri QU hs (by rw[Xs];rfl))) λE σ H ⟨HF,ρ,o,S,hg,q⟩=>by
  let⟨kd,hkd,hg⟩:=bs hg;cases kd<;>try cases hg
  rename_i k;let⟨⟨d,ρ'⟩,h1,hg⟩:=bs hg;let⟨ds,es,h2,h3,rfl⟩:=kg hg;have SK:∃WD,ρ[i]?=some (.own WD):=by
   let⟨d1,_,h1⟩:=bs h1;split at h1
   ·cases h1;exact⟨ds,h2⟩
   ·let⟨d2,_,h1⟩:=ag h1;cases h1;rw[fT] at h2;let⟨s,hs,h2⟩:=ag h2;cases s with
    | QK=>split at h2<;>cases h2
    | nest _=>split at h2<;>cases h2
    | tab _=>split at h2<;>cases h2
    | val _=>split at h2<;>cases h2
    | own xs=>exact⟨xs,hs⟩
  let⟨WD,SK⟩:=SK;let⟨a,vs,e1,e2,e3,e5,e4⟩:=S.own i WD SK;refine⟨.ref a,e1,.inl ⟨rfl,vs,gp.of e2⟩,H,aP ρ,_,.refl _,S.all,hkd,λvk Hk HFk Gk rk=>?_⟩;simp?[Rep] at rk;subst rk;refine nC (S.step Gk.hh) h1 λv H' QN s1 S' sh r=>?_;let⟨a',Vw,f1,f2,f3,f5,f4⟩:=S'.own i ds h2;rw[e1] at f1;cases f1;split at h3
  ·rename_i hz;cases h3;have ok:=hz.1;unfold DD at ok;rw[zG] at ok;refine⟨a,Vw,k,v,rfl,rfl,f2,by rw[f4.length];exact hz.2,yR ok.1,yR ok.2,q σ _ QN (S'.mut h2 e1 f2 ?_) s1⟩;unfold Ct;rw[f4.length];exact (f4.take _).append (au.cons r (f4.drop _))
  ·cases h3
def G6:D->D->Option (List D)
 | .list xs,.list ys=>small (xs++ys)
 | _,_=>none
def Fj(K:W.Frag):R2:=λx y H Q=>∃a b xs ys,x=.ref a/\y=.ref b/\gp K H a xs/\gp K H b ys/\xs.length+ys.length<=sizeLine/\∀p,H p=none->Q (.ref p) (upd H p (.lst (xs++ys)))
def He:gK X (binaryOp .Add) (Fj X.K):=by
 intro pins s σ H x y v u Q I rx ry h;let⟨a,b,xs,ys,rfl,rfl,ha,hb,hz,q⟩:=h;cases rx;cases ry;let⟨its,r1,p1,_⟩:=I.list ha;let⟨Rm,r2,p2,_⟩:=I.list hb;let⟨⟨cls,dd,data,sl⟩,ho,hc,n,hd⟩:=id p1.isList;let⟨⟨XN,UO,data2,UP⟩,TF,TH,n2,hd2⟩:=id p2.isList;simp only at hc hd TH hd2;subst hc hd TH hd2;refine wI ⟨_,ho,rfl⟩ ⟨_,TF,rfl⟩ noFill_list_add seq_list_add PySem.F.slot_list_add PySem.F.entry_list_add (PySem.F.args_list_add_2 _ _) (list_addW a b its.toArray Rm.toArray n n2 dd UO sl UP (by rw[zI,zI,<- r1.length,<- r2.length];exact hz)) ⟨ho,TF,?_⟩;have e:its.toArray++Rm.toArray=(its++Rm).toArray:=by simp
 rw[e];exact⟨.ref s.heap.objs.size,_,I.Wt (t':=s.toks) (r1.append r2) (by rw[zO];exact hz),rfl,q _ I.fresh⟩
def boolsOf:List D->Option (List Bool)
 | []=>some []
 | .bool b::r=>(boolsOf r).map (b::·)
 | _::_=>none
def iA:∀ {ds:List D}{bs:List Bool},boolsOf ds=some bs->ds=bs.map PyData.bool
 | [],bs,h=>by cases h;rfl
 | d::r,bs,h=>by
  cases d<;>simp?[boolsOf] at h<;>try cases h
  let⟨X7,h1,rfl⟩:=ag h;rw[iA h1];rfl
def lQ{K:W.Frag}:∀ {bs:List Bool}{vs:List V},au K H (bs.map PyData.bool) vs->vs=bs.map V.bl
 | [],vs,h=>h.nil_inv
 | b::bs,vs,h=>by
  let⟨v,r,rfl,a,c⟩:=h.cons_inv;simp?[Rep] at a;rw[a,lQ c];rfl
def lz:∀ {bs:List Bool}{us:List Value},aD (bs.map V.bl) us->us=bs.map Value.bool
 | [],us,h=>by cases h;rfl
 | b::bs,us,h=>by
  cases h with
  | cons r rr=>cases r;rw[lz rr];rfl
def range_all(bs:List Bool):(List.range bs.length).all (λi=>bs.getD i false)=bs.all id:=by
 induction bs with
 | nil=>rfl
 | cons b bs ih=>rw[zM,vK,xU,List.all_map,xU];simpa [wN] using jD (b&&·) ih
def range_any(bs:List Bool):(List.range bs.length).any (λi=>bs.getD i false)=bs.any id:=by
 induction bs with
 | nil=>rfl
 | cons b bs ih=>rw[zM,vK,vC,wK,vC];simpa [wN] using jD (b||·) ih
def A9(hc:X.calm=true):eC X (.builtin "all") (λxs H Q=>∃ (a:Addr) (bs:List Bool),xs=[.ref a]/\gp X.K H a (bs.map V.bl)/\Q (.bl (bs.all id)) H):=by
 intro pins s σ H xs us Q I r h;let⟨a,bs,rfl,hq,q⟩:=h;let⟨u,rfl,rx⟩:=vals1 r;cases rx;let⟨its,rv,pl,hz⟩:=I.list hq;have hv:=lz rv;subst hv;have hh:X.A.in1.handled=none:=I.ok.hd hc;refine call_all_walk (qL pl.isList ?_);let⟨o,ho,R1,n,hd⟩:=pl.isList;have Q7:a≠s.heap.objs.size:=yS (zZ ho);refine⟨_,_,_,_,_,_,λi=>bs.getD i false,rfl,Walks.list hh s.heap.objs.size a Q7 (bs.map Value.bool).toArray,⟨⟨_,zY _ rfl,rfl,rfl⟩,pl.isList.push _⟩,λi v s' Q' E' hP hQ=>?_,λh' tk kp=>?_⟩
 ·have e:v=Value.bool (bs.getD i false):=by
   have hP:(bs.map Value.bool).toArray[i]?=some v:=hP;rw[vT,zP] at hP;let⟨b,hb,rfl⟩:=ag hP;rw[zH,hb];rfl
  subst e;exact xX hQ
 ·refine⟨.bl (bs.all id),H,?_,?_,q⟩
  ·exact I.kept (t':=tk) λb o' e=>kp b o' (by simp;exact yS (zZ e)) (zV _ e)
  ·show Value.bool _=Value.bool _;have:=range_all bs;simp?[zI,zE];rw[this]
def mv:List D->Option D:=λds=>(oneOf ds).bind λd=>match d with
 | .list es=>(boolsOf es).map λbs=>.bool (bs.all id)
 | _=>none
def Mb(hc:X.calm=true)(B:oY X "all" (.builtin "all"))(ha:DA X [e] fs)(he:starEach [e] X.env=(false,eval e X.env)::starEach [] X.env:=by rfl):DE X (.Call (.Name "all" p) [e] [] pos) (bh mv fs) :=
 ib (A9 hc) (by
  intro HF H ds vs d Q sm r hg q;let⟨x,hx,hg⟩:=bs hg;rw[gf hx] at r;cases x<;>try cases hg
  let⟨bs,hb,rfl⟩:=ag hg;let⟨v,r',rfl,a,b⟩:=r.cons_inv;rw[b.nil_inv];simp?[Rep] at a;let⟨p,us,rfl,h,rr⟩:=a;rw[iA hb] at rr;have:=lQ rr;subst this;exact⟨p,bs,rfl,sm.seq h,q _ H HF (.refl sm) (by simp[Rep])⟩) B ha (by decide) (by decide) he rfl
abbrev lexLt:=HT.lexLt
def fV:∀a:List Int,lexLt a a=false
 | []=>rfl
 | x::a=>by show HT.lexLt (x::a) (x::a)=false;rw[HT.cD,yM rfl];exact fV a
def d5:∀ {a b c:List Int},lexLt a b=true->lexLt b c=true->lexLt a c=true
 | [],[],_,h,_=>by cases h
 | [],_::_,[],_,h=>by cases h
 | [],_::_,_::_,_,_=>rfl
 | _::_,[],_,h,_=>by cases h
 | _::_,_::_,[],_,h=>by cases h
 | x::a,y::b,z::c,h1,h2=>by
  have h1:HT.lexLt (x::a) (y::b)=true:=h1;have h2:HT.lexLt (y::b) (z::c)=true:=h2;show HT.lexLt (x::a) (z::c)=true;rw[HT.cD] at h1 h2 ⊢;by_cases e1:x=y
  ·rw[yM e1] at h1;by_cases e2:y=z
   ·rw[yM e2] at h2;rw[yM (e1.trans e2)];exact d5 h1 h2
   ·rw[yO e2] at h2;rw[yO (by lia)];have:=yR h2;exact yB (by lia)
  ·rw[yO e1] at h1;have q1:=yR h1;by_cases e2:y=z
   ·rw[yO (by lia)];exact yB (by lia)
   ·rw[yO e2] at h2;have q2:=yR h2;rw[yO (by lia)];exact yB (by lia)
def kb:∀ {a b:List Int},lexLt a b=false->lexLt b a=false->a=b
 | [],[],_,_=>rfl
 | [],_::_,h,_=>by cases h
 | _::_,[],_,h=>by cases h
 | x::a,y::b,h1,h2=>by
  have h1:HT.lexLt (x::a) (y::b)=false:=h1;have h2:HT.lexLt (y::b) (x::a)=false:=h2;rw[HT.cD] at h1 h2;by_cases e:x=y
  ·rw[yM e] at h1;rw[yM e.symm] at h2;rw[e,kb h1 h2]
  ·rw[yO e] at h1;rw[yO (λz=>e z.symm)] at h2;have:=of_decide_eq_false h1;have:=of_decide_eq_false h2;lia
def lexLe(a b:List Int):Bool:=!lexLt b a
def zp(a b c:List Int)(h1:lexLe a b=true)(h2:lexLe b c=true):lexLe a c=true:=by
 unfold lexLe at *;rw[yQ] at *;cases e:lexLt c a with
 | false=>rfl
 | true =>
  cases e1:lexLt a b with
  | true=>rw[d5 e e1] at h2;cases h2
  | false =>
   have:=kb e1 h1;subst this;rw[e] at h2;cases h2
def zq(a b:List Int):(lexLe a b||lexLe b a)=true:=by
 unfold lexLe;cases e1:lexLt b a with
 | false=>rfl
 | true =>
  cases e2:lexLt a b with
  | false=>rfl
  | true=>have:=d5 e1 e2;rw[fV] at this;cases this
def AR(h1:lexLe a b=true)(h2:lexLe b a=true):a=b:=by
 unfold lexLe at *;rw[yQ] at *;exact kb h2 h1
def rR{α:Type}{le:α->α->Bool}(Yb:∀a b,le a b=true->le b a=true->a=b):∀ {l m:List α},l.Perm m->l.Pairwise (λa b=>le a b=true)->m.Pairwise (λa b=>le a b=true)->l=m
 | [],m,p,_,_=>p.nil_eq
 | a::l,[],p,_,_=>by have:=p.length_eq;simp at this
 | a::l,b::m,p,h1,h2=>by
  let⟨h1a,h1b⟩:=List.pairwise_cons.mp h1;let⟨h2a,h2b⟩:=List.pairwise_cons.mp h2;have e:a=b:=by
   have ha:a∈b::m:=p.mem_iff.mp zF;have hb:b∈a::l:=p.mem_iff.mpr zF;rcases List.mem_cons.mp ha with e|ha
   ·exact e
   ·rcases List.mem_cons.mp hb with e|hb
    ·exact e.symm
    ·exact Yb a b (h1a b hb) (h2a a ha)
  subst e;rw[rR Yb (List.perm_cons a |>.mp p) h1b h2b]
def qv(l:List (List Int)):List (List Int):=l.mergeSort lexLe
def FQ(l:List (List Int)):(qv l).Perm l:=List.mergeSort_perm l lexLe
def KS(l:List (List Int)):(qv l).Pairwise (λa b=>lexLe a b=true):=List.pairwise_mergeSort zp zq l
def FW{l:List (List Int)}(p:l.Perm m)(h:l.Pairwise (λa b=>lexLe a b=true)):l=qv m:=rR (λ_ _=>AR) (p.trans (FQ m).symm) h (KS m)
def rk(l:List (List Int))(a:List Int):Int:=((l.countP λb=>lexLt b a:Nat):Int)
def Ke(ha:a∈l):lexLt a b=decide (rk l a < rk l b):=by
 unfold rk;have mono:∀ {a b:List Int},lexLt a b=true->(l.countP λc=>lexLt c a)<=l.countP λc=>lexLt c b:=λ{a b} h=>List.countP_mono_left λc _ hc=>d5 hc h;have strict:∀ {a b:List Int}(ha:a∈l),lexLt a b=true->(l.countP λc=>lexLt c a) < l.countP λc=>lexLt c b:=λ{a b} ha h=>by
  have key:∀m:List (List Int),a∈m->(m.countP λc=>lexLt c a) < m.countP λc=>lexLt c b:=λm hm=>by
   induction m with
   | nil=>cases hm
   | cons x m ih =>
    rw[List.countP_cons,List.countP_cons];have mo:(m.countP λc=>lexLt c a)<=m.countP λc=>lexLt c b:=List.countP_mono_left λc _ hc=>d5 hc h;rcases List.mem_cons.mp hm with e|hm
    ·subst e;rw[fV,h];simp?[yP,qQ,xI];lia
    ·have:=ih hm;by_cases hx:lexLt x a=true
     ·rw[hx,d5 hx h];simp?[xI];lia
     ·have UR:lexLt x a=false:=by simpa using hx
      rw[UR];simp?[yP,qQ];split<;>lia
  exact key l ha
 cases e:lexLt a b with
 | true=>exact (yB (by have:=strict ha e;lia)).symm
 | false =>
  refine (yA ?_).symm;cases e2:lexLt b a with
  | true=>have:=mono e2;lia
  | false=>rw[kb e e2];lia
section
variable {prog:Program}{w:World}{A:Around}{E:Value->Shared->Prop}{s:Shared}
def xt:∀ {us ws:List Value}{ns ms:List Int}(i:Nat),IntsAre us ns->IntsAre ws ms->Q (lexLt ns ms) s->W.KatLex prog w A true (decide (ns.length < ms.length)) Q (us.zip ws) i s
 | [],[],_,_,i,.nil,.nil,h=>h
 | [],_::_,_,_,i,.nil,.cons _ _ _,h=>by
  show Q (decide (0 < _+1)) s;rw[yB (Nat.succ_pos _)];exact h
 | _::_,[],_,_,i,.cons _ _ _,.nil,h=>by
  show Q (decide (_+1 < 0)) s;rw[yA (vO _)];exact h
 | _::us,_::ws,_,_,i,.cons n t r1,.cons m u r2,h=>by
  have h:Q (HT.lexLt (n::_) (m::_)) s:=h;rw[HT.cD] at h;refine W.kat_cons (SeqAt.EqAt.int_int n t m u prog w _ _ ?_);cases e:(n == m) with
  | true =>
   have e':n=m:=eq_of_beq e;rw[yM e'] at h;refine W.kat_yes ?_;have:=xt (i+1) r1 r2 h;simp?[zM,Nat.add_lt_add_iff_right];exact this
  | false =>
   have e':¬ n=m:=λq=>by rw[q] at e;simp at e
   rw[yO e'] at h;refine W.kat_no ?_;by_cases hi:(true&&i == 0)=true
   ·rw[hi];exact oneLt_int h
   ·have R5:(true&&i == 0)=false:=by simpa using hi
    rw[R5];refine W.kat_one _ _ (lt_int ?_);exact h
end
def af(ns:List Int):D:=.tuple (ns.map PyData.int)
def intsOf:List D->Option (List Int)
 | []=>some []
 | .int n::r=>(intsOf r).map (n::·)
 | _::_=>none
def cI:∀ {ds:List D}{ns:List Int},intsOf ds=some ns->ds=ns.map PyData.int
 | [],ns,h=>by cases h;rfl
 | d::r,ns,h=>by
  cases d<;>simp?[intsOf] at h<;>try cases h
  let⟨ns',h1,rfl⟩:=ag h;rw[cI h1];rfl
def aV:∀ns:List Int,intsOf (ns.map PyData.int)=some ns
 | []=>rfl
 | n::ns=>by simp[intsOf,aV ns]
def BV:D->Option (List Int)|.tuple ds=>(intsOf ds).bind λns=>if ns=[] then none else some ns|_=>none
def An(h:BV d=some ns):d=af ns/\ns≠[]:=by
 cases d<;>try cases h
 let⟨ms,h1,h2⟩:=bs h;split at h2
 ·cases h2
 ·rename_i hn;cases h2;rw[cI h1];exact⟨rfl,hn⟩
def DJ(h:ns≠[]):BV (af ns)=some ns:=by
 unfold af BV;simp?[aV,zA];rw[yO h]
def rowsOf:List D->Option (List (List Int))
 | []=>some []
 | d::r=>(BV d).bind λns=>(rowsOf r).map (ns::·)
def ou:∀ {ds:List D}{QT:List (List Int)},rowsOf ds=some QT->ds=QT.map af/\∀ns∈QT,ns≠[]
 | [],QT,h=>by cases h;exact⟨rfl,λ_ z=>by cases z⟩
 | d::r,QT,h=>by
  let⟨ns,h1,h⟩:=bs h;let⟨rest,h2,rfl⟩:=ag h;let⟨e,hn⟩:=An h1;let⟨e2,hn2⟩:=ou h2;refine⟨by rw[e,e2];rfl,λm hm=>?_⟩;rcases List.mem_cons.mp hm with q|q
  ·subst q;exact hn
  ·exact hn2 m q
def o4:∀ {QT:List (List Int)},(∀ns∈QT,ns≠[])->rowsOf (QT.map af)=some QT
 | [],_=>rfl
 | ns::r,h=>by
  simp?[zJ,rowsOf,DJ (h ns zF),zA,o4 λm hm=>h m (zD _ hm),zC]
structure ub(h:Heap)(v:Value)(ns:List Int):Prop where
 ex:∃ (a:Addr) (o:Obj) (its:Array Value) (n:Nat),v=.ref a/\h.get? a=some o/\o.cls=.type "tuple"/\o.data=.seq its n/\IntsAre its.toList ns
def ub.keep(r:ub h v ns)(k:∀b o,h.get? b=some o->h'.get? b=some o):ub h' v ns:=let ⟨a,o,its,n,e,e1,e2,e3,e4⟩:=r.ex;⟨a,o,its,n,e,k _ _ e1,e2,e3,e4⟩
def zk:∀ {vs:List Value}{QT:List (List Int)},Paired (ub h) vs QT->(∀ns∈QT,ns≠[])->∃fs:List Value,W.KatTups h vs fs/\fs.length=vs.length/\∀f∈fs,∃n t,f=Value.int n t
 | _,_,.nil,_=>⟨[],trivial,rfl,λ_ z=>by cases z⟩
 | _,_,.cons (a:=v) (b:=ns) r p,hn=>by
  let⟨fs,h1,h2,h3⟩:=zk p λm hm=>hn m (zD _ hm);let⟨a,o,its,n,rfl,e1,e2,e3,e4⟩:=r.ex;cases hits:its.toList with
  | nil =>
   rw[hits] at e4;cases e4;exact absurd rfl (hn [] zF)
  | cons f rest =>
   rw[hits] at e4;cases e4 with
   | cons m t e5 =>
    have h0:its[0]?=some (.int m t):=by
     have:its.toList[0]?=some (Value.int m t):=by rw[hits];rfl
     simpa using this
    exact⟨.int m t::fs,W.KatTups.cons e1 e2 e3 h0 h1,by simp[h2],λg hg=>by
     rcases List.mem_cons.mp hg with q|q
     ·exact⟨m,t,q⟩
     ·exact h3 g q⟩
def lN:∀ {l:List α}{m:List β}{i:Nat},Paired R l m->i < l.length->R (l.getD i d) (m.getD i d')
 | _,_,i,.nil,h=>by simp at h
 | _,_,0,.cons r _,_=>r
 | _,_,i+1,.cons _ p,h=>by simpa using lN (i:=i) (d:=d) (d':=d') p (by simpa using h)
def yr(hl:T9.U7 s.heap l vs)(hp:Paired (ub s.heap) vs QT)(hn:∀ns∈QT,ns≠[])(TM:vs.length < 64)
  (h:∀ (h':Heap) (D:Addr) (c:Nat),(∀b o,s.heap.get? b=some o->h'.get? b=some o)->s.heap.objs.size<=D->h'.get? D=some (seqObj "list" (T9.QY (λi=>rk QT (QT.getD i [])) vs).toArray c)->Q (.ref D) { s with heap:=h' }) :
  wpAny (model prog w) A (call (.builtin "sorted") [.ref l]) Q E s:=by
 refine T9.U8 hl TM (λi=>rk QT (QT.getD i [])) (tuples' true) (λh2 h' kp Q' q=>?_) (λh2 h' kp i j C hi hj q=>?_) h
 ·have U9:Paired (ub h') vs QT:=Paired.Xy hp λ_ _ r=>r.keep kp;let⟨fs,t,hlen,hf⟩:=zk U9 hn;refine W.kat_kind (s:={ s with heap:=h' }) (T:=.type "int") t (by lia) (λv hv=>?_) (by decide) q;let⟨n,t,rfl⟩:=hf v hv;exact W.Looks.of_pure rfl
 ·have ri:=(lN (d:=Value.none) (d':=[]) hp hi).keep kp;have rj:=(lN (d:=Value.none) (d':=[]) hp hj).keep kp;have hlen:=hp.length;let⟨a,o,its,n,ea,e1,e2,e3,e4⟩:=ri.ex;let⟨b,o',its',n',eb,f1,f2,f3,f4⟩:=rj.ex;unfold W.kas_ask;rw[ea,eb];have Va:QT.getD i []∈QT:=by
   rw[zH,zL (by lia)];exact qB _
  have q':C (lexLt (QT.getD i []) (QT.getD j [])) { s with heap:=h' }:=by
   rw[Ke Va];exact q
  refine W.kat_lt (s:={ s with heap:=h' }) e1 e3 f1 f3 ?_;have:=xt (prog:=prog) (w:=w) (A:=A.in1.in1) (s:={ s with heap:=h' }) 0 e4 f4 q';have l1:its.size=(QT.getD i []).length:=by have:=IntsAre.length e4;simpa using this
  have l2:its'.size=(QT.getD j []).length:=by have:=IntsAre.length f4;simpa using this
  rw[l1,l2];exact this
def vg(z:Nat->Int)(l:List α)(d:α):List α:=if l.length < 2 then l else (SP.run (SP.ee z) (W.kas_sort l.length)).toList.map λi=>l.getD i d
def j4(l:List α)(d:α):(List.range l.length).map (λi=>l.getD i d)=l:=by
 apply jI
 ·simp
 ·intro i h1 h2;simp[h2]
def lY(z:Nat->Int)(l:List α)(d:α):(vg z l d).Perm l:=by
 unfold vg;split
 ·exact List.Perm.refl _
 ·rename_i h;have:=((SP.iH (z:=z) (n:=l.length) (by lia)).1).map λi=>l.getD i d;rw[j4] at this;exact this
def Ig(QT:List (List Int)):vg (λi=>rk QT (QT.getD i [])) QT []=qv QT:=by
 refine FW (lY _ _ _) ?_;unfold vg;split
 ·rename_i h
  match QT,h with
  | [],_=>exact List.Pairwise.nil
  | [a],_=>exact vG _ _
 ·rename_i h;let⟨hp,hs⟩:=SP.iH (z:=λi=>rk QT (QT.getD i [])) (n:=QT.length) (by lia);rw[jF] at hs ⊢;refine hs.imp_of_mem λ{i j} hi hj QQ=>?_;have Vu:j < QT.length:=by have:=hp.mem_iff.mp hj;simpa using this
  unfold lexLe;rw[Ke (l:=QT) (a:=QT.getD j []) (by rw[zH,zL Vu];exact qB _)];simp?[yQ,xC];lia
def yq{K:W.Frag}(z:Nat->Int)(r:au K HF ds vs):au K HF (vg z ds .none) (vg z vs .QK):=by
 unfold vg;rw[r.length];split
 ·exact r
 ·rename_i h;let⟨hp,_⟩:=SP.iH (z:=z) (n:=ds.length) (by lia);have key:∀l:List Nat,(∀i∈l,i < ds.length)->au K HF (l.map λi=>ds.getD i .none) (l.map λi=>vs.getD i .QK):=λl=>by
   induction l with
   | nil=>exactλ_=>au.nil
   | cons i l ih =>
    intro hl;have hi:=hl i zF;let⟨v,e1,e2⟩:=r.getD (zL hi);refine au.cons ?_ (ih λj hj=>hl j (zD _ hj));dsimp only;rw[zH,zH,e1,zL hi];exact e2
  exact key _ λi hi=>by have:=hp.mem_iff.mp hi;simpa using this
def vn(z:Nat->Int)(r:aD vs us):aD (vg z vs .QK) (T9.QY z us):=by
 unfold vg T9.QY;rw[r.length];split
 ·exact r
 ·rename_i h;let⟨hp,_⟩:=SP.iH (z:=z) (n:=us.length) (by lia);have key:∀l:List Nat,(∀i∈l,i < vs.length)->aD (l.map λi=>vs.getD i .QK) (l.map λi=>us.getD i Value.none):=λl=>by
   induction l with
   | nil=>exactλ_=>.nil
   | cons i l ih =>
    intro hl;have hi:=hl i zF;let⟨v,e1,e2⟩:=r.get (zL hi);refine .cons ?_ (ih λj hj=>hl j (zD _ hj));dsimp only;rw[zH,zH,e1,zL hi];exact e2
  exact key _ λi hi=>by have:=hp.mem_iff.mp hi;rw[r.length];simpa using this
def IE(z:Nat->Int)(QT:List (List Int)):vg z (QT.map af) .none=(vg z QT []).map af:=by
 unfold vg;rw[zE];split
 ·rfl
 ·rename_i h;rw[zN];let⟨hp,_⟩:=SP.iH (z:=z) (n:=QT.length) (by lia);refine yI λi hi=>?_;have R5:i < QT.length:=by have:=hp.mem_iff.mp hi;simpa using this
  simp[R5]
def Cz(I:Inv X pins σ H s)(sm:aK HF H):∀ {QT:List (List Int)}{vs:List V}{us:List Value},au X.K HF (QT.map af) vs->aD vs us->Paired (ub s.heap) us QT
 | [],_,_,h,r=>by rw[h.nil_inv] at r;cases r;exact .nil
 | ns::QT,_,_,h,r=>by
  let⟨v,vr,rfl,a,b⟩:=h.cons_inv;cases r with
  | cons r rr =>
   refine .cons ?_ (Cz I sm b rr);unfold af at a;simp?[Rep] at a;let⟨p,ws,rfl,hs,Wo⟩:=a;cases r;let⟨its,rv,⟨o,ho,hc,n,hd⟩,_⟩:=I.tuple (ay sm hs);have:ws=ns.map V.int:=by
    have key:∀ {ns:List Int}{ws:List V},au X.K HF (ns.map PyData.int) ws->ws=ns.map V.int:=λ{ns}=>by
     induction ns with
     | nil=>exactλh=>h.nil_inv
     | cons n ns ih =>
      intro ws h;let⟨v,r,rfl,a,b⟩:=h.cons_inv;simp?[Rep] at a;rw[a,ih b];rfl
    exact key Wo
   subst this;exact⟨p,o,its.toArray,n,rfl,ho,hc,hd,intsAre_of rv⟩
def nh:eC X (.builtin "sorted") (λxs H Q=>∃ (HF:Hp) (a:Addr) (vs:List V) (QT:List (List Int)),xs=[.ref a]/\aK HF H/\(gp X.K HF a vs\/gq X.K HF a vs)/\au X.K HF (QT.map af) vs/\(∀ns∈QT,ns≠[])/\QT.length < 64 /\
  ∀ (Dn:Addr) (us:List V),H Dn=none->au X.K HF ((qv QT).map af) us->Q (.ref Dn) (upd H Dn (.lst us))):=by
 intro pins s σ H xs us Q I r h;let⟨HF,a,vs,QT,rfl,sm,hq,rr,hn,TM,q⟩:=h;let⟨u,rfl,rx⟩:=vals1 r;cases rx;obtain⟨its,rv,pl,hz⟩:∃its:List Value,aD vs its/\T9.U7 s.heap a its/\vs.length<=sizeLine:=by
  rcases hq with hq|hq
  ·let⟨its,rv,pl,hz⟩:=I.list (sm.seq hq);let⟨o,ho,hc,n,hd⟩:=pl.isList;exact⟨its,rv,⟨o,"list",n,.inl rfl,ho,hc,hd⟩,hz⟩
  ·let⟨its,rv,pl,hz⟩:=I.tuple (ay sm hq);let⟨o,ho,hc,n,hd⟩:=(show s.heap.IsTuple a its.toArray from pl)
   exact⟨its,rv,⟨o,"tuple",n,.inr rfl,ho,hc,hd⟩,hz⟩
 have Xt:=rr.length;rw[zE] at Xt;refine yr pl (Cz I sm rr rv) hn (by have:=rv.length;lia) λh' Dn c kp hD e=>?_;have hv:=vn (λi=>rk QT (QT.getD i [])) rv;have hr:=yq (λi=>rk QT (QT.getD i [])) rr;rw[IE,Ig] at hr;refine⟨.ref Dn,_,I.laid (t':=s.toks) (o:=.lst (vg (λi=>rk QT (QT.getD i [])) vs .QK)) kp hD ⟨?_,_,c,hv,e⟩,rfl,q Dn _ (I.QR.fresh hD) hr⟩;rw[(lY _ _ _).length_eq];exact hz
def gz:List D->Option (List D):=λds=>(oneOf ds).bind λd=>match d with
 | .list es=>(rowsOf es).bind λQT=>if QT.length < 64 then some ((qv QT).map af) else none
 | .tuple es=>(rowsOf es).bind λQT=>if QT.length < 64 then some ((qv QT).map af) else none
 | _=>none
def D3(B:oY X "sorted" (.builtin "sorted"))(ha:DA X [e] fs)(he:starEach [e] X.env=(false,eval e X.env)::starEach [] X.env:=by rfl):DF X (.Call (.Name "sorted" p) [e] [] pos) (rE gz fs) :=
 Gv nh (by
  intro HF H ds vs d Q sm r hg q;let⟨x,hx,hg⟩:=bs hg;rw[gf hx] at r;have key:∀ (b:Bool) (es:List D),au X.K HF [if b then .tuple es else .list es] vs->((rowsOf es).bind λQT=>if QT.length < 64 then some ((qv QT).map af) else none)=some d->(∃ (HF:Hp) (a:Addr) (us:List V) (QT:List (List Int)),vs=[.ref a]/\aK HF H/\(gp X.K HF a us\/gq X.K HF a us)/\au X.K HF (QT.map af) us/\(∀ns∈QT,ns≠[])/\QT.length < 64/\∀ (Dn:Addr) (ws:List V),H Dn=none->au X.K HF ((qv QT).map af) ws->Q (.ref Dn) (upd H Dn (.lst ws))):=λb es r hg=>by
   let⟨QT,hb,hg⟩:=bs hg;split at hg
   ·rename_i TM;cases hg;let⟨v,r',rfl,a,e0⟩:=r.cons_inv;rw[e0.nil_inv];let⟨e1,e2⟩:=ou hb;obtain⟨p,us,rfl,h,rr⟩:∃p us,v=.ref p/\(gp X.K HF p us\/gq X.K HF p us)/\au X.K HF es us:=by
     cases b
     ·simp?[yP,qQ,Rep] at a;let⟨p,us,rfl,h,rr⟩:=a;exact⟨p,us,rfl,.inl h,rr⟩
     ·simp?[xI,Rep] at a;let⟨p,us,rfl,h,rr⟩:=a;exact⟨p,us,rfl,.inr h,rr⟩
    rw[e1] at rr;exact⟨HF,p,us,QT,rfl,sm,h,rr,e2,TM,λDn ws hD hr=>q Dn ws _ HF (.own sm hD) hD (sm.free hD) aC hr⟩
   ·cases hg
  cases x<;>try cases hg
  ·exact key false _ r hg
  ·exact key true _ r hg) B ha (by decide) (by decide) he rfl
end Dl
namespace En
open PySem PyProof.Rows
open AutoSeq1 (wpAny_loadPart')
def SN(hj:s.heap.IsTupleIter j t k)(ht:s.heap.IsTuple t its)(hv:its[k]?=some v)
  (hQ:∀g,g.IsTupleIter j t (k+1)->Heap.SameBut j s.heap g->Q v { s with heap:=g }):wpAny (model prog w) A (Builtin.SmallTypes.nextOf (.ref j)) Q E s:=by
 let⟨oj,gj,cj,dj⟩:=id hj;let⟨ot,gt,_,nt,dt⟩:=ht;unfold Builtin.SmallTypes.nextOf;refine zW (qD (name:=Str.ofString "__next__") hj.typeIs jR (qX jR hj.typeIs F.entry_tuple_iterator_next ?_ (F.args_tuple_iterator_next_1 _)));refine zW (m:=field (.ref j) 0) (qU gj dj (x:=.ref t) rfl ?_);show wpAny _ _ (if (Value.ref t == Value.none)=true then _ else _) _ _ s;rw[yO (show ¬ ((Value.ref t == Value.none)=true) by exact xA)];refine zW (m:=field (.ref j) 1) (qU gj dj (x:=.int k 0) rfl ?_);refine zW (m:=seqItems? (.ref t)) (kG gt dt ?_);simp?[yH,hv];refine zW (wpAny_setField gj dj (by simp) (zX ⟨v,rfl,zX (hQ _ ⟨_,Heap.get?_update_self _ gj (Obj.isFreed_of_fields (Obj.data_mapFields dj _)),(Obj.cls_mapFields ..).trans cj,?_⟩ (Heap.SameBut.update ..))⟩));rw[Obj.data_mapFields dj];simp[rawInt]
def TN{Q:Value->Shared->Prop}(hh:A.handled=none)(hj:s.heap.IsTupleIter j t k)(ht:s.heap.IsTuple t its)(hv:its[k]?=none)
  (hE:∀g x,Heap.ExtBut j s.heap g->(∃o,g.get? x=some o/\o.cls=.type "StopIteration")->E (.ref x) { s with heap:=g }):wpAny (model prog w) A (Builtin.SmallTypes.nextOf (.ref j)) Q E s:=by
 let⟨oj,gj,cj,dj⟩:=id hj;let⟨ot,gt,_,nt,dt⟩:=ht;unfold Builtin.SmallTypes.nextOf;refine zW (qD (name:=Str.ofString "__next__") hj.typeIs jR (qX jR hj.typeIs F.entry_tuple_iterator_next ?_ (F.args_tuple_iterator_next_1 _)));refine zW (m:=field (.ref j) 0) (qU gj dj (x:=.ref t) rfl ?_);show wpAny _ _ (if (Value.ref t == Value.none)=true then _ else _) _ _ s;rw[yO (show ¬ ((Value.ref t == Value.none)=true) by exact xA)];refine zW (m:=field (.ref j) 1) (qU gj dj (x:=.int k 0) rfl ?_);refine zW (m:=seqItems? (.ref t)) (kG gt dt ?_);simp?[yH,hv];refine zW (wA (zW (wpAny_setField gj dj (by simp) (zW (m:=newExc (.type "StopIteration") []) ?_))));simp?[newExc,newTuple];refine zW (qM (zW (m:=firstArgMember _ _) (wpAny_of_eq (a:=Value.none) (by first|rfl|(simp?[firstArgMember];rfl)) ?_)) (by size_fits));refine qM ?_ (by size_fits);simp?[raiseNew];refine zW (wpAny_handled ?_)
 first|rw[show A.in1.handled=none from hh]|rw[hh]
 exact zW (zX (wpAny_throw (hE _ _ (((Heap.SameBut.update ..).extBut.push _).push _) ⟨_,zY _ rfl,rfl⟩)))
def Sk(t:Addr)(its:Array Value)(n:Nat)(dd:Option Addr)(sl:Array (Option Value)) :
  Meets (Builtin.«enumerate.__new__» ⟨[.type "enumerate",.ref t],[]⟩) (λ_ R s=>s.heap.get? t=some { cls:=.type "tuple",dict:=dd,data:=.seq its n,slots:=sl } /\
   R (.ok (.ret (.ref (s.heap.push { cls:=.type "tuple_iterator",data:=.fields #[.ref t,.int 0 0] }).objs.size)))
    { s with heap:=(s.heap.push { cls:=.type "tuple_iterator",data:=.fields #[.ref t,.int 0 0] }).push { cls:=.type "enumerate",data:=.fields #[.none,.bool false,.ref s.heap.objs.size,rawInt 0,.none,.none] } }) :=
 .of_wp λprog w A R s h=>by
  let⟨hp,g,d,tk,os⟩:=s;let⟨hl,h⟩:=h;have SO:=sub_enumerate;have hL:Heap.IsTuple (Shared.heap ⟨hp,g,d,tk,os⟩) t its:=⟨_,hl,rfl,n,rfl⟩
  wp_walk using wpAny_loadPart' hl
  refine wpAny_stack_any λst=>zX ?_;split
  ·rename_i c _ _ _ _ _;cases (c == Value.type "enumerate")
   ·wp_walk using wpAny_loadPart' hl,xS hL
    exact⟨_,rfl,h⟩
   ·wp_walk using wpAny_loadPart' hl,xS hL
    exact⟨_,rfl,h⟩
  ·wp_walk using wpAny_loadPart' hl,xS hL
   exact⟨_,rfl,h⟩
def SQ(ht:s.heap.IsTuple t its)
  (h:∀h',IsEnum h' (s.heap.objs.size+1) s.heap.objs.size 0 .none->h'.IsTupleIter s.heap.objs.size t 0->h'.objs.size=s.heap.objs.size+2->(∀b o,s.heap.get? b=some o->h'.get? b=some o)->Q (.ref (s.heap.objs.size+1)) { s with heap:=h' }) :
  wpAny (model prog w) A (call (.type "enumerate") [.ref t]) Q E s:=by
 let⟨⟨c,dct,dt,sl⟩,hl,hc,n,hd⟩:=ht;simp only at hc hd;subst hc hd;refine callType_new F.called_enumerate (by decide) (F.typeCall_enumerate_1 _) (F.newCall_enumerate_1 _) (λobj=>F.args_object_init_2 obj _) F.entry_enumerate_new (Sk t its n dct sl) ⟨hl,?_⟩;have hz:(s.heap.push { cls:=.type "tuple_iterator",data:=.fields #[.ref t,.int 0 0] }).objs.size=s.heap.objs.size+1:=by rw[xK]
 have he:=zY (s.heap.push { cls:=.type "tuple_iterator",data:=.fields #[.ref t,.int 0 0] }) (o:={ cls:=.type "enumerate",data:=.fields #[.none,.bool false,.ref s.heap.objs.size,rawInt 0,.none,.none] }) rfl;show _/\_;rw[hz] at he ⊢;refine⟨⟨_,he,rfl⟩,h _ he ⟨_,zV _ (zY _ rfl),rfl,rfl⟩ ?_ λb o x=>zV _ (zV _ x)⟩;show (Heap.push _ _).objs.size=_;rw[xK,hz]
end En
namespace Dl
open PySem L2 PySem.Spec PyProof.Rows
section
variable {ch:List Addr}
def ye(I:Inv X pins σ H s)(R7:∀b∈ch,cB X pins H b)(k:∀b o,b∉ch->s.heap.get? b=some o->h'.get? b=some o){T:Addr}{vals:List Value}{xs:List V}(hT:s.heap.objs.size<=T)(ht:pb h' T vals.toArray)
  (rv:aD xs vals) (hz:xs.length<=sizeLine):Inv X pins σ (upd H T (.tup xs)) { s with heap:=h',toks:=t' }:=by
 have nT:H T=none:=I.QR.fresh hT;have ne:∀b o,s.heap.get? b=some o->b≠T:=λb o e=>yS (zQ (zZ e) hT);have ne2:∀b o,H b=some o->b≠T:=λb o e=>aA e nT;have TC:∀b o,H b=some o->b∉ch:=λb o e z=>by rw[(R7 b z).1] at e;cases e
 refine I.step (g':=s.gens) (d':=s.drawn) (ch:=ch) (λb hb=>?_) (λb o _ _ hc e _=>k b o hc e) (λb o _ _ hc e _=>⟨o.slots,k b o hc e⟩) (λb o _ e n=>by rw[av (ne b o e)];exact n)
  (λb o hc e=>⟨o,k b o hc e⟩) (λb ys e=>by rw[av (ne2 b _ e)];exact e) (λb o u e=>by rw[av (ne2 b _ e)];exact e) (.kept (λb u ⟨q,z⟩ e=>k b u (TC b _ z) e) λb u e _=>by rw[av (ne2 b _ e)];exact e) (λm hm=>?_) (λb u e=>?_) I.bare
 ·let⟨f0,f1,f2,f3,f4,f5⟩:=R7 b hb;exact⟨f3,f1,f4,f5⟩
 ·let⟨o,es,ep,ho,r⟩:=hm;exact⟨o,es,ep,k _ o (λz=>(R7 _ z).2.1 rfl) ho,r⟩
 ·by_cases hb:b=T
  ·subst hb;rw[aC] at e;cases e;exact⟨hz,vals,rv,ht⟩
  ·rw[av hb] at e;refine (I.QR b u e).Rr (λc v hc q=>k c v ?_ q) (λ_ q=>?_) λc v q _=>?_
   ·rcases hc with z|z
    ·rw[z];exact TC b u e
    ·exact TC c _ z
   all_goals first
    | (rw[av (ne2 _ _ q)];exact q)
    | exact q
def Og(I:Inv X pins σ H s)(hf:cB X pins H b)(h:X.K.lookup a=some o):a≠b:=by
 rintro rfl;have hb:=I.ok.mod.XC a o h;rcases hf.2.2.2.1 with z|z
 ·exact I.ok.Tz a o hb z
 ·exact absurd (zQ (zZ (I.ok.bs a o hb).1) z) (qF _)
def LG(I:Inv X pins σ H s)(hf:cB X pins H b)(h:gp X.K H a xs):a≠b:=by
 rcases h with (h|⟨o,h⟩)|⟨o,its,n,h,_⟩
 ·exact aA h hf.1
 ·exact aA h hf.1
 ·exact Og I hf h
def KO(I:Inv X pins σ H s)(hf:cB X pins H b)(h:gq X.K H a xs):a≠b:=by
 rcases h with (h|⟨o,h⟩)|⟨o,its,n,h,_⟩
 ·exact aA h hf.1
 ·exact aA h hf.1
 ·exact Og I hf h
end
def Pd(sq:Hp->List V->Prop):It:=⟨λi H=>∃xs x,sq H xs/\xs[i]?=some x,λi H v H'=>∃T y,v=.ref T/\H T=none/\H'=upd H T (.tup [.int (i:Nat),y])/\∀xs,sq H xs->xs[i]?=some y,λi H=>∃xs,sq H xs/\xs.length<=i⟩
def bu(k:Nat):List D->List D
 | []=>[]
 | d::ds=>.tuple [.int (k:Nat),d]::bu (k+1) ds
def tH:∀ {ds:List D}{k i:Nat}{d:D},(bu k ds)[i]?=some d->∃x,ds[i]?=some x/\d=.tuple [.int ((k+i:Nat):Int),x]
 | [],k,i,d,h=>by simp[bu] at h
 | x::ds,k,0,d,h=>by simp[bu] at h;exact⟨x,rfl,h.symm⟩
 | x::ds,k,i+1,d,h=>by
  simp?[bu,yZ] at h;let⟨y,h1,h2⟩:=tH h;refine⟨y,by simpa using h1,?_⟩;rw[h2,show k+1+i=k+(i+1) by lia]
def r8:∀ (ds:List D) (k:Nat),(bu k ds).length=ds.length
 | [],k=>rfl
 | x::ds,k=>by simp[bu,r8 ds (k+1)]
def CU{K:W.Frag}(h:sq HF vs)(mo:∀H H',aK H H'->sq H vs->sq H' vs)(r:au K HF ds vs):rS K (Pd sq) HF (bu 0 ds) where
 go:=λi d Rb QV e s1 s2=>by
  let⟨x,hx,rfl⟩:=tH e;rw[jE];let⟨v,hv,rv⟩:=r.getD hx;have q:=mo _ _ s2 (mo _ _ s1 h);refine⟨⟨vs,v,q,hv⟩,λy SJ ⟨T,z,e1,hT,e2,hy⟩=>?_⟩;have:=hy vs q;rw[hv] at this;cases this;subst e1 e2;exact⟨_,.new s2 hT,d4 (s2.free hT) (au.cons (by simp[Rep]) (au.cons (rv.mono s1) au.nil))⟩
 stop:=λRb QV s1 s2=>⟨vs,mo _ _ s2 (mo _ _ s1 h),by rw[r8,r.length];exact yN _⟩
def OY(WI WJ:Hp->List V->Prop):It:=⟨λi H=>∃xs ys x y,WI H xs/\WJ H ys/\xs[i]?=some x/\ys[i]?=some y,
 λi H v H'=>∃T x y,v=.ref T/\H T=none/\H'=upd H T (.tup [x,y])/\(∀xs,WI H xs->xs[i]?=some x)/\∀ys,WJ H ys->ys[i]?=some y,
 λi H=>∃xs ys,WI H xs/\WJ H ys/\(xs.length<=i\/ys.length<=i)⟩
section
variable {ch:List Addr}
def C4(I:Inv X pins σ H s)(R7:∀b∈ch,cB X pins H b)(k:∀b o,b∉ch->s.heap.get? b=some o->h'.get? b=some o):Inv X pins σ H { s with heap:=h',toks:=t' }:=by
 have TC:∀b o,H b=some o->b∉ch:=λb o e z=>by rw[(R7 b z).1] at e;cases e
 refine I.step (g':=s.gens) (d':=s.drawn) (ch:=ch) (λb hb=>?_) (λb o _ _ hc e _=>k b o hc e) (λb o _ _ hc e _=>⟨o.slots,k b o hc e⟩) (λb o _ e n=>n)
  (λb o hc e=>⟨o,k b o hc e⟩) (λb ys e=>e) (λb o u e=>e) (.kept (λb u ⟨q,z⟩ e=>k b u (TC b _ z) e) λb u e _=>e) (λm hm=>?_) (λb u e=>?_) I.bare
 ·let⟨f0,f1,f2,f3,f4,f5⟩:=R7 b hb;exact⟨f3,f1,f4,f5⟩
 ·let⟨o,es,ep,ho,r⟩:=hm;exact⟨o,es,ep,k _ o (λz=>(R7 _ z).2.1 rfl) ho,r⟩
 ·refine (I.QR b u e).Rr (λc v hc q=>k c v ?_ q) (λ_ q=>q) λc v q _=>q;rcases hc with z|z
  ·rw[z];exact TC b u e
  ·exact TC c _ z
end
structure Qq(z TI TO i1 i2:Addr):Prop where
 a1:TI≠z
 a2:TO≠z
 a3:i1≠z
 a4:i2≠z
 a5:TI≠TO
 a6:TI≠i1
 a7:TI≠i2
 a8:TO≠i1
 a9:TO≠i2
 a0:i1≠i2
def ja:List D->List D->List D
 | x::xs,y::ys=>.tuple [x,y]::ja xs ys
 | _,_=>[]
def pK:∀ {xs ys:List D}{i:Nat}{d:D},(ja xs ys)[i]?=some d->∃x y,xs[i]?=some x/\ys[i]?=some y/\d=.tuple [x,y]
 | [],_,i,d,h=>by simp[ja] at h
 | _::_,[],i,d,h=>by simp[ja] at h
 | x::xs,y::ys,0,d,h=>by simp[ja] at h;exact⟨x,y,rfl,rfl,h.symm⟩
 | x::xs,y::ys,i+1,d,h=>by
  simp?[ja,yZ] at h;let⟨a,b,h1,h2,h3⟩:=pK h;exact⟨a,b,by simpa using h1,by simpa using h2,h3⟩
def mQ:∀ (xs ys:List D),(ja xs ys).length=min xs.length ys.length
 | [],_=>by simp[ja]
 | _::_,[]=>by simp[ja]
 | x::xs,y::ys=>by simp[ja,mQ xs ys]
def E1{K:W.Frag}(h1:WI HF vs)(mo1:∀H H',aK H H'->WI H vs->WI H' vs)(h2:WJ HF us)(mo2:∀H H',aK H H'->WJ H us->WJ H' us)(r1:au K HF xs vs)(r2:au K HF ys us) :
  rS K (OY WI WJ) HF (ja xs ys) where
 go:=λi d Rb QV e s1 s2=>by
  let⟨x,y,hx,hy,rfl⟩:=pK e;let⟨v,hv,rv⟩:=r1.getD hx;let⟨u,hu,ru⟩:=r2.getD hy;have q1:=mo1 _ _ s2 (mo1 _ _ s1 h1);have q2:=mo2 _ _ s2 (mo2 _ _ s1 h2);refine⟨⟨vs,us,v,u,q1,q2,hv,hu⟩,λw SJ ⟨T,a,b,e1,hT,e2,ha,hb⟩=>?_⟩;have ea:=ha vs q1;have eb:=hb us q2;rw[hv] at ea;rw[hu] at eb;cases ea;cases eb;subst e1 e2;exact⟨_,.new s2 hT,d4 (s2.free hT) (au.cons (rv.mono s1) (au.cons (ru.mono s1) au.nil))⟩
 stop:=λRb QV s1 s2=>⟨vs,us,mo1 _ _ s2 (mo1 _ _ s1 h1),mo2 _ _ s2 (mo2 _ _ s1 h2),by rw[mQ,r1.length,r2.length];lia⟩
def cut(xs:List α)(lo hi:Option Int):List α:=(xs.drop (HT.dq xs.length 0 lo)).take (HT.dq xs.length xs.length hi - HT.dq xs.length 0 lo)
def Ic(xs:List α)(lo hi:Option Int):(cut xs lo hi).length<=xs.length:=by
 unfold cut;rw[jW,qJ];lia
def pQ{K:W.Frag}(r:au K H ds vs)(lo hi:Option Int):au K H (cut ds lo hi) (cut vs lo hi):=by
 unfold cut;rw[r.length];exact (r.drop _).take _
section
def CM{vl:Value}{lo:Option Int}(ht:IsTup s.heap t its)(hs:s.heap.IsSliceOf sl vl vu .none)(pl:IsPart vl lo)(pu:IsPart vu hi)
  (hw:HT.dq its.size 0 lo=0/\HT.dq its.size its.size hi=its.size) (h:Q (.ref t) s):wpAny (model prog w) A (getItem (.ref t) (.ref sl)) Q E s:=by
 let⟨os,Wn,hcs,Vp⟩:=id hs;have hTs:s.TypeIs (.ref sl) "slice":=⟨os,Wn,hcs⟩
 unfold getItem
 try with_reducible refine xY ?_
 first|refine zW (zX ?_)|skip
 refine zW (wpAny_sequenceKey ht.typeIs (by decide) (zW (qD (name:=Str.ofString "__getitem__") ht.typeIs jG (qX jG ht.typeIs entry_tuple_getitem ?_ (args_tuple_getitem _ _)))));refine zW (m:=Builtin.Tuple.tupleItemsOf (.ref t)) (tupleItemsOf_ ht (zW (wG hTs ?_)));rw[yM (by decide)];refine zW (HT.ie hs pl pu ?_);show wpAny _ _ (if (((HT.dq its.size 0 lo:Nat):Int) == 0&&(1:Int) == 1&&(HT.dq its.size its.size hi - HT.dq its.size 0 lo) == its.size)=true then _ else _) _ _ s;rw[hw.1,hw.2,yM (by simp)];unfold Builtin.Tuple.tupleIsExact;refine zW (zW (wG ht.typeIs (zX ?_)));rw[yM (by decide)]
 first
  | exact zW (wA (zX ⟨_,rfl,zX h⟩))
  | exact zW (wA (zW (zX (zX ⟨_,rfl,zX h⟩))))
def O3(K:W.Frag):V->Option Int->Option Int->Hp->VK->Prop:=λx lo hi H Q=>∃a xs,x=.ref a/\gq K H a xs/\(cut xs lo hi=xs->Q (.ref a) H)/\∀p,H p=none->Q (.ref p) (upd H p (.tup (cut xs lo hi)))
def MM:Kc X (O3 X.K):=by
 intro pins s σ H x v vl vu lo hi sl Q I rx hs pl pu h;let⟨a,xs,rfl,hx,q1,q2⟩:=h;by_cases hw:HT.dq xs.length 0 lo=0/\HT.dq xs.length xs.length hi=xs.length
 ·cases rx;let⟨its,r,ht,hz⟩:=I.tuple hx;have hlen:its.toArray.size=xs.length:=by rw[zI];exact r.length.symm
  refine⟨"tuple",_,PyProof.Rows.slot_tuple_getitem.lookup,ht.typeIs,CM ht hs pl pu (by rw[hlen];exact hw) ⟨.ref a,H,I,rfl,q1 ?_⟩⟩;unfold cut;rw[hw.1,hw.2,List.drop_zero,Nat.sub_zero,List.take_length]
 ·exact Lq pins s σ H (.ref a) v vl vu lo hi sl Q I rx hs pl pu ⟨a,xs,rfl,hx,hw,q2⟩
def O2(K:W.Frag):V->Option Int->Option Int->Hp->VK->Prop:=λx lo hi H Q=>∃a xs,x=.ref a/\gp K H a xs/\∀p,H p=none->Q (.ref p) (upd H p (.lst (cut xs lo hi)))
def Ah(lo hi:Option Int)(n:Nat):sliceBounds lo hi none n=(((HT.dq n 0 lo:Nat):Int),((HT.dq n n hi:Nat):Int),1):=by
 have h1:(1:Int) > 0:=by lia
 refine Prod.ext ?_ (Prod.ext ?_ rfl)
 ·cases lo with
  | none=>simp[sliceBounds,HT.dq]
  | some x =>
   by_cases h:x < 0
   ·simp?[sliceBounds,HT.dq,kM,h1,xI,yM h];lia
   ·simp?[sliceBounds,HT.dq,kM,h1,xI,yO h];lia
 ·cases hi with
  | none=>simp[sliceBounds,HT.dq]
  | some x =>
   by_cases h:x < 0
   ·simp?[sliceBounds,HT.dq,kM,h1,xI,yM h];lia
   ·simp?[sliceBounds,HT.dq,kM,h1,xI,yO h];lia
def HH:Kc X (O2 X.K):=by
 intro pins s σ H x v vl vu lo hi sl Q I rx hs pl pu h;let⟨a,xs,rfl,hx,q⟩:=h;cases rx;let⟨its,r,p,hz⟩:=I.list hx;have hlen:=r.length;refine⟨"list",_,slot_list_getitem.lookup,p.isList.typeIs,wpAny_getItem_list_slice p.isList hs pl pu .none (by simp) ?_ (by rw[zI];lia)⟩;rw[W.kmk_pick_nat its.toArray (Ah lo hi its.toArray.size)];have e:((its.toArray.toList.drop (HT.dq its.toArray.size 0 lo)).take (HT.dq its.toArray.size its.toArray.size hi - HT.dq its.toArray.size 0 lo))=cut its lo hi:=by unfold cut;simp
 rw[e];have rc:aD (cut xs lo hi) (cut its lo hi):=by unfold cut;rw[hlen];exact (r.drop _).take _
 exact⟨.ref s.heap.objs.size,_,I.Wt (t':=s.toks) rc (yE (Ic xs lo hi) hz),rfl,q _ I.fresh⟩
def Qx(K:W.Frag)(f:Env->Option (Option Int)):TO:=λσ H Q=>∃HF ρ o,aK HF H/\cH K HF ρ σ/\f ρ=some o/\∀H' QN,bR HF H QN H'->Q o H'
def DO(X:Cx)(e:Option Expr)(f:Env->Option (Option Int)):Prop:=PO X e (Qx X.K f)
def gX:Env->Option (Option Int):=λ_=>some none
def gI:D->Option Int|.int i=>some i|_=>none
def sg(f:Env->Option D):Env->Option (Option Int):=λρ=>(f ρ).bind λd=>(gI d).map some
def IJ:DO X none gX:=λpins s σ H Q I ⟨HF,ρ,o,sm,eo,hf,q⟩=>IA pins s σ H Q I (by cases hf;exact q H HF (.refl sm))
def Hx(h:DE X e f):DO X (some e) (sg f):=λpins s σ H Q I ⟨HF,ρ,o,sm,eo,hf,q⟩=>IU h pins s σ H Q I (by
 let⟨d,hd,hf⟩:=bs hf;let⟨i,hi,rfl⟩:=ag hf;cases d<;>try cases hi
 exact⟨HF,ρ,_,sm,eo,hd,λv H1 QO g1 r1=>⟨_,by simpa only[Rep] using r1,q H1 QO g1⟩⟩)
variable {lo hi:Option Expr}{fl fh:Env->Option (Option Int)}
def hC(g:D->Option Int->Option Int->Option β)(fa:Env->Option D)(fl fh:Env->Option (Option Int)):Env->Option β:=λρ=>(fa ρ).bind λx=>(fl ρ).bind λl=>(fh ρ).bind λh=>g x l h
end
def f1(g:D->Option D)(f:Env->Option D):Env->Option D:=λρ=>(f ρ).bind g
end Dl
namespace HT
open PySem PyProof.Rows
section
open PySem.SeqAt
open PySem.AutoSeq1 (wpAny_loadPart')
open PySem.MeetsSeq PySem.MeetsSeq2 PySem.MeetsSeq3
end
end HT
namespace Dl
open PySem L2 PySem.Spec PyProof.Rows
def gG:D->Option (List Int)|.tuple ds=>intsOf ds|_=>none
def iz(h:gG x=some ns):x=.tuple (ns.map PyData.int):=by
 cases x<;>try cases h
 rename_i xs;have h:intsOf xs=some ns:=h;rw[cI h]
end Dl
namespace En
open PySem PyProof.Rows
open AutoSeq1 (wpAny_loadPart')
def SR:fillsNumberSlot (.type "tuple") "mul"=pure false:=PySem.fillsNumberSlot_seq (id:="tuple.__mul__") (r:=some (.builtin "tuple.__rmul__")) F.slot_tuple_mul.lookup (by decide +kernel) F.slot_tuple_rmul.lookup (by decide +kernel)
def SS:seqRepeat? (.type "tuple")=pure (some (.builtin "tuple.__mul__")):=by
 unfold seqRepeat?;rw[PySem.seqSlot_of (T:="tuple") (name:="__mul__") (id:="tuple.__mul__") F.slot_tuple_mul.lookup (by decide +kernel),PySem.seqSlot_of (T:="tuple") (name:="__rmul__") (id:="tuple.__rmul__") F.slot_tuple_rmul.lookup (by decide +kernel)];rfl
def Uo(a:Int)(t:Tok)(l:Addr)(its:Array Value)(n:Nat)(dd:Option Addr)(sl:Array (Option Value)) :
  Meets (Builtin.«int.__rmul__» ⟨[.int a t,.ref l],[]⟩) (λ_ R s=>s.heap.get? l=some { cls:=.type "tuple",dict:=dd,data:=.seq its n,slots:=sl }/\R (.ok (.ret Value.notImplemented)) s) :=
 .of_wp λprog w A R s h=>by
  let⟨hp,g,d,tk,os⟩:=s;let⟨hl,h⟩:=h
  wp_walk
  exact⟨_,rfl,h⟩
def TQ(l:Addr)(its:Array Value)(n:Nat)(dd:Option Addr)(sl:Array (Option Value))(k:Int)(t:Tok)(h1:¬ (decide (k < -(2 ^ 63))||decide (k >= 2 ^ 63))=true)(h2:(its.isEmpty||k == 1)=true) :
  Meets (Builtin.«tuple.__mul__» ⟨[.ref l,.int k t],[]⟩) (λ_ R s=>s.heap.get? l=some { cls:=.type "tuple",dict:=dd,data:=.seq its n,slots:=sl }/\R (.ok (.ret (.ref l))) s) :=
 .of_wp λprog w A R s h=>by
  let⟨hp,g,d,tk,os⟩:=s;let⟨hl,h⟩:=h;have f1:=AutoSeq1.idx_int
  wp_walk using wpAny_loadPart' hl
  rw[yO h1]
  wp_walk using wpAny_loadPart' hl
  exact⟨_,rfl,h⟩
def TR(l:Addr)(its:Array Value)(n:Nat)(dd:Option Addr)(sl:Array (Option Value))(k:Int)(t:Tok)(h1:¬ (decide (k < -(2 ^ 63))||decide (k >= 2 ^ 63))=true)(h2:¬ (its.isEmpty||k == 1)=true)(h3:(decide (k<=0)||its.isEmpty)=true) :
  Meets (Builtin.«tuple.__mul__» ⟨[.ref l,.int k t],[]⟩) (λ_ R s=>s.heap.get? l=some { cls:=.type "tuple",dict:=dd,data:=.seq its n,slots:=sl }/\R (.ok (.ret (.ref s.heap.objs.size))) { s with heap:=s.heap.push { cls:=.type "tuple",data:=.seq #[] } }) :=
 .of_wp λprog w A R s h=>by
  let⟨hp,g,d,tk,os⟩:=s;let⟨hl,h⟩:=h;have f1:=AutoSeq1.idx_int
  wp_walk using wpAny_loadPart' hl
  rw[yO h1]
  wp_walk using wpAny_loadPart' hl
  exact⟨_,rfl,h⟩
def TU(l:Addr)(its:Array Value)(n:Nat)(dd:Option Addr)(sl:Array (Option Value))(k:Int)(t:Tok)(h1:¬ (decide (k < -(2 ^ 63))||decide (k >= 2 ^ 63))=true)(h2:¬ (its.isEmpty||k == 1)=true)(h3:¬ (decide (k<=0)||its.isEmpty)=true)
  (h4:¬ ((its.size:Nat):Int) * k > (2 ^ 63 - 1) / 8) (h5:¬ Builtin.Tuple.tupleTooMany (((its.size:Nat):Int) * k)=true) (hz:((List.replicate k.toNat its).foldl (·++·) #[]).size<=sizeLine) :
  Meets (Builtin.«tuple.__mul__» ⟨[.ref l,.int k t],[]⟩) (λ_ R s=>s.heap.get? l=some { cls:=.type "tuple",dict:=dd,data:=.seq its n,slots:=sl }/\R (.ok (.ret (.ref s.heap.objs.size))) { s with heap:=s.heap.push { cls:=.type "tuple",data:=.seq ((List.replicate k.toNat its).foldl (·++·) #[]) } }) :=
 .of_wp λprog w A R s h=>by
  let⟨hp,g,d,tk,os⟩:=s;let⟨hl,h⟩:=h;have f1:=AutoSeq1.idx_int
  wp_walk using wpAny_loadPart' hl
  rw[yO h1]
  wp_walk using wpAny_loadPart' hl
  rw[yO h4]
  wp_walk using wpAny_loadPart' hl
  exact⟨_,rfl,h⟩
end En
namespace Dl
open PySem L2 PySem.Spec PyProof.Rows
def Kx(K:W.Frag):R2:=λx y H Q=>∃a k xs,x=.ref a/\y=.int k/\gq K H a xs/\-(2 ^ 62)<=k/\k < 2 ^ 62/\xs.length * k.toNat<=sizeLine/\((List.replicate k.toNat xs).flatten=xs->Q (.ref a) H) /\
 ∀p,H p=none->Q (.ref p) (upd H p (.tup (List.replicate k.toNat xs).flatten))
def JK:gK X (binaryOp .Mult) (Kx X.K):=by
 intro pins s σ H x y v u Q I rx ry h;let⟨a,k,xs,rfl,rfl,hq,k1,k2,hz,q1,q2⟩:=h;cases rx;let⟨t,rfl⟩:=ry;let⟨its,r,pl,hzx⟩:=I.tuple hq;have hl:=r.length;let⟨⟨cls,dd,data,sl⟩,ho,hc,n,hd⟩:=id pl;simp only at hc hd;subst hc hd;have b1:¬ (decide (k < -(2 ^ 63))||decide (k >= 2 ^ 63))=true:=by
  simp?[jC,zK];lia
 refine wpAny_binaryOp_repeat_ref (T:="tuple") (U:="int") (by decide) ⟨_,ho,rfl⟩ (λs'=>typeIs_int s' k t) En.SR F.fills_int_mul F.slot_int_rmul En.SS F.slot_int_index.lookup
  (qY F.slot_int_rmul (typeIs_int s k t) F.entry_int_rmul (F.args_int_rmul_2 _ _) (En.Uo k t a its.toArray n dd sl) ⟨ho,rfl,⟨_,ho,rfl⟩,?_⟩)
 have Tb:∀m:Nat,List.foldl (λx1 x2=>x1++x2) #[] (List.replicate m its.toArray)=(List.replicate m its).flatten.toArray:=λm=>by
  have:=foldl_rep its m [];rw[xP] at this;exact this
 by_cases h2:(its.toArray.isEmpty||k == 1)=true
 ·refine qY F.slot_tuple_mul ⟨_,ho,rfl⟩ wQ (wD _ _) (En.TQ a its.toArray n dd sl k t b1 h2) ⟨ho,⟨.ref a,H,I,rfl,q1 ?_⟩⟩;rw[jC] at h2;rcases h2 with h2|h2
  ·have:xs=[]:=by
    have e:its=[]:=by simpa using h2
    rw[e] at hl;exact List.length_eq_zero_iff.mp hl
   rw[this];simp
  ·have:k=1:=eq_of_beq h2;subst this;simp
 ·by_cases h3:(decide (k<=0)||its.toArray.isEmpty)=true
  ·refine qY F.slot_tuple_mul ⟨_,ho,rfl⟩ wQ (wD _ _) (En.TR a its.toArray n dd sl k t b1 h2 h3) ⟨ho,?_⟩;have hk0:k.toNat=0:=by
    simp?[jC,zK] at h3 h2;rcases h3 with h3|h3
    ·lia
    ·exact absurd (.inl h3) h2
   have q3:=q2 s.heap.objs.size I.fresh;rw[hk0] at q3;exact⟨.ref s.heap.objs.size,_,I.laid (t':=s.toks) (o:=.tup []) (λb ob q=>zV _ q) (yN _) ⟨xW _,[],.nil,pb.new _ _⟩,rfl,q3⟩
  ·have hm:its.length * k.toNat<=sizeLine:=by rw[<- hl];exact hz
   have hkn:(k.toNat:Int)=k:=by
    simp?[jC,zK,not_or] at h3;lia
   have hmi:((its.toArray.size:Nat):Int) * k=((its.length * k.toNat:Nat):Int):=by rw[zI,Int.natCast_mul,hkn]
   have hv:=L2.aD.rep r k.toNat;have Vz:(List.replicate k.toNat xs).flatten.length<=sizeLine:=by rw[len_rep,Nat.mul_comm];exact hz
   have hs8:(sizeLine:Nat)<=(2 ^ 63 - 1) / 8:=by decide
   have h4:¬ ((its.toArray.size:Nat):Int) * k > (2 ^ 63 - 1) / 8:=by rw[hmi];lia
   have h5:¬ Builtin.Tuple.tupleTooMany (((its.toArray.size:Nat):Int) * k)=true:=by
    unfold Builtin.Tuple.tupleTooMany;rw[hmi];simp?[zK];lia
   refine qY F.slot_tuple_mul ⟨_,ho,rfl⟩ wQ (wD _ _) (En.TU a its.toArray n dd sl k t b1 h2 h3 h4 h5 (by rw[Tb,zI,<- hv.length];exact Vz)) ⟨ho,?_⟩;rw[Tb];exact⟨.ref s.heap.objs.size,_,I.laid (t':=s.toks) (o:=.tup (List.replicate k.toNat xs).flatten) (λb ob q=>zV _ q) (yN _) ⟨Vz,_,hv,pb.new _ _⟩,rfl,q2 _ I.fresh⟩
def yo:D->D->Option D
 | .tuple ds,.int k=>if DD k=true/\ds.length * k.toNat<=sizeLine then some (.tuple (List.replicate k.toNat ds).flatten) else none
 | _,_=>none
def qk{K:W.Frag}(r:au K HF ds vs):∀k:Nat,au K HF (List.replicate k ds).flatten (List.replicate k vs).flatten
 | 0=>au.nil
 | k+1=>by rw[xF,xF,qN,qN];exact r.append (qk r k)
def Fp{K:W.Frag}:fE K (Kx K) yo:=by
 intro HF H x y v1 v2 d Q sm r1 r2 hg q;cases x<;>cases y<;>simp?[yo] at hg<;>try cases hg
 split at hg
 ·rename_i xs k hh;cases hg;simp?[Rep] at r1 r2;let⟨a,vs,rfl,ha,ra⟩:=r1;have ok:=hh.1;unfold DD at ok;rw[zG] at ok;refine⟨a,k,vs,rfl,r2,ay sm ha,yR ok.1,yR ok.2,by rw[ra.length];exact hh.2,λe=>q _ H HF (.refl sm) ?_,λp hp=>q _ _ _ (.new sm hp) (d4 (sm.free hp) (qk ra _))⟩;simp?[Rep];refine⟨a,vs,rfl,ha,?_⟩;have:=qk ra k.toNat;rw[e] at this;exact this
 ·cases hg
end Dl
namespace En
open PySem PyProof.Rows
def TV(hh:A.handled=none)(hl:s.heap.IsTuple l its)(hi:IntsAre its.toList ns)(hb:its.size+1 < scanBound)
  (h:∀ (h':Heap) (tk:Nat),h'.SetOf (intKind prog w) s.heap.objs.size (λk'=>(firstMet (λi=>ns.getD i 0) its.size).any (· == k')) (firstMet (λi=>ns.getD i 0) its.size).length->(∀b o,b < s.heap.objs.size->s.heap.get? b=some o->h'.get? b=some o)->Q (.ref s.heap.objs.size) { s with heap:=h',toks:=tk }) :
  wpAny (model prog w) A (call (.type "set") [.ref l]) Q E s:=by
 let⟨c,tl,abF⟩:=F.called_set.mro;have adQ:=F.called_set.made;have SO:=F.called_set.sub;refine wpAny_call (codeAny_of_tree ?_);show wpAny _ _ (callAny (.type "set") _) _ _ _;refine zX ⟨wF _ (by decide +kernel),kE F.entry_type_call ?_⟩;rw[Around.under_plain (weight_type_call_type "set" [.ref l] []) rfl];have h1:=F.called_set.notType;have h2:=F.called_set.canCreate;have hct:=F.typeCall_set_1 (.ref l)
 repeat (any_goals (first|assumption|wp_step))
 refine jS (code_set_new_1 (.ref l) (E:=E) (Q₁:=λobj s1=>∃led:Bool,obj=.ref s.heap.objs.size/\s1={ s with heap:=s.heap.push { cls:=.type "set",dict:=none,data:=.set #[] 0 (.fresh 0 0 led) } }) λled=>⟨led,rfl,rfl⟩) λr s1 hr=>?_;cases r with
 | error e=>exact hr
 | ok fl =>
  cases fl with
  | ret obj =>
   let⟨led,rfl,rfl⟩:=hr;have hS:(s.heap.push { cls:=.type "set",dict:=none,data:=.set #[] 0 (.fresh 0 0 led) }).get? s.heap.objs.size=some { cls:=.type "set",dict:=none,data:=.set #[] 0 (.fresh 0 0 led) }:=by exact zY _ rfl
   have hT:Shared.TypeIs { s with heap:=s.heap.push { cls:=.type "set",dict:=none,data:=.set #[] 0 (.fresh 0 0 led) } } (.ref s.heap.objs.size) "set":=⟨_,hS,rfl⟩
   have hli:=F.called_set.init.lookup;have hbi:=F.called_set.init.bind (.ref s.heap.objs.size)
   repeat (any_goals (first|assumption|wp_step))
   refine jS (codeAny_call_builtin (R:=wants (λr s2=>r=.none/\∃h' tk,s2={ s with heap:=h',toks:=tk }/\h'.SetOf (intKind prog w) s.heap.objs.size (λk'=>(firstMet (λi=>ns.getD i 0) its.size).any (· == k')) (firstMet (λi=>ns.getD i 0) its.size).length /\
     (∀b o,b < s.heap.objs.size->s.heap.get? b=some o->h'.get? b=some o)) E) F.called_set.init.plain F.entry_set_init (check_set_init_1 hT ?_)) λr2 s2 WK=>?_
   ·let⟨ol,Yc,R1,nl,Yd⟩:=hl;let⟨ae3,Ye,adR,WL⟩:=ol;simp only at R1 Yd;subst R1 Yd;have Yf:(s.heap.push { cls:=.type "set",dict:=none,data:=.set #[] 0 (.fresh 0 0 led) }).get? l=some { cls:=.type "tuple",dict:=Ye,data:=.seq its nl,slots:=WL }:=zV _ Yc;have ae4:=F.sub_tuple_set;have ae5:=F.sub_tuple_frozenset;have Q7:(Value.type "tuple" == Value.type "dict")=false:=by decide
    have Xt:(s.heap.push { cls:=.type "set",dict:=none,data:=.set #[] 0 (.fresh 0 0 led) }).IsTuple l its:=⟨_,Yf,rfl,nl,rfl⟩
    unfold Builtin.«set.__init__» noKeywords Builtin.Frozenset.updateFrom;generalize hPI:pyIter=PI
    wp_walk
    subst hPI;refine xS Xt (zW (wpAny_runValue ?_));have hlS:l < s.heap.objs.size:=zZ Yc;have hh3:A.in1.in1.in1.handled=none:=by simp[hh]
    have WM:l≠(s.heap.push { cls:=.type "set",dict:=none,data:=.set #[] 0 (.fresh 0 0 led) }).objs.size:=by rw[xK];exact yS (jO hlS)
    have hSf:s.heap.objs.size∉[(s.heap.push { cls:=.type "set",dict:=none,data:=.set #[] 0 (.fresh 0 0 led) }).objs.size,l]:=by
     rw[xK];simp?[zR,yG,xV,not_or];exact⟨yS (kN _),jJ hlS⟩
    have abI:∀ (i:Nat) (v:Value),its[i]?=some v->∃t,v=.int ((λi=>ns.getD i 0) i) t:=λi v hv=>IntsAre.int_at hi i v (by rw[Array.getElem?_toList];exact hv);refine codeAny_set_update_loopS ((Walks.tuple hh3 _ l WM its).toS) s.heap.objs.size hSf (λi=>ns.getD i 0) abI hb (its.size - 0) 0 _ (by lia) (xW _) ⟨⟨_,zY _ rfl,rfl,rfl⟩,?ht⟩ ?hS0 ?hR
    case ht=>exact⟨_,zV _ Yf,rfl,nl,rfl⟩
    case hS0 =>
     have abJ:((s.heap.push { cls:=.type "set",dict:=none,data:=.set #[] 0 (.fresh 0 0 led) }).push { cls:=.type "tuple_iterator",data:=.fields #[.ref l,.int 0 0] }).get? s.heap.objs.size=some { cls:=.type "set",dict:=none,data:=.set #[] 0 (.fresh 0 0 led) }:=by exact zV _ hS
     exact SetOf_congr ((setObjOf_fresh (knd:=intKind prog w) led).setOf abJ (by unfold scanBound;lia)) (λ_=>rfl) rfl
    case hR =>
     intro s' hm hS';let⟨h',g',d',tk',XI⟩:=s';have eg:g'=s.gens:=hm.gens;have ed:d'=s.drawn:=hm.drawn;have eo:XI=s.os:=hm.os;subst eg ed eo;show wpAny _ _ _ _ _ _;refine zX ?_;show wpAny _ _ (ret Value.none) _ _ _;refine zX ⟨rfl,h',tk',rfl,hS',λb o SU e=>?_⟩;refine hm.heap b o ?_ (zV _ (zV _ e));simp?[zR,yG,xV,not_or];exact⟨yS SU,by rw[xK];exact yS (jO SU)⟩
   ·cases r2 with
    | error e=>exact WK
    | ok fl2 =>
     cases fl2 with
     | ret r =>
      let⟨rfl,h',tk,rfl,hS',SF⟩:=WK
      repeat (any_goals (first|assumption|wp_step))
      exact h _ _ hS' SF
     | _=>exact WK.elim
  | _=>exact hr.elim
end En
namespace Dl
open PySem L2 PySem.Spec PyProof.Rows
variable {env:PySem.Env}
def many(ns:List Int):Nat:=(firstMet (λi=>ns.getD i 0) ns.length).length
def DP(hc:X.calm=true):eC X (.type "set") (λxs H Q=>∃ (a:Addr) (ns:List Int),xs=[.ref a]/\gq X.K H a (ns.map V.int)/\ns.length+1 < scanBound/\∀q S,H q=none->Q (.ref q) (upd H q (.set S (many ns)))):=by
 intro pins s σ H xs us Q I r h;let⟨a,ns,rfl,hq,hb,q⟩:=h;let⟨u,rfl,rx⟩:=vals1 r;cases rx;let⟨its,rv,pl,hz⟩:=I.tuple hq;have hi:IntsAre its.toArray.toList ns:=intsAre_of rv;have hlen:its.toArray.size=ns.length:=by have:=rv.length;simpa using this.symm
 refine En.TV (I.ok.hd hc) (show s.heap.IsTuple a its.toArray from pl) hi (by rw[hlen];exact hb) λh' tk hS hk=>?_;rw[hlen] at hS;exact⟨.ref s.heap.objs.size,_,I.laid (t':=tk) (λb o e=>hk b o (zZ e) e) (yN _) (show eF X.prog X.w _ h' _ (.set _ (many ns)) from hS),rfl,q _ _ I.fresh⟩
def DL:eC X (.builtin "len") (λxs H Q=>∃ (a:Addr) (S:Int->Bool) (n:Nat),xs=[.ref a]/\H a=some (.set S n)/\Q (.int n) H):=by
 intro pins s σ H xs us Q I r h;let⟨a,S,n,rfl,hq,q⟩:=h;let⟨u,rfl,rx⟩:=vals1 r;cases rx;let⟨o,es,ep,t,ho,hex,hd,hel,Va,Q0,hf,hn⟩:=(show s.heap.SetOf (intKind X.prog X.w) a S n from I.QR a _ hq)
 have WH:((es.size:Nat):Int) < 2 ^ 63:=by unfold scanBound at Q0;lia
 refine call_len_set ho hex hd hf WH ⟨.int n,H,I.tok _,⟨s.toks+1,by rw[hn]⟩,q⟩
def kl:D->Option D:=λd=>(gG d).bind λns=>if ns.length+1 < scanBound then some (.int (many ns)) else none
def DQ(hc:X.calm=true)(B:oY X "len" (.builtin "len"))(C:oY X "set" (.type "set"))(h:DE X e f)(he:starEach [e] X.env=(false,eval e X.env)::starEach [] X.env:=by rfl) :
  DE X (.Call (.Name "len" p) [.Call (.Name "set" p') [e] [] pos'] [] pos) (f1 kl f) :=
 aZ (mT DL B.gl B.mg B.bt (bY (sZ (DP hc) C.gl C.mg C.bt (bY h eX he) (by decide) (by decide) he rfl) eX) (by decide) (by decide) rfl rfl) λσ H Q z=>by
  let⟨HF,ρ,d,sm,eo,hf,q⟩:=z;let⟨x,hx,hf⟩:=bs hf;let⟨ns,h1,hf⟩:=bs hf;split at hf
  ·rename_i hb;cases hf;refine⟨HF,ρ,x,sm,eo,hx,λv1 H1 QO g1 r1=>?_⟩;rw[iz h1] at r1;simp?[Rep] at r1;let⟨a,vs,rfl,hs,rr⟩:=r1;have key:∀ {ns:List Int}{ws:List V},au X.K QO (ns.map PyData.int) ws->ws=ns.map V.int:=λ{ns}=>by
    induction ns with
    | nil=>exactλh=>h.nil_inv
    | cons n ns ih =>
     intro ws h;let⟨v,r,rfl,a,b⟩:=h.cons_inv;simp?[Rep] at a;rw[a,ih b];rfl
   have:=key rr;subst this;refine⟨a,ns,rfl,ay g1.fh hs,hb,λb S SU=>⟨b,S,_,rfl,aC,q _ _ QO (g1.trans (.own g1.fh SU)) (by simp[Rep])⟩⟩
  ·cases hf
def j7(val:Nat->Int):∀i,(firstMet val i).length=i↔((List.range i).map val).Nodup
 | 0=>by simp[firstMet]
 | i+1=>by
  have hle:=firstMet_length_le val i;rw[firstMet_succ,step_length,vP,jB,wM];have ha:=firstMet_any val i (val i);have ih:=j7 val i;constructor
  ·intro h;by_cases Uq:(firstMet val i).any (· == val i)=true
   ·rw[yM Uq] at h;lia
   ·rw[yO Uq] at h;refine⟨ih.mp (by lia),by simp,λa hm b hb z=>?_⟩;have SU:b=val i:=by simpa using hb
    subst z SU;rw[ha] at Uq;exact Uq (List.any_eq_true.mpr ⟨_,hm,by simp⟩)
  ·rintro⟨h1,_,h3⟩;rw[yO ?_]
   ·rw[ih.mpr h1]
   ·rw[ha];intro Uq;let⟨x,hx,he⟩:=List.any_eq_true.mp Uq;have WN:x=val i:=by simpa using he
    exact h3 x hx (val i) (by simp) WN
def Bi(ns:List Int):many ns=ns.length↔ns.Nodup:=by
 unfold many;rw[j7];have:(List.range ns.length).map (λi=>ns.getD i 0)=ns:=j4 ns 0;rw[this]
def zw{K:W.Frag}(h:fE K r g)(h':fE K r' g'):fE K (λx y H Q=>r x y H Q\/r' x y H Q) (λx y=>(g x y).or (g' x y)):=by
 intro HF H x y v1 v2 d Q sm r1 r2 hg q;cases e:g x y with
 | some d' =>
  have hg:(g x y).or (g' x y)=some d:=hg;rw[e] at hg;cases hg;exact .inl (h HF H x y v1 v2 d Q sm r1 r2 e q)
 | none =>
  have hg:(g x y).or (g' x y)=some d:=hg;rw[e] at hg;exact .inr (h' HF H x y v1 v2 d Q sm r1 r2 hg q)
def Da{K:W.Frag}:fE K (Fj K) (λx y=>(G6 x y).map PyData.list):=by
 intro HF H x y v1 v2 d Q sm r1 r2 hg q;let⟨zs,Yg,rfl⟩:=ag hg;clear hg;cases x<;>cases y<;>simp?[G6] at Yg<;>try cases Yg
 let⟨rfl,hz⟩:=f7 Yg;simp?[Rep] at r1 r2;let⟨a,vs,rfl,ha,ra⟩:=r1;let⟨b,us,rfl,hb,rb⟩:=r2;refine⟨a,b,vs,us,rfl,rfl,sm.seq ha,sm.seq hb,by rw[ra.length,rb.length,<- zO];exact hz,λp hp=>q _ _ _ (.new sm hp) ?_⟩;simp?[Rep];exact⟨p,_,rfl,.inl (.inl aC),(ra.append rb).mono (bK (sm.free hp))⟩
def aB:D->D->Option D:=λx y=>((vf (λ_ _=>True) λi j=>.int (i+j)) x y).or ((Jy x y).or ((G6 x y).map PyData.list))
def Bk.add(C:Bk X N sc k)(ha:DE X a fa)(hb:DE X b fb):DE X (.BinOp a .Add b pos) (f2 aB fa fb):=xw (LR.or (Dm.or He)) (zw Ey (zw Jw Da)) ha hb
def ig:D->D->Option D:=vf (λ_ _=>True) λi j=>.int (i - j)
def Bk.sub(C:Bk X N sc k)(ha:DE X a fa)(hb:DE X b fb):DE X (.BinOp a .Sub b pos) (f2 ig fa fb):=xw KR Ey ha hb
def cA:D->D->Option D:=λx y=>((vf rH λi j=>.int (i * j)) x y).or (yo x y)
def Bk.mul(C:Bk X N sc k)(ha:DE X a fa)(hb:DE X b fb):DE X (.BinOp a .Mult b pos) (f2 cA fa fb):=xw (KN.or JK) (zw FR Fp) ha hb
def lD:D->D->Option D:=vf HW λi j=>.int (i / j)
def Bk.div(C:Bk X N sc k)(ha:DE X a fa)(hb:DE X b fb):DE X (.BinOp a .FloorDiv b pos) (f2 lD fa fb):=xw JD FR ha hb
def jo:D->D->Option D:=vf (λ_ j=>0 < j) λi j=>.int (i % j)
def Bk.mod(C:Bk X N sc k)(ha:DE X a fa)(hb:DE X b fb):DE X (.BinOp a .Mod b pos) (f2 jo fa fb):=xw K0 FR ha hb
def Hh:D->D->Option D:=vf (λ_ _=>True) λi j=>.bool (decide (i < j))
def CG:D->D->Option D:=vf (λ_ _=>True) λi j=>.bool (decide (i<=j))
def Ck:D->D->Option D:=vf (λ_ _=>True) λi j=>.bool (decide (j < i))
def bE:D->D->Option D:=λx y=>(LW x y).map PyData.bool
def dz:D->D->Option D:=λx y=>(JV x y).map PyData.bool
def Bk.u64(C:Bk X N sc k):X.A.units+64 < cLine:=C.room.units
def Bk.u66(C:Bk X N sc k):X.A.units+66 < cLine:=by have:=C.room.un;lia
def Bk.lt(C:Bk X N sc k)(ha:DE X a fa)(hb:DE X b fb):DE X (.Compare a [.Lt] [b] pos) (f2 Hh fa fb):=iN Gq j1 ha hb (dI _)
def Bk.le(C:Bk X N sc k)(ha:DE X a fa)(hb:DE X b fb):DE X (.Compare a [.LtE] [b] pos) (f2 CG fa fb):=iN Ei j1 ha hb (dI _)
def Bk.gt(C:Bk X N sc k)(ha:DE X a fa)(hb:DE X b fb):DE X (.Compare a [.Gt] [b] pos) (f2 Ck fa fb):=iN J8 j1 ha hb (dI _)
def Bk.eq(C:Bk X N sc k)(ha:DE X a fa)(hb:DE X b fb):DE X (.Compare a [.Eq] [b] pos) (f2 bE fa fb):=iN (Gb C.u64) j8 ha hb (dI _)
def Bk.ne(C:Bk X N sc k)(ha:DE X a fa)(hb:DE X b fb):DE X (.Compare a [.NotEq] [b] pos) (f2 dz fa fb):=iN (GX C.u64) j8 ha hb (dI _)
def Bk.tlt(C:Bk X N sc k)(ha:DE X a fa)(hb:DE X b fb):DT X (.Compare a [.Lt] [b] pos) (fB (f2 Hh fa fb)):=iy Gq j1 ha hb (dI _)
def Bk.tle(C:Bk X N sc k)(ha:DE X a fa)(hb:DE X b fb):DT X (.Compare a [.LtE] [b] pos) (fB (f2 CG fa fb)):=iy Ei j1 ha hb (dI _)
def Bk.tgt(C:Bk X N sc k)(ha:DE X a fa)(hb:DE X b fb):DT X (.Compare a [.Gt] [b] pos) (fB (f2 Ck fa fb)):=iy J8 j1 ha hb (dI _)
def Bk.teq(C:Bk X N sc k)(ha:DE X a fa)(hb:DE X b fb):DT X (.Compare a [.Eq] [b] pos) (fB (f2 bE fa fb)):=iy (Gb C.u64) j8 ha hb (dI _)
def Bk.tne(C:Bk X N sc k)(ha:DE X a fa)(hb:DE X b fb):DT X (.Compare a [.NotEq] [b] pos) (fB (f2 dz fa fb)):=iy (GX C.u64) j8 ha hb (dI _)
def du:D->Option Int->Option Int->Option D|.tuple ds,lo,hi=>some (.tuple (cut ds lo hi))|.list ds,lo,hi=>some (.list (cut ds lo hi))|_,_,_=>none
def Bk.cut(C:Bk X N sc k){lo:Option Expr}{fl:Env->Option (Option Int)}(ha:DE X a fa)(hl:DO X lo fl)(hh:DO X hi fh):DE X (.Subscript a (.Slice lo hi none p2) pos) (hC du fa fl fh):=aZ (FV (MM.or HH) ha hl hh) λσ H Q z=>by
 let⟨HF,ρ,d,sm,eo,hf,q⟩:=z;let⟨x,hx,hf⟩:=bs hf;let⟨l,hl,hf⟩:=bs hf;let⟨u,hu,hf⟩:=bs hf;refine⟨HF,ρ,x,sm,eo,hx,λv1 H1 QO g1 r1=>⟨QO,ρ,l,g1.fh,eo.mono g1.ff,hl,λH2 Q3 g2=>⟨Q3,ρ,u,g2.fh,eo.mono (g1.ff.trans g2.ff),hu,λH3 Ry g3=>?_⟩⟩⟩;have G:=(g1.trans g2).trans g3;have r3:=r1.mono (g2.ff.trans g3.ff);cases x<;>try cases hf
 ·simp?[Rep] at r3;let⟨b,vs,rfl,hs,rr⟩:=r3;refine .inr ⟨b,vs,rfl,G.fh.seq hs,λp hp=>q _ _ _ (G.trans (.new G.fh hp)) ?_⟩;simp?[Rep];exact⟨p,_,rfl,.inl (.inl aC),(pQ rr l u).mono (bK (G.fh.free hp))⟩
 ·simp?[Rep] at r3;let⟨b,vs,rfl,hs,rr⟩:=r3;refine .inl ⟨b,vs,rfl,ay G.fh hs,λe=>q _ H3 Ry G ?_,λp hp=>q _ _ _ (G.trans (.new G.fh hp)) (d4 (G.fh.free hp) (pQ rr l u))⟩;simp?[Rep];refine⟨b,vs,rfl,hs,?_⟩;have:=pQ rr l u;rw[e] at this;exact this
def Et:D->Option D|.int i=>some (.int (-i))|_=>none
def Bk.neg(C:Bk X N sc k)(ha:DE X a fa):DE X (.UnaryOp .USub a pos) (f1 Et fa):=aZ (N9 Lp ha) λσ H Q z=>by
 let⟨HF,ρ,d,sm,eo,hf,q⟩:=z;let⟨x,hx,hf⟩:=bs hf;refine⟨HF,ρ,x,sm,eo,hx,λv1 H1 QO g1 r1=>?_⟩;cases x<;>try cases hf
 exact⟨_,by simpa only[Rep] using r1,q _ H1 QO g1 (by simp[Rep])⟩
def Ba:bootBuiltins "len"=some (.builtin "len"):=by decide +kernel
def rC:bootBuiltins "isinstance"=some (.builtin "isinstance"):=by decide +kernel
def Hb:bootBuiltins "tuple"=some (.type "tuple"):=by decide +kernel
def GA:bootBuiltins "range"=some (.type "range"):=by decide +kernel
def Mf:bootBuiltins "all"=some (.builtin "all"):=by decide +kernel
def E9:bootBuiltins "set"=some (.type "set"):=by decide +kernel
def sT:bootBuiltins "sorted"=some (.builtin "sorted"):=by decide +kernel
def u6:bootBuiltins "enumerate"=some (.type "enumerate"):=by decide +kernel
def Lc:bootBuiltins "zip"=some (.type "zip"):=by decide +kernel
abbrev cZ(f:Env->Option (List D)):Env->Option D:=λρ=>(f ρ).map PyData.list
abbrev dX:List D->Option D:=λds=>(dc ds).map PyData.tuple
def Bk.Yh(C:Bk X N sc k)(h:decide (sc.names.lookup x=some .local)=true):X.env.scope.names.lookup x=some .local:=by
 rcases C.tb x _ (yR h) with q|⟨q,_⟩
 ·exact q
 ·cases q
def isStar(e:Expr):Bool:=e.ctorIdx == 22
def bg(h:isStar e=false):starEach (e::es) env=(false,eval e env)::starEach es env:=by
 cases e<;>first|rfl|cases h
def LP(he:DE X e f)(hs:DA X es g)(h:isStar e=false:=by rfl):DA X (e::es) (aa f g):=uB he hs (bg h)
def qq:swapsWith (.ListComp elt gens scope pos) (some (.Name x py)) line env=pure (env.blockKind == .function&&env.kindOf x == some .local && py.line == pos.line
     &&!(scope.names.any λ(n,k)=>n == x&&(k == .local || k == .cell))):=rfl
def JR(h:env.scope.kind=.function):env.blockKind=.function:=by unfold PySem.Env.blockKind;rw[h];rfl
def Bk.swap(C:Bk X N sc k)(h:decide (sc.names.lookup x=some .local)=true)(h2:(py.line == pos.line&&!(scope.names.any λ(n,k)=>n == x&&(k == .local || k == .cell)))=true) :
  swapsWith (.ListComp elt gens scope pos) (some (.Name x py)) line X.env=pure true:=by
 rw[qq,JR C.kd,show X.env.kindOf x=some .local from C.Yh h];rw[Bool.and_assoc,h2];rfl
def Bk.WO(C:Bk X N sc k)(h:decide (sc.names.lookup x=some .cell)=true) :
  swapsWith (.ListComp elt gens scope pos) (some (.Name x py)) line X.env=pure false:=by
 have q:X.env.kindOf x=some .cell:=by
  rcases C.tb x _ (yR h) with q|⟨q,_⟩
  ·exact q
  ·cases q
 rw[qq,q,JR C.kd];rfl
section
variable {K:W.Frag}
structure aM(K:W.Frag)(x:Str)(st:Stmt)(ps:List Str):Prop where
 ex:∃ (f:Addr) (fd:FuncData),W.nsIn K mainGlobals x=some (some (.ref f))/\Ih K x x st f fd/\Binds K fd ps []
structure bH(K:W.Frag)(mg:Str->Option Value)(x:Str)(st:Stmt)(ps:List Str):Prop where
 ex:∃ (f:Addr) (fd:FuncData),mg x=some (.ref f)/\Ih K x x st f fd/\Binds K fd ps []
def aM.mg{h:Heap}{mg:Str->Option Value}{st:Stmt}(D:aM K x st ps)(X:K.In h)(G:h.Ns mainGlobals mg):bH K mg x st ps:=by
 let⟨f,fd,a,b,c⟩:=D.ex;exact⟨f,fd,W.mg_of X G a,b,c⟩
def gM(st:Stmt)(ps:List Str):Prop:=∀ (x qual:Str) (kV doc pm:Value) (an:Option Addr) (Ru ct:Value) (us:List Value),us.length=ps.length->bindArgs (W.fnOf x qual (gF st) (b8 st) (aF st) .none kV doc pm an Ru ct) ⟨us,[]⟩=pure (ps.zip us)
def NW{st:Stmt}{kV:Value}(hb:gM st ps)(a:W.nsIn K mainGlobals x=some (some (.ref f)))(l:K.lookup f=some ⟨oc,od,.func (W.fnOf x x (gF st) (b8 st) (aF st) .none kV doc pm an Ru ct),S9⟩)
  (c:W.codeIn K Ru x=true) (k:W.keepIn K (.ref f)=true):aM K x st ps:=⟨f,_,a,uR (st:=st) l c k,(uR (st:=st) l c k).binds λkV doc pm an Ru ct us h=>hb _ _ kV doc pm an Ru ct us h⟩
structure so(K:W.Frag)(x:Str)(st:Stmt)(ps:List Str):Prop where
 ex:∃ (f:Addr) (fd:FuncData) (c P:Addr),W.nsIn K mainGlobals x=some (some (.ref f))/\Ih K x x st f fd/\Binds K fd ps []/\fd.code=.ref c/\W.codeHdIn K c P=true
structure Jh(K:W.Frag)(mg:Str->Option Value)(x:Str)(st:Stmt)(ps:List Str):Prop where
 ex:∃ (f:Addr) (fd:FuncData) (c P:Addr),mg x=some (.ref f)/\Ih K x x st f fd/\Binds K fd ps []/\fd.code=.ref c/\W.codeHdIn K c P=true
def so.mg{h:Heap}{mg:Str->Option Value}{st:Stmt}(D:so K x st ps)(X:K.In h)(G:h.Ns mainGlobals mg):Jh K mg x st ps:=by
 let⟨f,fd,c,P,a,b⟩:=D.ex;exact⟨f,fd,c,P,W.mg_of X G a,b⟩
def Iy(K:W.Frag)(c:Addr):Addr:=match K.lookup c with
 | some ⟨_,_,.fields vs,_⟩=>(match (vs[11]?:Option Value) with|some (.ref P)=>P|_=>0)
 | _=>0
def Nx{st:Stmt}{kV:Value}(hb:gM st ps)(a:W.nsIn K mainGlobals x=some (some (.ref f)))(l:K.lookup f=some ⟨oc,od,.func (W.fnOf x x (gF st) (b8 st) (aF st) .none kV doc pm an (.ref c) ct),S9⟩)
  (cd:W.codeIn K (.ref c) x=true) (k:W.keepIn K (.ref f)=true) (hh:W.codeHdIn K c (Iy K c)=true):so K x st ps:=⟨f,_,c,Iy K c,a,uR (st:=st) l cd k,(uR (st:=st) l cd k).binds λkV doc pm an Ru ct us h=>hb _ _ kV doc pm an Ru ct us h,rfl,hh⟩
def Ll{K:W.Frag}(h:(cU.all λx=>match W.nsIn K mainGlobals x with|some none=>true|_=>false)=true):∀x∈cU,W.nsIn K mainGlobals x=some none:=by
 intro x hx;have:=List.all_eq_true.mp h x hx;split at this
 ·assumption
 ·cases this
def Ar{K:W.Frag}{H:Hp}{a:Addr}{ns:List Int}{m:List D->Option D}(hS:gp K H a (ns.map V.int))(hT:fS K H)(h:m [.list (ns.map PyData.int)]=some (.bool true)){X:_}:Oj K 1 m [.ref a] H (λv _=>v=.bl true) X:=by
 refine⟨H,[.list (ns.map PyData.int)],.bool true,.refl _,hT,au.cons ?_ au.nil,rfl,h,λv H' QN G r=>by simpa only[Rep] using r⟩;simp?[Rep];refine⟨a,_,rfl,hS,?_⟩;clear h hS hT
 induction ns with
 | nil=>exact au.nil
 | cons n ns ih=>exact au.cons (by simp[Rep]) ih
end
def OH(h:isStar e=false)(he:DE X e f)(hs:DA X es g):DA X (e::es) (aa f g):=LP he hs h
def MX:ao->Option Out:=λ_=>none
def Nk{st:Stmt}:DS X QL QM st MX:=λpins s σ H E I ⟨HF,ρ,o,S,hg,q⟩=>by cases hg
def vo(f:Env->Option D):ao->Option Out:=λρ=>(f (aP ρ)).map λ_=>.nx ρ
def Hz(hs:swapsWith e none pos.line X.env=pure false)(h:DE X e f):DS X QL QM (.Expr e pos) (vo f):=bT (mL h hs) λE σ H z=>by
 let⟨HF,ρ,o,S,hg,q⟩:=z;let⟨d,h,rfl⟩:=ag hg;exact⟨H,aP ρ,d,.refl _,S.all,h,λv H' QN G r=>q σ H' HF (S.step G.hh) (.refl _)⟩
def Ed(t:Env->Option Bool)(gb:ao->Option Out):Nat->ao->Option Out
 | 0,_=>none
 | n+1,ρ=>(t (aP ρ)).bind λb=>if b=true then (gb ρ).bind fun|.nx ρ'=>Ed t gb n ρ'|.rt d=>some (.rt d) else some (.nx ρ)
def FS(n:Nat)(hp:PassesOwn (model X.prog X.w) X.A X.env X.xe)(hc:DT X c t)(hb:Bt X QL QM body gb):DS X QL QM (.While c body [] pos) (Ed t gb n) :=
 bT (GB hp hc hb) λE σ H z=>by
  let⟨HF,ρ,o,S,hg,q⟩:=z;refine⟨λm σ' H'=>∃QN ρ',eK X.K QL QM QN H' ρ' σ'/\aK HF QN/\Ed t gb m ρ'=some o,⟨n,HF,ρ,S,.refl _,hg⟩,?_⟩;rintro m σ' H' ⟨QN,ρ',S',s',hf⟩;cases m with
  | zero=>cases hf
  | succ m =>
   unfold Ed at hf;let⟨b,hb,hf⟩:=bs hf;refine⟨H',aP ρ',b,.refl _,S'.all,hb,λH1 QO G=>?_⟩;cases b with
   | false =>
    rw[yO xA] at hf ⊢;cases hf;exact q σ' H1 QN (S'.step G.hh) s'
   | true =>
    rw[yM rfl] at hf ⊢;let⟨o1,h2,hf⟩:=bs hf;refine⟨λS8 H3=>∃Ry U5,eK X.K QL QM Ry H3 U5 S8/\aK HF Ry/\Ed t gb m U5=some o,λS8 H3 ⟨Ry,U5,a1,a2,a3⟩=>⟨m,kN _,Ry,U5,a1,a2,a3⟩,QN,ρ',o1,S'.step G.hh,h2,?_⟩;cases o1 with
    | nx Si=>exactλσ4 H4 R4 S4 s4=>⟨R4,Si,S4,s'.trans s4,hf⟩
    | rt d=>cases hf;exact q
def Mj:List D->Option D
 | [.int a,.int b]=>some (.int (min a b))
 | [.int a,.int b,.int c]=>some (.int (min (min a b) c))
 | _=>none
def ES(hc:X.calm=true):eC X (.builtin "min") (λxs H Q=>(∃a b:Int,xs=[.int a,.int b]/\Q (.int (min a b)) H)\/(∃a b c:Int,xs=[.int a,.int b,.int c]/\Q (.int (min (min a b) c)) H)):=by
 intro pins s σ H xs us Q I r h;have hh:X.A.handled=none:=I.ok.hd hc;rcases h with ⟨a,b,rfl,q⟩|⟨a,b,c,rfl,q⟩
 ·cases r with
  | cons r1 r =>
   cases r with
   | cons r2 r =>
    cases r;let⟨t,rfl⟩:=r1;let⟨u,rfl⟩:=r2;refine min_two_ints hh λh' tk kp=>⟨.int (min a b),H,I.kept (t':=tk) kp,?_,q⟩
    by_cases h:b < a
    ·rw[yM h,show min a b=b by lia];exact⟨_,rfl⟩
    ·rw[yO h,show min a b=a by lia];exact⟨_,rfl⟩
 ·cases r with
  | cons r1 r =>
   cases r with
   | cons r2 r =>
    cases r with
    | cons r3 r =>
     cases r;let⟨t,rfl⟩:=r1;let⟨u,rfl⟩:=r2;let⟨x,rfl⟩:=r3;refine min_three_ints hh λh' tk kp=>⟨.int (min (min a b) c),H,I.kept (t':=tk) kp,?_,q⟩
     by_cases h:b < a
     ·rw[yM h];by_cases h2:c < b
      ·rw[yM h2,show min (min a b) c=c by lia];exact⟨_,rfl⟩
      ·rw[yO h2,show min (min a b) c=b by lia];exact⟨_,rfl⟩
     ·rw[yO h];by_cases h2:c < a
      ·rw[yM h2,show min (min a b) c=c by lia];exact⟨_,rfl⟩
      ·rw[yO h2,show min (min a b) c=a by lia];exact⟨_,rfl⟩
def wy{K:W.Frag}(r:Rep K H d v):∀ {ds:List D}{vs:List V}(j:Nat),au K H ds vs->au K H (ds.set j d) (vs.set j v)
 | [],vs,j,h=>by rw[h.nil_inv];exact au.nil
 | x::ds,vs,j,h=>by
  let⟨u,us,rfl,a,b⟩:=h.cons_inv;cases j with
  | zero=>exact au.cons r b
  | succ j=>exact au.cons a (wy r j b)
def N7(i:Nat)(fz:List Nat)(fk f:Env->Option D):ao->Option Out:=λρ=>(nX fz f ρ).bind λp=>(fk (aP p.2)).bind λkd=>match kd with
 | .int k=>oJ i (λds=>(Dh ds.length k).map λj=>ds.set j p.1) p.2
 | _=>none
def Ha(i:Nat)(fz:List Nat)(hN:X.N[i]?=some x)(hv:BB X.env.scope x)(hk:DE X e fk)(h:DE X e2 f)(hd:(x == ("__debug__":Str))=false:=by decide)(Rp:(x == ("__classdict__":Str))=false:=by decide)
  (ha:∀v,assign (.Subscript (.Name x px) e Q9) X.env v=(do
   let ov <- holding [v] (eval (.Name x px) X.env)
   let iv <- holding [v,ov] (eval e X.env)
   standAt Q9
   holding [v,ov,iv] (setItem ov iv v)
   release [v,ov,iv] []):=by intro _;rfl)
  (hs:swapsWithSole [.Subscript (.Name x px) e Q9] e2 pos.line X.env=pure false:=by rfl) (hw:swappedStores [.Subscript (.Name x px) e Q9] e2 X.env=pure none:=by rfl)
  (h1:(assignEach [.Subscript (.Name x px) e Q9] X.env).map (·.2)=[assign (.Subscript (.Name x px) e Q9) X.env]:=by rfl):DS X QL QM (.Assign [.Subscript (.Name x px) e Q9] e2 pos) (N7 i fz fk f) :=
 bT (FI h (Ee (fR hN hv hd Rp) hk set_list ha) hs hw h1) λE σ H z=>by
  let⟨HF,ρ,o,S,hg,q⟩:=z;let⟨⟨d,ρ'⟩,h1,hg⟩:=bs hg;let⟨kd,h2,hg⟩:=bs hg;cases kd<;>try cases hg
  rename_i k;let⟨ds,es,h3,h4,rfl⟩:=kg hg;let⟨j,hj,rfl⟩:=ag h4;refine nC S h1 λv H1 QO s1 S1 s2 r=>?_;let⟨a,vs,e1,e2,e3,e5,e4⟩:=S1.own i ds h3;refine⟨.ref a,e1,H1,aP ρ',.int k,.refl _,S1.all,h2,λkv H2 Q3 G rk=>?_⟩;simp?[Rep] at rk;have S2:=S1.step G.hh;let⟨a',Vw,f1,f2,f3,f5,f4⟩:=S2.own i ds h3;rw[e1] at f1;cases f1;exact⟨a,Vw,k,j,rfl,rk,f2,by rw[f4.length];exact hj,q σ _ QO (S2.mut h3 e1 f2 (wy r j f4)) s1⟩
def Oh:D->Bool|.none=>true|_=>false
def oP{K:W.Frag}(r:Rep K HF d v):decide (v=.QK)=Oh d:=by
 cases d<;>simp?[Rep] at r<;>first
  | (subst r;rfl)
  | (let⟨a,vs,rfl,_⟩:=r;rfl)
  | exact r.elim
def p9:D->D->Option D:=λx y=>if Oh y=true then some (.bool (Oh x)) else match x,y with
 | .bool a,.bool b=>some (.bool (a == b))
 | _,_=>none
def o7:D->D->Option D:=λx y=>if Oh y=true then some (.bool (!Oh x)) else match x,y with
 | .bool a,.bool b=>some (.bool (!(a == b)))
 | _,_=>none
def Gu{X:Cx}:gK X (compareOp .Is) (λx y H Q=>∃a b,x=.bl a/\y=.bl b/\Q (.bl (a == b)) H):=by
 intro pins s σ H x y v u Q I rx ry q;let⟨a,b,rfl,rfl,q⟩:=q;cases rx;cases ry;exact wpAny_is_plain rfl ⟨.bl _,H,I,rfl,by cases a<;>cases b<;>exact q⟩
def CI{X:Cx}:gK X (compareOp .IsNot) (λx y H Q=>∃a b,x=.bl a/\y=.bl b/\Q (.bl (!(a == b))) H):=by
 intro pins s σ H x y v u Q I rx ry q;let⟨a,b,rfl,rfl,q⟩:=q;cases rx;cases ry;exact wpAny_isNot_plain rfl ⟨.bl _,H,I,rfl,by cases a<;>cases b<;>exact q⟩
def B7{K:W.Frag}:fE K (λx y H Q=>(y=.QK/\Q (.bl (decide (x=.QK))) H)\/∃a b,x=.bl a/\y=.bl b/\Q (.bl (a == b)) H) p9:=by
 intro HF H x y v1 v2 d Q sm r1 r2 hg q;unfold p9 at hg;split at hg
 ·rename_i h;cases hg;have h2:=oP r2;rw[h,zK] at h2;refine .inl ⟨h2,?_⟩;rw[oP r1];exact q _ H HF (.refl sm) (by simp[Rep])
 ·split at hg
  ·cases hg;simp?[Rep] at r1 r2;exact .inr ⟨_,_,r1,r2,q _ H HF (.refl sm) (by simp[Rep])⟩
  ·cases hg
def zr{K:W.Frag}:fE K (λx y H Q=>(y=.QK/\Q (.bl (!decide (x=.QK))) H)\/∃a b,x=.bl a/\y=.bl b/\Q (.bl (!(a == b))) H) o7:=by
 intro HF H x y v1 v2 d Q sm r1 r2 hg q;unfold o7 at hg;split at hg
 ·rename_i h;cases hg;have h2:=oP r2;rw[h,zK] at h2;refine .inl ⟨h2,?_⟩;rw[oP r1];exact q _ H HF (.refl sm) (by simp[Rep])
 ·split at hg
  ·cases hg;simp?[Rep] at r1 r2;exact .inr ⟨_,_,r1,r2,q _ H HF (.refl sm) (by simp[Rep])⟩
  ·cases hg
def Bk.is0(C:Bk X N sc k)(ha:DE X a fa)(hb:DE X b fb):DE X (.Compare a [.Is] [b] pos) (f2 p9 fa fb):=iN (Eh.or Gu) B7 ha hb (dI _)
def Bk.abN(C:Bk X N sc k)(ha:DE X a fa)(hb:DE X b fb):DE X (.Compare a [.IsNot] [b] pos) (f2 o7 fa fb):=iN (BY.or CI) zr ha hb (dI _)
def Bk.abO(C:Bk X N sc k)(ha:DE X a fa)(hb:DE X b fb):DT X (.Compare a [.Is] [b] pos) (fB (f2 p9 fa fb)):=iy (Eh.or Gu) B7 ha hb (dI _)
def Bk.Yi(C:Bk X N sc k)(ha:DE X a fa)(hb:DE X b fb):DT X (.Compare a [.IsNot] [b] pos) (fB (f2 o7 fa fb)):=iy (BY.or CI) zr ha hb (dI _)
def L0(hc:X.calm=true)(B:oY X "min" (.builtin "min"))(he:starEach (e::es) X.env=(false,eval e X.env)::starEach es X.env)(RF:(backTo pos (starEach es X.env)).any (·.1)=false)(ha:DA X (e::es) fs):DE X (.Call (.Name "min" p) (e::es) [] pos) (bh Mj fs) :=
 ib (ES hc) (by
  intro HF H ds vs d Q sm r hg q;unfold Mj at hg;split at hg
  ·cases hg;let⟨v1,r1,rfl,a1,b1⟩:=r.cons_inv;let⟨v2,r2,rfl,a2,b2⟩:=b1.cons_inv;rw[b2.nil_inv];simp?[Rep] at a1 a2;exact .inl ⟨_,_,by rw[a1,a2],q _ H HF (.refl sm) (by simp[Rep])⟩
  ·cases hg;let⟨v1,r1,rfl,a1,b1⟩:=r.cons_inv;let⟨v2,r2,rfl,a2,b2⟩:=b1.cons_inv;let⟨v3,r3,rfl,a3,b3⟩:=b2.cons_inv;rw[b3.nil_inv];simp?[Rep] at a1 a2 a3;exact .inr ⟨_,_,_,by rw[a1,a2,a3],q _ H HF (.refl sm) (by simp[Rep])⟩
  ·cases hg) B ha (by decide) (by decide) he RF
section
variable {fl fs:Env->Option (List D)}
def AO(hc:X.calm=true):eC X (.builtin "any") (λxs H Q=>∃ (a:Addr) (bs:List Bool),xs=[.ref a]/\gp X.K H a (bs.map V.bl)/\Q (.bl (bs.any id)) H):=by
 intro pins s σ H xs us Q I r h;let⟨a,bs,rfl,hq,q⟩:=h;let⟨u,rfl,rx⟩:=vals1 r;cases rx;let⟨its,rv,pl,hz⟩:=I.list hq;have hv:=lz rv;subst hv;have hh:X.A.in1.handled=none:=I.ok.hd hc;refine call_any_walk (qL pl.isList ?_);let⟨o,ho,R1,n,hd⟩:=pl.isList;have Q7:a≠s.heap.objs.size:=yS (zZ ho);refine⟨_,_,_,_,_,_,λi=>bs.getD i false,rfl,Walks.list hh s.heap.objs.size a Q7 (bs.map Value.bool).toArray,⟨⟨_,zY _ rfl,rfl,rfl⟩,pl.isList.push _⟩,λi v s' Q' E' hP hQ=>?_,λh' tk kp=>?_⟩
 ·have e:v=Value.bool (bs.getD i false):=by
   have hP:(bs.map Value.bool).toArray[i]?=some v:=hP;rw[vT,zP] at hP;let⟨b,hb,rfl⟩:=ag hP;rw[zH,hb];rfl
  subst e;exact xX hQ
 ·refine⟨.bl (bs.any id),H,?_,?_,q⟩
  ·exact I.kept (t':=tk) λb o' e=>kp b o' (by simp;exact yS (zZ e)) (zV _ e)
  ·show Value.bool _=Value.bool _;have:=range_any bs;simp?[zI,zE];rw[this]
end
def MJ(hc:X.calm=true)(B:oY X "any" (.builtin "any"))(he:starEach [e] X.env=(false,eval e X.env)::starEach [] X.env)(ha:DA X [e] fs):DE X (.Call (.Name "any" p) [e] [] pos) (bh (λds=>(oneOf ds).bind λd=>match d with
 | .list es=>(boolsOf es).map λbs=>.bool (bs.any id)
 | _=>none) fs) :=
 ib (AO hc) (by
  intro HF H ds vs d Q sm r hg q;let⟨x,hx,hg⟩:=bs hg;rw[gf hx] at r;cases x<;>try cases hg
  let⟨bs,hb,rfl⟩:=ag hg;let⟨v,r',rfl,a,b⟩:=r.cons_inv;rw[b.nil_inv];simp?[Rep] at a;let⟨p,us,rfl,h,rr⟩:=a;rw[iA hb] at rr;have:=lQ rr;subst this;exact⟨p,bs,rfl,sm.seq h,q _ H HF (.refl sm) (by simp[Rep])⟩) B ha (by decide) (by decide) he rfl
def nY(ns:List Int):∀j:Nat,preSum (λi=>ns.getD i 0) j=(ns.take j).sum
 | 0=>by simp[preSum]
 | j+1=>by
  rw[preSum,nY ns j,List.take_add_one,List.sum_append]
  congr 1
  rw[zH];cases ns[j]?<;>simp
def sf(val:Nat->Int)(B:Int)(h:∀i,-B<=val i/\val i<=B):∀j:Nat,-(B * j)<=preSum val j/\preSum val j<=B * j
 | 0=>by simp[preSum]
 | j+1=>by
  have ih:=sf val B h j;have:=h j;rw[preSum];have e:B * ((j+1:Nat):Int)=B * (j:Int)+B:=by rw[Int.natCast_add,Int.mul_add];simp
  rw[e];lia
def IK(ns:List Int):Bool:=decide (ns.length<=1000)&&ns.all λn=>decide (-1000000<=n)&&decide (n<=1000000)
def KJ(h:IK ns=true):ns.length<=1000/\∀i,-1000000<=ns.getD i 0/\ns.getD i 0<=1000000:=by
 unfold IK at h;rw[zG,zK,xH] at h;refine⟨h.1,λi=>?_⟩;rw[zH];cases e:ns[i]? with
 | none=>simp
 | some n =>
  have:=h.2 n (qC e);simpa using this
def oZ{ns:List Int}{its:List Value}(r:aD (ns.map V.int) its){i:Nat}(h:its.toArray[i]?=some v):∃t,v=.int (ns.getD i 0) t:=by
 rw[vT] at h
 induction ns generalizing its i with
 | nil=>cases r;simp at h
 | cons n ns ih =>
  cases r with
  | cons r1 rr =>
   cases i with
   | zero =>
    simp?[xR,yL] at h;subst h;let⟨t,rfl⟩:=r1;exact⟨t,rfl⟩
   | succ i =>
    simp?[yZ] at h;exact ih rr h
def Bb(hc:X.calm=true):eC X (.builtin "sum") (λxs H Q=>∃ (a:Addr) (ns:List Int),xs=[.ref a]/\(gp X.K H a (ns.map V.int)\/gq X.K H a (ns.map V.int))/\IK ns=true/\Q (.int ns.sum) H):=by
 intro pins s σ H xs us Q I r h;let⟨a,ns,rfl,hq,QR,q⟩:=h;let⟨u,rfl,rx⟩:=vals1 r;cases rx;have hh:X.A.in1.handled=none:=I.ok.hd hc;let⟨hlen,hbd⟩:=KJ QR;have Uq:∀n:Nat,n<=1000->∀j,j < n->InLong ((λi=>ns.getD i 0) j)/\InLong (preSum (λi=>ns.getD i 0) (j+1)):=λn hn j hj=>by
  have h1:=hbd j;have h2:=sf (λi=>ns.getD i 0) 1000000 hbd (j+1);refine⟨⟨?_,?_⟩,?_,?_⟩
  ·show -(2 ^ 63)<=ns.getD j 0;lia
  ·show ns.getD j 0 < 2 ^ 63;lia
  ·lia
  ·lia
 have Yj:preSum (λi=>ns.getD i 0) ns.length=ns.sum:=by rw[nY,List.take_length]
 rcases hq with hq|hq
 ·let⟨its,rv,pl,hz⟩:=I.list hq;have hl:its.length=ns.length:=by rw[<- rv.length,zE]
  refine call_sum_walk (qL pl.isList ?_);let⟨o,ho,R1,n,hd⟩:=pl.isList;have Q0:=zZ ho;have Q7:a≠s.heap.objs.size:=yS Q0;refine⟨_,_,_,_,_,_,λi=>ns.getD i 0,rfl,Walks.list hh s.heap.objs.size a Q7 its.toArray,⟨⟨_,zY _ rfl,rfl,rfl⟩,pl.isList.push _⟩,λb hb=>?_,λi v hP=>oZ rv hP,by rw[zI,hl];exact Uq _ hlen,λh' tk t' kp=>?_⟩
  ·show b < (s.heap.push _).objs.size;rw[xK];simp?[zR,yG,xV] at hb;rcases hb with rfl|rfl
   ·exact kN _
   ·exact jO Q0
  ·refine⟨.int ns.sum,H,I.kept (t':=tk) λb o' e=>kp b o' (by simp;exact yS (zZ e)) (zV _ e),⟨t',?_⟩,q⟩;rw[zI,hl,Yj]
 ·let⟨its,rv,pl,hz⟩:=I.tuple hq;have pl:s.heap.IsTuple a its.toArray:=pl;have hl:its.length=ns.length:=by rw[<- rv.length,zE]
  refine call_sum_walk (xS pl ?_);let⟨o,ho,R1,n,hd⟩:=id pl;have Q0:=zZ ho;have Q7:a≠s.heap.objs.size:=yS Q0;refine⟨_,_,_,_,_,_,λi=>ns.getD i 0,rfl,Walks.tuple hh s.heap.objs.size a Q7 its.toArray,⟨⟨_,zY _ rfl,rfl,rfl⟩,pl.push _⟩,λb hb=>?_,λi v hP=>oZ rv hP,by rw[zI,hl];exact Uq _ hlen,λh' tk t' kp=>?_⟩
  ·show b < (s.heap.push _).objs.size;rw[xK];simp?[zR,yG,xV] at hb;rcases hb with rfl|rfl
   ·exact kN _
   ·exact jO Q0
  ·refine⟨.int ns.sum,H,I.kept (t':=tk) λb o' e=>kp b o' (by simp;exact yS (zZ e)) (zV _ e),⟨t',?_⟩,q⟩;rw[zI,hl,Yj]
def eV:List D->Option D:=λds=>(dc ds).bind λes=>(intsOf es).bind λns=>if IK ns=true then some (.int ns.sum) else none
def d7{K:W.Frag}:∀ {ns:List Int}{vs:List V},au K H (ns.map PyData.int) vs->vs=ns.map V.int
 | [],vs,h=>h.nil_inv
 | b::bs,vs,h=>by
  let⟨v,r,rfl,a,c⟩:=h.cons_inv;simp?[Rep] at a;rw[a,d7 c];rfl
def LJ(hc:X.calm=true)(B:oY X "sum" (.builtin "sum"))(he:starEach [e] X.env=(false,eval e X.env)::starEach [] X.env)(ha:DA X [e] fs):DE X (.Call (.Name "sum" p) [e] [] pos) (bh eV fs) :=
 ib (Bb hc) (by
  intro HF H ds vs d Q sm r hg q;let⟨es,h1,hg⟩:=bs hg;let⟨ns,h2,hg⟩:=bs hg;have hg:(if IK ns=true then some (PyData.int ns.sum) else none)=some d:=hg;split at hg
  ·rename_i QR;cases hg;have e2:=cI h2;subst e2;rcases j3 h1 with rfl|rfl
   all_goals
    let⟨v,r',rfl,a,b⟩:=r.cons_inv;rw[b.nil_inv];simp?[Rep] at a;let⟨p,us,rfl,h,rr⟩:=a;have:=d7 rr;subst this
   ·exact⟨p,ns,rfl,.inr (ay sm h),QR,q _ H HF (.refl sm) (by simp[Rep])⟩
   ·exact⟨p,ns,rfl,.inl (sm.seq h),QR,q _ H HF (.refl sm) (by simp[Rep])⟩
  ·cases hg) B ha (by decide) (by decide) he rfl
def M0(i:Int):Value->Bool|.int a _=>a == i|_=>false
def C3:M5 X "list.index" (λx vs H Q=>∃ (l:Addr) (ns:List Int) (i:Int) (j:Nat),x=.ref l/\vs=[.int i]/\gp X.K H l (ns.map V.int)/\ns[j]?=some i/\(∀m,m < j->ns[m]?≠some i)/\Q (.int j) H):=by
 intro pins s σ H x vs v us Q I rx rv h;let⟨l,ns,i,j,rfl,rfl,hq,hj,XO,q⟩:=h;cases rx;let⟨u,rfl,ru⟩:=rv.one;let⟨t,rfl⟩:=ru;let⟨its,r,pl,hz⟩:=I.list hq;let⟨⟨cls,dd,data,sl⟩,ho,hc,n,hd⟩:=id pl.isList;simp only at hc hd;subst hc hd;have hl:its.length=ns.length:=by rw[<- r.length,zE]
 have VA:j < ns.length:=(List.getElem?_eq_some_iff.mp hj).1;have hz':ns.length<=sizeLine:=by rw[zE] at hz;exact hz
 have abQ:(sizeLine:Nat) < 2 ^ 62:=by decide
 have at_:∀m (hm:m < its.toArray.size),∃t',its.toArray[m]=.int (ns.getD m 0) t':=λm hm=>oZ r (jY hm);refine qY F.slot_list_index ⟨_,ho,rfl⟩ F.entry_list_index (F.args_list_index_2 _ _) (PySem.SeqAt.list_indexAt l its.toArray n dd sl (.int i t) (M0 i) j (by rw[zI,hl];exact VA) (by lia) ?_ ?_) ⟨ho,?_,?_⟩
 ·let⟨t',e⟩:=at_ j (by rw[zI,hl];exact VA);rw[e,M0,zH,hj];simp
 ·intro m hm Yk;let⟨t',e⟩:=at_ m hm;have RV:m < ns.length:=by lia
  have:=XO m Yk;rw[e,M0,zH];rw[zL RV] at this ⊢;simp?[qH,beq_eq_false_iff_ne];exactλh=>this (by rw[h])
 ·intro y hy;let⟨m,hm,rfl⟩:=Array.getElem_of_mem hy;let⟨t',e⟩:=at_ m hm;rw[e];exact PySem.SeqAt.EqAt.int_int _ _ _ _
 ·exact⟨.int j,H,I.tok _,⟨_,rfl⟩,q⟩
def wU(i:Int):List Int->Option Nat
 | []=>none
 | n::ns=>if n=i then some 0 else (wU i ns).map (·+1)
def ni:∀ {ns:List Int}{j:Nat},wU i ns=some j->ns[j]?=some i/\∀m,m < j->ns[m]?≠some i
 | [],j,h=>by cases h
 | n::ns,j,h=>by
  unfold wU at h;split at h
  ·cases h;rename_i e;exact⟨by rw[e];rfl,λm hm=>absurd hm (vO _)⟩
  ·rename_i e;let⟨k,hk,rfl⟩:=ag h;let⟨a,b⟩:=ni hk;refine⟨by simpa using a,λm hm=>?_⟩;cases m with
   | zero=>simpa using e
   | succ m=>simpa using b m (by lia)
def OZ:D->D->Option D
 | .list es,.int i=>(intsOf es).bind λns=>(wU i ns).map λj=>.int ((j:Nat):Int)
 | _,_=>none
def Fb{fo:Env->Option D}(Rl:attributeBase o "index" X.env (eval o X.env)=eval o X.env)
  (Ri:((backTo QS (starEach [e] X.env)).all (λx=>!x.1)&&(backToKw QS (keywordEach [] X.env)).all (λx=>x.1.isSome)&&decide ([e].length+([]:List Keyword).length+(if ([]:List Keyword).isEmpty then 0 else 1) < 30))=true)
  (QU:(apos.endLine == QS.line)=true) (hs:starEach [e] X.env=(false,eval e X.env)::starEach [] X.env) (ho:DE X o fo) (he:DE X e fe):DE X (.Call (.Attribute o "index" apos) [e] [] QS) (f2 OZ fo fe) :=
 aZ (qm qP PySem.F.slot_list_index PySem.F.type_list_index C3 ho (bY he eX hs) Rl Ri QU hs rfl) λσ H Q z=>by
  let⟨HF,ρ,d,sm,eo,hf,q⟩:=z;let⟨x,hx,hf⟩:=bs hf;let⟨y,hy,hg⟩:=bs hf;refine⟨HF,ρ,x,sm,eo,hx,λv1 H1 QO g1 r1=>?_⟩;cases x<;>try cases hg
  cases y<;>try cases hg
  rename_i es i;let⟨ns,h1,hg⟩:=bs hg;let⟨j,h2,rfl⟩:=ag hg;have e1:=cI h1;subst e1;simp?[Rep] at r1;let⟨l,us,rfl,hq,rr⟩:=r1;have:=d7 rr;subst this;refine⟨.inl ⟨rfl,_,g1.fh.seq hq⟩,QO,ρ,.int i,g1.fh,eo.mono g1.ff,hy,λv2 H2 Q3 g2 r2=>?_⟩;simp?[Rep] at r2;let⟨a,b⟩:=ni h2;exact⟨l,ns,i,j,rfl,by rw[r2],g2.fh.seq (g2.ff.seq hq),a,b,q _ H2 Q3 (g1.trans g2) (by simp[Rep])⟩
end Dl
namespace Sx
open PySem
variable {mask:Nat}{Q:Bool->Shared->Prop}
def Rz:∀ {l m:List Nat},l.Nodup->(∀x∈l,x∈m)->l.length<=m.length
 | [],m,_,_=>xW _
 | x::l,m,hn,hs=>by
  rw[kU] at hn;let⟨m1,m2,rfl⟩:=List.append_of_mem (hs x zF);have:=Rz (m:=m1++m2) hn.2 λy hy=>by
   have:=hs y (zD _ hy);rw[List.mem_append,zR] at this;rw[List.mem_append];rcases this with h|rfl|h
   ·exact .inl h
   ·exact absurd hy hn.1
   ·exact .inr h
  simp?[zO,zM] at this ⊢;lia
def sm:Nat->Nat
 | 0=>0
 | n+1=>5 ^ n+sm n
def WQ:∀n,4 * sm n+1=5 ^ n
 | 0=>rfl
 | n+1=>by have:=WQ n;rw[sm,Nat.pow_succ];lia
def WR(e:Nat):sm (2 * e)=2 * (sm e * (2 * sm e+1)):=by
 have h1:=WQ (2 * e);have h2:=WQ e;have h3:5 ^ (2 * e)=(4 * sm e+1) * (4 * sm e+1):=by rw[Nat.two_mul,Nat.pow_add,h2]
 rw[h3] at h1;have e1:(4 * sm e+1) * (4 * sm e+1)=16 * (sm e * sm e)+8 * sm e+1:=by
  simp?[Nat.add_mul,Nat.mul_add,Nat.one_mul,Nat.mul_one];rw[show 4 * sm e * (4 * sm e)=16 * (sm e * sm e) by rw[Nat.mul_mul_mul_comm]];lia
 have e2:2 * (sm e * (2 * sm e+1))=4 * (sm e * sm e)+2 * sm e:=by
  rw[Nat.mul_add,Nat.mul_one,Nat.mul_left_comm];lia
 lia
def Ur:∀n,sm n % 2=n % 2
 | 0=>rfl
 | n+1=>by
  have:=Ur n;have h:=WQ n;rw[sm];lia
def SV(k a:Nat):Nat.Coprime (2 ^ k) (2 * a+1):=by
 refine Nat.Coprime.pow_left k ?_;rw[Nat.coprime_comm];have:Nat.gcd (2 * a+1) 2=Nat.gcd 1 2:=by
  rw[Nat.gcd_comm,Nat.gcd_rec,show (2 * a+1) % 2=1 by lia]
 exact this.trans rfl
def Us:∀ (k d:Nat),2 ^ k ∣ sm d->2 ^ k ∣ d
 | 0,d,_=>⟨d,by simp⟩
 | k+1,d,h=>by
  have ho:=Ur d;have hs:sm d % 2=0:=by
   let⟨c,hc⟩:=h;rw[hc,Nat.pow_succ,Nat.mul_right_comm,Nat.mul_mod_left]
  obtain⟨e,rfl⟩:∃e,d=2 * e:=⟨d / 2,by lia⟩
  rw[WR,Nat.pow_succ,Nat.mul_comm (2 ^ k)] at h;have h1:=Nat.dvd_of_mul_dvd_mul_left (by decide) h;have h2:=(SV k (sm e)).dvd_of_dvd_mul_right h1;rw[Nat.pow_succ,Nat.mul_comm];exact Nat.mul_dvd_mul_left 2 (Us k e h2)
def it(M:Nat):Nat->Nat->Nat
 | 0,x=>x
 | n+1,x=>it M n ((5 * x+1) % M)
def SW(M:Nat):∀n x,it M n x % M=(5 ^ n * x+sm n) % M
 | 0,x=>by simp[it,sm]
 | n+1,x=>by
  rw[it,SW M n,sm,Nat.pow_succ];rw[Nat.add_mod,Nat.mul_mod,Nat.mod_mod,<- Nat.mul_mod,<- Nat.add_mod]
  congr 1
  rw[Nat.mul_add,Nat.mul_one,Nat.mul_assoc];lia
def VB{M:Nat}(hM:0 < M):∀n x,x < M->it M n x < M
 | 0,x,h=>h
 | n+1,x,h=>VB hM n _ (Nat.mod_lt _ hM)
def Yl{k:Nat}{x m d:Nat}(hd:0 < d)(hl:d < 2 ^ k):it (2 ^ k) m x % 2 ^ k≠it (2 ^ k) (m+d) x % 2 ^ k:=by
 intro h;rw[SW,SW] at h;have a:=WQ m;have b:=WQ d;have c:=WQ (m+d);have e:5 ^ (m+d)=5 ^ m * 5 ^ d:=Nat.pow_add ..;have f:5 ^ (m+d) * x+sm (m+d)=(5 ^ m * x+sm m)+5 ^ m * (sm d * (2 * (2 * x)+1)):=by
  have g1:5 ^ (m+d)=5 ^ m * (4 * sm d)+5 ^ m:=by rw[e,<- b,Nat.mul_add,Nat.mul_one]
  have g2:sm (m+d)=5 ^ m * sm d+sm m:=by
   rw[g1] at c;have:5 ^ m * (4 * sm d)=4 * (5 ^ m * sm d):=Nat.mul_left_comm ..;lia
  rw[g1,g2,Nat.add_mul];have g3:5 ^ m * (4 * sm d) * x=5 ^ m * (sm d * (2 * (2 * x))):=by
   rw[Nat.mul_assoc]
   congr 1
   rw[Nat.mul_assoc,Nat.mul_left_comm]
   congr 1
   lia
  rw[g3,Nat.mul_add,Nat.mul_add,Nat.mul_one];lia
 rw[f] at h;have h1:2 ^ k ∣ 5 ^ m * (sm d * (2 * (2 * x)+1)):=by
  have:=(Nat.sub_mod_eq_zero_of_mod_eq h.symm)
  rw[Nat.add_sub_cancel_left] at this;exact Nat.dvd_of_mod_eq_zero this
 have h2:Nat.Coprime (2 ^ k) (5 ^ m):=by rw[<- a];exact (show 4 * sm m+1=2 * (2 * sm m)+1 by lia) ▸ SV k _
 have h3:=(SV k (2 * x)).dvd_of_dvd_mul_right (h2.dvd_of_dvd_mul_left h1);have h4:=Nat.le_of_dvd hd (Us k d h3);lia
def WS{k x j:Nat}(hx:x < 2 ^ k)(hj:j < 2 ^ k):∃n,n < 2 ^ k/\it (2 ^ k) n x=j:=by
 have hM:0 < 2 ^ k:=Nat.two_pow_pos k;by_cases h:j∈(List.range (2 ^ k)).map λn=>it (2 ^ k) n x
 ·let⟨n,hn,e⟩:=List.mem_map.mp h;exact⟨n,List.mem_range.mp hn,e⟩
 ·exfalso;have ne:∀a b,a < b->b < 2 ^ k->it (2 ^ k) a x≠it (2 ^ k) b x:=λa b RC hb e=>by
   have:=Yl (k:=k) (x:=x) (m:=a) (d:=b - a) (by lia) (by lia);rw[show a+(b - a)=b by lia,e] at this;exact this rfl
  have nd:((List.range (2 ^ k)).map λn=>it (2 ^ k) n x).Nodup:=by
   rw[List.nodup_iff_pairwise_ne,jF];exact List.pairwise_lt_range.imp_of_mem λha hb RC=>ne _ _ RC (List.mem_range.mp hb)
  have:=Rz (l:=j::(List.range (2 ^ k)).map λn=>it (2 ^ k) n x) (m:=List.range (2 ^ k)) (List.nodup_cons.mpr ⟨h,nd⟩) λy hy=>by
   rw[zT];rcases List.mem_cons.mp hy with rfl|hy
   ·exact hj
   ·let⟨n,_,rfl⟩:=List.mem_map.mp hy;exact VB hM n x hx
  rw[zM,zE,zS] at this;lia
def run(mask:Nat):Nat->Nat×Nat->Nat×Nat
 | 0,z=>z
 | n+1,z=>run mask n (SetTable.leap mask z.1 z.2)
def Te(mask:Nat):∀a b z,run mask (a+b) z=run mask b (run mask a z)
 | 0,b,z=>by rw[jE];rfl
 | a+1,b,z=>by rw[show a+1+b=a+b+1 by lia];exact Te mask a b _
def Sl(mask:Nat):∀n z,(run mask n z).2=z.2 / 32 ^ n
 | 0,z=>by simp[run]
 | n+1,z=>by rw[run,Sl mask n];show z.2 / 32 / 32 ^ n=_;rw[Nat.div_div_eq_div_mul,Nat.pow_succ,Nat.mul_comm]
def Sn(mask:Nat):∀n i,run mask n (i,0)=(it (mask+1) n i,0)
 | 0,i=>rfl
 | n+1,i=>by
  rw[run,it];have:SetTable.leap mask i 0=((5 * i+1) % (mask+1),0):=by unfold SetTable.leap;simp[Nat.mul_comm]
  rw[this];exact Sn mask n _
def Ut(mask:Nat):∀n z,0 < n->(run mask n z).1 < mask+1
 | 1,z,_=>Nat.mod_lt _ (Nat.succ_pos _)
 | n+2,z,_=>Ut mask (n+1) _ (Nat.succ_pos _)
def reach{mask k j:Nat}(hk:mask+1=2 ^ k){z:Nat×Nat}(hp:z.2 < 2 ^ 64)(hj:j<=mask):∃n,n < mask+14/\(run mask n z).1=j:=by
 have h0:(run mask 13 z).2=0:=by
  rw[Sl];exact Nat.div_eq_of_lt (wJ hp (by decide))
 have h1:=Ut mask 13 z (by decide);rw[hk] at h1;let⟨n,hn,e⟩:=WS h1 (show j < 2 ^ k by lia);refine⟨13+n,by lia,?_⟩;rw[Te,show run mask 13 z=((run mask 13 z).1,0) from Prod.ext rfl h0,Sn,hk];exact e
open PySem SetTable
def Uu(mask i:Nat):i<=runEnd mask i/\runEnd mask i<=i+9:=by
 unfold runEnd;split<;>lia
def RR(t:SetTable):Nat->Probe->Probe
 | 0,p=>p
 | n+1,p=>RR t n (t.advance p)
def So(t:SetTable):∀a b p,RR t (a+b) p=RR t b (RR t a p)
 | 0,b,p=>by rw[jE];rfl
 | a+1,b,p=>by rw[show a+1+b=a+b+1 by lia];exact So t a b _
def rs(t:SetTable)(z:Nat×Nat):Probe:={ j:=z.1,more:=runEnd t.mask z.1 - z.1,i:=z.1,perturb:=z.2,dummy:=none }
def Sq(t:SetTable):∀ (m:Nat) (p:Probe),p.more=m->p.dummy=none->RR t (m+1) p=rs t (leap t.mask p.i p.perturb)
 | 0,p,h,hd=>by
  show t.advance p=_;unfold advance;rw[yO (by lia)];let⟨a,b,c,d,e⟩:=p;cases hd;rfl
 | m+1,p,h,hd=>by
  show RR t (m+1) (t.advance p)=_;have e:t.advance p={ p with j:=p.j+1,more:=p.more - 1 }:=by
   unfold advance;rw[yM (by lia)]
  rw[e];exact Sq t m _ (by show p.more - 1=m;lia) hd
def Tf(t:SetTable):∀ (r:Nat) (z:Nat×Nat),∃n,n<=10 * r/\RR t n (rs t z)=rs t (run t.mask r z)
 | 0,z=>⟨0,yN _,rfl⟩
 | r+1,z=>by
  let⟨n,hn,e⟩:=Tf t r (leap t.mask z.1 z.2);refine⟨(runEnd t.mask z.1 - z.1)+1+n,?_,?_⟩
  ·have:=Uu t.mask z.1;lia
  ·rw[So,Sq t (runEnd t.mask z.1 - z.1) (rs t z) rfl rfl];exact e
def TX{t:SetTable}{j i:Nat}(h:t.slot j=.live i):i < t.place.size:=by
 unfold slot at h;dsimp only at h;split at h
 ·rename_i q;cases h;exact (Array.getElem?_eq_some_iff.mp (eq_of_beq q)).1
 ·split at h<;>cases h
def Sr{t:SetTable}(hd:t.dummies=#[])(j:Nat):t.slot j≠.dummy:=by
 unfold slot has;dsimp only;split
 ·exactλz=>by cases z
 ·rw[hd];split
  ·rename_i q;simp at q
  ·exactλz=>by cases z
def Ss{t:SetTable}{f:Nat->Int}{h:Int}(hd:t.dummies=#[])(hf:∀i,i < t.place.size->f i≠h):∀ (fuel:Nat) (p:Probe),p.dummy=none->(∃n,n < fuel/\t.slot (RR t n p).j=.empty)->∃j,probe.go t f h fuel p=some (.empty j none)
 | 0,p,_,⟨n,hn,_⟩=>absurd hn (vO n)
 | fuel+1,p,hp,⟨n,hn,e⟩=>by
  unfold probe.go;cases q:t.slot p.j with
  | empty=>exact⟨p.j,by rw[hp]⟩
  | dummy=>exact absurd q (Sr hd _)
  | live i =>
   dsimp only;rw[yO (by simpa using hf i (TX q))];cases n with
   | zero=>rw[show RR t 0 p=p from rfl,q] at e;cases e
   | succ n =>
    refine Ss hd hf fuel _ ?_ ⟨n,by lia,e⟩;unfold advance;split<;>exact hp
def TY{t:SetTable}(hd:t.dummies=#[])(hl:t.place.size<=t.mask):∃j,j<=t.mask/\t.slot j=.empty:=by
 by_cases h:∃j,j<=t.mask/\t.slot j=.empty
 ·exact h
 ·exfalso;have:=Rz (l:=List.range (t.mask+1)) (m:=t.place.toList) List.nodup_range λj hj=>by
   have hj:=List.mem_range.mp hj;cases q:t.slot j with
   | empty=>exact absurd ⟨j,by lia,q⟩ h
   | dummy=>exact absurd q (Sr hd _)
   | live i =>
    unfold slot at q;dsimp only at q;split at q
    ·rename_i z;have z:=eq_of_beq z;let⟨hi,e⟩:=Array.getElem?_eq_some_iff.mp z;rw[<- e];exact Array.getElem_mem_toList hi
    ·split at q<;>cases q
  rw[zS,vZ] at this;lia
def Tg(h:Int):bits h < 2 ^ 64:=by
 unfold bits;have h1:=kY h (show (0:Int) < 2 ^ 64 by decide);have h2:=vR h (show (2 ^ 64:Int)≠0 by decide);lia
def Su{t:SetTable}{f:Nat->Int}{h:Int}(hk:∃k,t.mask+1=2 ^ k)(hd:t.dummies=#[])(hl:t.place.size<=t.mask)(hf:∀i,i < t.place.size->f i≠h):∃j,t.probe f h (t.probeStart h)=some (.empty j none):=by
 let⟨k,hk⟩:=hk;let⟨j,hj,e⟩:=TY hd hl;let⟨r,hr,er⟩:=reach hk (z:=(bits h % (t.mask+1),bits h)) (Tg h) hj;let⟨n,hn,en⟩:=Tf t r (bits h % (t.mask+1),bits h);refine Ss hd hf _ _ rfl ⟨n,?_,?_⟩
 ·unfold turns;lia
 ·show t.slot (RR t n (rs t (bits h % (t.mask+1),bits h))).j=_;rw[en];show t.slot (run t.mask r (bits h % (t.mask+1),bits h)).1=_;rw[er];exact e
def RW{mask:Nat}{owner:Array (Option Nat)}:∀ (fuel i p:Nat),(∃r,r < fuel/\(owner.getD (run mask r (i,p)).1 (some 0)).isNone=true)->∃j,layClean.free mask owner fuel i p=some j/\(owner.getD j (some 0)).isNone=true
 | 0,i,p,⟨r,hr,_⟩=>absurd hr (vO r)
 | fuel+1,i,p,⟨r,hr,e⟩=>by
  unfold layClean.free;cases q:(List.range (runEnd mask i+1 - i)).find? λk=>(owner.getD (i+k) (some 0)).isNone with
  | some k=>exact⟨i+k,rfl,by simpa using List.find?_some q⟩
  | none =>
   cases r with
   | zero =>
    exfalso;have:=List.find?_eq_none.mp q 0 (List.mem_range.mpr (by have:=Uu mask i;lia));exact this e
   | succ r=>exact RW fuel _ _ ⟨r,by lia,e⟩
def Uv{α:Type}{f g:Nat->Option α}{j:Nat}(hf:f j=none)(hg:(g j).isSome=true)(Q7:∀i,i≠j->g i=f i):∀ (l:List Nat),l.Nodup->(l.filterMap g).length=(l.filterMap f).length+if j∈l then 1 else 0
 | [],_=>by simp
 | a::l,hn=>by
  rw[kU] at hn;have ih:=Uv hf hg Q7 l hn.2;by_cases e:a=j
  ·subst e;let⟨v,hv⟩:=Option.isSome_iff_exists.mp hg;rw[List.filterMap_cons_some hv,List.filterMap_cons_none hf,zM,ih,yO hn.1,yM zF]
  ·have hm:(j∈a::l)=(j∈l):=by
    rw[zR];exact propext ⟨λh=>h.elim (λz=>absurd z.symm e) id,.inr⟩
   simp?[hm];cases q:f a with
   | none=>rw[List.filterMap_cons_none (by rw[Q7 a e,q]),List.filterMap_cons_none q,ih]
   | some v=>rw[List.filterMap_cons_some (by rw[Q7 a e,q]),List.filterMap_cons_some q,zM,zM,ih];lia
structure Lay(mask:Nat)(owner:Array (Option Nat))(k:Nat):Prop where
 size:owner.size=mask+1
 many:((List.range (mask+1)).filterMap λj=>owner.getD j none).length=k
 lt:∀j v,owner.getD j none=some v->v < k
def Lay.init(mask:Nat):Lay mask (Array.replicate (mask+1) none) 0 where
 size:=Array.size_replicate
 many:=by
  rw[List.length_eq_zero_iff,List.filterMap_eq_nil_iff];intro j _;simp[Array.getD]
 lt:=λj v h=>by simp[Array.getD] at h
def Lay.room{owner:Array (Option Nat)}{k:Nat}(L:Lay mask owner k)(h:k<=mask):∃j,j<=mask/\(owner.getD j (some 0)).isNone=true:=by
 by_cases e:∃j,j<=mask/\(owner.getD j (some 0)).isNone=true
 ·exact e
 ·exfalso;have:∀l:List Nat,(∀x∈l,x<=mask)->(l.filterMap λj=>owner.getD j none).length=l.length:=by
   intro l
   induction l with
   | nil=>intro _;rfl
   | cons a l ih =>
    intro hl;have ha:=hl a zF;have h1:a < owner.size:=by rw[L.size];lia
    cases q:owner.getD a none with
    | none =>
     refine absurd ⟨a,ha,?_⟩ e;have q':owner.getD a (some 0)=none:=by
      simp?[Array.getD,h1,dite_true] at q ⊢;exact q
     rw[q'];rfl
    | some v=>rw[List.filterMap_cons_some (f:=λj=>owner.getD j none) q,zM,zM,ih λx hx=>hl x (zD _ hx)]
  have h2:=this (List.range (mask+1)) λx hx=>by have:=List.mem_range.mp hx;lia
  rw[L.many,zS] at h2;lia
def Lay.put{owner:Array (Option Nat)}{k j:Nat}(L:Lay mask owner k)(hj:(owner.getD j (some 0)).isNone=true):Lay mask (owner.setIfInBounds j (some k)) (k+1):=by
 have h1:j < owner.size:=by
  by_cases h:j < owner.size
  ·exact h
  ·simp[Array.getD,h] at hj
 have h0:owner.getD j none=none:=by
  simp?[Array.getD,h1,dite_true] at hj ⊢;simpa using hj
 have g1:(owner.setIfInBounds j (some k)).getD j none=some k:=by simp[Array.getD,h1]
 have g2:∀i,i≠j->(owner.setIfInBounds j (some k)).getD i none=owner.getD i none:=λi hi=>by
  by_cases h:i < owner.size
  ·simp[Array.getD,h,Array.getElem_setIfInBounds,jN hi]
  ·simp[Array.getD,h]
 refine⟨by rw[Array.size_setIfInBounds];exact L.size,?_,λi v h=>?_⟩
 ·rw[Uv h0 (by rw[g1];rfl) g2 _ List.nodup_range,L.many,yM (List.mem_range.mpr (by rw[<- L.size];exact h1))]
 ·by_cases e:i=j
  ·rw[e,g1] at h;cases h;lia
  ·rw[g2 i e] at h;have:=L.lt i v h;lia
def Th{mask:Nat}(hk:∃k,mask+1=2 ^ k):∀ (hs:List Int) (owner:Array (Option Nat)) (k:Nat),Lay mask owner k->k+hs.length<=mask+1->∃Uw,(hs.foldl (init:=some (owner,k)) λacc h=>do let (owner,k) <- acc;let j <- layClean.free mask owner (turns mask) (bits h % (mask+1)) (bits h);pure (owner.setIfInBounds j (some k),k+1))=some (Uw,k+hs.length)/\Lay mask Uw (k+hs.length)
 | [],owner,k,L,_=>⟨owner,rfl,L⟩
 | h::hs,owner,k,L,hl=>by
  rw[zM] at hl;let⟨j,hj,e⟩:=L.room (by lia);let⟨kk,SF⟩:=hk;let⟨r,hr,er⟩:=reach SF (z:=(bits h % (mask+1),bits h)) (Tg h) hj;let⟨j',h1,h2⟩:=RW (mask:=mask) (owner:=owner) (turns mask) (bits h % (mask+1)) (bits h) ⟨r,by unfold turns;lia,by rw[er];exact e⟩;let⟨o',h3,h4⟩:=Th ⟨kk,SF⟩ hs _ (k+1) (L.put h2) (by lia);refine⟨o',?_,?_⟩
  ·rw[yJ,zM,show k+(hs.length+1)=k+1+hs.length by lia];have:(do let (owner,k) <- some (owner,k);let j <- layClean.free mask owner (turns mask) (bits h % (mask+1)) (bits h);pure (owner.setIfInBounds j (some k),k+1))=some (owner.setIfInBounds j' (some k),k+1):=by
    show (layClean.free mask owner (turns mask) (bits h % (mask+1)) (bits h)).bind _=_;rw[h1];rfl
   rw[this];exact h3
  ·rw[zM,show k+(hs.length+1)=k+1+hs.length by lia];exact h4
def TZ{mask finger moves:Nat}{led plain:Bool}{hs:Array Int}(hk:∃k,mask+1=2 ^ k)(hl:hs.size<=mask+1) :
  ∃pl od,laid mask finger moves led plain hs=some (⟨mask,pl,#[],finger,led,moves,plain⟩,od)/\pl.size=hs.size/\od.size=hs.size/\∀i∈od.toList,i < hs.size:=by
 let⟨ow,h1,L⟩:=Th hk hs.toList _ 0 (Lay.init mask) (by rw[vZ];lia);have hc:layClean mask hs=some ow:=by
  unfold layClean;rw[<- Array.foldl_toList,h1];rfl
 rw[jE,vZ] at L;have hlen:((List.range (mask+1)).filterMap λj=>(ow.getD j none).map (j,·)).length=hs.size:=by
  rw[<- L.many];have:∀l:List Nat,(l.filterMap λj=>(ow.getD j none).map (j,·)).length=(l.filterMap λj=>ow.getD j none).length:=by
   intro l
   induction l with
   | nil=>rfl
   | cons a l ih =>
    cases q:ow.getD a none with
    | none=>rw[List.filterMap_cons_none (by rw[q];rfl),List.filterMap_cons_none (f:=λj=>ow.getD j none) q,ih]
    | some v=>rw[List.filterMap_cons_some (by rw[q];rfl),List.filterMap_cons_some (f:=λj=>ow.getD j none) q,zM,zM,ih]
  exact this _
 refine⟨(((List.range (mask+1)).filterMap λj=>(ow.getD j none).map (j,·)).map (·.1)).toArray,(((List.range (mask+1)).filterMap λj=>(ow.getD j none).map (j,·)).map (·.2)).toArray,?_,?_,?_,?_⟩
 ·unfold laid;rw[hc];rfl
 ·simpa using hlen
 ·simpa using hlen
 ·intro i hi;rw[List.toList_toArray,List.mem_map] at hi;let⟨⟨a,b⟩,h2,rfl⟩:=hi;let⟨c,_,h3⟩:=List.mem_filterMap.mp h2;cases q:ow.getD c none with
  | none=>rw[q] at h3;cases h3
  | some v =>
   rw[q] at h3;cases h3;exact L.lt _ _ q
def Sv:∀ (fuel size n:Nat),n < size * 2 ^ fuel->∃m,sizeAbove.go n fuel size=size * 2 ^ m/\n < size * 2 ^ m/\(sizeAbove.go n fuel size=size\/sizeAbove.go n fuel size<=2 * n)
 | 0,size,n,h=>⟨0,by simp[sizeAbove.go],by simpa using h,.inl rfl⟩
 | fuel+1,size,n,h=>by
  unfold sizeAbove.go;by_cases q:size<=n
  ·rw[yM q];let⟨m,h1,h2,h3⟩:=Sv fuel (size * 2) n (by rw[Nat.mul_assoc,Nat.mul_comm 2,<- Nat.pow_succ];exact h);refine⟨m+1,by rw[h1,Nat.pow_succ,Nat.mul_comm (2 ^ m),Nat.mul_assoc],by rw[Nat.pow_succ,Nat.mul_comm (2 ^ m),<- Nat.mul_assoc];exact h2,.inr ?_⟩;rcases h3 with h3|h3
   ·rw[h3];lia
   ·exact h3
  ·rw[yO q];exact⟨0,by simp,by simpa using q,.inl rfl⟩
def above{n:Nat}(h:n < 2 ^ 60):∃k,sizeAbove n=2 ^ k/\n < sizeAbove n/\(sizeAbove n=8\/sizeAbove n<=2 * n):=by
 let⟨m,h1,h2,h3⟩:=Sv 64 8 n (wJ h (by decide));refine⟨m+3,?_,?_,h3⟩
 ·show sizeAbove.go n 64 8=_;rw[h1,Nat.pow_add,Nat.mul_comm]
 ·show n < sizeAbove.go n 64 8;rw[h1];exact h2
def RA(h:Heap)(a:Addr)(hs:List Int):Prop:=∃o es ep t,h.get? a=some o/\o.ExactSet/\o.data=.set es ep t/\es.size=hs.length/\(∀e∈es.toList,e.1∈hs)/\t.place.size=es.size/\t.dummies=#[]/\(∃k,t.mask+1=2 ^ k)/\es.size * 5 < t.mask * 3
def fits_of{t:SetTable}{n:Nat}(h1:t.place.size=n)(h2:t.dummies=#[])(h3:n<=t.mask):t.fits n=true:=by
 unfold fits fill;rw[h1,h2];simp[h3]
def Sw{α:Type}(xs:Array α)(p:Nat)(x:α):(insertAt xs p x).size=xs.size+1:=by
 unfold insertAt;simp?[Array.size_append,Array.size_push,Array.size_extract];lia
def Vb{α:Type}{xs:Array α}{p:Nat}{x y:α}(h:y∈(insertAt xs p x).toList):y∈xs.toList\/y=x:=by
 unfold insertAt at h;rw[Array.toList_append,List.mem_append,Array.toList_push,List.mem_append,yK,Array.toList_extract,Array.toList_extract] at h;rcases h with (h|h)|h
 ·exact .inl (vW (List.mem_of_mem_take h))
 ·exact .inr h
 ·exact .inl (vW (List.mem_of_mem_take h))
def Ux{t:SetTable}(hk:∃k,t.mask+1=2 ^ k)(h:n * 5 < t.mask * 3):t.gaveWay=false:=by
 let⟨k,hk⟩:=hk;unfold gaveWay;cases k with
 | zero=>rw[Nat.pow_zero] at hk;lia
 | succ k =>
  rw[Nat.pow_succ] at hk;rw[beq_eq_false_iff_ne];lia
section
variable {prog:Program}{w:World}{A:Around}{E:Value->Shared->Prop}{s:Shared}
def search{a b:Addr}{o:Obj}{es:Array (Int×Value)}{ep:Nat}{t:SetTable}{h:Int}{Q:SetFound->Shared->Prop}(ho:s.heap.get? a=some o)(hd:o.data=.set es ep t)(h1:t.place.size=es.size)(h2:t.dummies=#[])(h3:∃k,t.mask+1=2 ^ k)(h4:es.size * 5 < t.mask * 3)(Q7:∀e∈es.toList,e.1≠h)
  (q:∀j,Q (.free j false) s):wpAny (model prog w) A (setSearch a (.ref b) h true) Q E s:=by
 unfold setSearch setSearchFrom;refine zW (wpAny_setState_of ho hd (fits_of h1 h2 (by lia)) ?_);dsimp only;rw[Ux h3 h4];let⟨j,ej⟩:=Su (t:=t) (f:=λi=>(es[i]?.map (·.1)).getD 0) (h:=h) h3 h2 (by lia) (λi hi=>by
  rw[h1] at hi;rw[jY hi];exact Q7 _ (Array.getElem_mem_toList hi))
 generalize hp:t.probe _ h _=r;have e:r=some (.empty j none):=hp.symm.trans ej;subst e;exact zX (q j)
end
section
variable {prog:Program}{w:World}{A:Around}{E:Value->Shared->Prop}{s:Shared}
def stored{h:Heap}{a:Addr}{o:Obj}{es:Array (Int×Value)}{ep:Nat}{t:SetTable}(ho:h.get? a=some o)(hd:o.data=.set es ep t){es':Array (Int×Value)}{t':SetTable} :
  (h.update a (Obj.putSet es' t')).get? a=some { o with data:=.set es' (ep+1) t' }:=by
 have:=Heap.get?_update_self (Obj.putSet es' t') ho (by rw[putSet_of es' t' hd];rfl);rw[putSet_of es' t' hd] at this;exact this
def byValue{K:Type}[DecidableEq K]{knd:KeyKind prog w K}{ks:List K}{b:Addr}(hk:IsTupleKey knd s.heap ks b)(hi:∀ (k:K) (v:Value),knd.is k v=true->∀n,hashByValue n v=pure true)(q:Q true s):wpAny (model prog w) A (hashByValue 8 (.ref b)) Q E s:=by
 have hT:=hk.typeIs;let⟨o,items,n,ho,_,hd,hit⟩:=hk;unfold hashByValue;refine zW (wpAny_specialOf hT F.slot_tuple_hash.lookup ?_);show wpAny _ _ (seqItems? (.ref b) >>= _) _ _ s;refine zW (kG ho hd ?_);refine zW ?_;show wpAny _ _ (forIn items _ _) _ _ s;rw[<- Array.forIn_toList];refine wpAny_forIn_list _ (λrest r s'=>r.1=none/\s'=s/\∃ks',ItemsAre knd ks' rest) _ ?_ ?_ _ _ ⟨rfl,rfl,ks,hit⟩
 ·rintro v rest r s' ⟨hr,rfl,ks',Sb⟩;cases Sb with
  | cons h1 h2 =>
   rw[hi _ _ h1];refine zW (zX ?_);simp?[xZ,yP,qQ];exact zX ⟨rfl,rfl,_,h2⟩
 ·rintro⟨r1,r2⟩ s' ⟨hr,rfl,_⟩;simp only at hr;subst hr;exact zX q
def Ym{a:Addr}{o:Obj}{es:Array (Int×Value)}{ep:Nat}{t:SetTable}{hs:List Int}{Q:Unit->Shared->Prop}(ho:s.heap.get? a=some o)(hex:o.ExactSet)(hd:o.data=.set es ep t)(h1:t.place.size=es.size)(h2:t.dummies=#[])(h3:es.size<=t.mask)(h4:es.size=hs.length)(h5:∀e∈es.toList,e.1∈hs)(hn:es.size<=20000)
  (q:∀h',Heap.SameBut a s.heap h'->RA h' a hs->Q () { s with heap:=h' }):wpAny (model prog w) A (setRelay a (grown es.size)) Q E s:=by
 have hg:grown es.size=es.size * 4:=by unfold grown;rw[yO (by lia)]
 let⟨k,k1,k2,k3⟩:=above (n:=es.size * 4) (by lia);unfold setRelay;refine zW (wpAny_setState_of ho hd (fits_of h1 h2 h3) ?_);dsimp only;rw[hg,yO (by rw[qV];lia)];let⟨pl,od,e1,e2,e3,e4⟩:=TZ (mask:=sizeAbove (es.size * 4) - 1) (finger:=t.finger) (moves:=t.movedTo (sizeAbove (es.size * 4) - 1)) (led:=t.led) (plain:=t.plain) (hs:=es.map (·.1)) ⟨k,by lia⟩ (by rw[Array.size_map];lia);rw[Array.size_map] at e2 e3 e4;have er:t.relaid (es.map (·.1)) (es.size * 4)=_:=e1;rw[er];have hsz:(od.filterMap (es[·]?)).size=es.size:=by
  have:∀l:List Nat,(∀i∈l,i < es.size)->(l.filterMap (es[·]?)).length=l.length:=by
   intro l
   induction l with
   | nil=>intro _;rfl
   | cons i l ih =>
    intro hl;rw[List.filterMap_cons_some (b:=es[i]'(hl i zF)) (jY _),zM,zM,ih λx hx=>hl x (zD _ hx)]
  have:=this _ e4;rw[<- Array.toList_filterMap] at this;exact (vZ ..).symm.trans (this.trans ((vZ ..).trans e3))
 have Va:∀e∈(od.filterMap (es[·]?)).toList,e∈es.toList:=λe he=>by
  rw[Array.toList_filterMap] at he;let⟨i,_,hi⟩:=List.mem_filterMap.mp he;let⟨Q0,rfl⟩:=Array.getElem?_eq_some_iff.mp hi;exact Array.getElem_mem_toList Q0
 show wpAny _ _ ((do if (od.filterMap (es[·]?)).size != es.size then { unsupported "internal:set-table-lost-an-element" };pure (od.filterMap (es[·]?),(⟨sizeAbove (es.size * 4) - 1,pl,#[],t.finger,t.led,t.movedTo (sizeAbove (es.size * 4) - 1),t.plain⟩:SetTable)):Sem _) >>= _) _ _ _;rw[yO (by rw[hsz];simp)];refine zW (zX (wpAny_storeSet_of ho hd ?_ (by rw[hsz,qV];lia)));refine q _ (Heap.SameBut.update _ a _) ⟨_,_,ep+1,_,stored ho hd,hex,rfl,by rw[hsz];exact h4,λe he=>h5 e (Va e he),by rw[hsz];exact e2,rfl,⟨k,?_⟩,?_⟩
 ·show sizeAbove (es.size * 4) - 1+1=2 ^ k;lia
 ·rw[hsz];show es.size * 5 < (sizeAbove (es.size * 4) - 1) * 3;lia
def Vc{K:Type}[DecidableEq K]{knd:KeyKind prog w K}{ks:List K}{a b:Addr}{hs:List Int}{h:Int}(hk:IsTupleKey knd s.heap ks b)(hi:∀ (k:K) (v:Value),knd.is k v=true->∀n,hashByValue n v=pure true)(hS:RA s.heap a hs)(Q7:h∉hs)(hn:hs.length < 20000)
  (q:∀h',Heap.SameBut a s.heap h'->RA h' a (hs++[h])->Q true { s with heap:=h' }):wpAny (model prog w) A (setAddHashed a (.ref b) h) Q E s:=by
 let⟨o,es,ep,t,ho,hex,hd,h1,h2,h3,h4,h5,h6⟩:=hS;unfold setAddHashed setAddHashedIn;refine xY (zW (wpAny_setState_of ho hd (fits_of h3 h4 (by lia)) ?_));dsimp only;rw[show byScan (.ref b) es=false from rfl];simp?[yP,qQ];refine zW (search ho hd h3 h4 h5 h6 (λe he z=>Q7 (z ▸ h2 e he)) λj=>?_);dsimp only;refine zW (wpAny_setState_of ho hd (fits_of h3 h4 (by lia)) ?_);dsimp only;have hp:(t.put j).1.place.size=es.size+1:=by
  show (insertAt t.place _ j).size=_;rw[Sw,h3]
 have hdm:(t.put j).1.dummies=#[]:=by
  show (if has t.dummies j=true then _ else t.dummies)=_;rw[h4];rfl
 have hm:(t.put j).1.mask=t.mask:=rfl;have rest:∀ (t':SetTable),t'.place.size=es.size+1->t'.dummies=#[]->t'.mask=t.mask->wpAny (model prog w) A (do storeSet a (insertAt es (t.put j).2 (h,.ref b)) t';if (!false&&t'.tooFull)=true then { setRelay a (grown (es.size+1)) };pure true) Q E s:=λt' g1 g2 g3=>by
  have z1:(insertAt es (t.put j).2 (h,Value.ref b)).size=es.size+1:=Sw ..;have z2:∀e∈(insertAt es (t.put j).2 (h,Value.ref b)).toList,e.1∈hs++[h]:=λe he=>by
   rw[List.mem_append,yK];rcases Vb he with z|rfl
   ·exact .inl (h2 e z)
   ·exact .inr rfl
  have z3:(insertAt es (t.put j).2 (h,Value.ref b)).size=(hs++[h]).length:=by rw[z1,h1,zO];rfl
  refine zW (wpAny_storeSet_of ho hd ?_ (by rw[z1,qV];lia));have RK:=stored ho hd (es':=insertAt es (t.put j).2 (h,Value.ref b)) (t':=t');by_cases hf:(!false&&t'.tooFull)=true
  ·rw[yM hf];refine zW ?_;rw[<- z1];refine Ym (s:={ s with heap:=_ }) RK hex rfl (g1.trans z1.symm) g2 (by rw[z1,g3];lia) z3 z2 (by rw[z1];lia) λh' sb S=>zX (q h' ((Heap.SameBut.update _ a _).trans sb) S)
  ·rw[yO hf];refine zW (zX (zX (q _ (Heap.SameBut.update _ a _) ⟨_,_,ep+1,t',RK,hex,rfl,z3,z2,g1.trans z1.symm,g2,?_,?_⟩)))
   ·rw[g3];exact h5
   ·rw[z1];have:t'.tooFull=false:=by simpa using hf
    unfold tooFull fill at this;rw[g1,g2] at this;simpa using this
 by_cases RF:(t.put j).1.plain=true
 ·rw[yM RF];refine zW (byValue hk hi ?_);exact rest _ hp hdm hm
 ·rw[yO RF];refine zW (zX ?_);exact rest _ hp hdm hm
end
open PySem PyProof.Rows
section
variable {prog:Program}{w:World}{A:Around}{K:Type}[DecidableEq K] {knd:KeyKind prog w K}
def IsTupleKey.at{h h':Heap}{ks:List K}{b:Addr}(x:IsTupleKey knd h ks b)(e:∀o,h.get? b=some o->h'.get? b=some o):IsTupleKey knd h' ks b:=by
 let⟨o,i,n,h1,h2⟩:=x;exact⟨o,i,n,e o h1,h2⟩
def RA.at{h h':Heap}{a:Addr}{hs:List Int}(x:RA h a hs)(e:∀o,h.get? a=some o->h'.get? a=some o):RA h' a hs:=by
 let⟨o,es,ep,t,h1,h2⟩:=x;exact⟨o,es,ep,t,e o h1,h2⟩
section
variable {R:Result->Shared->Prop}{I:Addr}{fp wr:List Addr}{G:Array GenState->Array GenState->Prop}{n:Nat}{P:Nat->Value->Prop}{St:Nat->Shared->Prop}
def loop(W:WalksS prog w A.in1 I fp wr G n P St){S:Addr}(hSf:S∉fp){ks:Nat->List K}{bs:Nat->Addr}(hi:∀ (k:K) (v:Value),knd.is k v=true->∀n,hashByValue n v=pure true)(hv:∀i v,P i v->v=.ref (bs i))(hu:A.in1.units < cLine)
  (hd:∀i j,i < j->j < n->tupleKeyHash knd (ks j)≠tupleKeyHash knd (ks i)) (hn:n < 20000) (ho:∀i,i < n->bs i∉S::wr) :
  ∀ (k i:Nat) (s:Shared),n - i=k->i<=n->St i s->RA s.heap S ((List.range i).map λj=>tupleKeyHash knd (ks j))->(∀j,j < n->IsTupleKey knd s.heap (ks j) (bs j)) ->
   (∀s',Moved (S::wr) G s s'->RA s'.heap S ((List.range n).map λj=>tupleKeyHash knd (ks j))->R (.ok (.ret .none)) s')->codeAny (model prog w) A (.builtin "set.update.loop" ⟨[.ref S,.ref I],[]⟩) R s:=by
 have hSw:S∉wr:=λh=>hSf (W.sub _ h);have up:∀b∈wr,b∈S::wr:=λb hb=>zD _ hb;intro k
 induction k with
 | zero =>
  intro i s hk Uq st hS _ hR;obtain rfl:i=n:=by lia
  refine kE PyProof.Rows.F.entry_set_update_loop ?_;rw[Around.under_plainId PyProof.Rows.F.plain_set_update_loop _];refine zW (m:=pyNext (.ref I)) (W.done s _ _ st λs' hm=>?_);exact zX (hR s' (hm.mono up) (RA.at hS λo e=>hm.heap S _ hSw e))
 | succ k ih =>
  intro i s hk Uq st hS hT hR;have Q0:i < n:=by lia
  refine kE PyProof.Rows.F.entry_set_update_loop ?_;rw[Around.under_plainId PyProof.Rows.F.plain_set_update_loop _];refine zW (m:=pyNext (.ref I)) (W.item i s _ _ Q0 st λv s' hP Rh hm=>?_);obtain rfl:=hv i v hP;have hT':∀j,j < n->IsTupleKey knd s'.heap (ks j) (bs j):=λj hj=>IsTupleKey.at (hT j hj) λo e=>hm.heap _ _ (λz=>ho j hj (up _ z)) e;show wpAny _ A.in1 (holding [Value.ref (bs i)] (setAdd S (.ref (bs i))) >>= _) _ _ s';refine zW (xY ?_);unfold setAdd;refine xY (zW (wpAny_pyHash_tuple hu (hT' i Q0) ?_));refine Vc (s:={ s' with toks:=_ }) (hT' i Q0) hi (RA.at hS λo e=>hm.heap S _ hSw e) (λz=>?_) (by rw[zE,zS];lia) λh' sb S'=>?_
  ·let⟨j,hj,e⟩:=List.mem_map.mp z;exact hd j i (List.mem_range.mp hj) Q0 e.symm
  ·have out:∀b,b≠S->∀o,s'.heap.get? b=some o->h'.get? b=some o:=λb hb o e=>(sb.2 b hb).trans e;refine zX ⟨plainId_quiet PyProof.Rows.F.plain_set_update_loop _,ih (i+1) _ (by lia) Q0 (W.frame _ s' _ _ Rh (jV _ _) λb hb o e=>out b (λz=>hSf (z ▸ hb)) o e) (by rw[vP,jB];exact S') (λj hj=>IsTupleKey.at (hT' j hj) λo e=>out _ (λz=>ho j hj (z ▸ zF)) o e) λSE abS S''=>?_⟩;exact hR SE (Moved.trans W.gtrans ((hm.mono up).then_heap (jV _ _) λb o hb e=>out b (λz=>hb (z ▸ zF)) o e) abS) S''
end
abbrev ob(led:Bool):Obj:={ cls:=.type "set",dict:=none,data:=.set #[] 0 (.fresh 0 0 led) }
def T1{h:Heap}{a:Addr}{led:Bool}(e:h.get? a=some (ob led)):RA h a [] :=
 ⟨_,_,_,_,e,⟨rfl,rfl,rfl⟩,rfl,rfl,λe he=>(by cases he),rfl,rfl,⟨3,rfl⟩,(by decide:0 * 5 < 7 * 3)⟩
def T2{E:Value->Shared->Prop}{s:Shared}{l:Addr}{its:Array Value}{Q:Value->Shared->Prop}{ks:Nat->List K}{bs:Nat->Addr}(hh:A.handled=none)(hu:A.in1.in1.in1.units < cLine)(hl:s.heap.IsList l its)(hi:∀ (k:K) (v:Value),knd.is k v=true->∀n,hashByValue n v=pure true)
  (hv:∀ (i:Nat) (v:Value),its[i]?=some v->v=.ref (bs i)) (hT:∀i,i < its.size->IsTupleKey knd s.heap (ks i) (bs i)) (hd:∀i j,i < j->j < its.size->tupleKeyHash knd (ks j)≠tupleKeyHash knd (ks i)) (hn:its.size < 20000)
  (q:∀ (h':Heap) (tk:Nat),RA h' s.heap.objs.size ((List.range its.size).map λj=>tupleKeyHash knd (ks j))->(∀b o,b < s.heap.objs.size->s.heap.get? b=some o->h'.get? b=some o)->Q (.ref s.heap.objs.size) { s with heap:=h',toks:=tk }) :
  wpAny (model prog w) A (call (.type "set") [.ref l]) Q E s:=by
 let⟨c,tl,abF⟩:=PySem.F.called_set.mro;have m1:=PySem.F.called_set.made;have m2:=PySem.F.called_set.sub;have m3:=PySem.F.called_set.notType;have m4:=PySem.F.called_set.canCreate;have m5:=PySem.F.typeCall_set_1 (.ref l);refine wpAny_call (codeAny_of_tree (show wpAny _ _ (callAny (.type "set") _) _ _ _ from zX ⟨wF _ (by decide +kernel),kE PySem.F.entry_type_call ?_⟩));rw[Around.under_plain (weight_type_call_type "set" [.ref l] []) rfl]
 repeat (any_goals (first|assumption|wp_step))
 refine jS (code_set_new_1 (.ref l) (E:=E) (Q₁:=λz s1=>∃led:Bool,z=.ref s.heap.objs.size/\s1={ s with heap:=s.heap.push (ob led) }) λled=>⟨led,rfl,rfl⟩) λr s1 hr=>?_;cases r with
 | error e=>exact hr
 | ok fl =>
 cases fl with
 | ret z =>
  let⟨led,rfl,rfl⟩:=hr;have hS:(s.heap.push (ob led)).get? s.heap.objs.size=some (ob led):=zY _ rfl;have tS:Shared.TypeIs { s with heap:=s.heap.push (ob led) } (.ref s.heap.objs.size) "set":=⟨_,hS,rfl⟩
  have m6:=PySem.F.called_set.init.lookup;have m7:=PySem.F.called_set.init.bind (.ref s.heap.objs.size)
  repeat (any_goals (first|assumption|wp_step))
  refine jS (codeAny_call_builtin (R:=wants (λr s2=>r=.none/\∃h' tk,s2={ s with heap:=h',toks:=tk }/\RA h' s.heap.objs.size ((List.range its.size).map λj=>tupleKeyHash knd (ks j))/\∀b o,b < s.heap.objs.size->s.heap.get? b=some o->h'.get? b=some o) E) PySem.F.called_set.init.plain PySem.F.entry_set_init (check_set_init_1 tS ?_)) λr2 s2 WK=>?_
  ·let⟨⟨oc,od,dt,S9⟩,Yc,R1,nl,Yd⟩:=hl;simp only at R1 Yd;subst R1 Yd;have US:(s.heap.push (ob led)).get? l=some { cls:=.type "list",dict:=od,data:=.seq its nl,slots:=S9 }:=zV _ Yc;have m8:=PySem.F.sub_list_set;have m9:=PySem.F.sub_list_frozenset;have m10:(Value.type "list" == Value.type "dict")=false:=by decide
   have Xt:(s.heap.push (ob led)).IsList l its:=⟨_,US,rfl,nl,rfl⟩
   unfold Builtin.«set.__init__» noKeywords Builtin.Frozenset.updateFrom;generalize hPI:pyIter=PI
   wp_walk
   subst hPI;refine qL Xt (zW (wpAny_runValue ?_));have lS:l < s.heap.objs.size:=zZ Yc;have hb:∀i,i < its.size->bs i < s.heap.objs.size:=λi hi=>by
    let⟨o,_,_,e,_⟩:=hT i hi;exact zZ e
   have sz:(s.heap.push (ob led)).objs.size=s.heap.objs.size+1:=xK ..;have WM:l≠(s.heap.push (ob led)).objs.size:=by rw[sz];exact yS (jO lS)
   have hh3:A.in1.in1.in1.handled=none:=by simp[hh]
   refine loop ((Walks.list hh3 _ l WM its).toS) (S:=s.heap.objs.size) ?hx1 hi hv hu hd hn ?hx2 (its.size - 0) 0 _ (by lia) (xW _) ⟨⟨_,zY _ rfl,rfl,rfl⟩,Xt.push _⟩ (T1 (led:=led) (zV _ hS)) ?hx4 ?hx3
   case hx4=>exactλj hj=>IsTupleKey.at (hT j hj) λo e=>zV _ (zV _ e)
   case hx1 =>
    rw[sz];simp?[zR,yG,xV,not_or];exact⟨yS (kN _),jJ lS⟩
   case hx2 =>
    intro i hi;have:=hb i hi;rw[sz];simp?[zR,yG,xV,not_or];exact⟨yS this,yS (jO this)⟩
   case hx3 =>
    intro s' hm S';let⟨h',g',d',tk',XI⟩:=s';have e1:g'=s.gens:=hm.gens;have e2:d'=s.drawn:=hm.drawn;have e3:XI=s.os:=hm.os;subst e1 e2 e3;refine zX (show wpAny _ _ (ret Value.none) _ _ _ from zX ⟨rfl,h',tk',rfl,S',λb o SU e=>hm.heap b o ?_ (zV _ (zV _ e))⟩);rw[sz];simp?[zR,yG,xV,not_or];exact⟨yS SU,yS (jO SU)⟩
  ·cases r2 with
   | error e=>exact WK
   | ok fl2 =>
   cases fl2 with
   | ret r =>
    let⟨rfl,h',tk,rfl,S',SF⟩:=WK
    repeat (any_goals (first|assumption|wp_step))
    exact q _ _ S' SF
   | _=>exact WK.elim
 | _=>exact hr.elim
end
end Sx
namespace Dl
open PySem L2 PySem.Spec PyProof.Rows
def mJ(ns:List Int):Int:=reduceHash (Builtin.Tuple.tupleHashOf (ns.map hashInt))
def sF:List D->Option (List (List Int))
 | []=>some []
 | d::ds=>(gG d).bind λn=>(sF ds).map λr=>n::r
def fX:D->Option D
 | .list ds=>(sF ds).bind λr=>if (r.map mJ).Nodup/\r.length < 20000 then some (.int r.length) else none
 | _=>none
def p5:∀ {ds:List D}{r:List (List Int)},sF ds=some r->ds=r.map λn=>.tuple (n.map PyData.int)
 | [],r,h=>by cases h;rfl
 | d::ds,r,h=>by
  let⟨n,h1,h⟩:=bs h;let⟨r',h2,rfl⟩:=ag h;rw[iz h1,p5 h2];rfl
section
variable {X:Cx}
def Iv{P:Program}{w:World}(k:Int)(v:Value)(h:(intKind P w).is k v=true)(n:Nat):hashByValue n v=pure true:=by
 let⟨t,rfl⟩:=Value.isInt_shape h;cases n<;>rfl
def items_int{P:Program}{w:World}:∀ {ns:List Int}{us:List Value},aD (ns.map V.int) us->ItemsAre (intKind P w) ns us
 | [],_,r=>by cases r;exact .nil
 | n::ns,_,r=>by
  rw[zJ] at r;cases r with
  | cons h t=>let⟨t',rfl⟩:=h;exact .cons (intKind_is ..) (items_int t)
def Ac(hc:X.calm=true)(hu:X.A.in1.in1.in1.units < cLine)(B:oY X "len" (.builtin "len"))(C:oY X "set" (.type "set"))(h:DE X e f)(he:starEach [e] X.env=(false,eval e X.env)::starEach [] X.env:=by rfl) :
  DE X (.Call (.Name "len" p) [.Call (.Name "set" p') [e] [] pos'] [] pos) (f1 fX f):=by
 intro pins s σ H Q I z;let⟨HF,ρ,d,sm,eo,hf,q⟩:=z;let⟨x,hx,hf⟩:=bs hf;cases x<;>try cases hf
 rename_i ds;let⟨r,hr,hf⟩:=bs hf;by_cases hn:(r.map mJ).Nodup/\r.length < 20000;rotate_left
 ·rw[yO hn] at hf;cases hf
 rw[yM hn] at hf;cases hf;have Vp:=p5 hr;refine qZ (iK I B.gl B.mg B.bt ?_ (by decide) (by decide));refine PyProof.Rows.callWith_builtin1 (e:=.Call (.Name "set" p') [e] [] pos') (rest:=[]) ?_ rfl rfl;refine Calls.spliced_cons ?_;refine qZ (iK I C.gl C.mg C.bt (qT (bS (uB h AC he pos' pins s σ H _ I ⟨HF,ρ,[.list ds],sm,eo,by simp[aa,ah,hx],λvs H1 QO g1 r1=>(⟨QO,g1,r1⟩:∃QO,bR HF H QO H1/\au X.K QO [.list ds] vs)⟩) λus s1 ⟨vs,H1,I1,rv,QO,g1,r1⟩=>?_) he rfl));let⟨v,vr,rfl,a1,b1⟩:=r1.cons_inv;rw[b1.nil_inv] at rv;let⟨u,rfl,rx⟩:=vals1 rv;simp?[Rep] at a1;let⟨la,ws,rfl,hq,rr⟩:=a1;cases rx;let⟨its,UU,pl,hz⟩:=I1.list (g1.fh.seq hq);have hlen:its.toArray.size=r.length:=by
  have e1:=UU.length;have e2:=rr.length;rw[Vp,zE] at e2;rw[zI];lia
 have Yn:∀ (i:Nat) (v:Value),its[i]?=some v->∃b,v=.ref b/\gq X.K H1 b ((r.getD i []).map V.int):=λi v hv=>by
  have hi:i < its.length:=(List.getElem?_eq_some_iff.mp hv).1;obtain⟨y,hy⟩:∃y,ws[i]?=some y:=⟨_,zL (by rw[UU.length];exact hi)⟩
  let⟨v',Vs,ry⟩:=UU.get hy;rw[hv] at Vs;cases Vs;let⟨d,hd,rd⟩:=rr.get hy;rw[Vp,zP] at hd;let⟨n,hn',rfl⟩:=ag hd;rw[zH,hn'];simp?[Rep] at rd;let⟨b,vs,rfl,hb,rb⟩:=rd;have:=d7 rb;subst this;cases ry;exact⟨b,rfl,ay g1.fh hb⟩
 let bs:Nat->Addr:=λi=>match its[i]? with|some (.ref b)=>b|_=>0
 have hbs:∀ (i:Nat) (v:Value),its[i]?=some v->v=.ref (bs i):=λi v hv=>by
  let⟨b,rfl,_⟩:=Yn i v hv;simp?[bs,hv]
 refine Sx.T2 (knd:=intKind X.prog X.w) (ks:=λi=>r.getD i []) (bs:=bs) (I1.ok.hd hc) hu pl.isList Iv (λi v hv=>hbs i v (by simpa using hv)) (λi hi=>?_) (λi j QQ hj e=>?_) (by rw[hlen];exact hn.2) λh' tk S' hk=>?_
 ·have R5:i < its.length:=by simpa using hi
  let⟨b,e,hb⟩:=Yn i _ (zL R5);have e2:=hbs i _ (zL R5);rw[e] at e2;cases e2;let⟨its',rv',⟨o,h1,h2,n,h3⟩,_⟩:=I1.tuple hb;exact⟨o,its'.toArray,n,h1,h2,h3,by simpa using items_int rv'⟩
 ·rw[hlen] at hj;have nd:=hn.1;rw[List.nodup_iff_pairwise_ne,List.pairwise_iff_getElem] at nd;refine nd i j (by rw[zE];lia) (by rw[zE];exact hj) QQ ?_;rw[List.getElem_map,List.getElem_map];have e:mJ (r.getD j [])=mJ (r.getD i []):=e;rw[zH,zH,zL hj,zL (wJ QQ hj)] at e;exact e.symm
 ·refine Calls.spliced_nil ?_;have I2:=I1.kept (t':=tk) (h':=h') λb o e=>hk b o (zZ e) e;let⟨o,es,ep,t,ho,hex,hd,e1,_,e3,e4,_,e6⟩:=S';rw[zE,zS,hlen] at e1;refine call_len_set (s:={ s1 with heap:=h',toks:=tk }) ho hex hd (Sx.fits_of e3 e4 (by lia)) (by rw[e1];have:=hn.2;lia) ?_;refine⟨.int r.length,H1,I2.tok _,⟨_,by rw[e1]⟩,q _ _ QO g1 (by simp[Rep])⟩
end
end Dl
namespace Sx
open PySem Dl
variable {r':List Int}
def fo{α:Type}(f:Nat->α)(n:Nat):α:=Nat.rec (motive:=λ_=>α) (f 0) (λk _=>f (k+1)) n
def Uy{α:Type}(f:Nat->α):∀n,fo f n=f n
 | 0=>rfl
 | n+1=>rfl
def g(a h:Nat):Nat:=((((a+h * 14029467366897019727) % 18446744073709551616 * 2147483648) % 18446744073709551616+(a+h * 14029467366897019727) % 18446744073709551616 / 8589934592) * 11400714785074694791) % 18446744073709551616
def lv:List Nat->List Nat
 | []=>[]
 | x::l=>fo (λa=>fo (λb=>fo (λc=>a::b::c::lv l) (g x 2)) (g x 1)) (g x 0)
def lvn:Nat->List Nat->List Nat
 | 0,l=>l
 | n+1,l=>lvn n (lv l)
def pt(d:Nat)(l:List Nat):List Nat×List Nat:=List.rec (motive:=λ_=>List Nat×List Nat) ([],[]) (λx _ r=>if Nat.ble 1 (x / d % 2) then (r.1,x::r.2) else (x::r.1,r.2)) l
def nd:Nat->Nat->List Nat->Bool
 | 0,_,l=>Nat.ble l.length 1
 | n+1,d,l=>match l with
  | []=>true
  | [_]=>true
  | _=>nd n (d * 2) (pt d l).1&&nd n (d * 2) (pt d l).2
def SX(d:Nat):∀ {l:List Nat},(pt d l).1.Nodup->(pt d l).2.Nodup->l.Nodup/\∀x,x∈l->x∈(if Nat.ble 1 (x / d % 2)=true then (pt d l).2 else (pt d l).1)
 | [],_,_=>⟨List.nodup_nil,λx h=>by cases h⟩
 | y::l,h1,h2=>by
  have e:pt d (y::l)=if Nat.ble 1 (y / d % 2) then ((pt d l).1,y::(pt d l).2) else (y::(pt d l).1,(pt d l).2):=rfl
  rw[e] at h1 h2 ⊢;by_cases q:Nat.ble 1 (y / d % 2)=true
  ·rw[yM q] at h1 h2 ⊢;rw[kU] at h2;let⟨i1,i2⟩:=SX d h1 h2.2;refine⟨List.nodup_cons.mpr ⟨λz=>?_,i1⟩,λx hx=>?_⟩
   ·have:=i2 y z;rw[yM q] at this;exact h2.1 this
   ·rcases List.mem_cons.mp hx with rfl|hx
    ·rw[yM q];exact zF
    ·have:=i2 x hx;split<;>rename_i z
     ·rw[yM z] at this;exact zD _ this
     ·rw[yO z] at this;exact this
  ·rw[yO q] at h1 h2 ⊢;rw[kU] at h1;let⟨i1,i2⟩:=SX d h1.2 h2;refine⟨List.nodup_cons.mpr ⟨λz=>?_,i1⟩,λx hx=>?_⟩
   ·have:=i2 y z;rw[yO q] at this;exact h1.1 this
   ·rcases List.mem_cons.mp hx with rfl|hx
    ·rw[yO q];exact zF
    ·have:=i2 x hx;split<;>rename_i z
     ·rw[yM z] at this;exact this
     ·rw[yO z] at this;exact zD _ this
def Uz:∀ {n d:Nat}{l:List Nat},nd n d l=true->l.Nodup
 | 0,d,l,h=>by
  have h:l.length<=1:=Nat.le_of_ble_eq_true h
  match l,h with
  | [],_=>exact List.nodup_nil
  | [x],_=>exact List.nodup_cons.mpr ⟨by simp,List.nodup_nil⟩
 | n+1,d,l,h=>by
  match l,h with
  | [],_=>exact List.nodup_nil
  | [x],_=>exact List.nodup_cons.mpr ⟨by simp,List.nodup_nil⟩
  | x::y::l,h =>
   have h:(nd n (d * 2) (pt d (x::y::l)).1&&nd n (d * 2) (pt d (x::y::l)).2)=true:=h;rw[zG] at h;exact (SX d (Uz h.1) (Uz h.2)).1
def t9:nd 64 1 (lvn 9 [2870177450012600261])=true:=by decide +kernel
def cst(k:Nat):Nat:=k ^^^ (2870177450012600261 ^^^ 3527539)
def bad(k:Nat)(l:List Nat):Bool:=l.all λa=>!Nat.beq ((a+cst k) % 18446744073709551616) 18446744073709551615
def Vd:Nat->Nat->List Nat->Bool
 | 0,k,l=>bad k l
 | n+1,k,l=>bad k l&&Vd n (k+1) (lv l)
def tb:Vd 9 0 [2870177450012600261]=true:=by decide +kernel
def small(r:List Int):Prop:=∀x∈r,x=0\/x=1\/x=2
def stp(a:Nat)(h:Int):Nat:=g a (h % (18446744073709551616:Int)).toNat
def fin(k a:Nat):Int:=if (a+cst k) % 18446744073709551616 == 18446744073709551615 then 1546275796 else if (a+cst k) % 18446744073709551616 < 2 ^ 63 then ((a+cst k) % 18446744073709551616:Nat) else (((a+cst k) % 18446744073709551616:Nat):Int) - (18446744073709551616:Nat)
def tho(hs:List Int):Builtin.Tuple.tupleHashOf hs=fin hs.length (hs.foldl stp 2870177450012600261):=by
 unfold Builtin.Tuple.tupleHashOf fin cst;rfl
def acc(r:List Int):Nat:=(r.map hashInt).foldl stp 2870177450012600261
def Rw(r:List Int)(x:Int):acc (r++[x])=stp (acc r) (hashInt x):=by
 unfold acc;rw[jB,List.foldl_append,zJ,yV,yJ,List.foldl_nil]
def UW:Nat->List (List Int)
 | 0=>[[]]
 | k+1=>(UW k).flatMap λr=>[r++[0],r++[1],r++[2]]
def UA(l:List (List Int)):lv (l.map acc)=(l.flatMap λr=>[r++[0],r++[1],r++[2]]).map acc:=by
 induction l with
 | nil=>rfl
 | cons r l ih =>
  rw[zJ,lv,Uy,Uy,Uy,ih,List.flatMap_cons,jB];simp?[zJ,yV,Rw];rfl
def Ti:∀ (n k:Nat),lvn n ((UW k).map acc)=(UW (k+n)).map acc
 | 0,k=>rfl
 | n+1,k=>by
  rw[lvn,UA,show k+(n+1)=k+1+n by lia];exact Ti n (k+1)
def Rx:∀ {k:Nat}{r:List Int},r.length=k->small r->r∈UW k
 | 0,r,h,_=>by rw[List.length_eq_zero_iff.mp h];exact List.mem_singleton.mpr rfl
 | k+1,r,h,hs=>by
  have Q7:r≠[]:=λz=>by rw[z] at h;cases h
  have e:=List.dropLast_concat_getLast Q7;refine List.mem_flatMap.mpr ⟨r.dropLast,Rx (by rw[List.length_dropLast];lia) λx hx=>hs x (List.dropLast_subset r hx),?_⟩;rcases hs _ (List.getLast_mem Q7) with z|z|z<;>rw[z] at e<;>rw[<- e]<;>simp
def Tj:∀k,(UW k).length=3 ^ k
 | 0=>rfl
 | k+1=>by
  have h:=Tj k;have:∀l:List (List Int),(l.flatMap λr=>[r++[0],r++[1],r++[2]]).length=l.length * 3:=by
   intro l
   induction l with
   | nil=>rfl
   | cons r l ih=>rw[List.flatMap_cons,zO,ih];simp;lia
  rw[UW,this,h,Nat.pow_succ]
def nd9:((UW 9).map acc).Nodup:=by
 have:=Uz t9;rw[show ([2870177450012600261]:List Nat)=(UW 0).map acc from rfl,Ti] at this;exact this
def map_inj{α β:Type}{f:α->β}:∀ {l:List α},(l.map f).Nodup->∀ {a b:α},a∈l->b∈l->f a=f b->a=b
 | [],_,a,b,h,_,_=>by cases h
 | x::l,hn,a,b,ha,hb,e=>by
  rw[zJ,kU] at hn;rcases List.mem_cons.mp ha with h1|h1
  ·rcases List.mem_cons.mp hb with h2|h2
   ·exact h1.trans h2.symm
   ·exact absurd (List.mem_map.mpr ⟨b,h2,by rw[<- e,h1]⟩) hn.1
  ·rcases List.mem_cons.mp hb with h2|h2
   ·exact absurd (List.mem_map.mpr ⟨a,h1,by rw[e,h2]⟩) hn.1
   ·exact map_inj hn.2 h1 h2 e
def Tn{r r':List Int}(e:acc r=acc r'):∀n,acc (r++List.replicate n 0)=acc (r'++List.replicate n 0)
 | 0=>by simpa using e
 | n+1=>by
  rw[List.replicate_succ',<- List.append_assoc,<- List.append_assoc,Rw,Rw,Tn e n]
def Ve{r r':List Int}{k:Nat}(hk:k<=9)(h1:r.length=k)(h2:r'.length=k)(s1:small r)(s2:small r')(e:acc r=acc r'):r=r':=by
 have z:=Tn e (9 - k);have sz:∀ {q:List Int},small q->small (q++List.replicate (9 - k) 0):=λhq x hx=>by
  rcases List.mem_append.mp hx with hx|hx
  ·exact hq x hx
  ·exact .inl (List.eq_of_mem_replicate hx)
 have:=map_inj nd9 (Rx (by rw[zO,xN];lia) (sz s1)) (Rx (by rw[zO,xN];lia) (sz s2)) z;exact List.append_cancel_right this
def To:∀ (n k j:Nat),Vd n k ((UW k).map acc)=true->k<=j->j<=k+n->bad j ((UW j).map acc)=true
 | 0,k,j,h,h1,h2=>by
  have e:j=k:=by lia
  rw[e];exact h
 | n+1,k,j,h,h1,h2=>by
  rw[Vd,zG] at h;by_cases e:j=k
  ·rw[e];exact h.1
  ·rw[UA] at h;exact To n (k+1) j h.2 (by lia) (by lia)
def WT{r:List Int}(hk:r.length<=9)(s:small r):(acc r+cst r.length) % 18446744073709551616≠18446744073709551615:=by
 have h:=To 9 0 r.length tb (xW _) (by lia);have:=List.all_eq_true.mp h (acc r) (List.mem_map.mpr ⟨r,Rx rfl s,rfl⟩);intro z;rw[z] at this;exact absurd this (by decide)
def UB(r:List Int):acc r < 18446744073709551616:=by
 rcases List.eq_nil_or_concat r with rfl|⟨q,x,rfl⟩
 ·decide
 ·rw[List.concat_eq_append,Rw];exact Nat.mod_lt _ (by decide)
def Sy{r:List Int}(hk:r.length<=9)(s:small r):mJ r=if (acc r+cst r.length) % 18446744073709551616 < 2 ^ 63 then (((acc r+cst r.length) % 18446744073709551616:Nat):Int) else (((acc r+cst r.length) % 18446744073709551616:Nat):Int) - (18446744073709551616:Nat):=by
 have h:=WT hk s;have hl:(acc r+cst r.length) % 18446744073709551616 < 18446744073709551616:=Nat.mod_lt _ (by decide);unfold mJ;rw[tho,zE];show reduceHash (fin r.length (acc r))=_;unfold fin;rw[yO (by simpa using h)];generalize (acc r+cst r.length) % 18446744073709551616=a at h hl ⊢;unfold reduceHash;split
 ·rw[yM (by simp;lia),yO (by first|(simp;done)|(simp;lia))]
 ·rw[yM (by simp;lia),yO (by first|(simp;done)|(simp;lia))]
def T3{r r':List Int}(hk:r.length<=9)(hl:r'.length=r.length)(s1:small r)(s2:small r')(e:mJ r=mJ r'):r=r':=by
 refine Ve hk rfl hl s1 s2 ?_;rw[Sy hk s1,Sy (by lia) s2,hl] at e;have l1:(acc r+cst r.length) % 18446744073709551616 < 18446744073709551616:=Nat.mod_lt _ (by decide);have l2:(acc r'+cst r.length) % 18446744073709551616 < 18446744073709551616:=Nat.mod_lt _ (by decide);have e':(acc r+cst r.length) % 18446744073709551616=(acc r'+cst r.length) % 18446744073709551616:=by
  generalize (acc r+cst r.length) % 18446744073709551616=a at e l1 ⊢;generalize (acc r'+cst r.length) % 18446744073709551616=b at e l2 ⊢;split at e<;>split at e<;>lia
 have a1:=UB r;have a2:=UB r';lia
def sub_len{l m:List (List Int)}(hn:l.Nodup)(hs:∀x∈l,x∈m):l.length<=m.length:=by
 induction l generalizing m with
 | nil=>exact xW _
 | cons x l ih =>
  rw[kU] at hn;let⟨m1,m2,rfl⟩:=List.append_of_mem (hs x zF);have:=ih (m:=m1++m2) hn.2 λy hy=>by
   have:=hs y (zD _ hy);rw[List.mem_append,zR] at this;rw[List.mem_append];rcases this with h|rfl|h
   ·exact .inl h
   ·exact absurd hy hn.1
   ·exact .inr h
  simp?[zO,zM] at this ⊢;lia
def Vf{l:List (List Int)}{k:Nat}(hk:k<=9)(hl:∀r∈l,r.length=k/\small r)(hn:l.Nodup):(l.map mJ).Nodup/\l.length < 20000:=by
 constructor
 ·rw[List.nodup_iff_pairwise_ne,jF];rw[List.nodup_iff_pairwise_ne] at hn;exact hn.imp_of_mem λ{a b} ha hb RC e=>RC (T3 (by rw[(hl a ha).1];exact hk) (by rw[(hl a ha).1,(hl b hb).1]) (hl a ha).2 (hl b hb).2 e)
 ·have h9:3 ^ k<=3 ^ 9:=Nat.pow_le_pow_right (by decide) hk;have:=sub_len hn λr hr=>Rx (hl r hr).1 (hl r hr).2;rw[Tj] at this;lia
end Sx
namespace HT
open PySem PyProof.Rows
variable {xs ys:Array Value}{ns ms:List Int}{l b:Addr}{n n2:Nat}{dd UO:Option Addr}{sl UP:Array (Option Value)}
section
open PySem.SeqAt
open PySem.AutoSeq1 (wpAny_loadPart')
open PySem.MeetsSeq PySem.MeetsSeq2 PySem.MeetsSeq3
def Fg(A:Around)(s:Shared)(a:Int)(t:Tok)(c:Int)(u:Tok)(prog:Program)(w:World)(E:Value->Shared->Prop)(Q:Value->Shared->Prop)(h:Q (.bool (decide (a<=c))) s) :
  wpAny (model prog w) A (richCompare .LtE (.int a t) (.int c u)) Q E s :=
 (PyProof.Rows.le_int h:wpAny (model prog w) A (compareOp .LtE (.int a t) (.int c u)) Q E s)
abbrev lobj(dd:Option Addr)(xs:Array Value)(n:Nat)(sl:Array (Option Value)):Obj:={ cls:=.type "list",dict:=dd,data:=.seq xs n,slots:=sl }
def Cj(h:IntsAre xs.toList ns){i:Nat}(hi:i < xs.size):∃t,xs[((i:Nat):Int).toNat]?=some (.int (ns.getD i 0) t):=by
 have e:xs[i]?=some xs[i]:=jY hi;let⟨t,ht⟩:=IntsAre.int_at h i xs[i] (by rw[Array.getElem?_toList];exact e);exact⟨t,by rw[yH,e,ht]⟩
def Iq(hi:IntsAre xs.toList ns)(hj:IntsAre ys.toList ms)(hz:xs.size=ys.size)(k:Nat) :
  ∀i:Nat,xs.size - i=k->Meets (Builtin.«list.__eq__.loop» ⟨[.ref l,.ref b,rawInt i,rawInt 1],[]⟩) (λA R s=>s.heap.get? l=some (lobj dd xs n sl)/\s.heap.get? b=some (lobj UO ys n2 UP)/\R (.ok (.ret (.bool (!lexLt (ms.drop i) (ns.drop i))))) s):=by
 have z1:xs.size=ns.length:=by rw[<- hi.length];simp
 have z2:ys.size=ms.length:=by rw[<- hj.length];simp
 induction k with
 | zero =>
  intro i hk prog w A R s h;let⟨hp,g,d,tk,os⟩:=s;let⟨hl,hb,h⟩:=h
  wp_walk using wpAny_loadPart' hl,wpAny_loadPart' hb
  rw[show xs[((i:Nat):Int).toNat]?=none by simp;lia,show ys[((i:Nat):Int).toNat]?=none by simp;lia]
  wp_walk using wpAny_loadPart' hl,wpAny_loadPart' hb
  rw[List.drop_eq_nil_of_le (show ms.length<=i by lia),List.drop_eq_nil_of_le (show ns.length<=i by lia)] at h;show R (.ok (.ret (.bool (decide (xs.size<=ys.size))))) _;rw[hz,yB (yN _)];exact h
 | succ k ih =>
  intro i hk prog w A R s h;let⟨hp,g,d,tk,os⟩:=s;let⟨hl,hb,h⟩:=h
  wp_walk using wpAny_loadPart' hl,wpAny_loadPart' hb
  let⟨t,e1⟩:=Cj hi (i:=i) (by lia);let⟨u,e2⟩:=Cj hj (i:=i) (by lia);rw[e1,e2];have d1:ns.drop i=ns.getD i 0::ns.drop (i+1):=by rw[kZ (by lia),zH,zL (by lia)];rfl
  have d2:ms.drop i=ms.getD i 0::ms.drop (i+1):=by rw[kZ (by lia),zH,zL (by lia)];rfl
  rw[d1,d2,cD] at h;let⟨e,he,Yo⟩:=FU A.in1 ⟨hp,g,d,tk,os⟩ (ns.getD i 0) t (ms.getD i 0) u;refine zW (he prog w _ _ ?_);cases e with
  | true =>
   rw[yM (Yo.mp rfl).symm] at h
   wp_walk
   rw[show ((i:Int)+1)=((i+1:Nat):Int) from rfl];refine⟨plainId_quiet plain_eq_loop _,kE entry_eq_loop ?_⟩;rw[Around.under_plainId plain_eq_loop _];exact ih (i+1) (by lia) prog w A R _ ⟨hl,hb,h⟩
  | false =>
   rw[yO (λq=>absurd (Yo.mpr q.symm) xA)] at h;have hri:=Fg A.in1 ⟨hp,g,d,tk,os⟩ (ns.getD i 0) t (ms.getD i 0) u prog w;have q:(!decide (ms.getD i 0 < ns.getD i 0))=decide (ns.getD i 0<=ms.getD i 0):=by
    rw[<- decide_not];exact decide_eq_decide.mpr (by lia)
   rw[q] at h
   wp_walk using wpAny_loadPart' hl,wpAny_loadPart' hb
   rw[e1,e2]
   wp_walk using hri
   exact h
def uh(hi:IntsAre xs.toList ns)(hj:IntsAre ys.toList ms)(hz:xs.size=ys.size) :
  Meets (Builtin.«list.__le__» ⟨[.ref l,.ref b],[]⟩) (λA R s=>s.heap.get? l=some (lobj dd xs n sl)/\s.heap.get? b=some (lobj UO ys n2 UP)/\R (.ok (.ret (.bool (!lexLt ms ns)))) s):=by
 intro prog w A R s h;let⟨hp,g,d,tk,os⟩:=s;let⟨hl,hb,h⟩:=h;have f3:=AutoSeq1.sub_list_list
 wp_walk using wpAny_loadPart' hl,wpAny_loadPart' hb
 refine⟨plainId_quiet plain_eq_loop _,kE entry_eq_loop ?_⟩;rw[Around.under_plainId plain_eq_loop _];exact Iq hi hj hz _ 0 rfl prog w A R _ ⟨hl,hb,h⟩
end
end HT
namespace Dl
open PySem L2 PySem.Spec PyProof.Rows
section
variable {X:Cx}
def oW:D->Option (List Int)|.list ds=>intsOf ds|_=>none
def mP{x:D}(h:oW x=some ns):x=.list (ns.map PyData.int):=by
 cases x<;>try cases h
 rename_i xs;have h:intsOf xs=some ns:=h;rw[cI h]
def HD:D->D->Option Bool:=λx y=>(oW x).bind λns=>(oW y).bind λms=>if ns.length=ms.length then some (!HT.lexLt ms ns) else none
def Gx:D->D->Option D:=λx y=>(HD x y).map PyData.bool
def Fc(hu:X.A.units < cLine):gK X (compareOp .LtE) (NV X.K HD):=by
 intro pins s σ H v1 v2 u1 u2 Q I rx ry h;let⟨HF,x,y,k,sm,r1,r2,hg,q⟩:=h;let⟨ns,h1,hg⟩:=bs hg;let⟨ms,h2,hg⟩:=bs hg;by_cases hl:ns.length=ms.length;rotate_left
 ·rw[yO hl] at hg;cases hg
 rw[yM hl] at hg;cases hg;rw[mP h1] at r1;rw[mP h2] at r2;have key:∀ {ns:List Int}{v:V}{u:Value},Rep X.K HF (.list (ns.map PyData.int)) v->RelV v u->∃a its n dd sl,u=.ref a/\s.heap.get? a=some (HT.lobj dd its n sl)/\IntsAre its.toList ns:=λ{ns v u} r rv=>by
  simp?[Rep] at r;let⟨a,vs,rfl,hs,rr⟩:=r;have:=d7 rr;subst this;cases rv;let⟨its,UU,pl,hz⟩:=I.list (sm.seq hs);let⟨⟨cls,dd,data,sl⟩,ho,hc,n,hd⟩:=pl.isList;simp only at hc hd;subst hc hd;exact⟨a,its.toArray,n,dd,sl,rfl,ho,intsAre_of UU⟩
 let⟨a,its,n,dd,sl,rfl,ho,i1⟩:=key r1 rx;let⟨b,Rm,n2,UO,UP,rfl,TF,i2⟩:=key r2 ry;have z1:its.size=ns.length:=by rw[<- i1.length];simp
 have z2:Rm.size=ms.length:=by rw[<- i2.length];simp
 exact richCompare_meets_room (op:=.LtE) ⟨_,ho,rfl⟩ ⟨_,TF,rfl⟩ PySem.F.slot_list_le PySem.F.entry_list_le (PySem.F.args_list_le_2 _ _) (HT.uh i1 i2 (by lia))
  ⟨ho,TF,show Value.bool (!HT.lexLt ms ns)≠Value.notImplemented/\EP X pins σ Q (.bool (!HT.lexLt ms ns)) s from ⟨(λx=>nomatch x),⟨.bl _,H,I,rfl,q⟩⟩⟩ hu
end
abbrev OS(X:Cx):=tupleKind (mF X.prog X.w)
def pq{P:Program}{w:World}:∀ {ns:List Int}{us:List Value},aD (ns.map V.int) us->ItemsAre (mF P w) (ns.map Sum.inl) us
 | [],_,r=>by cases r;exact .nil
 | n::ns,_,r=>by
  rw[zJ] at r ⊢;cases r with
  | cons h t=>let⟨t',rfl⟩:=h;exact .cons (vj P w n t') (pq t)
def u4{X:Cx}{ns:List Int}(I:Inv X pins σ H s)(h:gq X.K H b (ns.map V.int)):(OS X).is s.heap (ns.map Sum.inl) b:=by
 let⟨its,rv,⟨o,h1,h2,n,h3⟩,_⟩:=I.tuple h;exact⟨o,its.toArray,n,h1,h2,h3,by simpa using pq rv⟩
def GN{X:Cx}{xs:List (List nG×Addr×Value)}(I:Inv X pins σ H s)(e:H a=some (.dT xs))(k:Ec X.K H xs):xs.length<=sizeLine/\(a == sysModules)=false/\s.heap.DictOfH (OS X) a xs:=by
 let⟨z,y,o,es,ep,h1,h2,h3,h4,h5⟩:=(show eF X.prog X.w H s.heap a (.dT xs) from I.QR a _ e)
 refine⟨z,y,o,es,ep,h1,h2,h3,h4,λx hx=>?_,h5⟩;let⟨ns,q1,q2⟩:=k x hx;rw[q1];exact u4 I q2
def Pc(K:W.Frag):R2:=λx y H Q=>∃ (b:Addr) (ns:List Int) (a:Addr) (xs:List (List nG×Addr×Value)),x=.ref b/\gq K H b (ns.map V.int)/\y=.ref a/\H a=some (.dT xs)/\Ec K H xs/\Q (.bl (atKey xs (ns.map Sum.inl)).isSome) H
def My{X:Cx}(hu:X.A.units+1 < cLine):gK X (compareOp .In) (Pc X.K):=by
 intro pins s σ H x y v u Q I rx ry h;let⟨b,ns,a,xs,rfl,hb,rfl,ha,hk,q⟩:=h;cases rx;cases ry;let⟨z,hd,dd⟩:=GN I ha hk;exact wpAny_in_heap (tupleKind_room_in1 hu) (u4 I hb) hd dd ⟨.bl _,H,I.tok _,rfl,q⟩
def Ol(K:W.Frag):V->V->V->Hp->(Hp->Prop)->Prop:=λo i v H Q=>∃ (a:Addr) (xs:List (List nG×Addr×Value)) (b:Addr) (ns:List Int),o=.ref a/\i=.ref b/\H a=some (.dT xs)/\gq K H b (ns.map V.int)/\Ec K H xs/\xs.length < sizeLine/\∀u:Value,Q (upd H a (.dT (storedH xs (ns.map Sum.inl) b u)))
def AF{xs:List (List nG×Addr×Value)}{k:List nG}{b:Addr}{u:Value}(h:xs.length < sizeLine):(storedH xs k b u).length<=sizeLine:=by
 unfold storedH;split
 ·rw[zE];lia
 ·rw[zO,zM,xM];lia
def JO{X:Cx}(hu:X.A.units+1 < cLine):Mg X (Ol X.K):=by
 intro pins s σ H o i v ov iv u Q I ro ri rv h;let⟨a,xs,b,ns,rfl,rfl,ha,hb,hk,hl,q⟩:=h;cases ro;cases ri;let⟨z,hd,dd⟩:=GN I ha hk;refine wpAny_setItem_heap (hsz:=z) (tupleKind_room_in1 hu) (u4 I hb) dd λh' dd' hs=>?_;let⟨q',es,ep,hq,h2,h3,h4,_,h5⟩:=dd';exact⟨_,I.write (o:=.dT (storedH xs (ns.map Sum.inl) b u)) (x:=a) (e:=a) (by rw[ha];exact True.intro) (.inl rfl) (λc w' hc z=>(hs.2 c hc).trans z) ⟨q',hq⟩ ⟨AF hl,hd,q',es,ep,hq,h2,h3,h4,h5⟩,q u⟩
def Nj(K:W.Frag)(tk tv:TE):TE:=λσ H Q=>∀p,H p=none->tk σ (upd H p (.dT [])) λx H1=>tv σ H1 λ_ H2=>∃ (b:Addr) (ns:List Int),x=.ref b/\gq K H2 b (ns.map V.int)/\H2 p=some (.dT [])/\∀u:Value,Q (.ref p) (upd H2 p (.dT [(ns.map Sum.inl,b,u)]))
def HS{X:Cx}{k v:Expr}(hu:X.A.units+1 < cLine)(hk:PE X k tk)(hv:PE X v tv):PE X (.Dict [some k] [v] pos) (Nj X.K tk tv):=by
 intro pins s σ H Q I q;have hn:=I.QR.fresh (yN s.heap.objs.size);have big:sysModules < s.heap.objs.size:=wJ (by decide) (show mainGlobals < s.heap.objs.size from (I.mod.glob.keeps I.bk).lt);have I1:=I.laid (a:=s.heap.objs.size) (o:=.dT []) (h':=s.heap.push { cls:=.type "dict",data:=.dict #[] }) (t':=s.toks) (λ_ _ q=>zV _ q) (yN _)
  ⟨xW _,beq_eq_false_iff_ne.mpr (jN (yS big)),_,#[],0,zY _ rfl,⟨rfl,rfl,rfl⟩,rfl,rfl,List.nodup_nil⟩
 rw[arm_eval_Dict,zip_pairTrees _ _ _ _ rfl rfl,dictDisplay_pairs _ (by simp[pairTrees]) (by simp[pairTrees])];refine zW (vB (zW ?_));unfold subDict;refine zW (wpAny_alloc ?_);refine zW (xY ?_);rw[yM (by simp[pairTrees])];refine zW (pairTrees_cons_walk (bS (hk pins _ σ _ _ I1 (q _ hn)) λu s1 ⟨x,H1,J1,rx,q1⟩=>bS (hv pins s1 σ H1 _ J1 q1) λw2 s2 ⟨y,H2,J2,ry,b,ns,e,hb,hp,q2⟩=>pairTrees_nil_walk ?_));subst e;cases rx;refine xY ?_;let⟨z,hd,dd⟩:=GN J2 hp (λx hx=>by cases hx);show wpAny _ _ (forIn [(Value.ref b,w2)] _ _ >>= _) _ _ _;rw[List.forIn_cons];refine zW (zW (zW (wpAny_dictSet_heap (hsz:=z) (show (OS X).room X.A from Nat.lt_of_succ_lt hu) (u4 J2 hb) dd λh' dd' hs=>?_)));let⟨q',es,ep,hq,h2,h3,h4,_,h5⟩:=dd';refine zX (zX (zX (zX (zX ⟨.ref _,_,?_,rfl,q2 w2⟩))));exact J2.write (o:=.dT [(ns.map Sum.inl,b,w2)]) (x:=s.heap.objs.size) (e:=s.heap.objs.size) (by rw[hp];exact True.intro) (.inl rfl) (λc w' hc z=>(hs.2 c hc).trans z) ⟨q',hq⟩ ⟨by rw[qV];simp,hd,q',es,ep,hq,h2,h3,h4,h5⟩
def tL:Slot->Bool|.tab _=>false|_=>true
def eK.abV{K:W.Frag}{xs:List (List nG×Addr×Value)}{ks:List (List Int)}(S:eK K QL QM HF H ρ σ)(h1:H a=some (.dT xs))(h2:HF a=none)(h3:QM a=none)(h4:xs.map (·.1)=ks.map (·.map Sum.inl))(h5:Ec K HF xs)(nt:ρ.all tL=true) :
  eK K QL QM HF H (ρ.set i (.tab ks)) (σ.set i (some (.ref a))):=by
 have old:∀ {j:Nat}{t:Slot},(ρ.set i (.tab ks))[j]?=some t->tL t=true->i≠j/\ρ[j]?=some t:=λ{j t} h hn=>by
  rw[xJ] at h;by_cases QQ:i=j
  ·rw[yM QQ] at h;split at h
   ·cases h;cases hn
   ·cases h
  ·rw[yO QQ] at h;exact⟨QQ,h⟩
 have new:∀ {j:Nat}{ls:List (List Int)},(ρ.set i (.tab ks))[j]?=some (.tab ls)->i=j/\ls=ks/\i < ρ.length:=λ{j ls} h=>by
  rw[xJ] at h;by_cases QQ:i=j
  ·rw[yM QQ] at h;split at h
   ·rename_i hl;cases h;exact⟨QQ,rfl,QQ ▸ hl⟩
   ·cases h
  ·rw[yO QQ] at h;have:=List.all_eq_true.mp nt _ (qC h);cases this
 refine⟨S.gr,λj e h=>?_,λj es h=>?_,λj k xs ys b e1 e2 e3 e4=>?_,by rw[yD,yD];exact S.len,S.tb,λj ls h=>?nt,λj k ls ms g1 g2=>S.one j k ls ms (old g1 rfl).2 (old g2 rfl).2,λj ls h=>?tb,λj k ls ms g1 g2=>(new g1).1.symm.trans (new g2).1⟩
 ·let⟨QQ,h⟩:=old h rfl;rw[xJ,yO QQ];exact S.val j e h
 ·let⟨QQ,h⟩:=old h rfl;rw[xJ,yO QQ];exact S.own j es h
 ·let⟨n1,e1⟩:=old e1 rfl;let⟨n2,e2⟩:=old e2 rfl;rw[xJ,yO n1] at e3;rw[xJ,yO n2] at e4;exact S.inj j k xs ys b e1 e2 e3 e4
 case nt =>
  let⟨QQ,h⟩:=old h rfl;rw[xJ,yO QQ];let⟨a',bs,e1,n,di⟩:=S.SG j ls h;refine⟨a',bs,e1,n,λk ds b g1 g2=>?_⟩;let⟨RB,g1⟩:=old g1 rfl;rw[xJ,yO RB] at g2;exact di k ds b g1 g2
 case tb =>
  let⟨rfl,rfl,hl⟩:=new h;rw[xJ,yM rfl,yM (zQ hl S.len)];exact⟨a,xs,rfl,h1,h2,h3,h4,h5⟩
def eK.abW{K:W.Frag}{xs:List (List nG×Addr×Value)}{ks:List (List Int)}(S:eK K QL QM HF H ρ σ)(h:ρ[i]?=some (.tab ls))(ha:σ[i]?=some (some (.ref a)))(h4:xs.map (·.1)=ks.map (·.map Sum.inl))(h5:Ec K HF xs) :
  eK K QL QM HF (upd H a (.dT xs)) (ρ.set i (.tab ks)) σ:=by
 let⟨a',ys,e1,e2,e3,e5,_⟩:=S.tab i ls h;rw[ha] at e1;cases e1;have hl:i < ρ.length:=(List.getElem?_eq_some_iff.mp h).1;have gr:bR QL QM HF (upd H a (.dT xs)):=⟨λb o e=>by rw[av (aA e e5)];exact S.gr.hh b o e,S.gr.ff,λb o e=>by rw[av (aA e e3)];exact S.gr.fh b o e,S.gr.nw⟩
 have old:∀ {j:Nat}{t:Slot},(ρ.set i (.tab ks))[j]?=some t->tL t=true->ρ[j]?=some t:=λ{j t} h hn=>by
  rw[xJ] at h;by_cases QQ:i=j
  ·rw[yM QQ,yM hl] at h;cases h;cases hn
  ·rw[yO QQ] at h;exact h
 have new:∀ {j:Nat}{ms:List (List Int)},(ρ.set i (.tab ks))[j]?=some (.tab ms)->i=j/\ms=ks:=λ{j ms} g=>by
  rw[xJ] at g;by_cases QQ:i=j
  ·rw[yM QQ,yM hl] at g;cases g;exact⟨QQ,rfl⟩
  ·rw[yO QQ] at g;exact absurd (S.RQ i j ls ms h g) QQ
 refine⟨gr,λj e g=>S.val j e (old g rfl),λj es g=>?_,λj k xs ys b f1 f2=>S.inj j k xs ys b (old f1 rfl) (old f2 rfl),by rw[yD];exact S.len,S.tb,λj ms g=>?nt,λj k ms qs g1 g2=>S.one j k ms qs (old g1 rfl) (old g2 rfl),λj ms g=>?tb,λj k ms qs g1 g2=>(new g1).1.symm.trans (new g2).1⟩
 ·let⟨b,vs,f1,f2,f3,f5,f4⟩:=S.own j es (old g rfl);refine⟨b,vs,f1,?_,f3,f5,f4⟩;rw[av λz=>by rw[z,e2] at f2;cases f2];exact f2
 case nt =>
  let⟨a',bs,f1,n,di⟩:=S.SG j ms (old g rfl);refine⟨a',bs,f1,n.imp (.refl _) λb hb o z1 z2=>⟨?_,z2⟩,λk ds b h1 h2=>di k ds b (old h1 rfl) h2⟩;let⟨_,_,vs,f2⟩:=n.there b hb;rw[av λz=>by rw[z,e2] at f2;cases f2];exact z1
 case tb =>
  let⟨rfl,rfl⟩:=new g;exact⟨a,xs,ha,aC,e3,e5,h4,h5⟩
def Aq:Option Slot->Option (List Int)
 | some (.val d)=>gG d
 | _=>none
def nK{K:W.Frag}{ρ:ao}{σ:L2.St}{i:Nat}(S:eK K QL QM HF H ρ σ)(h:Aq ρ[i]?=some ns):∃b,σ[i]?=some (some (V.ref b))/\gq K HF b (ns.map V.int):=by
 cases hd:ρ[i]? with
 | none=>rw[hd] at h;cases h
 | some t =>
  rw[hd] at h;cases t with
  | val d =>
   have h:gG d=some ns:=h;let⟨v,e1,r⟩:=S.val i d hd;rw[iz h] at r;simp?[Rep] at r;let⟨b,vs,rfl,hs,rr⟩:=r;rw[d7 rr] at hs;exact⟨b,e1,hs⟩
  | _=>cases h
def tabS:Option Slot->Option (List (List Int))
 | some (.tab ks)=>some ks
 | _=>none
def nB{ρ:ao}{i:Nat}(h:tabS ρ[i]?=some ks):ρ[i]?=some (.tab ks):=by
 cases hd:ρ[i]? with
 | none=>rw[hd] at h;cases h
 | some t =>
  rw[hd] at h;cases t with
  | tab ls=>cases h;rfl
  | _=>cases h
def Ez:∀ {a b:List Int},(a.map Sum.inl:List nG)=b.map Sum.inl->a=b
 | [],[],_=>rfl
 | [],_::_,h=>by simp at h
 | _::_,[],h=>by simp at h
 | x::a,y::b,h=>by
  rw[zJ,zJ] at h;injection h with h1 h2
  injection h1 with h1
  rw[h1,Ez h2]
def KE{xs:List (List nG×Addr×Value)}{ks:List (List Int)}{ns:List Int}(h:xs.map (·.1)=ks.map (·.map Sum.inl)):(atKey xs (ns.map Sum.inl)).isSome=ks.contains ns:=by
 rw[Bool.eq_iff_iff,List.contains_iff_mem];unfold atKey;rw[Option.isSome_map,List.find?_isSome];constructor
 ·rintro⟨x,h1,h2⟩;have:x.1∈ks.map (·.map Sum.inl):=h ▸ List.mem_map_of_mem h1;rw[yR h2] at this;let⟨k,h3,h4⟩:=List.mem_map.mp this;exact Ez h4 ▸ h3
 ·intro z;have:(ns.map Sum.inl:List nG)∈xs.map (·.1):=h ▸ List.mem_map.mpr ⟨ns,z,rfl⟩;let⟨x,h1,h2⟩:=List.mem_map.mp this;exact⟨x,h1,yB h2⟩
def rX(i j:Nat)(g1 g2:ao->Option Out):ao->Option Out:=λρ=>(Aq ρ[i]?).bind λns=>(tabS ρ[j]?).bind λks=>if ks.contains ns=true then g1 ρ else g2 ρ
def JF{X:Cx}(i j:Nat)(hu:X.A.units+1 < cLine)(hN:X.N[i]?=some x)(hv:BB X.env.scope x)(Yp:X.N[j]?=some y)(Vs:BB X.env.scope y)(ha:Bt X QL QM a g1)(hb:Bt X QL QM b g2)
  (hd:(x == ("__debug__":Str))=false) (Rp:(x == ("__classdict__":Str))=false) (UZ:(y == ("__debug__":Str))=false) (WU:(y == ("__classdict__":Str))=false) :
  DS X QL QM (.If (.Compare (.Name x px) [.In] [.Name y py] cp) a b pos) (rX i j g1 g2) :=
 bT (KF (BW (My hu) (fR hN hv hd Rp) (fR Yp Vs UZ WU) rfl) ha hb) λE σ H ⟨HF,ρ,o,S,hg,q⟩=>by
  let⟨ns,h1,hg⟩:=bs hg;let⟨ks,h2,hg⟩:=bs hg;let⟨b,e1,hs⟩:=nK S h1;let⟨a,xs,f1,f2,f3,f5,f4,fk⟩:=S.tab j ks (nB h2);refine⟨_,e1,_,f1,b,ns,a,xs,rfl,ay S.gr.fh hs,rfl,f2,fk.mono S.gr.fh,_,rfl,?_⟩;rw[KE f4];cases hc:ks.contains ns with
  | true=>rw[hc] at hg;exact yi ⟨HF,ρ,o,S,hg,q⟩
  | false=>rw[hc] at hg;exact wR ⟨HF,ρ,o,S,hg,q⟩
def pw(j i:Nat)(f:Env->Option D):ao->Option Out:=λρ=>(Aq ρ[i]?).bind λns=>(tabS ρ[j]?).bind λks=>(f (aP ρ)).bind λd=>if (mM d&&decide (ks.length < sizeLine))=true then some (.nx (ρ.set j (.tab (if ks.contains ns=true then ks else ks++[ns])))) else none
def vi{xs:List (List nG×Addr×Value)}{ks:List (List Int)}{ns:List Int}(h:xs.map (·.1)=ks.map (·.map Sum.inl)):(storedH xs (ns.map Sum.inl) b u).map (·.1)=(if ks.contains ns=true then ks else ks++[ns]).map (·.map Sum.inl):=by
 unfold storedH;rw[KE h];split
 ·rw[<- h,zN];refine yI λx _=>?_;show (putAt _ _ x).1=x.1;unfold putAt;split<;>rfl
 ·rw[jB,jB,h];rfl
def Ec.stored{K:W.Frag}{xs:List (List nG×Addr×Value)}{ns:List Int}(h:Ec K HF xs)(hb:gq K HF b (ns.map V.int)):Ec K HF (storedH xs (ns.map Sum.inl) b u):=λx hx=>by
 unfold storedH at hx;split at hx
 ·let⟨y,hy,rfl⟩:=List.mem_map.mp hx;let⟨ms,e1,e2⟩:=h y hy;refine⟨ms,?_,?_⟩<;>(unfold putAt;split<;>assumption)
 ·rcases List.mem_append.mp hx with hx|hx
  ·exact h x hx
  ·rw[yK] at hx;subst hx;exact⟨ns,rfl,hb⟩
def Jz{X:Cx}(j i:Nat)(hu:X.A.units+1 < cLine)(hN:X.N[i]?=some x)(hv:BB X.env.scope x)(Yp:X.N[j]?=some y)(Vs:BB X.env.scope y)(h:DE X e2 f)
  (hd:(x == ("__debug__":Str))=false) (Rp:(x == ("__classdict__":Str))=false) (UZ:(y == ("__debug__":Str))=false) (WU:(y == ("__classdict__":Str))=false)
  (ha:∀v,assign (.Subscript (.Name y py) (.Name x px) Q9) X.env v=(do
   let ov <- holding [v] (eval (.Name y py) X.env)
   let iv <- holding [v,ov] (eval (.Name x px) X.env)
   standAt Q9
   holding [v,ov,iv] (setItem ov iv v)
   release [v,ov,iv] []):=by intro _;rfl)
  (hs:swapsWithSole [.Subscript (.Name y py) (.Name x px) Q9] e2 pos.line X.env=pure false:=by rfl) (hw:swappedStores [.Subscript (.Name y py) (.Name x px) Q9] e2 X.env=pure none:=by rfl)
  (h1:(assignEach [.Subscript (.Name y py) (.Name x px) Q9] X.env).map (·.2)=[assign (.Subscript (.Name y py) (.Name x px) Q9) X.env]:=by rfl) :
  DS X QL QM (.Assign [.Subscript (.Name y py) (.Name x px) Q9] e2 pos) (pw j i f) :=
 bT (FI h (Ee (fR Yp Vs UZ WU) (fR hN hv hd Rp) (JO hu) ha) hs hw h1) λE σ H ⟨HF,ρ,o,S,hg,q⟩=>by
  let⟨ns,h1,hg⟩:=bs hg;let⟨ks,h2,hg⟩:=bs hg;let⟨d,h3,hg⟩:=bs hg;split at hg
  ·rename_i hc;rw[zG,zK] at hc;cases hg;refine⟨H,aP ρ,d,.refl _,S.all,h3,λv H' QN G r=>?_⟩;have S':=S.step G.hh;let⟨b,e1,hs⟩:=nK S' h1;let⟨a,xs,f1,f2,f3,f5,f4,fk⟩:=S'.tab j ks (nB h2);refine⟨_,f1,_,e1,a,xs,b,ns,rfl,rfl,f2,ay S'.gr.fh hs,fk.mono S'.gr.fh,?_,λu=>q σ _ HF (S'.abW (nB h2) f1 (vi f4) (fk.stored hs)) (.refl _)⟩;have:=jD List.length f4;rw[zE,zE] at this;lia
  ·cases hg
def tj(j i:Nat)(f:Env->Option D):ao->Option Out:=λρ=>(Aq ρ[i]?).bind λns=>(f (aP ρ)).bind λd=>if (mM d&&ρ.all tL)=true then some (.nx (ρ.set j (.tab [ns]))) else none
def Jq{X:Cx}(j i:Nat)(hu:X.A.units+1 < cLine)(hN:X.N[i]?=some x)(hv:BB X.env.scope x)(hd:(x == ("__debug__":Str))=false)(Rp:(x == ("__classdict__":Str))=false)(h:DE X e2 f)(Yp:X.N.Nodup)(hi:X.N[j]?=some y)(hy:Loc X.env.scope y)
  (hs:swapsWith (.Dict [some (.Name x px)] [e2] dp) (some (.Name y pos')) pos.line X.env=pure false:=by rfl)
  (hf:X.fn y=true\/X.env.scope.names.lookup y=some .local:=by first|exact .inl rfl|exact .inr rfl|assumption):DS X QL QM (.Assign [.Name y pos'] (.Dict [some (.Name x px)] [e2] dp) pos) (tj j i f) :=
 bT (uZ Yp hi hy (HS hu (fR hN hv hd Rp) h) hs hf) λE σ H ⟨HF,ρ,o,S,hg,q⟩=>by
  let⟨ns,h1,hg⟩:=bs hg;let⟨d,h3,hg⟩:=bs hg;split at hg
  ·rename_i hc;rw[zG] at hc;cases hg;let⟨b,e1,hs⟩:=nK S h1;refineλp hp=>⟨_,e1,upd H p (.dT []),aP ρ,d,.refl _,?_,h3,λv H' QN G r=>?_⟩
   ·exact (S.step (bK hp)).all
   ·have S':=(S.step (bK hp)).step G.hh;have U9:H' p=some (.dT []):=G.hh _ _ aC;refine⟨b,ns,rfl,ay S'.gr.fh hs,U9,λu=>?_⟩;have S2:eK X.K QL QM HF (upd H' p (.dT [(ns.map Sum.inl,b,u)])) ρ σ:=S.step λc w' e=>by rw[av (aA e hp)];exact G.hh c w' (bK hp c w' e)
    exact q _ _ HF (S2.abV (i:=j) aC (S.gr.fh.free hp) (S.gr.hh.free hp) rfl (λx hx=>by rw[yK] at hx;subst hx;exact⟨ns,rfl,hs⟩) hc.2) (.refl _)
  ·cases hg
end Dl
namespace Tx
open PySem PySem.SeqAt PyProof.Rows
open PySem.AutoSeq1 (wpAny_loadPart')
open PySem.MeetsSeq PySem.MeetsSeq2 PySem.MeetsSeq3
def wpR(f:Nat->β->Sem (ForInStep β))(I:List Nat->β->Shared->Prop)(Q:β->Shared->Prop)
  (turn:∀x rest b s,I (x::rest) b s->wpAny M A (f x b) (λr s'=>match r with|.yield b'=>I rest b' s'|.done b'=>Q b' s') E s)
  (fin:∀b s,I [] b s->Q b s) (n:Nat) (b:β) (h:I (List.range' 0 n 1) b s):wpAny M A (forIn [:n] b f) Q E s:=by
 have e:forIn [:n] b f=forIn (List.range' 0 n 1) b f:=by
  rw[Std.Legacy.Range.forIn_eq_forIn_range'];simp[Std.Legacy.Range.size]
 rw[e];exact wpAny_forIn_list f I Q turn fin _ b h
def RS(l:Addr)(items:Array Value)(n:Nat)(dd:Option Addr)(sl:Array (Option Value))(x:Value)(e:Value->Bool)(j:Nat)(hj:j < items.size)(h1:e items[j]=true)(h2:∀m (hm:m < items.size),m < j->e items[m]=false) :
  Meets (Builtin.«tuple.index» ⟨[.ref l,x],[]⟩)
   (λA R s=>s.heap.get? l=some { cls:=.type "tuple",dict:=dd,data:=.seq items n,slots:=sl }/\(∀y,y∈items->EqAt A.in1 s y x (e y))/\R (.ok (.ret (.int (j:Nat) s.toks))) { s with toks:=s.toks+1 }) :=
 .of_wp λprog w A R s h=>by
  let⟨hp,g,d,tk,os⟩:=s;let⟨hl,he,h⟩:=h
  wp_walk using wpAny_loadPart' hl,wpR _ (λrest b s'=>s'=⟨hp,g,d,tk,os⟩/\b.1=none/\∃i,i<=j/\rest=List.range' i (items.size - i) 1) _
  case turn =>
   rintro i rest b s' ⟨rfl,hb,i',hi,e1⟩;have Q0:i' < items.size:=by lia
   rw[show items.size - i'=(items.size - (i'+1))+1 by lia,vE] at e1;injection e1 with e2 e3
   subst e2;subst e3;simp?[jY Q0];refine zW (he _ (Array.getElem_mem Q0) prog w _ _ ?_);by_cases QQ:i=j
   ·subst QQ;rw[h1]
    wp_walk
    exact⟨_,rfl,h⟩
   ·rw[h2 i Q0 (by lia)]
    wp_walk
    exact⟨rfl,rfl,i+1,by lia,rfl⟩
  case fin =>
   rintro b s' ⟨rfl,hb,i,hi,e1⟩;have:=jD List.length e1;simp at this;lia
  case h =>
   exact⟨rfl,rfl,0,xW _,by simp⟩
end Tx
namespace Dl
open PySem L2 PySem.Spec PyProof.Rows
def DN:M5 X "tuple.index" (λx vs H Q=>∃ (l:Addr) (ns:List Int) (i:Int) (j:Nat),x=.ref l/\vs=[.int i]/\gq X.K H l (ns.map V.int)/\ns[j]?=some i/\(∀m,m < j->ns[m]?≠some i)/\Q (.int j) H):=by
 intro pins s σ H x vs v us Q I rx rv h;let⟨l,ns,i,j,rfl,rfl,hq,hj,XO,q⟩:=h;cases rx;let⟨u,rfl,ru⟩:=rv.one;let⟨t,rfl⟩:=ru;let⟨its,r,pl,hz⟩:=I.tuple hq;let⟨⟨cls,dd,data,sl⟩,ho,hc,n,hd⟩:=id pl;simp only at hc hd;subst hc hd;have hl:its.length=ns.length:=by rw[<- r.length,zE]
 have VA:j < ns.length:=(List.getElem?_eq_some_iff.mp hj).1;have at_:∀m (hm:m < its.toArray.size),∃t',its.toArray[m]=.int (ns.getD m 0) t':=λm hm=>oZ r (jY hm);refine qY F.slot_tuple_index ⟨_,ho,rfl⟩ F.entry_tuple_index (F.args_tuple_index_2 _ _) (Tx.RS l its.toArray n dd sl (.int i t) (M0 i) j (by rw[zI,hl];exact VA) ?_ ?_) ⟨ho,?_,?_⟩
 ·let⟨t',e⟩:=at_ j (by rw[zI,hl];exact VA);rw[e,M0,zH,hj];simp
 ·intro m hm Yk;let⟨t',e⟩:=at_ m hm;have RV:m < ns.length:=by
   rw[zI] at hm;lia
  have:=XO m Yk;rw[e,M0,zH];rw[zL RV] at this ⊢;simp?[qH,beq_eq_false_iff_ne];exactλh=>this (by rw[h])
 ·intro y hy;let⟨m,hm,rfl⟩:=Array.getElem_of_mem hy;let⟨t',e⟩:=at_ m hm;rw[e];exact PySem.SeqAt.EqAt.int_int _ _ _ _
 ·exact⟨.int j,H,I.tok _,⟨_,rfl⟩,q⟩
def Ks(h:PE X e t)(g:PE X e u):PE X e (λσ H Q=>t σ H Q\/u σ H Q):=λpins s σ H Q I q=>q.elim (h pins s σ H Q I) (g pins s σ H Q I)
def oF:D->D->Option D
 | .list es,.int i=>(intsOf es).bind λns=>(wU i ns).map λj=>.int ((j:Nat):Int)
 | .tuple es,.int i=>(intsOf es).bind λns=>(wU i ns).map λj=>.int ((j:Nat):Int)
 | _,_=>none
def CK{fo:Env->Option D}(Rl:attributeBase o "index" X.env (eval o X.env)=eval o X.env)
  (Ri:((backTo QS (starEach [e] X.env)).all (λx=>!x.1)&&(backToKw QS (keywordEach [] X.env)).all (λx=>x.1.isSome)&&decide ([e].length+([]:List Keyword).length+(if ([]:List Keyword).isEmpty then 0 else 1) < 30))=true)
  (QU:(apos.endLine == QS.line)=true) (hs:starEach [e] X.env=(false,eval e X.env)::starEach [] X.env) (ho:DE X o fo) (he:DE X e fe):DE X (.Call (.Attribute o "index" apos) [e] [] QS) (f2 oF fo fe) :=
 aZ (Ks (Fb Rl Ri QU hs ho he) (qm PySem.F.plainAttrs_tuple PySem.F.slot_tuple_index PySem.F.type_tuple_index DN ho (bY he eX hs) Rl Ri QU hs rfl)) λσ H Q z=>by
  let⟨HF,ρ,d,sm,eo,hf,q⟩:=z;let⟨x,hx,hf⟩:=bs hf;let⟨y,hy,hg⟩:=bs hf;cases x<;>try cases hg
  ·cases y<;>try cases hg
   rename_i es i;exact .inl ⟨HF,ρ,d,sm,eo,by simp?[f2,hx,hy,zA];exact hg,q⟩
  ·cases y<;>try cases hg
   rename_i es i;let⟨ns,h1,hg⟩:=bs hg;let⟨j,h2,rfl⟩:=ag hg;have e1:=cI h1;subst e1;refine .inr ⟨HF,ρ,_,sm,eo,hx,λv1 H1 QO g1 r1=>?_⟩;simp?[Rep] at r1;let⟨l,us,rfl,hq,rr⟩:=r1;have:=d7 rr;subst this;refine⟨?_,QO,ρ,.int i,g1.fh,eo.mono g1.ff,hy,λv2 H2 Q3 g2 r2=>?_⟩
   ·first|exact .inr (.inl ⟨rfl,_,ay g1.fh hq⟩)|exact .inl ⟨rfl,_,ay g1.fh hq⟩|exact .inr ⟨rfl,_,ay g1.fh hq⟩
   ·simp?[Rep] at r2;let⟨a,b⟩:=ni h2;exact⟨l,ns,i,j,rfl,by rw[r2],ay g2.fh (ay g2.ff hq),a,b,q _ H2 Q3 (g1.trans g2) (by simp[Rep])⟩
end Dl
namespace Zp
open PySem PyProof.Rows
def Rk(b:Bool)(h:Heap)(it l:Addr)(k:Nat):Prop:=match b with|true=>h.IsTupleIter it l k|false=>h.IsListIter it l k
def Rq(b:Bool)(h:Heap)(l:Addr)(xs:Array Value):Prop:=match b with|true=>h.IsTuple l xs|false=>h.IsList l xs
def Rk.obj(x:Rk b h it l k):∃o,h.get? it=some o/\∀v,o.data≠.cell v:=by
 cases b
 ·let⟨o,e,_,d⟩:=(show h.IsListIter it l k from x);exact⟨o,e,λv q=>by rw[d] at q;cases q⟩
 ·let⟨o,e,_,d⟩:=(show h.IsTupleIter it l k from x);exact⟨o,e,λv q=>by rw[d] at q;cases q⟩
def Rk.at(x:Rk b h it l k)(e:∀o,h.get? it=some o->h'.get? it=some o):Rk b h' it l k:=by
 cases b
 ·exact Heap.IsListIter.at x e
 ·exact Heap.IsTupleIter.at x e
def Rk.extBut(x:Rk b h it l k)(e:Heap.ExtBut a h h')(n:it≠a):Rk b h' it l k:=x.at λo q=>e it o n q
def Rq.at(x:Rq b h l xs)(e:∀o,h.get? l=some o->h'.get? l=some o):Rq b h' l xs:=by
 cases b
 ·let⟨o,q,r⟩:=(show h.IsList l xs from x);exact⟨o,e o q,r⟩
 ·let⟨o,q,r⟩:=(show h.IsTuple l xs from x);exact⟨o,e o q,r⟩
def Rq.extBut(x:Rq b h l xs)(e:Heap.ExtBut a h h')(n:l≠a):Rq b h' l xs:=x.at λo q=>e l o n q
section
def nxt(hj:Rk b s.heap j t k)(ht:Rq b s.heap t its)(hv:its[k]?=some v)
  (hQ:∀g,Rk b g j t (k+1)->Heap.SameBut j s.heap g->Q v { s with heap:=g }):wpAny (model prog w) A (Builtin.SmallTypes.nextOf (.ref j)) Q E s:=by
 cases b
 ·exact wpAny_nextOf_list_item hj ht hv hQ
 ·exact En.SN hj ht hv hQ
def Vg{Q:Value->Shared->Prop}(hh:A.handled=none)(hj:Rk b s.heap j t k)(ht:Rq b s.heap t its)(hv:its[k]?=none)
  (hE:∀g x,Heap.ExtBut j s.heap g->(∃o,g.get? x=some o/\o.cls=.type "StopIteration")->E (.ref x) { s with heap:=g }):wpAny (model prog w) A (Builtin.SmallTypes.nextOf (.ref j)) Q E s:=by
 cases b
 ·exact wpAny_nextOf_list_end hh hj ht hv hE
 ·exact En.TN hh hj ht hv hE
structure ZS(QW Q4:Bool)(h₀ h:Heap)(z TI TO i j l m:Addr)(xs ys:Array Value)(f:Value)(p q:Nat)(a b:Value):Prop where
 zo:IsZip h z TI TO f
 ti:IsPair h TI (.ref i) (.ref j)
 to:IsPair h TO a b
 wi:Rk QW h i l p
 wj:Rk Q4 h j m q
 sl:Rq QW h l xs
 sm:Rq Q4 h m ys
 kp:∀c o,c≠z->c≠TO->c≠i->c≠j->h₀.get? c=some o->h.get? c=some o
 sz:h.objs.size=h₀.objs.size
section
variable {z TI TO i j l m:Addr}
def ZS.fl(Z:ZS QW Q4 h₀ h z TI TO i j l m xs ys f p q a b)(D:ZipApart z TI TO i j l m)(e:IsZip g z TI TO f')(t:Heap.SameBut z h g):ZS QW Q4 h₀ g z TI TO i j l m xs ys f' p q a b :=
 ⟨e,t.extBut _ _ D.TIz Z.ti,t.extBut _ _ D.TOz Z.to,Z.wi.extBut t.extBut D.i1z,Z.wj.extBut t.extBut D.i2z,Z.sl.extBut t.extBut D.l1z,Z.sm.extBut t.extBut D.l2z,λc o n1 n2 n3 n4 r=>t.extBut _ _ n1 (Z.kp c o n1 n2 n3 n4 r),t.1.trans Z.sz⟩
def ZS.fst(Z:ZS QW Q4 h₀ h z TI TO i j l m xs ys f p q a b)(D:ZipApart z TI TO i j l m)(e:Rk QW g i l (p+1))(t:Heap.SameBut i h g):ZS QW Q4 h₀ g z TI TO i j l m xs ys f (p+1) q a b :=
 ⟨t.extBut _ _ D.i1z.symm Z.zo,t.extBut _ _ D.TIi1 Z.ti,t.extBut _ _ D.TOi1 Z.to,e,Z.wj.extBut t.extBut D.i12.symm,Z.sl.extBut t.extBut D.l1i1,Z.sm.extBut t.extBut D.l2i1,λc o n1 n2 n3 n4 r=>t.extBut _ _ n3 (Z.kp c o n1 n2 n3 n4 r),t.1.trans Z.sz⟩
def ZS.snd(Z:ZS QW Q4 h₀ h z TI TO i j l m xs ys f p q a b)(D:ZipApart z TI TO i j l m)(e:Rk Q4 g j m (q+1))(t:Heap.SameBut j h g):ZS QW Q4 h₀ g z TI TO i j l m xs ys f p (q+1) a b :=
 ⟨t.extBut _ _ D.i2z.symm Z.zo,t.extBut _ _ D.TIi2 Z.ti,t.extBut _ _ D.TOi2 Z.to,Z.wi.extBut t.extBut D.i12,e,Z.sl.extBut t.extBut D.l1i2,Z.sm.extBut t.extBut D.l2i2,λc o n1 n2 n3 n4 r=>t.extBut _ _ n4 (Z.kp c o n1 n2 n3 n4 r),t.1.trans Z.sz⟩
def ZS.put(Z:ZS QW Q4 h₀ h z TI TO i j l m xs ys f p q a b)(D:ZipApart z TI TO i j l m)(e:IsPair g TO x y)(t:Heap.SameBut TO h g):ZS QW Q4 h₀ g z TI TO i j l m xs ys f p q x y :=
 ⟨t.extBut _ _ D.TOz.symm Z.zo,t.extBut _ _ D.TITO Z.ti,e,Z.wi.extBut t.extBut D.TOi1.symm,Z.wj.extBut t.extBut D.TOi2.symm,Z.sl.extBut t.extBut D.l1TO,Z.sm.extBut t.extBut D.l2TO,λc o n1 n2 n3 n4 r=>t.extBut _ _ n2 (Z.kp c o n1 n2 n3 n4 r),t.1.trans Z.sz⟩
end
variable {z TI TO i j l m:Addr}
def Yq{Q:Value->Shared->Prop}(hn:A.handled=none)(D:ZipApart z TI TO i j l m)(Z:ZS QW Q4 s.heap s.heap z TI TO i j l m xs ys .none p q a b)
  (item:∀x y g g',xs[p]?=some x->ys[q]?=some y->ZS QW Q4 s.heap g z TI TO i j l m xs ys .ellipsis (p+1) (q+1) x y->IsZip g' z TI TO (rawInt g.objs.size) ->
   Heap.SameBut z (g.push { cls:=.type "tuple",data:=.seq #[x,y] }) g'->Q (.ref g.objs.size) { s with heap:=g' })
  (over:(xs[p]?=none\/ys[q]?=none)->∀g e,(∀c o,c≠z->c≠TO->c≠i->c≠j->s.heap.get? c=some o->g.get? c=some o)->(∃o,g.get? e=some o/\o.cls=.type "StopIteration")->E (.ref e) { s with heap:=g }) :
  wpAny (model prog w) A (Builtin.«zip.__next__» ⟨[.ref z],[]⟩) (λr s'=>∃v,r=.done (.ret v)/\Q v s') E s:=by
 have stop:∀ {g1 g2:Heap}{e:Addr}{c:Addr}{p' q':Nat}{a' b':Value},ZS QW Q4 s.heap g1 z TI TO i j l m xs ys .ellipsis p' q' a' b'->(c=i\/c=j)->(xs[p]?=none\/ys[q]?=none)->Heap.ExtBut c g1 g2 ->
   (∃o,g2.get? e=some o/\o.cls=.type "StopIteration")->wpAny (model prog w) A (setField (.ref z) 0 Value.none) (λ_ t=>E (.ref e) t) E { s with heap:=g2 }:=by
  intro g1 g2 e c p' q' a' b' Y hc hv k ⟨o,ho,ht⟩;have cz:z≠c:=hc.elim (λe=>e ▸ D.i1z.symm) λe=>e ▸ D.i2z.symm;have Yz:IsZip g2 z TI TO .ellipsis:=k _ _ cz Y.zo;refine kX Yz (by simp) λg3 _ t=>over hv g3 e (λd u n1 n2 n3 n4 r=>t.extBut _ _ n1 (k _ _ ?_ (Y.kp d u n1 n2 n3 n4 r))) ⟨o,t.extBut _ _ ?_ ho,ht⟩
  ·exact hc.elim (λe=>e ▸ n3) λe=>e ▸ n4
  ·rintro rfl;rw[Yz] at ho;cases ho;simp at ht
 show wpAny _ _ (field (.ref z) 2 >>= _) _ _ _;refine zW (qU Z.zo rfl (x:=.bool false) rfl (zW (qU Z.zo rfl (x:=.ref TI) rfl (zW (kG Z.ti rfl (zW (m:=Builtin.SmallTypes.ownedTupleIsFree _) ?_))))));refine zW (qU Z.zo rfl (x:=.none) rfl (zX ?_));rw[yM rfl];refine zW (wA (zW (qU Z.zo rfl (x:=.ref TO) rfl (zW (kX Z.zo (by simp) λg1 e1 t1=>?_)))));have Z1:=Z.fl D (f':=.ellipsis) e1 t1;refine zW ?_;simp?[List.zipIdx_cons,List.zipIdx_nil,List.forIn_cons,List.forIn_nil];refine zW (zW (wpAny_onRaise (zW (m:=Builtin.SmallTypes.nextOf _) ?_)));cases hx:xs[p]? with
 | none=>exact Vg hn Z1.wi Z1.sl hx λg2 e k o=>stop Z1 (.inl rfl) (.inl hx) k o
 | some x =>
 refine nxt Z1.wi Z1.sl hx λg2 e2 t2=>zX ?_;have Z2:=Z1.fst D e2 t2;refine zW (kG Z2.to rfl (zW (wpAny_updateSeq_pair Z2.to λg3 e3 t3=>zW (wpAny_letGo (zX ?_)))));have Z3:=Z2.put D (x:=x) (y:=b) e3 t3;refine zW (zW (wpAny_onRaise (zW (m:=Builtin.SmallTypes.nextOf _) ?_)));cases hy:ys[q]? with
 | none=>exact Vg hn Z3.wj Z3.sm hy λg4 e k o=>stop Z3 (.inr rfl) (.inr hy) k o
 | some y =>
 refine nxt Z3.wj Z3.sm hy λg4 e4 t4=>zX ?_;have Z4:=Z3.snd D e4 t4;refine zW (kG Z4.to rfl (zW (wpAny_updateSeq_pair Z4.to λg5 e5 t5=>zW (wpAny_letGo (zX (zX ?_))))));have Z5:=Z4.put D (x:=x) (y:=y) e5 t5;refine zW (kG Z5.to rfl (zW (wpAny_newTuple (zW (m:=Builtin.SmallTypes.ownedTupleHandOut _ _) ?_))));refine zW (kX (zV _ Z5.zo) (by simp) λg6 e6 t6=>kX e6 (by simp) λg7 e7 t7=>zX ⟨_,rfl,?_⟩);exact item x y g5 g7 hx hy Z5 e7 (t6.trans t7)
def Yr(hn:A.handled=none)(D:ZipApart z TI TO i j l m)
  (qz:IsZip s.heap z TI TO .none) (qI:IsPair s.heap TI (.ref i) (.ref j)) (qO:IsPair s.heap TO a b)
  (p1:Rk QW s.heap i l p) (p2:Rk Q4 s.heap j m q) (r1:Rq QW s.heap l xs) (r2:Rq Q4 s.heap m ys) (ex:xs[p]?=some x) (ey:ys[q]?=some y)
  (kQ:∀g,IsZip g z TI TO (rawInt s.heap.objs.size)->IsPair g TO x y->Rk QW g i l (p+1)->Rk Q4 g j m (q+1)->IsPair g s.heap.objs.size x y->g.objs.size=s.heap.objs.size+1 ->
   (∀c o,c≠z->c≠TO->c≠i->c≠j->s.heap.get? c=some o->g.get? c=some o)->Q (some (.ref s.heap.objs.size)) { s with heap:=g }) :
  wpAny (model prog w) A (pyNext (.ref z)) Q E s:=by
 have ty:s.TypeIs (.ref z) "zip":=⟨_,qz,rfl⟩
 have Z:ZS QW Q4 s.heap s.heap z TI TO i j l m xs ys .none p q a b:=⟨qz,qI,qO,p1,p2,r1,r2,λ_ _ _ _ _ _ e=>e,rfl⟩
 refine zW (kP (qD (name:=Str.ofString "__next__") ty vS (qX vS ty F.entry_zip_next (Yq hn D Z ?_ ?_) (F.args_zip_next_1 _))))
 ·intro x' y' g g' hx hy Y ez t;rw[ex] at hx;rw[ey] at hy;cases hx;cases hy;rw[Y.sz] at ez ⊢;have lt:=zZ Y.zo;have up:∀c o,c≠z->g.get? c=some o->g'.get? c=some o:=λc o n e=>t.extBut _ _ n (zV _ e);refine zX (kQ g' ez (up _ _ D.TOz Y.to) (Y.wi.at λo e=>up _ _ D.i1z e) (Y.wj.at λo e=>up _ _ D.i2z e) ?_ (by rw[t.1,xK,Y.sz]) λc o n1 n2 n3 n4 e=>up c o n1 (Y.kp c o n1 n2 n3 n4 e));rw[<- Y.sz];exact t.extBut _ _ (jJ lt) (zY _ rfl)
 ·intro no;rw[ex,ey] at no;rcases no with no|no<;>cases no
def WV(hn:A.handled=none)(D:ZipApart z TI TO i j l m)
  (qz:IsZip s.heap z TI TO .none) (qI:IsPair s.heap TI (.ref i) (.ref j)) (qO:IsPair s.heap TO a b)
  (p1:Rk QW s.heap i l p) (p2:Rk Q4 s.heap j m q) (r1:Rq QW s.heap l xs) (r2:Rq Q4 s.heap m ys) (ends:xs[p]?=none\/ys[q]?=none)
  (kQ:∀g,(∀c o,c≠z->c≠TO->c≠i->c≠j->s.heap.get? c=some o->g.get? c=some o)->Q none { s with heap:=g }):wpAny (model prog w) A (pyNext (.ref z)) Q E s:=by
 have ty:s.TypeIs (.ref z) "zip":=⟨_,qz,rfl⟩
 have Z:ZS QW Q4 s.heap s.heap z TI TO i j l m xs ys .none p q a b:=⟨qz,qI,qO,p1,p2,r1,r2,λ_ _ _ _ _ _ e=>e,rfl⟩
 refine zW (kP (qD (name:=Str.ofString "__next__") ty vS (qX vS ty F.entry_zip_next (Yq hn D Z ?_ ?_) (F.args_zip_next_1 _))))
 ·intro x y g g' hx hy;rw[hx,hy] at ends;rcases ends with no|no<;>cases no
 ·rintro _ g e kp ⟨o,ho,ht⟩;exact zW (wpAny_isInstance (T:="StopIteration") (b:=true) ⟨o,ho,ht⟩ isSubtype_stop (zX (kQ _ kp)))
end
abbrev Ys(b:Bool)(l:Addr):Obj:={ cls:=.type (if b then "tuple_iterator" else "list_iterator"),data:=.fields #[.ref l,.int 0 0] }
abbrev z1(b:Bool)(h:Heap)(l:Addr):Heap:=h.push (Ys b l)
abbrev z2(b c:Bool)(h:Heap)(l m:Addr):Heap:=(z1 b h l).push (Ys c m)
abbrev z3(b c:Bool)(h:Heap)(l m:Addr):Heap:=(z2 b c h l m).push { cls:=.type "tuple",data:=.seq #[.ref h.objs.size,.ref (z1 b h l).objs.size] }
abbrev z4(b c:Bool)(h:Heap)(l m:Addr):Heap:=(z3 b c h l m).push { cls:=.type "tuple",data:=.seq #[.none,.none] }
abbrev z5(b c:Bool)(h:Heap)(l m:Addr):Heap:=(z4 b c h l m).push { cls:=.type "zip",data:=.fields #[.none,.bool false,.bool false,.ref (z2 b c h l m).objs.size,.ref (z3 b c h l m).objs.size] }
def Rq.push(x:Rq b h l xs)(o:Obj):Rq b (h.push o) l xs:=x.at λo' e=>zV _ e
def Vh(b c:Bool)(l m:Addr)(xs ys:Array Value):Meets (Builtin.«zip.__new__» ⟨[.type "zip",.ref l,.ref m],[]⟩) (λ_ R s=>Rq b s.heap l xs/\Rq c s.heap m ys/\R (.ok (.ret (.ref (z4 b c s.heap l m).objs.size))) { s with heap:=z5 b c s.heap l m }) :=
 .of_wp λprog w A R s h=>by
  let⟨hp,g,d,tk,os⟩:=s;let⟨q1,q2,h⟩:=h;have SO:=sub_zip;cases b<;>cases c
  ·have L1:Heap.IsList (Shared.heap ⟨hp,g,d,tk,os⟩) l xs:=q1;have L2:Heap.IsList (Shared.heap ⟨hp.push { cls:=.type "list_iterator",data:=.fields #[.ref l,.int 0 0] },g,d,tk,os⟩) m ys:=Rq.push (b:=false) q2 _
   wp_walk using qL L1,qL L2
   exact⟨_,rfl,h⟩
  ·have L1:Heap.IsList (Shared.heap ⟨hp,g,d,tk,os⟩) l xs:=q1;have L2:Heap.IsTuple (Shared.heap ⟨hp.push { cls:=.type "list_iterator",data:=.fields #[.ref l,.int 0 0] },g,d,tk,os⟩) m ys:=Rq.push (b:=true) q2 _
   wp_walk using qL L1,xS L2
   exact⟨_,rfl,h⟩
  ·have L1:Heap.IsTuple (Shared.heap ⟨hp,g,d,tk,os⟩) l xs:=q1;have L2:Heap.IsList (Shared.heap ⟨hp.push { cls:=.type "tuple_iterator",data:=.fields #[.ref l,.int 0 0] },g,d,tk,os⟩) m ys:=Rq.push (b:=false) q2 _
   wp_walk using xS L1,qL L2
   exact⟨_,rfl,h⟩
  ·have L1:Heap.IsTuple (Shared.heap ⟨hp,g,d,tk,os⟩) l xs:=q1;have L2:Heap.IsTuple (Shared.heap ⟨hp.push { cls:=.type "tuple_iterator",data:=.fields #[.ref l,.int 0 0] },g,d,tk,os⟩) m ys:=Rq.push (b:=true) q2 _
   wp_walk using xS L1,xS L2
   exact⟨_,rfl,h⟩
def Tp(e:h.get? it=some (Ys b l)):Rk b h it l 0:=by
 cases b
 ·exact⟨_,e,rfl,rfl⟩
 ·exact⟨_,e,rfl,rfl⟩
def UC(q1:Rq b s.heap l xs)(q2:Rq c s.heap m ys)
  (h:∀g,IsZip g (s.heap.objs.size+4) (s.heap.objs.size+2) (s.heap.objs.size+3) .none->IsPair g (s.heap.objs.size+2) (.ref s.heap.objs.size) (.ref (s.heap.objs.size+1))->IsPair g (s.heap.objs.size+3) .none .none ->
   Rk b g s.heap.objs.size l 0->Rk c g (s.heap.objs.size+1) m 0->(∀a o,s.heap.get? a=some o->g.get? a=some o)->Q (.ref (s.heap.objs.size+4)) { s with heap:=g }) :
  wpAny (model prog w) A (call (.type "zip") [.ref l,.ref m]) Q E s:=by
 refine callType_new F.called_zip (by decide) (F.typeCall_zip_2 _ _) (F.newCall_zip_2 _ _) (λobj=>F.args_object_init_3 obj _ _) F.entry_zip_new (Vh b c l m xs ys) ⟨q1,q2,?_⟩;have n1:(z1 b s.heap l).objs.size=s.heap.objs.size+1:=xK ..;have n2:(z2 b c s.heap l m).objs.size=s.heap.objs.size+2:=by rw[xK,n1]
 have n3:(z3 b c s.heap l m).objs.size=s.heap.objs.size+3:=by rw[xK,n2]
 have n4:(z4 b c s.heap l m).objs.size=s.heap.objs.size+4:=by rw[xK,n3]
 have g5:(z5 b c s.heap l m).get? (z4 b c s.heap l m).objs.size=some _:=zY _ rfl;have g4:(z5 b c s.heap l m).get? (z3 b c s.heap l m).objs.size=some _:=zV _ (zY _ rfl);have g3:(z5 b c s.heap l m).get? (z2 b c s.heap l m).objs.size=some _:=zV _ (zV _ (zY _ rfl));have g2:(z5 b c s.heap l m).get? (z1 b s.heap l).objs.size=some (Ys c m):=zV _ (zV _ (zV _ (zY _ rfl)));have g1:(z5 b c s.heap l m).get? s.heap.objs.size=some (Ys b l):=zV _ (zV _ (zV _ (zV _ (zY _ rfl))));show _/\_;rw[n2,n3,n4] at g5;rw[n1,n2] at g3;rw[n3] at g4;rw[n1] at g2;rw[n4];exact⟨⟨_,g5,rfl⟩,h _ g5 g3 g4 (Tp g1) (Tp g2) λa o x=>zV _ (zV _ (zV _ (zV _ (zV _ x))))⟩
end Zp
namespace Dl
open PySem L2 PySem.Spec PyProof.Rows Zp
def sV(K:W.Frag)(b:Bool)(a:Addr)(H:Hp)(xs:List V):Prop:=match b with|true=>gq K H a xs|false=>gp K H a xs
def sV.src(I:Inv X pins σ H s)(h:sV X.K b a H xs):∃its:List Value,aD xs its/\Rq b s.heap a its.toArray/\xs.length<=sizeLine:=by
 cases b
 ·let⟨its,rv,pl,hz⟩:=I.list (show gp X.K H a xs from h);exact⟨its,rv,pl.isList,hz⟩
 ·let⟨its,rv,pl,hz⟩:=I.tuple (show gq X.K H a xs from h);exact⟨its,rv,pl,hz⟩
def sV.ne(I:Inv X pins σ H s)(hf:cB X pins H c)(h:sV X.K b a H xs):a≠c:=by
 cases b
 ·exact LG I hf h
 ·exact KO I hf h
def sV.inj(I:Inv X pins σ H s)(h:sV X.K b a H xs)(h':sV X.K b a H ys):xs=ys:=by
 cases b
 ·exact I.Sa h h'
 ·exact I.RU h h'
def sV.mono{K:W.Frag}(e:aK H H')(h:sV K b a H xs):sV K b a H' xs:=by
 cases b
 ·exact e.seq h
 ·exact ay e h
def Du{K:W.Frag}(b c:Bool)(l1 l2 z TI TO i1 i2:Addr)(Z:Qq z TI TO i1 i2) :
  Turn P w K (.Tuple elts k pos) (OY (sV K b l1) (sV K c l2)) [z,TI,TO,i1,i2] z (λi h=>IsZip h z TI TO .none/\IsPair h TI (.ref i1) (.ref i2)/\(∃a b,IsPair h TO a b)/\Rk b h i1 l1 i/\Rk c h i2 l2 i) where
 mem:=by simp
 obj:=λi h st d hd=>by
  let⟨hz,Vi,⟨a,b',VC⟩,p1,p2⟩:=st;simp?[zR,yG,xV] at hd;rcases hd with rfl|rfl|rfl|rfl|rfl
  ·exact⟨_,hz,λv q=>by have q:Data.fields _=Data.cell v:=q;cases q⟩
  ·exact⟨_,Vi,λv q=>by have q:Data.seq _ _=Data.cell v:=q;cases q⟩
  ·exact⟨_,VC,λv q=>by have q:Data.seq _ _=Data.cell v:=q;cases q⟩
  ·exact p1.obj
  ·exact p2.obj
 keep:=λi h h' st kk=>by
  let⟨hz,Vi,⟨a,b',VC⟩,h1,h2⟩:=st;exact⟨kk z (by simp) _ hz,kk TI (by simp) _ Vi,⟨a,b',kk TO (by simp) _ VC⟩,h1.at λo q=>kk i1 (by simp) o q,h2.at λo q=>kk i2 (by simp) o q⟩
 item:=by
  intro X hP hw hK hc i pins s σ H E I hf st hg;subst hP hw hK;let⟨xs,ys,x,y,Tq,Sz,hx,hy⟩:=hg;let⟨abY,rv1,p1,hz1⟩:=Tq.src I;let⟨Rm,rv2,p2,hz2⟩:=Sz.src I;let⟨u1,hu1,ru1⟩:=rv1.get hx;let⟨u2,hu2,ru2⟩:=rv2.get hy;have D:ZipApart z TI TO i1 i2 l1 l2:=⟨Z.a1,Z.a2,Z.a3,Z.a4,Z.a5,Z.a6,Z.a7,Z.a8,Z.a9,Z.a0,Tq.ne I (hf z (by simp)),Tq.ne I (hf TO (by simp)),Tq.ne I (hf i1 (by simp)),Tq.ne I (hf i2 (by simp)),Sz.ne I (hf z (by simp)),Sz.ne I (hf TO (by simp)),Sz.ne I (hf i1 (by simp)),Sz.ne I (hf i2 (by simp))⟩
  let⟨hz,Vi,⟨a,b',VC⟩,h1,h2⟩:=st;refine Yr (I.ok.hd hc) D hz Vi VC h1 h2 p1 p2 (x:=u1) (y:=u2) (by simpa using hu1) (by simpa using hu2) λg b1 b2 b3 b4 b5 b6 hk=>⟨.ref s.heap.objs.size,rfl,?_⟩
  have lt:∀ {c:Addr}{o:Obj},s.heap.get? c=some o->s.heap.objs.size≠c:=λe=>jJ (zZ e);refine wpAny_letOwnedTupleGo_zip (s:={ s with heap:=g }) b1 λg' hz' SA=>?_;have b5':g'.get? s.heap.objs.size=some { cls:=.type "tuple",data:=.seq #[u1,u2] }:=SA.extBut _ _ (lt hz) b5;have ht:pb g' s.heap.objs.size (List.toArray [u1,u2]):=⟨⟨_,b5',rfl,_,rfl⟩,_,b5',rfl⟩
  refine⟨.ref s.heap.objs.size,_,ye (ch:=[z,TI,TO,i1,i2]) (xs:=[x,y]) (t':=s.toks) I hf (λb o hb q=>?_) (yN _) ht (.cons ru1 (.cons ru2 .nil)) (by show 2<=sizeLine;decide),rfl,
   ⟨s.heap.objs.size,x,y,rfl,I.fresh,rfl,λzs WW=>by rw[WW.inj I Tq];exact hx,λzs WW=>by rw[WW.inj I Sz];exact hy⟩,
   ⟨hz',SA.extBut _ _ Z.a1 (hk _ _ D.TIz D.TITO D.TIi1 D.TIi2 Vi),⟨_,_,SA.extBut _ _ Z.a2 b2⟩,b3.extBut SA.extBut Z.a3,b4.extBut SA.extBut Z.a4⟩,λb hb=>?_⟩
  ·simp?[zR,yG,xV,not_or] at hb;exact SA.extBut _ _ hb.1 (hk b o hb.1 hb.2.2.1 hb.2.2.2.1 hb.2.2.2.2 q)
  ·have:s.heap.objs.size≠b:=by
    simp?[zR,yG,xV] at hb;let⟨o1,g1,_⟩:=h1.obj;let⟨o2,g2,_⟩:=h2.obj;rcases hb with rfl|rfl|rfl|rfl|rfl
    ·exact lt hz
    ·exact lt Vi
    ·exact lt VC
    ·exact lt g1
    ·exact lt g2
   rw[av (jN this)];exact (hf b hb).1
 done:=by
  intro X hP hw hK hc i pins s σ H E I hf st hg;subst hP hw hK;let⟨xs,ys,Tq,Sz,hx⟩:=hg;let⟨abY,rv1,p1,hz1⟩:=Tq.src I;let⟨Rm,rv2,p2,hz2⟩:=Sz.src I;have D:ZipApart z TI TO i1 i2 l1 l2:=⟨Z.a1,Z.a2,Z.a3,Z.a4,Z.a5,Z.a6,Z.a7,Z.a8,Z.a9,Z.a0,Tq.ne I (hf z (by simp)),Tq.ne I (hf TO (by simp)),Tq.ne I (hf i1 (by simp)),Tq.ne I (hf i2 (by simp)),Sz.ne I (hf z (by simp)),Sz.ne I (hf TO (by simp)),Sz.ne I (hf i1 (by simp)),Sz.ne I (hf i2 (by simp))⟩
  let⟨hz,Vi,⟨a,b',VC⟩,h1,h2⟩:=st;have e1:=rv1.length;have e2:=rv2.length;refine WV (I.ok.hd hc) D hz Vi VC h1 h2 p1 p2 (hx.elim (λq=>.inl (by simp;lia)) λq=>.inr (by simp;lia)) λg hk=>⟨rfl,?_⟩
  refine C4 (ch:=[z,TI,TO,i1,i2]) (t':=s.toks) I hf λb o hb q=>?_;simp?[zR,yG,xV,not_or] at hb;exact hk b o hb.1 hb.2.2.1 hb.2.2.2.1 hb.2.2.2.2 q
 self:=λ_ _ _ _ _ st h=>wpAny_pyIter_zip st.1 h
def Jc(B:oY X "zip" (.type "zip"))(ha:PA X [l,l'] tl)(hs:starEach [l,l'] X.env=(false,eval l X.env)::starEach [l'] X.env)(Xs:(backTo pos (starEach [l'] X.env)).any (·.1)=false) :
  PI X (.Tuple elts k tp) (.Call (.Name "zip" p) [l,l'] [] pos) (λσ H R=>tl σ H λvs H1=>∃a b,vs=[.ref a,.ref b]/\∃c d xs ys,sV X.K c a H1 xs/\sV X.K d b H1 ys/\R (OY (sV X.K c a) (sV X.K d b)) H1):=by
 intro pins s σ H R I h;refine Call_ (iK I B.gl B.mg B.bt (qT (bS (ha pos pins s σ H _ I h) λus s1 ⟨vs,H1,I1,r1,q1⟩=>?_) hs Xs));let⟨a,b,e,c,d,xs,ys,Tq,Sz,q⟩:=q1;subst e;let⟨u,u',rfl,rx,ry⟩:=vals2 r1;cases rx;cases ry;let⟨its,rv,pl,hz⟩:=Tq.src I1;let⟨its',rv',pl',hz'⟩:=Sz.src I1;refine UC pl pl' λg b1 b2 b3 b4 b5 kp=>wpAny_pyIter_zip (s:={ s1 with heap:=g }) b1 ?_;refine⟨_,_,_,_,H1,rfl,I1.kept (t':=s1.toks) kp,Du c d a b (s1.heap.objs.size+4) (s1.heap.objs.size+2) (s1.heap.objs.size+3) s1.heap.objs.size (s1.heap.objs.size+1) ?_,⟨b1,b2,⟨_,_,b3⟩,b4,b5⟩,λc hc=>?_,q⟩
 ·constructor<;>(intro z;have z:(_:Nat)=_:=z;lia)
 ·have Vx:s1.heap.objs.size<=c:=by
   simp?[zR,yG,xV] at hc;rcases hc with rfl|rfl|rfl|rfl|rfl
   ·exact jV _ _
   ·exact jV _ _
   ·exact jV _ _
   ·exact yN _
   ·exact jV _ _
  exact I1.RL Vx (I1.QR.fresh Vx)
def K9:List D->Option (List D):=λds=>match ds with
 | [x,y]=>(eI x).bind λxs=>(eI y).map λys=>ja xs ys
 | _=>none
def AZ{K:W.Frag}(h:eI d=some xs)(r:Rep K HF d v):∃b a vs,v=.ref a/\sV K b a HF vs/\au K HF xs vs:=by
 rcases lI h with rfl|rfl
 ·simp?[Rep] at r;let⟨a,vs,rfl,q,rr⟩:=r;exact⟨true,a,vs,rfl,q,rr⟩
 ·simp?[Rep] at r;let⟨a,vs,rfl,q,rr⟩:=r;exact⟨false,a,vs,rfl,q,rr⟩
def dP(fs:Env->Option (List D)):Env->Option (List D):=λρ=>(fs ρ).bind K9
def JJ(B:oY X "zip" (.type "zip"))(hs:starEach [l,l'] X.env=(false,eval l X.env)::starEach [l'] X.env)(Xs:(backTo pos (starEach [l'] X.env)).any (·.1)=false)(h:DA X [l,l'] fs) :
  DI X (.Tuple elts k tp) (.Call (.Name "zip" p) [l,l'] [] pos) (dP fs) :=
 uw (Jc B h hs Xs) λσ H R z=>by
  let⟨HF,ρ,ds,sm,eo,hf,q⟩:=z;let⟨x,hx,hf⟩:=bs hf;refine⟨HF,ρ,_,sm,eo,hx,λvs H1 QO g1 r1=>?_⟩;unfold K9 at hf;split at hf
  ·let⟨xs,h1,hf⟩:=bs hf;let⟨ys,h2,rfl⟩:=ag hf;let⟨v,r',rfl,a,b⟩:=r1.cons_inv;let⟨v',r'',rfl,a',b'⟩:=b.cons_inv;rw[b'.nil_inv];let⟨c,ad,us,rfl,hq,rr⟩:=AZ h1 a;let⟨c',ad',us',rfl,hq',rr'⟩:=AZ h2 a';exact⟨ad,ad',rfl,c,c',us,us',hq.mono g1.fh,hq'.mono g1.fh,q _ H1 QO g1 (E1 hq (λ_ _ s h=>h.mono s) hq' (λ_ _ s h=>h.mono s) rr rr')⟩
  ·cases hf
end Dl
namespace Zp
open PySem PyProof.Rows
def Rk.ne(x:Rk b h it l k)(y:Rq b h l xs):l≠it:=by
 rintro rfl;cases b
 ·let⟨o,e,c,d⟩:=(show h.IsListIter l l k from x)
  let⟨o',e',r⟩:=(show h.IsList l xs from y)
  rw[e] at e';cases e';simp_all
 ·let⟨o,e,c,d⟩:=(show h.IsTupleIter l l k from x)
  let⟨o',e',r⟩:=(show h.IsTuple l xs from y)
  rw[e] at e';cases e';simp_all
def WX(hn:A.handled=none)(b:Bool)(it l:Addr)(xs:Array Value):Draws prog w A it [it,l] xs.size (λi x=>xs[i]?=some x) (λi h=>Rk b h it l i/\Rq b h l xs) where
 live:=λi h st=>let ⟨o,e,_⟩:=st.1.obj;⟨o,e⟩
 frame:=λi h h' st k=>⟨st.1.at (k it (by simp)),st.2.at (k l (by simp))⟩
 item:=λi s Q E hi st hQ=>nxt st.1 st.2 (v:=xs[i]) (by simp[hi]) λg e t=>hQ _ g s.toks (by simp[hi]) ⟨e,st.2.extBut t.extBut (st.1.ne st.2)⟩ t
 done:=λs Q E st hE=>Vg hn st.1 st.2 (by simp) hE
def Yt{QW:Bool}{e it l:Addr}{i:Nat}{items:Array Value}{x old:Value}{Q:Option Value->Shared->Prop}(hn:A.handled=none)
  (qe:IsEnum s.heap e it i old) (qi:Rk QW s.heap it l i) (ql:Rq QW s.heap l items) (ex:items[i]?=some x) (nei:e≠it)
  (kQ:∀g tk,IsEnumOut g e it ((i:Int)+1) x s.heap.objs.size->Rk QW g it l (i+1)->g.get? s.heap.objs.size=some { cls:=.type "tuple",data:=.seq #[.int i tk,x] } ->
   g.objs.size=s.heap.objs.size+1->(∀c o,c≠e->c≠it->s.heap.get? c=some o->g.get? c=some o)->Q (some (.ref s.heap.objs.size)) { s with heap:=g,toks:=tk+1 }) :
  wpAny (model prog w) A (pyNext (.ref e)) Q E s:=by
 have nel:e≠l:=by
  rintro rfl;cases QW
  ·let⟨o,e1,r⟩:=(show s.heap.IsList e items from ql)
   rw[qe] at e1;cases e1;simp at r
  ·let⟨o,e1,r⟩:=(show s.heap.IsTuple e items from ql)
   rw[qe] at e1;cases e1;simp at r
 have D:Draws prog w A.in1 it [it,l] items.size (λi x=>items[i]?=some x) (λi h=>Rk QW h it l i/\Rq QW h l items):=WX (A:=A.in1) hn QW it l items;refine wpAny_pyNext_enum_itemD D qe ⟨qi,ql⟩ (Array.getElem?_eq_some_iff.mp ex).1 nei (by simp[nei,nel]) λy g tk hy a b c d k=>?_;rw[ex] at hy;cases hy;exact kQ g tk a b.1 c d k
end Zp
namespace Dl
open PySem L2 PySem.Spec PyProof.Rows Zp
def pM{K:W.Frag}(b:Bool)(a it e:Addr)(hei:e≠it):Turn P w K (.Tuple elts k pos) (Pd (sV K b a)) [e,it] e (λi h=>(∃old,IsEnum h e it i old)/\Rk b h it a i) where
 mem:=by simp
 obj:=λi h st c hc=>by
  let⟨⟨old,he⟩,hi⟩:=st;rcases List.mem_cons.mp hc with z|z
  ·subst z;exact⟨_,he,λv q=>by have q:Data.fields _=Data.cell v:=q;cases q⟩
  ·rw[List.mem_singleton.mp z];exact hi.obj
 keep:=λi h h' st kk=>⟨let ⟨old,he⟩:=st.1;⟨old,kk e (by simp) _ he⟩,st.2.at λo q=>kk it (by simp) o q⟩
 item:=by
  intro X hP hw hK hc i pins s σ H E I hf st hg;subst hP hw hK;let⟨xs,x,hq,hx⟩:=hg;let⟨its,rv,p,hz⟩:=hq.src I;let⟨u,hu,ru⟩:=rv.get hx;let⟨⟨old,he⟩,hi⟩:=st;refine Yt (I.ok.hd hc) he hi p (x:=u) (by simpa using hu) hei λg tk b1 b2 b3 b4 hk=>⟨.ref s.heap.objs.size,rfl,?_⟩
  have lt:∀ {c:Addr}{o:Obj},s.heap.get? c=some o->s.heap.objs.size≠c:=λe=>jJ (zZ e);have Wz:s.heap.objs.size≠e:=lt he;refine wpAny_letOwnedTupleGo_enum (s:={ s with heap:=g,toks:=tk+1 }) b1 λg' WN SA=>?_;have b3':g'.get? s.heap.objs.size=some { cls:=.type "tuple",data:=.seq #[.int i tk,u] }:=SA.extBut _ _ Wz b3;have ht:pb g' s.heap.objs.size (List.toArray [Value.int (i:Nat) tk,u]):=⟨⟨_,b3',rfl,_,rfl⟩,_,b3',rfl⟩
  refine⟨.ref s.heap.objs.size,_,ye (ch:=[e,it]) (xs:=[.int (i:Nat),x]) (t':=tk+1) I hf (λc o hb q=>?_) (yN _) ht (.cons ⟨_,rfl⟩ (.cons ru .nil)) (by show 2<=sizeLine;decide),rfl,
   ⟨s.heap.objs.size,x,rfl,I.fresh,rfl,λzs WW=>by rw[WW.inj I hq];exact hx⟩,⟨⟨_,WN⟩,b2.extBut SA.extBut (jN hei)⟩,λc RO=>?_⟩
  ·simp?[zR,yG,xV,not_or] at hb;exact SA.extBut _ _ hb.1 (hk c o hb.1 hb.2 q)
  ·have:s.heap.objs.size≠c:=by
    simp?[zR,yG,xV] at RO;let⟨o1,g1,_⟩:=hi.obj;rcases RO with rfl|rfl
    ·exact lt he
    ·exact lt g1
   rw[av (jN this)];exact (hf c RO).1
 done:=by
  intro X hP hw hK hc i pins s σ H E I hf st hg;subst hP hw hK;let⟨xs,hq,hx⟩:=hg;let⟨its,rv,p,hz⟩:=hq.src I;have hh:X.A.in1.handled=none:=I.ok.hd hc;have hl:=rv.length;let⟨⟨old,he⟩,hi⟩:=st;have hT:s.TypeIs (.ref e) "enumerate":=⟨_,he,rfl⟩
  unfold pyNext;refine zW (kP (qD (name:=Str.ofString "__next__") hT F.slot_enumerate_next (qX F.slot_enumerate_next hT F.entry_enumerate_next ?_ (F.args_enumerate_next_1 _))));refine zW (m:=field (.ref e) 2) (qU he rfl (x:=.ref it) rfl ?_);refine zW (Vg hh hi p (by simp;lia) λh1 x k1 hx1=>?_);let⟨o,ho,X1⟩:=hx1;refine zW (wpAny_isInstance (T:="StopIteration") (b:=true) ⟨o,ho,X1⟩ isSubtype_stop (zX ⟨rfl,?_⟩));let⟨f0,f1,f2,f3,f4,f5⟩:=hf it (by simp);exact I.turned (t':=s.toks) (λb o hb q=>k1 b o hb q) f0 f1 f3 f4 f5
 self:=λ_ _ _ _ _ st h=>let ⟨_,he⟩:=st.1;wL he h
def Ir(B:oY X "enumerate" (.type "enumerate"))(ha:PA X [l] tl)(hs:starEach [l] X.env=[(false,eval l X.env)]):PI X (.Tuple elts k tp) (.Call (.Name "enumerate" p) [l] [] pos) (λσ H R=>tl σ H λvs H1=>∃a,vs=[.ref a]/\∃b xs,sV X.K b a H1 xs/\R (Pd (sV X.K b a)) H1):=by
 intro pins s σ H R I h;refine Call_ (iK I B.gl B.mg B.bt (qT (bS (ha pos pins s σ H _ I h) λus s1 ⟨vs,H1,I1,r1,q1⟩=>?_) hs rfl));let⟨a,e,b,xs,hq,q⟩:=q1;subst e;let⟨u,rfl,rx⟩:=vals1 r1;cases rx;have fresh:∀b∈[s1.heap.objs.size+1,s1.heap.objs.size],cB X pins H1 b:=λb hb=>by
  rcases List.mem_cons.mp hb with z|z
  ·subst z;exact I1.RL (Nat.le_succ _) (I1.QR.fresh (Nat.le_succ _))
  ·cases List.mem_singleton.mp z;exact I1.RL (yN _) I1.fresh
 let⟨its,rv,pl,hz⟩:=hq.src I1;cases b with
 | false =>
  refine call_enumerate_list pl λh' he hit hsz kp=>wL (s:={ s1 with heap:=h' }) he ?_;exact⟨_,_,_,_,H1,rfl,I1.kept (t':=s1.toks) kp,pM false a s1.heap.objs.size (s1.heap.objs.size+1) (Nat.succ_ne_self _),⟨⟨_,he⟩,hit⟩,fresh,q⟩
 | true =>
  refine En.SQ (show s1.heap.IsTuple a its.toArray from pl) λh' he hit hsz kp=>wL (s:={ s1 with heap:=h' }) he ?_;exact⟨_,_,_,_,H1,rfl,I1.kept (t':=s1.toks) kp,pM true a s1.heap.objs.size (s1.heap.objs.size+1) (Nat.succ_ne_self _),⟨⟨_,he⟩,hit⟩,fresh,q⟩
def bj(fs:Env->Option (List D)):Env->Option (List D):=λρ=>(fs ρ).bind λds=>(dc ds).map (bu 0)
def Jk(B:oY X "enumerate" (.type "enumerate"))(h:DA X [l] fs)(hs:starEach [l] X.env=[(false,eval l X.env)]):DI X (.Tuple elts k tp) (.Call (.Name "enumerate" p) [l] [] pos) (bj fs) :=
 uw (Ir B h hs) λσ H R z=>by
  let⟨HF,ρ,ds,sm,eo,hf,q⟩:=z;let⟨x,hx,hf⟩:=bs hf;let⟨es,h1,rfl⟩:=ag hf;let⟨d,h0,h1⟩:=bs h1;rw[gf h0] at hx;refine⟨HF,ρ,_,sm,eo,hx,λvs H1 QO g1 r1=>?_⟩;let⟨v,r',rfl,a,b⟩:=r1.cons_inv;rw[b.nil_inv];let⟨c,ad,us,rfl,hq,rr⟩:=AZ h1 a;exact⟨ad,rfl,c,us,hq.mono g1.fh,q _ H1 QO g1 (CU hq (λ_ _ s h=>h.mono s) rr)⟩
end Dl
namespace T9
open PySem PySem.W PySem.Calls PyProof.Rows L2
def cB.at(h:cB X pins H b)(e:H' b=none):cB X pins H' b:=⟨e,h.2⟩
def RH{g:Array Value->Array Value}(I:Inv X pins σ H s)(f:cB X pins H b):Inv X pins σ H { s with heap:=s.heap.update b (Obj.mapSeq g) }:=by
 let⟨f0,f1,f2,f3,f4,f5⟩:=f;exact I.turned (t':=s.toks) (h':=s.heap.update b (Obj.mapSeq g)) (λc o hc e=>(xO _ _ (jN hc)).trans e) f0 f1 f3 f4 f5
def Ts(I:Inv X (pins++nH fp h) σ H' s')(hb:b∈fp)(e:h.get? b=some o):s'.heap.get? b=some o/\H' b=none :=
 let q:=I.pin (b,o) (yF _ (yF _ (d0 hb e)));⟨q.1,q.2.1⟩
def SY(I:Inv X pins σ H s)(ho:s.heap.get? a=some (seqObj "list" vs.toArray n))(fa:cB X pins H a)(TM:vs.length < 64)
  (J:List Value->Hp->Prop) (j0:J [] H)
  (step:∀us v,vs[us.length]?=some v->∀pl s' H',Inv X (pins++pl) σ H' s'->J us H'->wpAny (model X.prog X.w) A (call f [v]) (λu SE=>∃WY,Inv X (pins++pl) σ WY SE/\J (us++[u]) WY) (λ_ _=>False) s')
  (fin:∀us H',us.length=vs.length->J us H'->∃ (z:Nat->Int) (κ:SortKind),(2<=vs.length->∀s',Inv X pins σ H' s'->(∀Q':SortKind->Shared->Prop,Q' κ s'->wpAny (model X.prog X.w) A (keyKind' us.toArray) Q' (λ_ _=>False) s') /\
    ∀i j C,i < vs.length->j < vs.length->C (SP.ee z i j) s'->kas_ask X.prog X.w A κ us i j C s') /\
   ∀s' c,Inv X pins σ H' s'->cB X pins H' a->s'.heap.get? a=some (seqObj "list" (QY z vs).toArray c)->P (.done (.ret .none)) s') :
  wpAny (model X.prog X.w) A (ksk_tree a f false) P E s:=by
 have Td:vs.length<=sizeLine:=by rw[qV];lia
 unfold ksk_tree;refine zW (vI ho rfl ?_);refine zW (kA ho rfl ?_ (by simpa using Td) (xW _));obtain⟨e1,US⟩:∃e,(s.heap.update a (Obj.mapSeq λ_=>(#[]:Array Value))).get? a=some (seqObj "list" #[] e):=⟨_,kC ho λ_=>#[]⟩
 have I1:=RH (g:=λ_=>(#[]:Array Value)) I fa;refine zW (seqEpoch_at US rfl ?_);refine zW (wpAny_newTuple ?_ (by simpa using Td));refine zW (kO ?_ (xW _));refine xY ?_;have Vy:(((s.heap.update a (Obj.mapSeq λ_=>(#[]:Array Value))).push (seqObj "tuple" vs.toArray 0)).push (seqObj "list" #[] 0)).get? a=some (seqObj "list" #[] e1):=zV _ (zV _ US);have Xn:(((s.heap.update a (Obj.mapSeq λ_=>(#[]:Array Value))).push (seqObj "tuple" vs.toArray 0)).push (seqObj "list" #[] 0)).get? ((s.heap.update a (Obj.mapSeq λ_=>(#[]:Array Value))).push (seqObj "tuple" vs.toArray 0)).objs.size=some (seqObj "list" #[] 0):=zY _ rfl;have I3:=(I1.kept (t':=s.toks) (h':=((s.heap.update a (Obj.mapSeq λ_=>(#[]:Array Value))).push (seqObj "tuple" vs.toArray 0)).push (seqObj "list" #[] 0)) λb o e=>zV _ (zV _ e))
 have I2:=(I1.kept (t':=s.toks) (h':=(s.heap.update a (Obj.mapSeq λ_=>(#[]:Array Value))).push (seqObj "tuple" vs.toArray 0)) λb o e=>zV _ e)
 have fk:cB X pins H ((s.heap.update a (Obj.mapSeq λ_=>(#[]:Array Value))).push (seqObj "tuple" vs.toArray 0)).objs.size:=I2.RL (yN _) (I2.QR.fresh (yN _));have hka:((s.heap.update a (Obj.mapSeq λ_=>(#[]:Array Value))).push (seqObj "tuple" vs.toArray 0)).objs.size≠a:=by
  have Q0:=zZ US;rw[xK];exact jJ (jO Q0)
 show wpAny _ A _ P E { s with heap:=((s.heap.update a (Obj.mapSeq λ_=>(#[]:Array Value))).push (seqObj "tuple" vs.toArray 0)).push (seqObj "list" #[] 0) };generalize ((s.heap.update a (Obj.mapSeq λ_=>(#[]:Array Value))).push (seqObj "tuple" vs.toArray 0)).objs.size=kS at Xn fk hka;generalize e3:({ s with heap:=((s.heap.update a (Obj.mapSeq λ_=>(#[]:Array Value))).push (seqObj "tuple" vs.toArray 0)).push (seqObj "list" #[] 0) }:Shared)=s3 at I3;have Vy:s3.heap.get? a=some (seqObj "list" #[] e1):=by rw[<- e3];exact Vy
 have Xn:s3.heap.get? kS=some (seqObj "list" #[] 0):=by rw[<- e3];exact Xn
 clear e3 I2 I1 US ho;unfold ksk_rest;refine zW (wA ?_)
 first
  | rw[List.forIn_toArray]
  | (rw[<- Array.forIn_toList];simp?[List.toList_toArray])
  | rw[<- Array.forIn_toList]
 refine zW (ksk_fold (λi s'=>∃us H' e,us.length=i/\Inv X pins σ H' s'/\H' a=none/\H' kS=none/\s'.heap.get? a=some (seqObj "list" #[] e1)/\s'.heap.get? kS=some (seqObj "list" us.toArray e)/\J us H') vs 0 s3
  ⟨[],H,0,rfl,I3,fa.1,fk.1,Vy,Xn,j0⟩ ?step ?done)
 case step =>
  rintro j x s' hx ⟨us,H',e,hu,I',ha',SF,hoa,QR,j'⟩;have hu:us.length=j:=by lia
  have hj:j < vs.length:=(List.getElem?_eq_some_iff.mp hx).1;have Ip:=I'.pinned (fp:=[a,kS]) (λb hb=>by
   rcases List.mem_cons.mp hb with rfl|hb
   ·exact cB.at fa ha'
   ·rw[List.mem_singleton.mp hb];exact cB.at fk SF) (λb hb=>by
   rcases List.mem_cons.mp hb with rfl|hb
   ·exact⟨_,hoa,λv z=>by cases z⟩
   ·rw[List.mem_singleton.mp hb];exact⟨_,QR,λv z=>by cases z⟩)
  refine zW (kP (xB (step us x (by rw[hu];exact hx) _ s' H' Ip j') (λu SE he=>?_) λ_ _ hF=>hF.elim));let⟨WY,I'',j''⟩:=he
  try dsimp only
  let⟨ga,na⟩:=Ts I'' (b:=a) zF hoa;let⟨gk,nk⟩:=Ts I'' (b:=kS) (zD _ zF) QR;have I4:=I''.Q6;obtain⟨c2,TH⟩:∃c2,(SE.heap.update kS (Obj.mapSeq (·.push u))).get? kS=some (seqObj "list" (us.toArray.push u) c2):=⟨_,kC gk (·.push u)⟩
  refine zW (kA gk rfl ?_ (by rw[zI,qV];lia) (yE (Nat.le_of_eq (Array.size_push ..)) (by rw[zI,qV];lia)));refine zX ⟨rfl,us++[u],WY,c2,by rw[zO,hu];simp,RH I4 (cB.at fk nk),na,nk,(xO _ _ hka).trans ga,?_,j''⟩;rw[TH];simp
 case done =>
  rintro s' ⟨us,H',e,hu,I',ha',SF,hoa,QR,j'⟩;have hu:us.length=vs.length:=by lia
  try dsimp only
  refine zW (vI QR rfl ?_);let⟨z,κ,hz,hP⟩:=fin us H' hu j';have last:∀Rh:SortSt,(arrOf Rh).map (·.2)=(QY z vs).toArray->failedOf Rh=none->wpAny (model X.prog X.w) A (ksk_tail a false e1 (.ref kS) Rh) P E s':=λRh h1 h2=>by
   unfold ksk_tail
   try dsimp only
   rw[h1,h2];have na1:(s'.heap.update kS (Obj.mapSeq λ_=>(#[]:Array Value))).get? a=some (seqObj "list" #[] e1):=(xO _ _ hka).trans hoa;have I5:=RH (g:=λ_=>(#[]:Array Value)) I' (cB.at fk SF);have I6:=RH (s:={ s' with heap:=s'.heap.update kS (Obj.mapSeq λ_=>(#[]:Array Value)) }) (g:=λ_=>(QY z vs).toArray) I5 (cB.at fa ha');refine zW (kA QR rfl ?_ (by rw[zI,qV];lia) (xW _));refine zW (wpAny_letGo ?_);refine zW (seqEpoch_at na1 rfl ?_);refine zW (kA na1 rfl ?_ (xW _) (by
    simp?[yP,qQ];show (QY z vs).toArray.size<=_;rw[zI,Sj];lia))
   obtain⟨c,hc⟩:∃c,((s'.heap.update kS (Obj.mapSeq λ_=>(#[]:Array Value))).update a (Obj.mapSeq λ_=>(QY z vs).toArray)).get? a=some (seqObj "list" (QY z vs).toArray c):=⟨_,kC na1 λ_=>(QY z vs).toArray⟩
   simp?[bne_self_eq_false,yP,qQ];exact zX (hP _ c I6 (cB.at fa ha') hc)
  unfold ksk_end
  try dsimp only
  simp?[yP,qQ];by_cases h2:vs.toArray.size < 2
  ·rw[yM h2,yM h2];refine zW (zX ?_);rw[StateT.run_pure];refine zW (zX (last _ ?_ rfl));have UT:vs.length < 2:=by simpa using h2
   unfold QY;rw[yM UT];show ((us.toArray.zip vs.toArray).map (·.2))=vs.toArray;apply Array.toList_inj.mp;simp?[Array.toList_map,Array.toList_zip];exact List.map_snd_zip (by rw[hu];exact yN _)
  ·rw[yO h2,yO h2];have UT:2<=vs.length:=by
    have:¬ vs.length < 2:=by simpa using h2
    lia
   let⟨hk,Q0⟩:=hz UT s' I';refine zW (xB (hk (λYa SE=>Ya=κ/\SE=s') ⟨rfl,rfl⟩) (λYa SE hs=>?_) λ_ _ x=>x.elim);let⟨rfl,rfl⟩:=hs;refine zW (xB (kat_run (Q:=λRh s2=>s2=SE/\(arrOf Rh).map (·.2)=(QY z vs).toArray/\failedOf Rh=none) (G:=λp s2=>s2=SE/\p=SP.run (SP.ee z) (kas_sort vs.length))
    hu UT TM (λp Rh s2 a1 a2 a3 a4=>⟨a4.1,?_,a3⟩) (SP.wp_run Q0 (kas_sort vs.length) (SP.ET (by lia)) ⟨rfl,rfl⟩)) ?_ λ_ _ e=>e)
   ·rw[kat_snds hu a2,a4.2];unfold QY;rw[yO (by lia)]
   ·rintro⟨⟨⟩,Rh⟩ s2 ⟨hs,h4,h5⟩;subst hs;exact last Rh h4 h5
def sortedK{l:Value}{f:Addr}{Q:Value->Shared->Prop}(I:Inv X pins σ H s)(TM:vs.length < 64)
  (ab4:∀ {Q':List Value->Shared->Prop},(∀h':Heap,(∀b o,s.heap.get? b=some o->h'.get? b=some o)->Q' vs { s with heap:=h' })->wpAny (model X.prog X.w) A.in1 (collect l) Q' E s)
  (J:List Value->Hp->Prop) (j0:J [] H)
  (step:∀us v,vs[us.length]?=some v->∀pl s' H',Inv X (pins++pl) σ H' s'->J us H'->wpAny (model X.prog X.w) A.in1.in1 (call (.ref f) [v]) (λu SE=>∃WY,Inv X (pins++pl) σ WY SE/\J (us++[u]) WY) (λ_ _=>False) s')
  (fin:∀us H',us.length=vs.length->J us H'->∃ (z:Nat->Int) (κ:SortKind),(2<=vs.length->∀s',Inv X pins σ H' s'->(∀Q':SortKind->Shared->Prop,Q' κ s'->wpAny (model X.prog X.w) A.in1.in1 (keyKind' us.toArray) Q' (λ_ _=>False) s') /\
    ∀i j C,i < vs.length->j < vs.length->C (SP.ee z i j) s'->kas_ask X.prog X.w A.in1.in1 κ us i j C s') /\
   ∀s' D c,Inv X pins σ H' s'->cB X pins H' D->s'.heap.get? D=some (seqObj "list" (QY z vs).toArray c)->Q (.ref D) s') :
  wpAny (model X.prog X.w) A (call (.builtin "sorted") [l] [(Str.ofString "key",.ref f)]) Q E s:=by
 have Td:vs.length<=sizeLine:=by rw[qV];lia
 refine call_function_entry_kw kind_sorted plain_sorted entry_sorted (ksk_s1 _ _) ?_;unfold Builtin.«sorted»;refine zW (m:=checkCount "sorted" 1 1 _) (zX (zW (ab4 λh1 kp=>?_)));refine zW (kO ?_ (by simpa using Td));have I1:=I.kept (t':=s.toks) kp;have fD:cB X pins H h1.objs.size:=I1.RL (yN _) (I1.QR.fresh (yN _));have Xr:(h1.push (seqObj "list" vs.toArray 0)).get? h1.objs.size=some (seqObj "list" vs.toArray 0):=zY _ rfl;have I2:=I1.kept (t':=s.toks) (h':=h1.push (seqObj "list" vs.toArray 0)) λb o e=>zV _ e;show wpAny _ _ _ _ _ { s with heap:=h1.push (seqObj "list" vs.toArray 0) };refine zW (xY (wpAny_call_entry_kw slot_list_sort ⟨_,Xr,rfl⟩ entry_list_sort ?body (ksk_l1 _ _)))
 case body =>
  show wpAny (model X.prog X.w) A.in1.in1 (Builtin.«list.sort» ⟨[.ref h1.objs.size],[(Str.ofString "key",.ref f)]⟩) _ _ _;rw[ksk_t1];refine SY I2 Xr fD TM J j0 step λus H' hu j'=>?_;let⟨z,κ,hz,hP⟩:=fin us H' hu j';exact⟨z,κ,hz,λs' c I' f' e=>⟨_,rfl,zX ⟨_,rfl,hP s' _ c I' f' e⟩⟩⟩
end T9
namespace Dl
open PySem L2 PySem.Spec PyProof.Rows
def _root_.L2.Inv.Yu(I:Inv X pins σ H s)(f:cB X pins H b)(ho:eF X.prog X.w (upd H b o) s.heap b o):Inv X pins σ (upd H b o) s:=by
 let⟨f0,f1,f2,f3,f4,f5⟩:=f;have up:∀c u,H c=some u->upd H b o c=some u:=λc u e=>by rw[av (aA e f0)];exact e
 refine⟨I.ok,I.os,I.bare,⟨I.base.keep,I.base.slot,λc oc e n hx=>?_,I.base.there,λc xs e=>up c _ (I.base.RY c xs e),λc oc u e=>up c _ (I.base.RN c oc u e),⟨λc u e t=>up c u (I.base.RI.st c u e t),I.base.RI.gr⟩⟩,I.loc,I.cell,?_,λx c e=>?_,λp hp=>?_,λc u e=>?_,I.len⟩
 ·have Q7:c≠b:=λz=>by
   rcases f3 with g|g
   ·exact hx (z ▸ g)
   ·exact absurd (zQ (zZ e) (z ▸ g)) (qF _)
  rw[av Q7];exact I.base.free c oc e n hx
 ·rw[av (jN f1)];exact I.free
 ·rw[av (f4 x c e)];exact I.Q5 x c e
 ·let⟨e,n,r⟩:=I.pin p hp;exact⟨e,by rw[av (f5 p hp)];exact n,r⟩
 ·by_cases hc:c=b
  ·subst hc;rw[aC] at e;cases e;exact ho
  ·rw[av hc] at e;exact (I.QR c u e).Rr (λd w _ q=>q) (λd q=>up d _ q) λd w q _=>up d _ q
def wa(scope:Scope)(N':List Str)(p:Str):Bool:=scope.names.all (λq=>!decide (q.2=NameKind.cell))&&decide (N'[0]?=some p)&&decide (scope.names.lookup p=some .local)&&decide (scope.isCoroutine=false)&&decide (scope.isGenerator=false)
section
def Mn(C:Bk X N sc (k+3))(hA:dM (k+1) A)(hk:scope.kind=.function)(UX:N'.Nodup)(hl:wa scope N' p=true):Bk (i4 X A qual scope N' f c s H) N' scope k where
 n:=rfl
 nd:=UX
 tb:=λx kd hx=>.inl hx
 calm:=rfl
 fn:=λx hx=>by
  unfold wa at hl;simp?[zG,xH,yQ,xC] at hl;exact absurd rfl (hl.1.1.1.1 _ (mem_of_lookup hx))
 room:=hA.deeper _
 xe:=rfl
 kd:=hk
structure si(X:Cx)(qual:Str):Prop where
 ex:∃c P,X.env.code=.ref c/\X.env.qual++"<lambda>"=qual/\W.codeHdIn X.K c P=true/\∀HF,fS X.K HF->HF P=some (.tab qual)
def lu(te:Env->Option D)(ρ:Env):List D->Option (List D)
 | []=>some []
 | d::ds=>(te (ρ.set 0 (some d))).bind λx=>(lu te ρ ds).map (x::·)
def sQ:∀ {ds ks:List D},lu te ρ ds=some ks->ks.length=ds.length
 | [],ks,h=>by cases h;rfl
 | d'::ds,ks,h=>by
  unfold lu at h;let⟨y,h1,h⟩:=bs h;let⟨ys,h2,rfl⟩:=ag h;simp[sQ h2]
def xu:∀ {ds ks:List D}{i:Nat}{d:D},lu te ρ ds=some ks->ds[i]?=some d->∃x,te (ρ.set 0 (some d))=some x/\ks[i]?=some x
 | [],ks,i,d,h,e=>by simp at e
 | d'::ds,ks,i,d,h,e=>by
  unfold lu at h;let⟨y,h1,h⟩:=bs h;let⟨ys,h2,rfl⟩:=ag h;cases i with
  | zero=>simp at e;subst e;exact⟨y,h1,rfl⟩
  | succ i=>let⟨x,a,b⟩:=xu h2 (by simpa using e);exact⟨x,a,by simpa using b⟩
def nF(cs:List Nat)(fl te:Env->Option D):Env->Option (List D):=λρ=>(fl ρ).bind λl=>match l with
 | .list ds=>(lu te (gh 1 cs ρ) ds).bind λks=>(intsOf ks).bind λzs=>if ds.length < 64 then some (vg (λi=>zs.getD i 0) ds .none) else none
 | _=>none
def Gz{K:W.Frag}{cs:List Nat}(eo:cH K HF ρ σ)(r:Rep K HF d v):cH K HF ((gh 1 cs ρ).set 0 (some d)) ((js 1 cs σ).set 0 (some v)):=iE (Ce eo) r
def mn{K:W.Frag}:∀ {ks:List D}{zs:List Int}{Q2:List V}{us:List Value},intsOf ks=some zs->au K HF ks Q2->aD Q2 us->IntsAre us zs
 | [],zs,Q2,us,h,r,v=>by
  cases h;rw[r.nil_inv] at v;cases v;exact .nil
 | d::ks,zs,Q2,us,h,r,v=>by
  cases d<;>simp?[intsOf] at h<;>try cases h
  rename_i i;let⟨ys,h2,rfl⟩:=ag h;let⟨w,ws,rfl,a,b⟩:=r.cons_inv;simp?[Rep] at a;subst a;cases v with
  | cons r1 r2 =>
   let⟨t,rfl⟩:=r1;exact .cons i t (mn h2 b r2)
def iQ:∀ {us:List Value}{zs:List Int}{i:Nat},IntsAre us zs->i < us.length->∃t,us.getD i Value.none=.int (zs.getD i 0) t
 | _,_,i,.nil,h=>by simp at h
 | _,_,0,.cons n t r,h=>⟨t,rfl⟩
 | _,_,i+1,.cons n t r,h=>by
  let⟨t',e⟩:=iQ (i:=i) r (by simpa using h);exact⟨t',by simpa using e⟩
variable {fl te:Env->Option D}{cs:List Nat}
def Bk.Yv(C:Bk X N sc (k+3))(B:oY X "sorted" (.builtin "sorted"))(L:si X qual)(ok:nE sc scope N N' 1 cs=true)(hl:wa scope N' p=true)
  (hb:∀ (cl:List (Str×Addr)) (pm Sf u:Value) (c:Addr),bindArgs (W.kla_fn "<lambda>" qual params body scope cl pm (.ref c) Sf) ⟨[u],[]⟩=pure [(p,u)]) (WC:defaultsOf params X.env=([],[])) (h:DE X l fl)
  (hY:∀A f c s H,Bk (i4 X A qual scope N' f c s H) N' scope k->DE (i4 X A qual scope N' f c s H) body te)
  (XH:starEach [l] X.env=(false,eval l X.env)::starEach [] X.env) (he:backTo pos (starEach [l] X.env)=(false,eval l X.env)::backTo pos (starEach [] X.env)) (RF:(backTo pos (starEach [l] X.env)).any (·.1)=false) :
  DF X (.Call (.Name "sorted" p0) [l] [⟨some "key",.Lambda params body scope R3,WZ⟩] pos) (nF cs fl te):=by
 let⟨S,_⟩:=C.comp ok;have UX:N'.Nodup:=by
  unfold nE at ok;simp?[zG,zK] at ok;exact ok.2
 have hl':=hl;unfold wa at hl';simp?[zG,xH,yQ,xC,zK] at hl';obtain⟨⟨⟨⟨Xo,Xp⟩,hp⟩,T7⟩,WA⟩:=hl';let⟨cc,P,Tc,Yw,hhd,fu⟩:=L.ex;intro pins s σ H Q I ⟨HF,ρ,out,sm,eo,hf,q⟩;let⟨ld,hld,hf⟩:=bs hf;cases ld<;>try cases hf
 rename_i ds;let⟨ks,hks,hf⟩:=bs hf;let⟨zs,WW,hf⟩:=bs hf;split at hf<;>cases hf;rename_i TM;refine qZ (iK I B.gl B.mg B.bt ?_ (by decide) (by decide));refine PyProof.Rows.callWith_kw (e:=l) (rest:=[]) (kws:=[⟨some "key",.Lambda params body scope R3,WZ⟩]) ?_ he RF rfl rfl;refine bS (uB h AC XH pos pins s σ H _ I ⟨HF,ρ,[.list ds],sm,eo,by simp[aa,ah,hld],λvs H1 QO g1 r1=>(⟨QO,g1,r1⟩:∃QO,bR HF H QO H1/\au X.K QO [.list ds] vs)⟩) λus s1 ⟨vs,H1,I1,rv,QO,g1,r1⟩=>?_;let⟨v,vr,rfl,a1,b1⟩:=r1.cons_inv;rw[b1.nil_inv] at rv;let⟨u,rfl,rx⟩:=vals1 rv;simp?[Rep] at a1;let⟨la,ws,rfl,hq,rr⟩:=a1;cases rx;have hT1:H1 P=some (.tab qual):=g1.fh _ _ (fu QO (eo.tb.mono g1.ff));show wpAny _ _ (evalAll ((do let v <- eval (.Lambda params body scope R3) X.env;standAt pos;pure v)::[])) _ _ s1;refine wpAny_evalAll_cons (zW ?_);refine GC (P:=P) I1 S Yw Tc (W.codeHd_of_K I1.ok.mod.XC hhd) hT1 I1.ok.mod.bmd WC λf c' pm Sf s2 H2 I2 hfo Ub WB s12 fp2 _=>?_;refine zW (vB (zX (wpAny_evalAll_nil ?_)));show wpAny _ _ (call (.builtin "sorted") [.ref la] [(Str.ofString "key",.ref f)]) _ _ s2;have Ip:=I2.pinned (fp:=[f]) (λb hb=>by rw[List.mem_singleton.mp hb];exact fp2) (λb hb=>by rw[List.mem_singleton.mp hb];exact⟨_,hfo,λv z=>by cases z⟩);have g2:bR QO H1 QO H2:=⟨s12,.refl _,g1.fh.trans s12,λ_ _ e=>.inl e⟩
 let⟨its,UU,pl,hz⟩:=Ip.list (s12.seq (g1.fh.seq hq));have hlen:its.length=ds.length:=by rw[<- UU.length,rr.length]
 have Yx:=sQ hks;have hR:dM (k+1) X.A.in1.in1:=C.room.in1.in1;refine T9.sortedK (vs:=its) Ip (by lia) (λ{Q'} hQ=>?_) (λus H'=>∃QN Q2,bR QO H2 QN H'/\au X.K QN (ks.take us.length) Q2/\aD Q2 us) ⟨QO,[],.refl g2.fh,by simpa using au.nil,.nil⟩ (λus x hx pl' s3 H3 I3 ⟨Ry,Q2,g3,rk,rvk⟩=>?_) λus H3 hu ⟨Ry,Q2,g3,rk,rvk⟩=>?_
 ·refine collect_list pl.isList (hQ _ λb o e=>?_) (by rw[qV];lia);exact (xO _ _ (jJ (zZ e))).trans (zV _ e)
 ·have hi:us.length < its.length:=(List.getElem?_eq_some_iff.mp hx).1;obtain⟨w,hw⟩:∃w,ws[us.length]?=some w:=⟨_,zL (by rw[UU.length];exact hi)⟩
  let⟨x',UR,Wo⟩:=UU.get hw;rw[hx] at UR;cases UR;let⟨d,hd,rd⟩:=rr.get hw;let⟨kd,hkd,hki⟩:=xu hks hd;have ab8:s3.heap.get? f=some (W.kla_obj "<lambda>" qual params body scope (eJ X.env scope.names []) pm c' Sf) :=
   (I3.pin (f,_) (yF _ (qK _ (yF _ (d0 zF hfo))))).1
  refine xB (GI (Q:=λv H4=>∃R4,bR Ry H3 R4 H4/\Rep X.K R4 kd v) (te:=tD X.K te) I3 hR I3.ok.frames S Xo Xp hp UX T7 WA ab8 (g3.hh _ _ WB) (hb _ _ _ _ _) Wo (hY _ _ _ _ _ (Mn C hR S.kind UX hl))
   ⟨Ry,_,kd,g3.fh,Gz (eo.mono (g1.ff.trans g3.ff)) (rd.mono g3.ff),hkd,λv H4 R4 g4 r4=>⟨R4,g4,r4⟩⟩) (λu s4 ⟨v4,H4,I4,r4,R4,g4,rp⟩=>⟨H4,I4,R4,Q2++[v4],g3.trans g4,?_,rvk.append (.cons r4 .nil)⟩) λ_ _ e=>e
  rw[zO,xD,List.take_add_one,hki];exact (rk.mono g4.ff).append (au.cons rp au.nil)
 ·have SF:ks.take us.length=ks:=kJ (by lia);rw[SF] at rk;have ia:=mn WW rk rvk;refine⟨λi=>zs.getD i 0,oneType',λh2 s3 I3=>⟨λQ' q'=>?_,λi j Cc hi hj q'=>?_⟩,λs3 Dn c I3 fD e=>?_⟩
  ·rw[PyProof.Rows.ksk_kind (keys:=us.toArray) (kz:=zs) (by simpa using ia) (by simpa [hu] using h2)];exact zX q'
  ·let⟨t1,e1⟩:=iQ ia (i:=i) (by lia);let⟨t2,e2⟩:=iQ ia (i:=j) (by lia);unfold W.kas_ask;rw[e1,e2];exact W.kat_lt_int q'
  ·have hv:=vn (λi=>zs.getD i 0) UU;have hr:=yq (λi=>zs.getD i 0) rr;have hnD:H3 Dn=none:=fD.1;have I4:=Inv.Yu (o:=.lst (vg (λi=>zs.getD i 0) ws .QK)) I3 fD ⟨by rw[(lY _ _ _).length_eq];exact hz,_,c,hv,e⟩;have G:=(g1.trans g2).trans g3;refine⟨.ref Dn,_,I4.Q6,rfl,q Dn _ _ Ry (G.trans (.own G.fh hnD)) (G.hh.free hnD) (G.fh.free hnD) aC (hr.mono g3.ff)⟩
end
end Dl
namespace T9
open PySem PySem.W PySem.Calls PyProof.Rows L2
end T9
namespace Dl
open PySem L2 PySem.Spec PyProof.Rows
section
variable {cs:List Nat}
end
def Pv(i j l:Nat):Env->D->Option Env:=λρ d=>match d with
 | .tuple [x,y,z]=>if isFree ρ i=true/\isFree ρ j=true/\isFree ρ l=true then some (((ρ.set i (some x)).set j (some y)).set l (some z)) else none
 | _=>none
def Gd(i j l:Nat)(hc:X.calm=true)(hN:X.N.Nodup)(hi:X.N[i]?=some x)(hx:Loc X.env.scope x)(hj:X.N[j]?=some y)(hy:Loc X.env.scope y)(hl:X.N[l]?=some z)(hz:Loc X.env.scope z)
  (hf:X.fn x=true\/X.env.scope.names.lookup x=some .local) (T8:X.fn y=true\/X.env.scope.names.lookup y=some .local) (aca:X.fn z=true\/X.env.scope.names.lookup z=some .local) :
  DG X (.Tuple [.Name x px,.Name y py,.Name z pz] k pos) (Pv i j l) :=
 pJ (AV hc (gm (fM hN hi hx hf) (gm (fM hN hj hy T8) (gm (fM hN hl hz aca) uN)))) λv σ H Q z=>by
  let⟨HF,ρ,d,ρ',sm,eo,r,hf,q⟩:=z;unfold Pv at hf;split at hf
  ·rename_i x' y' z';split at hf
   ·rename_i hh;cases hf;simp?[Rep] at r;let⟨a,vs,rfl,hs,rr⟩:=r;let⟨v1,r1,rfl,a1,b1⟩:=rr.cons_inv;let⟨v2,r2,rfl,a2,b2⟩:=b1.cons_inv;let⟨v3,r3,rfl,a3,b3⟩:=b2.cons_inv;rw[b3.nil_inv] at hs;exact⟨a,_,rfl,ay sm hs,rfl,v1,_,rfl,v2,_,rfl,v3,_,rfl,rfl,q _ (iE (iE (iE eo a1) a2) a3) (k4 (k4 (k4 eo hh.1) hh.2.1) hh.2.2)⟩
   ·cases hf
  ·cases hf
def wk(d:D):List D->Option Nat
 | []=>none
 | x::xs=>if PyData.eqv x d=true then some 0 else (wk d xs).map (·+1)
def se:∀ {xs:List D}{j:Nat},wk d xs=some j->j < xs.length/\(∀x,xs[j]?=some x->PyData.eqv x d=true)/\∀m,m < j->∀x,xs[m]?=some x->PyData.eqv x d=false
 | [],j,h=>by cases h
 | x::xs,j,h=>by
  unfold wk at h;split at h
  ·cases h;rename_i e;exact⟨Nat.succ_pos _,λy hy=>by cases hy;exact e,λm hm=>absurd hm (vO _)⟩
  ·rename_i e;let⟨k,hk,rfl⟩:=ag h;let⟨a,b,c⟩:=se hk;refine⟨by simpa using a,λy hy=>b y (by simpa using hy),λm hm y hy=>?_⟩;cases m with
   | zero=>cases hy;simpa using e
   | succ m=>exact c m (by lia) y (by simpa using hy)
def Dw(hu:X.A.units+66 < cLine):M5 X "list.index" (λx vs H Q=>∃ (HF:Hp) (ds:List D) (d:D) (y:V) (j:Nat),aK HF H/\Rep X.K HF (.list ds) x/\vs=[y]/\Rep X.K HF d y/\SeqAt.shaped d=true/\SeqAt.shaped (.list ds)=true/\ds.length<=sizeLine/\wk d ds=some j/\Q (.int j) H):=by
 intro pins s σ H x vs v us Q I rx rv h;let⟨HF,ds,d,y,j,sm,r1,rfl,r2,hd,hl,hz,hj,q⟩:=h;let⟨u,rfl,ru⟩:=rv.one;let⟨as,ra⟩:=dD I sm r1 rx;let⟨bs,rb⟩:=dD I sm r2 ru;have c1:=kH hd;have c2:=kH hl;have d1:=SeqAt.depth_of_shaped hd;simp?[PyData.canLay0] at c2;have m:=Nat.min_le_right (PyData.depthAll ds) d.depth;let⟨VA,hj2,hj3⟩:=se hj;cases ra with
 | list h1 h2 h3 h4 =>
  rename_i l o its n as;let⟨cls,dd,data,sl⟩:=o;simp only at h2 h3;subst h2 h3;have hm:=SeqAt.readsAll_map _ _ _ c2 h4;have hlen:its.size=ds.length:=by rw[<- hm];simp
  have abQ:(sizeLine:Nat) < 2 ^ 62:=by decide
  have at_:∀m (hm:m < its.size),ds[m]?=some (SeqAt.readOf s.heap its[m]):=λm RV=>by
   rw[<- hm,zP,Array.getElem?_toList,jY RV];rfl
  refine qY F.slot_list_index ⟨_,h1,rfl⟩ F.entry_list_index (F.args_list_index_2 _ _) (PySem.SeqAt.list_indexAt l its n dd sl u (λy=>PyData.eqv (SeqAt.readOf s.heap y) d) j (by rw[hlen];exact VA) (by lia) ?_ ?_) ⟨h1,?_,?_⟩
  ·exact hj2 _ (at_ j (by rw[hlen];exact VA))
  ·intro m RV Yk;exact hj3 m Yk _ (at_ m RV)
  ·exact SeqAt.items_eqAt h4 rb c2 c1 (by lia)
  ·exact⟨.int j,H,I.tok _,⟨_,rfl⟩,q⟩
def D2:D->D->Option D
 | .list es,d=>if SeqAt.shaped d=true/\SeqAt.shaped (.list es)=true/\es.length<=sizeLine then (wk d es).map λj=>.int ((j:Nat):Int) else none
 | _,_=>none
def CY(hu:X.A.units+66 < cLine){fo:Env->Option D}(Rl:attributeBase o "index" X.env (eval o X.env)=eval o X.env)
  (Ri:((backTo QS (starEach [e] X.env)).all (λx=>!x.1)&&(backToKw QS (keywordEach [] X.env)).all (λx=>x.1.isSome)&&decide ([e].length+([]:List Keyword).length+(if ([]:List Keyword).isEmpty then 0 else 1) < 30))=true)
  (QU:(apos.endLine == QS.line)=true) (hs:starEach [e] X.env=(false,eval e X.env)::starEach [] X.env) (ho:DE X o fo) (he:DE X e fe):DE X (.Call (.Attribute o "index" apos) [e] [] QS) (f2 D2 fo fe) :=
 aZ (qm qP PySem.F.slot_list_index PySem.F.type_list_index (Dw hu) ho (bY he eX hs) Rl Ri QU hs rfl) λσ H Q z=>by
  let⟨HF,ρ,d,sm,eo,hf,q⟩:=z;let⟨x,hx,hf⟩:=bs hf;let⟨y,hy,hg⟩:=bs hf;refine⟨HF,ρ,x,sm,eo,hx,λv1 H1 QO g1 r1=>?_⟩;unfold D2 at hg;split at hg
  ·split at hg
   ·rename_i es hh;let⟨j,h2,rfl⟩:=ag hg;have Xq:=r1;simp?[Rep] at r1;let⟨l,us,rfl,hq,rr⟩:=r1;refine⟨.inl ⟨rfl,_,g1.fh.seq hq⟩,QO,ρ,y,g1.fh,eo.mono g1.ff,hy,λv2 H2 Q3 g2 r2=>?_⟩;exact⟨Q3,es,y,v2,j,g2.fh,Xq.mono g2.ff,rfl,r2,hh.1,hh.2.1,hh.2.2,h2,q _ H2 Q3 (g1.trans g2) (by simp[Rep])⟩
   ·cases hg
  ·cases hg
def Nl(x y:D):Option Bool:=match y with
 | .tuple ds=>if SeqAt.shaped x=true/\SeqAt.shaped y=true then some (!ds.any λz=>PyData.eqv z x) else none
 | .list ds=>if SeqAt.shaped x=true/\SeqAt.shaped y=true then some (!ds.any λz=>PyData.eqv z x) else none
 | _=>none
def EJ(hu:X.A.units+66 < cLine):gK X (compareOp .NotIn) (NV X.K Nl):=by
 intro pins s σ H v1 v2 u1 u2 Q I rx ry h;let⟨HF,x,y,k,sm,r1,r2,hg,q⟩:=h;let⟨as,ra⟩:=dD I sm r1 rx;let⟨bs,rb⟩:=dD I sm r2 ry;cases y<;>simp?[Nl] at hg<;>try cases hg
 all_goals
  split at hg<;>cases hg;rename_i ds hh;have c1:=kH hh.1;have c2:=kH hh.2;have d1:=SeqAt.depth_of_shaped hh.1;simp?[PyData.canLay0] at c2;have m:=Nat.min_le_right (PyData.depthAll ds) x.depth
  first
   | exact SeqAt.notIn_list_reads rb ra c2 c1 (by lia) ⟨.bl _,H,I,rfl,q⟩
   | exact SeqAt.notIn_tuple_reads rb ra c2 c1 (by lia) ⟨.bl _,H,I,rfl,q⟩
def qj:D->D->Option D:=λx y=>(Nl x y).map PyData.bool
def Bk.Yy(C:Bk X N sc k)(ha:DE X a fa)(hb:DE X b fb)(hm:behindInMarks .NotIn b=false:=by rfl):DE X (.Compare a [.NotIn] [b] pos) (f2 qj fa fb):=iN (EJ C.u66) j8 ha hb hm
def Bk.acb(C:Bk X N sc k)(ha:DE X a fa)(hb:DE X b fb)(hm:behindInMarks .NotIn b=false:=by rfl):DT X (.Compare a [.NotIn] [b] pos) (fB (f2 qj fa fb)):=iy (EJ C.u66) j8 ha hb hm
structure PV(h:Heap)(v:Value)(r:List Int):Prop where
 ex:∃ (a:Addr) (o:Obj) (n:Nat) (p:Value) (x y m:Int) (t:Tok),v=.ref a/\r=[x,y,m]/\h.get? a=some o/\o.cls=.type "tuple"/\o.data=.seq #[p,.int m t] n/\ub h p [x,y]
end Dl
namespace HT
open PySem PyProof.Rows
section
open PySem.SeqAt
open PySem.AutoSeq1 (wpAny_loadPart')
open PySem.MeetsSeq PySem.MeetsSeq2 PySem.MeetsSeq3
end
end HT
namespace Dl
open PySem L2 PySem.Spec PyProof.Rows
def iS:List D->Option (List (List Int))
 | []=>some []
 | d::r=>(gG d).bind λns=>(iS r).map (ns::·)
section
variable {fl te:Env->Option D}{cs:List Nat}
end
def EC:List D->Option D
 | [.int a]=>some (.int (if a < 0 then -a else a))
 | _=>none
def w8:eC X (.builtin "abs") (λxs H Q=>∃a:Int,xs=[.int a]/\Q (.int (if a < 0 then -a else a)) H):=by
 intro pins s σ H xs us Q I r h;let⟨a,rfl,q⟩:=h;cases r with
 | cons r1 r =>
  cases r;let⟨t,rfl⟩:=r1;exact call_abs_int λu tk=>⟨.int (if a < 0 then -a else a),H,I.tok tk,⟨_,rfl⟩,q⟩
def KL(B:oY X "abs" (.builtin "abs"))(ha:DA X [e] fs)(he:starEach [e] X.env=(false,eval e X.env)::starEach [] X.env:=by rfl):DE X (.Call (.Name "abs" p) [e] [] pos) (bh EC fs) :=
 ib w8 (by
  intro HF H ds vs d Q sm r hg q;unfold EC at hg;split at hg
  ·cases hg;let⟨v1,r1,rfl,a1,b1⟩:=r.cons_inv;rw[b1.nil_inv];simp?[Rep] at a1;exact⟨_,by rw[a1],q _ H HF (.refl sm) (by simp[Rep])⟩
  ·cases hg) B ha (by decide) (by decide) he rfl
end Dl
namespace HT
open PySem PyProof.Rows
inductive tq(A:Around)(s:Shared):List Value->List Value->Bool->Prop
 | afx:tq A s [] [] false
 | short {y:Value}{ys:List Value}:tq A s [] (y::ys) true
 | long {x:Value}{xs:List Value}:tq A s (x::xs) [] false
 | same {x y:Value}{xs ys:List Value}{b:Bool}:SeqAt.EqAt A s x y true->tq A s xs ys b->tq A s (x::xs) (y::ys) b
 | diff {x y:Value}{xs ys:List Value}{b:Bool}:SeqAt.EqAt A s x y false->(∀ (prog:Program) (w:World) (E Q:Value->Shared->Prop),Q (.bool b) s->wpAny (model prog w) A (richCompare .Lt x y) Q E s)->tq A s (x::xs) (y::ys) b
section
open PySem.SeqAt
open PySem.AutoSeq1 (wpAny_loadPart')
open PySem.MeetsSeq PySem.MeetsSeq2 PySem.MeetsSeq3
end
end HT
namespace Dl
open PySem L2 PySem.Spec PyProof.Rows
variable {σ:L2.St}{i:Nat}
structure QH(h:Heap)(v:Value)(r:List Int):Prop where
 ex:∃ (a:Addr) (o:Obj) (n:Nat) (p:Value) (x y:Int) (t u:Tok) (ns:List Int),v=.ref a/\r=x::y::ns/\h.get? a=some o/\o.cls=.type "tuple"/\o.data=.seq #[.int x t,.int y u,p] n/\ub h p ns
def GU(F:eU X.prog X.w X.K X.mg X.base k x n m)(hr:dM k X.A)(hg:Gl X x)(R0:(x == ("__debug__":Str))=false):DE X (.Call (.Name x p) [] [] pos) (ai n m ah):=by
 let⟨f,fd,ps,ok,hm,hk,hb⟩:=F.ex;refine aZ (Eo (E:=E0) ok hr hg hm hk hb .nil Kn R0) λσ H Q z=>?_;let⟨HF,ρ,d,sm,eo,hf,q⟩:=z;have hf:(if ([]:List D).length=n then m [] else none)=some d:=hf;split at hf
 ·rename_i hl;exact⟨HF,[],d,sm,eo.tb,.nil,hl,hf,q⟩
 ·cases hf
inductive O8{α:Type}(X:Cx)(R:Addr->α->Prop):List Expr->List α->List V->Prop
 | nil:O8 X R [] [] []
 | cons {x:Str}{p:Pos}{m:α}{f:Addr}{es:List Expr}{ms:List α}{vs:List V}(hg:Gl X x) (hm:X.mg x=some (.ref f)) (hd:(x == ("__debug__":Str))=false) (r:R f m) (t:O8 X R es ms vs):O8 X R (.Name x p::es) (m::ms) (.ref f::vs)
def sv.len{K:W.Frag}{bs:List Addr}{dss:List (List D)}(h:sv K HF H QM bs dss):bs.length=dss.length:=by
 induction h with
 | nil=>rfl
 | cons _ _ _ _ _ ih=>rw[zM,zM,ih]
def sv.at{K:W.Frag}{bs:List Addr}{dss:List (List D)}(h:sv K HF H QM bs dss):∀ {j:Nat}{ds:List D},dss[j]?=some ds->∃b vs,bs[j]?=some b/\H b=some (.lst vs)/\HF b=none/\QM b=none/\au K HF ds vs:=by
 induction h with
 | nil=>intro j ds e;simp at e
 | cons h1 h2 h3 r _ ih =>
  intro j ds e;cases j with
  | zero=>cases e;exact⟨_,_,rfl,h1,h2,h3,r⟩
  | succ j=>exact ih e
def sv.set{K:W.Frag}{bs:List Addr}{dss:List (List D)}(h:sv K HF H QM bs dss)(hn:bs.Nodup){us:List V}{es:List D}(r:au K HF es us):∀ {j:Nat}{b:Addr},bs[j]?=some b->sv K HF (upd H b (.lst us)) QM bs (dss.set j es):=by
 induction h with
 | nil=>intro j b e;simp at e
 | @cons b0 bs ds dss vs h1 h2 h3 r0 hr ih =>
  intro j b e;rw[kU] at hn;cases j with
  | zero =>
   cases e;refine .cons aC h2 h3 r (hr.imp (.refl _) λc hc o z1 z2=>⟨?_,z2⟩);rw[av (show c≠b0 fromλz=>hn.1 (z ▸ hc))];exact z1
  | succ j =>
   have hb:b∈bs:=qC e;refine .cons ?_ h2 h3 r0 (ih hn.2 e);rw[av (show b0≠b fromλz=>hn.1 (z ▸ hb))];exact h1
def eK.putN{K:W.Frag}{bs:List Addr}{dss:List (List D)}{us:List V}{es:List D}{ρ:ao}{i j:Nat}{a b:Addr}(S:eK K QL QM HF H ρ σ)(h:ρ[i]?=some (.nest dss))(ha:σ[i]?=some (some (.ref a)))(n:Bp K HF H QM a bs dss)(di:∀ (j:Nat) (ds:List D) (b:Addr),ρ[j]?=some (.own ds)->σ[j]?=some (some (.ref b))->b∉a::bs)(hb:bs[j]?=some b)(r:au K HF es us) :
  eK K QL QM HF (upd H b (.lst us)) (ρ.set i (.nest (dss.set j es))) σ:=by
 have hl:i < ρ.length:=(List.getElem?_eq_some_iff.mp h).1;have WE:b∈a::bs:=zD _ (qC hb);let⟨e3,e5,_⟩:=n.there b WE;have gr:bR QL QM HF (upd H b (.lst us)):=⟨λc o e=>by rw[av (aA e e5)];exact S.gr.hh c o e,S.gr.ff,λc o e=>by rw[av (aA e e3)];exact S.gr.fh c o e,S.gr.nw⟩
 have old:∀ {k:Nat}{t:Slot},(ρ.set i (.nest (dss.set j es)))[k]?=some t->(∀q,t≠.nest q)->ρ[k]?=some t:=λ{k t} g hn=>by
  rw[xJ] at g;by_cases RB:i=k
  ·rw[yM RB,yM hl] at g;cases g;exact absurd rfl (hn _)
  ·rw[yO RB] at g;exact g
 have new:∀ {k:Nat}{q:List (List D)},(ρ.set i (.nest (dss.set j es)))[k]?=some (.nest q)->i=k/\q=dss.set j es:=λ{k q} g=>by
  rw[xJ] at g;by_cases RB:i=k
  ·rw[yM RB,yM hl] at g;cases g;exact⟨RB,rfl⟩
  ·rw[yO RB] at g;exact absurd (S.one i k dss q h g) RB
 refine⟨gr,λk e g=>S.val k e (old g λq z=>by cases z),λk es' g=>?_,λk l xs ys c f1 f2=>S.inj k l xs ys c (old f1 λq z=>by cases z) (old f2 λq z=>by cases z),by rw[yD];exact S.len,S.tb,λk q g=>?_,λk l q q' g1 g2=>(new g1).1.symm.trans (new g2).1,λk ks g=>?_,λk l ks ls g1 g2=>S.RQ k l ks ls (old g1 λq z=>by cases z) (old g2 λq z=>by cases z)⟩
 ·have g:=old g λq z=>by cases z
  let⟨c,vs,f1,f2,f3,f5,f4⟩:=S.own k es' g;refine⟨c,vs,f1,?_,f3,f5,f4⟩;rw[av (show c≠b fromλz=>di k es' c g f1 (z ▸ WE))];exact f2
 ·let⟨rfl,rfl⟩:=new g;have hn:=n.nd;rw[kU] at hn;refine⟨a,bs,ha,⟨?_,n.fz,n.h0,n.ins.set hn.2 r hb,n.nd⟩,λk ds c h1 h2=>di k ds c (old h1 λq z=>by cases z) h2⟩;rw[av (show a≠b fromλz=>hn.1 (z ▸ qC hb))];exact n.hd
 ·let⟨c,Q2,f1,f2,f3,f5,f4⟩:=S.tab k ks (old g λq z=>by cases z);refine⟨c,Q2,f1,?_,f3,f5,f4⟩;let⟨_,_,vs,f6⟩:=n.there b WE;rw[av λz=>by rw[z,f6] at f2;cases f2];exact f2
def Os:Option Slot->Option (List (List D))
 | some (.nest dss)=>some dss
 | _=>none
def ki{ρ:ao}{dss:List (List D)}(h:Os ρ[i]?=some dss):ρ[i]?=some (.nest dss):=by
 cases hd:ρ[i]? with
 | none=>rw[hd] at h;cases h
 | some t =>
  rw[hd] at h;cases t with
  | nest q=>cases h;rfl
  | _=>cases h
def l9:Slot->Bool|.nest _=>false|_=>true
def eK.acd{K:W.Frag}{ρ:ao}{a:Addr}{bs:List Addr}{dss:List (List D)}(S:eK K QL QM HF H ρ σ)(n:Bp K HF H QM a bs dss)(di:∀ (j:Nat) (ds:List D) (b:Addr),ρ[j]?=some (.own ds)->σ[j]?=some (some (.ref b))->b∉a::bs)(nt:(ρ.set i .QK).all l9=true) :
  eK K QL QM HF H (ρ.set i (.nest dss)) (σ.set i (some (.ref a))):=by
 have old:∀ {j:Nat}{t:Slot},(ρ.set i (.nest dss))[j]?=some t->l9 t=true->i≠j/\ρ[j]?=some t:=λ{j t} h hn=>by
  rw[xJ] at h;by_cases QQ:i=j
  ·rw[yM QQ] at h;split at h
   ·cases h;cases hn
   ·cases h
  ·rw[yO QQ] at h;exact⟨QQ,h⟩
 have new:∀ {j:Nat}{q:List (List D)},(ρ.set i (.nest dss))[j]?=some (.nest q)->i=j/\q=dss/\i < ρ.length:=λ{j q} h=>by
  rw[xJ] at h;by_cases QQ:i=j
  ·rw[yM QQ] at h;split at h
   ·rename_i hl;cases h;exact⟨QQ,rfl,QQ ▸ hl⟩
   ·cases h
  ·rw[yO QQ] at h;have:=List.all_eq_true.mp nt _ (qC (i:=j) (by rw[xJ,yO QQ];exact h));cases this
 refine⟨S.gr,λj e h=>?_,λj es h=>?_,λj k xs ys b e1 e2 e3 e4=>?_,by rw[yD,yD];exact S.len,S.tb,λj q h=>?_,λj k q q' g1 g2=>(new g1).1.symm.trans (new g2).1,λj ks h=>by rw[xJ,yO (old h rfl).1];exact S.tab j ks (old h rfl).2,λj k ks ls g1 g2=>S.RQ j k ks ls (old g1 rfl).2 (old g2 rfl).2⟩
 ·let⟨QQ,h⟩:=old h rfl;rw[xJ,yO QQ];exact S.val j e h
 ·let⟨QQ,h⟩:=old h rfl;rw[xJ,yO QQ];exact S.own j es h
 ·let⟨n1,e1⟩:=old e1 rfl;let⟨n2,e2⟩:=old e2 rfl;rw[xJ,yO n1] at e3;rw[xJ,yO n2] at e4;exact S.inj j k xs ys b e1 e2 e3 e4
 ·let⟨rfl,rfl,hl⟩:=new h;rw[xJ,yM rfl,yM (zQ hl S.len)];refine⟨a,bs,rfl,n,λk ds b h1 h2=>?_⟩;let⟨RB,h1⟩:=old h1 rfl;rw[xJ,yO RB] at h2;exact di k ds b h1 h2
def yu(i:Nat)(fp fq:Env->Option (List D)):ao->Option Out:=λρ=>(fp (bx ρ)).bind λds=>(fq (bx ρ)).bind λes=>if (ρ.set i .QK).all l9=true then some (.nx (ρ.set i (.nest [ds,es]))) else none
def Je{X:Cx}(i:Nat)(hN:X.N.Nodup)(hi:X.N[i]?=some y)(hy:Loc X.env.scope y)(h1:DF X e1 fp)(h2:DF X e2 fq)(he:starEach [e1,e2] X.env=(false,eval e1 X.env)::starEach [e2] X.env)(WN:starEach [e2] X.env=(false,eval e2 X.env)::starEach [] X.env)
  (hs:swapsWith (.List [e1,e2] lp) (some (.Name y pos')) pos.line X.env=pure false:=by rfl)
  (hf:X.fn y=true\/X.env.scope.names.lookup y=some .local:=by first|exact .inl rfl|exact .inr rfl|assumption):DS X QL QM (.Assign [.Name y pos'] (.List [e1,e2] lp) pos) (yu i fp fq) :=
 bT (uZ hN hi hy (GF (pos:=lp) (bY h1 (bY h2 eX WN) he)) hs hf) λE σ H ⟨HF,ρ,o,S,hg,q⟩=>by
  let⟨ds,q1,hg⟩:=bs hg;let⟨es,q2,hg⟩:=bs hg;split at hg
  ·rename_i hn;cases hg;refine⟨HF,bx ρ,ds,S.gr.fh,S.Ro,q1,λa1 vs1 H1 QO G1 n1 g1 k1 r1=>?_⟩;have S1:=S.grow G1;refine⟨QO,bx ρ,es,S1.gr.fh,S1.Ro,q2,λa2 vs2 H2 Q3 G2 n2 g2 k2 r2=>⟨by rw[qV];simp,λp hp=>?_⟩⟩;have S2:=S1.grow G2;have k1':H2 a1=some (.lst vs1):=G2.hh _ _ k1;have p1:a1≠p:=λz=>by rw[z,hp] at k1';cases k1'
   have p2:a2≠p:=λz=>by rw[z,hp] at k2;cases k2
   have p3:a1≠a2:=λz=>by rw[z,n2] at k1;cases k1
   have S3:eK X.K QL QM Q3 (upd H2 p (.lst [.ref a1,.ref a2])) ρ σ:=S2.step (bK hp);refine q _ _ Q3 (S3.acd (i:=i) (bs:=[a1,a2]) ⟨aC,S2.gr.fh.free hp,S2.gr.hh.free hp,.cons (by rw[av p1];exact k1') (G2.Rr g1 k1) (S.gr.hh.free n1) (r1.mono G2.ff) (.cons (by rw[av p2];exact k2) g2 (S1.gr.hh.free n2) r2 .nil),by simp[p3,jN p1,jN p2]⟩ (λj ds b z1 z2=>?_) hn) (G1.ff.trans G2.ff);let⟨c,vs,e1,e2,_⟩:=S.own j ds z1;rw[z2] at e1;cases e1;have b1:b≠a1:=λz=>by rw[z,n1] at e2;cases e2
   have X0:=G1.hh _ _ e2;have b2:b≠a2:=λz=>by rw[z,n2] at X0;cases X0
   have YA:=G2.hh _ _ X0;have b3:b≠p:=λz=>by rw[z,hp] at YA;cases YA
   simp[b1,b2,b3]
  ·cases hg
section
variable {X:Cx}
def rY(i:Nat)(fa f:Env->Option D):ao->Option Out:=λρ=>(f (bx ρ)).bind λd=>(fa (aP ρ)).bind λkd=>match kd with
 | .int k=>(Os ρ[i]?).bind λdss=>(Dh dss.length k).bind λj=>(dss[j]?).bind λds=>if ds.length < sizeLine then some (.nx (ρ.set i (.nest (dss.set j (ds++[d]))))) else none
 | _=>none
def HJ(i:Nat)(hN:X.N[i]?=some x)(hv:BB X.env.scope x)(ha:DE X ka fa)(h:DE X e f)(hd:(x == ("__debug__":Str))=false)(Rp:(x == ("__classdict__":Str))=false)(Td:oU ka)
  (Rl:attributeBase (.Subscript (.Name x px) ka p1) "append" X.env (eval (.Subscript (.Name x px) ka p1) X.env)=eval (.Subscript (.Name x px) ka p1) X.env)
  (Ri:((backTo QS (starEach [e] X.env)).all (λx=>!x.1)&&(backToKw QS (keywordEach [] X.env)).all (λx=>x.1.isSome)&&decide ([e].length+([]:List Keyword).length+(if ([]:List Keyword).isEmpty then 0 else 1) < 30))=true)
  (QU:(apos.endLine == QS.line)=true) (hs:starEach [e] X.env=(false,eval e X.env)::starEach [] X.env) :
  DS X QL QM (.Expr (.Call (.Attribute (.Subscript (.Name x px) ka p1) "append" apos) [e] [] QS) pos) (rY i fa f) :=
 bT (mL (qm qP PySem.F.slot_list_append PySem.F.type_list_append nA (J9 Gs (fR hN hv hd Rp) ha Td) (bY h eX hs) Rl Ri QU hs rfl)) λE σ H ⟨HF,ρ,o,S,hg,q⟩=>by
  let⟨d,q1,hg⟩:=bs hg;let⟨kd,q2,hg⟩:=bs hg;obtain⟨k,rfl⟩:∃k,kd=.int k:=by cases kd<;>first|exact⟨_,rfl⟩|cases hg
  let⟨dss,q4,hg⟩:=bs hg;let⟨j,q5,hg⟩:=bs hg;let⟨ds,q6,hg⟩:=bs hg;split at hg
  ·rename_i hz;cases hg;let⟨a,bs,e1,n1,di⟩:=S.SG i dss (ki q4);refine⟨.ref a,e1,H,aP ρ,.int k,.refl _,S.all,q2,λkv H2 Q3 G2 rk=>?_⟩;have S2:=S.step G2.hh;let⟨a',X7,e1',n2,di'⟩:=S2.SG i dss (ki q4);rw[e1] at e1';cases e1';let⟨b,vs,z1,z2,_⟩:=n2.ins.at q6;simp?[Rep] at rk;have hj:pI (X7.map V.ref) k=some (.ref b):=by
    unfold pI;rw[zE,n2.ins.len,q5,zA,zP,z1];rfl
   refine .inl ⟨a,X7.map V.ref,k,.ref b,rfl,rk,gp.of n2.hd,hj,.inl ⟨rfl,vs,gp.of z2⟩,HF,bx ρ,d,S2.gr.fh,S2.Ro,q1,λv H3 Ry G3 r=>?_⟩;have S3:=S2.grow G3;let⟨a3,bs3,e3,n3,di3⟩:=S3.SG i dss (ki q4);rw[e1] at e3;cases e3;obtain rfl:bs3=X7:=oV (by have:=G3.hh _ _ n2.hd;rw[n3.hd] at this;injection this with this;injection this with this);let⟨b3,vs3,w1,w2,w3,w4,w5⟩:=n3.ins.at q6;rw[z1] at w1;cases w1;exact⟨b,vs3,v,rfl,rfl,w2,by rw[w5.length];exact hz,q σ _ Ry (S3.putN (ki q4) e1 n3 di3 z1 (w5.append (au.cons r au.nil))) G3.ff⟩
  ·cases hg
end
end Dl
namespace Rf
open PySem L2 Dl PySem.Spec PyProof.Rows
variable {env:PySem.Env}
def iW{c:Prop}[Decidable c]{f:c->Option α}(h:(if q:c then f q else none)=some z):c:=by
 by_cases q:c
 ·exact q
 ·rw[dif_neg q] at h;cases h
def aG{c:Prop}[Decidable c]{a:Option α}(h:(if c then a else none)=some z):c/\a=some z:=by
 by_cases q:c
 ·rw[yM q] at h;exact⟨q,h⟩
 ·rw[yO q] at h;cases h
def cy{c:Prop}[Decidable c]{a b:Option α}(h:(if c then a else b)=some z):(c/\a=some z)\/(¬ c/\b=some z):=by
 by_cases q:c
 ·rw[yM q] at h;exact .inl ⟨q,h⟩
 ·rw[yO q] at h;exact .inr ⟨q,h⟩
def e9{o:Option α}{a:Option β}{f:α->Option β}(h:o.elim a f=some g):(o=none/\a=some g)\/∃z,o=some z/\f z=some g:=by
 cases o with
 | none=>exact .inl ⟨rfl,h⟩
 | some z=>exact .inr ⟨z,rfl,h⟩
def dN(e:Expr):Option (Str×Pos):=if h:e.ctorIdx=23 then Expr.Name.elim e h λx p=>some (x,p) else none
def eM{e:Expr}(h:dN e=some z):e=.Name z.1 z.2:=Expr.Name.elim (motive_1:=λe=>dN e=some z->e=.Name z.1 z.2) e (iW h) (λa b h=>by cases h;rfl) h
def dA(e:Expr):Option (Expr×Str×Pos):=if h:e.ctorIdx=20 then Expr.Attribute.elim e h λx y p=>some (x,y,p) else none
def FX{e:Expr}(h:dA e=some z):e=.Attribute z.1 z.2.1 z.2.2:=Expr.Attribute.elim (motive_1:=λe=>dA e=some z->e=.Attribute z.1 z.2.1 z.2.2) e (iW h) (λa b d h=>by cases h;rfl) h
def dC(e:Expr):Option (Expr×List Expr×List Keyword×Pos):=if h:e.ctorIdx=16 then Expr.Call.elim e h λx y u p=>some (x,y,u,p) else none
def Bm{e:Expr}(h:dC e=some z):e=.Call z.1 z.2.1 z.2.2.1 z.2.2.2:=Expr.Call.elim (motive_1:=λe=>dC e=some z->e=.Call z.1 z.2.1 z.2.2.1 z.2.2.2) e (iW h) (λa b d f h=>by cases h;rfl) h
def dT(e:Expr):Option (List Expr×Nat×Pos):=if h:e.ctorIdx=25 then Expr.Tuple.elim e h λx y p=>some (x,y,p) else none
def Kz{e:Expr}(h:dT e=some z):e=.Tuple z.1 z.2.1 z.2.2:=Expr.Tuple.elim (motive_1:=λe=>dT e=some z->e=.Tuple z.1 z.2.1 z.2.2) e (iW h) (λa b d h=>by cases h;rfl) h
def l1:List α->Option α
 | [a]=>some a
 | _=>none
def l2:List α->Option (α×α)
 | [a,b]=>some (a,b)
 | _=>none
def dy{l:List α}(h:l1 l=some a):l=[a]:=by
 rcases l with _|⟨b,_|_⟩<;>cases h;rfl
def qh{l:List α}(h:l2 l=some a):l=[a.1,a.2]:=by
 rcases l with _|⟨b,_|⟨d,_|_⟩⟩<;>cases h;rfl
def PY(e:Expr):Option ((Expr×Str×Pos)×Str×Pos):=(dA e).bind λy=>(dN y.1).map λz=>(y,z)
def Mm{e:Expr}(h:PY e=some z):e=.Attribute (.Name z.2.1 z.2.2) z.1.2.1 z.1.2.2:=by
 let⟨y,h1,h⟩:=bs h;let⟨w,h2,rfl⟩:=ag h;rw[FX h1,eM h2]
def Pj(e:Expr):Option ((Expr×List Expr×List Keyword×Pos)×Str×Pos):=(dC e).bind λy=>if y.2.2.1.isEmpty=true then (dN y.1).map λz=>(y,z) else none
def uI{e:Expr}(h:Pj e=some z):e=.Call (.Name z.2.1 z.2.2) z.1.2.1 [] z.1.2.2.2:=by
 let⟨y,h1,h⟩:=bs h;let⟨h3,h⟩:=aG h;let⟨w,h2,rfl⟩:=ag h;rw[Bm h1,eM h2,List.isEmpty_iff.mp h3]
structure Tr where
 e:Expr->Option (Dl.Env->Option D)
 f:Expr->Option (Dl.Env->Option (List D))
 t:Expr->Option (Dl.Env->Option Bool)
structure Sg where
 fn:List (Str×Nat×(List D->Option D))
 int:List (Str×Int)
abbrev FE:=Dl.Env->Option D
def AM(G:Sg)(sc:Scope)(N:List Str)(x:Str):Option FE:=match N.idxOf? x with
 | some i=>if ox N sc i x=true then some (ae i) else none
 | none=>if (GT sc x&&!(x == ("__debug__":Str)))=true then (G.int.lookup x).map λn=>fC (.int n) else none
def Ca:Const->Option FE
 | .int i=>some (fC (.int i))
 | .bool b=>some (fC (.bool b))
 | .none=>some (fC .none)
 | .str x=>some (fC (.str x))
 | _=>none
def NN(T:Tr)(op:UnaryOp)(a:Expr):Option FE:=match op with
 | .USub=>(T.e a).map (f1 Et)
 | _=>none
def Pp:Operator->Option (D->D->Option D)
 | .Add=>some aB
 | .Sub=>some Dl.ig
 | .Mult=>some cA
 | .FloorDiv=>some lD
 | .Mod=>some jo
 | _=>none
def ND(e:Expr):Bool:=e.ctorIdx == 24||e.ctorIdx == 8||(((dC e).bind λy=>dN y.1).any λz=>z.1 == ("sorted":Str)||z.1 == ("list":Str))
def JU(T:Tr)(a:Expr)(op:Operator)(b:Expr):Option FE:=(Pp op).bind λg=>(T.e a).bind λx=>(T.e b).map λy=>f2 g x y
def uy(T:Tr):List Expr->Option FE
 | []=>none
 | [a]=>T.e a
 | a::b::r=>(T.e a).bind λx=>(uy T (b::r)).map λy=>jg x y
def NG:CmpOp->Option (D->D->Option D)
 | .Lt=>some Hh
 | .LtE=>some CG
 | .Gt=>some Ck
 | .GtE=>none
 | .Eq=>some bE
 | .NotEq=>some dz
 | .In=>none
 | .NotIn=>some qj
 | .Is=>some p9
 | .IsNot=>some o7
def OM:CmpOp->Option (D->D->Option D)
 | .Lt=>some Hh
 | .LtE=>some CG
 | _=>none
def Nz(e:Expr):Option (Expr×Expr×Pos):=if h:e.ctorIdx=21 then Expr.Subscript.elim e h λx y p=>some (x,y,p) else none
def G8{e:Expr}(h:Nz e=some z):e=.Subscript z.1 z.2.1 z.2.2:=Expr.Subscript.elim (motive_1:=λe=>Nz e=some z->e=.Subscript z.1 z.2.1 z.2.2) e (iW h) (λa b d h=>by cases h;rfl) h
def Gg(op:CmpOp)(a:Expr):Bool:=op.ctorIdx == 3&&(((Nz a).bind λy=>dN y.1).any λz=>z.1 == ("_law_goes":Str))
def F1(T:Tr)(a:Expr)(ops:List CmpOp)(cs:List Expr):Option FE:=(l1 ops).elim
 ((l2 ops).bind λo=>(l2 cs).bind λb=>if lastMarks [o.1,o.2] [b.1,b.2]=false then (OM o.1).bind λg=>(OM o.2).bind λg'=>(T.e a).bind λx=>(T.e b.1).bind λy=>(T.e b.2).map λz=>jx g g' x y z else none) λop =>
 (l1 cs).bind λb=>if behindInMarks op b=false then (if Gg op a=true then some Gx else NG op).bind λg=>(T.e a).bind λx=>(T.e b).map λy=>f2 g x y else none
def zt(T:Tr):List Expr->Option (Dl.Env->Option (List D))
 | []=>some ah
 | e::es=>if isStar e=false then (T.e e).bind λx=>(zt T es).map λr=>aa x r else none
def PB(T:Tr):Option Expr->Option (Dl.Env->Option (Option Int))
 | none=>some gX
 | some e=>(T.e e).map sg
def CD(e:Expr):Bool:=e.ctorIdx == 26||e.ctorIdx == 25||e.ctorIdx == 22
def OJ(e:Expr):Option (Option Expr×Option Expr×Option Expr×Pos):=if h:e.ctorIdx=26 then Expr.Slice.elim e h λx y u p=>some (x,y,u,p) else none
def Lr{e:Expr}(h:OJ e=some z):e=.Slice z.1 z.2.1 z.2.2.1 z.2.2.2:=Expr.Slice.elim (motive_1:=λe=>OJ e=some z->e=.Slice z.1 z.2.1 z.2.2.1 z.2.2.2) e (iW h) (λa b d f h=>by cases h;rfl) h
def Ky(T:Tr)(a b:Expr):Option FE:=(OJ b).elim (if CD b=false then (T.e a).bind λx=>(T.e b).map λy=>f2 az x y else none) λz=>if z.2.2.1.isNone=true then (T.e a).bind λx=>(PB T z.1).bind λl=>(PB T z.2.1).map λh=>hC du x l h else none
def GW:List D->Option D:=λds=>(oneOf ds).bind λd=>match d with
 | .list es=>(boolsOf es).map λbs=>.bool (bs.any id)
 | _=>none
def sP(e:Expr):Option Expr:=(Pj e).bind λz=>if z.2.1="set" then l1 z.1.2.1 else none
def Nn(x:Str):Option String:=if x="int" then some "int" else if x="bool" then some "bool" else if x="tuple" then some "tuple" else if x="list" then some "list" else none
def Fu(G:Sg)(sc:Scope)(T:Tr)(whole:Expr)(x:Str)(args:List Expr):Option FE :=
 if (GT sc x&&args.all λe=>!isStar e)=true then
  (G.fn.lookup x).elim (
   if x="len" then (l1 args).bind λe=>(sP e).elim ((zt T args).map λfs=>bh bA fs) λe'=>if (GT sc "set"&&!isStar e')=true then (T.e e').map λy=>f1 (if (dN e').any (λz=>z.1 == ("_law_rows":Str))=true then fX else kl) y else none
   else if x="isinstance" then (l2 args).bind λa=>(dN a.2).bind λy=>if GT sc y.1=true then (Nn y.1).bind λty=>(T.e a.1).map λz=>Kq ty z else none
   else if x="tuple" then (if args.length=1 then (zt T args).map λfs=>bh dX fs else none)
   else if x="all" then (if args.length=1 then (zt T args).map λfs=>bh mv fs else none)
   else if x="any" then (if args.length=1 then (zt T args).map λfs=>bh GW fs else none)
   else if x="abs" then (if args.length=1 then (zt T args).map λfs=>bh EC fs else none)
   else if x="sum" then (if args.length=1 then (zt T args).map λfs=>bh eV fs else none)
   else if x="min" then (if args.isEmpty=true then none else (zt T args).map λfs=>bh Mj fs)
   else if (x == ("list":Str)||x == ("sorted":Str))=true then (T.f whole).map cZ
   else none) λz=>if (x == ("__debug__":Str))=true then none else (zt T args).map λfs=>ai z.1 z.2 fs
 else none
def Cq(e:Expr):Bool:=e.ctorIdx == 16
def FZ(T:Tr)(o:Expr)(m:Str)(apos:Pos)(args:List Expr)(QS:Pos):Option FE :=
 if (m == ("index":Str)&&apos.endLine == QS.line&&!Cq o)=true then (l1 args).bind λe=>if isStar e=false then (T.e o).bind λx=>(T.e e).map λy=>f2 (if (dN e).any (λz=>z.1 == ("_law_there":Str))=true then D2 else oF) x y else none
 else none
def Oo(G:Sg)(sc:Scope)(T:Tr)(whole f:Expr)(args:List Expr)(ks:List Keyword)(p:Pos):Option FE :=
 (dN f).elim (if ks.isEmpty=true then (dA f).bind λy=>FZ T y.1 y.2.1 y.2.2 args p else none) λz=>if ks.isEmpty=true then Fu G sc T whole z.1 args else (T.f whole).map cZ
def Ka(G:Sg)(sc:Scope)(N:List Str)(T:Tr)(whole:Expr):Option FE:=match whole with
 | .Name x _=>AM G sc N x
 | .Constant c _ _=>Ca c
 | .UnaryOp op a _=>NN T op a
 | .BinOp a op b _=>JU T a op b
 | .BoolOp .And es _=>uy T es
 | .Compare a ops cs _=>F1 T a ops cs
 | .IfExp c a b _=>(T.t c).bind λz=>(T.e a).bind λx=>(T.e b).map λy=>HA z x y
 | .Tuple es _ _=>(zt T es).map aL
 | .Subscript a b _=>Ky T a b
 | .List ..=>(T.f whole).map cZ
 | .ListComp ..=>(T.f whole).map cZ
 | .Call f args ks p=>Oo G sc T whole f args ks p
 | _=>none
def Ou(T:Tr)(op:BoolOp):List Expr->Option (Dl.Env->Option Bool)
 | []=>none
 | [a]=>T.t a
 | a::b::r=>(T.t a).bind λx=>(Ou T op (b::r)).map λy=>match op with|.And=>dQ x y|.Or=>lA x y
def stepT(T:Tr)(whole:Expr):Option (Dl.Env->Option Bool):=match whole with
 | .Compare a ops cs _=>(F1 T a ops cs).map fB
 | .UnaryOp .Not a _=>(T.t a).map br
 | .BoolOp op es _=>Ou T op es
 | .Name ..=>(T.e whole).map fB
 | .Call ..=>(T.e whole).map fB
 | .Subscript ..=>(T.e whole).map fB
 | _=>none
def AS(e:Expr):Bool:=e.ctorIdx == 25
def OX(sc:Scope)(T:Tr)(tg iter:Expr):Option (Dl.Env->Option (List D)):=if iter.ctorIdx=7 then none else (Pj iter).elim ((T.e iter).map bG) λz =>
 if z.2.1="range" then (l1 z.1.2.1).bind λe=>if (GT sc "range"&&!isStar e)=true then (zt T [e]).map bw else none
 else if z.2.1="enumerate" then (l1 z.1.2.1).bind λe=>if (GT sc "enumerate"&&!isStar e&&AS tg)=true then (zt T [e]).map bj else none
 else if z.2.1="zip" then (l2 z.1.2.1).bind λe=>if (GT sc "zip"&&!isStar e.1&&!isStar e.2&&AS tg)=true then (zt T [e.1,e.2]).map dP else none
 else (T.e iter).map bG
def LY:List Expr->Option (List Str)
 | []=>some []
 | e::es=>(dN e).bind λz=>(LY es).map λr=>z.1::r
def PX(e:Expr):Option (List Str):=(dN e).elim ((dT e).bind λz=>if z.1.length=2\/z.1.length=3 then LY z.1 else none) λz=>some [z.1]
def xv(N:List Str)(scope:Scope):List Nat:=(List.range N.length).filter λj=>match N[j]? with|some x=>decide (scope.names.lookup x=some .free)|none=>false
def Nd(B:Tr)(ifs:List Expr):Option (Dl.Env->Option Bool):=if ifs.isEmpty=true then some λ_=>some true else (l1 ifs).bind B.t
def Mv(N:List Str)(scope:Scope)(xs:List Str):List Str:=xs++(xv N scope).filterMap λj=>N[j]?
def GK(sc:Scope)(N:List Str)(T:Tr)(VD:Scope->List Str->Tr)(elt:Expr)(gens:List Comprehension)(scope:Scope):Option (Dl.Env->Option (List D)):=(l1 gens).bind λc =>
  if c.is_async=0 then (PX c.target).bind λxs =>
   if (nE sc scope N (Mv N scope xs) xs.length (xv N scope)&&(List.range xs.length).all λi=>tO (Mv N scope xs) scope i (xs.getD i ""))=true then
    (OX sc T c.target c.iter).bind λfi=>(Nd (VD scope (Mv N scope xs)) c.ifs).bind λtt =>
     ((VD scope (Mv N scope xs)).e elt).map λte=>aw xs.length (xv N scope) fi (if xs.length=1 then fG 0 else if xs.length=2 then ip 0 1 else Pv 0 1 2) tt te
   else none
  else none
def Km(a:Arguments):Option Str:=(l1 a.args).bind λx=>if ((a.posonlyargs.isEmpty&&a.vararg.isNone&&a.kwonlyargs.isEmpty&&a.kw_defaults.isEmpty&&a.kwarg.isNone&&a.defaults.isEmpty&&x.annotation.isNone)&&(x.arg == ("number":Str)||x.arg == ("plan":Str)))=true then some x.arg else none
def O4(e:Expr):Option (Arguments×Expr×Scope×Pos):=if h:e.ctorIdx=4 then Expr.Lambda.elim e h λx y u p=>some (x,y,u,p) else none
def Mq{e:Expr}(h:O4 e=some z):e=.Lambda z.1 z.2.1 z.2.2.1 z.2.2.2:=Expr.Lambda.elim (motive_1:=λe=>O4 e=some z->e=.Lambda z.1 z.2.1 z.2.2.1 z.2.2.2) e (iW h) (λa b d f h=>by cases h;rfl) h
def Bu(lam:Option Str)(sc:Scope)(N:List Str)(T:Tr)(T4:Scope->List Str->Tr)(l:Expr)(w:Arguments×Expr×Scope×Pos):Option (Dl.Env->Option (List D)) :=
 if (lam.isSome&&GT sc "sorted"&&!isStar l)=true then
  (Km w.1).bind λp =>
   if (nE sc w.2.2.1 N (Mv N w.2.2.1 [p]) 1 (xv N w.2.2.1)&&wa w.2.2.1 (Mv N w.2.2.1 [p]) p)=true then
    (T.e l).bind λfl=>((T4 w.2.2.1 (Mv N w.2.2.1 [p])).e w.2.1).map λte=>nF (xv N w.2.2.1) fl te
   else none
 else none
def Nr(lam:Option Str)(sc:Scope)(N:List Str)(T:Tr)(T4:Scope->List Str->Tr)(f:Expr)(args:List Expr)(ks:List Keyword):Option (Dl.Env->Option (List D)):=(dN f).bind λz=>(l1 args).bind λl =>
 if z.1="sorted" then (if ks.isEmpty=true then (if (GT sc "sorted"&&!isStar l)=true then (zt T [l]).map λfs=>rE gz fs else none)
 else (l1 ks).bind λk=>(O4 k.value).bind λw=>if k.arg=some "key" then Bu lam sc N T T4 l w else none) else none
def Ki(lam:Option Str)(sc:Scope)(N:List Str)(T:Tr)(VD T4:Scope->List Str->Tr)(whole:Expr):Option (Dl.Env->Option (List D)):=match whole with
 | .List es _=>(zt T es).map gu
 | .ListComp elt gens scope _=>GK sc N T VD elt gens scope
 | .Call f args ks _=>Nr lam sc N T T4 f args ks
 | _=>none
def tr(G:Sg):Nat->Option Str->Scope->List Str->Tr
 | 0,_,_,_=>⟨λ_=>none,λ_=>none,λ_=>none⟩
 | n+1,lam,sc,N=>⟨Ka G sc N (tr G n lam sc N),Ki lam sc N (tr G n lam sc N) (tr G n none) (tr G n none),stepT (tr G n lam sc N)⟩
structure Of(G:Sg)(X:Cx)(j:Nat):Prop where
 fn:∀x n m,G.fn.lookup x=some (n,m)->eU X.prog X.w X.K X.mg X.base j x n m
 int:∀x i,G.int.lookup x=some i->∃t,X.mg x=some (.int i t)
 bn:Bn X
structure tP(X:Cx)(tg iter:Expr)(ifs:List Expr)(elt:Expr)(scope:Scope)(f:Dl.Env->Option (List D)):Prop where
 ex:∃ (N':List Str) (t:Nat) (cs:List Nat) (fi:Dl.Env->Option (List D)) (tgt:Dl.Env->D->Option Dl.Env) (tt:Dl.Env->Option Bool) (te:FE),f=aw t cs fi tgt tt te/\iC X scope N' (js t cs)/\DI X tg iter fi/\(∀x,foldedSetIterable iter X.env x=pure x) /\
  ∀fp s H,DG (aR X scope N' fp s H) tg tgt/\NP (aR X scope N' fp s H) ifs tt/\DE (aR X scope N' fp s H) elt te
structure cO(X:Cx)(T:Tr):Prop where
 c:∀elt gens scope p f,T.f (.ListComp elt gens scope p)=some f->∃tg iter ifs,gens=[⟨tg,iter,ifs,0⟩]/\tP X tg iter ifs elt scope f
 e:∀e f,T.e e=some f->DE X e f
 f:∀e f,T.f e=some f->DF X e f
 t:∀e f,T.t e=some f->DT X e f
section
variable {G:Sg}{X:Cx}{N:List Str}{sc:Scope}{k j:Nat}{T:Tr}{pos p:Pos}
def DY(C:Bk X N sc k)(g:Of G X j)(h:AM G sc N x=some f):DE X (.Name x pos) f:=by
 unfold AM at h;split at h
 ·split at h
  ·cases h;exact C.v _ ‹_›
  ·cases h
 ·split at h
  ·rename_i hg;let⟨n,hn,rfl⟩:=ag h;let⟨t,ht⟩:=g.int x n hn;simp?[zG,yQ] at hg;exact Ju (C.gl hg.1) ht hg.2
  ·cases h
def AL(h:Ca c=some f):DE X (.Constant c i pos) f:=by
 cases c<;>cases h<;>first|exact K6|exact NL|exact KP|exact Mz
def Hs(C:Bk X N sc k)(O:cO X T)(h:NN T op a=some f):DE X (.UnaryOp op a pos) f:=by
 cases op<;>try cases h
 ·let⟨x,hx,rfl⟩:=ag h;exact C.neg (O.e _ _ hx)
def F7(C:Bk X N sc k)(O:cO X T)(h:JU T a op b=some f):DE X (.BinOp a op b pos) f:=by
 let⟨g,hg,h⟩:=bs h;let⟨x,hx,h⟩:=bs h;let⟨y,hy,rfl⟩:=ag h;cases op<;>cases hg
 ·exact C.add (O.e _ _ hx) (O.e _ _ hy)
 ·exact C.sub (O.e _ _ hx) (O.e _ _ hy)
 ·exact C.mul (O.e _ _ hx) (O.e _ _ hy)
 ·exact C.mod (O.e _ _ hx) (O.e _ _ hy)
 ·exact C.div (O.e _ _ hx) (O.e _ _ hy)
def sx(O:cO X T):∀ {es:List Expr}{f:FE},uy T es=some f->DE X (.BoolOp .And es pos) f
 | [],f,h=>by cases h
 | [a],f,h=>KM (O.e _ _ h)
 | a::b::r,f,h=>by
  unfold uy at h;let⟨x,hx,h⟩:=bs h;let⟨y,hy,rfl⟩:=ag h;exact Mh (O.e _ _ hx) (sx O hy)
def KZ(C:Bk X N sc k)(hg:NG op=some g)(hm:behindInMarks op b=false)(ha:DE X a x)(hb:DE X b y):DE X (.Compare a [op] [b] pos) (f2 g x y)/\DT X (.Compare a [op] [b] pos) (fB (f2 g x y)):=by
 cases op<;>cases hg
 ·exact⟨C.eq ha hb,C.teq ha hb⟩
 ·exact⟨C.ne ha hb,C.tne ha hb⟩
 ·exact⟨C.lt ha hb,C.tlt ha hb⟩
 ·exact⟨C.le ha hb,C.tle ha hb⟩
 ·exact⟨C.gt ha hb,C.tgt ha hb⟩
 ·exact⟨C.is0 ha hb,C.abO ha hb⟩
 ·exact⟨C.abN ha hb,C.Yi ha hb⟩
 ·exact⟨C.Yy ha hb hm,C.acb ha hb hm⟩
def KC(h:OM op=some g):∃r,gK X (compareOp op) r/\fE X.K r g:=by
 cases op<;>cases h
 ·exact⟨_,Gq,j1⟩
 ·exact⟨_,Ei,j1⟩
def LH(C:Bk X N sc k)(h:Gg op a=true)(hm:behindInMarks op b=false)(ha:DE X a x)(hb:DE X b y):DE X (.Compare a [op] [b] pos) (f2 Gx x y)/\DT X (.Compare a [op] [b] pos) (fB (f2 Gx x y)):=by
 obtain rfl:op=.LtE:=by
  unfold Gg at h;rw[zG] at h;cases op<;>first|rfl|exact absurd h.1 (by decide)
 exact⟨iN (Fc C.room.Ug) j8 ha hb hm,iy (Fc C.room.Ug) j8 ha hb hm⟩
def xn(C:Bk X N sc k)(O:cO X T){cs:List Expr}(h:F1 T a ops cs=some f):DE X (.Compare a ops cs pos) f/\DT X (.Compare a ops cs pos) (fB f):=by
 rcases e9 h with ⟨_,h⟩|⟨op,ho,h⟩
 ·let⟨o,ho,h⟩:=bs h;let⟨b,hb,h⟩:=bs h;obtain rfl:=qh ho;obtain rfl:=qh hb;let⟨hm,h⟩:=aG h;let⟨g,hg,h⟩:=bs h;let⟨g',Yg,h⟩:=bs h;let⟨x,hx,h⟩:=bs h;let⟨y,hy,h⟩:=bs h;let⟨z,hz,rfl⟩:=ag h;let⟨r,r1,r2⟩:=KC (X:=X) hg;let⟨r',Xq,r2'⟩:=KC (X:=X) Yg;exact⟨GM r1 r2 Xq r2' (O.e _ _ hx) (O.e _ _ hy) (O.e _ _ hz) hm,EW r1 r2 Xq r2' (O.e _ _ hx) (O.e _ _ hy) (O.e _ _ hz) hm⟩
 ·let⟨b,hb,h⟩:=bs h;obtain rfl:=dy ho;obtain rfl:=dy hb;let⟨hm,h⟩:=aG h;let⟨g,hg,h⟩:=bs h;let⟨x,hx,h⟩:=bs h;let⟨y,hy,rfl⟩:=ag h;rcases cy hg with ⟨hq,hg⟩|⟨_,hg⟩
  ·cases hg;exact LH C hq hm (O.e _ _ hx) (O.e _ _ hy)
  ·exact KZ C hg hm (O.e _ _ hx) (O.e _ _ hy)
def dk(O:cO X T):∀ {es:List Expr}{fs:Dl.Env->Option (List D)},zt T es=some fs->DA X es fs
 | [],fs,h=>by cases h;exact AC
 | e::es,fs,h=>by
  let⟨hs,h⟩:=aG h;let⟨x,hx,h⟩:=bs h;let⟨r,hr,rfl⟩:=ag h;exact OH hs (O.e _ _ hx) (dk O hr)
def G7(O:cO X T)(h:PB T o=some f):DO X o f:=by
 cases o with
 | none=>cases h;exact IJ
 | some e=>let⟨x,hx,rfl⟩:=ag h;exact Hx (O.e _ _ hx)
def qd(h:CD b=false):oU b:=by
 cases b<;>first|(intro _ _;rfl)|cases h
def EA(C:Bk X N sc k)(O:cO X T)(h:Ky T a b=some f):DE X (.Subscript a b pos) f:=by
 rcases e9 h with ⟨_,h⟩|⟨z,hz,h⟩
 ·let⟨hc,h⟩:=aG h;let⟨x,hx,h⟩:=bs h;let⟨y,hy,rfl⟩:=ag h;exact Nm (O.e _ _ hx) (O.e _ _ hy) (qd hc)
 ·let⟨hn,h⟩:=aG h;let⟨x,hx,h⟩:=bs h;let⟨l,hl,h⟩:=bs h;let⟨u,hu,rfl⟩:=ag h;rw[Lr hz,Option.isNone_iff_eq_none.mp hn];exact C.cut (O.e _ _ hx) (G7 O hl) (G7 O hu)
def fW{env:PySem.Env}:∀ {es:List Expr},(es.all λe=>!isStar e)=true->(backTo pos (starEach es env)).any (·.1)=false
 | [],_=>rfl
 | e::es,h=>by
  rw[xU,zG,yQ] at h;rw[bg h.1];show (false||(backTo pos (starEach es env)).any (·.1))=false;rw[fW h.2];rfl
def FP(h:sP e=some e'):∃p q,e=.Call (.Name "set" p) [e'] [] q:=by
 let⟨z,hz,h⟩:=bs h;let⟨hx,h⟩:=aG h;exact⟨_,_,by rw[uI hz,hx,dy h]⟩
def Ij(h:Nn y=some ty):y∈cU/\bootBuiltins y=some (.type ty)/\y≠"__name__"/\(y == ("__debug__":Str))=false:=by
 rcases cy h with ⟨rfl,h⟩|⟨_,h⟩
 ·cases h;exact⟨by decide +kernel,by decide +kernel,by decide,by decide⟩
 ·rcases cy h with ⟨rfl,h⟩|⟨_,h⟩
  ·cases h;exact⟨by decide +kernel,by decide +kernel,by decide,by decide⟩
  ·rcases cy h with ⟨rfl,h⟩|⟨_,h⟩
   ·cases h;exact⟨by decide +kernel,by decide +kernel,by decide,by decide⟩
   ·let⟨rfl,h⟩:=aG h;cases h;exact⟨by decide +kernel,by decide +kernel,by decide,by decide⟩
def LI:bootBuiltins "any"=some (.builtin "any"):=by decide +kernel
def Lo:bootBuiltins "sum"=some (.builtin "sum"):=by decide +kernel
def LV:bootBuiltins "abs"=some (.builtin "abs"):=by decide +kernel
def Le:bootBuiltins "min"=some (.builtin "min"):=by decide +kernel
def xj(h:l.length=1):∃a,l=[a]:=by
 match l,h with
 | [a],_=>exact⟨a,rfl⟩
def Bk.u3(C:Bk X N sc k):X.A.in1.in1.in1.units < cLine:=by
 have:=C.u66;show X.A.units+1+1+1 < cLine;lia
def CS(C:Bk X N sc k)(g:Of G X j)(S0:j<=k)(O:cO X T)(h:Fu G sc T (.Call (.Name x p) args [] pos) x args=some f):DE X (.Call (.Name x p) args [] pos) f:=by
 let⟨hg,h⟩:=aG h;rw[zG] at hg;let⟨hg,hs⟩:=hg;have UD:∀ {e:Expr}{es:List Expr},args=e::es->starEach (e::es) X.env=(false,eval e X.env)::starEach es X.env:=λ{e es} q=>by
  subst q;rw[xU,zG,yQ] at hs;exact bg hs.1
 have UM:∀ {e:Expr}{es:List Expr},args=e::es->(backTo pos (starEach es X.env)).any (·.1)=false:=λ{e es} q=>by
  subst q;rw[xU,zG] at hs;exact fW hs.2
 rcases e9 h with ⟨_,h⟩|⟨z,Ub,h⟩
 ·rcases cy h with ⟨hx,h⟩|⟨_,h⟩
  ·let⟨e,he,h⟩:=bs h;have he:=dy he;rcases e9 h with ⟨_,h⟩|⟨e',WN,h⟩
   ·let⟨fs,SH,rfl⟩:=ag h;subst hx he;exact L6 (C.blt g.bn hg (by decide +kernel) Ba) (dk O SH) (UD rfl)
   ·let⟨YB,h⟩:=aG h;rw[zG,yQ] at YB;let⟨y,hy,rfl⟩:=ag h;let⟨p1,p2,rfl⟩:=FP WN;subst hx he;split
    ·exact Ac C.calm (Bk.u3 C) (C.blt g.bn hg (by decide +kernel) Ba) (C.blt g.bn YB.1 (by decide +kernel) E9) (O.e _ _ hy) (bg YB.2)
    ·exact DQ C.calm (C.blt g.bn hg (by decide +kernel) Ba) (C.blt g.bn YB.1 (by decide +kernel) E9) (O.e _ _ hy) (bg YB.2)
  rcases cy h with ⟨hx,h⟩|⟨_,h⟩
  ·let⟨a,ha,h⟩:=bs h;let⟨y,hy,h⟩:=bs h;have e2:=qh ha;rw[eM hy] at e2;let⟨hgy,h⟩:=aG h;let⟨ty,hty,h⟩:=bs h;let⟨z,hz,rfl⟩:=ag h;let⟨t1,t2,t3,t4⟩:=Ij hty;subst hx e2;exact Na (C.blt g.bn hg (by decide +kernel) rC) (C.blt g.bn hgy t1 t2) (O.e _ _ hz) t3 t4 (UD rfl)
  rcases cy h with ⟨hx,h⟩|⟨_,h⟩
  ·let⟨hl,h⟩:=aG h;let⟨fs,SH,rfl⟩:=ag h;let⟨e,he⟩:=xj hl;subst hx he;exact Fe (C.blt g.bn hg (by decide +kernel) Hb) (dk O SH) (UD rfl)
  rcases cy h with ⟨hx,h⟩|⟨_,h⟩
  ·let⟨hl,h⟩:=aG h;let⟨fs,SH,rfl⟩:=ag h;let⟨e,he⟩:=xj hl;subst hx he;exact Mb C.calm (C.blt g.bn hg (by decide +kernel) Mf) (dk O SH) (UD rfl)
  rcases cy h with ⟨hx,h⟩|⟨_,h⟩
  ·let⟨hl,h⟩:=aG h;let⟨fs,SH,rfl⟩:=ag h;let⟨e,he⟩:=xj hl;subst hx he;exact MJ C.calm (C.blt g.bn hg (by decide +kernel) LI) (UD rfl) (dk O SH)
  rcases cy h with ⟨hx,h⟩|⟨_,h⟩
  ·let⟨hl,h⟩:=aG h;let⟨fs,SH,rfl⟩:=ag h;let⟨e,he⟩:=xj hl;subst hx he;exact KL (C.blt g.bn hg (by decide +kernel) LV) (dk O SH) (UD rfl)
  rcases cy h with ⟨hx,h⟩|⟨_,h⟩
  ·let⟨hl,h⟩:=aG h;let⟨fs,SH,rfl⟩:=ag h;let⟨e,he⟩:=xj hl;subst hx he;exact LJ C.calm (C.blt g.bn hg (by decide +kernel) Lo) (UD rfl) (dk O SH)
  rcases cy h with ⟨hx,h⟩|⟨_,h⟩
  ·rcases cy h with ⟨_,h⟩|⟨hl,h⟩
   ·cases h
   let⟨fs,SH,rfl⟩:=ag h;subst hx;cases args with
   | nil=>exact absurd rfl hl
   | cons e es=>exact L0 C.calm (C.blt g.bn hg (by decide +kernel) Le) (UD rfl) (UM rfl) (dk O SH)
  let⟨_,h⟩:=aG h;let⟨y,hy,rfl⟩:=ag h;exact DF.de (O.f _ _ hy)
 ·rcases cy h with ⟨_,h⟩|⟨Q7,h⟩
  ·cases h
  let⟨fs,SH,rfl⟩:=ag h;have hd:(x == ("__debug__":Str))=false:=by simpa using Q7
  cases args with
  | nil =>
   cases SH;exact GU (g.fn x z.1 z.2 Ub) (C.room.mono S0) (C.gl hg) hd
  | cons e es =>
   exact Js (g.fn x z.1 z.2 Ub) (C.room.mono S0) (C.gl hg) (dk O SH) hd (UD rfl) (UM rfl)
end
section
variable {G:Sg}{X:Cx}{N:List Str}{sc:Scope}{k j:Nat}{T:Tr}{pos p:Pos}
def Mu(h:isStar e=false):((backTo QS (starEach [e] env)).all (λx=>!x.1)&&(backToKw QS (keywordEach [] env)).all (λx=>x.1.isSome)&&decide ([e].length+([]:List Keyword).length+(if ([]:List Keyword).isEmpty then 0 else 1) < 30))=true:=by
 rw[bg h];rfl
def iJ(h:Cq o=false):attributeBase o a env w=w:=by
 cases o<;>first|rfl|cases h
def D5(C:Bk X N sc k)(O:cO X T)(h:FZ T o m apos args QS=some f):DE X (.Call (.Attribute o m apos) args [] QS) f:=by
 let⟨hm,h⟩:=aG h;rw[zG,zG,yQ] at hm;let⟨⟨hm1,hm⟩,R1⟩:=hm;let⟨e,he,h⟩:=bs h;let⟨hs,h⟩:=aG h;let⟨x,hx,h⟩:=bs h;let⟨y,hy,rfl⟩:=ag h;rw[dy he,eq_of_beq hm1];split
 ·exact CY C.u66 (iJ R1) (Mu hs) hm (bg hs) (O.e _ _ hx) (O.e _ _ hy)
 ·exact CK (iJ R1) (Mu hs) hm (bg hs) (O.e _ _ hx) (O.e _ _ hy)
def HZ(C:Bk X N sc k)(g:Of G X j)(S0:j<=k)(O:cO X T){a:Expr}{args:List Expr}{ks:List Keyword}(h:Oo G sc T (.Call a args ks p) a args ks p=some f):DE X (.Call a args ks p) f:=by
 rcases e9 h with ⟨_,h⟩|⟨z,hz,h⟩
 ·let⟨hk,h⟩:=aG h;obtain rfl:=List.isEmpty_iff.mp hk;let⟨y,hy,h⟩:=bs h;obtain rfl:=FX hy;exact D5 C O h
 ·obtain rfl:=eM hz;rcases cy h with ⟨hk,h⟩|⟨_,h⟩
  ·obtain rfl:=List.isEmpty_iff.mp hk;exact CS C g S0 O h
  ·let⟨x,hx,rfl⟩:=ag h;exact DF.de (O.f _ _ hx)
def Fm(C:Bk X N sc k)(g:Of G X j)(S0:j<=k)(O:cO X T)(h:Ka G sc N T e=some f):DE X e f:=by
 cases e with
 | Name x p=>exact DY C g h
 | Constant c a b=>exact AL h
 | UnaryOp op a p=>exact Hs C O h
 | BinOp a op b p=>exact F7 C O h
 | BoolOp op es p =>
  cases op with
  | And=>exact sx O h
  | Or=>cases h
 | Compare a ops cs p=>exact (xn C O h).1
 | IfExp c a b p =>
  let⟨z,hz,h⟩:=bs h;let⟨x,hx,h⟩:=bs h;let⟨y,hy,rfl⟩:=ag h;exact Om (O.t _ _ hz) (O.e _ _ hx) (O.e _ _ hy)
 | Tuple es a p=>let⟨x,hx,rfl⟩:=ag h;exact Lf (dk O hx)
 | Subscript a b p=>exact EA C O h
 | List es p=>let⟨x,hx,rfl⟩:=ag h;exact DF.de (O.f _ _ hx)
 | ListComp a b c p=>let⟨x,hx,rfl⟩:=ag h;exact DF.de (O.f _ _ hx)
 | Call a args ks p=>exact HZ C g S0 O h
 | _=>cases h
def Gw(O:cO X T):∀ {es:List Expr}{f:Dl.Env->Option Bool},Ou T op es=some f->DW X (.BoolOp op es pos) f
 | [],f,h=>by cases h
 | [a],f,h=>by
  cases op with
  | And=>exact Ht (O.t _ _ h)
  | Or=>exact KW (O.t _ _ h)
 | a::b::r,f,h=>by
  unfold Ou at h;let⟨x,hx,h⟩:=bs h;let⟨y,hy,rfl⟩:=ag h;have ih:=Gw O hy;cases op with
  | And=>exact Lw (O.t _ _ hx) ih
  | Or=>exact Nu (O.t _ _ hx) ih
def Gf(C:Bk X N sc k)(O:cO X T)(h:stepT T e=some f):DT X e f:=by
 cases e with
 | Compare a ops cs p=>let⟨x,hx,rfl⟩:=ag h;exact (xn C O hx).2
 | UnaryOp op a p =>
  cases op with
  | Not=>let⟨x,hx,rfl⟩:=ag h;exact K7 (O.t _ _ hx)
  | _=>cases h
 | BoolOp op es p=>exact DW.dt (Gw O h)
 | Name x p=>let⟨x,hx,rfl⟩:=ag h;exact Bl (O.e _ _ hx) λ_=>rfl
 | Call a b d p=>let⟨x,hx,rfl⟩:=ag h;exact Bl (O.e _ _ hx) λ_=>rfl
 | Subscript a b p=>let⟨x,hx,rfl⟩:=ag h;exact Bl (O.e _ _ hx) λ_=>rfl
 | _=>cases h
def CF{e:Expr}(h:AS e=true):∃a b d,e=.Tuple a b d:=Expr.Tuple.elim (motive_1:=λe=>∃a b d,e=.Tuple a b d) e (eq_of_beq h) λa b d=>⟨a,b,d,rfl⟩
def MQ(h:¬ e.ctorIdx=7):∀x,foldedSetIterable e env x=pure x:=by
 cases e<;>first|(intro _;rfl)|exact absurd rfl h
def FL(C:Bk X N sc k)(B:Bn X)(O:cO X T)(h:OX sc T tg iter=some fi):DI X tg iter fi/\∀x,foldedSetIterable iter X.env x=pure x:=by
 rcases cy h with ⟨_,h⟩|⟨hn,h⟩
 ·cases h
 refine⟨?_,MQ hn⟩;rcases e9 h with ⟨_,h⟩|⟨z,hz,h⟩
 ·let⟨x,hx,rfl⟩:=ag h;exact GR (O.e _ _ hx)
 rcases cy h with ⟨hx,h⟩|⟨_,h⟩
 ·let⟨e,he,h⟩:=bs h;let⟨hg,h⟩:=aG h;rw[uI hz,hx,dy he];rw[zG,yQ] at hg;let⟨x,hx,rfl⟩:=ag h;exact Fw (C.blt B hg.1 (by decide +kernel) GA) (dk O hx) (bg hg.2)
 rcases cy h with ⟨hx,h⟩|⟨_,h⟩
 ·let⟨e,he,h⟩:=bs h;let⟨hg,h⟩:=aG h;rw[uI hz,hx,dy he];simp?[zG,yQ] at hg;let⟨x,hx,rfl⟩:=ag h;let⟨a,b,d,rfl⟩:=CF hg.2;exact Jk (C.blt B hg.1.1 (by decide +kernel) u6) (dk O hx) (bg hg.1.2)
 rcases cy h with ⟨hx,h⟩|⟨_,h⟩
 ·let⟨e,he,h⟩:=bs h;let⟨hg,h⟩:=aG h;rw[uI hz,hx,qh he];simp?[zG,yQ] at hg;let⟨x,hx,rfl⟩:=ag h;let⟨a,b,d,rfl⟩:=CF hg.2;exact JJ (C.blt B hg.1.1.1 (by decide +kernel) Lc) (bg hg.1.1.2) (fW (by simp[hg.1.2])) (dk O hx)
 let⟨x,hx,rfl⟩:=ag h;exact GR (O.e _ _ hx)
def Gc{l:List α}(h:l.length=2):∃a b,l=[a,b]:=by
 match l,h with
 | [a,b],_=>exact⟨a,b,rfl⟩
def D9{l:List α}(h:l.length=3):∃a b c,l=[a,b,c]:=by
 match l,h with
 | [a,b,c],_=>exact⟨a,b,c,rfl⟩
def B3:∀ {es:List Expr}{xs:List Str},LY es=some xs->∃ps:List Pos,ps.length=xs.length/\es=List.zipWith Expr.Name xs ps
 | [],xs,h=>by cases h;exact⟨[],rfl,rfl⟩
 | e::es,xs,h=>by
  let⟨z,hz,h⟩:=bs h;let⟨r,hr,rfl⟩:=ag h;let⟨ps,h1,h2⟩:=B3 hr;exact⟨z.2::ps,by rw[zM,zM,h1],by rw[eM hz,h2];rfl⟩
def Mc(h:PX tg=some xs):(∃x px,tg=.Name x px/\xs=[x])\/(∃x px y py m pt,tg=.Tuple [.Name x px,.Name y py] m pt/\xs=[x,y])\/∃x px y py z pz m pt,tg=.Tuple [.Name x px,.Name y py,.Name z pz] m pt/\xs=[x,y,z]:=by
 rcases e9 h with ⟨_,h⟩|⟨z,hz,h⟩
 ·let⟨z,hz,h⟩:=bs h;let⟨hl,h⟩:=aG h;let⟨ps,h1,h2⟩:=B3 h;rw[Kz hz];rw[h2] at hl ⊢;rw[List.length_zipWith,h1,Nat.min_self] at hl;refine .inr (hl.imp (λq=>?_) λq=>?_)
  ·let⟨x,y,rfl⟩:=Gc q;let⟨p,q,rfl⟩:=Gc h1;exact⟨x,p,y,q,_,_,rfl,rfl⟩
  ·let⟨x,y,z,rfl⟩:=D9 q;let⟨p,q,r,rfl⟩:=D9 h1;exact⟨x,p,y,q,z,r,_,_,rfl,rfl⟩
 ·cases h;exact .inl ⟨_,_,eM hz,rfl⟩
def tw(C:Bk X N sc k)(B:Bn X)(O:cO X T)(OB:∀scope N' fp s H,Bk (aR X scope N' fp s H) N' scope k->cO (aR X scope N' fp s H) (VD scope N'))
  (h:GK sc N T VD elt gens scope=some f):∃tg iter ifs,gens=[⟨tg,iter,ifs,0⟩]/\tP X tg iter ifs elt scope f:=by
 let⟨⟨tg,iter,ifs,as⟩,hg,h⟩:=bs h;let⟨rfl,h⟩:=aG h;refine⟨tg,iter,ifs,dy hg,?_⟩;let⟨xs,hxs,h⟩:=bs h;let⟨QR,h⟩:=aG h;rw[zG] at QR;let⟨fi,SD,h⟩:=bs h;let⟨tt,htt,h⟩:=bs h;let⟨te,Wz,rfl⟩:=ag h;let⟨S,CB⟩:=C.comp QR.1;let⟨hd,RM⟩:=FL C B O SD;refine⟨_,_,_,_,_,_,_,rfl,S,hd,RM,λfp s H=>?_⟩;have C1:=CB fp s H;have O1:=OB scope _ fp s H C1;refine⟨?_,?_,O1.e _ _ Wz⟩
 ·have hl:∀i,i < xs.length->_:=λi hi=>C1.loc (List.all_eq_true.mp QR.2 i (List.mem_range.mpr hi));rcases Mc hxs with ⟨x,px,rfl,rfl⟩|⟨x,px,y,py,m,pt,rfl,rfl⟩|⟨x,px,y,py,z,pz,m,pt,rfl,rfl⟩
  ·have z:=hl 0 (by simp);exact Ja 0 z.1 z.2.1 z.2.2.1 z.2.2.2
  ·have z:=hl 0 (by simp);have w:=hl 1 (by simp);exact Mw 0 1 C1.calm z.1 z.2.1 z.2.2.1 w.2.1 w.2.2.1 z.2.2.2 w.2.2.2
  ·have z:=hl 0 (by simp);have w:=hl 1 (by simp);have u:=hl 2 (by simp);exact Gd 0 1 2 C1.calm z.1 z.2.1 z.2.2.1 w.2.1 w.2.2.1 u.2.1 u.2.2.1 z.2.2.2 w.2.2.2 u.2.2.2
 ·rcases cy htt with ⟨hi,h⟩|⟨_,h⟩
  ·cases h;have hi:ifs=[]:=List.isEmpty_iff.mp hi;rw[hi];exact Jb
  ·let⟨c,hc,h⟩:=bs h;have hc:ifs=[c]:=dy hc;rw[hc];exact Jo (O1.t _ _ h)
def tP.df(hc:X.calm=true)(h:tP X tg iter ifs elt scope f):DF X (.ListComp elt [⟨tg,iter,ifs,0⟩] scope pos) f:=by
 let⟨N',t,cs,fi,tgt,tt,te,rfl,S,hd,RM,hY⟩:=h.ex;exact Jx hc S hd hY RM
def FT(h:Km a=some x):∃px,a=⟨[],[⟨x,none,px⟩],none,[],[],none,[]⟩/\(x="number"\/x="plan"):=by
 let⟨⟨y,an,p⟩,h1,h⟩:=bs h;let⟨hc,h⟩:=aG h;cases h;let⟨a1,a2,a3,a4,a5,a6,a7⟩:=a;simp?[zG,jC,beq_iff_eq,List.isEmpty_iff,Option.isNone_iff_eq_none] at hc;obtain⟨⟨⟨⟨⟨⟨⟨rfl,rfl⟩,rfl⟩,rfl⟩,rfl⟩,rfl⟩,rfl⟩,hy⟩:=hc;have h1:a2=_:=dy h1;exact⟨p,by rw[h1],hy⟩
def bind1{x q:Str}{px:Pos}{body:Expr}{scope:Scope}{cl:List (Str×Addr)}{pm Sf u:Value}{c:Addr}(h:x="number"\/x="plan") :
  bindArgs (W.kla_fn "<lambda>" q ⟨[],[⟨x,none,px⟩],none,[],[],none,[]⟩ body scope cl pm (.ref c) Sf) ⟨[u],[]⟩=pure [(x,u)]:=by
 rcases h with rfl|rfl<;>rfl
def A4{lam:Option Str}(C:Bk X N sc k)(B:Bn X)(R6:∀q,lam=some q->si X q/\j+3<=k)(O:cO X T){T4:Scope->List Str->Tr}
  (OL:∀scope N' qual A f c s H,Bk (i4 X A qual scope N' f c s H) N' scope (k - 3)->j<=k - 3->cO (i4 X A qual scope N' f c s H) (T4 scope N')) {l:Expr}{p0 WZ:Pos}{f:Dl.Env->Option (List D)}
  (h:Bu lam sc N T T4 l w=some f):DF X (.Call (.Name "sorted" p0) [l] [⟨some "key",.Lambda w.1 w.2.1 w.2.2.1 w.2.2.2,WZ⟩] pos) f:=by
 let⟨hg,h⟩:=aG h;simp?[zG,yQ] at hg;let⟨⟨hl,hg⟩,hs⟩:=hg;let⟨q,hq⟩:=Option.isSome_iff_exists.mp hl;let⟨L,hk⟩:=R6 q hq;let⟨x,hx,h⟩:=bs h;let⟨px,ep,hpx⟩:=FT hx;rw[ep];let⟨QR,h⟩:=aG h;rw[zG] at QR;let⟨fl,Tb,h⟩:=bs h;let⟨te,Wz,rfl⟩:=ag h;obtain⟨k',rfl⟩:∃k',k=k'+3:=⟨k - 3,by lia⟩
 exact Bk.Yv (p:=x) C (C.blt B hg (by decide +kernel) sT) L QR.1 QR.2 (λ_ _ _ _ _=>bind1 hpx) rfl (O.e _ _ Tb) (λA f c s H C'=>(OL w.2.2.1 _ q A f c s H C' (by lia)).e _ _ Wz) (bg hs) (by rw[bg hs];rfl) (fW (by simp[hs]))
def HI{lam:Option Str}(C:Bk X N sc k)(B:Bn X)(R6:∀q,lam=some q->si X q/\j+3<=k)(O:cO X T){T4:Scope->List Str->Tr}
  (OL:∀scope N' qual A f c s H,Bk (i4 X A qual scope N' f c s H) N' scope (k - 3)->j<=k - 3->cO (i4 X A qual scope N' f c s H) (T4 scope N')) {a:Expr}{args:List Expr}{ks:List Keyword}(h:Nr lam sc N T T4 a args ks=some f):DF X (.Call a args ks p) f:=by
 let⟨z,hz,h⟩:=bs h;let⟨l,hl,h⟩:=bs h;let⟨hx,h⟩:=aG h;rw[eM hz,dy hl,hx];rcases cy h with ⟨hk,h⟩|⟨_,h⟩
 ·rw[List.isEmpty_iff.mp hk];let⟨hg,h⟩:=aG h;rw[zG,yQ] at hg;let⟨x,hx,rfl⟩:=ag h;exact D3 (C.blt B hg.1 (by decide +kernel) sT) (dk O hx) (bg hg.2)
 ·let⟨⟨ky,v,kp⟩,hk,h⟩:=bs h;let⟨w,hw,h⟩:=bs h;let⟨hy,h⟩:=aG h;have hy:ky=some "key":=hy;have hw:=Mq (e:=v) hw;rw[dy hk,hy,hw];exact A4 C B R6 O OL h
def Fz(C:Bk X N sc k)(B:Bn X)(R6:∀q,lam=some q->si X q/\j+3<=k)(O:cO X T)
  (OB:∀scope N' fp s H,Bk (aR X scope N' fp s H) N' scope k->cO (aR X scope N' fp s H) (VD scope N'))
  (OL:∀scope N' qual A f c s H,Bk (i4 X A qual scope N' f c s H) N' scope (k - 3)->j<=k - 3->cO (i4 X A qual scope N' f c s H) (T4 scope N')) {e:Expr}{f:Dl.Env->Option (List D)}(h:Ki lam sc N T VD T4 e=some f):DF X e f:=by
 cases e with
 | List es p=>let⟨x,hx,rfl⟩:=ag h;exact Lh (dk O hx)
 | ListComp elt gens scope ps =>
  let⟨tg,iter,ifs,rfl,q⟩:=tw C B O OB h;exact q.df C.calm
 | Call a args ks p=>exact HI C B R6 O OL h
 | _=>cases h
def J6(n:Nat):∀ {lam:Option Str}{X:Cx}{N:List Str}{sc:Scope}{k:Nat},Bk X N sc k->Of G X j->j<=k->(∀q,lam=some q->si X q/\j+3<=k)->cO X (tr G n lam sc N):=by
 induction n with
 | zero=>intro lam X N sc k C g S0 R6;exact⟨λ_ _ _ _ _ h=>(by cases h),λ_ _ h=>(by cases h),λ_ _ h=>(by cases h),λ_ _ h=>(by cases h)⟩
 | succ n ih =>
  intro lam X N sc k C g S0 R6;have O:=ih C g S0 R6;exact⟨λelt gens scope p f h=>tw C g.bn O (λscope N' fp s H C'=>ih C' ⟨g.fn,g.int,g.bn⟩ S0 λq z=>by cases z) h,λe f h=>Fm C g S0 O h,
   λe f h=>Fz C g.bn R6 O (λscope N' fp s H C'=>ih C' ⟨g.fn,g.int,g.bn⟩ S0 λq z=>by cases z) (λscope N' qual A f c s H C' hk=>ih C' ⟨g.fn,g.int,g.bn⟩ hk λq z=>by cases z) h,
   λe f h=>Gf C O h⟩
end
def pk:Nat->Expr->List Str
 | 0,_=>[]
 | n+1,e=>match e with
  | .Name x _=>[x]
  | .UnaryOp _ a _=>pk n a
  | .BinOp a _ b _=>pk n a++pk n b
  | .BoolOp _ es _=>es.flatMap (pk n)
  | .Compare a _ cs _=>pk n a++cs.flatMap (pk n)
  | .IfExp c a b _=>pk n c++(pk n a++pk n b)
  | .Tuple es _ _=>es.flatMap (pk n)
  | .List es _=>es.flatMap (pk n)
  | .Subscript a b _=>pk n a++pk n b
  | .Slice lo hi st _=>(lo.toList++(hi.toList++st.toList)).flatMap (pk n)
  | .Call f args kws _=>pk n f++(args.flatMap (pk n)++kws.flatMap λk=>pk n k.value)
  | .Attribute o _ _=>pk n o
  | .ListComp elt gens _ _=>pk n elt++gens.flatMap λg=>pk n g.iter++g.ifs.flatMap (pk n)
  | .Lambda _ b _ _=>pk n b
  | _=>[]
def Ak(N:List Str)(e:Expr):List Nat:=let ns:=pk 60 e;(List.range N.length).filter λj=>match N[j]? with|some x=>ns.contains x|none=>false
abbrev GS:=ao->Option Out
def turns:Nat:=1000000
def uJ(e:Expr):Bool:=e.ctorIdx == 8||e.ctorIdx == 9||e.ctorIdx == 10
def MW(e:Expr):Option (Expr×List Comprehension×Scope×Pos):=if h:e.ctorIdx=8 then Expr.ListComp.elim e h λx y u p=>some (x,y,u,p) else none
def Lu{e:Expr}(h:MW e=some z):e=.ListComp z.1 z.2.1 z.2.2.1 z.2.2.2:=Expr.ListComp.elim (motive_1:=λe=>MW e=some z->e=.ListComp z.1 z.2.1 z.2.2.1 z.2.2.2) e (iW h) (λa b d f h=>by cases h;rfl) h
def Mx{e:Expr}(h:MW e=none)(hc:(e.ctorIdx == 9||e.ctorIdx == 10)=false):uJ e=false:=by
 unfold uJ;cases q:e.ctorIdx == 8 with
 | false=>rwa [Bool.or_assoc,Bool.false_or]
 | true=>exact absurd (Expr.ListComp.elim (motive_1:=λe=>MW e=none->False) e (eq_of_beq q) (λa b d f h=>by cases h) h) id
def Ko(sc:Scope)(N:List Str)(T:Tr)(x:Str)(px:Pos)(e:Expr):Option GS :=
 (N.idxOf? x).bind λi=>if (tO N sc i x&&!(e.ctorIdx == 9||e.ctorIdx == 10))=true then
  (if ND e=true then (if (MW e).all (λz=>(decide (sc.names.lookup x=some .local)&&(px.line == z.2.2.2.line&&!(z.2.2.1.names.any λ(n,k)=>n == x&&(k == .local || k == .cell))))||decide (sc.names.lookup x=some .cell)||!(px.line == z.2.2.2.line))=true then (T.f e).map λf=>bo i (Ak N e) f else none)
  else if uJ e=false then (T.e e).map λf=>aE i (Ak N e) f else none) else none
def PR(e:Expr):Option (((Expr×Str×Pos)×Str×Pos)×List Expr×Pos):=(dC e).bind λy=>if y.2.2.1.isEmpty=true then (PY y.1).map λz=>(z,y.2.1,y.2.2.2) else none
def Md{e:Expr}(h:PR e=some z):e=.Call (.Attribute (.Name z.1.2.1 z.1.2.2) z.1.1.2.1 z.1.1.2.2) z.2.1 [] z.2.2:=by
 let⟨y,h1,h⟩:=bs h;let⟨h3,h⟩:=aG h;let⟨w,h2,rfl⟩:=ag h;rw[Bm h1,Mm h2,List.isEmpty_iff.mp h3]
def dK(e:Expr):Option (Const×Nat×Pos):=if h:e.ctorIdx=19 then Expr.Constant.elim e h λx y p=>some (x,y,p) else none
def Nq{e:Expr}(h:dK e=some z):e=.Constant z.1 z.2.1 z.2.2:=Expr.Constant.elim (motive_1:=λe=>dK e=some z->e=.Constant z.1 z.2.1 z.2.2) e (iW h) (λa b d h=>by cases h;rfl) h
def Ly:Const->Bool
 | .str _=>true
 | _=>false
def Pa(N:List Str)(sc:Scope)(T:Tr)(z:((Expr×Str×Pos)×Str×Pos)×List Expr×Pos):Option GS :=
 (N.idxOf? z.1.2.1).bind λi=>if (ox N sc i z.1.2.1&&z.1.1.2.2.endLine == z.2.2.line&&z.2.1.all λe=>!isStar e)=true then
   (if z.1.1.2.1="append" then (l1 z.2.1).bind λa=>(T.e a).map λf=>l7 i (Ak N a) f
   else if z.1.1.2.1="extend" then (l1 z.2.1).bind λa=>(T.f a).map λf=>CW i (Ak N a) f
   else if z.1.1.2.1="insert" then (l2 z.2.1).bind λa=>(T.e a.1).bind λfk=>(T.e a.2).map λf=>Es i (Ak N a.2) fk f
   else none) else none
def Kj(N:List Str)(sc:Scope)(T:Tr)(e:Expr):Option GS:=(PR e).elim ((dK e).elim ((dC e).bind λy=>(dN y.1).bind λ_=>(T.e e).map vo) λz=>if Ly z.1=true then some cT else none) λz=>Pa N sc T z
def P3(sc:Scope)(N:List Str)(tg:Expr):Option (ao->D->Option ao):=(dN tg).elim
 ((dT tg).bind λz=>(l2 z.1).bind λy=>(dN y.1).bind λa=>(dN y.2).bind λb=>(N.idxOf? a.1).bind λi=>(N.idxOf? b.1).bind λj=>if (tO N sc i a.1&&tO N sc j b.1)=true then some (eL i j) else none) λz =>
 (N.idxOf? z.1).bind λi=>if tO N sc i z.1=true then some (td i) else none
def Kb(sc:Scope)(N:List Str)(T:Tr)(x:Str)(kx e:Expr):Option GS :=
 (N.idxOf? x).bind λi=>if (ox N sc i x&&!CD kx)=true then (T.e kx).bind λfk=>(T.e e).map λf=>N7 i (Ak N e) fk f else none
def p6(f:Stmt->Option GS):List Stmt->Option GS
 | []=>some cT
 | [s]=>f s
 | s::r=>(f s).bind λg=>(p6 f r).map λh=>aq g h
def Pz(e:Expr):Option (Expr×List CmpOp×List Expr×Pos):=if h:e.ctorIdx=15 then Expr.Compare.elim e h λx y u p=>some (x,y,u,p) else none
def Me{e:Expr}(h:Pz e=some z):e=.Compare z.1 z.2.1 z.2.2.1 z.2.2.2:=Expr.Compare.elim (motive_1:=λe=>Pz e=some z->e=.Compare z.1 z.2.1 z.2.2.1 z.2.2.2) e (iW h) (λa b d f h=>by cases h;rfl) h
def N3(e:Expr):Option (Str×Str):=(Pz e).bind λy=>(dN y.1).bind λa=>(l1 y.2.1).bind λo=>(l1 y.2.2.1).bind λu=>(dN u).bind λb=>if (o.ctorIdx == 8&&b.1 == ("seen":Str))=true then some (a.1,b.1) else none
def O9(e:Expr):Option (List (Option Expr)×List Expr×Pos):=if h:e.ctorIdx=6 then Expr.Dict.elim e h λx y p=>some (x,y,p) else none
def Lx{e:Expr}(h:O9 e=some z):e=.Dict z.1 z.2.1 z.2.2:=Expr.Dict.elim (motive_1:=λe=>O9 e=some z->e=.Dict z.1 z.2.1 z.2.2) e (iW h) (λa b d h=>by cases h;rfl) h
def Fx(e:Expr):Option (Str×Expr):=(O9 e).bind λy=>(l1 y.1).bind λa=>a.bind λa=>(dN a).bind λz=>(l1 y.2.1).map λv=>(z.1,v)
def F4(x:Str)(e:Expr):Option Str:=(dN e).bind λz=>if x="seen" then some z.1 else none
def Fv(sc:Scope)(N:List Str)(T:Tr)(x z:Str)(v:Expr):Option GS :=
 (N.idxOf? x).bind λj=>(N.idxOf? z).bind λi=>if (tO N sc j x&&ox N sc i z)=true then (T.e v).map λf=>tj j i f else none
def Fs(sc:Scope)(N:List Str)(T:Tr)(x z:Str)(v:Expr):Option GS :=
 (N.idxOf? x).bind λj=>(N.idxOf? z).bind λi=>if ((ox N sc j x&&ox N sc i z)&&v.ctorIdx == 19)=true then (T.e v).map λf=>pw j i f else none
def N5(sc:Scope)(N:List Str)(T:Tr)(f:Stmt->Option GS)(c:Expr)(a b:List Stmt):Option GS:=(p6 f a).bind λg=>(p6 f b).bind λh=>(N3 c).elim ((T.t c).map λt=>dw t g h) λz=>(N.idxOf? z.1).bind λi=>(N.idxOf? z.2).bind λj=>if (ox N sc i z.1&&ox N sc j z.2)=true then some (rX i j g h) else none
def PH(e:Expr):Option (List Expr×Pos):=if h:e.ctorIdx=24 then Expr.List.elim e h λx p=>some (x,p) else none
def K4{e:Expr}(h:PH e=some z):e=.List z.1 z.2:=Expr.List.elim (motive_1:=λe=>PH e=some z->e=.List z.1 z.2) e (iW h) (λa b h=>by cases h;rfl) h
def JT(x:Str)(e:Expr):Option (Expr×Expr):=if x="_law_goes" then (PH e).bind λz=>l2 z.1 else none
def JX(sc:Scope)(N:List Str)(T:Tr)(x:Str)(y:Expr×Expr):Option GS:=(N.idxOf? x).bind λi=>if (tO N sc i x&&!isStar y.1&&!isStar y.2)=true then (T.f y.1).bind λf=>(T.f y.2).map λg=>yu i f g else none
def N2(e:Expr):Option ((Expr×List Expr×List Keyword×Pos)×(Expr×Str×Pos)×(Expr×Expr×Pos)×(Str×Pos)×Expr):=(dC e).bind λy=>(dA y.1).bind λu=>(Nz u.1).bind λw=>(dN w.1).bind λx=>(l1 y.2.1).bind λa=>if (y.2.2.1.isEmpty&&u.2.1 == ("append":Str))=true then some (y,u,w,x,a) else none
def Kd(sc:Scope)(N:List Str)(T:Tr)(z:(Expr×List Expr×List Keyword×Pos)×(Expr×Str×Pos)×(Expr×Expr×Pos)×(Str×Pos)×Expr):Option GS :=
 (N.idxOf? z.2.2.2.1.1).bind λi=>if (ox N sc i z.2.2.2.1.1&&!CD z.2.2.1.2.1&&(z.2.1.2.2.endLine == z.1.2.2.2.line&&!isStar z.2.2.2.2))=true then (T.e z.2.2.1.2.1).bind λfa=>(T.e z.2.2.2.2).map λf=>rY i fa f else none
def KA(sc:Scope)(N:List Str)(T:Tr)(e t:Expr):Option GS:=(dN t).elim ((Nz t).bind λy=>(dN y.1).bind λz=>(F4 z.1 y.2.1).elim (Kb sc N T z.1 y.2.1 e) λk=>Fs sc N T z.1 k e) λz=>(Fx e).elim ((JT z.1 e).elim (Ko sc N T z.1 z.2 e) λy=>JX sc N T z.1 y) λy=>Fv sc N T z.1 y.1 y.2
def J7(sc:Scope)(N:List Str)(T:Tr):Nat->Stmt->Option GS
 | 0,_=>none
 | n+1,st=>match st with
  | .Return (some e) _=>(T.e e).map aO
  | .If c a b _=>N5 sc N T (J7 sc N T n) c a b
  | .Assign ts e _=>(l1 ts).bind λt=>KA sc N T e t
  | .For tg iter body es _=>if es.isEmpty=true then (OX sc T tg iter).bind λfi=>(P3 sc N tg).bind λt=>(p6 (J7 sc N T n) body).map λg=>dB (Ak N iter) fi t g else none
  | .While c body es _=>if es.isEmpty=true then (T.t c).bind λt=>(p6 (J7 sc N T n) body).map λg=>Ed t g turns else none
  | .Expr e _=>(N2 e).elim (Kj N sc T e) λz=>Kd sc N T z
  | .Raise ..=>some MX
  | .Pass _=>some cT
  | _=>none
section
variable {X:Cx}{N:List Str}{sc:Scope}{k:Nat}{T:Tr}{QL:Hp}{QM:Hp}{pos:Pos}
def fv(H:∀s g,f s=some g->DS X QL QM s g):∀ {l:List Stmt}{g:GS},p6 f l=some g->Bt X QL QM l g
 | [],g,h=>by cases h;exact HX
 | [s],g,h=>Iw (H _ _ h)
 | s::t::r,g,h=>by
  unfold p6 at h;let⟨x,hx,h⟩:=bs h;let⟨y,hy,rfl⟩:=ag h;exact Gn (H _ _ hx) (fv H hy)
def nL(h:uJ e=false):swapsWith e t line env=pure false:=by
 cases e<;>first|rfl|cases h
def FM(C:Bk X N sc k)(O:cO X T)(h:Ko sc N T x px e=some g):DS X QL QM (.Assign [.Name x px] e pos) g:=by
 let⟨i,hi,h⟩:=bs h;let⟨hl,h⟩:=aG h;rw[zG,yQ] at hl;let⟨z1,z2,z3,z4⟩:=C.loc hl.1;rcases cy h with ⟨_,h⟩|⟨_,h⟩
 ·let⟨hc,h⟩:=aG h;let⟨f,hf,rfl⟩:=ag h;cases q:MW e with
  | none=>exact u5 i _ z1 z2 z3 (O.f _ _ hf) (nL (Mx q hl.2)) z4
  | some z =>
   have q2:=Lu q;rw[q] at hc;simp?[Option.all_some,jC] at hc;rw[q2] at hf ⊢;rcases hc with (hc|hc)|hc
   ·rw[zG] at hc;let⟨tg,iter,ifs,eg,q⟩:=O.c _ _ _ _ _ hf;let⟨N',t,cs,fi,tgt,tt,te,rfl,S,hd,RM,hY⟩:=q.ex;rw[eg];exact Hv i _ C.calm S hd hY z1 z2 (C.Yh hc.1) (C.swap hc.1 hc.2) RM
   ·exact u5 i _ z1 z2 z3 (O.f _ _ hf) (C.WO hc) z4
   ·refine u5 i _ z1 z2 z3 (O.f _ _ hf) ?_ z4;rw[yQ] at hc;rw[qq,hc];simp
 ·let⟨hc,h⟩:=aG h;let⟨f,hf,rfl⟩:=ag h;exact K8 i _ z1 z2 z3 (O.e _ _ hf) (nL hc) z4
def AD(h:(es.all λe=>!isStar e)=true)(hl:es.length < 20):((backTo QS (starEach es env)).all (λx=>!x.1)&&(backToKw QS (keywordEach [] env)).all (λx=>x.1.isSome)&&decide (es.length+([]:List Keyword).length+(if ([]:List Keyword).isEmpty then 0 else 1) < 30))=true:=by
 have h1:(backTo QS (starEach es env)).all (λx=>!x.1)=true:=by
  have:=fW (pos:=QS) (env:=env) h;rw[List.all_eq_not_any_not];simpa using this
 rw[h1];simp[backToKw,keywordEach];lia
def GJ(C:Bk X N sc k)(O:cO X T)(h:Kj N sc T e=some g):DS X QL QM (.Expr e pos) g:=by
 rcases e9 h with ⟨_,h⟩|⟨z,hz,h⟩
 ·rcases e9 h with ⟨_,h⟩|⟨z,hz,h⟩
  ·let⟨y,hy,h⟩:=bs h;let⟨w,hw,h⟩:=bs h;let⟨f,hf,rfl⟩:=ag h;exact Hz (by rw[Bm hy];rfl) (O.e _ _ hf)
  ·let⟨hs,h⟩:=aG h;cases h;rw[Nq hz];let⟨c,_⟩:=z;cases c with
   | str x=>exact KU
   | _=>cases hs
 let⟨i,hi,h⟩:=bs h;let⟨hv,h⟩:=aG h;simp?[zG] at hv;let⟨⟨hv,QU⟩,hs⟩:=hv;let⟨z1,z2,z3,z4⟩:=C.U6 hv;rw[Md hz];rcases cy h with ⟨hm,h⟩|⟨_,h⟩
 ·let⟨a,ha,h⟩:=bs h;let⟨f,hf,rfl⟩:=ag h;rw[dy ha] at hs ⊢;rw[hm];exact Dt i _ z1 z2 (O.e _ _ hf) z3 z4 (AD hs (by simp)) QU (bg (by simpa using hs))
 rcases cy h with ⟨hm,h⟩|⟨_,h⟩
 ·let⟨a,ha,h⟩:=bs h;let⟨f,hf,rfl⟩:=ag h;rw[dy ha] at hs ⊢;rw[hm];exact Di i _ z1 z2 (O.f _ _ hf) z3 z4 (AD hs (by simp)) QU (bg (by simpa using hs))
 let⟨hm,h⟩:=aG h;let⟨a,ha,h⟩:=bs h;let⟨fk,hfk,h⟩:=bs h;let⟨f,hf,rfl⟩:=ag h;rw[qh ha] at hs ⊢;rw[hm];have SA:=hs;simp?[xU,List.all_nil,Bool.and_true,zG,yQ] at SA;exact DH i _ z1 z2 (O.e _ _ hfk) (O.e _ _ hf) z3 z4 (AD hs (by simp)) QU (bg SA.1) (bg SA.2)
def L7(C:Bk X N sc k)(h:P3 sc N tg=some t):Oz X QL QM tg t:=by
 rcases e9 h with ⟨_,h⟩|⟨z,hz,h⟩
 ·let⟨z,hz,h⟩:=bs h;let⟨y,hy,h⟩:=bs h;let⟨a,ha,h⟩:=bs h;let⟨b,hb,h⟩:=bs h;let⟨i,hi,h⟩:=bs h;let⟨j,hj,h⟩:=bs h;let⟨hl,h⟩:=aG h;cases h;rw[zG] at hl;have u:=C.loc hl.1;have w:=C.loc hl.2;rw[Kz hz,qh hy,eM ha,eM hb];exact Jj i j C.calm u.1 u.2.1 u.2.2.1 w.2.1 w.2.2.1 u.2.2.2 w.2.2.2
 ·let⟨i,hi,h⟩:=bs h;let⟨hl,h⟩:=aG h;cases h;have u:=C.loc hl;rw[eM hz];exact Ew i u.1 u.2.1 u.2.2.1 u.2.2.2
def Ej(C:Bk X N sc k)(O:cO X T)(h:Kb sc N T x kx e=some g):DS X QL QM (.Assign [.Subscript (.Name x px) kx Q9] e pos) g:=by
 let⟨i,hi,h⟩:=bs h;let⟨hv,h⟩:=aG h;simp?[zG,yQ] at hv;let⟨hv,hc⟩:=hv;let⟨z1,z2,z3,z4⟩:=C.U6 hv;let⟨fk,hfk,h⟩:=bs h;let⟨f,hf,rfl⟩:=ag h;refine Ha i _ z1 z2 (O.e _ _ hfk) (O.e _ _ hf) z3 z4 (λv=>?_) ?_ ?_ rfl
 ·cases kx<;>first|rfl|cases hc
 ·cases e<;>rfl
 ·rfl
def Bk.u1(C:Bk X N sc k):X.A.units+1 < cLine:=by have:=C.room.un;lia
def wu(h:Fx e=some y):∃pz p,e=.Dict [some (.Name y.1 pz)] [y.2] p:=by
 let⟨z,hz,h⟩:=bs h;let⟨a,ha,h⟩:=bs h;let⟨b,hb,h⟩:=bs h;let⟨w,hw,h⟩:=bs h;let⟨v,hv,rfl⟩:=ag h;exact⟨_,_,by rw[Lx hz,dy ha,dy hv,hb,eM hw]⟩
def wW(h:F4 x e=some z):∃pz,e=.Name z pz:=by
 let⟨w,hw,h⟩:=bs h;let⟨_,h⟩:=aG h;cases h;exact⟨_,eM hw⟩
def DC(C:Bk X N sc k)(O:cO X T)(h:Fv sc N T x z v=some g):DS X QL QM (.Assign [.Name x px] (.Dict [some (.Name z pz)] [v] p) pos) g:=by
 let⟨j,hj,h⟩:=bs h;let⟨i,hi,h⟩:=bs h;let⟨hc,h⟩:=aG h;rw[zG] at hc;let⟨f,hf,rfl⟩:=ag h;let⟨z1,z2,z3,z4⟩:=C.loc hc.1;let⟨w1,w2,w3,w4⟩:=C.U6 hc.2;exact Jq j i (Bk.u1 C) w1 w2 w3 w4 (O.e _ _ hf) z1 z2 z3 rfl z4
def Dy(C:Bk X N sc k)(O:cO X T){v:Expr}(h:Fs sc N T x z v=some g):DS X QL QM (.Assign [.Subscript (.Name x px) (.Name z pz) sp] v pos) g:=by
 let⟨j,hj,h⟩:=bs h;let⟨i,hi,h⟩:=bs h;let⟨hc,h⟩:=aG h;rw[zG,zG] at hc;let⟨f,hf,rfl⟩:=ag h;let⟨z1,z2,z3,z4⟩:=C.U6 hc.1.1;let⟨w1,w2,w3,w4⟩:=C.U6 hc.1.2;exact Expr.Constant.elim (motive_1:=λv=>DE X v f->DS X QL QM (.Assign [.Subscript (.Name x px) (.Name z pz) sp] v pos) (pw j i f)) v (eq_of_beq hc.2) (λa b d h=>Jz j i (Bk.u1 C) w1 w2 z1 z2 h w3 w4 z3 z4) (O.e _ _ hf)
def Hu{f:Stmt->Option GS}{c:Expr}{a b:List Stmt}{g:GS}{p:Pos}(C:Bk X N sc k)(O:cO X T)(ih:∀s g,f s=some g->DS X QL QM s g)(h:N5 sc N T f c a b=some g):DS X QL QM (.If c a b p) g:=by
 let⟨a,ha,h⟩:=bs h;let⟨b,hb,h⟩:=bs h;rcases e9 h with ⟨_,h⟩|⟨z,hz,h⟩
 ·let⟨t,ht,rfl⟩:=ag h;exact NR (O.t _ _ ht) (fv ih ha) (fv ih hb)
 ·let⟨i,hi,h⟩:=bs h;let⟨j,hj,h⟩:=bs h;let⟨hv,h⟩:=aG h;cases h;rw[zG] at hv;let⟨z1,z2,z3,z4⟩:=C.U6 hv.1;let⟨w1,w2,w3,w4⟩:=C.U6 hv.2;let⟨y,hy,h⟩:=bs hz;let⟨u,hu,h⟩:=bs h;let⟨o,ho,h⟩:=bs h;let⟨v,hx,h⟩:=bs h;let⟨w,hw,h⟩:=bs h;let⟨hc,h⟩:=aG h;cases h;rw[zG] at hc;rw[Me hy,eM hu,dy ho,dy hx,eM hw];obtain rfl:o=.In:=by cases o<;>first|rfl|exact absurd hc.1 (by decide)
  exact JF i j (Bk.u1 C) z1 z2 w1 w2 (fv ih ha) (fv ih hb) z3 z4 w3 w4
def Fy(C:Bk X N sc k)(O:cO X T)(hn:JT x e=some y)(h:JX sc N T x y=some g):DS X QL QM (.Assign [.Name x px] e pos) g:=by
 let⟨_,hn⟩:=aG hn;let⟨z,hz,hn⟩:=bs hn;let⟨i,_,h⟩:=bs h;let⟨hv,h⟩:=aG h;simp?[zG,yQ] at hv;let⟨⟨acg,ha⟩,hb⟩:=hv;let⟨z1,z2,z3,z4⟩:=C.loc acg;let⟨f,hf,h⟩:=bs h;let⟨g',hg,rfl⟩:=ag h;rw[K4 hz,qh hn];exact Je i z1 z2 z3 (O.f _ _ hf) (O.f _ _ hg) (bg ha) (bg hb) (nL rfl) z4
def F3(C:Bk X N sc k)(O:cO X T)(hz:N2 e=some z)(h:Kd sc N T z=some g):DS X QL QM (.Expr e pos) g:=by
 let⟨y,hy,hz⟩:=bs hz;let⟨u,hu,hz⟩:=bs hz;let⟨w,hw,hz⟩:=bs hz;let⟨x,hx,hz⟩:=bs hz;let⟨a,ha,hz⟩:=bs hz;let⟨hc,hz⟩:=aG hz;cases hz;rw[zG] at hc;rw[Bm hy,FX hu,G8 hw,eM hx,dy ha,List.isEmpty_iff.mp hc.1,eq_of_beq hc.2];let⟨i,_,h⟩:=bs h;let⟨hv,h⟩:=aG h;simp?[zG,yQ] at hv;let⟨⟨hv,hk⟩,hl,hs⟩:=hv;let⟨z1,z2,z3,z4⟩:=C.U6 hv;let⟨fa,hfa,h⟩:=bs h;let⟨f,hf,rfl⟩:=ag h;exact HJ i z1 z2 (O.e _ _ hfa) (O.e _ _ hf) z3 z4 (qd hk) (iJ rfl) (Mu hs) hl (bg hs)
def FG{t e:Expr}{g:GS}{p:Pos}(C:Bk X N sc k)(O:cO X T)(h:KA sc N T e t=some g):DS X QL QM (.Assign [t] e p) g:=by
 rcases e9 h with ⟨_,h⟩|⟨z,hz,h⟩
 ·let⟨y,hy,h⟩:=bs h;let⟨z,hz,h⟩:=bs h;rw[G8 hy,eM hz];rcases e9 h with ⟨_,h⟩|⟨k,hk,h⟩
  ·exact Ej C O h
  ·let⟨pz,e⟩:=wW hk;rw[e];exact Dy C O h
 ·rw[eM hz];rcases e9 h with ⟨_,h⟩|⟨y,hy,h⟩
  ·rcases e9 h with ⟨_,h⟩|⟨y,hy,h⟩
   ·exact FM C O h
   ·exact Fy C O hy h
  ·let⟨pz,p,e⟩:=wu hy;rw[e];exact DC C O h
def Al(C:Bk X N sc k)(B:Bn X)(O:cO X T):∀ (n:Nat) {st:Stmt}{g:GS},J7 sc N T n st=some g->DS X QL QM st g
 | 0,st,g,h=>by cases h
 | n+1,st,g,h=>by
  have ih:=λs g h=>Al C B O n (st:=s) (g:=g) h;cases st with
  | Return e p =>
   cases e<;>try cases h
   let⟨f,hf,rfl⟩:=ag h;exact Mt (O.e _ _ hf)
  | If c a b p=>exact Hu C O ih h
  | Assign ts e p =>
   let⟨t,ht,h⟩:=bs h;rw[dy ht];exact FG C O h
  | For tg iter body els p =>
   let⟨he,h⟩:=aG h;rw[List.isEmpty_iff.mp he];let⟨fi,SD,h⟩:=bs h;let⟨t,ht,h⟩:=bs h;let⟨b,hb,rfl⟩:=ag h;let⟨hd,RM⟩:=FL C B O SD;exact Lv _ C.pass C.calm hd (L7 C ht) (fv ih hb) RM
  | While c body els p =>
   let⟨he,h⟩:=aG h;rw[List.isEmpty_iff.mp he];let⟨t,ht,h⟩:=bs h;let⟨b,hb,rfl⟩:=ag h;exact FS _ C.pass (O.t _ _ ht) (fv ih hb)
  | Expr e p =>
   rcases e9 h with ⟨_,h⟩|⟨z,hz,h⟩
   ·exact GJ C O h
   ·exact F3 C O hz h
  | Raise=>cases h;exact Nk
  | Pass p=>cases h;exact Ie
  | _=>cases h
end
section
variable {K:W.Frag}
def k8(P:Program)(w:World)(K:W.Frag)(mg:Str->Option Value)(base:Heap)(j:Nat)(l:List (Str×Nat×(List D->Option D))):Prop:=∀x n m,l.lookup x=some (n,m)->eU P w K mg base j x n m
def jy(mg:Str->Option Value)(l:List (Str×Int)):Prop:=∀x i,l.lookup x=some i->∃t,mg x=some (.int i t)
def bV:k8 P w K mg base j []:=λ_ _ _ h=>by cases h
def NX(F:eU P w K mg base j x n m)(h:k8 P w K mg base j l):k8 P w K mg base j ((x,n,m)::l):=λy n' m' e=>by
 rw[yC] at e;cases q:y == x with
 | true=>rw[q] at e;cases e;rw[eq_of_beq q];exact F
 | false=>rw[q] at e;exact h y n' m' e
def bZ:jy mg []:=λ_ _ h=>by cases h
def EX(F:∃t,mg x=some (.int i t))(h:jy mg l):jy mg ((x,i)::l):=λy i' e=>by
 rw[yC] at e;cases q:y == x with
 | true=>rw[q] at e;cases e;rw[eq_of_beq q];exact F
 | false=>rw[q] at e;exact h y i' e
def J0{st:Stmt}(C:Bk X N (aF st) j)(B:Bn X)(hf:k8 X.prog X.w X.K X.mg X.base j fs)(hi:jy X.mg is)
  (t:p6 (J7 (aF st) N (tr ⟨fs,is⟩ 40 none (aF st) N) 40) (b8 st)=some g):Bt X QL QM (b8 st) g :=
 fv (λs g h=>Al C B (J6 (G:=⟨fs,is⟩) 40 C ⟨hf,hi,B⟩ (yN j) λq z=>by cases z) 40 h) t
def Qy{st:Stmt}(D:bH K mg x st ps)(S:fI N ps (aF st))(B:∀x∈cU,mg x=none)(hf:k8 P w K mg base j fs)(hi:jy mg is)
  (t:p6 (J7 (aF st) N (tr ⟨fs,is⟩ 40 none (aF st) N) 40) (b8 st)=some g):eU P w K mg base (j+1) x ps.length (bp g N.length):=by
 let⟨f,fd,hm,F,hb⟩:=D.ex;exact P5 F S hb hm λX hP hw hK RV SU C _ _ HF H=>by subst hP;subst hw;subst hK;subst RV;subst SU;exact J0 C B hf hi t
def Qi{st:Stmt}(D:Jh K mg x st ps)(S:fI N ps (aF st))(B:∀x∈cU,mg x=none)(hf:k8 P w K mg base j fs)(hi:jy mg is)
  (hq:x∈jj/\x++".<locals>."++"<lambda>"=q) (t:p6 (J7 (aF st) N (tr ⟨fs,is⟩ 40 (some q) (aF st) N) 40) (b8 st)=some g):eU P w K mg base (j+4) x ps.length (bp g N.length):=by
 let⟨f,fd,c,P',hm,F,hb,hc,hh⟩:=D.ex;refine P5 (k:=j+3) F S hb hm λX hP hw hK RV SU C h1 h2 HF H=>?_;subst hP;subst hw;subst hK;subst RV;subst SU;have L:si X q:=by
  refine⟨c,P',by rw[h1,hc],by rw[h2];exact hq.2,hh,λHF tb=>?_⟩;let⟨oc,od,kV,doc,pm,an,Ru,ct,S9,rfl,lk,_⟩:=F.ex;have:=tb f oc od _ S9 c P' lk hq.1 hc hh;rw[<- hq.2];exact this
 exact fv (λs g h=>Al C B (J6 (G:=⟨fs,is⟩) (j:=j) 40 C ⟨hf,hi,B⟩ (jV _ _) λq' z=>by cases z;exact⟨L,yN _⟩) 40 h) t
end
abbrev tW(s:Stmt)(N:List Str)(S:Sg)(l:Option Str):Option GS:=p6 (J7 (aF s) N (tr S 40 l (aF s) N) 40) (b8 s)
def PJ(a:sc.kind=.function:=by rfl)(b:sc.isCoroutine=false:=by rfl)(c:sc.isGenerator=false:=by rfl)(d:N.Nodup:=by decide +kernel)(e:N.take P.length=P:=by rfl)(f:∀x∈P,sc.names.lookup x=some .local \/ sc.names.lookup x=some .cell:=by decide +kernel)(g:∀y∈sc.names,y.2≠.free:=by decide +kernel):fI N P sc:=⟨a,b,c,d,e,f,g⟩
section
variable {K:W.Frag}
def fm(F:eU P w K mg base i x n m)(h:k8 P w K mg base j l)(e:i<=j:=by decide):k8 P w K mg base j ((x,n,m)::l):=NX (F.mono e) h
def jb{st:Stmt}(D:bH K mg x st ps)(B:∀x∈cU,mg x=none)(hf:k8 P w K mg base j S.fn)(hi:jy mg S.int)(t:tW st N S none=some g)(F:fI N ps (aF st):=by exact Rf.PJ):eU P w K mg base (j+1) x ps.length (bp g N.length):=Qy D F B hf hi t
def QE{st:Stmt}(D:Jh K mg x st ps)(B:∀x∈cU,mg x=none)(hf:k8 P w K mg base j S.fn)(hi:jy mg S.int)(t:tW st N S (some q)=some g)(F:fI N ps (aF st):=by exact Rf.PJ)(hq:x∈jj/\x++".<locals>."++"<lambda>"=q:=by decide +kernel):eU P w K mg base (j+4) x ps.length (bp g N.length):=Qi D F B hf hi hq t
end
end Rf
namespace Ex
open PySem L2 PySem.Spec PyProof.Rows
section
variable {X:Cx}{pins:List (Addr×Obj)}{σ:L2.St}{H H':Hp}{s s':Shared}{cls:Value}{ea:Addr}
end
open PySem L2 Dl PySem.Spec PyProof.Rows
section
variable {X:Cx}{pins:List (Addr×Obj)}{σ:L2.St}{H H':Hp}{s s':Shared}{cls:Value}{ea:Addr}
end
open PySem PySem.W PySem.Spec PySem.Calls PyProof.Rows
section
variable {K:Frag}{x D:Addr}
end
section
variable {K:W.Frag}
end
end Ex
namespace Hd
open PySem L2 Dl PySem.Spec PyProof.Rows
section
variable {K:W.Frag}
def Oi{st:Stmt}(hb:gM st ps)(a:W.nsIn K mainGlobals x=some (some (.ref f)))(l:K.lookup f=some (fo x st pm c))(d:W.codeIn K (.ref c) x=true)(k:W.keepIn K (.ref f)=true):aM K x st ps:=NW hb a l d k
def Qm{st:Stmt}(hb:gM st ps)(a:W.nsIn K mainGlobals x=some (some (.ref f)))(l:K.lookup f=some (fo x st pm c))(d:W.codeIn K (.ref c) x=true)(k:W.keepIn K (.ref f)=true)(hh:W.codeHdIn K c (Iy K c)=true):so K x st ps:=Nx hb a l d k hh
end
section
variable {α:Type}{R:List α->Prop}
def len0{R:List Value->Prop}(h:R []):∀us:List Value,us.length=0->R us
 | [],_=>h
def xj(h:∀a,R [a])(us:List α)(e:us.length=1):R us:=by
 let⟨a,rfl⟩:=List.length_eq_one_iff.mp e;exact h a
def MO(us:List α)(e:us.length=n+1):∃a r,us=a::r/\r.length=n:=by
 cases us with
 | nil=>cases e
 | cons a r=>exact⟨a,r,rfl,by simpa using e⟩
def Gc(h:∀a b,R [a,b])(us:List α)(e:us.length=2):R us:=by
 let⟨a,r,rfl,e'⟩:=MO us e;exact xj (R:=λr=>R (a::r)) (h a) r e'
def D9(h:∀a b c,R [a,b,c])(us:List α)(e:us.length=3):R us:=by
 let⟨a,r,rfl,e'⟩:=MO us e;exact Gc (R:=λr=>R (a::r)) (h a) r e'
def Po(h:∀a b c d,R [a,b,c,d])(us:List α)(e:us.length=4):R us:=by
 let⟨a,r,rfl,e'⟩:=MO us e;exact D9 (R:=λr=>R (a::r)) (h a) r e'
end
section
variable {K:W.Frag}
def f0(f c:Addr)(pm:Value){st:Stmt}(hb:gM st ps:=by exactλ_ _ _ _ _ _ _ _ us hl=>len0 (R:=λus=>bindArgs _ ⟨us,[]⟩=pure (List.zip _ us)) rfl us hl)(a:W.nsIn K mainGlobals x=some (some (.ref f)):=by kernel_rfl)(l:K.lookup f=some (fo x st pm c):=by kernel_rfl)(d:W.codeIn K (.ref c) x=true:=by kernel_rfl)(k:W.keepIn K (.ref f)=true:=by kernel_rfl):aM K x st ps:=Oi hb a l d k
def f1(f c:Addr)(pm:Value){st:Stmt}(hb:gM st ps:=by exactλ_ _ _ _ _ _ _ _ us hl=>xj (R:=λus=>bindArgs _ ⟨us,[]⟩=pure (List.zip _ us)) (λ_=>rfl) us hl)(a:W.nsIn K mainGlobals x=some (some (.ref f)):=by kernel_rfl)(l:K.lookup f=some (fo x st pm c):=by kernel_rfl)(d:W.codeIn K (.ref c) x=true:=by kernel_rfl)(k:W.keepIn K (.ref f)=true:=by kernel_rfl):aM K x st ps:=Oi hb a l d k
def f2(f c:Addr)(pm:Value){st:Stmt}(hb:gM st ps:=by exactλ_ _ _ _ _ _ _ _ us hl=>Gc (R:=λus=>bindArgs _ ⟨us,[]⟩=pure (List.zip _ us)) (λ_ _=>rfl) us hl)(a:W.nsIn K mainGlobals x=some (some (.ref f)):=by kernel_rfl)(l:K.lookup f=some (fo x st pm c):=by kernel_rfl)(d:W.codeIn K (.ref c) x=true:=by kernel_rfl)(k:W.keepIn K (.ref f)=true:=by kernel_rfl):aM K x st ps:=Oi hb a l d k
def f3(f c:Addr)(pm:Value){st:Stmt}(hb:gM st ps:=by exactλ_ _ _ _ _ _ _ _ us hl=>D9 (R:=λus=>bindArgs _ ⟨us,[]⟩=pure (List.zip _ us)) (λ_ _ _=>rfl) us hl)(a:W.nsIn K mainGlobals x=some (some (.ref f)):=by kernel_rfl)(l:K.lookup f=some (fo x st pm c):=by kernel_rfl)(d:W.codeIn K (.ref c) x=true:=by kernel_rfl)(k:W.keepIn K (.ref f)=true:=by kernel_rfl):aM K x st ps:=Oi hb a l d k
def l3(f c:Addr)(pm:Value){st:Stmt}(hb:gM st ps:=by exactλ_ _ _ _ _ _ _ _ us hl=>D9 (R:=λus=>bindArgs _ ⟨us,[]⟩=pure (List.zip _ us)) (λ_ _ _=>rfl) us hl)(a:W.nsIn K mainGlobals x=some (some (.ref f)):=by kernel_rfl)(l:K.lookup f=some (fo x st pm c):=by kernel_rfl)(d:W.codeIn K (.ref c) x=true:=by kernel_rfl)(k:W.keepIn K (.ref f)=true:=by kernel_rfl)(hh:W.codeHdIn K c (Iy K c)=true:=by kernel_rfl):so K x st ps:=Qm hb a l d k hh
def f4(f c:Addr)(pm:Value){st:Stmt}(hb:gM st ps:=by exactλ_ _ _ _ _ _ _ _ us hl=>Po (R:=λus=>bindArgs _ ⟨us,[]⟩=pure (List.zip _ us)) (λ_ _ _ _=>rfl) us hl)(a:W.nsIn K mainGlobals x=some (some (.ref f)):=by kernel_rfl)(l:K.lookup f=some (fo x st pm c):=by kernel_rfl)(d:W.codeIn K (.ref c) x=true:=by kernel_rfl)(k:W.keepIn K (.ref f)=true:=by kernel_rfl):aM K x st ps:=Oi hb a l d k
end
end Hd
namespace Pg
open PySem L2 Dl PySem.Spec PyProof.Rows
abbrev zv:List Str:=["thing","least","most"]
def lH:ao->Option Out:=(aq (dw (lA (br (fB (Kq "int" (ae 0)))) (fB (Kq "bool" (ae 0)))) (aO (fC (.bool false))) cT) (aO (jx CG CG (ae 1) (ae 0) (ae 2))))
def aQ:List D->Option D:=bp lH 3
abbrev xx:List Str:=["thing","many"]
def j5:ao->Option Out:=(aO (ai 3 aQ (aa (ae 0) (aa (fC (.int 0)) (aa (f2 Dl.ig (ae 1) (fC (.int 1))) ah)))))
def bC:List D->Option D:=bp j5 2
abbrev C7:List Str:=["thing","least","most"]
def nr:ao->Option Out:=(aO (jg (Kq "tuple" (ae 0)) (jx CG CG (ae 1) (bh bA (aa (ae 0) ah)) (ae 2))))
def aU:List D->Option D:=bp nr 3
abbrev ya:List Str:=["thing","many"]
def jl:ao->Option Out:=(aq (dw (br (fB (Kq "tuple" (ae 0)))) (aO (fC (.bool false))) cT) (aq (dw (br (fB (bh mv (aa (cZ (aw 1 [1] (bG (ae 0)) (fG 0) (λ_=>some true) (ai 2 bC (aa (ae 0) (aa (ae 1) ah))))) ah)))) (aO (fC (.bool false))) cT) (aO (f2 bE (f1 kl (ae 0)) (bh bA (aa (ae 0) ah))))))
def eO:List D->Option D:=bp jl 2
abbrev GO:List Str:=["thing","many"]
def pS:ao->Option Out:=(aO (jg (ai 3 aU (aa (ae 0) (aa (fC (.int 2)) (aa (fC (.int 2)) ah)))) (jg (ai 3 aQ (aa (f2 az (ae 0) (fC (.int 0))) (aa (fC (.int 0)) (aa (fC (.int 9)) ah)))) (ai 2 eO (aa (f2 az (ae 0) (fC (.int 1))) (aa (ae 1) ah))))))
def eH:List D->Option D:=bp pS 2
abbrev Em:List Str:=["thing","givers","takers"]
def p8:ao->Option Out:=(aq (dw (br (fB (ai 3 aU (aa (ae 0) (aa (fC (.int 3)) (aa (fC (.int 3)) ah)))))) (aO (fC (.bool false))) cT) (aO (jg (ai 2 bC (aa (f2 az (ae 0) (fC (.int 0))) (aa (ae 1) ah))) (jg (ai 2 bC (aa (f2 az (ae 0) (fC (.int 1))) (aa (ae 2) ah))) (ai 3 aQ (aa (f2 az (ae 0) (fC (.int 2))) (aa (fC (.int 1)) (aa (fC (.int 9)) ah))))))))
def ij:List D->Option D:=bp p8 3
abbrev zh:List Str:=["givers","takers","ways"]
def jr:ao->Option Out:=(aq (dw (lA (br (fB (ai 3 aU (aa (ae 0) (aa (fC (.int 1)) (aa (fC (.int 4)) ah)))))) (br (fB (ai 3 aU (aa (ae 1) (aa (fC (.int 1)) (aa (fC (.int 4)) ah))))))) (aO (fC (.bool false))) cT) (aq (dw (br (fB (bh mv (aa (cZ (aw 1 [1] (bG (ae 0)) (fG 0) (λ_=>some true) (ai 2 eH (aa (ae 0) (aa (bh bA (aa (ae 1) ah)) ah))))) ah)))) (aO (fC (.bool false))) cT) (aq (dw (br (fB (bh mv (aa (cZ (aw 1 [0] (bG (ae 1)) (fG 0) (λ_=>some true) (ai 2 eH (aa (ae 0) (aa (bh bA (aa (ae 1) ah)) ah))))) ah)))) (aO (fC (.bool false))) cT) (aO (jg (Kq "tuple" (ae 2)) (bh mv (aa (cZ (aw 1 [0,1] (bG (ae 2)) (fG 0) (λ_=>some true) (ai 3 ij (aa (ae 0) (aa (bh bA (aa (ae 1) ah)) (aa (bh bA (aa (ae 2) ah)) ah)))))) ah)))))))
def eS:List D->Option D:=bp jr 3
abbrev qy:List Str:=["places","pairs","number","place"]
def gP:ao->Option Out:=(aq (bo 1 [] (gu ah)) (aq (dB [0] (bj (aa (ae 0) ah)) (eL 2 3) (CW 1 [2,3] (aw 1 [2] (bG (f2 az (ae 3) (fC (.int 1)))) (fG 0) (λ_=>some true) (aL (aa (ae 1) (aa (ae 0) ah)))))) (aO (ae 1))))
def bf:List D->Option D:=bp gP 4
abbrev AN:List Str:=["thing","joined","by_givers","by_takers"]
def fY:ao->Option Out:=(aq (dw (lA (br (fB (ai 3 aU (aa (ae 0) (aa (fC (.int 3)) (aa (fC (.int 3)) ah)))))) (br (fB (ai 3 eS (aa (f2 az (ae 0) (fC (.int 0))) (aa (f2 az (ae 0) (fC (.int 1))) (aa (f2 az (ae 0) (fC (.int 2))) ah))))))) (aO (fC (.bool false))) cT) (aq (bo 1 [0] (aw 1 [] (bG (f2 az (ae 0) (fC (.int 2)))) (fG 0) (λ_=>some true) (aL (aa (f2 az (ae 0) (fC (.int 0))) (aa (f2 az (ae 0) (fC (.int 1))) ah))))) (aq (bo 2 [0] (rE gz (aa (ai 1 bf (aa (f2 az (ae 0) (fC (.int 0))) ah)) ah))) (aq (bo 3 [0] (rE gz (aa (cZ (aw 2 [] (bG (ai 1 bf (aa (f2 az (ae 0) (fC (.int 1))) ah))) (ip 0 1) (λ_=>some true) (aL (aa (ae 1) (aa (ae 0) ah))))) ah))) (aO (jg (f2 bE (ae 1) (ae 2)) (f2 bE (ae 1) (ae 3))))))))
def cE:List D->Option D:=bp fY 4
abbrev rN:List Str:=["world"]
abbrev zq0:=(aa (ae 0) ah)
abbrev zq1:=(br (fB (ai 1 cE zq0)))
def cR:ao->Option Out:=(dw zq1 MX cT)
def et:List D->Option D:=bp cR 1
abbrev rM:List Str:=["thing","least","most"]
abbrev zq2:=(aa (ae 2) ah)
abbrev zq3:=(aa (ae 1) zq2)
abbrev zq4:=(aa (ae 0) zq3)
abbrev zq5:=(br (fB (ai 3 aQ zq4)))
def cQ:ao->Option Out:=(dw zq5 MX cT)
def eu:List D->Option D:=bp cQ 3
abbrev qo:List Str:=["thing","many"]
def cK:ao->Option Out:=(vo (ai 3 eu (aa (ae 0) (aa (fC (.int 0)) (aa (f2 Dl.ig (ae 1) (fC (.int 1))) ah)))))
def dE:List D->Option D:=bp cK 2
abbrev Ay:List Str:=["parts","number","part"]
def lM:ao->Option Out:=(aO (f2 aB (f2 aB (hC du (ae 0) gX (sg (ae 1))) (aL zq2)) (hC du (ae 0) (sg (f2 aB (ae 1) (fC (.int 1)))) gX)))
def dh:List D->Option D:=bp lM 3
abbrev CP:List Str:=["world","side","place","ways","likes","own"]
def j9:ao->Option Out:=(aq (aE 3 [0] (f2 az (ae 0) (fC (.int 2)))) (aq (aE 4 [0,1,2] (f2 az (f2 az (f2 az (ae 0) (ae 1)) (ae 2)) (fC (.int 1)))) (aq (bo 5 [1,2,3] (aw 2 [1,2] (bj (aa (ae 3) ah)) (ip 0 1) (fB (f2 bE (f2 az (ae 1) (ae 2)) (ae 3))) (ae 0))) (aO (cZ (nF [1,3,4] (ae 5) (f2 oF (ae 3) (f2 az (f2 az (ae 2) (ae 0)) (f2 Dl.ig (fC (.int 1)) (ae 1))))))))))
def d6:List D->Option D:=bp j9 6
abbrev wo:List Str:=["_law_script","_law_k"]
def gC:ao->Option Out:=(aq (dw (fB (f2 bE (ae 0) (cZ (gu ah)))) (aO (f2 cA (fC (.int 7)) (ae 1))) cT) (aO (f2 aB (f2 az (ae 0) (f2 jo (ae 1) (bh bA (aa (ae 0) ah)))) (f2 cA (fC (.int 6553)) (f2 lD (ae 1) (bh bA (aa (ae 0) ah)))))))
def dm:List D->Option D:=bp gC 2
abbrev uC:List Str:=["_law_script","_law_k","_law_many","_law_cell_here"]
def iB:ao->Option Out:=(aq (aE 3 [0,1] (f2 jo (f2 aB (f2 cA (f2 jo (ai 2 dm (aa (ae 0) (aa (ae 1) ah))) (fC (.int 2147483563))) (fC (.int 69069))) (f2 cA (fC (.int 104723)) (f2 aB (ae 1) (fC (.int 1))))) (fC (.int 2147483563)))) (aq (aE 3 [3] (f2 jo (f2 aB (f2 cA (ae 3) (ae 3)) (f2 lD (ae 3) (fC (.int 3)))) (fC (.int 2147483399)))) (aO (f2 jo (f2 lD (f2 jo (f2 aB (f2 cA (ae 3) (ae 3)) (f2 lD (ae 3) (fC (.int 7)))) (fC (.int 2147483647))) (fC (.int 11))) (ae 2)))))
def ak:List D->Option D:=bp iB 4
abbrev rm:List Str:=["_law_script","_law_at","_law_rows","_law_found","_law_k","_law_row","_law_order","_law_j","_law_one"]
def gN:ao->Option Out:=(aq (bo 3 [] (gu ah)) (aq (dB [2] (bj (aa (ae 2) ah)) (eL 4 5) (aq (bo 6 [] (gu ah)) (aq (dB [5] (bj (aa (ae 5) ah)) (eL 7 8) (Es 6 [8] (ai 3 ak (aa (ae 0) (aa (f2 aB (f2 aB (ae 1) (f2 cA (fC (.int 4)) (ae 4))) (ae 7)) (aa (f2 aB (bh bA (aa (ae 6) ah)) (fC (.int 1))) ah)))) (ae 8))) (l7 3 [6] (bh dX (aa (ae 6) ah)))))) (aO (ae 3))))
def bq:List D->Option D:=bp gN 9
abbrev u0:List Str:=["_law_script","_law_at","_law_most","_law_each","_law_takers","_law_many","_law_size","_law_ways","_law_k","_law_mine","_law_yours","_law_givers"]
def dF:ao->Option Out:=(aq (dw (dQ (fB (f2 Ck (ae 2) (fC (.int 3)))) (fB (f2 bE (ai 3 ak (aa (ae 0) (aa (f2 aB (ae 1) (fC (.int 64))) (aa (fC (.int 4)) ah)))) (fC (.int 0))))) (aq (aE 3 [0,1] (f2 aB (fC (.int 1)) (ai 3 ak (aa (ae 0) (aa (f2 aB (ae 1) (fC (.int 65))) (aa (fC (.int 2)) ah)))))) (aq (aE 4 [3] (aL (aa (aL (aa (ae 3) (aa (aL (aa (fC (.int 1)) (aa (fC (.int 0)) ah))) ah))) (aa (aL (aa (ae 3) (aa (aL (aa (fC (.int 0)) (aa (fC (.int 1)) ah))) ah))) ah)))) (aO (aL (aa (aL (aa (aL (aa (ae 3) (aa (aL (aa (fC (.int 0)) (aa (fC (.int 1)) ah))) ah))) (aa (aL (aa (ae 3) (aa (aL (aa (fC (.int 1)) (aa (fC (.int 0)) ah))) ah))) ah))) (aa (ae 4) (aa (aL (aa (aL (aa (fC (.int 0)) (aa (fC (.int 0)) (aa (fC (.int 2)) ah)))) (aa (aL (aa (fC (.int 0)) (aa (fC (.int 1)) (aa (fC (.int 2)) ah)))) (aa (aL (aa (fC (.int 1)) (aa (fC (.int 0)) (aa (fC (.int 2)) ah)))) (aa (aL (aa (fC (.int 1)) (aa (fC (.int 1)) (aa (fC (.int 2)) ah)))) ah))))) ah))))))) cT) (aq (aE 5 [0,1] (f2 aB (fC (.int 1)) (ai 3 ak (aa (ae 0) (aa (ae 1) (aa (fC (.int 3)) ah)))))) (aq (aE 6 [0,1] (f2 aB (fC (.int 1)) (ai 3 ak (aa (ae 0) (aa (f2 aB (ae 1) (fC (.int 1))) (aa (fC (.int 3)) ah)))))) (aq (bo 7 [] (gu ah)) (aq (dB [5,6] (bw (aa (f2 cA (ae 5) (ae 6)) ah)) (td 8) (dw (dQ (fB (f2 Hh (bh bA (aa (ae 7) ah)) (ae 2))) (fB (f2 Ck (ai 3 ak (aa (ae 0) (aa (f2 aB (f2 aB (ae 1) (fC (.int 2))) (ae 8)) (aa (fC (.int 4)) ah)))) (fC (.int 0))))) (l7 7 [0,1,6,8] (aL (aa (f2 lD (ae 8) (ae 6)) (aa (f2 jo (ae 8) (ae 6)) (aa (f2 aB (fC (.int 1)) (ai 3 ak (aa (ae 0) (aa (f2 aB (f2 aB (ae 1) (fC (.int 12))) (ae 8)) (aa (fC (.int 2)) ah))))) ah))))) cT)) (aq (aE 9 [0,1,5,7] (ai 3 bq (aa (ae 0) (aa (f2 aB (ae 1) (fC (.int 24))) (aa (cZ (aw 1 [7] (bw (aa (ae 5) ah)) (fG 0) (λ_=>some true) (cZ (aw 1 [0] (bG (ae 1)) (fG 0) (fB (f2 bE (f2 az (ae 0) (fC (.int 0))) (ae 1))) (f2 az (ae 0) (fC (.int 1))))))) ah))))) (aq (aE 10 [0,1,6,7] (ai 3 bq (aa (ae 0) (aa (f2 aB (ae 1) (fC (.int 40))) (aa (cZ (aw 1 [7] (bw (aa (ae 6) ah)) (fG 0) (λ_=>some true) (cZ (aw 1 [0] (bG (ae 1)) (fG 0) (fB (f2 bE (f2 az (ae 0) (fC (.int 1))) (ae 1))) (f2 az (ae 0) (fC (.int 0))))))) ah))))) (aq (aE 11 [0,1,8,9] (bh dX (aa (cZ (aw 2 [0,1] (bj (aa (ae 9) ah)) (ip 0 1) (λ_=>some true) (aL (aa (ai 3 ak (aa (ae 2) (aa (f2 aB (f2 aB (ae 3) (fC (.int 56))) (ae 0)) (aa (fC (.int 4)) ah)))) (aa (ae 1) ah))))) ah))) (aq (aE 4 [0,1,8,10] (bh dX (aa (cZ (aw 2 [0,1] (bj (aa (ae 10) ah)) (ip 0 1) (λ_=>some true) (aL (aa (ai 3 ak (aa (ae 2) (aa (f2 aB (f2 aB (ae 3) (fC (.int 60))) (ae 0)) (aa (fC (.int 4)) ah)))) (aa (ae 1) ah))))) ah))) (aO (aL (aa (ae 11) (aa (ae 4) (aa (bh dX (aa (ae 7) ah)) ah))))))))))))))
def bW:List D->Option D:=bp dF 12
abbrev Dr:List Str:=["world","plan","side","place"]
def nI:ao->Option Out:=(aO (bh eV (aa (cZ (aw 2 [2,3] (dP (aa (f2 az (ae 0) (fC (.int 2))) (aa (ae 1) ah))) (ip 0 1) (fB (f2 bE (f2 az (ae 0) (ae 2)) (ae 3))) (ae 1))) ah)))
def bL:List D->Option D:=bp nI 4
abbrev oI:List Str:=["world","plan","side"]
def e8:ao->Option Out:=(aO (bh mv (aa (cZ (aw 2 [0,1,2] (bj (aa (f2 az (ae 0) (ae 2)) ah)) (ip 0 1) (λ_=>some true) (f2 CG (ai 4 bL (aa (ae 2) (aa (ae 3) (aa (ae 4) (aa (ae 0) ah))))) (f2 az (ae 1) (fC (.int 0)))))) ah)))
def cm:List D->Option D:=bp e8 3
abbrev D6:List Str:=["world","thing","ways"]
def k5:ao->Option Out:=(aq (aE 2 [0] (f2 az (ae 0) (fC (.int 2)))) (aq (dw (br (fB (ai 3 aU (aa (ae 1) (aa (bh bA (aa (ae 2) ah)) (aa (bh bA (aa (ae 2) ah)) ah)))))) (aO (fC (.bool false))) cT) (aq (dw (br (fB (bh mv (aa (cZ (aw 2 [] (dP (aa (ae 2) (aa (ae 1) ah))) (ip 0 1) (λ_=>some true) (ai 3 aQ (aa (ae 1) (aa (fC (.int 0)) (aa (f2 az (ae 0) (fC (.int 2))) ah)))))) ah)))) (aO (fC (.bool false))) cT) (aO (jg (ai 3 cm (aa (ae 0) (aa (ae 1) (aa (fC (.int 0)) ah)))) (ai 3 cm (aa (ae 0) (aa (ae 1) (aa (fC (.int 1)) ah)))))))))
def dR:List D->Option D:=bp k5 3
abbrev vd:List Str:=["world","plan"]
abbrev YC:=(aa (ae 1) ah)
abbrev Xu:=(aa (ae 0) YC)
def dG:ao->Option Out:=(aq (vo (ai 1 et zq0)) (dw (br (fB (ai 2 dR Xu))) MX cT))
def bX:List D->Option D:=bp dG 2
abbrev ux:List Str:=["world","plan","side","way","place","own","less_liked"]
def fx:ao->Option Out:=(aq (aE 4 [0,2,3] (f2 az (f2 az (f2 az (ae 0) (fC (.int 2))) (ae 3)) (ae 2))) (aq (dw (fB (f2 Hh (ai 4 bL (aa (ae 0) (aa (ae 1) (aa (ae 2) (aa (ae 4) ah))))) (f2 az (f2 az (f2 az (ae 0) (ae 2)) (ae 4)) (fC (.int 0))))) (aO (fC (.bool true))) cT) (aq (aE 5 [0,2,4] (ai 3 d6 (aa (ae 0) (aa (ae 2) (aa (ae 4) ah))))) (aq (aE 6 [3,5] (hC du (ae 5) (sg (f2 aB (f2 oF (ae 5) (ae 3)) (fC (.int 1)))) gX)) (aO (bh Rf.GW (aa (cZ (aw 1 [1] (bG (ae 6)) (fG 0) (λ_=>some true) (f2 Ck (f2 az (ae 1) (ae 0)) (fC (.int 0))))) ah)))))))
def dH:List D->Option D:=bp fx 7
abbrev AA:List Str:=["world","plan","way"]
abbrev zq8:=(f2 az (ae 1) (ae 2))
abbrev zq9:=(f2 az (ae 0) (fC (.int 2)))
abbrev W2:=(f2 az zq9 (ae 2))
abbrev ack:=(f2 bE zq8 (f2 az W2 (fC (.int 2))))
abbrev YD:=(fB ack)
abbrev acm:=(aa (ae 1) (aa (fC (.int 0)) zq2))
abbrev acn:=(aa (ae 0) acm)
abbrev aco:=(ai 4 dH acn)
abbrev acp:=(fB aco)
abbrev YE:=(br acp)
abbrev acq:=(aa (ae 1) (aa (fC (.int 1)) zq2))
abbrev acr:=(aa (ae 0) acq)
abbrev acs:=(ai 4 dH acr)
abbrev acu:=(fB acs)
abbrev YF:=(br acu)
def iO:ao->Option Out:=(aq (dw YD (aO (fC (.str "full"))) cT) (aq (dw YE (aO (fC (.str "giver"))) cT) (aq (dw YF (aO (fC (.str "taker"))) cT) (aO (fC .none)))))
def dS:List D->Option D:=bp iO 3
abbrev oC:List Str:=["world","plan","way"]
abbrev acv:=(bh bA YC)
abbrev W3:=(aa acv ah)
abbrev W4:=(bw W3)
abbrev acw:=(ai 3 dS zq4)
abbrev acx:=(f2 p9 acw (fC .none))
abbrev W5:=(fB acx)
abbrev T5:=(aO (ae 2))
def cY:ao->Option Out:=(aq (dB [1] W4 (td 2) (dw W5 T5 cT)) (aO (fC .none)))
def aY:List D->Option D:=bp cY 3
abbrev Bj:List Str:=["world","plan"]
abbrev YG:=(ai 2 aY Xu)
def iP:ao->Option Out:=(aO (f2 p9 YG (fC .none)))
def dY:List D->Option D:=bp iP 2
abbrev Df:List Str:=["world","plan"]
abbrev acy:=(ai 2 bX Xu)
abbrev UE:=(vo acy)
abbrev acz:=(aa (ae 1) (aa (ae 2) zq0))
abbrev acA:=(ai 3 dS acz)
abbrev acB:=(f2 p9 acA (fC .none))
abbrev YH:=(fB acB)
def ku:ao->Option Out:=(aq UE (aO (cZ (aw 1 [0,1] W4 (fG 0) YH (ae 0)))))
def bN:List D->Option D:=bp ku 2
abbrev HB:List Str:=["world","plan"]
def oX:ao->Option Out:=(aq UE (aO (ai 2 dY Xu)))
def cN:List D->Option D:=bp oX 2
abbrev yj:List Str:=["_law_world_here","_law_plan_here","_law_side","_law_place"]
def jt:ao->Option Out:=(aO (bh eV (aa (cZ (aw 2 [2,3] (dP (aa (ae 1) (aa (f2 az (ae 0) (fC (.int 2))) ah))) (ip 0 1) (fB (f2 bE (f2 az (ae 1) (ae 2)) (ae 3))) (ae 0))) ah)))
def gE:List D->Option D:=bp jt 4
abbrev xr:List Str:=["_law_world_here","_law_plan_here","_law_side","_law_place","_law_row"]
abbrev S5:=(aa (fC (.int 2)) ah)
abbrev acC:=(f2 az (ae 0) (ae 2))
abbrev YI:=(aa acC ah)
abbrev acD:=(bj YI)
abbrev W6:=(aa (ae 3) ah)
abbrev YJ:=(aa (ae 2) W6)
abbrev acE:=(aa (ae 1) YJ)
abbrev acF:=(aa (ae 0) acE)
abbrev acG:=(ai 4 gE acF)
abbrev YK:=(f2 az (ae 4) (fC (.int 0)))
abbrev acH:=(f2 Ck acG YK)
abbrev W7:=(fB acH)
abbrev Rn:=(aO (fC (.bool false)))
abbrev acI:=(dw W7 Rn cT)
abbrev YL:=(dB [0,2] acD (eL 3 4) acI)
abbrev W8:=(aO (fC (.bool true)))
def gJ:ao->Option Out:=(aq (dB [] (bw S5) (td 2) YL) W8)
def cJ:List D->Option D:=bp gJ 5
abbrev vz:List Str:=["_law_script","_law_at","_law_world_here","_law_found","_law_k","_law_way","_law_more","_law_fit"]
abbrev acJ:=(f2 az (ae 2) (fC (.int 2)))
abbrev W9:=(aa acJ ah)
abbrev YM:=(aa (fC (.int 0)) ah)
abbrev UG:=(aL YM)
abbrev Xa:=(aa (ae 6) ah)
def gy:ao->Option Out:=(aq (aE 3 [] (aL ah)) (aq (dB [2] (bj W9) (eL 4 5) (aq (aE 6 [0,1,3,4,5] (f2 aB (ae 3) (aL (aa (ai 3 ak (aa (ae 0) (aa (f2 aB (ae 1) (ae 4)) (aa (f2 aB (f2 az (ae 5) (fC (.int 2))) (fC (.int 1))) ah)))) ah)))) (aq (aE 7 [2,6] (ai 2 cJ (aa (ae 2) (aa (f2 aB (ae 6) (f2 cA UG (f2 Dl.ig (bh bA W9) (bh bA Xa)))) ah)))) (aE 3 [3,6,7] (HA (fB (ae 7)) (ae 6) (f2 aB (ae 3) UG)))))) (aO (ae 3))))
def cF:List D->Option D:=bp gy 8
open PySem L2 Dl PySem.Spec PyProof.Rows Ex
abbrev lx:List Str:=["world","plan","side","place"]
abbrev acK:=(aa (ae 0) YJ)
abbrev acL:=(ai 3 d6 acK)
abbrev YN:=(bG acL)
abbrev acM:=(f2 Ck (f2 az (ae 1) (ae 0)) (fC (.int 0)))
abbrev YO:=(fB acM)
abbrev T6:=(f1 Et (fC (.int 1)))
def bU:ao->Option Out:=(aO (f2 az (cZ (aw 1 [1] YN (fG 0) YO (ae 0))) T6))
def cf:List D->Option D:=bp bU 4
abbrev yf:List Str:=["world","plan","way","changed","side","place","given_up"]
abbrev acN:=(f2 aB zq8 (fC (.int 1)))
abbrev acO:=(aa acN ah)
abbrev acP:=(aa (ae 2) acO)
abbrev YQ:=(aa (ae 1) acP)
abbrev acQ:=(ai 3 dh YQ)
abbrev YR:=(aE 3 [1,2] acQ)
abbrev Xb:=(aa (fC (.int 1)) ah)
abbrev YS:=(bG (aL (aa (fC (.int 0)) Xb)))
abbrev acR:=(aE 5 [0,2,4] (f2 az W2 (ae 4)))
abbrev UH:=(aa (ae 5) ah)
abbrev acS:=(aa (ae 4) UH)
abbrev acT:=(aa (ae 1) acS)
abbrev YT:=(aa (ae 0) acT)
abbrev acU:=(ai 4 bL YT)
abbrev Vj:=(f2 az (f2 az (ae 0) (ae 4)) (ae 5))
abbrev acV:=(f2 az Vj (fC (.int 0)))
abbrev YU:=(f2 bE acU acV)
abbrev acW:=(fB YU)
abbrev acX:=(ai 4 cf YT)
abbrev acY:=(aE 6 [0,1,4,5] acX)
abbrev acZ:=(f2 az (ae 3) (ae 6))
abbrev ac0:=(f2 Dl.ig acZ (fC (.int 1)))
abbrev ac1:=(aa ac0 ah)
abbrev ac2:=(aa (ae 6) ac1)
abbrev YV:=(aa (ae 3) ac2)
abbrev ac3:=(ai 3 dh YV)
abbrev ac4:=(aE 3 [3,6] ac3)
abbrev ac5:=(aq acY ac4)
abbrev ac6:=(dw acW ac5 cT)
abbrev YW:=(aq acR ac6)
def nQ:ao->Option Out:=(aq YR (aq (dB [] YS (td 4) YW) (aO (ae 3))))
def cC:List D->Option D:=bp nQ 7
abbrev F6:List Str:=["world","plan","way"]
def mr:ao->Option Out:=(aq UE (aq (vo (ai 2 dE (aa (ae 2) W3))) (aq (dw (fB (f2 qj (ae 2) (ai 2 bN Xu))) MX cT) (aO (ai 3 cC zq4)))))
def cW:List D->Option D:=bp mr 3
abbrev LZ:List Str:=["world","plan","found","seen","way","reached"]
abbrev YX:=(aE 4 [0,1] YG)
abbrev ac7:=(f2 o7 (ae 4) (fC .none))
abbrev Xc:=(fB ac7)
abbrev ac8:=(f2 az (ae 2) T6)
abbrev YY:=(aa (ae 4) ah)
abbrev ac9:=(aa ac8 YY)
abbrev VE:=(aa (ae 0) ac9)
abbrev VF:=(ai 3 cC VE)
abbrev VG:=(aE 5 [0,2,4] VF)
abbrev YZ:=(ai 2 aY (aa (ae 0) UH))
abbrev VH:=(aE 4 [0,5] YZ)
def EO:ao->Option Out:=(aq UE (aq (bo 2 [1] (gu YC)) (aq (tj 3 1 (fC (.bool true))) (aq YX (aq (Ed Xc (aq VG (aq (rX 5 3 T5 cT) (aq (l7 2 [5] (ae 5)) (aq (pw 3 5 (fC (.bool true))) VH)))) Rf.turns) T5)))))
def da:List D->Option D:=bp EO 6
abbrev oz:List Str:=["world","plan"]
def cX:ao->Option Out:=(aO (ai 2 dY (aa (ae 0) (aa (f2 az (ai 2 da Xu) T6) ah))))
def aH:List D->Option D:=bp cX 2
abbrev rg:List Str:=["_law_world_here","_law_one","_law_other","_law_way","_law_side","_law_place","_law_row","_law_goes","_law_k","_law_plan_here","_law_there","_law_pair"]
abbrev VI:=(f2 az zq9 (ae 3))
abbrev Y0:=(f2 az VI (ae 4))
abbrev VJ:=(aE 5 [0,3,4] Y0)
abbrev VL:=(aE 6 [0,4,5] (f2 az Vj (fC (.int 1))))
abbrev RX:=(gu ah)
abbrev Y1:=(aL zq3)
abbrev VM:=(aa Y1 ah)
abbrev VN:=(bj VM)
abbrev VO:=(HA (fB (f2 bE (ae 4) (fC (.int 0)))) (aL (aa (ae 5) (aa (ae 10) ah))) (aL (aa (ae 10) UH)))
abbrev Y2:=(aa zq9 ah)
abbrev VP:=(aa (ae 9) Y2)
abbrev VQ:=(dP VP)
abbrev Y3:=(sg (fC (.int 2)))
abbrev Y4:=(hC du (ae 1) gX Y3)
abbrev Y5:=(f2 bE Y4 (ae 2))
abbrev VR:=(fB Y5)
abbrev Y6:=(aw 2 [11] VQ (ip 0 1) VR (ae 0))
abbrev Y7:=(cZ Y6)
abbrev Y8:=(aa Y7 ah)
abbrev VS:=(bh eV Y8)
abbrev Tt:=(f2 az (ae 7) (fC (.int 1)))
abbrev Tu:=(f2 az (ae 7) (fC (.int 0)))
abbrev Y9:=(f2 Hh (bh eV (aa Tt ah)) (bh eV (aa Tu ah)))
abbrev VT:=(fB Y9)
def d9:ao->Option Out:=(aq (dB [] (bw S5) (td 4) (aq VJ (aq VL (aq (yu 7 RX RX) (aq (dB [1,2] VN (eL 8 9) (dB [6] (bG (ae 6)) (td 10) (aq (aE 11 [4,5,10] VO) (rY 7 (ae 8) VS)))) (dw (lA (fB (f2 Gx Tt Tu)) VT) Rn cT)))))) W8)
def eh:List D->Option D:=bp d9 12
abbrev uV:List Str:=["_law_givers","_law_takers","_law_world_here","_law_rows","_law_there"]
abbrev Za:=(aa (fC (.int 2)) Xb)
abbrev Zb:=(aa (fC (.int 0)) Za)
abbrev Zc:=(aL Zb)
abbrev Zd:=(aa Zc ah)
abbrev Ze:=(aa (fC (.int 1)) Zd)
abbrev UI:=(aL Ze)
abbrev Zf:=(aa (fC (.int 0)) S5)
abbrev Zg:=(aa (fC (.int 1)) Zf)
abbrev Zh:=(aL Zg)
abbrev Zi:=(aa Zh ah)
abbrev Zj:=(aa (fC (.int 1)) Zi)
abbrev VU:=(aL Zj)
abbrev Zk:=(aa UI ah)
abbrev Zl:=(aa VU Zk)
abbrev Zm:=(aa UI Zl)
abbrev Zn:=(aL Zm)
abbrev VV:=(aE 0 [] Zn)
abbrev Zo:=(aa (fC (.int 1)) YM)
abbrev Zq:=(aa (fC (.int 2)) Zo)
abbrev Zr:=(aL Zq)
abbrev Zs:=(aa Zr ah)
abbrev Zt:=(aa (fC (.int 1)) Zs)
abbrev Zu:=(aL Zt)
abbrev Zv:=(aa Zu ah)
abbrev Zw:=(aa UI Zv)
abbrev Zx:=(aa VU Zw)
abbrev Zy:=(aL Zx)
abbrev VW:=(aE 1 [] Zy)
abbrev VX:=(aa (fC (.int 9)) ah)
abbrev Zz:=(bw VX)
abbrev ZA:=(aa (f2 jo (ae 0) (fC (.int 3))) Xb)
abbrev ZC:=(aa (f2 lD (ae 0) (fC (.int 3))) ZA)
abbrev ZD:=(aL ZC)
abbrev ZE:=(aw 1 [] Zz (fG 0) (λ_=>some true) ZD)
abbrev ZF:=(cZ ZE)
abbrev ZH:=(aa ZF ah)
abbrev ZI:=(bh dX ZH)
abbrev ZJ:=(aa ZI ah)
abbrev ZK:=(aa (ae 1) ZJ)
abbrev ZL:=(aa (ae 0) ZK)
abbrev ZM:=(aL ZL)
abbrev VY:=(aE 2 [0,1] ZM)
abbrev Tv:=(aa (ae 2) (aa (f2 cA UG (fC (.int 9))) ah))
abbrev VZ:=(f2 az (ae 3) T6)
abbrev ZN:=(aa VZ ah)
abbrev ZO:=(aa (ae 2) ZN)
abbrev ZP:=(ai 2 bN ZO)
abbrev ZQ:=(f2 az ZP (fC (.int 0)))
abbrev ZR:=(aa ZQ ah)
abbrev ZT:=(aa VZ ZR)
abbrev V0:=(aa (ae 2) ZT)
def fA:ao->Option Out:=(aq VV (aq VW (aq VY (aq (aE 3 [2] (ai 2 da Tv)) (aq (aE 4 [2,3] (ai 3 cW V0)) (aO (jg (f2 p9 (ai 2 aH Tv) (fC (.bool false))) (f2 bE (f2 D2 (ae 3) (ae 4)) (fC (.int 3))))))))))
def fK:List D->Option D:=bp fA 5
abbrev su:List Str:=["_law_script","_law_world_here","_law_k","_law_plan_here","_law_rows","_law_one","_law_other","_law_way","_law_last","_law_at"]
abbrev UJ:=(aa (ae 1) W6)
abbrev V1:=(bh bA YY)
abbrev ZU:=(aa (ae 1) UH)
abbrev V2:=(ai 2 bN ZU)
abbrev ZV:=(f2 az V2 (fC (.int 0)))
abbrev ZW:=(aE 7 [1,5] ZV)
abbrev ZX:=(ai 2 dR (aa (ae 1) Xa))
abbrev ZY:=(fB ZX)
abbrev ZZ:=(br ZY)
abbrev V3:=(aa (ae 7) ah)
abbrev Z0:=(aa (ae 5) V3)
abbrev Z6:=(aa (ae 1) Z0)
abbrev Z7:=(ai 3 cW Z6)
abbrev Z8:=(f2 dz Z7 (ae 6))
abbrev Z9:=(fB Z8)
abbrev aaa:=(lA ZZ Z9)
abbrev aab:=(dw aaa Rn cT)
abbrev aac:=(f2 aB (f2 az (ae 5) (ae 7)) (fC (.int 1)))
abbrev aad:=(f2 dz (f2 az (ae 6) (ae 7)) aac)
abbrev aae:=(fB aad)
abbrev aaf:=(dw aae Rn cT)
abbrev V4:=(bh eV Xa)
abbrev V5:=(bh eV UH)
abbrev aag:=(f2 Dl.ig V4 V5)
abbrev V6:=(aa aag ah)
abbrev aah:=(bh EC V6)
abbrev aai:=(f2 Ck aah (fC (.int 1)))
abbrev aaj:=(fB aai)
abbrev aak:=(dw aaj Rn cT)
abbrev aal:=(aa (ae 6) V3)
abbrev aam:=(aa (ae 5) aal)
abbrev aan:=(aa (ae 1) aam)
abbrev aao:=(ai 4 eh aan)
abbrev aap:=(fB aao)
abbrev aaq:=(br aap)
abbrev aar:=(dw aaq Rn cT)
abbrev aas:=(aq aak aar)
abbrev aat:=(aq aaf aas)
abbrev aau:=(aq aab aat)
abbrev V7:=(aq ZW aau)
abbrev aav:=(aa (ae 8) ah)
abbrev V8:=(aa (ae 1) aav)
abbrev V9:=(ai 2 cN V8)
abbrev Wa:=(fB V9)
abbrev aaw:=(f2 aB (fC (.int 95)) (ae 2))
abbrev aax:=(aa V1 ah)
abbrev aay:=(aa aaw aax)
abbrev Wb:=(aa (ae 0) aay)
abbrev aaz:=(aa (f2 az (ae 4) (ae 9)) ah)
abbrev Wc:=(aa (ae 1) aaz)
def kh:ao->Option Out:=(aq (dw (br (fB (ai 0 fK ah))) Rn cT) (aq (aE 1 [0] (ai 3 bW (aa (ae 0) (aa (fC (.int 0)) VX)))) (aq (dB [] (bw S5) (td 2) (aq (aE 3 [0,1,2] (ai 3 cF (aa (ae 0) (aa (f2 aB (fC (.int 70)) (f2 cA (fC (.int 10)) (ae 2))) YC)))) (aq (aE 4 [1,3] (ai 2 da UJ)) (aq (dw (lA (fB (f2 dz YK (ae 3))) (fB (f2 dz (f1 fX (ae 4)) V1))) Rn cT) (aq (dw (dQ (fB (ai 2 cN UJ)) (fB (f2 dz (ae 4) (cZ (gu W6))))) Rn cT) (aq (dB [4] (dP (aa (ae 4) (aa (hC du (ae 4) (sg (fC (.int 1))) gX) ah))) (eL 5 6) V7) (aq (aE 8 [4] (f2 az (ae 4) T6)) (aq (dw (fB (f2 dz (ai 2 aH UJ) V9)) Rn cT) (aq (dw (dQ (br Wa) (fB (f2 qj (ai 3 cW (aa (ae 1) (aa (ae 8) (aa (f2 az (ai 2 bN V8) (fC (.int 0))) ah)))) (ae 4)))) Rn cT) (dw Wa (aq (aE 9 [0,2,4] (ai 3 ak Wb)) (aq (dw (fB (f2 dz (ai 2 da Wc) (hC du (ae 4) (sg (ae 9)) gX))) Rn cT) (dw (br (fB (ai 2 aH Wc))) Rn cT))) cT)))))))))) W8)))
def gV:List D->Option D:=bp kh 10
end Pg
namespace K44
open PySem L2 Dl PySem.Spec PyProof.Rows
open Pg
abbrev pV:Stmt:=top 8
def AB:Rf.tW pV zv ⟨[],[]⟩ none=some lH:=by kernel_rfl
abbrev nW:Stmt:=top 9
def xc:Rf.tW nW xx ⟨[("is_whole",3,aQ)],[]⟩ none=some j5:=by kernel_rfl
abbrev tx:Stmt:=top 10
def Dx:Rf.tW tx C7 ⟨[],[]⟩ none=some nr:=by kernel_rfl
abbrev oh:Stmt:=top 11
def wb:Rf.tW oh ya ⟨[("is_number",2,bC)],[]⟩ none=some jl:=by kernel_rfl
abbrev yg:Stmt:=top 12
def Eu:Rf.tW yg GO ⟨[("is_long",3,aU),("is_whole",3,aQ),("are_likes",2,eO)],[("MOST",9)]⟩ none=some pS:=by kernel_rfl
abbrev vp:Stmt:=top 13
def FA:Rf.tW vp Em ⟨[("is_long",3,aU),("is_number",2,bC),("is_whole",3,aQ)],[("MOST",9)]⟩ none=some p8:=by kernel_rfl
abbrev nZ:Stmt:=top 14
def zg:Rf.tW nZ zh ⟨[("is_long",3,aU),("is_end",2,eH),("is_way",3,ij)],[("MOST_PLACES",4)]⟩ none=some jr:=by kernel_rfl
abbrev lr:Stmt:=top 15
def rh:Rf.tW lr qy ⟨[],[]⟩ none=some gP:=by kernel_rfl
abbrev qc:Stmt:=top 16
def Be:Rf.tW qc AN ⟨[("liked_pairs",1,bf),("is_long",3,aU),("are_parts",3,eS)],[]⟩ none=some fY:=by kernel_rfl
abbrev sJ:Stmt:=top 17
def Dz:Rf.tW sJ Dr ⟨[],[]⟩ none=some nI:=by kernel_rfl
abbrev iU:Stmt:=top 18
def oD:Rf.tW iU oI ⟨[("through",4,bL)],[]⟩ none=some e8:=by kernel_rfl
abbrev sk:Stmt:=top 19
def DM:Rf.tW sk D6 ⟨[("is_long",3,aU),("keeps_amounts",3,cm),("is_whole",3,aQ)],[]⟩ none=some k5:=by kernel_rfl
abbrev lh:Stmt:=top 20
def rf:Rf.tW lh rN ⟨[("is_world",1,cE)],[]⟩ none=some cR:=by kernel_rfl
abbrev ma:Stmt:=top 21
def vc:Rf.tW ma vd ⟨[("check_world",1,et),("is_plan",2,dR)],[]⟩ none=some dG:=by kernel_rfl
abbrev lj:Stmt:=top 22
def rJ:Rf.tW lj rM ⟨[("is_whole",3,aQ)],[]⟩ none=some cQ:=by kernel_rfl
abbrev jn:Stmt:=top 23
def qr:Rf.tW jn qo ⟨[("check_whole",3,eu)],[]⟩ none=some cK:=by kernel_rfl
abbrev pA:Stmt:=top 24
def Am:Rf.tW pA Ay ⟨[],[]⟩ none=some lM:=by kernel_rfl
abbrev sS:Stmt:=top 26
def DU:Rf.tW sS CP ⟨[],[]⟩ (some "ways_of.<locals>.<lambda>")=some j9:=by kernel_rfl
abbrev mj:Stmt:=top 27
def tZ:Rf.tW mj ux ⟨[("ways_of",3,d6),("through",4,bL)],[]⟩ none=some fx:=by kernel_rfl
abbrev o9:Stmt:=top 28
def zu:Rf.tW o9 AA ⟨[("wants_more",4,dH)],[]⟩ none=some iO:=by kernel_rfl
abbrev i8:Stmt:=top 29
def oH:Rf.tW i8 oC ⟨[("why_kept",3,dS)],[]⟩ none=some cY:=by kernel_rfl
abbrev pe:Stmt:=top 30
def Ad:Rf.tW pe Bj ⟨[("first_leaving",2,aY)],[]⟩ none=some iP:=by kernel_rfl
abbrev sR:Stmt:=top 31
def C2:Rf.tW sR Df ⟨[("check_plan",2,bX),("why_kept",3,dS)],[]⟩ none=some ku:=by kernel_rfl
abbrev Bs:Stmt:=top 32
def IR:Rf.tW Bs HB ⟨[("check_plan",2,bX),("is_still",2,dY)],[]⟩ none=some oX:=by kernel_rfl
abbrev fZ:Stmt:=top 34
def lV:Rf.tW fZ lx ⟨[("ways_of",3,d6)],[]⟩ none=some bU:=by kernel_rfl
abbrev oq:Stmt:=top 35
def wx:Rf.tW oq yf ⟨[("replaced",3,dh),("through",4,bL),("least_liked_used",4,cf)],[]⟩ none=some nQ:=by kernel_rfl
abbrev yz:Stmt:=top 36
def EF:Rf.tW yz F6 ⟨[("check_plan",2,bX),("check_number",2,dE),("pushed_on",3,cC),("leaving",2,bN)],[]⟩ none=some mr:=by kernel_rfl
abbrev GQ:Stmt:=top 37
def LL:Rf.tW GQ LZ ⟨[("check_plan",2,bX),("first_leaving",2,aY),("pushed_on",3,cC)],[]⟩ none=some EO:=by kernel_rfl
abbrev iZ:Stmt:=top 38
def oG:Rf.tW iZ oz ⟨[("is_still",2,dY),("walk",2,da)],[]⟩ none=some cX:=by kernel_rfl
abbrev oi:Stmt:=top 40
def wt:Rf.tW oi wo ⟨[],[]⟩ none=some gC:=by kernel_rfl
abbrev mi:Stmt:=top 41
def uU:Rf.tW mi uC ⟨[("_law_cell",2,dm)],[]⟩ none=some iB:=by kernel_rfl
abbrev k9:Stmt:=top 42
def rF:Rf.tW k9 rm ⟨[("_law_drawn",3,ak)],[]⟩ none=some gN:=by kernel_rfl
abbrev mS:Stmt:=top 43
def uH:Rf.tW mS u0 ⟨[("_law_orders",3,bq),("_law_drawn",3,ak)],[]⟩ none=some dF:=by kernel_rfl
abbrev oe:Stmt:=top 44
def xp:Rf.tW oe yj ⟨[],[]⟩ none=some jt:=by kernel_rfl
abbrev nR:Stmt:=top 45
def y0:Rf.tW nR xr ⟨[("_law_used",4,gE)],[]⟩ none=some gJ:=by kernel_rfl
abbrev n6:Stmt:=top 46
def vh:Rf.tW n6 vz ⟨[("_law_fits",2,cJ),("_law_drawn",3,ak)],[]⟩ none=some gy:=by kernel_rfl
abbrev ll:Stmt:=top 47
def rz:Rf.tW ll rg ⟨[],[]⟩ none=some d9:=by kernel_rfl
abbrev mG:Stmt:=top 48
def uK:Rf.tW mG uV ⟨[("walk",2,da),("pushed",3,cW),("leaving",2,bN),("comes_to_rest",2,aH)],[]⟩ none=some fA:=by kernel_rfl
abbrev JP:Stmt:=top 49
def Nh:Rf.tW JP su ⟨[("_law_world",3,bW),("_law_turns",0,fK),("_law_plan",3,cF),("walk",2,da),("rests",2,cN),("comes_to_rest",2,aH),("_law_drawn",3,ak),("leaving",2,bN),("_law_better",4,eh),("pushed",3,cW),("is_plan",2,dR)],[]⟩ none=some kh:=by kernel_rfl
structure bJ(K:W.Frag)(mg:Str->Option Value):Prop where
 c0:bH K mg "is_whole" pV ["thing","least","most"]
 c1:bH K mg "is_number" nW ["thing","many"]
 c2:bH K mg "is_long" tx ["thing","least","most"]
 c3:bH K mg "are_likes" oh ["thing","many"]
 c4:bH K mg "is_end" yg ["thing","many"]
 c5:bH K mg "is_way" vp ["thing","givers","takers"]
 c6:bH K mg "are_parts" nZ ["givers","takers","ways"]
 c7:bH K mg "liked_pairs" lr ["places"]
 c8:bH K mg "is_world" qc ["thing"]
 c9:bH K mg "through" sJ ["world","plan","side","place"]
 c10:bH K mg "keeps_amounts" iU ["world","plan","side"]
 c11:bH K mg "is_plan" sk ["world","thing"]
 c12:bH K mg "check_world" lh ["world"]
 c13:bH K mg "check_plan" ma ["world","plan"]
 c14:bH K mg "check_whole" lj ["thing","least","most"]
 c15:bH K mg "check_number" jn ["thing","many"]
 c16:bH K mg "replaced" pA ["parts","number","part"]
 c17:Jh K mg "ways_of" sS ["world","side","place"]
 c18:bH K mg "wants_more" mj ["world","plan","side","way"]
 c19:bH K mg "why_kept" o9 ["world","plan","way"]
 c20:bH K mg "first_leaving" i8 ["world","plan"]
 c21:bH K mg "is_still" pe ["world","plan"]
 c22:bH K mg "leaving" sR ["world","plan"]
 c23:bH K mg "rests" Bs ["world","plan"]
 c24:bH K mg "least_liked_used" fZ ["world","plan","side","place"]
 c25:bH K mg "pushed_on" oq ["world","plan","way"]
 c26:bH K mg "pushed" yz ["world","plan","way"]
 c27:bH K mg "walk" GQ ["world","plan"]
 c28:bH K mg "comes_to_rest" iZ ["world","plan"]
 c29:bH K mg "_law_cell" oi ["_law_script","_law_k"]
 c30:bH K mg "_law_drawn" mi ["_law_script","_law_k","_law_many"]
 c31:bH K mg "_law_orders" k9 ["_law_script","_law_at","_law_rows"]
 c32:bH K mg "_law_world" mS ["_law_script","_law_at","_law_most"]
 c33:bH K mg "_law_used" oe ["_law_world_here","_law_plan_here","_law_side","_law_place"]
 c34:bH K mg "_law_fits" nR ["_law_world_here","_law_plan_here"]
 c35:bH K mg "_law_plan" n6 ["_law_script","_law_at","_law_world_here"]
 c36:bH K mg "_law_better" ll ["_law_world_here","_law_one","_law_other","_law_way"]
 c37:bH K mg "_law_turns" mG []
 c38:bH K mg "law" JP ["_law_script"]
 RT:∃t,mg "MOST_PLACES"=some (.int 4 t)
 UK:∃t,mg "MOST"=some (.int 9 t)
 b:∀x∈cU,mg x=none
section
variable {P:Program}{w:World}{K:W.Frag}{mg:Str->Option Value}{base:Heap}
def fU(D:bJ K mg):eU P w K mg base 1 "is_whole" 3 aQ:=Rf.jb (j:=0) D.c0 D.b Rf.bV Rf.bZ AB
def n5(D:bJ K mg):eU P w K mg base 2 "is_number" 2 bC:=Rf.jb (j:=1) D.c1 D.b (Rf.fm (fU D) Rf.bV) Rf.bZ xc
def ik(D:bJ K mg):eU P w K mg base 1 "is_long" 3 aU:=Rf.jb (j:=0) D.c2 D.b Rf.bV Rf.bZ Dx
def yh(D:bJ K mg):eU P w K mg base 3 "are_likes" 2 eO:=Rf.jb (j:=2) D.c3 D.b (Rf.fm (n5 D) Rf.bV) Rf.bZ wb
def GD(D:bJ K mg):eU P w K mg base 4 "is_end" 2 eH:=Rf.jb (j:=3) D.c4 D.b (Rf.fm (ik D) (Rf.fm (fU D) (Rf.fm (yh D) Rf.bV))) (Rf.EX D.UK Rf.bZ) Eu
def GY(D:bJ K mg):eU P w K mg base 3 "is_way" 3 ij:=Rf.jb (j:=2) D.c5 D.b (Rf.fm (ik D) (Rf.fm (n5 D) (Rf.fm (fU D) Rf.bV))) (Rf.EX D.UK Rf.bZ) FA
def zm(D:bJ K mg):eU P w K mg base 5 "are_parts" 3 eS:=Rf.jb (j:=4) D.c6 D.b (Rf.fm (ik D) (Rf.fm (GD D) (Rf.fm (GY D) Rf.bV))) (Rf.EX D.RT Rf.bZ) zg
def rG(D:bJ K mg):eU P w K mg base 1 "liked_pairs" 1 bf:=Rf.jb (j:=0) D.c7 D.b Rf.bV Rf.bZ rh
def A7(D:bJ K mg):eU P w K mg base 6 "is_world" 1 cE:=Rf.jb (j:=5) D.c8 D.b (Rf.fm (rG D) (Rf.fm (ik D) (Rf.fm (zm D) Rf.bV))) Rf.bZ Be
def ny(D:bJ K mg):eU P w K mg base 1 "through" 4 bL:=Rf.jb (j:=0) D.c9 D.b Rf.bV Rf.bZ Dz
def oE(D:bJ K mg):eU P w K mg base 2 "keeps_amounts" 3 cm:=Rf.jb (j:=1) D.c10 D.b (Rf.fm (ny D) Rf.bV) Rf.bZ oD
def sj(D:bJ K mg):eU P w K mg base 3 "is_plan" 2 dR:=Rf.jb (j:=2) D.c11 D.b (Rf.fm (ik D) (Rf.fm (oE D) (Rf.fm (fU D) Rf.bV))) Rf.bZ DM
def qx(D:bJ K mg):eU P w K mg base 7 "check_world" 1 et:=Rf.jb (j:=6) D.c12 D.b (Rf.fm (A7 D) Rf.bV) Rf.bZ rf
def fy(D:bJ K mg):eU P w K mg base 8 "check_plan" 2 bX:=Rf.jb (j:=7) D.c13 D.b (Rf.fm (qx D) (Rf.fm (sj D) Rf.bV)) Rf.bZ vc
def rP(D:bJ K mg):eU P w K mg base 2 "check_whole" 3 eu:=Rf.jb (j:=1) D.c14 D.b (Rf.fm (fU D) Rf.bV) Rf.bZ rJ
def o6(D:bJ K mg):eU P w K mg base 3 "check_number" 2 dE:=Rf.jb (j:=2) D.c15 D.b (Rf.fm (rP D) Rf.bV) Rf.bZ qr
def Av(D:bJ K mg):eU P w K mg base 1 "replaced" 3 dh:=Rf.jb (j:=0) D.c16 D.b Rf.bV Rf.bZ Am
def sy(D:bJ K mg):eU P w K mg base 4 "ways_of" 3 d6:=Rf.QE (j:=0) D.c17 D.b Rf.bV Rf.bZ DU
def uk(D:bJ K mg):eU P w K mg base 5 "wants_more" 4 dH:=Rf.jb (j:=4) D.c18 D.b (Rf.fm (sy D) (Rf.fm (ny D) Rf.bV)) Rf.bZ tZ
def pU(D:bJ K mg):eU P w K mg base 6 "why_kept" 3 dS:=Rf.jb (j:=5) D.c19 D.b (Rf.fm (uk D) Rf.bV) Rf.bZ zu
def iX(D:bJ K mg):eU P w K mg base 7 "first_leaving" 2 aY:=Rf.jb (j:=6) D.c20 D.b (Rf.fm (pU D) Rf.bV) Rf.bZ oH
def pR(D:bJ K mg):eU P w K mg base 8 "is_still" 2 dY:=Rf.jb (j:=7) D.c21 D.b (Rf.fm (iX D) Rf.bV) Rf.bZ Ad
def nu(D:bJ K mg):eU P w K mg base 9 "leaving" 2 bN:=Rf.jb (j:=8) D.c22 D.b (Rf.fm (fy D) (Rf.fm (pU D) Rf.bV)) Rf.bZ C2
def Ho(D:bJ K mg):eU P w K mg base 9 "rests" 2 cN:=Rf.jb (j:=8) D.c23 D.b (Rf.fm (fy D) (Rf.fm (pR D) Rf.bV)) Rf.bZ IR
def lT(D:bJ K mg):eU P w K mg base 5 "least_liked_used" 4 cf:=Rf.jb (j:=4) D.c24 D.b (Rf.fm (sy D) Rf.bV) Rf.bZ lV
def nV(D:bJ K mg):eU P w K mg base 6 "pushed_on" 3 cC:=Rf.jb (j:=5) D.c25 D.b (Rf.fm (Av D) (Rf.fm (ny D) (Rf.fm (lT D) Rf.bV))) Rf.bZ wx
def vt(D:bJ K mg):eU P w K mg base 10 "pushed" 3 cW:=Rf.jb (j:=9) D.c26 D.b (Rf.fm (fy D) (Rf.fm (o6 D) (Rf.fm (nV D) (Rf.fm (nu D) Rf.bV)))) Rf.bZ EF
def zx(D:bJ K mg):eU P w K mg base 9 "walk" 2 da:=Rf.jb (j:=8) D.c27 D.b (Rf.fm (fy D) (Rf.fm (iX D) (Rf.fm (nV D) Rf.bV))) Rf.bZ LL
def i3(D:bJ K mg):eU P w K mg base 10 "comes_to_rest" 2 aH:=Rf.jb (j:=9) D.c28 D.b (Rf.fm (pR D) (Rf.fm (zx D) Rf.bV)) Rf.bZ oG
def wz(D:bJ K mg):eU P w K mg base 1 "_law_cell" 2 dm:=Rf.jb (j:=0) D.c29 D.b Rf.bV Rf.bZ wt
def fj(D:bJ K mg):eU P w K mg base 2 "_law_drawn" 3 ak:=Rf.jb (j:=1) D.c30 D.b (Rf.fm (wz D) Rf.bV) Rf.bZ uU
def rA(D:bJ K mg):eU P w K mg base 3 "_law_orders" 3 bq:=Rf.jb (j:=2) D.c31 D.b (Rf.fm (fj D) Rf.bV) Rf.bZ rF
def uu(D:bJ K mg):eU P w K mg base 4 "_law_world" 3 bW:=Rf.jb (j:=3) D.c32 D.b (Rf.fm (rA D) (Rf.fm (fj D) Rf.bV)) Rf.bZ uH
def zj(D:bJ K mg):eU P w K mg base 1 "_law_used" 4 gE:=Rf.jb (j:=0) D.c33 D.b Rf.bV Rf.bZ xp
def yk(D:bJ K mg):eU P w K mg base 2 "_law_fits" 2 cJ:=Rf.jb (j:=1) D.c34 D.b (Rf.fm (zj D) Rf.bV) Rf.bZ y0
def vv(D:bJ K mg):eU P w K mg base 3 "_law_plan" 3 cF:=Rf.jb (j:=2) D.c35 D.b (Rf.fm (yk D) (Rf.fm (fj D) Rf.bV)) Rf.bZ vh
def qw(D:bJ K mg):eU P w K mg base 1 "_law_better" 4 eh:=Rf.jb (j:=0) D.c36 D.b Rf.bV Rf.bZ rz
def u9(D:bJ K mg):eU P w K mg base 11 "_law_turns" 0 fK:=Rf.jb (j:=10) D.c37 D.b (Rf.fm (zx D) (Rf.fm (vt D) (Rf.fm (nu D) (Rf.fm (i3 D) Rf.bV)))) Rf.bZ uK
end
def MS{P:Program}{w:World}{K:W.Frag}{mg:Str->Option Value}{fa:Addr}(D:bJ K mg)(hfa:mg "law"=some (.ref fa)):∃fd:FuncData,(∀ (s:Shared) (v:Value),BindsTo s fd ⟨[v],[]⟩ [("_law_script",v)])/\∀base:Heap,K.In base->base.Ns mainGlobals mg->oA P w K mg base MY 12 fa fd ["_law_script"] (Oj K 1 gV):=by
 let⟨f,fd,hm,F,hb⟩:=D.c38.ex;rw[hfa] at hm;cases hm;refine⟨fd,λs v=>?_,λbase _ _=>JW F (Rf.PJ (N:=su)) λX hP hw hK RV SU C _ _ HF H=>by subst hP;subst hw;subst hK;subst RV;subst SU;exact Rf.J0 (j:=11) C D.b (Rf.fm (uu D) (Rf.fm (u9 D) (Rf.fm (vv D) (Rf.fm (zx D) (Rf.fm (Ho D) (Rf.fm (i3 D) (Rf.fm (fj D) (Rf.fm (nu D) (Rf.fm (qw D) (Rf.fm (vt D) (Rf.fm (sj D) Rf.bV))))))))))) Rf.bZ Nh⟩;let⟨oc,od,kV,doc,pm,an,Ru,ct,S9,rfl,lk,Rp⟩:=F.ex;exact .of_eq rfl
def walk{l:W.OpenLaw}{q:Program}{loose:List Str}{XP:(Str->Option Value)->Heap->Prop}{YP:World->Heap->Prop}{d:DefRec}{K:Params->W.Frag}{ts:List Addr}(hn:l.most=some 63)(XT:d.params.defaults=[])(aaA:d.name="law")
  (hY:∀ (w:World) (h:Heap),YP w h->(K w.params).In h/\∀P∈ts,h.get? P=some (W.tabObj #[])) (ht:∀w:World,mR (K w.params) ts=true) (hI:∀ (w:World) {h:Heap}{mg:Str->Option Value},(K w.params).In h->h.Ns mainGlobals mg->bJ (K w.params) mg) (main:∀ns:List Int,ns.length<=63->gV [.list (ns.map PyData.int)]=some (.bool true)) :
  W.WalkO q loose XP YP l.row.toRowW d [] (λf vs=>PySem.call f vs) :=
 F5 (n:=63) (k:=12) (x:="_law_script") (CX:=λ_=>MY) (sp:=λw=>Oj (K w.params) 1 gV) hn (by decide) XT ⟨rfl,by decide,by decide⟩ hY ht (λw mg fa h KX G XU=>MS (hI w KX G) (by rw[<- aaA];exact XU)) (λ_ _ a ns hl hT hS=>Ar hS hT (main ns hl)) λ_ _ _ _ _ z=>z
end K44
namespace Dl
open PySem L2 PySem.Spec PyProof.Rows
def vq:D->Prop|.none=>True|.bool _=>True|.int _=>True|.str x=>PyData.canLay0 (.str x)=true|_=>False
def iq(b:Nat):Nat->D->Prop
 | 0,d=>vq d
 | k+1,d=>vq d\/(∃xs,(d=.list xs\/d=.tuple xs)/\xs.length<=b/\∀x∈xs,iq b k x)
def iq.leaf(h:vq d):iq b k d:=by
 cases k with
 | zero=>exact h
 | succ k=>exact .inl h
def iq.tup(hb:xs.length<=b)(h:∀x∈xs,iq b k x):iq b (k+1) (.tuple xs):=.inr ⟨xs,.inr rfl,hb,h⟩
def iq.lst(hb:xs.length<=b)(h:∀x∈xs,iq b k x):iq b (k+1) (.list xs):=.inr ⟨xs,.inl rfl,hb,h⟩
def iq.Rc(h:iq b k (.tuple xs)):∃j,k=j+1/\xs.length<=b/\∀x∈xs,iq b j x:=by
 cases k with
 | zero=>cases h
 | succ k =>
  rcases h with h|⟨ys,h|h,h1,h2⟩
  ·cases h
  ·cases h
  ·cases h;exact⟨k,rfl,h1,h2⟩
def iq.mono(hb:b<=b'):∀ {k k':Nat}{d:D},k<=k'->iq b k d->iq b' k' d
 | 0,k',d,_,h=>.leaf h
 | k+1,0,d,hk,h=>by lia
 | k+1,k'+1,d,hk,h=>by
  rcases h with h|⟨xs,h,h1,h2⟩
  ·exact .inl h
  ·exact .inr ⟨xs,h,yE h1 hb,λx hx=>(h2 x hx).mono hb (by lia)⟩
def Cp{b:Nat}:∀ {xs:List D},(∀x∈xs,PyData.canLay0 x=true/\x.depth<=k)->PyData.canLayAll0 xs=true/\PyData.depthAll xs<=k
 | [],_=>⟨by simp[PyData.canLayAll0],by simp[PyData.depthAll]⟩
 | x::xs,h=>by
  let⟨a,c⟩:=Cp (b:=b) (xs:=xs) λy hy=>h y (zD _ hy);let⟨a',c'⟩:=h x zF;exact⟨by simp[PyData.canLayAll0,a,a'],by simp[PyData.depthAll];lia⟩
def iq.lay:∀ {k:Nat}{d:D},iq b k d->PyData.canLay0 d=true/\d.depth<=k:=by
 have lf:∀ {k:Nat}{d:D},vq d->PyData.canLay0 d=true/\d.depth<=k:=λ{k d} h=>by
  cases d<;>simp?[vq] at h<;>first|exact⟨h,by simp[PyData.depth]⟩|exact⟨by simp[PyData.canLay0],by simp[PyData.depth]⟩
 intro k
 induction k with
 | zero=>exactλh=>lf h
 | succ k ih =>
  intro d h;rcases h with h|⟨xs,h,h1,h2⟩
  ·exact lf h
  ·let⟨a,c⟩:=Cp (b:=b) (xs:=xs) λy hy=>ih (h2 y hy);rcases h with rfl|rfl
   ·exact⟨by simp[PyData.canLay0,a],by simp[PyData.depth];lia⟩
   ·exact⟨by simp[PyData.canLay0,a],by simp[PyData.depth];lia⟩
def iq.shaped(h:iq b k d)(hk:k<=64):SeqAt.shaped d=true:=by
 let⟨a,c⟩:=h.lay;simp[SeqAt.shaped,a];lia
def iq.noDict(h:iq b k d):∀kv,d≠.dict kv:=by
 rintro kv rfl;have:=h.lay.1;simp[PyData.canLay0] at this
def oa:D->Bool|.dict _=>false|_=>true
def iq.nd(h:iq b k d):oa d=true:=by
 cases d<;>first|rfl|exact absurd rfl (h.noDict _)
def P7:D->Bool|.int _=>true|.bool _=>true|_=>false
def PQ:D->Bool|.bool _=>true|_=>false
def KH:D->Bool|.tuple _=>true|_=>false
def kI(h:oa d=true):ud (gL d) "int"=some (P7 d):=by cases d<;>first|cases h;done|exact JC _ (by simp[gL])
def kB(h:oa d=true):ud (gL d) "bool"=some (PQ d):=by cases d<;>first|cases h;done|exact GV _ (by simp[gL])
def kT(h:oa d=true):ud (gL d) "tuple"=some (KH d):=by cases d<;>first|cases h;done|exact kit_tuple _ (by simp[gL])
def whole(a b:Int):D->Bool|.int i=>decide (a<=i)&&decide (i<=b)|_=>false
def tm:∀ {ds:List D},(∀d∈ds,∃ρ',tgt ρ d=some ρ'/\te ρ'=some (h d))->dJ tgt (λ_=>some true) te ρ ds=some (ds.map h)
 | [],_=>rfl
 | d::ds,hh=>by
  let⟨ρ',h1,h2⟩:=hh d zF;have ih:=tm (ds:=ds) λy hy=>hh y (zD _ hy);unfold dJ;rw[h1];simp[h2,ih]
def l5:∀ {ds:List D},(∀d∈ds,∃ρ',tgt ρ d=some ρ'/\tt ρ'=some (p d)/\(p d=true->te ρ'=some (h d)))->dJ tgt tt te ρ ds=some ((ds.filter p).map h)
 | [],_=>rfl
 | d::ds,hh=>by
  let⟨ρ',h1,h2,h3⟩:=hh d zF;have ih:=l5 (ds:=ds) λy hy=>hh y (zD _ hy);unfold dJ;rw[h1];simp?[zA,h2];cases hp:p d with
  | true=>rw[yM rfl,h3 hp];simp[ih,jX,hp]
  | false=>simp[ih,jX,hp]
def nS:∀ds:List D,boolsOf (ds.map λd=>.bool (p d))=some (ds.map p)
 | []=>rfl
 | d::ds=>by simp[boolsOf,nS ds]
def mq(ds:List D):mv [.list (ds.map λd=>.bool (p d))]=some (.bool (ds.all p)):=by
 simp?[mv,oneOf,zA,nS,zC,List.all_map];rfl
def bM(h:ds.length<=4000):small ds=some ds:=yM (yE h (by decide))
def ml{ds:List D}{i:Nat}(h:i < ds.length):pI ds (i:Nat)=some (ds.getD i .none):=by
 have:=uO (xs:=ds) (j:=i) (v:=ds[i]) (List.getElem?_eq_some_iff.mpr ⟨h,rfl⟩);rw[this];simp[List.getD,h]
def B6{ds:List D}(h:0 < ds.length):pI ds 0=some (ds.getD 0 .none):=ml (i:=0) h
def xa{ds:List D}(h:1 < ds.length):pI ds 1=some (ds.getD 1 .none):=ml (i:=1) h
def JY{ds:List D}(h:2 < ds.length):pI ds 2=some (ds.getD 2 .none):=ml (i:=2) h
end Dl
namespace Wm
open PySem L2 Dl PySem.Spec PyProof.Rows Pg
variable {cs:List Nat}{mo:Int}{i7 i5:Nat}{ks:List (List Int)}{x10 x11:Slot}{dss:List (List D)}
def yl(ha:fa ρ=some (.int a))(hb:fb ρ=some (.int i))(hc:fc ρ=some (.int b)):jx CG CG fa fb fc ρ=some (.bool (decide (a<=i)&&decide (i<=b))):=by
 simp?[jx,ha,hb,hc,zA,CG,vf,xI];by_cases h:a<=i<;>simp[h]
def l4(i j:Int):Dl.ig (.int i) (.int j)=some (.int (i - j)):=rfl
def gc(i j:Int):Dl.aB (.int i) (.int j)=some (.int (i+j)):=rfl
def uc(d:D):Slot.all (.val d)=some d:=rfl
def ve(ds:List D):Slot.all (.own ds)=some (.list ds):=rfl
def Co:Slot.all .QK=none:=rfl
def Bv(d:D):Slot.Ro (.val d)=some d:=rfl
def BS(ds:List D):Slot.Ro (.own ds)=none:=rfl
def Cr:Slot.Ro .QK=none:=rfl
local macro_rules|`(tactic| simp! [$ts,*])=>`(tactic| simp only[bp,aq,dw,aO,cT,lA,dQ,br,fB,gB,Kq,ae,fC,jg,Qz,Pb,NS,f1,f2,l4,gc,aa,ah,ai,bh,rE,bA,dc,oneOf,eI,aP,uc,ve,Co,Bv,BS,Cr,bG,cZ,dX,aL,gu,az,  zJ,yV,xG,xP,zM,xM,List.replicate,xR,yZ,qH,kM,zA,Option.bind_none,zC,Option.map_none,Nat.reduceAdd,Nat.reduceSub,jE,Nat.sub_self,xI,reduceIte,$ts,*])
def gg(h:oa d=true)(a b:Int):aQ [d,.int a,.int b]=some (.bool (whole a b d)):=by
 simp! [aQ,lH,kI h,kB h];cases d<;>simp[P7,PQ,whole];rw[yl rfl rfl rfl]
def jh(h:oa d=true)(n:Int):bC [d,.int n]=some (.bool (whole 0 (n - 1) d)):=by
 simp! [bC,j5,gg h]
def long(a b:Int):D->Bool|.tuple ds=>decide (a<=(ds.length:Int))&&decide ((ds.length:Int)<=b)|_=>false
def dU(h:oa d=true)(a b:Int):aU [d,.int a,.int b]=some (.bool (long a b d)):=by
 simp! [aU,nr,kT h];cases d<;>simp[KH,long];rw[yl rfl (i:=_) rfl rfl]
def kq:D->Int|.int i=>i|_=>0
def fP(h:whole a b d=true):d=.int (kq d)/\a<=kq d/\kq d<=b:=by
 cases d<;>simp[whole] at h;exact⟨rfl,h⟩
def lK:∀ {ls:List D},ls.all (whole a b)=true->ls=(ls.map kq).map PyData.int
 | [],_=>rfl
 | d::ls,h=>by
  rw[xU,zG] at h;rw[zJ,zJ,<- (fP h.1).1,<- lK h.2]
def ir(n:Int):D->Bool|.tuple ls=>ls.all (whole 0 (n - 1))&&decide ((ls.map kq).Nodup)|_=>false
def bO(i j:Int):bE (.int i) (.int j)=some (.bool (decide (i=j))):=by
 simp[bE,LW,SeqAt.shaped,PyData.canLay0,PyData.depth,PyData.eqv];rfl
def GP(i j:Int):dz (.int i) (.int j)=some (.bool (!decide (i=j))):=by
 simp[dz,JV,SeqAt.shaped,PyData.canLay0,PyData.depth,PyData.eqv];rfl
def D8(h:ls.all (whole a b)=true)(hl:ls.length<=1000):f2 bE (f1 kl (λ_=>some (.tuple ls))) (bh bA (aa (λ_=>some (.tuple ls)) ah)) []=some (.bool (decide ((ls.map kq).Nodup))):=by
 have e:=lK h;have e1:kl (.tuple ls)=some (.int (many (ls.map kq))):=by
  simp?[kl,gG]
  conv=>lhs;rw[e]
  rw[aV,zA,yM];rw[zE];exact jA (Nat.add_le_add_right hl 1) (by decide)
 simp! [e1,bO];have:=Bi (ls.map kq);rw[zE] at this;simp?[<- this,Int.ofNat_inj,yL,PyData.bool.injEq]
def Nb(r:Dl.Env)(d:D):fG 0 (none::r) d=some (some d::r):=by simp[fG,isFree]
def cM(SD:fi ρ=some ds)(hl:ds.length<=4000)(hh:∀d∈ds,te (some d::cs.map λj=>(ρ[j]?).getD none)=some (h d)):aw 1 cs fi (fG 0) (λ_=>some true) te ρ=some (ds.map h):=by
 simp?[aw,SD,zA,gh,List.replicate,xG,xP];rw[tm (h:=h) λd hd=>⟨_,Nb _ d,hh d hd⟩,zA,bM (by rw[zE];exact hl)]
def lZ(SD:fi ρ=some ds)(hl:ds.length<=4000)
  (hp:∀d∈ds,tt (some d::cs.map λj=>(ρ[j]?).getD none)=some (p d)) (hh:∀d∈ds,p d=true->te (some d::cs.map λj=>(ρ[j]?).getD none)=some (h d)):aw 1 cs fi (fG 0) tt te ρ=some ((ds.filter p).map h):=by
 simp?[aw,SD,zA,gh,List.replicate,xG,xP];rw[l5 (p:=p) (h:=h) λd hd=>⟨_,Nb _ d,hp d hd,hh d hd⟩,zA,bM (by rw[zE];exact yE (xQ _ _) hl)]
def y1(h:iq b k d)(hb:b<=1000)(n:Int):eO [d,.int n]=some (.bool (ir n d)):=by
 simp! [eO,jl,kT h.nd];cases d<;>try (simp[KH,ir];done)
 rename_i ls;let⟨j,rfl,hl,hf⟩:=h.Rc;have c:=cM (cs:=[1]) (fi:=bG (ae 0)) (te:=(ai 2 bC (aa (ae 0) (aa (ae 1) ah)))) (h:=λx=>.bool (whole 0 (n - 1) x)) (ρ:=[some (.tuple ls),some (.int n)]) rfl (by lia) λx hx=>by simp! [jh (hf x hx).nd]
 simp! [KH,xZ,yP,c,mq];cases e:ls.all (whole 0 (n - 1)) with
 | false=>simp[ir,e]
 | true =>
  have:=D8 e (yE hl hb);simp?[f2,f1,bh,aa,ah,zA,zC] at this;simp! [ir,e,xZ,yP,jL];simp?[bA,dc,oneOf,zA,eI,zC] at this;simp! [this]
def placeOk(n:Int):D->Bool|.tuple ds=>decide (ds.length=2)&&(whole 0 9 (ds.getD 0 .none)&&ir n (ds.getD 1 .none))|_=>false
def iR(g t:Int):D->Bool|.tuple ds=>decide (ds.length=3)&&(whole 0 (g - 1) (ds.getD 0 .none)&&(whole 0 (t - 1) (ds.getD 1 .none)&&whole 1 9 (ds.getD 2 .none)))|_=>false
def tT(n:Nat)(ds:List D):long (n:Int) (n:Int) (.tuple ds)=decide (ds.length=n):=by
 simp?[long];by_cases h:ds.length=n
 ·simp[h]
 ·rw[yA h,Bool.and_eq_false_iff,xC,xC];lia
def getD_mem{ds:List D}{i:Nat}(h:i < ds.length):ds.getD i .none∈ds:=by simp[List.getD,h]
def wq{b:Nat}(h:iq b k d)(hb:b<=1000)(n:Int):eH [d,.int n]=some (.bool (placeOk n d)):=by
 simp! [eH,pS,dU h.nd];cases d<;>try (simp[long,placeOk];done)
 rename_i ds;let⟨j,rfl,hl,hf⟩:=h.Rc;rw[show long 2 2 (.tuple ds)=decide (ds.length=2) from tT 2 ds];by_cases e:ds.length=2
 ·have f0:=hf _ (getD_mem (i:=0) (by lia));have f1:=hf _ (getD_mem (i:=1) (by lia));simp! [e,jQ,B6 (show 0 < ds.length by lia),xa (show 1 < ds.length by lia),gg f0.nd,y1 f1 hb,placeOk];cases whole 0 9 (ds.getD 0 .none)<;>simp
 ·simp[e,placeOk]
def EM{b:Nat}(h:iq b k d)(hb:b<=1000)(g t:Int):ij [d,.int g,.int t]=some (.bool (iR g t d)):=by
 simp! [ij,p8,dU h.nd];cases d<;>try (simp[long,iR];done)
 rename_i ds;let⟨j,rfl,hl,hf⟩:=h.Rc;rw[show long 3 3 (.tuple ds)=decide (ds.length=3) from tT 3 ds];by_cases e:ds.length=3
 ·have f0:=hf _ (getD_mem (i:=0) (by lia));have f1:=hf _ (getD_mem (i:=1) (by lia));have Se:=hf _ (getD_mem (i:=2) (by lia));simp! [e,jQ,xZ,yP,B6 (show 0 < ds.length by lia),xa (show 1 < ds.length by lia),JY (show 2 < ds.length by lia),gg Se.nd,jh f0.nd,jh f1.nd,iR];cases whole 0 (g - 1) (ds.getD 0 .none)<;>cases whole 0 (t - 1) (ds.getD 1 .none)<;>simp
 ·simp[e,iR]
def cG:D->List D|.tuple ds=>ds|_=>[]
def nj(d:D):Bool:=long 1 4 d
def iM(g t w:D):Bool:=nj g&&(nj t&&((cG g).all (placeOk (cG t).length)&&((cG t).all (placeOk (cG g).length)&&(KH w&&(cG w).all (iR (cG g).length (cG t).length)))))
def jv(h:long a b d=true):d=.tuple (cG d):=by cases d<;>first|rfl|cases h
def n8(hg:iq b k g)(ht:iq b k t)(hw:iq b k w)(hb:b<=1000):eS [g,t,w]=some (.bool (iM g t w)):=by
 simp! [eS,jr,dU hg.nd,dU ht.nd,kT hw.nd];unfold iM nj;cases e1:long 1 4 g with
 | false=>simp
 | true =>
  cases e2:long 1 4 t with
  | false=>simp
  | true =>
   obtain⟨gs,rfl⟩:∃gs,g=.tuple gs:=⟨_,jv e1⟩
   obtain⟨ts,rfl⟩:∃ts,t=.tuple ts:=⟨_,jv e2⟩
   let⟨j,rfl,hgl,hgf⟩:=hg.Rc;let⟨j',hj,htl,htf⟩:=ht.Rc;have c1:=cM (cs:=[1]) (fi:=bG (ae 0)) (te:=(ai 2 eH (aa (ae 0) (aa (bh bA (aa (ae 1) ah)) ah)))) (h:=λx=>.bool (placeOk ts.length x)) (ρ:=[some (.tuple gs),some (.tuple ts),some w]) rfl (by lia) λx hx=>by simp! [wq (hgf x hx) hb]
   have c2:=cM (cs:=[0]) (fi:=bG (ae 1)) (te:=(ai 2 eH (aa (ae 0) (aa (bh bA (aa (ae 1) ah)) ah)))) (h:=λx=>.bool (placeOk gs.length x)) (ρ:=[some (.tuple gs),some (.tuple ts),some w]) rfl (by lia) λx hx=>by simp! [wq (htf x hx) hb]
   simp! [xZ,yP,c1,mq,cG,jL];cases e3:gs.all (placeOk ts.length) with
   | false=>simp
   | true =>
    simp! [xZ,yP,c2,mq,jL];cases e4:ts.all (placeOk gs.length) with
    | false=>simp
    | true =>
     cases hT:KH w with
     | false=>simp! [xZ,yP,kT hw.nd,hT,vV,Bool.and_false]
     | true =>
     obtain⟨ws,rfl⟩:∃ws,w=.tuple ws:=by cases w<;>first|exact⟨_,rfl⟩|cases hT
     let⟨j2,hj2,Uh,hwf⟩:=hw.Rc;have c3:=cM (cs:=[0,1]) (fi:=bG (ae 2)) (te:=(ai 3 ij (aa (ae 0) (aa (bh bA (aa (ae 1) ah)) (aa (bh bA (aa (ae 2) ah)) ah))))) (h:=λx=>.bool (iR gs.length ts.length x)) (ρ:=[some (.tuple gs),some (.tuple ts),some (.tuple ws)]) rfl (by lia) λx hx=>by simp! [EM (hwf x hx) hb]
     simp! [xZ,yP,c3,mq,jL,kT hw.nd,KH]
def mW:∀ (a b:List Int),PyData.eqvAll (a.map PyData.int) (b.map PyData.int)=decide (a=b)
 | [],[]=>by simp[PyData.eqvAll]
 | [],_::_=>by simp[PyData.eqvAll]
 | _::_,[]=>by simp[PyData.eqvAll]
 | i::a,j::b=>by
  rw[zJ,zJ,PyData.eqvAll,mW a b];by_cases h:i=j
  ·subst h;simp[PyData.eqv]
  ·simp[PyData.eqv,h]
def qu:∀ (a b:List (List Int)),PyData.eqvAll (a.map af) (b.map af)=decide (a=b)
 | [],[]=>by simp[PyData.eqvAll]
 | [],_::_=>by simp[PyData.eqvAll]
 | _::_,[]=>by simp[PyData.eqvAll]
 | x::a,y::b=>by
  rw[zJ,zJ,PyData.eqvAll,qu a b,af,af,PyData.eqv,mW];by_cases h:x=y
  ·subst h;simp
  ·simp[h]
def gD(i:Int):iq b k (.int i):=.leaf trivial
def BH(h:r.length<=b):iq b (k+1) (af r):=.tup (by rw[zE];exact h) λx hx=>by
 let⟨i,_,rfl⟩:=List.mem_map.mp hx;exact gD i
def Gm{b k:Nat}{a:List (List Int)}(h:a.length<=b)(hr:∀r∈a,r.length<=b):iq b (k+2) (.list (a.map af)):=.lst (by rw[zE];exact h) λx hx=>by
 let⟨r,Sh,rfl⟩:=List.mem_map.mp hx;exact BH (hr r Sh)
def Dd(a:List (List Int)):∃b,a.length<=b/\∀r∈a,r.length<=b:=by
 induction a with
 | nil=>exact⟨0,yN _,λr h=>by cases h⟩
 | cons x a ih =>
  let⟨b,h1,h2⟩:=ih;refine⟨b+1+x.length,by rw[zM];lia,λr hr=>?_⟩;rcases List.mem_cons.mp hr with rfl|hr
  ·lia
  ·have:=h2 r hr;lia
def gx(a:List (List Int)):SeqAt.shaped (.list (a.map af))=true:=by
 let⟨b,h1,h2⟩:=Dd a;exact (Gm (b:=b) (k:=0) h1 h2).shaped (by decide)
def DB(a b:List (List Int)):bE (.list (a.map af)) (.list (b.map af))=some (.bool (decide (a=b))):=by
 simp?[bE,LW,gx,jP,xI,PyData.eqv,qu,zC]
def jz(d:D):List Int:=(cG ((cG d).getD 1 .none)).map kq
def iI(h:placeOk n d=true):∃a ds,d=.tuple ds/\ds.length=2/\ds.getD 0 .none=.int a/\0<=a/\a<=9/\ds.getD 1 .none=.tuple ((jz d).map PyData.int)/\(jz d).Nodup/\∀j∈jz d,0<=j/\j<=n - 1:=by
 cases d<;>simp?[placeOk] at h<;>try cases h
 rename_i ds;simp?[zG,zK] at h;let⟨h1,h2,h3⟩:=h;have e:jz (.tuple ds)=(cG (ds.getD 1 .none)).map kq:=rfl;rw[e];generalize hl:ds.getD 1 .none=l at h3;cases l<;>simp?[ir] at h3<;>try cases h3
 rename_i ls;simp?[zG,zK] at h3;let⟨w1,w2,w3⟩:=fP h2;refine⟨_,ds,rfl,h1,w1,w2,w3,?_,h3.2,λj hj=>?_⟩
 ·rw[show cG (.tuple ls)=ls from rfl,<- lK h3.1];exact hl
 ·let⟨x,hx,rfl⟩:=List.mem_map.mp hj;exact (fP (List.all_eq_true.mp h3.1 x hx)).2
def lX(k:Nat):List D->List (List Int)|[]=>[]|p::ps=>(jz p).map (λj=>[((k:Nat):Int),j])++lX (k+1) ps
def pW:∀ (n:Nat) {l:List Int},l.Nodup->(∀j∈l,0<=j/\j<=(n:Int) - 1)->l.length<=n:=by
 intro n l hn h;have hs:l.map Int.toNat ⊆ List.range n:=λx hx=>by
  let⟨j,hj,rfl⟩:=List.mem_map.mp hx;have:=h j hj;exact List.mem_range.mpr (by lia)
 have UX:(l.map Int.toNat).Nodup:=by
  refine List.pairwise_map.mpr (hn.imp_of_mem λ{x y} hx hy Q7 e=>Q7 ?_);have:=h x hx;have:=h y hy;lia
 have:=List.Nodup.length_le_of_subset UX hs;simpa using this
def um{n:Nat}:∀ {ps:List D}{k:Nat},(∀p∈ps,placeOk n p=true)->(lX k ps).length<=ps.length * n
 | [],k,_=>xW _
 | p::ps,k,h=>by
  let⟨_,_,_,_,_,_,_,_,hn,hr⟩:=iI (h p zF);have h1:=pW n hn hr;have h2:=um (ps:=ps) (k:=k+1) λq hq=>h q (zD _ hq);rw[lX,zO,zE,zM,Nat.succ_mul];lia
def pB:ao->Option Out:=CW 1 [2,3] (aw 1 [2] (bG (f2 az (ae 3) (fC (.int 1)))) (fG 0) (λ_=>some true) (aL (aa (ae 1) (aa (ae 0) ah))))
def LX{n:Nat}{p:D}{acc:List D}(hp:placeOk n p=true)(hn:n<=100)(ha:acc.length<=1000):pB [.val x,.own acc,.val (.int (k:Nat)),.val p]=some (.nx [.val x,.own (acc++((jz p).map λj=>af [((k:Nat):Int),j])),.val (.int (k:Nat)),.val p]):=by
 let⟨a,ds,rfl,hl,_,_,_,h1,UX,hr⟩:=iI hp;have hb:=pW n UX hr;generalize jz (.tuple ds)=ls at *;have c:=cM (cs:=[2]) (fi:=bG (f2 az (ae 3) (fC (.int 1)))) (te:=aL (aa (ae 1) (aa (ae 0) ah))) (h:=λy=>.tuple [.int (k:Nat),y]) (ρ:=[some x,none,some (.int (k:Nat)),some (.tuple ds)]) (ds:=ls.map PyData.int)
  (by simp! [xa (show 1 < ds.length by lia),h1]) (by rw[zE];lia) λy hy=>by
   simp! [bM (show [PyData.int (k:Nat),y].length<=4000 by simp)]
 have hh:hand [2,3] 0 [Slot.val x,.own acc,.val (.int (k:Nat)),.val (.tuple ds)]=[Slot.val x,.own acc,.val (.int (k:Nat)),.val (.tuple ds)]:=rfl;simp?[pB,CW,hh,bx,zJ,yV,Slot.Ro,c,zA,oJ,yZ,xR];rw[yM]
 ·simp?[zC,yX,yW,zN];rfl
 ·simp?[zE];exact yE (show acc.length+ls.length<=1100 by lia) (by decide)
def tK{n:Nat}(hn:n<=100):∀ {ps:List D}{k:Nat}{acc:List D}{s2 s3:Slot},(∀p∈ps,placeOk n p=true)->acc.length+ps.length * n<=1000 ->
  ∃t2 t3,dO (eL 2 3) pB (bu k ps) [.val x,.own acc,s2,s3]=some (.nx [.val x,.own (acc++(lX k ps).map af),t2,t3])
 | [],k,acc,s2,s3,_,_=>⟨s2,s3,by simp[bu,dO,lX]⟩
 | p::ps,k,acc,s2,s3,h,hl=>by
  have hp:=h p zF;let⟨_,_,_,_,_,_,_,_,UX,hr⟩:=iI hp;have hb:=pW n UX hr;rw[zM,Nat.succ_mul] at hl;let⟨t2,t3,e⟩:=tK hn (x:=x) (ps:=ps) (k:=k+1) (acc:=acc++((jz p).map λj=>af [((k:Nat):Int),j])) (s2:=.val (.int (k:Nat))) (s3:=.val p) (λq hq=>h q (zD _ hq)) (by rw[zO,zE];lia);refine⟨t2,t3,?_⟩;have hs:eL 2 3 [.val x,.own acc,s2,s3] (.tuple [.int (k:Nat),p])=some [.val x,.own acc,.val (.int (k:Nat)),.val p]:=rfl;simp?[bu,dO,hs,zA,LX hp hn (show acc.length<=1000 by lia)];rw[e];simp[lX,zN,wN]
def Bx{n:Nat}{ps:List D}(h:∀p∈ps,placeOk n p=true)(hn:n<=100)(hl:ps.length * n<=1000):bf [.tuple ps]=some (.list ((lX 0 ps).map af)):=by
 let⟨t2,t3,e⟩:=tK hn (x:=.tuple ps) (k:=0) (acc:=[]) (s2:=.QK) (s3:=.QK) h (by simpa using hl);have hs:bo 1 [] (gu ah) [Slot.val (.tuple ps),.QK,.QK,.QK]=some (.nx [.val (.tuple ps),.own [],.QK,.QK]):=rfl;have hh:hand [0] 0 [Slot.val (.tuple ps),.own [],.QK,.QK]=[Slot.val (.tuple ps),.own [],.QK,.QK]:=rfl;have hf:bj (aa (ae 0) ah) (bx [Slot.val (.tuple ps),.own [],.QK,.QK])=some (bu 0 ps):=rfl;simp! [bf,gP,hs,dB,hh,hf];rw[show CW 1 [2,3] (aw 1 [2] (bG (f2 az (ae 3) (fC (.int 1)))) (fG 0) (λ_=>some true) (aL (aa (ae 1) (aa (ae 0) ah))))=pB from rfl,e];simp! []
def fg(d:D):List Int:=[kq ((cG d).getD 0 .none),kq ((cG d).getD 1 .none)]
def Ax(h:iR g t d=true):∃ds c,d=.tuple ds/\ds.length=3/\ds.getD 0 .none=.int (kq (ds.getD 0 .none))/\ds.getD 1 .none=.int (kq (ds.getD 1 .none))/\ds.getD 2 .none=.int c/\1<=c/\c<=9 /\
  0<=kq (ds.getD 0 .none)/\kq (ds.getD 0 .none)<=g - 1/\0<=kq (ds.getD 1 .none)/\kq (ds.getD 1 .none)<=t - 1:=by
 cases d<;>simp?[iR] at h<;>try cases h
 rename_i ds;simp?[zG,zK] at h;let⟨h1,h2,h3,h4⟩:=h;have a:=fP h2;have b:=fP h3;have c:=fP h4;exact⟨ds,_,rfl,h1,a.1,b.1,c.1,c.2.1,c.2.2,a.2.1,a.2.2,b.2.1,b.2.2⟩
def Aa(g t w:D):Bool:=decide ((cG w).map fg=qv (lX 0 (cG g)))&&decide ((cG w).map fg=qv ((lX 0 (cG t)).map List.reverse))
def OG(d:D):Bool:=long 3 3 d&&(iM ((cG d).getD 0 .none) ((cG d).getD 1 .none) ((cG d).getD 2 .none)&&Aa ((cG d).getD 0 .none) ((cG d).getD 1 .none) ((cG d).getD 2 .none))
def kr:∀ {ps:List D}{k:Nat},∀r∈lX k ps,∃i j,r=[i,j]
 | [],k,r,h=>by cases h
 | p::ps,k,r,h=>by
  rcases List.mem_append.mp h with h|h
  ·let⟨j,_,rfl⟩:=List.mem_map.mp h;exact⟨_,_,rfl⟩
  ·exact kr r h
def my(h:∀r∈a,∃i j,r=[i,j])(hl:a.length < 64):gz [.list (a.map af)]=some ((qv a).map af):=by
 have:∀ns∈a,ns≠[]:=λns hn=>by let⟨i,j,rfl⟩:=h ns hn;exact List.cons_ne_nil _ _
 simp?[gz,oneOf,zA,o4 this,yM hl]
def r9:∀ {a:List (List Int)},(∀r∈a,∃i j,r=[i,j])->dJ (ip 0 1) (λ_=>some true) (aL (aa (ae 1) (aa (ae 0) ah))) [none,none] (a.map af)=some ((a.map List.reverse).map af)
 | [],_=>rfl
 | r::a,h=>by
  let⟨i,j,rfl⟩:=h r zF;have ih:=r9 (a:=a) λq hq=>h q (zD _ hq);have e:ip 0 1 [none,none] (af [i,j])=some [some (.int i),some (.int j)]:=rfl;rw[zJ,dJ,e,zA,zA,yM rfl,ih];simp! [bM (show [PyData.int j,.int i].length<=4000 by simp)];rfl
def D1{a:List (List Int)}(SD:fi ρ=some (a.map af))(hl:a.length<=4000)(h:∀r∈a,∃i j,r=[i,j]):aw 2 [] fi (ip 0 1) (λ_=>some true) (aL (aa (ae 1) zq0)) ρ=some ((a.map List.reverse).map af):=by
 simp?[aw,SD,zA,gh,List.replicate,xG,xP,yV];rw[r9 h,zA,bM (by rw[zE,zE];exact hl)]
def y2(h:iM g t w=true):∃gs ts ws,g=.tuple gs/\t=.tuple ts/\w=.tuple ws/\1<=gs.length/\gs.length<=4/\1<=ts.length/\ts.length<=4/\(∀p∈gs,placeOk ts.length p=true)/\(∀p∈ts,placeOk gs.length p=true)/\∀x∈ws,iR gs.length ts.length x=true:=by
 simp?[iM,nj,zG] at h;let⟨h1,h2,h3,h4,h5,h6⟩:=h;cases w<;>try cases h5
 rename_i ws;have e1:=jv h1;have e2:=jv h2;generalize cG g=gs at *;generalize cG t=ts at *;subst e1 e2;simp?[long,zG,zK] at h1 h2;exact⟨gs,ts,ws,rfl,rfl,rfl,by lia,by lia,by lia,by lia,List.all_eq_true.mp h3,List.all_eq_true.mp h4,List.all_eq_true.mp h6⟩
def Au{b:Nat}(h:iq b k d)(hb:b<=1000):cE [d]=some (.bool (OG d)):=by
 unfold OG;cases e1:long 3 3 d with
 | false=>simp! [cE,fY,dU h.nd,e1,Bool.not_false,vV]
 | true =>
  obtain⟨ds,rfl⟩:∃ds,d=.tuple ds:=⟨_,jv e1⟩
  let⟨j,rfl,hl,hf⟩:=h.Rc;rw[show long 3 3 (.tuple ds)=decide (ds.length=3) from tT 3 ds,zK] at e1;have f0:=hf _ (getD_mem (i:=0) (by lia));have f1:=hf _ (getD_mem (i:=1) (by lia));have Se:=hf _ (getD_mem (i:=2) (by lia));have i0:=B6 (show 0 < ds.length by lia);have i1:=xa (show 1 < ds.length by lia);have i2:=JY (show 2 < ds.length by lia);have el:aU [.tuple ds,.int 3,.int 3]=some (.bool true):=by rw[dU rfl,show long 3 3 (.tuple ds)=decide (ds.length=3) from tT 3 ds,yB e1]
  rw[show cG (.tuple ds)=ds from rfl,jL];generalize hg:ds.getD 0 .none=g at *;generalize ht:ds.getD 1 .none=t at *;generalize hw:ds.getD 2 .none=w at *;cases e2:iM g t w with
  | false=>simp! [cE,fY,el,i0,i1,i2,n8 f0 f1 Se hb,e2,Bool.not_false,xZ,vV]
  | true =>
   let⟨gs,ts,ws,rfl,rfl,rfl,g1,g4,t1,t4,hG,hT,hW⟩:=y2 e2;have hfw:=Se.Rc;let⟨j2,_,Uh,_⟩:=hfw;have q1:=um (k:=0) hG;have q2:=um (k:=0) hT;have m1:gs.length * ts.length<=16:=vU g4 t4;have m2:ts.length * gs.length<=16:=vU t4 g4;have l1:=Bx hG (by lia) (by lia);have l2:=Bx hT (by lia) (by lia);have s1:=my (a:=lX 0 gs) kr (by lia);have s2:=my (a:=(lX 0 ts).map List.reverse) (λr hr=>by
    let⟨q,hq,rfl⟩:=List.mem_map.mp hr;let⟨i,j,rfl⟩:=kr q hq;exact⟨j,i,rfl⟩) (by rw[zE];lia)
   have c1:aw 1 [] (bG (f2 az (ae 0) (fC (.int 2)))) (fG 0) (λ_=>some true) (aL (aa (f2 az (ae 0) (fC (.int 0))) (aa (f2 az (ae 0) (fC (.int 1))) ah))) [some (.tuple ds),none,none,none]=some ((ws.map fg).map af):=by
    rw[cM (ds:=ws) (h:=λx=>af (fg x)) (by simp! [i2]) (by lia) λx hx=>?_,zN]
    ·rfl
    ·let⟨vs,c,rfl,v3,v0,v1,_⟩:=Ax (hW x hx);simp! [B6 (show 0 < vs.length by lia),xa (show 1 < vs.length by lia),bM (show [vs.getD 0 PyData.none,vs.getD 1 .none].length<=4000 by simp),af,fg,cG];rw[<- v0,<- v1]
   have c2:∀x y z,aw 2 [] (bG (ai 1 bf (aa (f2 az (ae 0) (fC (.int 1))) ah))) (ip 0 1) (λ_=>some true) (aL (aa (ae 1) (aa (ae 0) ah))) [some (.tuple ds),x,y,z]=some (((lX 0 ts).map List.reverse).map af):=λx y z =>
    D1 (by simp! [i1,l2]) (by lia) kr
   have UD:bo 1 [0] (aw 1 [] (bG (f2 az (ae 0) (fC (.int 2)))) (fG 0) (λ_=>some true) (aL (aa (f2 az (ae 0) (fC (.int 0))) (aa (f2 az (ae 0) (fC (.int 1))) ah)))) [Slot.val (.tuple ds),.QK,.QK,.QK]=some (.nx [.val (.tuple ds),.own ((ws.map fg).map af),.QK,.QK]):=by
    have hh:hand [0] 0 [Slot.val (.tuple ds),.QK,.QK,.QK]=[Slot.val (.tuple ds),.QK,.QK,.QK]:=rfl;simp?[bo,hh,bx,zJ,yV,Slot.Ro,c1,zC,yX,yW]
   have UM:bo 2 [0] (rE gz (aa (ai 1 bf (aa (f2 az (ae 0) (fC (.int 0))) ah)) ah)) [Slot.val (.tuple ds),.own ((ws.map fg).map af),.QK,.QK]=some (.nx [.val (.tuple ds),.own ((ws.map fg).map af),.own ((qv (lX 0 gs)).map af),.QK]):=by
    have hh:hand [0] 0 [Slot.val (.tuple ds),.own ((ws.map fg).map af),.QK,.QK]=[Slot.val (.tuple ds),.own ((ws.map fg).map af),.QK,.QK]:=rfl;simp?[bo,hh,bx,zJ,yV,Slot.Ro];simp! [i0,l1,s1,yX,yW]
   have Wj:bo 3 [0] (rE gz (aa (cZ (aw 2 [] (bG (ai 1 bf (aa (f2 az (ae 0) (fC (.int 1))) ah))) (ip 0 1) (λ_=>some true) (aL (aa (ae 1) (aa (ae 0) ah))))) ah)) [Slot.val (.tuple ds),.own ((ws.map fg).map af),.own ((qv (lX 0 gs)).map af),.QK]
      =some (.nx [.val (.tuple ds),.own ((ws.map fg).map af),.own ((qv (lX 0 gs)).map af),.own ((qv ((lX 0 ts).map List.reverse)).map af)]):=by
    have hh:hand [0] 0 [Slot.val (.tuple ds),.own ((ws.map fg).map af),.own ((qv (lX 0 gs)).map af),.QK]=[Slot.val (.tuple ds),.own ((ws.map fg).map af),.own ((qv (lX 0 gs)).map af),.QK]:=rfl;simp?[bo,hh,bx,zJ,yV,Slot.Ro];simp! [c2,s2,yX,yW]
   simp! [cE,fY,el,i0,i1,i2,n8 f0 f1 Se hb,e2,xZ,yP,UD,UM,Wj,DB,Aa,cG,jL];by_cases hq:List.map fg ws=qv (lX 0 gs)<;>simp[hq]
def Bh(xs:List D):PyData.eqvAll xs []=xs.isEmpty:=by cases xs<;>simp[PyData.eqvAll]
def A6:SeqAt.shaped (.list [])=true:=by simp[SeqAt.shaped,PyData.canLay0,PyData.canLayAll0,PyData.depth,PyData.depthAll]
def FY(h:∀x∈xs,iq b k x)(hk:k<=60):bE (.list xs) (.list [])=some (.bool xs.isEmpty):=by
 have hs:SeqAt.shaped (.list xs)=true:=(iq.lst (b:=max b xs.length) (k:=k) (Nat.le_max_right _ _) λx hx=>(h x hx).mono (Nat.le_max_left _ _) (yN _)).shaped (by lia);simp?[bE,LW,hs,A6,jP,xI,PyData.eqv,Bh,zC]
def hV:small []=some []:=rfl
def Eg(xs:List α)(k:Nat):cut xs none (some (k:Int))=xs.take k:=by
 simp?[cut,HT.w6,HT.B4,List.drop_zero,Nat.sub_zero];rw[List.take_eq_take_iff];lia
def yx(xs:List α)(k:Nat):cut xs (some (k:Int)) none=xs.drop k:=by
 simp?[cut,HT.w6,HT.B4];rw[kJ (by rw[qJ];lia)];by_cases h:k<=xs.length
 ·rw[Nat.min_eq_left h]
 ·rw[Nat.min_eq_right (by lia),List.drop_of_length_le (yN _),List.drop_of_length_le (by lia)]
def gH(b:Bool):gB (.bool b)=some b:=rfl
def Hm(a b:List Int):PyData.eqv (af a) (af b)=decide (a=b):=by rw[af,af,PyData.eqv,mW]
def HE(P:List (List Int))(a:List Int):((P.map af).any λz=>PyData.eqv z (af a))=decide (a∈P):=by
 rw[wK]
 induction P with
 | nil=>simp
 | cons r P ih =>
  rw[vC,ih,Function.comp_apply,Hm];by_cases h:r=a
  ·subst h;simp
  ·simp[h,jN h]
def A0(a b:D):small [a,b]=some [a,b]:=rfl
def mI:∀ (ρ:ao) (k:Nat),hand [] k ρ=ρ
 | [],k=>rfl
 | s::r,k=>by simp[hand,mI r]
def o3:∀ {ps:List D}{k:Nat}{i j:Int},[i,j]∈lX k ps↔∃m p,ps[m]?=some p/\i=((k+m:Nat):Int)/\j∈jz p
 | [],k,i,j=>by simp[lX]
 | p::ps,k,i,j=>by
  rw[lX,List.mem_append,o3 (ps:=ps)];constructor
  ·rintro (h|⟨m,q,h1,h2,h3⟩)
   ·let⟨y,hy,e⟩:=List.mem_map.mp h;injection e with e1 e2
    injection e2 with e2 _
    exact⟨0,p,rfl,by simpa using e1.symm,e2 ▸ hy⟩
   ·exact⟨m+1,q,by simpa using h1,by rw[h2];congr 1;lia,h3⟩
  ·rintro⟨m,q,h1,h2,h3⟩;cases m with
   | zero =>
    simp at h1;subst h1;exact .inl (List.mem_map.mpr ⟨j,h3,by rw[h2];rfl⟩)
   | succ m=>exact .inr ⟨m,q,by simpa using h1,by rw[h2];congr 1;lia,h3⟩
def rZ:∀ {ps:List D}{k:Nat},(∀p∈ps,(jz p).Nodup)->(lX k ps).Nodup
 | [],k,_=>List.nodup_nil
 | p::ps,k,h=>by
  rw[lX,wM];refine⟨List.pairwise_map.mpr ((h p zF).imp λQ7 e=>Q7 ?_),rZ λq hq=>h q (zD _ hq),?_⟩;rotate_left
  ·injection e with _ e2
   injection e2
  ·rintro a ha b hb rfl;let⟨y,hy,rfl⟩:=List.mem_map.mp ha;let⟨m,q,h1,h2,h3⟩:=o3.mp hb;lia
def NO(h:Dl.lexLt a b=true):lexLe a b=true:=by
 unfold lexLe;cases e:Dl.lexLt b a with
 | false=>rfl
 | true=>have:=d5 h e;rw[fV] at this;cases this
def eN(h:rH i j):Dl.cA (.int i) (.int j)=some (.int (i * j)):=by
 simp?[Dl.cA,vf,yM h,Option.some_or]
def gW(h:0 < j):Dl.jo (.int i) (.int j)=some (.int (i % j)):=yM h
def ji(h:0 < j/\j < 1073741824):Dl.lD (.int i) (.int j)=some (.int (i / j)):=yM h
def eA(i j:Int):Dl.Ck (.int i) (.int j)=some (.bool (decide (j < i))):=rfl
def mN(i j:Int):Dl.Hh (.int i) (.int j)=some (.bool (decide (i < j))):=rfl
def lE(h:-(2 ^ 64) < i/\i < 2 ^ 64):rH i j:=.inl h
def LK(h:-(2 ^ 64) < j/\j < 2 ^ 64):rH i j:=.inr h
def yy(i:Int):Dl.mM (.int i)=true:=rfl
def ze(i:List D):Dl.mM (.tuple i)=false:=rfl
def bP(ns:List Int):D:=.list (ns.map PyData.int)
def ME(k:Int)(hl:ns.length<=63):∃c,dm [bP ns,.int k]=some (.int c):=by
 have heq:bE (.list (ns.map PyData.int)) (.list [])=some (.bool ns.isEmpty):=by
  have:=FY (b:=0) (k:=0) (xs:=ns.map PyData.int) (λx hx=>by let⟨i,_,rfl⟩:=List.mem_map.mp hx;exact gD i) (by decide);rw[this];cases ns<;>rfl
 by_cases hn:ns=[]
 ·subst hn;refine⟨7 * k,?_⟩;rw[yV,List.isEmpty_nil] at heq;simp! [dm,gC,bP,hV,heq,List.isEmpty_nil,eN (lE (i:=7) (j:=k) (by decide))]
 ·have S6:(0:Int) < (ns.length:Int):=by have:=List.length_pos_iff.mpr hn;lia
  have he:ns.isEmpty=false:=by cases ns<;>first|rfl|exact absurd rfl hn
  let⟨j,hj⟩:=vH (vR k (show (ns.length:Int)≠0 by lia));have Q0:=kY k S6;have hx:pI (ns.map PyData.int) (k % (ns.length:Int))=some (.int (ns.getD j 0)):=by
   rw[hj];have:j < (ns.map PyData.int).length:=by rw[zE];lia
   rw[ml this,zH,zP,zH];rw[zL (by lia)];rfl
  refine⟨ns.getD j 0+6553 * (k / (ns.length:Int)),?_⟩;simp! [dm,gC,bP,hV,heq,he,yP,zE,gW S6,hx,ji (i:=k) (j:=(ns.length:Int)) ⟨S6,by lia⟩,eN (lE (i:=6553) (j:=k / (ns.length:Int)) (by decide))]
def HK(k many:Int)(hl:ns.length<=63)(hm:0 < many):∃r,ak [bP ns,.int k,.int many]=some (.int r)/\0<=r/\r < many:=by
 let⟨c,hc⟩:=ME k hl;have m1:∀i:Int,Dl.jo (.int i) (.int 2147483563)=some (.int (i % 2147483563)):=λi=>gW (by decide);have m2:∀i:Int,Dl.jo (.int i) (.int 2147483399)=some (.int (i % 2147483399)):=λi=>gW (by decide);have m3:∀i:Int,Dl.jo (.int i) (.int 2147483647)=some (.int (i % 2147483647)):=λi=>gW (by decide);have d1:∀i:Int,Dl.lD (.int i) (.int 3)=some (.int (i / 3)):=λi=>ji (by decide);have d2:∀i:Int,Dl.lD (.int i) (.int 7)=some (.int (i / 7)):=λi=>ji (by decide);have d3:∀i:Int,Dl.lD (.int i) (.int 11)=some (.int (i / 11)):=λi=>ji (by decide);have u1:∀i:Int,Dl.cA (.int i) (.int 69069)=some (.int (i * 69069)):=λi=>eN (LK (by decide));have u2:∀i:Int,Dl.cA (.int 104723) (.int i)=some (.int (104723 * i)):=λi=>eN (lE (by decide));have b1:∀x:Int,Dl.cA (.int (x % 2147483563)) (.int (x % 2147483563))=some (.int (x % 2147483563 * (x % 2147483563))):=λx=>eN (lE (by
  have:=vR x (show (2147483563:Int)≠0 by decide);have:=kY x (show (0:Int) < 2147483563 by decide);lia))
 have b2:∀x:Int,Dl.cA (.int (x % 2147483399)) (.int (x % 2147483399))=some (.int (x % 2147483399 * (x % 2147483399))):=λx=>eN (lE (by
  have:=vR x (show (2147483399:Int)≠0 by decide);have:=kY x (show (0:Int) < 2147483399 by decide);lia))
 suffices h:∃x,ak [bP ns,.int k,.int many]=some (.int (x % many)) by
  let⟨x,hx⟩:=h;exact⟨_,hx,vR x (show many≠0 by lia),kY x hm⟩
 ·refine⟨(((((c % 2147483563 * 69069+104723 * (k+1)) % 2147483563) * ((c % 2147483563 * 69069+104723 * (k+1)) % 2147483563)+((c % 2147483563 * 69069+104723 * (k+1)) % 2147483563) / 3) % 2147483399) * ((((c % 2147483563 * 69069+104723 * (k+1)) % 2147483563) * ((c % 2147483563 * 69069+104723 * (k+1)) % 2147483563)+((c % 2147483563 * 69069+104723 * (k+1)) % 2147483563) / 3) % 2147483399)+((((c % 2147483563 * 69069+104723 * (k+1)) % 2147483563) * ((c % 2147483563 * 69069+104723 * (k+1)) % 2147483563)+((c % 2147483563 * 69069+104723 * (k+1)) % 2147483563) / 3) % 2147483399) / 7) % 2147483647 / 11,?_⟩;simp! [ak,iB,hc,m1,u1,u2,Dl.aE,yy,yX,yW,b1,d1,m2,b2,d2,m3,d3,gW (j:=many) hm]
def dr(ns:List Int)(k many:Int):Int:=kq ((ak [bP ns,.int k,.int many]).getD .none)
def eZ(k many:Int)(hl:ns.length<=63)(hm:0 < many):ak [bP ns,.int k,.int many]=some (.int (dr ns k many))/\0<=dr ns k many/\dr ns k many < many:=by
 let⟨r,h1,h2⟩:=HK k many hl hm;have:dr ns k many=r:=by simp?[dr,h1,qH,kq]
 rw[this];exact⟨h1,h2⟩
def sX(k many:Int)(hl:ns.length<=63)(hm:0 < many):ak [bP ns,.int k,.int many]=some (.int (dr ns k many)):=(eZ k many hl hm).1
def KD(k many:Int)(hl:ns.length<=63)(hm:0 < many):0<=dr ns k many:=(eZ k many hl hm).2.1
def KG(k many:Int)(hl:ns.length<=63)(hm:0 < many):dr ns k many < many:=(eZ k many hl hm).2.2
def bQ(r:List Int):D:=.list (r.map PyData.int)
def insI(ds:List Int)(k:Int)(d:Int):List Int:=let j:=if k < 0 then (k+(ds.length:Int)).toNat else min k.toNat ds.length;ds.take j++d::ds.drop j
def C5(ds:List Int)(k d:Int):Ct (ds.map PyData.int) k (.int d)=(insI ds k d).map PyData.int:=by
 simp?[Ct,insI,zE,jB,zJ,List.map_take,List.map_drop]
def insI_perm(ds:List Int)(k d:Int):(insI ds k d).Perm (d::ds):=by
 simp?[insI];refine List.perm_middle.trans ?_;rw[List.take_append_drop]
def oB:ao->Option Out:=(Es 6 [8] (ai 3 ak (aa (ae 0) (aa (f2 aB (f2 aB (ae 1) (f2 cA (fC (.int 4)) (ae 4))) (ae 7)) (aa (f2 aB (bh bA (aa (ae 6) ah)) (fC (.int 1))) ah)))) (ae 8))
def Lz{s3:Slot}(hl:ns.length<=63)(ho:order.length<=1000) :
  oB [.val (bP ns),.val (.int a),s2,s3,.val (.int k),s5,.own (order.map PyData.int),.val (.int j),.val (.int x)] =
   some (.nx [.val (bP ns),.val (.int a),s2,s3,.val (.int k),s5,.own ((insI order (dr ns (a+4 * k+j) ((order.length:Int)+1)) x).map PyData.int),.val (.int j),.val (.int x)]):=by
 have h4:Dl.cA (.int 4) (.int k)=some (.int (4 * k)):=eN (lE (by decide));have hd:=eZ (ns:=ns) (a+4 * k+j) ((order.length:Int)+1) hl (by lia);have hr:DD (dr ns (a+4 * k+j) ((order.length:Int)+1))=true:=by
  simp?[DD,zG,zK];lia
 have hz:(order.map PyData.int).length < sizeLine:=by rw[zE];exact jA ho (by decide)
 simp! [oB,Es,nX,yy,oJ,zE,h4,hd.1];rw[zE] at hz;simp?[hr,hz,jP,xI,zC,C5,yX,yW]
def EI{s3:Slot}(hl:ns.length<=63):∀ {row order:List Int}{j:Nat}{s7 s8:Slot},order.length+row.length<=1000 ->
  ∃ (o:List Int) (t7 t8:Slot),dO (eL 7 8) oB (bu j (row.map PyData.int)) [.val (bP ns),.val (.int a),s2,s3,.val (.int k),s5,.own (order.map PyData.int),s7,s8] =
   some (.nx [.val (bP ns),.val (.int a),s2,s3,.val (.int k),s5,.own (o.map PyData.int),t7,t8])/\o.Perm (row++order)
 | [],order,j,s7,s8,_=>⟨order,s7,s8,by simp[bu,dO],by simp⟩
 | x::row,order,j,s7,s8,h=>by
  rw[zM] at h;have hp:=insI_perm order (dr ns (a+4 * k+((j:Nat):Int)) ((order.length:Int)+1)) x;have hlen:=hp.length_eq;rw[zM] at hlen;let⟨o,t7,t8,e,p⟩:=EI (s2:=s2) (s3:=s3) (s5:=s5) (a:=a) (k:=k) hl (row:=row) (order:=insI order (dr ns (a+4 * k+((j:Nat):Int)) ((order.length:Int)+1)) x) (j:=j+1) (s7:=.val (.int (j:Nat))) (s8:=.val (.int x)) (by lia);refine⟨o,t7,t8,?_,p.trans ?_⟩
  ·have hs:eL 7 8 [.val (bP ns),.val (.int a),s2,s3,.val (.int k),s5,.own (order.map PyData.int),s7,s8] (.tuple [.int (j:Nat),.int x])=some [.val (bP ns),.val (.int a),s2,s3,.val (.int k),s5,.own (order.map PyData.int),.val (.int (j:Nat)),.val (.int x)]:=rfl;simp?[zJ,bu,dO,hs,zA,Lz hl (show order.length<=1000 by lia),e]
  ·refine (hp.append_left row).trans ?_;rw[xG];exact List.perm_middle
def qt:List (List Int)->List (List Int)->Prop|[],[]=>True|a::l,b::m=>a.Perm b/\qt l m|_,_=>False
def rB:ao->Option Out:=(aq (bo 6 [] (gu ah)) (aq (dB [5] (bj (aa (ae 5) ah)) (eL 7 8) oB) (l7 3 [6] (bh dX (aa (ae 6) ah)))))
def MA(hl:ns.length<=63)(hr:row.length<=1000)(hf:found.length<=1000) :
  ∃ (o:List Int) (t7 t8:Slot),rB [.val (bP ns),.val (.int a),.val rows,.own found,.val (.int k),.val (bQ row),s6,s7,s8]=some (.nx [.val (bP ns),.val (.int a),.val rows,.own (found++[af o]),.val (.int k),.val (bQ row),.val (bQ o),t7,t8])/\o.Perm row:=by
 let⟨o,t7,t8,e,p⟩:=EI (s2:=.val rows) (s3:=.own found) (s5:=.val (bQ row)) (a:=a) (k:=k) hl (row:=row) (order:=[]) (j:=0) (s7:=s7) (s8:=s8) (by simpa using hr);rw[qG] at p;refine⟨o,t7,t8,?_,p⟩;have h1:bo 6 [] (gu ah) [.val (bP ns),.val (.int a),.val rows,.own found,.val (.int k),.val (bQ row),s6,s7,s8]=some (.nx [.val (bP ns),.val (.int a),.val rows,.own found,.val (.int k),.val (bQ row),.own [],s7,s8]):=by
  simp?[bo,mI,gu,ah,zA,hV,zC,yX,yW]
 have h2:dB [5] (bj (aa (ae 5) ah)) (eL 7 8) oB [.val (bP ns),.val (.int a),.val rows,.own found,.val (.int k),.val (bQ row),.own [],s7,s8]=some (.nx [.val (bP ns),.val (.int a),.val rows,.own found,.val (.int k),.val (bQ row),.own (o.map PyData.int),t7,t8]):=by
  have hh:hand [5] 0 [Slot.val (bP ns),.val (.int a),.val rows,.own found,.val (.int k),.val (bQ row),.own [],s7,s8]=[Slot.val (bP ns),.val (.int a),.val rows,.own found,.val (.int k),.val (bQ row),.own [],s7,s8]:=rfl;have hq:bj (aa (ae 5) ah) (bx [Slot.val (bP ns),.val (.int a),.val rows,.own found,.val (.int k),.val (bQ row),.own [],s7,s8])=some (bu 0 (row.map PyData.int)):=by
   simp?[bx,zJ,yV];simp! [bj,bQ]
  simp?[dB,hh,hq,zA];exact e
 have h3:l7 3 [6] (bh dX (aa (ae 6) ah)) [.val (bP ns),.val (.int a),.val rows,.own found,.val (.int k),.val (bQ row),.own (o.map PyData.int),t7,t8]=some (.nx [.val (bP ns),.val (.int a),.val rows,.own (found++[af o]),.val (.int k),.val (bQ row),.val (bQ o),t7,t8]):=by
  have hz:found.length < sizeLine:=jA hf (by decide);have hh:hand [6] 0 [Slot.val (bP ns),.val (.int a),.val rows,.own found,.val (.int k),.val (bQ row),.own (o.map PyData.int),t7,t8]=[Slot.val (bP ns),.val (.int a),.val rows,.own found,.val (.int k),.val (bQ row),.val (bQ o),t7,t8]:=rfl;simp?[l7,nX,hh,bx,zJ,yV];simp! [ze,yP,oJ,hz,yX,yW,bQ,af]
 simp?[rB,aq,h1,h2,h3,zA]
def EN{rws:D}(hl:ns.length<=63):∀ {rows:List (List Int)}{found:List D}{k:Nat}{s4 s5 s6 s7 s8:Slot},(∀r∈rows,r.length<=1000)->found.length+rows.length<=1000 ->
  ∃ (os:List (List Int)) (t4 t5 t6 t7 t8:Slot),dO (eL 4 5) rB (bu k (rows.map bQ)) [.val (bP ns),.val (.int a),.val rws,.own found,s4,s5,s6,s7,s8]=some (.nx [.val (bP ns),.val (.int a),.val rws,.own (found++os.map af),t4,t5,t6,t7,t8])/\qt os rows
 | [],found,k,s4,s5,s6,s7,s8,_,_=>⟨[],s4,s5,s6,s7,s8,by simp[bu,dO],trivial⟩
 | r::rows,found,k,s4,s5,s6,s7,s8,h,hf=>by
  rw[zM] at hf;let⟨o,u7,u8,e1,p1⟩:=MA (rows:=rws) (a:=a) (k:=((k:Nat):Int)) (s6:=s6) (s7:=s7) (s8:=s8) hl (h r zF) (show found.length<=1000 by lia);let⟨os,t4,t5,t6,t7,t8,e,p⟩:=EN hl (rws:=rws) (a:=a) (rows:=rows) (found:=found++[af o]) (k:=k+1) (s4:=.val (.int (k:Nat))) (s5:=.val (bQ r)) (s6:=.val (bQ o)) (s7:=u7) (s8:=u8) (λr' Sh=>h r' (zD _ Sh)) (by rw[zO,xD];lia);refine⟨o::os,t4,t5,t6,t7,t8,?_,p1,p⟩;have hs:eL 4 5 [.val (bP ns),.val (.int a),.val rws,.own found,s4,s5,s6,s7,s8] (.tuple [.int (k:Nat),bQ r])=some [.val (bP ns),.val (.int a),.val rws,.own found,.val (.int (k:Nat)),.val (bQ r),s6,s7,s8]:=rfl;simp?[zJ,bu,dO,hs,zA,e1];rw[e,List.append_assoc];rfl
def yw(hl:ns.length<=63)(hr:∀r∈rows,r.length<=1000)(hn:rows.length<=1000):∃os:List (List Int),bq [bP ns,.int a,.list (rows.map bQ)]=some (.list (os.map af))/\qt os rows:=by
 let⟨os,t4,t5,t6,t7,t8,e,p⟩:=EN hl (rws:=.list (rows.map bQ)) (a:=a) (rows:=rows) (found:=[]) (k:=0) (s4:=.QK) (s5:=.QK) (s6:=.QK) (s7:=.QK) (s8:=.QK) hr (by simpa using hn);refine⟨os,?_,p⟩;rw[xP] at e;have h1:bo 3 [] (gu ah) [.val (bP ns),.val (.int a),.val (.list (rows.map bQ)),.QK,.QK,.QK,.QK,.QK,.QK]=some (.nx [.val (bP ns),.val (.int a),.val (.list (rows.map bQ)),.own [],.QK,.QK,.QK,.QK,.QK]):=by
  simp?[bo,mI,gu,ah,zA,hV,zC,yX,yW]
 have h2:dB [2] (bj (aa (ae 2) ah)) (eL 4 5) rB [.val (bP ns),.val (.int a),.val (.list (rows.map bQ)),.own [],.QK,.QK,.QK,.QK,.QK]=some (.nx [.val (bP ns),.val (.int a),.val (.list (rows.map bQ)),.own (os.map af),t4,t5,t6,t7,t8]):=by
  have hh:hand [2] 0 [Slot.val (bP ns),.val (.int a),.val (.list (rows.map bQ)),.own [],.QK,.QK,.QK,.QK,.QK]=[Slot.val (bP ns),.val (.int a),.val (.list (rows.map bQ)),.own [],.QK,.QK,.QK,.QK,.QK]:=rfl;have hq:bj (aa (ae 2) ah) (bx [Slot.val (bP ns),.val (.int a),.val (.list (rows.map bQ)),.own [],.QK,.QK,.QK,.QK,.QK])=some (bu 0 (rows.map bQ)):=by
   simp?[bx,zJ,yV];simp! [bj]
  simp?[dB,hh,hq,zA];exact e
 unfold rB oB at h2;simp! [bq,gN,h1,h2]
abbrev Pl:=Int×List Int
abbrev Wy:=Int×Int×Int
def bc(p:Pl):D:=.tuple [.int p.1,af p.2]
def ax(w:Wy):D:=.tuple [.int w.1,.int w.2.1,.int w.2.2]
def aI(G T:List Pl)(W:List Wy):D:=.tuple [.tuple (G.map bc),.tuple (T.map bc),.tuple (W.map ax)]
def B2(W:List Wy)(i:Int):List Int:=(W.filter λw=>decide (w.1=i)).map λw=>w.2.1
def ofT(W:List Wy)(j:Int):List Int:=(W.filter λw=>decide (w.2.1=j)).map λw=>w.1
abbrev Ea(W:List Wy):Prop:=W.Pairwise λa b=>a.1 < b.1\/(a.1=b.1/\a.2.1 < b.2.1)
structure Wd(G T:List Pl)(W:List Wy):Prop where
 g1:1<=G.length
 g4:G.length<=4
 t1:1<=T.length
 t4:T.length<=4
 ga:∀p∈G,0<=p.1/\p.1<=9
 ta:∀p∈T,0<=p.1/\p.1<=9
 gl:∀ (i:Nat) (p:Pl),G[i]?=some p->p.2.Perm (B2 W i)
 tl:∀ (j:Nat) (p:Pl),T[j]?=some p->p.2.Perm (ofT W j)
 wr:∀w∈W,(0<=w.1/\w.1 < G.length)/\(0<=w.2.1/\w.2.1 < T.length)/\1<=w.2.2/\w.2.2<=9
 wp:Ea W
 wl:W.length<=16
def uv:j∈B2 W i↔[i,j]∈W.map λw=>[w.1,w.2.1]:=by
 simp?[B2,List.mem_map,List.mem_filter,zK,kW,and_true];constructor
 ·rintro⟨w,⟨h1,h2⟩,h3⟩;exact⟨w,h1,h2,h3⟩
 ·rintro⟨w,h1,h2,h3⟩;exact⟨w,⟨h1,h2⟩,h3⟩
def uG:i∈ofT W j↔[i,j]∈W.map λw=>[w.1,w.2.1]:=by
 simp?[ofT,List.mem_map,List.mem_filter,zK,kW,and_true];constructor
 ·rintro⟨w,⟨h1,h2⟩,h3⟩;exact⟨w,h1,h3,h2⟩
 ·rintro⟨w,h1,h2,h3⟩;exact⟨w,⟨h1,h3⟩,h2⟩
def mY(h:Ea W)(i:Int):(B2 W i).Nodup:=by
 unfold B2 List.Nodup;rw[jF,List.pairwise_filter];refine h.imp λRC ha hb=>?_;rw[zK] at ha hb;lia
def nN(h:Ea W)(i:Int):(ofT W i).Nodup:=by
 unfold ofT List.Nodup;rw[jF,List.pairwise_filter];refine h.imp λRC ha hb=>?_;rw[zK] at ha hb;lia
def fN(p:Pl):jz (bc p)=p.2:=by
 show ((p.2.map PyData.int).map kq)=p.2;rw[zN];exact List.map_id _
def nU(ha:0<=p.1/\p.1<=9)(hn:p.2.Nodup)(hr:∀j∈p.2,0<=j/\j < n):placeOk n (bc p)=true:=by
 have e:(p.2.map PyData.int).map kq=p.2:=fN p;have e2:(p.2.map PyData.int).all (whole 0 (n - 1))=true:=by
  rw[xH];intro x hx;let⟨j,hj,rfl⟩:=List.mem_map.mp hx;have:=hr j hj;simp?[whole,zG,zK];lia
 simp?[placeOk,bc,af,zM,xM,vX,vY,ir,whole,e,e2,ha.1,ha.2,hn,jQ,Bool.and_self]
def CZ(h:(0<=w.1/\w.1 < g)/\(0<=w.2.1/\w.2.1 < t)/\1<=w.2.2/\w.2.2<=9):iR g t (ax w)=true:=by
 let⟨⟨a,b⟩,⟨c,d⟩,e,f⟩:=h;have b':w.1<=g - 1:=by lia
 have d':w.2.1<=t - 1:=by lia
 simp?[iR,ax,zM,xM,vX,vY,whole,a,b',c,d',e,f,jQ,Bool.and_self]
def PD(h:a < c\/(a=c/\b < d)):Dl.lexLt [a,b] [c,d]=true:=by
 show HT.lexLt [a,b] [c,d]=true;rw[HT.cD];by_cases e:a=c
 ·rw[yM e,HT.cD,yO (by lia)];simp?[zK];lia
 ·rw[yO e];simp?[zK];lia
def Wd.We(h:Wd G T W)(hp:p∈G):∃i:Nat,i < G.length/\p.2.Perm (B2 W i):=by
 let⟨i,hi,e⟩:=qS hp;exact⟨i,hi,h.gl i p (by rw[zL hi,e])⟩
def Wd.Wf(h:Wd G T W)(hp:p∈T):∃i:Nat,i < T.length/\p.2.Perm (ofT W i):=by
 let⟨i,hi,e⟩:=qS hp;exact⟨i,hi,h.tl i p (by rw[zL hi,e])⟩
def Wd.gok(h:Wd G T W):(G.map bc).all (placeOk T.length)=true:=by
 rw[xH];intro x hx;let⟨p,hp,rfl⟩:=List.mem_map.mp hx;let⟨i,hi,q⟩:=h.We hp;refine nU (h.ga p hp) (q.nodup_iff.mpr (mY h.wp _)) λj hj=>?_;let⟨w,hw,e⟩:=List.mem_map.mp (uv.mp (q.mem_iff.mp hj));injection e with e1 e2
 injection e2 with e2 _
 have:=(h.wr w hw).2.1;rw[e2] at this;exact this
def Wd.tok(h:Wd G T W):(T.map bc).all (placeOk G.length)=true:=by
 rw[xH];intro x hx;let⟨p,hp,rfl⟩:=List.mem_map.mp hx;let⟨i,hi,q⟩:=h.Wf hp;refine nU (h.ta p hp) (q.nodup_iff.mpr (nN h.wp _)) λj hj=>?_;let⟨w,hw,e⟩:=List.mem_map.mp (uG.mp (q.mem_iff.mp hj));injection e with e1 e2
 have:=(h.wr w hw).1;rw[e1] at this;exact this
def pH{W:List Wy}{p:Wy->Bool}(h:W.length<=16):(W.filter p).length<=16:=yE (xQ _ _) h
def BE(h:p.2.length<=16):iq 16 2 (bc p):=.tup (by simp?[zM,xM];lia) λx hx=>by
 rcases List.mem_cons.mp hx with rfl|hx
 ·exact gD _
 ·rw[yK] at hx;subst hx;exact BH h
def IL(w:Wy):iq 16 1 (ax w):=.tup (by simp?[zM,xM];lia) λx hx=>by
 simp?[zR,yG,xV] at hx;rcases hx with rfl|rfl|rfl<;>exact gD _
def Wd.fit(h:Wd G T W):iq 16 4 (aI G T W):=by
 refine .tup (by simp?[zM,xM];lia) λx hx=>?_;simp?[zR,yG,xV] at hx;have h4:=h.g4;have h5:=h.t4;have h6:=h.wl;rcases hx with rfl|rfl|rfl
 ·refine .tup (by rw[zE];lia) λx hx=>?_;let⟨p,hp,rfl⟩:=List.mem_map.mp hx;let⟨i,hi,q⟩:=h.We hp;exact BE (by rw[q.length_eq,B2,zE];exact pH h.wl)
 ·refine .tup (by rw[zE];lia) λx hx=>?_;let⟨p,hp,rfl⟩:=List.mem_map.mp hx;let⟨i,hi,q⟩:=h.Wf hp;exact BE (by rw[q.length_eq,ofT,zE];exact pH h.wl)
 ·refine .tup (by rw[zE];lia) λx hx=>?_;let⟨p,hp,rfl⟩:=List.mem_map.mp hx;exact (IL p).mono (yN _) (by decide)
def CV(h0:0<=c)(h9:c<=9):Wd [(c,[0,1]),(c,[1,0])] [(c,[1,0]),(c,[0,1])] [(0,0,2),(0,1,2),(1,0,2),(1,1,2)] where
 g1:=by simp?[zM,xM];lia
 g4:=by simp?[zM,xM];lia
 t1:=by simp?[zM,xM];lia
 t4:=by simp?[zM,xM];lia
 ga:=by intro p hp;simp?[zR,yG,xV] at hp;rcases hp with rfl|rfl<;>exact⟨h0,h9⟩
 ta:=by intro p hp;simp?[zR,yG,xV] at hp;rcases hp with rfl|rfl<;>exact⟨h0,h9⟩
 gl:=by
  intro i p hp
  match i,hp with
  | 0,hp=>injection hp with hp;subst hp;exact (show List.Perm ([0,1]:List Int) (B2 [(0,0,2),(0,1,2),(1,0,2),(1,1,2)] ((0:Nat):Int)) by decide)
  | 1,hp=>injection hp with hp;subst hp;exact (show List.Perm ([1,0]:List Int) (B2 [(0,0,2),(0,1,2),(1,0,2),(1,1,2)] ((1:Nat):Int)) by decide)
 tl:=by
  intro i p hp
  match i,hp with
  | 0,hp=>injection hp with hp;subst hp;exact (show List.Perm ([1,0]:List Int) (ofT [(0,0,2),(0,1,2),(1,0,2),(1,1,2)] ((0:Nat):Int)) by decide)
  | 1,hp=>injection hp with hp;subst hp;exact (show List.Perm ([0,1]:List Int) (ofT [(0,0,2),(0,1,2),(1,0,2),(1,1,2)] ((1:Nat):Int)) by decide)
 wr:=show ∀w∈([(0,0,2),(0,1,2),(1,0,2),(1,1,2)]:List Wy),(0<=w.1/\w.1 < ((2:Nat):Int))/\(0<=w.2.1/\w.2.1 < ((2:Nat):Int))/\1<=w.2.2/\w.2.2<=9 by decide
 wp:=by decide
 wl:=by decide
def jc(f:Nat->Int):Nat->List (List Int)->List Pl|_,[]=>[]|k,r::rs=>(f k,r)::jc f (k+1) rs
def gZ(f:Nat->Int):∀ (rs:List (List Int)) (k:Nat),(jc f k rs).length=rs.length
 | [],k=>rfl
 | r::rs,k=>by rw[jc,zM,zM,gZ f rs]
def gQ(f:Nat->Int):∀ {rs:List (List Int)}{k i:Nat}{p:Pl},(jc f k rs)[i]?=some p->∃r,rs[i]?=some r/\p=(f (k+i),r)
 | [],k,i,p,h=>by simp[jc] at h
 | r::rs,k,0,p,h=>by simp[jc] at h;exact⟨r,rfl,h.symm⟩
 | r::rs,k,i+1,p,h=>by
  simp?[jc,yZ] at h;let⟨y,h1,h2⟩:=gQ f h;exact⟨y,by simpa using h1,by rw[h2];congr 2;lia⟩
def dZ:∀ {a b:List (List Int)},qt a b->a.length=b.length
 | [],[],_=>rfl
 | x::a,y::b,h=>by rw[zM,zM,dZ h.2]
 | [],_::_,h=>h.elim
 | _::_,[],h=>h.elim
def nc:∀ {a b:List (List Int)}{i:Nat}{r:List Int},qt a b->a[i]?=some r->∃s,b[i]?=some s/\r.Perm s
 | [],[],i,r,_,h=>by simp at h
 | x::a,y::b,0,r,h,e=>by
  simp?[xR,yL] at e;subst e;exact⟨y,rfl,h.1⟩
 | x::a,y::b,i+1,r,h,e=>by
  simp?[yZ] at e;let⟨s,h1,h2⟩:=nc h.2 e;exact⟨s,by simpa using h1,h2⟩
 | [],_::_,i,r,h,_=>h.elim
 | _::_,[],i,r,h,_=>h.elim
def k7(W:List Wy)(m:Nat):List (List Int):=(List.range m).map λi=>B2 W ((i:Nat):Int)
def iS(W:List Wy)(m:Nat):List (List Int):=(List.range m).map λi=>ofT W ((i:Nat):Int)
def Ii(m1:1<=m)(m4:m<=4)(s1:1<=s)(s4:s<=4)(hf:∀k,0<=f k/\f k<=9)(hg:∀k,0<=g k/\g k<=9)
  (hm:qt QX (k7 W m)) (hy:qt Q8 (iS W s)) (wr:∀w∈W,(0<=w.1/\w.1 < m)/\(0<=w.2.1/\w.2.1 < s)/\1<=w.2.2/\w.2.2<=9) (wp:Ea W) (wl:W.length<=16):Wd (jc f 0 QX) (jc g 0 Q8) W:=by
 have lm:(jc f 0 QX).length=m:=by rw[gZ,dZ hm,k7,zE,zS]
 have ly:(jc g 0 Q8).length=s:=by rw[gZ,dZ hy,iS,zE,zS]
 have am:∀ {h:Nat->Int}{rs:List (List Int)},(∀k,0<=h k/\h k<=9)->∀p∈jc h 0 rs,0<=p.1/\p.1<=9:=λ{h rs} hh p hp=>by
  let⟨i,hi⟩:=List.mem_iff_getElem?.mp hp;let⟨r,_,rfl⟩:=gQ h hi;exact hh _
 refine⟨by lia,by lia,by lia,by lia,am hf,am hg,λi p hp=>?_,λi p hp=>?_,by rw[lm,ly];exact wr,wp,wl⟩
 ·let⟨r,h1,rfl⟩:=gQ f hp;let⟨t,h2,h3⟩:=nc hm h1;rw[k7,zP] at h2;let⟨k,hk,rfl⟩:=Option.map_eq_some_iff.mp h2;have:k=i:=by
   rw[zU] at hk;let⟨h,e⟩:=hk;rw[List.getElem_range] at e;exact e.symm
  subst this;exact h3
 ·let⟨r,h1,rfl⟩:=gQ g hp;let⟨t,h2,h3⟩:=nc hy h1;rw[iS,zP] at h2;let⟨k,hk,rfl⟩:=Option.map_eq_some_iff.mp h2;have:k=i:=by
   rw[zU] at hk;let⟨h,e⟩:=hk;rw[List.getElem_range] at e;exact e.symm
  subst this;exact h3
def dv{i:Nat}{fz:List Nat}{f:Dl.Env->Option D}{ρ ρ':ao}{d:D}(hf:f (aP ρ)=some d)(hs:Dl.mM d=false)(hh:hand fz 0 ρ=ρ')(hv:bx ρ'=aP ρ)(hr:jf d=false\/ρ'=ρ:=by first|exact .inr rfl|exact .inl rfl):Dl.aE i fz f ρ=some (.nx (ρ'.set i (.val d))):=by
 rcases hr with hr|hr
 ·simp?[Dl.aE,hf,zA,hs,yP,qQ,hh,hv,zC,hr]
 ·subst hr;simp?[Dl.aE,hf,zA,hs,yP,qQ,hh,hv,zC,ite_self]
def cq{i:Nat}{fz:List Nat}{f:Dl.Env->Option D}{ρ:ao}{d:D}(hf:f (aP ρ)=some d)(hs:Dl.mM d=true):Dl.aE i fz f ρ=some (.nx (ρ.set i (.val d))):=by
 simp?[Dl.aE,hf,zA,hs,xI]
def Kk(w:Wy):az (ax w) (.int 0)=some (.int w.1):=rfl
def JQ(w:Wy):az (ax w) (.int 1)=some (.int w.2.1):=rfl
def AK(a b c:D):small [a,b,c]=some [a,b,c]:=rfl
def Od{a b s:Int}(hs:s=1\/s=2\/s=3)(h:a < b):a / s < b / s\/(a / s=b / s/\a % s < b % s):=by rcases hs with rfl|rfl|rfl<;>lia
def MV{k m s:Int}(hs:s=1\/s=2\/s=3)(hm:m=1\/m=2\/m=3)(h0:0<=k)(h:k < m * s):(0<=k / s/\k / s < m)/\0<=k % s/\k % s < s:=by
 rcases hs with rfl|rfl|rfl<;>rcases hm with rfl|rfl|rfl<;>lia
def lB:ao->Option Out:=(dw (dQ (fB (f2 Hh (bh bA (aa (ae 7) ah)) (ae 2))) (fB (f2 Ck (ai 3 ak (aa (ae 0) (aa (f2 aB (f2 aB (ae 1) (fC (.int 2))) (ae 8)) (aa (fC (.int 4)) ah)))) (fC (.int 0))))) (l7 7 [0,1,6,8] (aL (aa (f2 lD (ae 8) (ae 6)) (aa (f2 jo (ae 8) (ae 6)) (aa (f2 aB (fC (.int 1)) (ai 3 ak (aa (ae 0) (aa (f2 aB (f2 aB (ae 1) (fC (.int 12))) (ae 8)) (aa (fC (.int 2)) ah))))) ah))))) cT)
abbrev st(ns:List Int)(a mo m s:Int)(x4 x7 x8 x9 x10 x11:Slot):ao:=[.val (bP ns),.val (.int a),.val (.int mo),.QK,x4,.val (.int m),.val (.int s),x7,x8,x9,x10,x11]
def Jp(ns:List Int)(a mo s k:Int)(W:List Wy):List Wy:=if (W.length:Int) < mo/\0 < dr ns (a+2+k) 4 then W++[(k / s,k % s,1+dr ns (a+12+k) 2)] else W
def KY{ns:List Int}{a mo m s k:Int}{W:List Wy}(hl:ns.length<=63)(hs:s=1\/s=2\/s=3)(hw:W.length<=9) :
  lB (st ns a mo m s .QK (.own (W.map ax)) (.val (.int k)) .QK .QK .QK)=some (.nx (st ns a mo m s .QK (.own ((Jp ns a mo s k W).map ax)) (.val (.int k)) .QK .QK .QK)):=by
 have hs0:0 < s:=by lia
 have hz:W.length < sizeLine:=jA hw (by decide);have hd:Dl.lD (.int k) (.int s)=some (.int (k / s)):=ji ⟨hs0,by lia⟩;have hm:Dl.jo (.int k) (.int s)=some (.int (k % s)):=gW hs0;have e4:=sX (ns:=ns) (a+2+k) 4 hl (by decide);have e2:=sX (ns:=ns) (a+12+k) 2 hl (by decide);have hh:hand [0,1,6,8] 0 (st ns a mo m s .QK (.own (W.map ax)) (.val (.int k)) .QK .QK .QK)=st ns a mo m s .QK (.own (W.map ax)) (.val (.int k)) .QK .QK .QK:=rfl;have ha:l7 7 [0,1,6,8] (aL (aa (f2 lD (ae 8) (ae 6)) (aa (f2 jo (ae 8) (ae 6)) (aa (f2 aB (fC (.int 1)) (ai 3 ak (aa (ae 0) (aa (f2 aB (f2 aB (ae 1) (fC (.int 12))) (ae 8)) (aa (fC (.int 2)) ah))))) ah)))) (st ns a mo m s .QK (.own (W.map ax)) (.val (.int k)) .QK .QK .QK)=some (.nx (st ns a mo m s .QK (.own ((W++[(k / s,k % s,1+dr ns (a+12+k) 2)]).map ax)) (.val (.int k)) .QK .QK .QK)):=by
  simp?[l7,nX,hh,bx,zJ,yV];simp! [ze,yP,oJ,hd,hm,e2,AK,zE,hz,yX,yW,jB];rfl
 by_cases c1:(W.length:Int) < mo
 ·by_cases c2:0 < dr ns (a+2+k) 4
  ·rw[show Jp ns a mo s k W=W++[(k / s,k % s,1+dr ns (a+12+k) 2)] from yM ⟨c1,c2⟩,<- ha];simp! [lB,mN,eA,zE,c1,c2,jQ,gH,e4]
  ·rw[show Jp ns a mo s k W=W from yO λh=>c2 h.2];simp! [lB,mN,eA,zE,c1,c2,jQ,wH,gH,e4,yP]
 ·rw[show Jp ns a mo s k W=W from yO λh=>c1 h.1];simp! [lB,mN,eA,zE,c1,wH,gH,yP]
structure DK(mo s k:Int)(W:List Wy):Prop where
 mem:∀w∈W,∃j:Int,0<=j/\j < k/\w.1=j / s/\w.2.1=j % s/\1<=w.2.2/\w.2.2<=2
 ris:Ea W
 len:(W.length:Int)<=k
 lem:(W.length:Int)<=mo
def DK.next{ns:List Int}{a mo s k:Int}{W:List Wy}(hl:ns.length<=63)(hs:s=1\/s=2\/s=3)(hk:0<=k)(h:DK mo s k W):DK mo s (k+1) (Jp ns a mo s k W):=by
 have old:∀w∈W,∃j:Int,0<=j/\j < k+1/\w.1=j / s/\w.2.1=j % s/\1<=w.2.2/\w.2.2<=2:=λw hw=>by
  let⟨j,a,b,c⟩:=h.mem w hw;exact⟨j,a,by lia,c⟩
 by_cases c:(W.length:Int) < mo/\0 < dr ns (a+2+k) 4
 ·rw[show Jp ns a mo s k W=W++[(k / s,k % s,1+dr ns (a+12+k) 2)] from yM c];have g1:=KD (ns:=ns) (a+12+k) 2 hl (by decide);have g2:=KG (ns:=ns) (a+12+k) 2 hl (by decide);refine⟨λw hw=>?_,?_,?_,?_⟩
  ·rcases List.mem_append.mp hw with hw|hw
   ·exact old w hw
   ·rw[yK] at hw;subst hw;exact⟨k,hk,by lia,rfl,rfl,by simp only;lia,by simp only;lia⟩
  ·refine List.pairwise_append.mpr ⟨h.ris,vG _ _,λa ha b hb=>?_⟩;rw[yK] at hb;subst hb;let⟨j,_,b,c1,c2,_⟩:=h.mem a ha;rw[c1,c2];exact Od hs b
  ·have:=h.len;rw[zO,xD];lia
  ·have:=c.1;rw[zO,xD];lia
 ·rw[show Jp ns a mo s k W=W from yO c];exact⟨old,h.ris,by have:=h.len;lia,h.lem⟩
def EY{ns:List Int}{a mo m s:Int}(hl:ns.length<=63)(hs:s=1\/s=2\/s=3):∀ (n k:Nat) {W:List Wy}{x8:Slot},k+n<=9->DK mo s k W ->
  ∃W' t8,dO (td 8) lB ((List.range' k n).map λi=>PyData.int ((i:Nat):Int)) (st ns a mo m s .QK (.own (W.map ax)) x8 .QK .QK .QK)=some (.nx (st ns a mo m s .QK (.own (W'.map ax)) t8 .QK .QK .QK))/\(n=0/\t8=x8\/∃d,t8=.val d)/\DK mo s ((k+n:Nat):Int) W'
 | 0,k,W,x8,hk,h=>⟨W,x8,rfl,.inl ⟨rfl,rfl⟩,h⟩
 | n+1,k,W,x8,hk,h=>by
  have h':DK mo s ((k+1:Nat):Int) (Jp ns a mo s k W):=by
   have:=h.next (ns:=ns) (a:=a) hl hs (by lia)
   rwa [show ((k:Int)+1)=((k+1:Nat):Int) by lia] at this
  let⟨W',t8,e,q,b⟩:=EY hl hs n (k+1) (W:=Jp ns a mo s k W) (x8:=.val (.int (k:Nat))) (by lia) h';refine⟨W',t8,?_,.inr (q.elim (λz=>⟨_,z.2⟩) id),by rw[show k+(n+1)=k+1+n by lia];exact b⟩;have hsg:∀d,td 8 (st ns a mo m s .QK (.own (W.map ax)) x8 .QK .QK .QK) d=some (st ns a mo m s .QK (.own (W.map ax)) (.val d) .QK .QK .QK):=λd=>rfl;rw[vE,zJ,dO,hsg,zA,KY hl hs (by have:=h.len;lia)];exact e
def Qk(W:List Wy)(i:Int)(hw:W.length<=20):aw 1 [0] (bG (ae 1)) (fG 0) (fB (f2 bE (f2 az (ae 0) (fC (.int 0))) (ae 1))) (f2 az (ae 0) (fC (.int 1))) [some (.int i),some (.list (W.map ax))]=some ((B2 W i).map PyData.int):=by
 rw[lZ (ds:=W.map ax) (p:=λd=>decide (kq ((cG d).getD 0 .none)=i)) (h:=λd=>(cG d).getD 1 .none) rfl (by rw[zE];lia) (λd hd=>?_) λd hd _=>?_]
 ·rw[kF,zN,B2,zN];rfl
 ·let⟨w,_,rfl⟩:=List.mem_map.mp hd;simp! [Kk,bO,gH];rfl
 ·let⟨w,_,rfl⟩:=List.mem_map.mp hd;simp! [JQ];rfl
def QC(W:List Wy)(i:Int)(hw:W.length<=20):aw 1 [0] (bG (ae 1)) (fG 0) (fB (f2 bE (f2 az (ae 0) (fC (.int 1))) (ae 1))) (f2 az (ae 0) (fC (.int 0))) [some (.int i),some (.list (W.map ax))]=some ((ofT W i).map PyData.int):=by
 rw[lZ (ds:=W.map ax) (p:=λd=>decide (kq ((cG d).getD 1 .none)=i)) (h:=λd=>(cG d).getD 0 .none) rfl (by rw[zE];lia) (λd hd=>?_) λd hd _=>?_]
 ·rw[kF,zN,ofT,zN];rfl
 ·let⟨w,_,rfl⟩:=List.mem_map.mp hd;simp! [JQ,bO,gH];rfl
 ·let⟨w,_,rfl⟩:=List.mem_map.mp hd;simp! [Kk];rfl
def uL{m:Nat}(hm:m<=1000):DD ((m:Nat):Int)=true:=by
 unfold DD;rw[zG,zK,zK];have h1:(0:Int)<=(m:Int):=Int.natCast_nonneg m;have h2:(m:Int)<=1000:=by lia
 exact⟨jU (by decide) h1,Int.lt_of_le_of_lt h2 (by decide)⟩
def vy{j:Int}(h:DD j=true):lC [.int j]=some ((List.range j.toNat).map λi=>PyData.int ((i:Nat):Int)):=by
 rw[lC,yM h]
def uQ{fi:Dl.Env->Option D}{ρ:Dl.Env}(m:Nat)(hm:m<=1000)(h:fi ρ=some (.int (m:Nat))):bw (aa fi ah) ρ=some ((List.range m).map λi=>PyData.int ((i:Nat):Int)):=by
 have e:aa fi ah ρ=some [.int ((m:Nat):Int)]:=by simp?[aa,ah,h,zA,zC]
 have e2:bw (aa fi ah) ρ=(aa fi ah ρ).bind lC:=rfl;rw[e2,e,zA,vy (uL hm),yH]
def IX{W:List Wy}{m:Nat}{ρ:Dl.Env}(hw:W.length<=20)(hm:m<=1000)(h5:ae i5 ρ=some (.int (m:Nat)))(h7:(ρ[i7]?).getD none=some (.list (W.map ax))) :
  aw 1 [i7] (bw (aa (ae i5) ah)) (fG 0) (λ_=>some true) (cZ (aw 1 [0] (bG (ae 1)) (fG 0) (fB (f2 bE (f2 az (ae 0) (fC (.int 0))) (ae 1))) (f2 az (ae 0) (fC (.int 1))))) ρ=some ((k7 W m).map bQ):=by
 rw[cM (h:=λd=>bQ (B2 W (kq d))) (uQ m hm h5) (by rw[zE,zS];lia) λd hd=>?_]
 ·rw[k7,zN,zN];rfl
 ·let⟨i,_,rfl⟩:=List.mem_map.mp hd;simp?[zJ,yV,h7,cZ,Qk W _ hw,zC,bQ,kq]
def Jd{W:List Wy}{m:Nat}{ρ:Dl.Env}(hw:W.length<=20)(hm:m<=1000)(h5:ae i5 ρ=some (.int (m:Nat)))(h7:(ρ[i7]?).getD none=some (.list (W.map ax))) :
  aw 1 [i7] (bw (aa (ae i5) ah)) (fG 0) (λ_=>some true) (cZ (aw 1 [0] (bG (ae 1)) (fG 0) (fB (f2 bE (f2 az (ae 0) (fC (.int 1))) (ae 1))) (f2 az (ae 0) (fC (.int 0))))) ρ=some ((iS W m).map bQ):=by
 rw[cM (h:=λd=>bQ (ofT W (kq d))) (uQ m hm h5) (by rw[zE,zS];lia) λd hd=>?_]
 ·rw[iS,zN,zN];rfl
 ·let⟨i,_,rfl⟩:=List.mem_map.mp hd;simp?[zJ,yV,h7,cZ,QC W _ hw,zC,bQ,kq]
def Kw(c:Int):Dl.Env->Option D:=(aL (aa (ai 3 ak (aa (ae 2) (aa (f2 aB (f2 aB (ae 3) (fC (.int c))) (ae 0)) (aa (fC (.int 4)) ah)))) (aa (ae 1) ah)))
def Nf{ns:List Int}{a:Int}(c:Int)(hl:ns.length<=63):∀ (QX:List (List Int)) (k:Nat),dJ (ip 0 1) (λ_=>some true) (Kw c) [none,none,some (bP ns),some (.int a)] (bu k (QX.map af))=some ((jc (λk=>dr ns (a+c+((k:Nat):Int)) 4) k QX).map bc)
 | [],k=>rfl
 | r::QX,k=>by
  have hg:ip 0 1 [none,none,some (bP ns),some (.int a)] (.tuple [.int ((k:Nat):Int),af r])=some [some (.int ((k:Nat):Int)),some (af r),some (bP ns),some (.int a)]:=rfl;have he:Kw c [some (.int ((k:Nat):Int)),some (af r),some (bP ns),some (.int a)]=some (bc (dr ns (a+c+((k:Nat):Int)) 4,r)):=by
   simp! [Kw,sX (ns:=ns) (a+c+((k:Nat):Int)) 4 hl (by decide),A0,bc]
  have ih:=Nf (a:=a) c hl QX (k+1);rw[zJ,bu,dJ,hg];simp?[zA,xI,he,ih,zC,jc,zJ]
def wV{ns:List Int}{a c:Int}{i9:Nat}{ρ:Dl.Env}{QX:List (List Int)}(hl:ns.length<=63)(hm:QX.length<=1000)(h9:ae i9 ρ=some (.list (QX.map af)))(h0:(ρ[0]?).getD none=some (bP ns))(h1:(ρ[1]?).getD none=some (.int a)) :
  bh dX (aa (cZ (aw 2 [0,1] (bj (aa (ae i9) ah)) (ip 0 1) (λ_=>some true) (Kw c))) ah) ρ=some (.tuple ((jc (λk=>dr ns (a+c+((k:Nat):Int)) 4) 0 QX).map bc)):=by
 have hi:bj (aa (ae i9) ah) ρ=some (bu 0 (QX.map af)):=by
  simp?[bj,aa,ah,h9,zA,zC,dc,oneOf,eI]
 have hc:aw 2 [0,1] (bj (aa (ae i9) ah)) (ip 0 1) (λ_=>some true) (Kw c) ρ=some ((jc (λk=>dr ns (a+c+((k:Nat):Int)) 4) 0 QX).map bc):=by
  simp?[aw,hi,zA,gh,zJ,yV,h0,h1,List.replicate,xG,xP,Nf c hl];exact bM (by rw[zE,gZ];lia)
 simp?[bh,aa,ah,cZ,hc,zC,zA,dX,dc,oneOf,eI]
def aj{g1 g2:ao->Option Out}{ρ ρ':ao}(h:g1 ρ=some (.nx ρ')):aq g1 g2 ρ=g2 ρ':=by
 simp?[aq,h,zA]
def IF{g1 g2:ao->Option Out}{ρ:ao}{d:D}(h:g1 ρ=some (.rt d)):aq g1 g2 ρ=some (.rt d):=by
 simp?[aq,h,zA]
def aX{g:ao->Option Out}{n:Nat}{args:List D}{d:D}(h:g (args.map Slot.val++List.replicate (n - args.length) .QK)=some (.rt d)):bp g n args=some d:=by
 simp?[bp,h,zC]
def hJ{g:D->D->Option D}{fa fb:Dl.Env->Option D}{ρ:Dl.Env}{a b:D}(ha:fa ρ=some a)(hb:fb ρ=some b):f2 g fa fb ρ=g a b:=by
 simp?[f2,ha,hb,zA]
def KQ{ns:List Int}{a mo:Int}{m s:Nat}(m1:m<=3)(s1:s<=3):f2 cA (ae 5) (ae 6) (bx (st ns a mo m s .QK (.own []) .QK .QK .QK .QK))=some (.int ((m * s:Nat):Int)):=by
 have h:Dl.cA (.int (m:Int)) (.int (s:Int))=some (.int ((m:Int) * (s:Int))):=eN (lE (by lia));rw[hJ (a:=.int (m:Int)) (b:=.int (s:Int)) rfl rfl,h,Int.natCast_mul]
def MN{ns:List Int}{a mo:Int}{m s:Nat}(m1:m<=3)(s1:s<=3)(hms:m * s<=9){W:List Wy}{t8:Slot}(e: dO (td 8) lB ((List.range' 0 (m * s)).map λi=>PyData.int ((i:Nat):Int)) (st ns a mo m s .QK (.own (([]:List Wy).map ax)) .QK .QK .QK .QK)=some (.nx (st ns a mo m s .QK (.own (W.map ax)) t8 .QK .QK .QK))):dB [5,6] (bw (aa (f2 cA (ae 5) (ae 6)) ah)) (td 8) lB (st ns a mo m s .QK (.own []) .QK .QK .QK .QK)=some (.nx (st ns a mo m s .QK (.own (W.map ax)) t8 .QK .QK .QK)):=by
 have hh:hand [5,6] 0 (st ns a mo m s .QK (.own []) .QK .QK .QK .QK)=st ns a mo m s .QK (.own []) .QK .QK .QK .QK:=rfl;have hr:=uQ (fi:=f2 cA (ae 5) (ae 6)) (ρ:=bx (st ns a mo m s .QK (.own []) .QK .QK .QK .QK)) (m * s) (by lia) (KQ m1 s1);rw[List.range_eq_range'] at hr;rw[yV] at e;simp?[dB,hh,hr,zA];exact e
structure O0(mo:Int)(G T:List Pl)(W:List Wy):Prop where
 g3:G.length<=3
 t3:T.length<=3
 w2:∀w∈W,w.2.2<=2
 ga:∀p∈G,p.1<=3
 ta:∀p∈T,p.1<=3
 wm:(W.length:Int)<=mo
def uW{ns:List Int}{a mo:Int}(hl:ns.length<=63)(hmo:3 < mo)(c:dr ns (a+64) 4=0):∃G T W,bW [bP ns,.int a,.int mo]=some (aI G T W)/\Wd G T W/\O0 mo G T W:=by
 have e64:=sX (ns:=ns) (a+64) 4 hl (by decide);have e65:=eZ (ns:=ns) (a+65) 2 hl (by decide);refine⟨_,_,_,?_,CV (c:=1+dr ns (a+65) 2) (by lia) (by lia),⟨by simp,by simp,by decide,λp hp=>?_,λp hp=>?_,by simp;lia⟩⟩;rotate_left
 ·simp?[zR,yG,xV] at hp;rcases hp with rfl|rfl<;>(simp only;lia)
 ·simp?[zR,yG,xV] at hp;rcases hp with rfl|rfl<;>(simp only;lia)
 have s1:Dl.aE 3 [0,1] (f2 aB (fC (.int 1)) (ai 3 ak (aa (ae 0) (aa (f2 aB (ae 1) (fC (.int 65))) (aa (fC (.int 2)) ah))))) [.val (bP ns),.val (.int a),.val (.int mo),.QK,.QK,.QK,.QK,.QK,.QK,.QK,.QK,.QK]=some (.nx [.val (bP ns),.val (.int a),.val (.int mo),.val (.int (1+dr ns (a+65) 2)),.QK,.QK,.QK,.QK,.QK,.QK,.QK,.QK]) :=
  cq (d:=.int (1+dr ns (a+65) 2)) (by simp! [e65.1]) rfl
 generalize 1+dr ns (a+65) 2=x at *;have s2:Dl.aE 4 [3] (aL (aa (aL (aa (ae 3) (aa (aL (aa (fC (.int 1)) (aa (fC (.int 0)) ah))) ah))) (aa (aL (aa (ae 3) (aa (aL (aa (fC (.int 0)) (aa (fC (.int 1)) ah))) ah))) ah))) [.val (bP ns),.val (.int a),.val (.int mo),.val (.int x),.QK,.QK,.QK,.QK,.QK,.QK,.QK,.QK]=some (.nx [.val (bP ns),.val (.int a),.val (.int mo),.val (.int x),.val (.tuple [bc (x,[1,0]),bc (x,[0,1])]),.QK,.QK,.QK,.QK,.QK,.QK,.QK]) :=
  dv (d:=.tuple [bc (x,[1,0]),bc (x,[0,1])]) (by simp! [A0];rfl) rfl rfl rfl
 simp! [bW,dF,eA,e64,c,bO,jQ,gH,show decide ((3:Int) < mo)=true from yB hmo,s1,s2,A0,AK,show ∀a b c d:D,small [a,b,c,d]=some [a,b,c,d] fromλ_ _ _ _=>rfl];rfl
def uX{ns:List Int}{a mo:Int}(hl:ns.length<=63)(hm0:0<=mo)(c:¬ (3 < mo/\dr ns (a+64) 4=0)):∃G T W,bW [bP ns,.int a,.int mo]=some (aI G T W)/\Wd G T W/\O0 mo G T W:=by
 have e64:=sX (ns:=ns) (a+64) 4 hl (by decide);have em:=eZ (ns:=ns) a 3 hl (by decide);have es:=eZ (ns:=ns) (a+1) 3 hl (by decide);let⟨m,hm⟩:=vH (show 0<=1+dr ns a 3 by lia);let⟨s,hs⟩:=vH (show 0<=1+dr ns (a+1) 3 by lia);have m1:1<=m/\m<=3:=by lia
 have s1:1<=s/\s<=3:=by lia
 have SA:(s:Int)=1\/(s:Int)=2\/(s:Int)=3:=by lia
 have RV:(m:Int)=1\/(m:Int)=2\/(m:Int)=3:=by lia
 have t5:Dl.aE 5 [0,1] (f2 aB (fC (.int 1)) (ai 3 ak (aa (ae 0) (aa (ae 1) (aa (fC (.int 3)) ah))))) [.val (bP ns),.val (.int a),.val (.int mo),.QK,.QK,.QK,.QK,.QK,.QK,.QK,.QK,.QK]=some (.nx [.val (bP ns),.val (.int a),.val (.int mo),.QK,.QK,.val (.int (m:Nat)),.QK,.QK,.QK,.QK,.QK,.QK]) :=
  cq (d:=.int (m:Nat)) (by simp! [em.1,hm]) rfl
 have t6:Dl.aE 6 [0,1] (f2 aB (fC (.int 1)) (ai 3 ak (aa (ae 0) (aa (f2 aB (ae 1) (fC (.int 1))) (aa (fC (.int 3)) ah))))) [.val (bP ns),.val (.int a),.val (.int mo),.QK,.QK,.val (.int (m:Nat)),.QK,.QK,.QK,.QK,.QK,.QK]=some (.nx (st ns a mo m s .QK .QK .QK .QK .QK .QK)) :=
  cq (d:=.int (s:Nat)) (by simp! [es.1,hs]) rfl
 have t7:bo 7 [] (gu ah) (st ns a mo m s .QK .QK .QK .QK .QK .QK)=some (.nx (st ns a mo m s .QK (.own []) .QK .QK .QK .QK)):=by
  simp?[bo,mI,gu,ah,zA,hV,zC,yX,yW]
 have hms:m * s<=9:=vU m1.2 s1.2;have agi:1<=m * s:=vU m1.1 s1.1;let⟨W,t8,e,h8,I⟩:=EY (ns:=ns) (a:=a) (m:=m) (s:=s) hl SA (m * s) 0 (W:=[]) (x8:=.QK) (by lia) (mo:=mo) ⟨λw hw=>(by cases hw),List.Pairwise.nil,by decide,hm0⟩;rw[jE] at I;obtain⟨d8,rfl⟩:∃d,t8=.val d:=h8.elim (λz=>by lia) id;have aeg:W.length<=9:=by have:=I.len;lia
 have tf:=MN m1.2 s1.2 hms e;unfold lB at tf;have Uh:W.length<=20:=by lia
 have wr:∀w∈W,(0<=w.1/\w.1 < m)/\(0<=w.2.1/\w.2.1 < s)/\1<=w.2.2/\w.2.2<=9:=λw hw=>by
  let⟨j,j0,jk,ea,b,c1,c2⟩:=I.mem w hw;have:=MV SA RV j0 (by rw[<- Int.natCast_mul];exact jk);rw[ea,b];exact⟨this.1,this.2,c1,by lia⟩
 have adf:∀r∈k7 W m,r.length<=1000:=λr hr=>by
  let⟨i,_,rfl⟩:=List.mem_map.mp hr;rw[B2,zE];exact yE (xQ _ _) (by lia)
 have adg:∀r∈iS W s,r.length<=1000:=λr hr=>by
  let⟨i,_,rfl⟩:=List.mem_map.mp hr;rw[ofT,zE];exact yE (xQ _ _) (by lia)
 let⟨QX,om,pm⟩:=yw (ns:=ns) (a:=a+24) (rows:=k7 W m) hl adf (by rw[k7,zE,zS];lia);let⟨Q8,oy,py⟩:=yw (ns:=ns) (a:=a+40) (rows:=iS W s) hl adg (by rw[iS,zE,zS];lia);have lm:QX.length<=1000:=by rw[dZ pm,k7,zE,zS];lia
 have ly:Q8.length<=1000:=by rw[dZ py,iS,zE,zS];lia
 have t9:Dl.aE 9 [0,1,5,7] (ai 3 bq (aa (ae 0) (aa (f2 aB (ae 1) (fC (.int 24))) (aa (cZ (aw 1 [7] (bw (aa (ae 5) ah)) (fG 0) (λ_=>some true) (cZ (aw 1 [0] (bG (ae 1)) (fG 0) (fB (f2 bE (f2 az (ae 0) (fC (.int 0))) (ae 1))) (f2 az (ae 0) (fC (.int 1))))))) ah)))) (st ns a mo m s .QK (.own (W.map ax)) (.val d8) .QK .QK .QK)=some (.nx (st ns a mo m s .QK (.val (.list (W.map ax))) (.val d8) (.val (.list (QX.map af))) .QK .QK)):=by
  refine (dv (ρ':=st ns a mo m s .QK (.val (.list (W.map ax))) (.val d8) .QK .QK .QK) (d:=.list (QX.map af)) ?_ rfl rfl ?_).trans rfl
  ·have q:=IX (ρ:=aP (st ns a mo m s .QK (.own (W.map ax)) (.val d8) .QK .QK .QK)) (i5:=5) (i7:=7) Uh (show m<=1000 by lia) rfl rfl;simp?[ai,aa,ah,cZ,q,zC,zA];simp! [om]
  ·simp?[st,bx,aP,zJ,yV];rfl
 have t10:Dl.aE 10 [0,1,6,7] (ai 3 bq (aa (ae 0) (aa (f2 aB (ae 1) (fC (.int 40))) (aa (cZ (aw 1 [7] (bw (aa (ae 6) ah)) (fG 0) (λ_=>some true) (cZ (aw 1 [0] (bG (ae 1)) (fG 0) (fB (f2 bE (f2 az (ae 0) (fC (.int 1))) (ae 1))) (f2 az (ae 0) (fC (.int 0))))))) ah)))) (st ns a mo m s .QK (.val (.list (W.map ax))) (.val d8) (.val (.list (QX.map af))) .QK .QK)=some (.nx (st ns a mo m s .QK (.val (.list (W.map ax))) (.val d8) (.val (.list (QX.map af))) (.val (.list (Q8.map af))) .QK)):=by
  refine (dv (ρ':=st ns a mo m s .QK (.val (.list (W.map ax))) (.val d8) (.val (.list (QX.map af))) .QK .QK) (d:=.list (Q8.map af)) ?_ rfl ?_ ?_).trans rfl
  ·have q:=Jd (ρ:=aP (st ns a mo m s .QK (.val (.list (W.map ax))) (.val d8) (.val (.list (QX.map af))) .QK .QK)) (i5:=6) (i7:=7) Uh (show s<=1000 by lia) rfl rfl;simp?[ai,aa,ah,cZ,q,zC,zA];simp! [oy]
  ·rfl
  ·simp?[st,bx,aP,zJ,yV];rfl
 have Xv:Dl.aE 11 [0,1,8,9] (bh dX (aa (cZ (aw 2 [0,1] (bj (aa (ae 9) ah)) (ip 0 1) (λ_=>some true) (Kw 56))) ah)) (st ns a mo m s .QK (.val (.list (W.map ax))) (.val d8) (.val (.list (QX.map af))) (.val (.list (Q8.map af))) .QK)=some (.nx (st ns a mo m s .QK (.val (.list (W.map ax))) (.val d8) (.val (.list (QX.map af))) (.val (.list (Q8.map af))) (.val (.tuple ((jc (λk=>dr ns (a+56+((k:Nat):Int)) 4) 0 QX).map bc))))):=by
  refine (dv (ρ':=st ns a mo m s .QK (.val (.list (W.map ax))) (.val d8) (.val (.list (QX.map af))) (.val (.list (Q8.map af))) .QK) (wV hl lm rfl rfl rfl) rfl rfl ?_).trans rfl;simp?[st,bx,aP,zJ,yV];rfl
 have t4:∀G:D,Dl.aE 4 [0,1,8,10] (bh dX (aa (cZ (aw 2 [0,1] (bj (aa (ae 10) ah)) (ip 0 1) (λ_=>some true) (Kw 60))) ah)) (st ns a mo m s .QK (.val (.list (W.map ax))) (.val d8) (.val (.list (QX.map af))) (.val (.list (Q8.map af))) (.val G))=some (.nx (st ns a mo m s (.val (.tuple ((jc (λk=>dr ns (a+60+((k:Nat):Int)) 4) 0 Q8).map bc))) (.val (.list (W.map ax))) (.val d8) (.val (.list (QX.map af))) (.val (.list (Q8.map af))) (.val G))):=λG=>by
  refine (dv (ρ':=st ns a mo m s .QK (.val (.list (W.map ax))) (.val d8) (.val (.list (QX.map af))) (.val (.list (Q8.map af))) (.val G)) (wV hl ly rfl rfl rfl) rfl rfl ?_).trans rfl;simp?[st,bx,aP,zJ,yV];rfl
 refine⟨_,_,W,?_,Ii (f:=λk=>dr ns (a+56+((k:Nat):Int)) 4) (g:=λk=>dr ns (a+60+((k:Nat):Int)) 4) m1.1 (by lia) s1.1 (by lia) (λk=>?_) (λk=>?_) pm py wr I.ris (by lia),⟨by rw[gZ,dZ pm,k7,zE,zS];lia,by rw[gZ,dZ py,iS,zE,zS];lia,λw hw=>(by let⟨j,_,_,_,_,_,z⟩:=I.mem w hw;exact z),λp hp=>?_,λp hp=>?_,I.lem⟩⟩
 ·unfold Kw at Xv t4;have tA:∀g,dw (dQ (fB (f2 Ck (ae 2) (fC (.int 3)))) (fB (f2 bE (ai 3 ak (aa (ae 0) (aa (f2 aB (ae 1) (fC (.int 64))) (aa (fC (.int 4)) ah)))) (fC (.int 0))))) g cT [.val (bP ns),.val (.int a),.val (.int mo),.QK,.QK,.QK,.QK,.QK,.QK,.QK,.QK,.QK]=some (.nx [.val (bP ns),.val (.int a),.val (.int mo),.QK,.QK,.QK,.QK,.QK,.QK,.QK,.QK,.QK]):=λg=>by
   by_cases c1:3 < mo
   ·have c2:¬ dr ns (a+64) 4=0:=λz=>c ⟨c1,z⟩;simp! [eA,e64,c1,c2,bO,wH,jQ,gH,yP]
   ·simp! [eA,c1,wH,gH,yP]
  refine aX ?_;show dF [.val (bP ns),.val (.int a),.val (.int mo),.QK,.QK,.QK,.QK,.QK,.QK,.QK,.QK,.QK]=_;unfold dF;rw[aj (tA _),aj t5,aj t6,aj t7,aj tf,aj t9,aj t10,aj Xv,aj (t4 _)];simp! [AK,aI]
 ·have q:=eZ (ns:=ns) (a+56+((k:Nat):Int)) 4 hl (by decide);exact⟨q.2.1,by lia⟩
 ·have q:=eZ (ns:=ns) (a+60+((k:Nat):Int)) 4 hl (by decide);exact⟨q.2.1,by lia⟩
 ·let⟨i,hi⟩:=List.getElem?_of_mem hp;let⟨r,_,rfl⟩:=gQ _ hi;have q:=eZ (ns:=ns) (a+56+((0+i:Nat):Int)) 4 hl (by decide);simp only;lia
 ·let⟨i,hi⟩:=List.getElem?_of_mem hp;let⟨r,_,rfl⟩:=gQ _ hi;have q:=eZ (ns:=ns) (a+60+((0+i:Nat):Int)) 4 hl (by decide);simp only;lia
def xq{ns:List Int}{a mo:Int}(hl:ns.length<=63)(hm0:0<=mo):∃G T W,bW [bP ns,.int a,.int mo]=some (aI G T W)/\Wd G T W/\O0 mo G T W:=by
 by_cases c:3 < mo/\dr ns (a+64) 4=0
 ·exact uW hl c.1 c.2
 ·exact uX hl hm0 c
def Kv(h:Ea W):(W.map λw=>[w.1,w.2.1]).Pairwise λa b=>Dl.lexLt a b=true:=List.pairwise_map.mpr (h.imp λRC=>PD RC)
def F9(h:Ea W):(W.map λw=>[w.1,w.2.1]).Nodup:=(Kv h).imp λ{a b} RC e=>by
 rw[e,fV] at RC;cases RC
def Ga(h:Ea W)(hn:m.Nodup)(hm:∀r,r∈W.map (λw=>[w.1,w.2.1])↔r∈m):W.map (λw=>[w.1,w.2.1])=qv m :=
 FW ((List.perm_ext_iff_of_nodup (F9 h) hn).mpr hm) ((Kv h).imp λRC=>NO RC)
def Wd.wok(h:Wd G T W):OG (aI G T W)=true:=by
 have hP:(W.map ax).map fg=W.map λw=>[w.1,w.2.1]:=by rw[zN];rfl
 have hpg:∀i j:Int,[i,j]∈W.map (λw=>[w.1,w.2.1])↔[i,j]∈lX 0 (G.map bc):=λi j=>by
  rw[o3];constructor
  ·intro hm;let⟨w,hw,e⟩:=List.mem_map.mp hm;simp?[kW,and_true] at e;have hr:=(h.wr w hw).1;obtain⟨p,hp⟩:∃p,G[i.toNat]?=some p:=⟨G[i.toNat]'(by lia),zL (by lia)⟩
   refine⟨i.toNat,bc p,by rw[zP,hp];rfl,by lia,?_⟩;rw[fN,(h.gl _ p hp).mem_iff,uv,show ((i.toNat:Nat):Int)=i by lia];exact hm
  ·rintro⟨m,p,hp,rfl,hj⟩;rw[zP] at hp;let⟨p',U9,rfl⟩:=Option.map_eq_some_iff.mp hp;rw[fN,(h.gl m p' U9).mem_iff,uv] at hj
   rwa [jE]
 have hpt:∀i j:Int,[i,j]∈W.map (λw=>[w.1,w.2.1])↔[j,i]∈lX 0 (T.map bc):=λi j=>by
  rw[o3];constructor
  ·intro hm;let⟨w,hw,e⟩:=List.mem_map.mp hm;simp?[kW,and_true] at e;have hr:=(h.wr w hw).2.1;obtain⟨p,hp⟩:∃p,T[j.toNat]?=some p:=⟨T[j.toNat]'(by lia),zL (by lia)⟩
   refine⟨j.toNat,bc p,by rw[zP,hp];rfl,by lia,?_⟩;rw[fN,(h.tl _ p hp).mem_iff,uG,show ((j.toNat:Nat):Int)=j by lia];exact hm
  ·rintro⟨m,p,hp,rfl,hj⟩;rw[zP] at hp;let⟨p',U9,rfl⟩:=Option.map_eq_some_iff.mp hp;rw[fN,(h.tl m p' U9).mem_iff,uG] at hj
   rwa [jE]
 have two:∀ {r:List Int},r∈W.map (λw=>[w.1,w.2.1])->∃i j,r=[i,j]:=λhr=>by
  let⟨w,_,rfl⟩:=List.mem_map.mp hr;exact⟨_,_,rfl⟩
 have ng:∀ (L:List Pl),(∀p∈L,p.2.Nodup)->(lX 0 (L.map bc)).Nodup:=λL hL=>rZ λp hp=>by
  let⟨p',U9,rfl⟩:=List.mem_map.mp hp;rw[fN];exact hL p' U9
 have e1:W.map (λw=>[w.1,w.2.1])=qv (lX 0 (G.map bc)):=Ga h.wp (ng G λp hp=>by
   let⟨i,hi,e⟩:=qS hp;exact (h.gl i p (by rw[zL hi,e])).nodup_iff.mpr (mY h.wp i)) λr=>⟨λhr=>by
   let⟨i,j,rfl⟩:=two hr;exact (hpg i j).mp hr,λhr=>by
   let⟨i,j,rfl⟩:=kr r hr;exact (hpg i j).mpr hr⟩
 have e2:W.map (λw=>[w.1,w.2.1])=qv ((lX 0 (T.map bc)).map List.reverse):=Ga h.wp (by
   exact List.pairwise_map.mpr (List.Pairwise.imp (λ{a b} Q7 e=>Q7 (List.reverse_inj.mp e)) (ng T λp hp=>by
    let⟨i,hi,e⟩:=qS hp;exact (h.tl i p (by rw[zL hi,e])).nodup_iff.mpr (nN h.wp i)))) λr=>⟨λhr=>by
   let⟨i,j,rfl⟩:=two hr;exact List.mem_map.mpr ⟨[j,i],(hpt i j).mp hr,rfl⟩,λhr=>by
   let⟨r',Sh,rfl⟩:=List.mem_map.mp hr;let⟨i,j,rfl⟩:=kr r' Sh;exact (hpt j i).mpr Sh⟩
 have hw:(W.map ax).all (iR G.length T.length)=true:=by
  rw[xH];intro x hx;let⟨w,hw,rfl⟩:=List.mem_map.mp hx;exact CZ (h.wr w hw)
 have hs:∀ {L:List Pl},1<=L.length->L.length<=4->nj (.tuple (L.map bc))=true:=λ{L} a b=>by
  simp?[nj,long,zE,zG,zK];lia
 have h3:long 3 3 (aI G T W)=true:=rfl;have hg:=h.gok;have ht:=h.tok;unfold OG Aa;rw[h3,jL];simp?[aI,cG,vX,vY,hP,<- e1,<- e2,jQ,Bool.and_true,iM,hs h.g1 h.g4,hs h.t1 h.t4,zE,hg,ht,hw,KH]
def sI(b:Bool):Int:=if b then 1 else 0
def bz(b:Bool)(w:Wy):Int:=if b then w.2.1 else w.1
def b9(b:Bool)(w:Wy):Int:=bz (!b) w
def bb(b:Bool)(G T:List Pl):List Pl:=if b then T else G
def oO(b:Bool)(G T:List Pl)(W:List Wy):az (aI G T W) (.int (sI b))=some (.tuple ((bb b G T).map bc)):=by cases b<;>rfl
def tN(G T:List Pl)(W:List Wy):az (aI G T W) (.int 2)=some (.tuple (W.map ax)):=rfl
def mH(b:Bool)(w:Wy):az (ax w) (.int (sI b))=some (.int (bz b w)):=by cases b<;>rfl
def JM(b:Bool)(w:Wy):az (ax w) (.int (1 - sI b))=some (.int (b9 b w)):=by cases b<;>rfl
def JG(w:Wy):az (ax w) (.int 2)=some (.int w.2.2):=rfl
def IP(p:Pl):az (bc p) (.int 1)=some (af p.2):=rfl
def AI(h:ds[i]?=some d):az (.tuple ds) (.int ((i:Nat):Int))=some d:=by
 show pI ds (i:Nat)=_;exact uO h
def Lm(h:ds[i]?=some d):az (.list ds) (.int ((i:Nat):Int))=some d:=by
 show pI ds (i:Nat)=_;exact uO h
def iG{l:List α}(h:l[i]?=some x):az (.tuple (l.map f)) (.int ((i:Nat):Int))=some (f x):=AI (by rw[zP,h];rfl)
def tM{l:List α}(h:l[i]?=some x):az (.list (l.map f)) (.int ((i:Nat):Int))=some (f x):=Lm (by rw[zP,h];rfl)
def Ov(b:Bool)(W:List Wy)(p:Int):List Int:=(W.filter λw=>decide (bz b w=p)).map (b9 b)
def Wd.Xw{G T:List Pl}{W:List Wy}(h:Wd G T W){b:Bool}{i:Nat}{p:Pl}(e:(bb b G T)[i]?=some p):p.2.Perm (Ov b W i):=by
 cases b
 ·exact h.gl i p e
 ·exact h.tl i p e
def Wd.nod(h:Wd G T W)(b:Bool)(i:Int):(Ov b W i).Nodup:=by
 cases b
 ·exact mY h.wp i
 ·exact nN h.wp i
def qg{tt:Dl.Env->Option Bool}{te:Dl.Env->Option D}{r:List (Option D)}{p:Nat->D->Bool}{h:Nat->D->D}:∀ {ds:List D}{k:Nat},
  (∀i d,ds[i]?=some d->tt (some (.int ((k+i:Nat):Int))::some d::r)=some (p (k+i) d)/\(p (k+i) d=true->te (some (.int ((k+i:Nat):Int))::some d::r)=some (h (k+i) d))) ->
  dJ (ip 0 1) tt te (none::none::r) (bu k ds)=some (((ds.zipIdx k).filter λq=>p q.2 q.1).map λq=>h q.2 q.1)
 | [],k,_=>rfl
 | d::ds,k,hh=>by
  let⟨h1,h2⟩:=hh 0 d rfl;have ih:=qg (ds:=ds) (k:=k+1) λi x hx=>by
   have:=hh (i+1) x (by simpa using hx);rw[show k+1+i=k+(i+1) by lia];exact this
  have hg:ip 0 1 (none::none::r) (.tuple [.int ((k:Nat):Int),d])=some (some (.int ((k:Nat):Int))::some d::r):=by
   simp?[ip,isFree,xR,yZ,qH,Option.isNone_none,jP,xI,yW,yX]
  rw[bu,dJ,hg,List.zipIdx_cons];simp?[Nat.add_zero] at h1 h2;simp?[zA,h1];cases hp:p k d with
  | true=>simp[h2 hp,ih,hp]
  | false=>simp[ih,hp]
def DV{fi:Dl.Env->Option (List D)}{tt:Dl.Env->Option Bool}{te:Dl.Env->Option D}{ρ:Dl.Env}{ds:List D}{p:Nat->D->Bool}{h:Nat->D->D}(SD:fi ρ=some (bu 0 ds))(hl:ds.length<=1000)
  (hh:∀i d,ds[i]?=some d->tt (some (.int ((i:Nat):Int))::some d::cs.map λj=>(ρ[j]?).getD none)=some (p i d)/\(p i d=true->te (some (.int ((i:Nat):Int))::some d::cs.map λj=>(ρ[j]?).getD none)=some (h i d))) :
  aw 2 cs fi (ip 0 1) tt te ρ=some ((ds.zipIdx.filter λq=>p q.2 q.1).map λq=>h q.2 q.1):=by
 have:=qg (tt:=tt) (te:=te) (r:=cs.map λj=>(ρ[j]?).getD none) (p:=p) (h:=h) (ds:=ds) (k:=0) (by simpa using hh);simp?[aw,SD,zA,gh,List.replicate,xG,xP,this];refine bM ?_;rw[zE];refine yE (xQ _ _) ?_;rw[List.length_zipIdx];lia
def lq(f:α->Int):∀ {l m:List α},l.Perm m->(l.Pairwise λa b=>f a<=f b)->(m.Pairwise λa b=>f a < f b)->l=m
 | l,[],hp,_,_=>hp.eq_nil
 | [],x::m,hp,_,_=>absurd hp.symm.eq_nil (by simp)
 | y::l,x::m,hp,h1,h2=>by
  rw[List.pairwise_cons] at h1 h2;have e:y=x:=by
   have hx:x∈y::l:=hp.mem_iff.mpr zF;rcases List.mem_cons.mp hx with z|hx
   ·exact z.symm
   ·have hy:y∈x::m:=hp.mem_iff.mp zF;rcases List.mem_cons.mp hy with z|hy
    ·exact z
    ·have:=h1.1 x hx;have:=h2.1 y hy;lia
  subst e;rw[lq f ((List.perm_cons y).mp hp) h1.2 h2.2]
def AW(z:Nat->Int)(l:List α)(d:α)(f:α->Int)(h:∀i,i < l.length->z i=f (l.getD i d)):(vg z l d).Pairwise λa b=>f a<=f b:=by
 unfold vg;split
 ·rename_i hl
  match l,hl with
  | [],_=>exact List.Pairwise.nil
  | [a],_=>exact vG _ _
 ·rename_i hl;let⟨hp,hs⟩:=SP.iH (z:=z) (n:=l.length) (by lia);rw[jF] at hs ⊢;refine hs.imp_of_mem λ{i j} hi hj QQ=>?_;have R5:i < l.length:=by have:=hp.mem_iff.mp hi;simpa using this
  have Vu:j < l.length:=by have:=hp.mem_iff.mp hj;simpa using this
  rw[<- h i R5,<- h j Vu];exact QQ
def aJ(W:List Wy)(i:Nat):Wy:=W.getD i (0,0,0)
def lL(hk:k < W.length):W[k]=aJ W k:=by simp[aJ,hk]
def oT(hk:k < W.length):W[k]?=some (aJ W k):=by rw[zL hk,lL hk]
def own(b:Bool)(W:List Wy)(p:Int):List Nat:=(List.range W.length).filter λi=>decide (bz b (aJ W i)=p)
def kn(b:Bool)(W:List Wy)(p o:Int):Nat:=W.findIdx λw=>decide (bz b w=p)&&decide (b9 b w=o)
def iw(b:Bool)(W:List Wy)(p:Int)(L:List Int):List Nat:=L.map (kn b W p)
def fF:i∈own b W p↔i < W.length/\bz b (aJ W i)=p:=by simp[own]
def map_range(d:α)(f:α->β)(l:List α):(List.range l.length).map (λi=>f (l.getD i d))=l.map f:=by
 apply jI
 ·simp
 ·intro i h1 h2;have:i < l.length:=by simpa using h2
  simp[this]
def uP(d:α)(q:α->Bool):∀ (l:List α),((List.range l.length).filter λi=>q (l.getD i d)).map (λi=>l.getD i d)=l.filter q:=by
 intro l;have e:l=(List.range l.length).map λi=>l.getD i d:=by
  have:=map_range d (λx=>x) l;simp at this;simpa using this.symm
 conv=>rhs;rw[e]
 rw[kF];rfl
def oN(b:Bool)(W:List Wy)(p:Int):(own b W p).map (λi=>b9 b (aJ W i))=Ov b W p:=by
 unfold own Ov aJ;rw[<- uP (0,0,0) (λw=>decide (bz b w=p)) W,zN];rfl
def Bz(h:Ea W)(hi:i < W.length)(hj:j < W.length)(h1:(aJ W i).1=(aJ W j).1)(h2:(aJ W i).2.1=(aJ W j).2.1):i=j:=by
 have e:∀k,k < W.length->W[k]?=some (aJ W k):=λk hk=>by simp[aJ,hk]
 rcases Nat.lt_trichotomy i j with z|z|z
 ·have:=List.pairwise_iff_getElem.mp h i j hi hj z;have a:=e i hi;have b:=e j hj;rw[zL hi] at a;rw[zL hj] at b;rw[xE a,xE b] at this;rcases this with z|z<;>lia
 ·exact z
 ·have:=List.pairwise_iff_getElem.mp h j i hj hi z;have a:=e i hi;have b:=e j hj;rw[zL hi] at a;rw[zL hj] at b;rw[xE a,xE b] at this;rcases this with z|z<;>lia
def zd(h:Ea W)(hi:i < W.length)(hj:j < W.length)(h1:bz b (aJ W i)=bz b (aJ W j))(h2:b9 b (aJ W i)=b9 b (aJ W j)):i=j:=by
 cases b
 ·exact Bz h hi hj h1 h2
 ·exact Bz h hi hj h2 h1
def o5(h:Ea W)(hi:i∈own b W p):kn b W p (b9 b (aJ W i))=i:=by
 let⟨hl,he⟩:=fF.mp hi;have hw:W[i]=aJ W i:=by simp[aJ,hl]
 unfold kn;have Q0:W.findIdx (λw=>decide (bz b w=p)&&decide (b9 b w=b9 b (aJ W i))) < W.length:=by
  apply kL;exact⟨W[i],qB _,by rw[hw];simp[he]⟩
 have hq:=List.findIdx_getElem (w:=Q0);rw[zG,zK,zK] at hq;rw[lL Q0] at hq;exact zd h Q0 hl (by rw[hq.1,he]) hq.2
def mK{G T:List Pl}{W:List Wy}(h:Wd G T W){b:Bool}{i:Nat}(e:(bb b G T)[i]?=some p):(iw b W i p.2).Perm (own b W i):=by
 have h1:=(h.Xw e).map (kn b W i);rw[<- oN b W i,zN] at h1;have e2:(own b W i).map (kn b W i ∘ λj=>b9 b (aJ W j))=own b W i:=by
  conv=>rhs;rw[<- List.map_id (own b W i)]
  exact yI λj hj=>o5 h.wp hj
 rw[e2] at h1;exact h1
def oQ{G T:List Pl}{W:List Wy}(h:Wd G T W){b:Bool}{i:Nat}{p:Pl}(e:(bb b G T)[i]?=some p){o:Int}(ho:o∈p.2):kn b W i o < W.length/\bz b (aJ W (kn b W i o))=i/\b9 b (aJ W (kn b W i o))=o:=by
 have hm:=(h.Xw e).mem_iff.mp ho;rw[<- oN b W i] at hm;let⟨j,hj,rfl⟩:=List.mem_map.mp hm;rw[o5 h.wp hj];let⟨h1,h2⟩:=fF.mp hj;exact⟨h1,h2,rfl⟩
def kD(b:Bool)(W:List Wy)(L:List Int)(d:D):Int:=(L.findIdx λo=>decide (o=b9 b (aJ W (kq d).toNat)):Nat)
def nM:∀ {L:List Int}{x:Int},x∈L->wU x L=some (L.findIdx λo=>decide (o=x))
 | [],x,h=>by cases h
 | o::L,x,h=>by
  unfold wU;by_cases e:o=x
  ·simp[e,vA]
  ·rw[yO e];have hx:x∈L:=(List.mem_cons.mp h).resolve_left λz=>e z.symm;rw[nM hx];simp[vA,e]
def Hf{G T:List Pl}{W:List Wy}(h:Wd G T W){b:Bool}{i:Nat}{p:Pl}(e:(bb b G T)[i]?=some p)(z:Nat->Int)(hz:∀j,j < (own b W i).length->z j=kD b W p.2 (((own b W i).map λn=>PyData.int ((n:Nat):Int)).getD j .none)) :
  vg z ((own b W i).map λn=>PyData.int ((n:Nat):Int)) .none=(iw b W i p.2).map λn=>PyData.int ((n:Nat):Int):=by
 refine lq (kD b W p.2) ((lY _ _ _).trans ((mK h e).symm.map _)) (AW z _ _ _ λj hj=>hz j (by simpa using hj)) ?_;have hn:p.2.Nodup:=(h.Xw e).nodup_iff.mpr (h.nod b i);unfold iw;rw[zN,jF];have key:∀k (hk:k < p.2.length),kD b W p.2 (PyData.int ((kn b W i p.2[k]:Nat):Int))=(k:Nat):=λk hk=>by
  let⟨_,_,e3⟩:=oQ h e (qB hk);unfold kD;simp?[kq,yH,e3]
  congr 1
  rw[List.findIdx_eq (by exact hk)];refine⟨by simp,λj hj=>?_⟩;have:=List.pairwise_iff_getElem.mp hn j k (by lia) hk hj;simpa using this
 refine List.pairwise_iff_getElem.mpr λj k hj hk S0=>?_;show kD b W p.2 (PyData.int ((kn b W i p.2[j]:Nat):Int)) < kD b W p.2 (PyData.int ((kn b W i p.2[k]:Nat):Int));rw[key j hj,key k hk];lia
abbrev nD(n:Nat):D:=.int ((n:Nat):Int)
def sd:∀ {ds:List D},(∀d∈ds,te (ρ.set 0 (some d))=some (h d))->lu te ρ ds=some (ds.map h)
 | [],_=>rfl
 | d::ds,hh=>by
  unfold lu;rw[hh d zF,zA,sd λx hx=>hh x (zD _ hx)];rfl
def ua(b:Bool)(W:List Wy)(p:Int):(own b W p).length<=W.length:=by
 unfold own;refine yE (xQ _ _) ?_;rw[zS];exact yN _
def AX(b:Bool)(W:List Wy)(p:Int):(((W.map ax).zipIdx.filter λq=>decide (bz b (aJ W q.2)=p)).map λq=>nD q.2)=(own b W p).map nD:=by
 have e:(W.map ax).zipIdx=(List.range W.length).map λi=>(ax (aJ W i),i):=by
  apply jI
  ·simp
  ·intro i h1 h2;have:i < W.length:=by simpa using h2
   simp[lL this]
 rw[e,kF,zN];rfl
def sC(h:Wd G T W)(e:(bb b G T)[i]?=some p):d6 [aI G T W,.int (sI b),nD i]=some (.list ((iw b W i p.2).map nD)):=by
 have hw:=h.wl;have ep:az (.tuple ((bb b G T).map bc)) (nD i)=some (bc p):=iG e;have hl:=ua b W i;have t3:Dl.aE 3 [0] (f2 az (ae 0) (fC (.int 2))) [.val (aI G T W),.val (.int (sI b)),.val (nD i),.QK,.QK,.QK]=some (.nx [.val (aI G T W),.val (.int (sI b)),.val (nD i),.val (.tuple (W.map ax)),.QK,.QK]) :=
  dv (d:=.tuple (W.map ax)) rfl rfl rfl rfl
 have t4:Dl.aE 4 [0,1,2] (f2 az (f2 az (f2 az (ae 0) (ae 1)) (ae 2)) (fC (.int 1))) [.val (aI G T W),.val (.int (sI b)),.val (nD i),.val (.tuple (W.map ax)),.QK,.QK]=some (.nx [.val (aI G T W),.val (.int (sI b)),.val (nD i),.val (.tuple (W.map ax)),.val (af p.2),.QK]):=by
  refine dv (d:=af p.2) ?_ rfl rfl rfl;rw[hJ (a:=bc p) (b:=.int 1) ?_ rfl,IP];rw[hJ (a:=.tuple ((bb b G T).map bc)) (b:=nD i) ?_ rfl,ep];rw[hJ (a:=aI G T W) (b:=.int (sI b)) rfl rfl,oO]
 have c5:aw 2 [1,2] (bj (aa (ae 3) ah)) (ip 0 1) (fB (f2 bE (f2 az (ae 1) (ae 2)) (ae 3))) (ae 0) [some (aI G T W),some (.int (sI b)),some (nD i),some (.tuple (W.map ax)),some (af p.2),none]=some ((own b W i).map nD):=by
  rw[DV (ds:=W.map ax) (p:=λj _=>decide (bz b (aJ W j)=i)) (h:=λj _=>nD j) rfl (by rw[zE];lia) λj d hd=>?_,AX];rw[zP] at hd;let⟨w,hw',rfl⟩:=Dl.ag hd;have hj:j < W.length:=(List.getElem?_eq_some_iff.mp hw').1;rw[oT hj] at hw';cases hw';refine⟨?_,λ_=>rfl⟩;show fB (f2 bE (f2 az (ae 1) (ae 2)) (ae 3)) [some (nD j),some (ax (aJ W j)),some (.int (sI b)),some (nD i)]=_;simp?[fB];rw[hJ (a:=.int (bz b (aJ W j))) (b:=nD i) (by rw[hJ (a:=ax (aJ W j)) (b:=.int (sI b)) rfl rfl,mH]) rfl,bO];rfl
 have t5:bo 5 [1,2,3] (aw 2 [1,2] (bj (aa (ae 3) ah)) (ip 0 1) (fB (f2 bE (f2 az (ae 1) (ae 2)) (ae 3))) (ae 0)) [.val (aI G T W),.val (.int (sI b)),.val (nD i),.val (.tuple (W.map ax)),.val (af p.2),.QK]=some (.nx [.val (aI G T W),.val (.int (sI b)),.val (nD i),.val (.tuple (W.map ax)),.val (af p.2),.own ((own b W i).map nD)]):=by
  have hh:hand [1,2,3] 0 [Slot.val (aI G T W),.val (.int (sI b)),.val (nD i),.val (.tuple (W.map ax)),.val (af p.2),.QK]=[Slot.val (aI G T W),.val (.int (sI b)),.val (nD i),.val (.tuple (W.map ax)),.val (af p.2),.QK]:=rfl;simp?[bo,hh,bx,zJ,yV,Slot.Ro,c5,zC,yX,yW]
 have hk:lu (f2 oF (ae 3) (f2 az (f2 az (ae 2) (ae 0)) (f2 Dl.ig (fC (.int 1)) (ae 1)))) [none,some (.int (sI b)),some (.tuple (W.map ax)),some (af p.2)] ((own b W i).map nD)=some (((own b W i).map nD).map λd=>.int (kD b W p.2 d)):=by
  refine sd λd hd=>?_;let⟨j,hj,rfl⟩:=List.mem_map.mp hd;let⟨Vk,hje⟩:=fF.mp hj;show f2 oF (ae 3) (f2 az (f2 az (ae 2) (ae 0)) (f2 Dl.ig (fC (.int 1)) (ae 1))) [some (nD j),some (.int (sI b)),some (.tuple (W.map ax)),some (af p.2)]=_;have ew:az (.tuple (W.map ax)) (nD j)=some (ax (aJ W j)):=iG (oT Vk);rw[hJ (a:=af p.2) (b:=.int (b9 b (aJ W j))) rfl ?_]
  ·have hm:b9 b (aJ W j)∈p.2:=(h.Xw e).mem_iff.mpr (by rw[<- oN];exact List.mem_map.mpr ⟨j,hj,rfl⟩);simp?[oF,af,aV,zA,nM hm,zC,kD,kq,yH]
   all_goals first|rfl|(congr 3;funext o;congr)
  ·rw[hJ (a:=ax (aJ W j)) (b:=.int (1 - sI b)) ?_ ?_,JM]
   ·rw[hJ (a:=.tuple (W.map ax)) (b:=nD j) rfl rfl,ew]
   ·rw[hJ (a:=.int 1) (b:=.int (sI b)) rfl rfl,l4]
 have hi:intsOf (((own b W i).map nD).map λd=>PyData.int (kD b W p.2 d))=some (((own b W i).map nD).map (kD b W p.2)):=by
  rw[show (((own b W i).map nD).map λd=>PyData.int (kD b W p.2 d))=(((own b W i).map nD).map (kD b W p.2)).map PyData.int by simp?[zN];rfl,aV]
 have t6:aO (cZ (nF [1,3,4] (ae 5) (f2 oF (ae 3) (f2 az (f2 az (ae 2) (ae 0)) (f2 Dl.ig (fC (.int 1)) (ae 1)))))) [.val (aI G T W),.val (.int (sI b)),.val (nD i),.val (.tuple (W.map ax)),.val (af p.2),.own ((own b W i).map nD)]=some (.rt (.list ((iw b W i p.2).map nD))):=by
  have es:nF [1,3,4] (ae 5) (f2 oF (ae 3) (f2 az (f2 az (ae 2) (ae 0)) (f2 Dl.ig (fC (.int 1)) (ae 1)))) [some (aI G T W),some (.int (sI b)),some (nD i),some (.tuple (W.map ax)),some (af p.2),some (.list ((own b W i).map nD))]=some ((iw b W i p.2).map nD):=by
   unfold nF;show (lu _ [none,some (.int (sI b)),some (.tuple (W.map ax)),some (af p.2)] ((own b W i).map nD)).bind _=_;rw[hk,zA,hi,zA,yM (by rw[zE];lia),Hf h e _ λj hj=>?_];simp[hj]
  simp?[aO,aP,zJ,yV,uc,ve,cZ,es,zC]
 refine aX ?_;show j9 [.val (aI G T W),.val (.int (sI b)),.val (nD i),.QK,.QK,.QK]=_;unfold j9;rw[aj t3,aj t4,aj t5,t6]
local macro_rules|`(tactic| dsimp! [$ts,*])=>`(tactic| simp only[ae,fC,f1,f2,aa,ah,ai,bh,rE,bG,eI,cZ,fB,gB,br,dQ,lA,bj,aP,bx,uc,ve,Co,Bv,BS,Cr,zJ,yV,xR,yZ,zA,zC,qH,zM,xM,Nat.reduceAdd,jE,reduceIte,yX,yW,$ts,*])
def ix(R:ao->Prop)(f:α->D)(q:α->Bool)(out:α->D):∀ {l:List α}{ρ:ao},
  (∀ρ x,x∈l->R ρ->∃ρ1,tgt ρ (f x)=some ρ1/\(q x=true->gb ρ1=some (.rt (out x)))/\(q x=false->∃Si,gb ρ1=some (.nx Si)/\R Si))->R ρ ->
  (∀x,l.find? q=some x->dO tgt gb (l.map f) ρ=some (.rt (out x)))/\(l.find? q=none->∃ρ',dO tgt gb (l.map f) ρ=some (.nx ρ')/\R ρ')
 | [],ρ,_,h=>⟨λx hx=>(by cases hx),λ_=>⟨ρ,rfl,h⟩⟩
 | x::l,ρ,hh,h=>by
  let⟨ρ1,e1,e2,e3⟩:=hh ρ x zF h;rw[zJ,dO,e1,zA];cases hq:q x with
  | true =>
   rw[vM (by simpa using hq),e2 hq];exact⟨λy hy=>(by cases hy;rfl),λhn=>(by cases hn)⟩
  | false =>
   let⟨Si,e4,h2⟩:=e3 hq;rw[kK (by simp[hq]),e4];exact ix R f q out (λρ x hx=>hh ρ x (zD _ hx)) h2
def cx(h:dO tgt gb ds ρ1=o)(hi:fi (bx ρ1)=some ds)(hh:hand fz 0 ρ=ρ1):dB fz fi tgt gb ρ=o:=by
 simp?[dB,hh,hi,zA,h]
def IT(hh:hand fz 0 ρ=ρ')(hf:f (bx ρ')=some ds):bo i fz f ρ=some (.nx (ρ'.set i (.own ds))):=by
 simp?[bo,hh,hf,zC]
def Dc(hf:f (bx ρ)=some ds)(hh:hand fz 0 ρ=ρ):bo i fz f ρ=some (.nx (ρ.set i (.own ds))):=IT hh hf
def lJ(hh:hand fz 0 ρ=ρ')(hA:f (aP ρ)=some d)(hF:f (bx ρ')=some d)(hs:Dl.mM d=false)(hr:jf d=false\/ρ'=ρ:=by first|exact .inr rfl|exact .inl rfl):Dl.aE i fz f ρ=some (.nx (ρ'.set i (.val d))):=by
 rcases hr with hr|hr
 ·simp?[Dl.aE,hA,zA,hs,yP,qQ,hh,hF,zC,hr]
 ·subst hr;simp?[Dl.aE,hA,zA,hs,yP,qQ,hh,hF,zC,ite_self]
def call_of(h:m ds=some d)(hf:fs ρ=some ds)(hn:ds.length=n):ai n m fs ρ=some d:=by
 unfold ai;rw[hf,zA,yM hn,h]
def cons_of(h:f ρ=some d)(hs:fs ρ=some ds):aa f fs ρ=some (d::ds):=by
 unfold aa;rw[h,hs];rfl
def aW(hf:f (aP ρ)=some d):aO f ρ=some (.rt d):=by
 simp?[aO,hf,zC]
def lR(hf:f (aP ρ)=some d):vo f ρ=some (.nx ρ):=by
 simp?[vo,hf,zC]
def ba(h:t (aP ρ)=some false):dw t g cT ρ=some (.nx ρ):=by
 simp[dw,h,cT]
def fH(h:t (aP ρ)=some true):dw t g g2 ρ=g ρ:=by
 simp[dw,h]
def ju(h:g1 ρ=some (.rt d)):aq g1 g2 ρ=some (.rt d):=by
 simp?[aq,h,zA]
def lp(cont:S->Bool)(st:S->S):Nat->S->S
 | 0,s=>s
 | n+1,s=>if cont s=true then lp cont st n (st s) else s
def lG{off:List Int}(h:i < off.length):az (af off) (nD i)=some (.int (off.getD i 0)):=iG (f:=PyData.int) (l:=off) (by simp[h])
def FD(h:i < W.length):az (.tuple (W.map ax)) (nD i)=some (ax (aJ W i)):=iG (oT h)
def JB(l:List D):bA [.tuple l]=some (nD l.length):=rfl
def Jf(l:List Int):bA [af l]=some (nD l.length):=by
 show some (PyData.int ((l.map PyData.int).length:Nat))=_;rw[zE]
def Dq(h:n<=1000):lC [nD n]=some ((List.range n).map nD):=by
 rw[vy (uL h),yH]
def AE(h:fs ρ=some [nD n])(hn:n<=1000):bw fs ρ=some ((List.range n).map nD):=by
 unfold bw;rw[h,zA,Dq hn]
def sub_int(i j:Int):Dl.ig (.int i) (.int j)=some (.int (i - j)):=l4 i j
def J4:∀n,(List.replicate n [PyData.int 0]).flatten=(List.replicate n (0:Int)).map PyData.int
 | 0=>rfl
 | n+1=>by rw[xF,qN,J4 n,xF];rfl
def cV(W:List Wy)(off:List Int)(left:Int)(i:Nat):Int:=min (min (off.getD i 0) (aJ W i).2.2) left
def Qp(W:List Wy)(off:List Int)(s:Int×List Int)(i:Nat):Int×List Int:=(s.1 - cV W off s.1 i,s.2.set i (cV W off s.1 i))
def QG(W:List Wy)(off:List Int)(RD:Int)(is:List Nat):List Int:=(is.foldl (Qp W off) (RD,List.replicate W.length 0)).2
def dg(b:Bool)(G T:List Pl)(i:Nat):Pl:=(bb b G T).getD i (0,[])
def Qs(b:Bool)(G T:List Pl)(W:List Wy)(off s:List Int)(i:Nat):List Int:=List.zipWith (·+·) s (QG W off (dg b G T i).1 (iw b W i (dg b G T i).2))
def L3(b:Bool)(G T:List Pl)(W:List Wy)(off:List Int):List Int:=(List.range (bb b G T).length).foldl (Qs b G T W off) (List.replicate W.length 0)
def pf(h:i < (bb b G T).length):(bb b G T)[i]?=some (dg b G T i):=by simp[dg,h]
def Wd.pl(h:Wd G T W)(b:Bool):(bb b G T).length<=4:=by
 cases b
 ·exact h.g4
 ·exact h.t4
def tY(h:(xs++ys).length<=4000):Dl.aB (.tuple xs) (.tuple ys)=some (.tuple (xs++ys)):=by
 simp?[Dl.aB,vf,Jy,bM h,zC,Option.none_or,Option.some_or]
def JE(h:f ρ=some d):aL (aa f ah) ρ=some (.tuple [d]):=by
 simp?[aL,aa,ah,h,zA,zC];rw[bM (by simp),zC]
def ar(h:g a b=some c)(ha:fa ρ=some a)(hb:fb ρ=some b):f2 g fa fb ρ=some c:=by rw[hJ ha hb,h]
def Fo(h:f ρ=some (.tuple ds))(h2:g ρ=some (nD k)):hC du f gX (sg g) ρ=some (.tuple (ds.take k)):=by
 simp?[hC,h,gX,sg,h2,zA,gI,zC,du,Eg]
def Mr(h:f ρ=some (.tuple ds))(h2:g ρ=some (nD k)):hC du f (sg g) gX ρ=some (.tuple (ds.drop k)):=by
 simp?[hC,h,gX,sg,h2,zA,gI,zC,du,yx]
def Bq(c:List Int)(i:Nat)(v:Int)(h:i < c.length):((c.map PyData.int).take i++[PyData.int v])++(c.map PyData.int).drop (i+1)=(c.set i v).map PyData.int:=by
 rw[List.set_eq_take_append_cons_drop,yM h];simp
def Qj(i:Nat):Dl.aB (nD i) (.int 1)=some (nD (i+1)):=by
 rw[gc];rfl
def pG(h:i < c.length)(hl:c.length<=1000):dh [af c,nD i,.int v]=some (af (c.set i v)):=by
 refine aX ?_;show lM [.val (af c),.val (nD i),.val (.int v)]=_;refine aW ?_;refine ar (a:=.tuple ((c.map PyData.int).take i++[PyData.int v])) (b:=.tuple ((c.map PyData.int).drop (i+1))) ?_ (ar (a:=.tuple ((c.map PyData.int).take i)) (b:=.tuple [.int v]) (tY ?_) (Fo rfl rfl) (JE rfl)) (Mr rfl (ar (Qj i) rfl rfl))
 ·rw[tY,Bq c i v h]
  ·rfl
  ·rw[Bq c i v h];simp;lia
 ·simp;lia
def MC(W:List Wy):List Int:=W.map λw=>w.2.2
def P2(G T:List Pl)(W:List Wy)(c:List Int):List Int:=L3 true G T W (L3 false G T W c)
def qR(G T:List Pl)(W:List Wy)(c:List Int)(k:Nat):Bool:=decide ((P2 G T W c).getD k 0 < (L3 false G T W c).getD k 0)
def P1(G T:List Pl)(W:List Wy)(c:List Int):Option (Nat×Int):=((List.range W.length).find? (qR G T W c)).map λk=>(k,(P2 G T W c).getD k 0)
def enum_zip:∀ (ds:List D) (k:Nat),bu k ds=(ds.zipIdx k).map λq=>.tuple [nD q.2,q.1]
 | [],k=>rfl
 | d::ds,k=>by rw[bu,enum_zip ds (k+1),List.zipIdx_cons];rfl
def xl(l:List Int)(k:Nat)(v:Int)(i:Nat):(l.set k v).getD i 0=if k=i/\i < l.length then v else l.getD i 0:=by
 simp?[zH,xJ];by_cases h:k=i
 ·subst h;by_cases h2:k < l.length
  ·simp[h2]
  ·simp[h2]
 ·simp[h]
def Off(off:List Int):Prop:=∀i,0<=off.getD i 0
def PZ(W:List Wy):Prop:=∀i,0<=(aJ W i).2.2
def Wd.lim{G T:List Pl}{W:List Wy}(h:Wd G T W):PZ W:=λi=>by
 by_cases hi:i < W.length
 ·have:=h.wr (aJ W i) (by rw[<- lL hi];exact qB hi);lia
 ·simp?[aJ,zH];rw[jM (by lia)];simp
def Wd.RD{G T:List Pl}{W:List Wy}(h:Wd G T W)(b:Bool)(i:Nat):0<=(dg b G T i).1:=by
 unfold dg;rw[zH];cases e:(bb b G T)[i]? with
 | none=>simp
 | some p =>
  have hm:=qC e;cases b
  ·exact (h.ga p hm).1
  ·exact (h.ta p hm).1
def Gy{l:List Int}{i:Nat}(h:l.length<=i):l.getD i 0=0:=by simp[zH,h]
def P0(c:List Int):Nat:=(c.map Int.toNat).sum
def iF(a:List Int):SeqAt.shaped (af a)=true :=
 (iq.tup (b:=a.length) (k:=0) (by simp) λx hx=>by let⟨i,_,rfl⟩:=List.mem_map.mp hx;exact gD _).shaped (by decide)
def hU(a b:List Int):PyData.eqv (af a) (af b)=decide (a=b):=by
 rw[af,af,PyData.eqv,mW]
def aN(h:f ρ=some (.bool b)):fB f ρ=some b:=by
 simp?[fB,h,zA,gB]
def cw(h:t ρ=some b):br t ρ=some (!b):=by
 simp?[br,h,zC]
def AY(h:t ρ=some false)(h2:u ρ=some false):lA t u ρ=some false:=by
 simp?[lA,h,zA,h2]
def E6(a b:List Int):dz (af a) (af b)=some (.bool (!decide (a=b))):=by
 simp?[dz,JV,iF,jP,xI,hU,zC]
def Ge(a b:List Int):bE (af a) (af b)=some (.bool (decide (a=b))):=by
 simp?[bE,LW,iF,jP,xI,hU,zC]
def tJ(a:List Int):dz (af a) (af a)=some (.bool false):=by rw[E6];simp
def tE(a b:List (List Int)):dz (.list (a.map af)) (.list (b.map af))=some (.bool (!decide (a=b))):=by
 simp?[dz,JV,gx,jP,xI,PyData.eqv,qu,zC]
def bI(hA:f (aP ρ)=some d)(hF:f (bx ρ)=some d)(hh:hand fz 0 ρ=ρ):Dl.aE i fz f ρ=some (.nx (ρ.set i (.val d))):=by
 cases hs:Dl.mM d with
 | true=>exact cq hA hs
 | false=>exact lJ hh hA hF hs (.inr rfl)
def rK(h:Wd G T W):et [aI G T W]=some .none:=by
 have hw:cE [aI G T W]=some (.bool true):=by rw[Au h.fit (by decide),h.wok]
 have hc:zq1 (aP [.val (aI G T W)])=some false:=cw (aN (call_of hw rfl rfl));have:cR [.val (aI G T W)]=some (.nx [.val (aI G T W)]):=by
  unfold cR;rw[ba hc]
 show (cR [.val (aI G T W)]).map _=_;rw[this];rfl
def rl(h1:a<=i)(h2:i<=b):eu [.int i,.int a,.int b]=some .none:=by
 have hw:aQ [.int i,.int a,.int b]=some (.bool true):=by rw[gg rfl];simp[whole,h1,h2]
 have hc:zq5 (aP [.val (.int i),.val (.int a),.val (.int b)])=some false:=cw (aN (call_of hw rfl rfl));have:cQ [.val (.int i),.val (.int a),.val (.int b)]=some (.nx [.val (.int i),.val (.int a),.val (.int b)]):=by
  unfold cQ;rw[ba hc]
 show (cQ [.val (.int i),.val (.int a),.val (.int b)]).map _=_;rw[this];rfl
def pN(h1:0<=i)(h2:i<=n - 1):dE [.int i,.int n]=some .none:=by
 have:cK [.val (.int i),.val (.int n)]=some (.nx [.val (.int i),.val (.int n)]):=by
  unfold cK;exact lR (call_of (rl h1 h2) (cons_of rfl (cons_of rfl (cons_of (ar (sub_int n 1) rfl rfl) rfl))) rfl)
 show (cK [.val (.int i),.val (.int n)]).map _=_;rw[this];rfl
abbrev Sp:=List (Nat×Int)×List Int
def QA(G T:List Pl)(W:List Wy)(s:Sp):Bool:=(P1 G T W s.2).isSome
def spS(G T:List Pl)(W:List Wy)(s:Sp):Sp:=match P1 G T W s.2 with|some p=>(s.1++[p],s.2.set p.1 p.2)|none=>s
def low(c:List Int)(p:Nat×Int):List Int:=c.set p.1 p.2
structure QI(W:List Wy)(s:Sp):Prop where
 len:s.2.length=W.length
 off:Off s.2
 eq:s.2=s.1.foldl low (MC W)
 bd:s.1.length+P0 s.2<=P0 (MC W)
 mem:∀p∈s.1,p.1 < W.length
def fin(G T:List Pl)(W:List Wy):Sp:=lp (QA G T W) (spS G T W) Rf.turns ([],MC W)
structure Ord(W:List Wy)(π:List Nat):Prop where
 perm:π.Perm (List.range W.length)
 up:π.Pairwise λi j=>(aJ W i).2.1 < (aJ W j).2.1\/((aJ W i).2.1=(aJ W j).2.1/\(aJ W i).1 < (aJ W j).1)
def jd(b:Bool)(W:List Wy)(P:List Int)(p:Int):Int:=((own b W p).map λi=>P.getD i 0).sum
def rO(L:List Int)(x:Int):Nat:=L.findIdx λo=>decide (o=x)
def yp(b:Bool)(G T:List Pl)(W:List Wy)(P:List Int)(k:Nat):Bool :=
 decide (jd b W P (bz b (aJ W k)) < (dg b G T (bz b (aJ W k)).toNat).1) ||
 ((dg b G T (bz b (aJ W k)).toNat).2.drop (rO (dg b G T (bz b (aJ W k)).toNat).2 (b9 b (aJ W k))+1)).any λo=>decide (0 < P.getD (kn b W (bz b (aJ W k)) o) 0)
def dW(G T:List Pl)(W:List Wy)(P:List Int)(k:Nat):Nat :=
 if P.getD k 0=(aJ W k).2.2 then 0 else if yp false G T W P k=false then 1 else if yp true G T W P k=false then 2 else 3
def iu(G T:List Pl)(W:List Wy)(P:List Int):List Nat:=(List.range W.length).filter λk=>decide (dW G T W P k=3)
def Wd.Rg(h:Wd G T W)(b:Bool)(hk:k < W.length):0<=bz b (aJ W k)/\(bz b (aJ W k)).toNat < (bb b G T).length/\((bz b (aJ W k)).toNat:Int)=bz b (aJ W k):=by
 have:=h.wr (aJ W k) (by rw[<- lL hk];exact qB _);cases b
 ·simp?[bz,bb,yP,qQ];lia
 ·simp?[bz,bb,xI];lia
structure Pn(G T:List Pl)(W:List Wy)(P:List Int):Prop where
 len:P.length=W.length
 bd:∀k,k < W.length->0<=P.getD k 0/\P.getD k 0<=(aJ W k).2.2
 am:∀ (b:Bool) (i:Nat),i < (bb b G T).length->jd b W P i<=(dg b G T i).1
section
variable {off:List Int}
def rV(h:∀k,k < W.length->P.getD k 0=Q.getD k 0):jd b W P p=jd b W Q p:=by
 unfold jd
 congr 1
 exact yI λk hk=>h k (fF.mp hk).1
end
def rq(G T:List Pl)(W:List Wy)(P:List Int):Bool :=
 ((List.range G.length).all λi=>decide (jd false W P i<=(dg false G T i).1))&&((List.range T.length).all λi=>decide (jd true W P i<=(dg true G T i).1))
def zs(n:Nat):List Int:=List.replicate n 0
def lW(d:Nat->Int)(G T:List Pl)(W:List Wy):Nat->List Int
 | 0=>[]
 | k+1=>if rq G T W ((lW d G T W k++[d k])++zs (W.length - (lW d G T W k++[d k]).length))=true then lW d G T W k++[d k] else lW d G T W k++[0]
section
variable {W:List Wy}{G T:List Pl}{d:Nat->Int}
def gT:rq G T W P=true↔∀ (b:Bool) (i:Nat),i < (bb b G T).length->jd b W P i<=(dg b G T i).1:=by
 unfold rq;rw[zG,xH,xH];constructor
 ·rintro⟨h1,h2⟩ b i hi;cases b
  ·exact yR (h1 i (by simpa [bb] using hi))
  ·exact yR (h2 i (by simpa [bb] using hi))
 ·intro h;exact⟨λi hi=>yB (h false i (by simpa [bb] using hi)),λi hi=>yB (h true i (by simpa [bb] using hi))⟩
def mf:∀k,(lW d G T W k).length=k
 | 0=>rfl
 | k+1=>by
  unfold lW;split<;>simp[mf k]
def FF(h:∀k,P.getD k 0=0):jd b W P p=0:=by
 unfold jd;have:((own b W p).map λi=>P.getD i 0)=(own b W p).map λ_=>(0:Int):=yI λk _=>h k;rw[this];generalize own b W p=l
 induction l with
 | nil=>rfl
 | cons a l ih=>simp[ih]
def J5(n k:Nat):(zs n).getD k 0=0:=by
 simp?[zs,zH,yY];split<;>rfl
def E7(l:List Int)(n k:Nat):(l++zs n).getD k 0=l.getD k 0:=by
 by_cases h:k < l.length
 ·simp[zH,yT h]
 ·have h':l.length<=k:=by lia
  have:=J5 n (k - l.length);simp?[zH] at this ⊢;rw[yU h',this];simp[h']
def Px(l:List Int)(k:Nat):(l++[0]).getD k 0=l.getD k 0:=E7 l 1 k
def By(h:Wd G T W):∀k,rq G T W (lW d G T W k)=true
 | 0=>gT.mpr λb i hi=>by
  rw[FF λk=>by simp[lW]];exact h.RD b i
 | k+1=>by
  unfold lW;split
  ·rename_i e;refine gT.mpr λb i hi=>?_;have:=gT.mp e b i hi;rw[rV (Q:=lW d G T W k++[d k]) λj _=>E7 _ _ _] at this;exact this
  ·refine gT.mpr λb i hi=>?_;rw[rV (Q:=lW d G T W k) λj _=>Px _ _];exact gT.mp (By h k) b i hi
def Bg(hd:∀k,k < W.length->0<=d k/\d k<=(aJ W k).2.2)(hl:PZ W):∀k,k<=W.length->∀j,j < k->0<=(lW d G T W k).getD j 0/\(lW d G T W k).getD j 0<=(aJ W j).2.2
 | 0,_,j,hj=>by lia
 | k+1,hk,j,hj=>by
  have ih:=Bg hd hl k (by lia) j;have len:(lW d G T W k).length=k:=mf k;have key:∀x,(0<=x/\x<=(aJ W k).2.2)->0<=(lW d G T W k++[x]).getD j 0/\(lW d G T W k++[x]).getD j 0<=(aJ W j).2.2:=λx hx=>by
   by_cases S0:j < k
   ·rw[zH,yT (by lia),<- zH];exact ih S0
   ·have:j=k:=by lia
    subst this;rw[zH,yU (by lia),len];simpa using hx
  unfold lW;split
  ·exact key _ (hd k (by lia))
  ·exact key _ ⟨by lia,hl k⟩
def LM(h:Wd G T W)(hd:∀k,k < W.length->0<=d k/\d k<=(aJ W k).2.2):Pn G T W (lW d G T W W.length) where
 len:=mf _
 bd:=Bg hd h.lim W.length (yN _)
 am:=gT.mp (By h _)
end
def r6{tt:Dl.Env->Option Bool}{te:Dl.Env->Option D}{r:List (Option D)}{x y h:Nat->D}{p:Nat->Bool}:∀ (is:List Nat),
  (∀i∈is,tt (some (x i)::some (y i)::r)=some (p i)/\(p i=true->te (some (x i)::some (y i)::r)=some (h i))) ->
  dJ (ip 0 1) tt te (none::none::r) (is.map λi=>.tuple [x i,y i])=some ((is.filter p).map h)
 | [],_=>rfl
 | i::is,hh=>by
  let⟨h1,h2⟩:=hh i zF;have ih:=r6 is λj hj=>hh j (zD _ hj);have hg:ip 0 1 (none::none::r) (.tuple [x i,y i])=some (some (x i)::some (y i)::r):=by
   simp?[ip,isFree,xR,yZ,qH,Option.isNone_none,jP,xI,yW,yX]
  rw[zJ,dJ,hg];simp?[zA,h1];cases hp:p i with
  | true=>simp[h2 hp,ih,hp]
  | false=>simp[ih,hp]
def jq{fi:Dl.Env->Option (List D)}{tt:Dl.Env->Option Bool}{te:Dl.Env->Option D}{ρ:Dl.Env}{n:Nat}{x y h:Nat->D}{p:Nat->Bool}(SD:fi ρ=some ((List.range n).map λi=>.tuple [x i,y i]))(hl:n<=1000)
  (hh:∀i,i < n->tt (some (x i)::some (y i)::cs.map λj=>(ρ[j]?).getD none)=some (p i)/\(p i=true->te (some (x i)::some (y i)::cs.map λj=>(ρ[j]?).getD none)=some (h i))) :
  aw 2 cs fi (ip 0 1) tt te ρ=some (((List.range n).filter p).map h):=by
 have:=r6 (tt:=tt) (te:=te) (r:=cs.map λj=>(ρ[j]?).getD none) (p:=p) (h:=h) (List.range n) λi hi=>hh i (by simpa using hi);simp?[aw,SD,zA,gh,List.replicate,xG,xP,this];refine bM ?_;rw[zE];refine yE (xQ _ _) ?_;rw[zS];lia
def sO{W:List Wy}{P:List Int}(h:P.length=W.length):ja (W.map ax) (P.map PyData.int)=(List.range W.length).map λi=>.tuple [ax (aJ W i),.int (P.getD i 0)]:=by
 apply List.ext_getElem?;intro i;by_cases hi:i < W.length
 ·have hz:i < (ja (W.map ax) (P.map PyData.int)).length:=by rw[mQ];simp[h];exact hi
  rw[zL hz];let⟨x,y,e1,e2,e3⟩:=pK (zL hz);rw[zP,oT hi] at e1;rw[zP,zL (by lia)] at e2;cases e1;have e2:PyData.int P[i]=y:=by simpa using e2
  rw[e3,<- e2];have:i < P.length:=by lia
  simp[hi,this,zH]
 ·rw[jM (by rw[mQ];simp;lia),jM (by simp;lia)]
def Sm(P:List Int):Prop:=∀k,-1000000<=P.getD k 0/\P.getD k 0<=1000000
def B9(hs:Sm P)(hw:W.length<=16)(b:Bool)(p:Int):IK ((own b W p).map λi=>P.getD i 0)=true:=by
 unfold IK;rw[zG,zK,xH];refine⟨?_,λx hx=>?_⟩
 ·have:=ua b W p;rw[zE];lia
 ·let⟨i,_,rfl⟩:=List.mem_map.mp hx;rw[zG,zK,zK];exact hs i
def nJ(h:Wd G T W)(hp:P.length=W.length)(hs:Sm P)(b:Bool)(p:Int):bL [aI G T W,af P,.int (sI b),.int p]=some (.int (jd b W P p)):=by
 have hw:=h.wl;refine aX ?_;show nI [.val (aI G T W),.val (af P),.val (.int (sI b)),.val (.int p)]=_;have hz:dP (aa (f2 az (ae 0) (fC (.int 2))) (aa (ae 1) ah)) [some (aI G T W),some (af P),some (.int (sI b)),some (.int p)]=some ((List.range W.length).map λi=>.tuple [ax (aJ W i),.int (P.getD i 0)]):=by
  rw[<- sO hp];rfl
 have c:aw 2 [2,3] (dP (aa (f2 az (ae 0) (fC (.int 2))) (aa (ae 1) ah))) (ip 0 1) (fB (f2 bE (f2 az (ae 0) (ae 2)) (ae 3))) (ae 1) [some (aI G T W),some (af P),some (.int (sI b)),some (.int p)]=some ((own b W p).map λi=>.int (P.getD i 0)):=by
  rw[jq (p:=λi=>decide (bz b (aJ W i)=p)) (h:=λi=>.int (P.getD i 0)) hz (by lia) λi hi=>⟨?_,λ_=>rfl⟩]
  ·rfl
  ·show fB (f2 bE (f2 az (ae 0) (ae 2)) (ae 3)) [some (ax (aJ W i)),some (.int (P.getD i 0)),some (.int (sI b)),some (.int p)]=_;exact aN (by rw[hJ (a:=.int (bz b (aJ W i))) (b:=.int p) (ar (mH b _) rfl rfl) rfl,bO])
 refine aW ?_;have e:((own b W p).map λi=>PyData.int (P.getD i 0))=((own b W p).map λi=>P.getD i 0).map PyData.int:=by rw[zN];rfl
 show bh eV (aa (cZ (aw 2 [2,3] (dP (aa (f2 az (ae 0) (fC (.int 2))) (aa (ae 1) ah))) (ip 0 1) (fB (f2 bE (f2 az (ae 0) (ae 2)) (ae 3))) (ae 1))) ah) [some (aI G T W),some (af P),some (.int (sI b)),some (.int p)]=_;rw[e] at c;simp?[bh,aa,ah,cZ,c,zC,zA];show eV [.list (((own b W p).map λi=>P.getD i 0).map PyData.int)]=_;simp?[eV,dc,oneOf,eI,zA,aV,B9 hs hw b p,xI];rfl
def p7(L:List Pl):bu 0 (L.map bc)=(List.range L.length).map λi=>.tuple [nD i,bc (L.getD i (0,[]))]:=by
 rw[enum_zip];apply jI
 ·simp
 ·intro i h1 h2;have:i < L.length:=by simpa using h2
  simp[this,zH]
def sE(is:List Nat):mv [.list (is.map λi=>.bool (p i))]=some (.bool (is.all p)):=by
 have:∀is:List Nat,boolsOf (is.map λi=>PyData.bool (p i))=some (is.map p):=λis=>by
  induction is with
  | nil=>rfl
  | cons i is ih=>simp[boolsOf,ih]
 simp?[mv,oneOf,zA,this,zC,List.all_map];rfl
def Cf(h:Wd G T W)(hp:P.length=W.length)(hs:Sm P)(b:Bool):cm [aI G T W,af P,.int (sI b)]=some (.bool ((List.range (bb b G T).length).all λi=>decide (jd b W P i<=(dg b G T i).1))):=by
 have hl:=h.pl b;refine aX ?_;show e8 [.val (aI G T W),.val (af P),.val (.int (sI b))]=_;have he:bj (aa (f2 az (ae 0) (ae 2)) ah) [some (aI G T W),some (af P),some (.int (sI b))]=some ((List.range (bb b G T).length).map λi=>.tuple [nD i,bc (dg b G T i)]):=by
  have:=p7 (bb b G T);unfold dg;rw[<- this];cases b<;>rfl
 have c:=jq (cs:=[0,1,2]) (tt:=λ_=>some true) (te:=f2 CG (ai 4 bL (aa (ae 2) (aa (ae 3) (aa (ae 4) (aa (ae 0) ah))))) (f2 az (ae 1) (fC (.int 0)))) (p:=λ_=>true) (h:=λi=>.bool (decide (jd b W P i<=(dg b G T i).1))) he (by lia) λi hi=>⟨rfl,λ_=>ar (a:=.int (jd b W P i)) (b:=.int (dg b G T i).1) rfl (call_of (nJ h hp hs b i) rfl rfl) rfl⟩
 refine aW ?_;show bh mv (aa (cZ (aw 2 [0,1,2] (bj (aa (f2 az (ae 0) (ae 2)) ah)) (ip 0 1) (λ_=>some true) (f2 CG (ai 4 bL (aa (ae 2) (aa (ae 3) (aa (ae 4) (aa (ae 0) ah))))) (f2 az (ae 1) (fC (.int 0)))))) ah) [some (aI G T W),some (af P),some (.int (sI b))]=_;simp?[bh,aa,ah,cZ,c,zC,zA];rw[show (List.range (bb b G T).length).filter (λ_=>true)=List.range (bb b G T).length by simp,sE]
def zf(ha:fa ρ=some (.bool true))(hb:fb ρ=some d):jg fa fb ρ=some d:=by
 simp?[jg,ha,zA,hb]
def IZ(ha:fa ρ=some (.bool false)):jg fa fb ρ=some (.bool false):=by
 simp?[jg,ha,zA]
def Ik(ha:fa ρ=some (.bool a))(hb:fb ρ=some (.bool b)):jg fa fb ρ=some (.bool (a&&b)):=by
 cases a
 ·exact IZ ha
 ·exact zf ha hb
def A3(h:f ρ=some d):bh g (aa f ah) ρ=g [d]:=by
 simp?[bh,aa,ah,h,zC,zA]
def Ag{l:List α}(h:f ρ=some (.tuple (l.map k))):bh bA (aa f ah) ρ=some (nD l.length):=by
 rw[A3 h,JB,zE]
def Ox(W:List Wy)(P:List Int):Bool:=(List.range W.length).all λk=>decide (0<=P.getD k 0)&&decide (P.getD k 0<=(aJ W k).2.2)
def BC(b:Bool)(G T:List Pl)(W:List Wy)(P:List Int):Bool:=(List.range (bb b G T).length).all λi=>decide (jd b W P i<=(dg b G T i).1)
def N1(G T:List Pl)(W:List Wy)(P:List Int):Bool:=Ox W P&&(BC false G T W P&&BC true G T W P)
def HP(hp:P.length=W.length):N1 G T W P=true↔Pn G T W P:=by
 simp?[N1,Ox,BC,zG,xH,zT,zK];constructor
 ·rintro⟨h1,h2,h3⟩;exact⟨hp,h1,λb=>by cases b<;>assumption⟩
 ·intro p;exact⟨p.bd,p.am false,p.am true⟩
def LU(P:List Int):oa (af P)=true:=rfl
def D7(h:Wd G T W)(hp:P.length=W.length)(hs:Sm P):dR [aI G T W,af P]=some (.bool (N1 G T W P)):=by
 have hw:=h.wl;have hlen:(P.map PyData.int).length=W.length:=by rw[zE,hp]
 refine aX ?_;show k5 [.val (aI G T W),.val (af P),.QK]=_;unfold k5;have t1:Dl.aE 2 [0] (f2 az (ae 0) (fC (.int 2))) [.val (aI G T W),.val (af P),.QK]=some (.nx [.val (aI G T W),.val (af P),.val (.tuple (W.map ax))]):=dv (d:=.tuple (W.map ax)) rfl rfl rfl rfl;rw[aj t1];have el:aU [af P,nD W.length,nD W.length]=some (.bool true):=by
  rw[show nD W.length=.int ((W.length:Nat):Int) from rfl,dU (LU P)];simp[long,af,hp]
 have hl:∀ρ:Dl.Env,ae 2 ρ=some (.tuple (W.map ax))->bh bA (aa (ae 2) ah) ρ=some (nD W.length):=λρ hr=>Ag hr;have c1:(br (fB (ai 3 aU (aa (ae 1) (aa (bh bA (aa (ae 2) ah)) (aa (bh bA (aa (ae 2) ah)) ah)))))) (aP [.val (aI G T W),.val (af P),.val (.tuple (W.map ax))])=some false :=
  cw (aN (call_of el (cons_of rfl (cons_of (hl _ rfl) (cons_of (hl _ rfl) rfl))) rfl))
 rw[aj (ba c1)];have hz:dP (aa (ae 2) (aa (ae 1) ah)) [some (aI G T W),some (af P),some (.tuple (W.map ax))]=some ((List.range W.length).map λi=>.tuple [ax (aJ W i),.int (P.getD i 0)]):=by
  rw[<- sO hp];rfl
 have c2:=jq (cs:=[]) (tt:=λ_=>some true) (te:=ai 3 aQ (aa (ae 1) (aa (fC (.int 0)) (aa (f2 az (ae 0) (fC (.int 2))) ah)))) (p:=λ_=>true) (h:=λk=>.bool (decide (0<=P.getD k 0)&&decide (P.getD k 0<=(aJ W k).2.2))) hz (by lia)
  λi hi=>⟨rfl,λ_=>call_of (gg (d:=.int (P.getD i 0)) rfl 0 (aJ W i).2.2) rfl rfl⟩
 have Sb:(fB (bh mv (aa (cZ (aw 2 [] (dP (aa (ae 2) (aa (ae 1) ah))) (ip 0 1) (λ_=>some true) (ai 3 aQ (aa (ae 1) (aa (fC (.int 0)) (aa (f2 az (ae 0) (fC (.int 2))) ah)))))) ah))) [some (aI G T W),some (af P),some (.tuple (W.map ax))]=some (Ox W P):=by
  refine aN ?_;simp?[bh,aa,ah,cZ,c2,zC,zA];rw[show (List.range W.length).filter (λ_=>true)=List.range W.length by simp,sE];rfl
 have k0:=Cf h hp hs false;have k1:=Cf h hp hs true;cases hb:Ox W P with
 | false =>
  rw[hb] at Sb;refine ju ((fH (cw Sb)).trans ?_);rw[N1,hb];exact aW rfl
 | true =>
  rw[hb] at Sb;rw[aj (ba (cw Sb)),N1,hb,jL];exact aW (Ik (call_of k0 rfl rfl) (call_of k1 rfl rfl))
def lU(hk:k < W.length):aJ W k∈W:=lL hk ▸ qB hk
def Pn.Xx(h:Wd G T W)(p:Pn G T W P):Sm P:=λk=>by
 by_cases hk:k < W.length
 ·have:=p.bd k hk;have:=(h.wr _ (lU hk)).2.2.2;lia
 ·rw[zH,jM (by rw[p.len];lia)];simp
def lb(h:Wd G T W)(p:Pn G T W P):dR [aI G T W,af P]=some (.bool true):=by
 rw[D7 h p.len (p.Xx h),(HP p.len).mpr p]
def ft(h:Wd G T W)(p:Pn G T W P):bX [aI G T W,af P]=some .none:=by
 have:dG [.val (aI G T W),.val (af P)]=some (.nx [.val (aI G T W),.val (af P)]):=by
  unfold dG;refine (aj (lR (call_of (rK h) rfl rfl))).trans ?_;exact ba (cw (aN (call_of (lb h p) rfl rfl)))
 show (dG [.val (aI G T W),.val (af P)]).map _=_;rw[this];rfl
def tup_is(h:fs ρ=some ds)(hl:ds.length<=1000):aL fs ρ=some (.tuple ds):=by
 simp?[aL,h,zA,bM (show ds.length<=4000 by lia),zC]
def D0{fi:Dl.Env->Option (List D)}{te:Dl.Env->Option D}{ρ:Dl.Env}{is:List Nat}{f:Nat->D}(SD:fi ρ=some (is.map nD))(hl:is.length<=1000)(hh:∀i∈is,te (some (nD i)::cs.map λj=>(ρ[j]?).getD none)=some (f i)):aw 1 cs fi (fG 0) (λ_=>some true) te ρ=some (is.map f):=by
 rw[cM (h:=λd=>f (kq d).toNat) SD (by rw[zE];lia) λd hd=>?_]
 ·rw[zN];refine jD some (yI λi _=>?_);simp[kq]
 ·let⟨i,hi,rfl⟩:=List.mem_map.mp hd;rw[hh i hi];simp[kq]
def ug(h:f ρ=some (.list ds))(h2:g ρ=some (nD k)):hC du f (sg g) gX ρ=some (.list (ds.drop k)):=by
 have:=yx ds k;simp?[hC,h,sg,h2,gX,gI,du,zA,zC,this]
def Dv(is:List Nat):Rf.GW [.list (is.map λi=>.bool (p i))]=some (.bool (is.any p)):=by
 have:∀is:List Nat,boolsOf (is.map λi=>PyData.bool (p i))=some (is.map p):=λis=>by
  induction is with
  | nil=>rfl
  | cons i is ih=>simp[boolsOf,ih]
 simp?[Rf.GW,oneOf,zA,this,zC,wK];rfl
def md(f:α->β)(p:β->Bool)(q:α->Bool):∀ (l:List α),(∀x∈l,p (f x)=q x)->(l.map f).findIdx p=l.findIdx q
 | [],_=>rfl
 | x::l,h=>by
  rw[zJ,vA,vA,h x zF,md f p q l λy hy=>h y (zD _ hy)]
def Mp(h:Wd G T W){b:Bool}{i:Nat}(e:(bb b G T)[i]?=some p){k:Nat}(hk:k < W.length)(he:bz b (aJ W k)=i):oF (.list ((iw b W i p.2).map nD)) (nD k)=some (nD (rO p.2 (b9 b (aJ W k)))):=by
 have ko:k∈own b W i:=fF.mpr ⟨hk,he⟩;have km:k∈iw b W i p.2:=(mK h e).mem_iff.mpr ko;have e1:(iw b W i p.2).map nD=((iw b W i p.2).map λj=>((j:Nat):Int)).map PyData.int:=by rw[zN];rfl
 have m1:((k:Nat):Int)∈(iw b W i p.2).map λj=>((j:Nat):Int):=List.mem_map.mpr ⟨k,km,rfl⟩;rw[e1];show (intsOf _).bind _=_;rw[aV,zA,nM m1,zC];have e2:((iw b W i p.2).map λj=>((j:Nat):Int)).findIdx (λo=>decide (o=((k:Nat):Int)))=rO p.2 (b9 b (aJ W k)):=by
  unfold iw rO;rw[zN];refine md _ _ _ _ λx hx=>?_;let⟨hl,h1,h2⟩:=oQ h e hx;show decide (((kn b W i x:Nat):Int)=(k:Int))=decide (x=b9 b (aJ W k));rw[decide_eq_decide];constructor
  ·intro z;have z:kn b W i x=k:=by lia
   rw[<- z,h2]
  ·intro z;rw[z,o5 h.wp ko]
 rw[e2]
def mV(h:Wd G T W)(hp:P.length=W.length)(hs:Sm P)(b:Bool){k:Nat}(hk:k < W.length):dH [aI G T W,af P,.int (sI b),nD k]=some (.bool (yp b G T W P k)):=by
 have hw:=h.wl;let⟨z1,z2,z3⟩:=h.Rg b hk;have hx:(bb b G T)[(bz b (aJ W k)).toNat]?=some (dg b G T (bz b (aJ W k)).toNat):=by
  rw[zL z2];simp[dg,z2]
 have hL:∀x∈(dg b G T (bz b (aJ W k)).toNat).2,_:=λx UR=>oQ h hx UR;have hb:(dg b G T (bz b (aJ W k)).toNat).2.length<=16:=by
  have:=(mK h hx).length_eq;have h2:=ua b W ((bz b (aJ W k)).toNat:Int);unfold iw at this;rw[zE] at this;lia
 have ei:=Mp h hx hk z3.symm;have ew:=sC h hx;generalize RF:dg b G T (bz b (aJ W k)).toNat=pl at *;generalize hj:(bz b (aJ W k)).toNat=j at *;have ez:PyData.int (bz b (aJ W k))=nD j:=by rw[<- z3]
 refine aX ?_;show fx [.val (aI G T W),.val (af P),.val (.int (sI b)),.val (nD k),.QK,.QK,.QK]=_;unfold fx;have t4:Dl.aE 4 [0,2,3] (f2 az (f2 az (f2 az (ae 0) (fC (.int 2))) (ae 3)) (ae 2)) [.val (aI G T W),.val (af P),.val (.int (sI b)),.val (nD k),.QK,.QK,.QK]=some (.nx [.val (aI G T W),.val (af P),.val (.int (sI b)),.val (nD k),.val (nD j),.QK,.QK]):=by
  rw[<- ez];exact cq (d:=.int (bz b (aJ W k))) (ar (mH b _) (ar (FD hk) rfl rfl) rfl) rfl
 rw[aj t4];have ep:az (.tuple ((bb b G T).map bc)) (nD j)=some (bc pl):=iG hx;have ct:(fB (f2 Hh (ai 4 bL (aa (ae 0) (aa (ae 1) (aa (ae 2) (aa (ae 4) ah))))) (f2 az (f2 az (f2 az (ae 0) (ae 2)) (ae 4)) (fC (.int 0))))) (aP [.val (aI G T W),.val (af P),.val (.int (sI b)),.val (nD k),.val (nD j),.QK,.QK])=some (decide (jd b W P j < pl.1)):=by
  refine aN (ar (mN _ _) (call_of (nJ h hp hs b j) rfl rfl) ?_);refine ar (a:=bc pl) (b:=.int 0) rfl (ar ep (ar (oO b G T W) rfl rfl) rfl) rfl
 have hm:yp b G T W P k=(decide (jd b W P j < pl.1)||(pl.2.drop (rO pl.2 (b9 b (aJ W k))+1)).any λo=>decide (0 < P.getD (kn b W j o) 0)):=by
  unfold yp;rw[hj,RF,z3]
 rw[hm];cases hc:decide (jd b W P j < pl.1) with
 | true =>
  rw[hc] at ct;exact ju ((fH ct).trans (aW rfl))
 | false =>
  rw[hc] at ct;rw[aj (ba ct),Bool.false_or];have t5:Dl.aE 5 [0,2,4] (ai 3 d6 (aa (ae 0) (aa (ae 2) (aa (ae 4) ah)))) [.val (aI G T W),.val (af P),.val (.int (sI b)),.val (nD k),.val (nD j),.QK,.QK]=some (.nx [.val (aI G T W),.val (af P),.val (.int (sI b)),.val (nD k),.val (nD j),.val (.list ((iw b W j pl.2).map nD)),.QK]) :=
   bI (call_of ew rfl rfl) (call_of ew rfl rfl) rfl
  rw[aj t5];have cu:∀ρ:Dl.Env,ae 5 ρ=some (.list ((iw b W j pl.2).map nD))->ae 3 ρ=some (nD k)->(hC du (ae 5) (sg (f2 aB (f2 oF (ae 5) (ae 3)) (fC (.int 1)))) gX) ρ=some (.list (((iw b W j pl.2).map nD).drop (rO pl.2 (b9 b (aJ W k))+1))):=λρ a c =>
   ug a (ar (gc _ _) (ar ei a c) rfl)
  have t6:Dl.aE 6 [3,5] (hC du (ae 5) (sg (f2 aB (f2 oF (ae 5) (ae 3)) (fC (.int 1)))) gX) [.val (aI G T W),.val (af P),.val (.int (sI b)),.val (nD k),.val (nD j),.val (.list ((iw b W j pl.2).map nD)),.QK]=some (.nx [.val (aI G T W),.val (af P),.val (.int (sI b)),.val (nD k),.val (nD j),.val (.list ((iw b W j pl.2).map nD)),.val (.list (((iw b W j pl.2).drop (rO pl.2 (b9 b (aJ W k))+1)).map nD))]):=by
   rw[List.map_drop];exact bI (cu _ rfl rfl) (cu _ rfl rfl) rfl
  rw[aj t6];have c:aw 1 [1] (bG (ae 6)) (fG 0) (λ_=>some true) (f2 Ck (f2 az (ae 1) (ae 0)) (fC (.int 0))) [some (aI G T W),some (af P),some (.int (sI b)),some (nD k),some (nD j),some (.list ((iw b W j pl.2).map nD)),some (.list (((iw b W j pl.2).drop (rO pl.2 (b9 b (aJ W k))+1)).map nD))]=some (((iw b W j pl.2).drop (rO pl.2 (b9 b (aJ W k))+1)).map λi=>.bool (decide (0 < P.getD i 0))):=by
   refine D0 rfl ?_ λi hi=>?_
   ·rw[qJ,iw,zE];lia
   ·have R5:=vW hi;unfold iw at R5;let⟨x,UR,rfl⟩:=List.mem_map.mp R5;exact ar (eA _ _) (ar (lG (by rw[hp];exact (hL x UR).1)) rfl rfl) rfl
  refine aW ?_;show bh Rf.GW (aa (cZ (aw 1 [1] (bG (ae 6)) (fG 0) (λ_=>some true) (f2 Ck (f2 az (ae 1) (ae 0)) (fC (.int 0))))) ah) [some (aI G T W),some (af P),some (.int (sI b)),some (nD k),some (nD j),some (.list ((iw b W j pl.2).map nD)),some (.list (((iw b W j pl.2).drop (rO pl.2 (b9 b (aJ W k))+1)).map nD))]=_;simp?[bh,aa,ah,cZ,c,zC,zA,Dv];unfold iw;rw[<- List.map_drop,wK];rfl
def Nc:Nat->D|0=>.str "full" | 1=>.str "giver" | 2=>.str "taker" | _=>.none
def o8(h:Wd G T W)(hp:P.length=W.length)(hs:Sm P)(hk:k < W.length):dS [aI G T W,af P,nD k]=some (Nc (dW G T W P k)):=by
 refine aX ?_;show iO [.val (aI G T W),.val (af P),.val (nD k)]=_;unfold iO dW;have c1:YD (aP [.val (aI G T W),.val (af P),.val (nD k)])=some (decide (P.getD k 0=(aJ W k).2.2)) :=
  aN (ar (bO _ _) (ar (lG (by rw[hp];exact hk)) rfl rfl) (ar (a:=ax (aJ W k)) (b:=.int 2) rfl (ar (FD hk) rfl rfl) rfl))
 have w0:=mV h hp hs false hk;have w1:=mV h hp hs true hk;have c2:YE (aP [.val (aI G T W),.val (af P),.val (nD k)])=some (!(yp false G T W P k)):=cw (aN (call_of w0 rfl rfl));have c3:YF (aP [.val (aI G T W),.val (af P),.val (nD k)])=some (!(yp true G T W P k)):=cw (aN (call_of w1 rfl rfl));by_cases e1:P.getD k 0=(aJ W k).2.2
 ·rw[yB e1] at c1;rw[yM e1];exact ju ((fH c1).trans (aW rfl))
 ·rw[yA e1] at c1;rw[yO e1,aj (ba c1)];cases e2:yp false G T W P k with
  | false =>
   rw[e2] at c2;rw[yM rfl];exact ju ((fH c2).trans (aW rfl))
  | true =>
   rw[e2] at c2;rw[yO (by simp),aj (ba c2)];cases e3:yp true G T W P k with
   | false =>
    rw[e3] at c3;rw[yM rfl];exact ju ((fH c3).trans (aW rfl))
   | true =>
    rw[e3] at c3;rw[yO (by simp),aj (ba c3)];exact aW rfl
def Gi(G T:List Pl)(W:List Wy)(P:List Int)(k:Nat):dW G T W P k<=3:=by
 unfold dW;split
 ·lia
 ·split
  ·lia
  ·split<;>lia
def Bo(n:Nat)(h:n<=3):p9 (Nc n) .none=some (.bool (decide (n=3))):=by
 match n,h with
 | 0,_=>rfl
 | 1,_=>rfl
 | 2,_=>rfl
 | 3,_=>rfl
def pZ{W:List Wy}{P:List Int}(hp:P.length=W.length)(hf:f ρ=some (af P)):(aa (bh bA (aa f ah)) ah) ρ=some [nD W.length]:=by
 have:=Jf P;rw[hp] at this;refine cons_of ?_ rfl;rw[A3 hf,this]
def iT(h:Wd G T W)(hp:P.length=W.length)(hs:Sm P):aY [aI G T W,af P]=some (match (List.range W.length).find? λk=>decide (dW G T W P k=3) with|some k=>nD k|none=>.none):=by
 have hw:=h.wl;refine aX ?_;show cY [.val (aI G T W),.val (af P),.QK]=_;unfold cY;let⟨f1,Se⟩:=ix (tgt:=td 2) (gb:=dw W5 T5 cT) (λρ=>∃x,ρ=[.val (aI G T W),.val (af P),x]) nD (λk=>decide (dW G T W P k=3)) nD
  (l:=List.range W.length) (ρ:=[.val (aI G T W),.val (af P),.QK])
  (λρ k hk Xd=>by
   let⟨x,rfl⟩:=Xd;have SF:k < W.length:=by simpa using hk
   have c:W5 (aP [.val (aI G T W),.val (af P),.val (nD k)])=some (decide (dW G T W P k=3)) :=
    aN (ar (Bo _ (Gi G T W P k)) (call_of (o8 h hp hs SF) rfl rfl) rfl)
   refine⟨_,rfl,λhq=>?_,λhq=>?_⟩
   ·show dw _ _ _ [.val (aI G T W),.val (af P),.val (nD k)]=_;rw[hq] at c;exact (fH c).trans (aW rfl)
   ·rw[hq] at c;exact⟨_,ba c,_,rfl⟩) ⟨_,rfl⟩
 have hr:bw W3 [some (aI G T W),some (af P),none]=some ((List.range W.length).map nD):=AE (pZ hp rfl) (by lia);cases e:(List.range W.length).find? λk=>decide (dW G T W P k=3) with
 | some k=>exact ju (cx (f1 k e) hr rfl)
 | none =>
  let⟨ρ',e',x,rfl⟩:=Se e;exact (aj (cx e' hr rfl)).trans (aW rfl)
def pF(h:Wd G T W)(hp:P.length=W.length)(hs:Sm P):dY [aI G T W,af P]=some (.bool (decide (iu G T W P=[]))):=by
 refine aX ?_;show iP [.val (aI G T W),.val (af P)]=_;unfold iP;refine aW (ar ?_ (call_of (iT h hp hs) rfl rfl) rfl);cases e:(List.range W.length).find? λk=>decide (dW G T W P k=3) with
 | some k =>
  have:iu G T W P≠[]:=λz=>by
   have hm:=List.mem_of_find?_eq_some e;have hq:=List.find?_some e;have:k∈iu G T W P:=List.mem_filter.mpr ⟨hm,hq⟩;rw[z] at this;cases this
  rw[yA this];rfl
 | none =>
  have:iu G T W P=[]:=by
   rw[wC] at e;exact List.filter_eq_nil_iff.mpr e
  rw[yB this];rfl
def B5(h:Wd G T W)(p:Pn G T W P):cN [aI G T W,af P]=some (.bool (decide (iu G T W P=[]))):=by
 refine aX ?_;show oX [.val (aI G T W),.val (af P)]=_;unfold oX;refine (aj (lR (call_of (ft h p) rfl rfl))).trans ?_;exact aW (call_of (pF h p.len (p.Xx h)) rfl rfl)
def oo:∀ (is:List Nat),(∀i∈is,tt (some (nD i)::r)=some (q i)/\(q i=true->te (some (nD i)::r)=some (f i)))->dJ (fG 0) tt te (none::r) (is.map nD)=some ((is.filter q).map f)
 | [],_=>rfl
 | i::is,h=>by
  have ih:=oo (tt:=tt) (te:=te) (r:=r) (f:=f) (q:=q) is λj hj=>h j (zD _ hj);let⟨h1,h2⟩:=h i zF;have hg:fG 0 (none::r) (nD i)=some (some (nD i)::r):=rfl;rw[zJ,dJ,hg,zA,h1,zA,jX];cases e:q i with
  | true =>
   rw[yM rfl,yM rfl,h2 e,zA,ih];rfl
  | false =>
   rw[yO (by simp),yO (by simp),ih]
def p4{fi:Dl.Env->Option (List D)}{tt:Dl.Env->Option Bool}{te:Dl.Env->Option D}{ρ:Dl.Env}{is:List Nat}{f:Nat->D}{q:Nat->Bool}(SD:fi ρ=some (is.map nD))(hl:is.length<=1000)(hh:∀i∈is,tt (some (nD i)::cs.map λj=>(ρ[j]?).getD none)=some (q i)/\(q i=true->te (some (nD i)::cs.map λj=>(ρ[j]?).getD none)=some (f i))):aw 1 cs fi (fG 0) tt te ρ=some ((is.filter q).map f):=by
 have:=oo is hh;simp?[aw,SD,zA,gh,List.replicate,xG,xP,this];refine bM ?_;rw[zE];refine yE (xQ _ _) ?_;lia
def k6(h:Wd G T W)(p:Pn G T W P):bN [aI G T W,af P]=some (.list ((iu G T W P).map nD)):=by
 have hw:=h.wl;have hp:=p.len;refine aX ?_;show ku [.val (aI G T W),.val (af P)]=_;unfold ku;refine (aj (lR (call_of (ft h p) rfl rfl))).trans ?_;have c:aw 1 [0,1] W4 (fG 0) YH (ae 0) [some (aI G T W),some (af P)]=some ((iu G T W P).map nD) :=
  p4 (AE (pZ hp rfl) (by lia)) (by rw[zS];lia) λk hk=>⟨aN (ar (Bo _ (Gi G T W P k)) (call_of (o8 h hp (p.Xx h) (by simpa using hk)) rfl rfl) rfl),λ_=>rfl⟩
 refine aW ?_;show cZ _ [some (aI G T W),some (af P)]=_;simp?[cZ,c,zC]
def BA(f:Nat->D)(R:Nat->ao->Prop):∀ (n k:Nat) (ρ:ao),
  (∀j ρ,k<=j->j < k+n->R j ρ->∃ρ1 Si,tgt ρ (f j)=some ρ1/\gb ρ1=some (.nx Si)/\R (j+1) Si)->R k ρ->∃ρ',dO tgt gb ((List.range' k n).map f) ρ=some (.nx ρ')/\R (k+n) ρ'
 | 0,k,ρ,_,h=>⟨ρ,rfl,h⟩
 | n+1,k,ρ,hh,h=>by
  let⟨ρ1,Si,e1,e2,h2⟩:=hh k ρ (yN _) (by lia) h;let⟨ρ',e3,h3⟩:=BA f R n (k+1) Si (λj ρ a b=>hh j ρ (by lia) (by lia)) h2;refine⟨ρ',?_,by rw[show k+(n+1)=k+1+n by lia];exact h3⟩;rw[vE,zJ,dO,e1,zA,e2];exact e3
def N0(hl:n<=1000):Dl.cA (.tuple [.int 0]) (nD n)=some (af (zs n)):=by
 have e:yo (.tuple [.int 0]) (nD n)=some (af (zs n)):=by
  show (if DD ((n:Nat):Int)=true/\[PyData.int 0].length * ((n:Nat):Int).toNat<=sizeLine then some (PyData.tuple (List.replicate ((n:Nat):Int).toNat [PyData.int 0]).flatten) else none)=_;have hz:[PyData.int 0].length * n<=sizeLine:=by
   rw[xD,Nat.one_mul];exact yE hl (by decide)
  rw[yH,yM ⟨uL hl,hz⟩,J4];rfl
 show ((vf rH λi j=>PyData.int (i * j)) (.tuple [.int 0]) (nD n)).or (yo (.tuple [.int 0]) (nD n))=_;rw[e];rfl
def ph{W:List Wy}{P:List Int}(h:P.length=W.length):ja (P.map PyData.int) (W.map ax)=(List.range W.length).map λi=>.tuple [.int (P.getD i 0),ax (aJ W i)]:=by
 have:∀ (a:List Int) (l:List Wy),a.length=l.length->ja (a.map PyData.int) (l.map ax)=(List.range l.length).map λi=>.tuple [.int (a.getD i 0),ax (aJ l i)]:=by
  intro a
  induction a with
  | nil=>intro l e;cases l with|nil=>rfl|cons _ _=>simp at e
  | cons x a ih =>
   intro l e;cases l with
   | nil=>simp at e
   | cons w l =>
    rw[zJ,zJ,ja,ih l (by simpa using e),zM,vK,zJ,zN];rfl
 exact this P W h
def zy(h:Wd G T W)(hp:P.length=W.length)(hs:Sm P)(b:Bool)(p:Int):gE [aI G T W,af P,.int (sI b),.int p]=some (.int (jd b W P p)):=by
 have hw:=h.wl;refine aX ?_;show jt [.val (aI G T W),.val (af P),.val (.int (sI b)),.val (.int p)]=_;have hz:dP (aa (ae 1) (aa (f2 az (ae 0) (fC (.int 2))) ah)) [some (aI G T W),some (af P),some (.int (sI b)),some (.int p)]=some ((List.range W.length).map λi=>.tuple [.int (P.getD i 0),ax (aJ W i)]):=by
  rw[<- ph hp];rfl
 have c:aw 2 [2,3] (dP (aa (ae 1) (aa (f2 az (ae 0) (fC (.int 2))) ah))) (ip 0 1) (fB (f2 bE (f2 az (ae 1) (ae 2)) (ae 3))) (ae 0) [some (aI G T W),some (af P),some (.int (sI b)),some (.int p)]=some ((own b W p).map λi=>.int (P.getD i 0)):=by
  rw[jq (p:=λi=>decide (bz b (aJ W i)=p)) (h:=λi=>.int (P.getD i 0)) hz (by lia) λi hi=>⟨?_,λ_=>rfl⟩]
  ·rfl
  ·show fB (f2 bE (f2 az (ae 1) (ae 2)) (ae 3)) [some (.int (P.getD i 0)),some (ax (aJ W i)),some (.int (sI b)),some (.int p)]=_;exact aN (by rw[hJ (a:=.int (bz b (aJ W i))) (b:=.int p) (ar (mH b _) rfl rfl) rfl,bO])
 refine aW ?_;have e:((own b W p).map λi=>PyData.int (P.getD i 0))=((own b W p).map λi=>P.getD i 0).map PyData.int:=by rw[zN];rfl
 show bh eV (aa (cZ (aw 2 [2,3] (dP (aa (ae 1) (aa (f2 az (ae 0) (fC (.int 2))) ah))) (ip 0 1) (fB (f2 bE (f2 az (ae 1) (ae 2)) (ae 3))) (ae 0))) ah) [some (aI G T W),some (af P),some (.int (sI b)),some (.int p)]=_;rw[e] at c;simp?[bh,aa,ah,cZ,c,zC,zA];show eV [.list (((own b W p).map λi=>P.getD i 0).map PyData.int)]=_;simp?[eV,dc,oneOf,eI,zA,aV,B9 hs hw b p,xI];rfl
def Pr:ao->Option Out:=YL
def Ji(h:Wd G T W)(hp:P.length=W.length)(hs:Sm P)(b:Bool)(x y:Slot):(BC b G T W P=false->Pr [.val (aI G T W),.val (af P),.val (.int (sI b)),x,y]=some (.rt (.bool false)))/\(BC b G T W P=true->∃x' y',Pr [.val (aI G T W),.val (af P),.val (.int (sI b)),x,y]=some (.nx [.val (aI G T W),.val (af P),.val (.int (sI b)),x',y'])):=by
 have hl:=h.pl b;let⟨f1,Se⟩:=ix (tgt:=eL 3 4) (gb:=dw W7 Rn cT)
  (λρ=>∃x y,ρ=[.val (aI G T W),.val (af P),.val (.int (sI b)),x,y]) (λi:Nat=>.tuple [nD i,bc (dg b G T i)]) (λi=>decide ((dg b G T i).1 < jd b W P i)) (λ_=>.bool false)
  (l:=List.range (bb b G T).length) (ρ:=[.val (aI G T W),.val (af P),.val (.int (sI b)),x,y])
  (λρ i hi Xd=>by
   let⟨x,y,rfl⟩:=Xd;have c:W7 (aP [.val (aI G T W),.val (af P),.val (.int (sI b)),.val (nD i),.val (bc (dg b G T i))])=some (decide ((dg b G T i).1 < jd b W P i)) :=
    aN (ar (eA _ _) (call_of (zy h hp hs b i) rfl rfl) (ar (a:=bc (dg b G T i)) (b:=.int 0) rfl rfl rfl))
   refine⟨_,rfl,λhq=>?_,λhq=>?_⟩
   ·rw[hq] at c;exact (fH c).trans (aW rfl)
   ·rw[hq] at c;exact⟨_,ba c,_,_,rfl⟩) ⟨_,_,rfl⟩
 have he:bj YI (bx [.val (aI G T W),.val (af P),.val (.int (sI b)),x,y])=some ((List.range (bb b G T).length).map λi=>.tuple [nD i,bc (dg b G T i)]):=by
  have:=p7 (bb b G T);unfold dg;rw[<- this];cases b<;>rfl
 have hh:hand [0,2] 0 [Slot.val (aI G T W),.val (af P),.val (.int (sI b)),x,y]=[Slot.val (aI G T W),.val (af P),.val (.int (sI b)),x,y]:=rfl;unfold BC;constructor
 ·intro hk;cases e:(List.range (bb b G T).length).find? λi=>decide ((dg b G T i).1 < jd b W P i) with
  | some i=>exact cx (f1 i e) he hh
  | none =>
   rw[wC] at e;rw[List.all_eq_false] at hk;let⟨i,hi,hn⟩:=hk;have:=e i hi;simp?[zK] at this hn;lia
 ·intro hk;have e:(List.range (bb b G T).length).find? (λi=>decide ((dg b G T i).1 < jd b W P i))=none:=by
   rw[wC];intro i hi;have:=List.all_eq_true.mp hk i hi;simp?[zK] at this ⊢;lia
  let⟨ρ',e',x',y',rfl⟩:=Se e;exact⟨x',y',cx e' he hh⟩
def L8:rq G T W P=(BC false G T W P&&BC true G T W P):=rfl
def Af(h:Wd G T W)(hp:P.length=W.length)(hs:Sm P):cJ [aI G T W,af P]=some (.bool (rq G T W P)):=by
 let⟨f1,Se⟩:=ix (tgt:=td 2) (gb:=Pr)
  (λρ=>∃x y z,ρ=[.val (aI G T W),.val (af P),x,y,z]) (λb:Bool=>.int (sI b)) (λb=>!(BC b G T W P)) (λ_=>.bool false)
  (l:=[false,true]) (ρ:=[.val (aI G T W),.val (af P),.QK,.QK,.QK])
  (λρ b _ Xd=>by
   let⟨x,y,z,rfl⟩:=Xd;let⟨r1,r2⟩:=Ji h hp hs b y z;refine⟨_,rfl,λhq=>?_,λhq=>?_⟩
   ·exact r1 (by simpa using hq)
   ·let⟨x',y',e⟩:=r2 (by simpa using hq);exact⟨_,e,_,_,_,rfl⟩) ⟨_,_,_,rfl⟩
 have hr:bw S5 (bx [.val (aI G T W),.val (af P),.QK,.QK,.QK])=some ([false,true].map λb=>.int (sI b)):=AE (n:=2) rfl (by lia);refine aX ?_;show gJ [.val (aI G T W),.val (af P),.QK,.QK,.QK]=_;unfold gJ;rw[L8];cases e0:BC false G T W P with
 | false =>
  have e:[false,true].find? (λb=>!(BC b G T W P))=some false:=by rw[vM (by simp[e0])]
  exact ju (cx (f1 _ e) hr rfl)
 | true =>
  cases e1:BC true G T W P with
  | false =>
   have e:[false,true].find? (λb=>!(BC b G T W P))=some true:=by rw[kK (by simp[e0]),vM (by simp[e1])]
   exact ju (cx (f1 _ e) hr rfl)
  | true =>
   have e:[false,true].find? (λb=>!(BC b G T W P))=none:=by rw[kK (by simp[e0]),kK (by simp[e1])];rfl
   let⟨ρ',e',x,y,z,rfl⟩:=Se e;exact (aj (cx e' hr rfl)).trans (aW rfl)
def Sm.app(ha:Sm a)(hb:Sm b):Sm (a++b):=λk=>by
 by_cases hk:k < a.length
 ·have:=ha k
  rwa [show (a++b).getD k 0=a.getD k 0 by simp[yT hk]]
 ·have:=hb (k - a.length)
  rwa [show (a++b).getD k 0=b.getD (k - a.length) 0 by simp[yU (by lia:a.length<=k)]]
def MD(h1:-1000000<=x)(h2:x<=1000000):Sm [x]:=λk=>by
 cases k with
 | zero=>exact⟨h1,h2⟩
 | succ k=>simp
def NH(n:Nat):Sm (zs n):=λk=>by rw[J5];lia
def rD(ns:List Int)(at':Int)(W:List Wy)(k:Nat):Int:=dr ns (at'+(k:Nat)) ((aJ W k).2.2+1)
def Bf(hl:ns.length<=63)(h:Wd G T W)(hk:k < W.length):0<=rD ns at' W k/\rD ns at' W k<=(aJ W k).2.2:=by
 have:=(h.wr _ (lU hk)).2.2;have h1:=KD (ns:=ns) (at'+(k:Nat)) ((aJ W k).2.2+1) hl (by lia);have h2:=KG (ns:=ns) (at'+(k:Nat)) ((aJ W k).2.2+1) hl (by lia);unfold rD;lia
def On:ao->Option Out:=(aq (aE 6 [0,1,3,4,5] (f2 aB (ae 3) (aL (aa (ai 3 ak (aa (ae 0) (aa (f2 aB (ae 1) (ae 4)) (aa (f2 aB (f2 az (ae 5) (fC (.int 2))) (fC (.int 1))) ah)))) ah)))) (aq (aE 7 [2,6] (ai 2 cJ (aa (ae 2) (aa (f2 aB (ae 6) (f2 cA (aL (aa (fC (.int 0)) ah)) (f2 Dl.ig (bh bA (aa (f2 az (ae 2) (fC (.int 2))) ah)) (bh bA (aa (ae 6) ah))))) ah)))) (aE 3 [3,6,7] (HA (fB (ae 7)) (ae 6) (f2 aB (ae 3) (aL (aa (fC (.int 0)) ah)))))))
def ur(h:a.length+b.length<=1000):Dl.aB (af a) (af b)=some (af (a++b)):=by
 unfold af;rw[tY (by simp;lia),jB]
def uE(h:tc ρ=some true)(ha:fa ρ=some d):HA tc fa fb ρ=some d:=by
 simp?[HA,h,zA,ha]
def Bc(h:tc ρ=some false)(ha:fb ρ=some d):HA tc fa fb ρ=some d:=by
 simp?[HA,h,zA,ha]
def L5(hl:ns.length<=63)(h:Wd G T W)(hk:k<=W.length):Sm (lW (rD ns at' W) G T W k):=λj=>by
 by_cases hj:j < k
 ·have:=Bg (d:=rD ns at' W) (G:=G) (T:=T) (W:=W) (λk hk=>Bf hl h hk) h.lim k hk j hj;have:=(h.wr _ (lU (show j < W.length by lia))).2.2;lia
 ·rw[zH,jM (by rw[mf];lia)];simp
def oM(hl:ns.length<=63)(h:Wd G T W)(hk:k < W.length)(x y:Slot):∃x' y',On [.val (bP ns),.val (.int at'),.val (aI G T W),.val (af (lW (rD ns at' W) G T W k)),.val (nD k),.val (ax (aJ W k)),x,y]=some (.nx [.val (bP ns),.val (.int at'),.val (aI G T W),.val (af (lW (rD ns at' W) G T W (k+1))),.val (nD k),.val (ax (aJ W k)),x',y']):=by
 have hw:=h.wl;have hr:=(h.wr _ (lU hk)).2.2;have hsm:=L5 (at':=at') hl h (jT hk);have Tb:=mf (d:=rD ns at' W) (G:=G) (T:=T) (W:=W) k;have R0:=Bf (at':=at') hl h hk;have e2:lW (rD ns at' W) G T W (k+1)=if rq G T W ((lW (rD ns at' W) G T W k++[rD ns at' W k])++zs (W.length - (lW (rD ns at' W) G T W k++[rD ns at' W k]).length))=true then lW (rD ns at' W) G T W k++[rD ns at' W k] else lW (rD ns at' W) G T W k++[0]:=rfl
 rw[e2];clear e2;generalize hf:lW (rD ns at' W) G T W k=f at hsm Tb ⊢;generalize hd:rD ns at' W k=d at R0 ⊢;have ed:∀ρ:Dl.Env,ae 0 ρ=some (bP ns)->ae 1 ρ=some (.int at')->ae 4 ρ=some (nD k)->ae 5 ρ=some (ax (aJ W k))->(ai 3 ak (aa (ae 0) (aa (f2 aB (ae 1) (ae 4)) (aa (f2 aB (f2 az (ae 5) (fC (.int 2))) (fC (.int 1))) ah)))) ρ=some (.int d):=λρ a b c e=>by
  rw[<- hd];exact call_of (sX (at'+((k:Nat):Int)) ((aJ W k).2.2+1) hl (by lia)) (cons_of a (cons_of (ar (gc at' k) b c) (cons_of (ar (gc (aJ W k).2.2 1) (ar (JG _) e rfl) rfl) rfl))) rfl
 have em:∀ρ:Dl.Env,ae 0 ρ=some (bP ns)->ae 1 ρ=some (.int at')->ae 3 ρ=some (af f)->ae 4 ρ=some (nD k)->ae 5 ρ=some (ax (aJ W k))->(f2 aB (ae 3) (aL (aa (ai 3 ak (aa (ae 0) (aa (f2 aB (ae 1) (ae 4)) (aa (f2 aB (f2 az (ae 5) (fC (.int 2))) (fC (.int 1))) ah)))) ah))) ρ=some (af (f++[d])):=λρ a b z c e =>
  ar (ur (a:=f) (b:=[d]) (by simp;lia)) z (JE (ed ρ a b c e))
 have t6:Dl.aE 6 [0,1,3,4,5] (f2 aB (ae 3) (aL (aa (ai 3 ak (aa (ae 0) (aa (f2 aB (ae 1) (ae 4)) (aa (f2 aB (f2 az (ae 5) (fC (.int 2))) (fC (.int 1))) ah)))) ah))) [.val (bP ns),.val (.int at'),.val (aI G T W),.val (af f),.val (nD k),.val (ax (aJ W k)),x,y]=some (.nx [.val (bP ns),.val (.int at'),.val (aI G T W),.val (af f),.val (nD k),.val (ax (aJ W k)),.val (af (f++[d])),y]) :=
  bI (em _ rfl rfl rfl rfl rfl) (em _ rfl rfl rfl rfl rfl) rfl
 have hlen:(f++[d]).length=k+1:=by simp[Tb]
 have SO:((W.length:Nat):Int) - (((f++[d]).length:Nat):Int)=((W.length - (f++[d]).length:Nat):Int):=by lia
 have Uh:((f++[d])++zs (W.length - (f++[d]).length)).length=W.length:=by simp[zs,Tb];lia
 have Td:Sm ((f++[d])++zs (W.length - (f++[d]).length)):=(hsm.app (MD (by lia) (by lia))).app (NH _);have ef:∀ρ:Dl.Env,ae 2 ρ=some (aI G T W)->ae 6 ρ=some (af (f++[d]))->(ai 2 cJ (aa (ae 2) (aa (f2 aB (ae 6) (f2 cA (aL (aa (fC (.int 0)) ah)) (f2 Dl.ig (bh bA (aa (f2 az (ae 2) (fC (.int 2))) ah)) (bh bA (aa (ae 6) ah))))) ah))) ρ=some (.bool (rq G T W ((f++[d])++zs (W.length - (f++[d]).length)))):=λρ a b=>by
  refine call_of (Af h Uh Td) (cons_of a (cons_of (ar (ur ?_) b (ar (N0 (n:=W.length - (f++[d]).length) (by lia)) (JE rfl) ?_)) rfl)) rfl
  ·rw[<- zO,Uh];lia
  ·rw[show nD (W.length - (f++[d]).length)=.int (((W.length:Nat):Int) - (((f++[d]).length:Nat):Int)) by rw[SO]];exact ar (sub_int _ _) (Ag (l:=W) (k:=ax) (ar (tN G T W) a rfl)) (Ag (l:=f++[d]) (k:=PyData.int) b)
 have t7:Dl.aE 7 [2,6] (ai 2 cJ (aa (ae 2) (aa (f2 aB (ae 6) (f2 cA (aL (aa (fC (.int 0)) ah)) (f2 Dl.ig (bh bA (aa (f2 az (ae 2) (fC (.int 2))) ah)) (bh bA (aa (ae 6) ah))))) ah))) [.val (bP ns),.val (.int at'),.val (aI G T W),.val (af f),.val (nD k),.val (ax (aJ W k)),.val (af (f++[d])),y]=some (.nx [.val (bP ns),.val (.int at'),.val (aI G T W),.val (af f),.val (nD k),.val (ax (aJ W k)),.val (af (f++[d])),.val (.bool (rq G T W ((f++[d])++zs (W.length - (f++[d]).length))))]) :=
  bI (ef _ rfl rfl) (ef _ rfl rfl) rfl
 unfold On;rw[aj t6,aj t7];have h0:∀ρ:Dl.Env,ae 3 ρ=some (af f)->(f2 aB (ae 3) (aL (aa (fC (.int 0)) ah))) ρ=some (af (f++[0])):=λρ z=>ar (ur (a:=f) (b:=[0]) (by simp;lia)) z (JE rfl);generalize rq G T W ((f++[d])++zs (W.length - (f++[d]).length))=fb;cases fb with
 | true =>
  rw[yM rfl];exact⟨_,_,bI (uE (aN rfl) rfl) (uE (aN rfl) rfl) rfl⟩
 | false =>
  rw[yO (by simp)];exact⟨_,_,bI (Bc (aN rfl) (h0 _ rfl)) (Bc (aN rfl) (h0 _ rfl)) rfl⟩
def DZ(W:List Wy):bu 0 (W.map ax)=(List.range' 0 W.length).map λi=>.tuple [nD i,ax (aJ W i)]:=by
 rw[<- List.range_eq_range',enum_zip];apply jI
 ·simp
 ·intro i h1 h2;have:i < W.length:=by simpa using h2
  simp[lL this]
def zz(hl:ns.length<=63)(h:Wd G T W):cF [bP ns,.int at',aI G T W]=some (af (lW (rD ns at' W) G T W W.length)):=by
 have hw:=h.wl;let⟨ρ',e,x4,x5,x6,x7,rfl⟩:=BA (tgt:=eL 4 5) (gb:=On) (λi=>.tuple [nD i,ax (aJ W i)]) (λk ρ=>∃x4 x5 x6 x7,ρ=[.val (bP ns),.val (.int at'),.val (aI G T W),.val (af (lW (rD ns at' W) G T W k)),x4,x5,x6,x7]) W.length 0 [.val (bP ns),.val (.int at'),.val (aI G T W),.val (af []),.QK,.QK,.QK,.QK]
  (λj ρ _ hj Xd=>by
   let⟨x4,x5,x6,x7,rfl⟩:=Xd;let⟨x',y',e⟩:=oM (at':=at') hl h (show j < W.length by lia) x6 x7;exact⟨_,_,rfl,e,_,_,_,_,rfl⟩) ⟨_,_,_,_,rfl⟩
 refine aX ?_;show gy [.val (bP ns),.val (.int at'),.val (aI G T W),.QK,.QK,.QK,.QK,.QK]=_;unfold gy;have t3:Dl.aE 3 [] (aL ah) [.val (bP ns),.val (.int at'),.val (aI G T W),.QK,.QK,.QK,.QK,.QK]=some (.nx [.val (bP ns),.val (.int at'),.val (aI G T W),.val (af []),.QK,.QK,.QK,.QK]) :=
  bI (tup_is (ds:=[]) rfl (by simp)) (tup_is (ds:=[]) rfl (by simp)) rfl
 rw[aj t3];have he:bj W9 (bx [.val (bP ns),.val (.int at'),.val (aI G T W),.val (af []),.QK,.QK,.QK,.QK])=some ((List.range' 0 W.length).map λi=>.tuple [nD i,ax (aJ W i)]):=by
  rw[<- DZ];rfl
 rw[jE] at e;exact (aj (cx e he rfl)).trans (aW rfl)
def Hq(hl:ns.length<=63)(h:Wd G T W):Pn G T W (lW (rD ns at' W) G T W W.length):=LM h λk hk=>Bf hl h hk
def MF(a:List Int):PyData.eqv (af a) (af a)=true:=by rw[hU];simp
def K2(a:Int):PyData.eqv (.int a) (.int a)=true:=by
 have:=MF [a];rw[af,PyData.eqv,zJ,yV,PyData.eqvAll] at this;simp?[zG] at this;exact this.1
def C0(a:Bool):dz (.bool a) (.bool a)=some (.bool false):=by cases a<;>simp[dz,JV,SeqAt.shaped,PyData.canLay0,PyData.depth,PyData.eqv]
def Hr(a:Int):dz (.int a) (.int a)=some (.bool false):=by
 have hs:SeqAt.shaped (.int a)=true:=(gD (b:=1) (k:=0) a).shaped (by decide);simp?[dz,JV,hs,jP,xI,K2,zC,xZ]
section
variable {P off:List Int}
def GL:∀ (xs:List Nat),(∀i∈xs,0<=off.getD i 0)->0<=(xs.map λi=>off.getD i 0).sum
 | [],_=>by simp
 | i::xs,h=>by
  have:=GL xs λj hj=>h j (zD _ hj);have:=h i zF;rw[zJ,List.sum_cons];lia
def B0:∀ (xs:List Nat),(∀i∈xs,0<=P.getD i 0)->(0 < (xs.map λi=>P.getD i 0).sum↔(xs.any λi=>decide (0 < P.getD i 0))=true)
 | [],_=>by simp
 | i::xs,h=>by
  have ih:=B0 xs λj hj=>h j (zD _ hj);have h0:=GL (off:=P) xs λj hj=>h j (zD _ hj);have hi:=h i zF;rw[zJ,List.sum_cons,vC,jC,zK,<- ih];lia
def IB(h:Wd G T W){b:Bool}(hk:k < W.length) :
  let i:=(bz b (aJ W k)).toNat;let L:=(dg b G T i).2
  iw b W i L=(L.take (rO L (b9 b (aJ W k)))).map (kn b W i)++k::(L.drop (rO L (b9 b (aJ W k))+1)).map (kn b W i):=by
 intro i L;let⟨h1,h2,h3⟩:=h.Rg b hk;have e:=pf h2;have hm:b9 b (aJ W k)∈L:=by
  rw[(h.Xw e).mem_iff,<- oN];exact List.mem_map.mpr ⟨k,fF.mpr ⟨hk,h3.symm⟩,rfl⟩
 have Q0:rO L (b9 b (aJ W k)) < L.length:=by
  unfold rO;exact kL ⟨_,hm,by simp⟩
 have hg:L[rO L (b9 b (aJ W k))]=b9 b (aJ W k):=by
  have:=List.findIdx_getElem (w:=Q0);exact yR this
 have hx:kn b W i (b9 b (aJ W k))=k:=o5 h.wp (fF.mpr ⟨hk,h3.symm⟩);unfold iw
 conv=>lhs;rw[<- List.take_append_drop (rO L (b9 b (aJ W k))) L,kZ Q0,hg,jB,zJ,hx]
end
def sm(l:List Nat)(f:Nat->Int):Int:=(l.map f).sum
def bB(q:Nat)(l:List Nat)(f:Nat->Int):sm (q::l) f=f q+sm l f:=by simp[sm]
def A5(l r:List Nat)(f:Nat->Int):sm (l++r) f=sm l f+sm r f:=by simp[sm]
def xb:∀ {l:List Nat}{f g:Nat->Int},(∀q∈l,f q<=g q)->sm l f<=sm l g
 | [],_,_,_=>qA _
 | q::l,f,g,h=>by
  have h1:=h q zF;have h2:=xb (l:=l) λx hx=>h x (zD _ hx);rw[bB,bB];lia
def EG(h:∀q∈l,0<=f q):0<=sm l f:=by
 have:sm l (λ_=>0)=0:=by induction l with
  | nil=>rfl
  | cons q l ih=>rw[bB,ih λx hx=>h x (zD _ hx)];rfl
 rw[<- this];exact xb h
def JI(p:l.Perm r)(f:Nat->Int):sm l f=sm r f:=by
 induction p with
 | nil=>rfl
 | cons x _ ih=>rw[bB,bB,ih]
 | swap x y l=>rw[bB,bB,bB,bB];lia
 | trans _ _ h1 h2=>rw[h1,h2]
def ch(m:Nat->Int):Int->List Nat->Nat->Int
 | _,[],_=>0
 | a,q::r,k=>if k=q then min (m q) a else ch m (a - min (m q) a) r k
def up:List Nat->Nat->List Nat
 | [],_=>[]
 | q::r,k=>if k=q then [q] else q::up r k
def ke(q:Nat)(r:List Nat):up (q::r) q=[q]:=by simp[up]
def kf(h:k≠q):up (q::r) k=q::up r k:=by simp[up,h]
def EU:∀ {l:List Nat}{k q:Nat},q∈up l k->q∈l
 | [],_,_,h=>by cases h
 | x::l,k,q,h=>by
  by_cases e:k=x
  ·subst e;rw[ke,yK] at h;exact h ▸ zF
  ·rw[kf e] at h;rcases List.mem_cons.mp h with z|z
   ·exact z ▸ zF
   ·exact zD _ (EU z)
def CH:∀ {l:List Nat}{k:Nat},k∈l->k∈up l k
 | x::l,k,h=>by
  by_cases e:k=x
  ·subst e;rw[ke];exact zF
  ·rw[kf e];rcases List.mem_cons.mp h with z|z
   ·exact absurd z e
   ·exact zD _ (CH z)
def uq:∀ {xs ys:List Nat}{k:Nat},k∉xs->up (xs++k::ys) k=xs++[k]
 | [],ys,k,_=>ke _ _
 | x::xs,ys,k,h=>by
  rw[zR,not_or] at h;rw[xG,kf h.1,uq h.2];rfl
def uF(hn:l.Nodup)(hk:k∈l):∃ys,l=up l k++ys/\(∀q∈ys,q∉up l k):=by
 let⟨xs,ys,rfl⟩:=List.append_of_mem hk;have hx:k∉xs:=λz=>by
  rw[wM] at hn;exact hn.2.2 k z k zF rfl
 refine⟨ys,by rw[uq hx];simp,λq hq Sz=>?_⟩;rw[uq hx] at Sz;rw[show xs++k::ys=(xs++[k])++ys by simp,wM] at hn;exact hn.2.2 q Sz q hq rfl
def aS(b:Bool)(W:List Wy)(k:Nat):Nat:=(bz b (aJ W k)).toNat
def lst(b:Bool)(G T:List Pl)(W:List Wy)(i:Nat):List Nat:=iw b W i (dg b G T i).2
def RD(b:Bool)(G T:List Pl)(i:Nat):Int:=(dg b G T i).1
def vl(P:List Int)(q:Nat):Int:=P.getD q 0
section
variable {G T:List Pl}{W:List Wy}{P X c off:List Int}{b:Bool}{i k q:Nat}
def jw(h:Wd G T W)(b:Bool)(hk:k < W.length):aS b W k < (bb b G T).length:=(h.Rg b hk).2.1
def mD(h:Wd G T W)(hi:i < (bb b G T).length):(lst b G T W i).Perm (own b W i):=mK h (pf hi)
def fO(h:Wd G T W)(hi:i < (bb b G T).length):(lst b G T W i).Nodup:=(mD h hi).nodup_iff.mpr (List.nodup_range.filter _)
def fJ(h:Wd G T W)(hi:i < (bb b G T).length):q∈lst b G T W i↔q < W.length/\aS b W q=i:=by
 rw[(mD h hi).mem_iff,fF];constructor
 ·rintro⟨h1,h2⟩;exact⟨h1,by unfold aS;rw[h2];simp⟩
 ·rintro⟨h1,h2⟩;have:=(h.Rg b h1).2.2;unfold aS at h2;rw[h2] at this;exact⟨h1,this.symm⟩
def je(h:Wd G T W)(b:Bool)(hk:k < W.length):k∈lst b G T W (aS b W k):=(fJ h (jw h b hk)).mpr ⟨hk,rfl⟩
def jm(h:Wd G T W)(hi:i < (bb b G T).length):jd b W P i=sm (lst b G T W i) (vl P):=by
 unfold jd;rw[JI (mD h hi)];rfl
def Fl(b:Bool)(G T:List Pl)(W:List Wy)(P:List Int)(k:Nat):Prop:=sm (up (lst b G T W (aS b W k)) k) (vl P)=RD b G T (aS b W k)
def Pn.nn(p:Pn G T W P)(q:Nat):0<=vl P q:=by
 by_cases hq:q < W.length
 ·exact (p.bd q hq).1
 ·unfold vl;rw[Gy (by rw[p.len];lia)];lia
def Pn.aaB(h:Wd G T W)(p:Pn G T W P)(hi:i < (bb b G T).length):sm (lst b G T W i) (vl P)<=RD b G T i:=by
 rw[<- jm h hi];exact p.am b i hi
def JZ(h:Wd G T W)(p:Pn G T W P)(b:Bool)(hk:k < W.length):yp b G T W P k=false↔Fl b G T W P k:=by
 let⟨z1,z2,z3⟩:=h.Rg b hk;have hc:lst b G T W (aS b W k)=((dg b G T (aS b W k)).2.take (rO (dg b G T (aS b W k)).2 (b9 b (aJ W k)))).map (kn b W (aS b W k))++k::((dg b G T (aS b W k)).2.drop (rO (dg b G T (aS b W k)).2 (b9 b (aJ W k))+1)).map (kn b W (aS b W k)):=IB h hk;have hn:=fO (b:=b) h z2;change (lst b G T W (aS b W k)).Nodup at hn;have hle:=p.aaB h z2;change sm (lst b G T W (aS b W k)) (vl P)<=RD b G T (aS b W k) at hle;have hth:=jm (P:=P) h z2;have hy:yp b G T W P k=(decide (jd b W P ((aS b W k:Nat):Int) < RD b G T (aS b W k))||(((dg b G T (aS b W k)).2.drop (rO (dg b G T (aS b W k)).2 (b9 b (aJ W k))+1)).map (kn b W (aS b W k))).any λq=>decide (0 < vl P q)):=by
  unfold yp;rw[wK];unfold aS RD;rw[z3];rfl
 change jd b W P ((aS b W k:Nat):Int)=sm (lst b G T W (aS b W k)) (vl P) at hth;unfold Fl;rw[hy,hth];revert hc;generalize ((dg b G T (aS b W k)).2.take (rO (dg b G T (aS b W k)).2 (b9 b (aJ W k)))).map (kn b W (aS b W k))=xs;generalize ((dg b G T (aS b W k)).2.drop (rO (dg b G T (aS b W k)).2 (b9 b (aJ W k))+1)).map (kn b W (aS b W k))=ys;intro hc;have hx:k∉xs:=λz=>by
  rw[hc,wM] at hn;exact hn.2.2 k z k zF rfl
 rw[hc,uq hx];rw[hc] at hle;have e:sm (xs++k::ys) (vl P)=sm (xs++[k]) (vl P)+sm ys (vl P):=by
  rw[<- A5];simp
 have hnn:=EG (l:=ys) λq _=>p.nn q;have S6:=B0 (P:=P) ys λq _=>p.nn q;change (0 < sm ys (vl P)↔(ys.any λq=>decide (0 < vl P q))=true) at S6;rw[e] at hle ⊢;rw[Bool.or_eq_false_iff,xC];constructor
 ·rintro⟨h1,h2⟩;have:¬ 0 < sm ys (vl P):=λz=>by rw[S6.mp z] at h2;cases h2
  lia
 ·intro h1;refine⟨by lia,?_⟩;cases hh:(ys.any λq=>decide (0 < vl P q)) with
  | false=>rfl
  | true=>have:=S6.mpr hh;lia
end
section
variable {P X c off:List Int}
end
section
variable {P X c off:List Int}
end
section
variable {P X c off:List Int}
end
def HN(h:f ρ=some (.tuple ds)):bG f ρ=some ds:=by
 simp?[bG,h,zA,eI]
def HG(h:f ρ=some (.list ds)):bG f ρ=some ds:=by
 simp?[bG,h,zA,eI]
def BX(h:t ρ=some false):dQ t u ρ=some false:=by
 simp?[dQ,h,zA]
def xy(h:t ρ=some true)(h2:u ρ=some b):dQ t u ρ=some b:=by
 simp?[dQ,h,zA,h2]
def ym{l:List Nat}:SeqAt.shaped (.list (l.map nD))=true :=
 (iq.lst (b:=l.length) (k:=0) (by simp) λx hx=>by let⟨i,_,rfl⟩:=List.mem_map.mp hx;exact gD _).shaped (by decide)
structure Wk(G T G' T':List Pl):Prop where
 len:∀b,(bb b G' T').length=(bb b G T).length
 Xw:∀b i,(dg b G' T' i).2=(dg b G T i).2
 gv:∀i,RD false G' T' i<=RD false G T i
 tk:∀i,RD true G T i<=RD true G' T' i
section
variable {P X off:List Int}
end
def ext(l:Int)(r:List Int):List (List Int):=(List.range (l+1).toNat).map λm=>r++[((m:Nat):Int)]
def EV(l:List Nat)(k:Int):((l.map nD).any λz=>PyData.eqv z (.int k))=decide (∃i∈l,((i:Nat):Int)=k):=by
 induction l with
 | nil=>simp
 | cons i l ih =>
  have e:PyData.eqv (nD i) (.int k)=decide (((i:Nat):Int)=k):=by
   have:=hU [((i:Nat):Int)] [k];rw[af,af,PyData.eqv] at this;simpa [PyData.eqvAll] using this
  rw[zJ,vC,ih,e];simp
def Dg(l:List Nat)(k:Int):qj (.int k) (.list (l.map nD))=some (.bool (!decide (∃i∈l,((i:Nat):Int)=k))):=by
 have hs:SeqAt.shaped (.int k)=true:=(gD (b:=1) (k:=0) k).shaped (by decide);simp?[qj,Nl,hs,ym,jP,xI,EV,zC]
def any_rows(l:List (List Int))(a:List Int):((l.map af).any λz=>PyData.eqv z (af a))=decide (a∈l):=HE l a
def De(l:List (List Int))(a:List Int):qj (af a) (.list (l.map af))=some (.bool (!decide (a∈l))):=by
 simp?[qj,Nl,iF,gx,jP,xI,any_rows,zC]
def wX(hl:l.length<=1000)(hb:∀x∈l,-1000000<=x/\x<=1000000):eV [af l]=some (.int l.sum):=by
 have QR:IK l=true:=by
  unfold IK;rw[zG,zK,xH];refine⟨hl,λx hx=>?_⟩;rw[zG,zK,zK];exact hb x hx
 show eV [.tuple (l.map PyData.int)]=_;simp?[eV,dc,oneOf,eI,zA,aV,QR,xI]
def sh(k q:Nat):Nat:=if q < k then q else q+1
def nk(k:Nat):Nat->Bool:=λq=>!decide (q=k)
section
variable {G T:List Pl}{W:List Wy}{P X:List Int}{b:Bool}{i k q:Nat}
end
def yb{l:List Int}(hl:l.length<=1000)(hb:∀x∈l,-1000000<=x/\x<=1000000):eV [.list (l.map PyData.int)]=some (.int l.sum):=by
 have:=wX hl hb;simp?[eV,dc,oneOf,eI,zA,af] at this ⊢;exact this
section
variable {off agl:List Int}
end
section
open Ex
structure QJ(m:List D->Option D)(x:List D->Option Str)(ds:List D):Prop where
 n:m ds=some .none
 x:x ds=none
section
variable {m:List D->Option D}{x:List D->Option Str}{ds:List D}{c:Str}{n:Nat}{fs:Dl.Env->Option (List D)}{ρ:ao}
end
section
variable {G T:List Pl}{W:List Wy}{P X:List Int}{b:Bool}{i:Nat}
end
end
section
variable {G T:List Pl}{W:List Wy}{P X:List Int}{b k n:Nat}{d:D}{c:Str}
def Nv{g:D->Option D}{f:Dl.Env->Option D}{ρ:Dl.Env}(h:f ρ=some d):f1 g f ρ=g d:=by unfold f1;rw[h];rfl
end
section
variable {G T:List Pl}{W:List Wy}{P X:List Int}{b:Bool}{i j k:Nat}{w d:D}{c:Str}
def cn{tgt:ao->D->Option ao}{gb:ao->Option Out}{ρ ρ1 Si:ao}{d:D}{ds:List D}(h1:tgt ρ d=some ρ1)(h2:gb ρ1=some (.nx Si)):dO tgt gb (d::ds) ρ=dO tgt gb ds Si:=by
 rw[dO,h1,zA,h2];rfl
end
section
variable {G T:List Pl}{W:List Wy}{P X c:List Int}
def wY{f:Dl.Env->Option D}{ρ:Dl.Env}{α:Type}{g:α->D}{r:List α}(h:f ρ=some (.list (r.map g))):bh bA (aa f ah) ρ=some (nD r.length):=by
 rw[A3 h];show some (PyData.int ((r.map g).length:Nat))=_;rw[zE]
end
def Hj(b:Bool)(G T:List Pl)(W:List Wy)(P:List Int)(i:Nat):Option Nat:=((lst b G T W i).filter λq=>decide (0 < vl P q)).getLast?
def BJ(b:Bool)(G T:List Pl)(W:List Wy)(P:List Int)(i:Nat):Option Nat:=if jd b W P i < RD b G T i then none else Hj b G T W P i
def dec(o:Option Nat)(P:List Int):List Int:=match o with
 | none=>P
 | some g=>P.set g (P.getD g 0 - 1)
def cg(G T:List Pl)(W:List Wy)(P:List Int)(k:Nat):List Int:=dec (BJ true G T W P (aS true W k)) (dec (BJ false G T W P (aS false W k)) (P.set k (P.getD k 0+1)))
section
variable {G T:List Pl}{W:List Wy}{P:List Int}{b:Bool}{i k q g:Nat}{o:Option Nat}
def K5:∀l:List Nat,sm l (λ_=>0)=0
 | []=>rfl
 | q::l=>by rw[bB,K5 l];rfl
def oS:(dec o P).length=P.length:=by cases o<;>simp[dec]
def Fi:(dec o P).getD q 0=P.getD q 0 - (if o=some q/\q < P.length then 1 else 0):=by
 cases o with
 | none=>simp[dec]
 | some g =>
  show (P.set g _).getD q 0=_;rw[xl];by_cases e:g=q
  ·subst e;by_cases hl:g < P.length
   ·rw[yM ⟨rfl,hl⟩,yM ⟨rfl,hl⟩]
   ·rw[yO (λz=>hl z.2),yO (λz=>hl z.2)];lia
  ·rw[yO (λz=>e z.1),yO (λz=>e (xE z.1))];lia
def LN:(P.set k (P.getD k 0+1)).getD q 0=P.getD q 0+(if k=q/\q < P.length then 1 else 0):=by
 rw[xl];by_cases e:k=q/\q < P.length
 ·rw[yM e,yM e,e.1]
 ·rw[yO e,yO e];lia
def xg(h:Hj b G T W P i=some g):g∈lst b G T W i/\0 < vl P g:=by
 have:=List.mem_of_getLast? h;rw[List.mem_filter,zK] at this;exact this
def Gr(h:Hj b G T W P i=none):∀q∈lst b G T W i,vl P q<=0:=λq hq=>by
 unfold Hj at h;rw[List.getLast?_eq_none_iff,List.filter_eq_nil_iff] at h;have:=h q hq;rw[zK] at this;lia
def yc(h:Wd G T W)(hi:i < (bb b G T).length)(e:Hj b G T W P i=some g)(hq:q∈lst b G T W i)(hp:0 < vl P q):q∈up (lst b G T W i) g:=by
 have hn:=fO (b:=b) h hi;unfold Hj at e;let⟨ys,hys⟩:=List.getLast?_eq_some_iff.mp e;refine Classical.byContradiction λz=>?_;have hg:=(xg (b:=b) (G:=G) (T:=T) (W:=W) (P:=P) (i:=i) e).1;let⟨zs,e1,e2⟩:=uF hn hg;have hqz:q∈zs:=by
  rw[e1] at hq;rcases List.mem_append.mp hq with w|w
  ·exact absurd w z
  ·exact w
 have SO:(up (lst b G T W i) g).filter (λq=>decide (0 < vl P q))++zs.filter (λq=>decide (0 < vl P q))=ys++[g]:=by
  rw[<- List.filter_append,<- e1];exact hys
 have Q7:zs.filter (λq=>decide (0 < vl P q))≠[]:=λw=>by
  have:q∈zs.filter (λq=>decide (0 < vl P q)):=List.mem_filter.mpr ⟨hqz,yB hp⟩;rw[w] at this;cases this
 let⟨us,u,hu⟩:=List.eq_nil_or_concat (zs.filter λq=>decide (0 < vl P q)) |>.resolve_left Q7 |> λ⟨a,c,e⟩=>(⟨a,c,by simpa using e⟩:∃us u,zs.filter (λq=>decide (0 < vl P q))=us++[u])
 rw[hu,<- List.append_assoc] at SO;have hug:u=g:=by
  have:=jD List.getLast? SO;simpa using this
 subst hug;have:u∈zs:=(List.mem_filter.mp (show u∈zs.filter (λq=>decide (0 < vl P q)) by rw[hu];simp)).1;exact e2 u this (CH hg)
def Ab(h:Wd G T W)(p:Pn G T W P)(hk:k < W.length)(e:yp b G T W P k=true) :
  (jd b W P (aS b W k) < RD b G T (aS b W k)/\BJ b G T W P (aS b W k)=none)\/(jd b W P (aS b W k)=RD b G T (aS b W k)/\∃g,BJ b G T W P (aS b W k)=some g/\g∈lst b G T W (aS b W k)/\0 < vl P g/\g≠k):=by
 have hi:=jw h b hk;have hle:=p.am b _ hi;by_cases c:jd b W P (aS b W k) < RD b G T (aS b W k)
 ·exact .inl ⟨c,by unfold BJ;rw[yM c]⟩
 ·refine .inr ⟨?_,?_⟩
  ·have:jd b W P (aS b W k)<=RD b G T (aS b W k):=hle;lia
  ·have nf:¬ Fl b G T W P k:=λz=>by rw[(JZ h p b hk).mpr z] at e;cases e
   have heq:sm (lst b G T W (aS b W k)) (vl P)=RD b G T (aS b W k):=by
    rw[<- jm h hi];have:jd b W P (aS b W k)<=RD b G T (aS b W k):=hle;lia
   have hn:=fO (b:=b) h hi;let⟨ys,e1,e2⟩:=uF hn (je h b hk);have hs:sm (lst b G T W (aS b W k)) (vl P)=sm (up (lst b G T W (aS b W k)) k) (vl P)+sm ys (vl P):=by
    rw[<- A5,<- e1]
   have hy:0 < sm ys (vl P):=by
    have h1:=EG (l:=ys) λq _=>p.nn q;refine Classical.byContradiction λz=>nf ?_;unfold Fl;lia
   obtain⟨q,hq,hp⟩:∃q∈ys,0 < vl P q:=Classical.byContradiction λz=>by
    have:=xb (l:=ys) (f:=vl P) (g:=λ_=>0) λq hq=>Classical.byContradiction λw=>z ⟨q,hq,by lia⟩;have e0:=K5 ys;lia
   have Xe:q∈lst b G T W (aS b W k):=by rw[e1];exact yF _ hq
   cases hg:Hj b G T W P (aS b W k) with
   | none=>have:=Gr hg q Xe;lia
   | some g =>
    let⟨g1,g2⟩:=xg hg;refine⟨g,by unfold BJ;rw[yO c,hg],g1,g2,λz=>?_⟩;subst z;exact e2 q hq (yc h hi hg Xe hp)
def mh(h:Wd G T W)(p:Pn G T W P)(hk:k < W.length)(e:dW G T W P k=3):P.getD k 0 < (aJ W k).2.2/\∀b,yp b G T W P k=true:=by
 have hb:=(p.bd k hk).2;unfold dW at e;by_cases e1:P.getD k 0=(aJ W k).2.2
 ·rw[yM e1] at e;cases e
 ·rw[yO e1] at e;by_cases e2:yp false G T W P k=false
  ·rw[yM e2] at e;cases e
  ·rw[yO e2] at e;by_cases e3:yp true G T W P k=false
   ·rw[yM e3] at e;cases e
   ·exact⟨by lia,λb=>by
    cases b
    ·exact Bool.not_eq_false _ |>.mp e2
    ·exact Bool.not_eq_false _ |>.mp e3⟩
def eD(o:Option Nat)(q:Nat):Int:=if o=some q then 1 else 0
def lO(hn:l.Nodup):sm l (eD o)=match o with|some g=>if g∈l then 1 else 0|none=>0:=by
 induction l with
 | nil=>cases o<;>rfl
 | cons x l ih =>
  rw[kU] at hn;rw[bB,ih hn.2];cases o with
  | none=>rfl
  | some g =>
   show (if some g=some x then (1:Int) else 0)+(if g∈l then 1 else 0)=if g∈x::l then 1 else 0
   by_cases e:g=x
   ·subst e;rw[yM rfl,yO hn.1,yM zF];rfl
   ·rw[yO (λz=>e (xE z))];by_cases e2:g∈l
    ·rw[yM e2,yM (zD _ e2)];rfl
    ·rw[yO e2,yO (by rw[zR,not_or];exact⟨e,e2⟩)];rfl
def AU(l:List Nat)(f g:Nat->Int):sm l (λq=>f q+g q)=sm l f+sm l g:=by
 induction l with
 | nil=>rfl
 | cons x l ih=>rw[bB,bB,bB,ih];lia
def qb(l:List Nat)(f g:Nat->Int):sm l (λq=>f q - g q)=sm l f - sm l g:=by
 induction l with
 | nil=>rfl
 | cons x l ih=>rw[bB,bB,bB,ih];lia
abbrev g0(b:Bool)(G T:List Pl)(W:List Wy)(P:List Int)(k:Nat):Option Nat:=BJ b G T W P (aS b W k)
def BM:(cg G T W P k).length=P.length:=by unfold cg;rw[oS,oS,yD]
def Gh(hq:q < P.length):(cg G T W P k).getD q 0=P.getD q 0+eD (some k) q - eD (g0 false G T W P k) q - eD (g0 true G T W P k) q:=by
 unfold cg eD;rw[Fi,Fi,LN,oS,yD];simp?[hq,and_true,yL]
def qa:0<=eD o q:=by unfold eD;split<;>lia
def K3:eD o q<=1:=by unfold eD;split<;>lia
def il(h:Wd G T W)(p:Pn G T W P)(hk:k < W.length)(e:dW G T W P k=3)(b:Bool){g:Nat}(hg:g0 b G T W P k=some g):g < W.length/\aS b W g=aS b W k/\0 < vl P g/\g≠k:=by
 rcases Ab h p hk ((mh h p hk e).2 b) with ⟨_,z⟩|⟨_,g',z,h1,h2,h3⟩
 ·rw[show BJ b G T W P (aS b W k)=some g from hg] at z;cases z
 ·rw[show BJ b G T W P (aS b W k)=some g from hg] at z;cases z;let⟨a1,a2⟩:=(fJ h (jw h b hk)).mp h1;exact⟨a1,a2,h2,h3⟩
def Jv(h:Wd G T W)(hk:k < W.length)(hg:g < W.length)(b:Bool)(e1:aS b W g=aS b W k)(e2:aS (!b) W g=aS (!b) W k):g=k:=by
 have z:∀c,bz c (aJ W g)=bz c (aJ W k)↔aS c W g=aS c W k:=λc=>by
  have h1:=(h.Rg c hg).2.2;have h2:=(h.Rg c hk).2.2;unfold aS;lia
 refine zd (b:=b) h.wp hg hk ((z b).mpr e1) ?_;have:=(z (!b)).mpr e2;cases b<;>exact this
def G9(h:Wd G T W)(p:Pn G T W P)(hk:k < W.length)(e:dW G T W P k=3)(hg:g0 b G T W P k=some g):aS (!b) W g≠aS (!b) W k:=λz=>by
 let⟨a1,a2,_,a4⟩:=il h p hk e b hg;exact a4 (Jv h hk a1 b a2 z)
def uM(h:Wd G T W)(p:Pn G T W P)(hk:k < W.length)(e:dW G T W P k=3):Pn G T W (cg G T W P k):=by
 let⟨f1,f2⟩:=mh h p hk e;have at':∀q,q < W.length->(cg G T W P k).getD q 0=P.getD q 0+eD (some k) q - eD (g0 false G T W P k) q - eD (g0 true G T W P k) q:=λq hq=>Gh (by rw[p.len];exact hq);refine⟨by rw[BM,p.len],λq hq=>?_,λb i hi=>?_⟩
 ·rw[at' q hq];have hb:=p.bd q hq;have n0:=qa (o:=g0 false G T W P k) (q:=q);have n1:=qa (o:=g0 true G T W P k) (q:=q);have n2:=qa (o:=some k) (q:=q);constructor
  ·have one:∀b,g0 b G T W P k=some q->g0 (!b) G T W P k≠some q:=λb z1 z2=>by
    have:=G9 h p hk e z1;exact this (il h p hk e (!b) z2).2.1
   unfold eD at n0 n1 ⊢;by_cases c0:g0 false G T W P k=some q
   ·have:=(il h p hk e false c0).2.2.1;rw[yM c0,yO (show ¬ g0 true G T W P k=some q from one false c0)];have:0 < P.getD q 0:=this;split<;>lia
   ·rw[yO c0];by_cases c1:g0 true G T W P k=some q
    ·have:=(il h p hk e true c1).2.2.1;have:0 < P.getD q 0:=this;rw[yM c1];split<;>lia
    ·rw[yO c1];split<;>lia
  ·by_cases c:k=q
   ·subst c;have:=K3 (o:=some k) (q:=k);lia
   ·have:eD (some k) q=0:=by unfold eD;rw[yO (λz=>c (xE z))]
    lia
 ·have hn:=fO (b:=b) h hi;rw[jm h hi];have hle:sm (lst b G T W i) (vl (cg G T W P k))<=sm (lst b G T W i) (λq=>vl P q+eD (some k) q - eD (g0 b G T W P k) q):=xb λq hq=>by
   have Xf:=((fJ h hi).mp hq).1;show (cg G T W P k).getD q 0<=_;rw[at' q Xf];have n0:=qa (o:=g0 false G T W P k) (q:=q);have n1:=qa (o:=g0 true G T W P k) (q:=q);show _<=P.getD q 0+eD (some k) q - eD (g0 b G T W P k) q;cases b<;>lia
  have e1:sm (lst b G T W i) (λq=>vl P q+eD (some k) q - eD (g0 b G T W P k) q)=sm (lst b G T W i) (vl P)+sm (lst b G T W i) (eD (some k)) - sm (lst b G T W i) (eD (g0 b G T W P k)):=by
   rw[qb,AU]
  rw[e1,lO hn,lO hn] at hle;have ha:=p.am b i hi;rw[jm h hi] at ha;have hA:(dg b G T i).1=RD b G T i:=rfl;by_cases c:aS b W k=i
  ·subst c;have Yx:=je h b hk;rcases Ab h p hk (f2 b) with ⟨z1,z2⟩|⟨z1,g,z2,z3,_,_⟩
   ·rw[show g0 b G T W P k=none from z2] at hle;rw[jm h hi] at z1;simp?[Yx,xI] at hle;lia
   ·rw[show g0 b G T W P k=some g from z2] at hle;rw[jm h hi] at z1;simp?[Yx,z3,xI] at hle;lia
  ·have Yx:¬ k∈lst b G T W i:=λz=>c ((fJ h hi).mp z).2;simp?[Yx,qQ] at hle;have:0<=(match g0 b G T W P k with|some g=>if g∈lst b G T W i then (1:Int) else 0|none=>0):=by
    split
    ·split<;>lia
    ·lia
   lia
end
section
variable {G T:List Pl}{W:List Wy}{P c:List Int}{b:Bool}{i k g:Nat}
def Qc{l:List D}{x:D}(h:l.getLast?=some x):az (.list l) (.int (-1))=some x:=by
 have hn:0 < l.length:=by
  cases l with
  | nil=>cases h
  | cons _ _=>simp
 show pI l (-1)=_;unfold pI Dh;rw[yO (by lia),yM (by lia),zA,show ((-1:Int)+(l.length:Int)).toNat=l.length - 1 by lia,<- List.getLast?_eq_getElem?];exact h
def Br(h:Wd G T W)(hi:i < (bb b G T).length):(lst b G T W i).length<=16:=by
 have hw:=h.wl;rw[(mD h hi).length_eq];refine yE (xQ _ _) ?_;rw[zS];exact hw
def JA(h:Wd G T W)(hp:P.length=W.length)(hi:i < (bb b G T).length)(hg:Hj b G T W P i=some g):cf [aI G T W,af P,.int (sI b),nD i]=some (nD g):=by
 have hll:=Br h hi;refine aX ?_;show bU [.val (aI G T W),.val (af P),.val (.int (sI b)),.val (nD i)]=_;unfold bU;have c:aw 1 [1] YN (fG 0) YO (ae 0) [some (aI G T W),some (af P),some (.int (sI b)),some (nD i)]=some (((lst b G T W i).filter λq=>decide (0 < vl P q)).map nD) :=
  p4 (HG (call_of (sC h (pf hi)) rfl rfl)) (by show (lst b G T W i).length<=1000;lia) λq hq=>⟨aN (ar (eA _ _) (ar (lG (by rw[hp];exact ((fJ h hi).mp hq).1)) rfl rfl) rfl),λ_=>rfl⟩
 refine aW (ar (a:=.list (((lst b G T W i).filter λq=>decide (0 < vl P q)).map nD)) (b:=.int (-1)) (Qc ?_) ?_ rfl)
 ·rw[List.getLast?_map];unfold Hj at hg;rw[hg];rfl
 ·show cZ _ [some (aI G T W),some (af P),some (.int (sI b)),some (nD i)]=_;simp?[cZ,c,zC]
def BQ(h:Wd G T W)(hk:k < W.length)(b:Bool):az (ax (aJ W k)) (.int (sI b))=some (nD (aS b W k)):=by
 rw[mH,<- (h.Rg b hk).2.2];rfl
def LF(h:Wd G T W)(hi:i < (bb b G T).length){fw fb fi:Dl.Env->Option D}{ρ:Dl.Env}(hw:fw ρ=some (aI G T W))(hb:fb ρ=some (.int (sI b)))(hf:fi ρ=some (nD i)):f2 az (f2 az (f2 az fw fb) fi) (fC (.int 0)) ρ=some (.int (RD b G T i)) :=
 ar (a:=bc (dg b G T i)) (b:=.int 0) rfl (ar (iG (f:=bc) (l:=bb b G T) (pf hi)) (ar (oO b G T W) hw hb) hf) rfl
def PF:ao->Option Out:=YW
abbrev MH(G T:List Pl)(W:List Wy)(P:List Int)(k:Nat)(c:List Int)(x4 x5 x6:Slot):ao:=[.val (aI G T W),.val (af P),.val (nD k),.val (af c),x4,x5,x6]
def BZ(h:Wd G T W)(p:Pn G T W P)(hk:k < W.length)(e:dW G T W P k=3)(b:Bool)(hc:c.length=W.length){x5 x6:Slot}:∃y5 y6,PF (MH G T W P k c (.val (.int (sI b))) x5 x6)=some (.nx (MH G T W P k (dec (g0 b G T W P k) c) (.val (.int (sI b))) y5 y6)):=by
 have hw:=h.wl;have hi:=jw h b hk;have hs:=p.Xx h;unfold PF;have s1:∀ρ:Dl.Env,ae 0 ρ=some (aI G T W)->ae 2 ρ=some (nD k)->ae 4 ρ=some (.int (sI b))->f2 az W2 (ae 4) ρ=some (nD (aS b W k)):=λρ a0 a2 a4 =>
  ar (BQ h hk b) (ar (iG (f:=ax) (l:=W) (by simp[aJ,hk])) (ar (tN G T W) a0 rfl) a2) a4
 have t:∀ρ:Dl.Env,ae 0 ρ=some (aI G T W)->ae 1 ρ=some (af P)->ae 4 ρ=some (.int (sI b))->ae 5 ρ=some (nD (aS b W k))->fB YU ρ=some (decide (jd b W P (aS b W k)=RD b G T (aS b W k))):=λρ a0 a1 a4 a5 =>
  aN (ar (bO _ _) (call_of (nJ h p.len hs b _) (cons_of a0 (cons_of a1 (cons_of a4 (cons_of a5 rfl)))) rfl) (LF h hi a0 a4 a5))
 rcases Ab h p hk ((mh h p hk e).2 b) with ⟨z1,z2⟩|⟨z1,g,z2,z3,_,_⟩
 ·refine⟨.val (nD (aS b W k)),x6,(aj (bI (s1 _ rfl rfl rfl) (s1 _ rfl rfl rfl) rfl)).trans ?_⟩;refine (ba ((t _ rfl rfl rfl rfl).trans (by rw[yA (by lia)]))).trans ?_;show _=some (Out.nx (MH G T W P k (dec (BJ b G T W P (aS b W k)) c) _ _ x6));rw[z2];rfl
 ·refine⟨.val (nD (aS b W k)),.val (nD g),(aj (bI (s1 _ rfl rfl rfl) (s1 _ rfl rfl rfl) rfl)).trans ?_⟩;refine (fH ((t _ rfl rfl rfl rfl).trans (by rw[yB z1]))).trans ?_;have hg:Hj b G T W P (aS b W k)=some g:=by
   unfold BJ at z2;rw[yO (by lia)] at z2;exact z2
  have hgW:=((fJ h hi).mp z3).1;have e6:=JA h p.len hi hg;refine (aj (bI (call_of e6 rfl rfl) (call_of e6 rfl rfl) rfl)).trans ?_;have e3:∀ρ:Dl.Env,ae 3 ρ=some (af c)->ae 6 ρ=some (nD g)->ai 3 dh YV ρ=some (af (c.set g (c.getD g 0 - 1))):=λρ a3 a6 =>
   call_of (pG (by lia) (by lia)) (cons_of a3 (cons_of a6 (cons_of (ar (sub_int _ _) (ar (lG (by lia)) a3 a6) rfl) rfl))) rfl
  refine (bI (e3 _ rfl rfl) (e3 _ rfl rfl) rfl).trans ?_;show _=some (Out.nx (MH G T W P k (dec (BJ b G T W P (aS b W k)) c) _ _ (.val (nD g))));rw[z2];rfl
def n9(h:Wd G T W)(p:Pn G T W P)(hk:k < W.length)(e:dW G T W P k=3):cC [aI G T W,af P,nD k]=some (af (cg G T W P k)):=by
 have hw:=h.wl;have hp:=p.len;refine aX ?_;show (aq YR (aq (dB [] YS (td 4) PF) (aO (ae 3)))) (MH G T W P k P .QK .QK .QK |>.set 3 .QK)=_;have e0:∀ρ:Dl.Env,ae 1 ρ=some (af P)->ae 2 ρ=some (nD k)->ai 3 dh YQ ρ=some (af (P.set k (P.getD k 0+1))):=λρ a1 a2 =>
  call_of (pG (by lia) (by lia)) (cons_of a1 (cons_of a2 (cons_of (ar (a:=.int (P.getD k 0)) (b:=.int 1) rfl (ar (lG (by lia)) a1 a2) rfl) rfl))) rfl
 refine (aj (bI (e0 _ rfl rfl) (e0 _ rfl rfl) rfl)).trans ?_;let⟨y5,y6,q1⟩:=BZ (c:=P.set k (P.getD k 0+1)) (x5:=.QK) (x6:=.QK) h p hk e false (by rw[yD];exact hp);let⟨z5,z6,q2⟩:=BZ (c:=dec (g0 false G T W P k) (P.set k (P.getD k 0+1))) (x5:=y5) (x6:=y6) h p hk e true (by rw[oS,yD];exact hp);refine (aj (cx (ds:=[.int 0,.int 1]) ((cn (ρ1:=MH G T W P k (P.set k (P.getD k 0+1)) (.val (.int (sI false))) .QK .QK) rfl q1).trans ((cn (ρ1:=MH G T W P k (dec (g0 false G T W P k) (P.set k (P.getD k 0+1))) (.val (.int (sI true))) y5 y6) rfl q2).trans rfl)) rfl rfl)).trans ?_;exact aW rfl
end
section
variable {G T:List Pl}{W:List Wy}{P c:List Int}{b:Bool}{i k g:Nat}
def xm(G T:List Pl)(W:List Wy)(s:List (List Int)):Option (List (List Int)):=match s.getLast? with
 | none=>none
 | some P=>match (iu G T W P).head? with
  | none=>none
  | some k=>if cg G T W P k∈s then none else some (s++[cg G T W P k])
def Eb(G T:List Pl)(W:List Wy):Nat->List (List Int)->List (List Int)
 | 0,s=>s
 | n+1,s=>match xm G T W s with
  | none=>s
  | some s'=>Eb G T W n s'
abbrev gw(G T:List Pl)(W:List Wy)(P:List Int):List (List Int):=Eb G T W Rf.turns [P]
def pL{S:Type}{t:Dl.Env->Option Bool}{gb:ao->Option Out}{f:Dl.Env->Option D}(Rel:S->ao->Prop)(nx:S->Option S)(wl:Nat->S->S)(fin:S->D)(μ:S->Nat)(w0:∀s n,nx s=none->wl (n+1) s=s)(w1:∀s n s',nx s=some s'->wl (n+1) s=wl n s')
  (hA:∀s ρ,Rel s ρ->nx s=none->(t (aP ρ)=some false/\f (aP ρ)=some (fin s))\/(t (aP ρ)=some true/\gb ρ=some (.rt (fin s))))
  (hB:∀s ρ s',Rel s ρ->nx s=some s'->t (aP ρ)=some true/\(∃ρ',gb ρ=some (.nx ρ')/\Rel s' ρ')/\μ s' < μ s) :
  ∀ (n:Nat) (s:S) (ρ:ao),Rel s ρ->μ s < n->aq (Ed t gb n) (aO f) ρ=some (.rt (fin (wl n s)))
 | 0,_,_,_,h=>absurd h (vO _)
 | n+1,s,ρ,hr,hm=>by
  cases e:nx s with
  | none =>
   rw[w0 s n e];rcases hA s ρ hr e with ⟨h1,h2⟩|⟨h1,h2⟩
   ·unfold aq;rw[Ed,h1,zA,yO (by simp),zA];exact aW h2
   ·unfold aq;rw[Ed,h1,zA,yM rfl,h2];rfl
  | some s' =>
   let⟨h1,⟨ρ',h2,h3⟩,h4⟩:=hB s ρ s' hr e;rw[w1 s n s' e,<- pL Rel nx wl fin μ w0 w1 hA hB n s' ρ' h3 (by lia)];unfold aq;rw[Ed,h1,zA,yM rfl,h2];rfl
def za{s:List (List Int)}{n:Nat}(h:xm G T W s=none):Eb G T W (n+1) s=s:=by rw[Eb,h]
def v7{s s':List (List Int)}{n:Nat}(h:xm G T W s=some s'):Eb G T W (n+1) s=Eb G T W n s':=by rw[Eb,h]
def yv:∀ {L l:List (List Int)},l.Nodup->(∀x∈l,x∈L)->l.length<=L.length
 | _,[],_,_=>xW _
 | L,x::l,hn,h=>by
  rw[kU] at hn;have hx:=h x zF;have:=yv (L:=L.erase x) (l:=l) hn.2 λy hy=>(List.mem_erase_of_ne (show y≠x fromλz=>hn.1 (z ▸ hy))).mpr (h y (zD _ hy));rw[List.length_erase_of_mem hx] at this;have:0 < L.length:=List.length_pos_of_mem hx;rw[zM];lia
def M4:Nat->List (List Int)
 | 0=>[[]]
 | n+1=>(M4 n).flatMap λr=>[0::r,1::r,2::r]
def BO:∀n,(M4 n).length=3 ^ n
 | 0=>rfl
 | n+1=>by
  rw[M4,List.length_flatMap];simp?[zM,xM];rw[List.map_const',List.sum_replicate_nat,BO n,Nat.pow_succ]
def Cm:∀ {r:List Int},(∀x∈r,0<=x/\x<=2)->r∈M4 r.length
 | [],_=>List.mem_singleton.mpr rfl
 | x::r,h=>by
  have ih:=Cm (r:=r) λy hy=>h y (zD _ hy);have hx:=h x zF;rw[zM,M4,List.mem_flatMap];refine⟨r,ih,?_⟩;simp?[zR,kW,and_true,yG,xV];lia
structure zc(G T:List Pl)(W:List Wy)(s:List (List Int)):Prop where
 ne:s≠[]
 pn:∀P∈s,Pn G T W P
 nd:s.Nodup
def zc.few(f:zc G T W s)(h2:∀w∈W,w.2.2<=2)(hw:W.length<=9):s.length<=19683:=by
 have:=yv (L:=M4 W.length) f.nd λP hP=>by
  have p:=f.pn P hP;rw[<- p.len];refine Cm λx hx=>?_;let⟨q,hq,rfl⟩:=qS hx;have Xf:q < W.length:=by rw[<- p.len];exact hq
  have hb:=p.bd q Xf;have hl:=h2 _ (lU Xf);rw[zH,zL hq,qH] at hb;lia
 rw[BO] at this;refine yE this ?_;exact Nat.pow_le_pow_right (by lia) hw
def me(e:(iu G T W P).head?=some k):k < W.length/\dW G T W P k=3:=by
 have:=List.mem_of_mem_head? e;unfold iu at this;rw[List.mem_filter,zT,zK] at this;exact this
def oK(h:Wd G T W)(f:zc G T W s)(e:xm G T W s=some s'):∃P k,s.getLast?=some P/\Pn G T W P/\(iu G T W P).head?=some k/\¬ cg G T W P k∈s/\s'=s++[cg G T W P k]/\zc G T W s':=by
 unfold xm at e;cases e1:s.getLast? with
 | none=>rw[e1] at e;cases e
 | some P =>
  rw[e1] at e;have p:=f.pn P (List.mem_of_getLast? e1);simp only at e;cases e2:(iu G T W P).head? with
  | none=>rw[e2] at e;cases e
  | some k =>
   rw[e2] at e;simp only at e;by_cases c:cg G T W P k∈s
   ·rw[yM c] at e;cases e
   ·rw[yO c] at e;cases e;let⟨hk,hy⟩:=me e2;refine⟨P,k,rfl,p,e2,c,rfl,by simp,λX hX=>?_,?_⟩
    ·rcases List.mem_append.mp hX with z|z
     ·exact f.pn X z
     ·rw[List.mem_singleton.mp z];exact uM h p hk hy
    ·rw[wM];exact⟨f.nd,by simp,λa ha b hb z=>c (by rw[List.mem_singleton.mp hb] at z;exact z ▸ ha)⟩
def BF(f:zc G T W s)(e:xm G T W s=none):∃P,s.getLast?=some P/\Pn G T W P/\((iu G T W P).head?=none\/∃k,(iu G T W P).head?=some k/\cg G T W P k∈s):=by
 unfold xm at e;cases e1:s.getLast? with
 | none=>exact absurd (List.getLast?_eq_none_iff.mp e1) f.ne
 | some P =>
  rw[e1] at e;have p:=f.pn P (List.mem_of_getLast? e1);refine⟨P,rfl,p,?_⟩;simp only at e;cases e2:(iu G T W P).head? with
  | none=>exact .inl rfl
  | some k =>
   rw[e2] at e;simp only at e;by_cases c:cg G T W P k∈s
   ·exact .inr ⟨k,rfl,c⟩
   ·rw[yO c] at e;cases e
def Ae(h:Wd G T W):∀ (n:Nat) {s:List (List Int)},zc G T W s->zc G T W (Eb G T W n s)
 | 0,s,f=>f
 | n+1,s,f=>by
  cases e:xm G T W s with
  | none=>rw[za e];exact f
  | some s' =>
   let⟨_,_,_,_,_,_,_,f'⟩:=oK h f e;rw[v7 e];exact Ae h n f'
def LC(o:Option Nat):D:=match o with
 | some k=>nD k
 | none=>.none
def IH(h:Wd G T W)(p:Pn G T W P):aY [aI G T W,af P]=some (LC (iu G T W P).head?):=by
 rw[iT h p.len (p.Xx h)];unfold iu;rw[List.head?_filter];rfl
def Cu(o:Option Nat):o7 (LC o) .none=some (.bool o.isSome):=by cases o<;>rfl
def mO{l:List (List Int)}{P:List Int}(h:l.getLast?=some P):az (.list (l.map af)) (.int (-1))=some (af P):=Qc (by rw[List.getLast?_map,h];rfl)
def gS{i:Nat}{fz:List Nat}{f:Dl.Env->Option D}{ρ:ao}{l:List Int}(hA:f (aP ρ)=some (af l))(hF:f (bx (hand fz 0 ρ))=some (af l)):Dl.aE i fz f ρ=some (.nx (ρ.set i (.val (af l)))):=by
 have hn:jf (af l)=true:=by
  show pD (l.map PyData.int)=true;clear hA hF
  induction l with
  | nil=>rfl
  | cons x l ih=>exact ih
 simp?[Dl.aE,hA,zA,show Dl.mM (af l)=false from rfl,yP,qQ,hF,zC,hn,xI]
end
section
variable {G T:List Pl}{W:List Wy}{P c:List Int}{b:Bool}{i k g:Nat}{s:List (List Int)}
def HY{i:Nat}{fz:List Nat}{f:Dl.Env->Option D}{ρ:ao}{d:D}{ds:List D}(hA:f (aP ρ)=some d)(hF:f (bx (hand fz 0 ρ))=some d)(hh:hand fz 0 ρ=ρ)(ho:ρ[i]?=some (.own ds))(hl:ds.length < sizeLine):l7 i fz f ρ=some (.nx (ρ.set i (.own (ds++[d])))):=by
 rw[hh] at hF;unfold l7 nX;rw[hA,zA];split
 ·simp?[zA,oJ,ho,yM hl,zC]
 ·simp?[hh,hF,zC,zA,oJ,ho,yM hl]
def CA{i j:Nat}{g1 g2:ao->Option Out}{ρ:ao}{r:List Int}(h1:ρ[i]?=some (.val (af r)))(h2:ρ[j]?=some (.tab ks)):rX i j g1 g2 ρ=if ks.contains r=true then g1 ρ else g2 ρ:=by
 unfold rX;rw[h1,h2,show Aq (some (.val (af r)))=some r from aV r,show tabS (some (.tab ks))=some ks from rfl];rfl
def I0{j i:Nat}{f:Dl.Env->Option D}{ρ:ao}{r:List Int}{d:D}(h1:ρ[i]?=some (.val (af r)))(h2:ρ[j]?=some (.tab ks))(hf:f (aP ρ)=some d)(hs:Dl.mM d=true)(hl:ks.length < sizeLine)(hn:ks.contains r=false):pw j i f ρ=some (.nx (ρ.set j (.tab (ks++[r])))):=by
 unfold pw;rw[h1,h2,show Aq (some (.val (af r)))=some r from aV r,show tabS (some (.tab ks))=some ks from rfl,zA,zA,hf,zA,hs,yB hl,hn];rfl
def B1(o:Option Nat):Dl.mM (LC o)=true:=by cases o<;>rfl
def gY{l:List (List Int)}{r:List Int}(h:¬ r∈l):l.contains r=false:=by
 rw[Bool.eq_false_iff];exactλz=>h (List.contains_iff_mem.mp z)
def Hg(G T:List Pl)(W:List Wy)(s:List (List Int)):Option Nat:=s.getLast?.bind λP=>(iu G T W P).head?
def Pi:ao->Option Out:=(aq VG (aq (rX 5 3 T5 cT) (aq (l7 2 [5] (ae 5)) (aq (pw 3 5 (fC (.bool true))) VH))))
abbrev Oa(G T:List Pl)(W:List Wy)(P:List Int)(s:List (List Int))(x4 x5:Slot):ao:=[.val (aI G T W),.val (af P),.own (s.map af),.tab s,x4,x5]
def E3:19683 < sizeLine:=by rw[qV];decide
def BI(h:Wd G T W){X:List Int}(p:Pn G T W X)(e1:s.getLast?=some X)(e2:(iu G T W X).head?=some k){x5:Slot}:Dl.aE 5 [0,2,4] VF (Oa G T W P s (.val (nD k)) x5)=some (.nx (Oa G T W P s (.val (nD k)) (.val (af (cg G T W X k))))):=by
 let⟨hk,hy⟩:=me e2;have hc:∀ρ:Dl.Env,ae 0 ρ=some (aI G T W)->ae 2 ρ=some (.list (s.map af))->ae 4 ρ=some (nD k)->ai 3 cC VE ρ=some (af (cg G T W X k)):=λρ a0 a2 a4 =>
  call_of (n9 h p hk hy) (cons_of a0 (cons_of (ar (b:=.int (-1)) (mO e1) a2 rfl) (cons_of a4 rfl))) rfl
 exact gS (hc _ rfl rfl rfl) (hc _ rfl rfl rfl)
def ui(h:Wd G T W)(p:Pn G T W P)(h2:∀w∈W,w.2.2<=2)(hw:W.length<=9):da [aI G T W,af P]=some (.list ((gw G T W P).map af)):=by
 refine aX ?_;show (aq UE (aq (bo 2 [1] (gu YC)) (aq (tj 3 1 (fC (.bool true))) (aq YX (aq (Ed Xc Pi Rf.turns) T5))))) [.val (aI G T W),.val (af P),.QK,.QK,.QK,.QK]=_;refine (aj (lR (call_of (ft h p) rfl rfl))).trans ?_;refine (aj (Dc (ds:=[af P]) rfl rfl)).trans ?_;have e3:tj 3 1 (fC (.bool true)) [.val (aI G T W),.val (af P),.own [af P],.QK,.QK,.QK]=some (.nx [.val (aI G T W),.val (af P),.own [af P],.tab [P],.QK,.QK]):=by
  unfold tj;rw[show Aq ([Slot.val (aI G T W),Slot.val (af P),Slot.own [af P],Slot.QK,Slot.QK,Slot.QK][1]?)=some P from aV P];rfl
 refine (aj e3).trans ?_;have e4:∀X,Pn G T W X->∀ρ:Dl.Env,∀f:Dl.Env->Option D,ae 0 ρ=some (aI G T W)->f ρ=some (af X)->ai 2 aY (aa (ae 0) (aa f ah)) ρ=some (LC (iu G T W X).head?):=λX hX ρ f a0 a1=>call_of (IH h hX) (cons_of a0 (cons_of a1 rfl)) rfl;refine (aj (cq (e4 P p _ _ rfl rfl) (B1 _))).trans ?_;have f0:zc G T W [P]:=⟨by simp,λX hX=>by rw[List.mem_singleton.mp hX];exact p,by simp⟩
 refine pL (S:=List (List Int)) (λs ρ=>zc G T W s/\∃x5,ρ=Oa G T W P s (.val (LC (Hg G T W s))) x5) (xm G T W) (Eb G T W) (λs=>.list (s.map af)) (λs=>19684 - s.length) (λs n=>za) (λs n s'=>v7) ?_ ?_ Rf.turns [P] _ ⟨f0,.QK,rfl⟩ (by show 19684 - 1 < 1000000;lia)
 ·rintro s ρ ⟨f,x5,rfl⟩ e;let⟨X,e1,hX,e2⟩:=BF f e;have hd:Hg G T W s=(iu G T W X).head?:=by unfold Hg;rw[e1];rfl
  have t:∀x5,Xc (aP (Oa G T W P s (.val (LC (Hg G T W s))) x5))=some (Hg G T W s).isSome:=λx5=>aN (ar (Cu _) rfl rfl);rcases e2 with e2|⟨k,e2,hm⟩
  ·exact .inl ⟨(t x5).trans (by rw[hd,e2];rfl),rfl⟩
  ·refine .inr ⟨(t x5).trans (by rw[hd,e2];rfl),?_⟩;rw[hd,e2];unfold Pi;refine (aj (BI h hX e1 e2)).trans (IF ?_);rw[CA (r:=cg G T W X k) (ks:=s) rfl rfl,yM (List.contains_iff_mem.mpr hm)];exact aW rfl
 ·rintro s ρ s' ⟨f,x5,rfl⟩ e;let⟨X,k,e1,hX,e2,hm,rfl,f'⟩:=oK h f e;have hd:Hg G T W s=some k:=by unfold Hg;rw[e1];exact e2
  have hl:=f'.few h2 hw;rw[zO,xD] at hl;have hb:=E3;let⟨hk,hy⟩:=me e2;refine⟨(aN (ar (Cu _) rfl rfl)).trans (by rw[hd];rfl),⟨Oa G T W P (s++[cg G T W X k]) (.val (LC (Hg G T W (s++[cg G T W X k])))) (.val (af (cg G T W X k))),?_,f',_,rfl⟩,by rw[zO,xD];lia⟩;rw[hd];unfold Pi;refine (aj (BI h hX e1 e2)).trans ?_;refine (aj ((CA (r:=cg G T W X k) (ks:=s) rfl rfl).trans (by rw[yO (by rw[gY hm];simp)];rfl))).trans ?_;refine (aj (HY (ds:=s.map af) (d:=af (cg G T W X k)) rfl rfl rfl rfl (by rw[zE];lia))).trans ?_;refine (aj (I0 (r:=cg G T W X k) (ks:=s) (d:=.bool true) rfl rfl rfl rfl (by lia) (gY hm))).trans ?_;refine (cq (e4 _ (uM h hX hk hy) _ _ rfl rfl) (B1 _)).trans ?_;have e5:Hg G T W (s++[cg G T W X k])=(iu G T W (cg G T W X k)).head?:=by unfold Hg;rw[List.getLast?_concat];rfl
  rw[e5];show some (Out.nx [_,_,Slot.own (s.map af++[af (cg G T W X k)]),_,_,_])=some (Out.nx [_,_,Slot.own ((s++[cg G T W X k]).map af),_,_,_]);rw[jB];rfl
def qf(G T:List Pl)(W:List Wy)(P:List Int):List Int:=(gw G T W P).getLast?.getD []
def uS(h:Wd G T W)(p:Pn G T W P):(gw G T W P).getLast?=some (qf G T W P)/\Pn G T W (qf G T W P):=by
 have f:zc G T W (gw G T W P):=Ae h _ ⟨by simp,λX hX=>by rw[List.mem_singleton.mp hX];exact p,by simp⟩;unfold qf;cases e:(gw G T W P).getLast? with
 | none=>exact absurd (List.getLast?_eq_none_iff.mp e) f.ne
 | some X=>exact⟨rfl,f.pn X (List.mem_of_getLast? e)⟩
def uY(h:Wd G T W)(p:Pn G T W P)(h2:∀w∈W,w.2.2<=2)(hw:W.length<=9):aH [aI G T W,af P]=some (.bool (decide (iu G T W (qf G T W P)=[]))):=by
 let⟨e1,q⟩:=uS h p;refine aX ?_;show cX [.val (aI G T W),.val (af P)]=_;unfold cX;exact aW (call_of (pF h q.len (q.Xx h)) (cons_of rfl (cons_of (ar (b:=.int (-1)) (mO e1) (call_of (ui h p h2 hw) rfl rfl) rfl) rfl)) rfl)
end
def Kh:∀ {l:List Nat}{k g q:Nat},g∈up l k->q∈up l g->q∈up l k
 | [],k,g,q,h,_=>by cases h
 | a::l,k,g,q,h,h2=>by
  by_cases ek:k=a
  ·subst ek;rw[ke] at h ⊢;obtain rfl:=List.mem_singleton.mp h
   rwa [ke] at h2
  ·rw[kf ek] at h ⊢;by_cases eg:g=a
   ·subst eg;rw[ke] at h2;rw[List.mem_singleton.mp h2];exact zF
   ·rw[kf eg] at h2;rcases List.mem_cons.mp h2 with z|z
    ·rw[z];exact zF
    ·rcases List.mem_cons.mp h with y|y
     ·exact absurd y eg
     ·exact zD _ (Kh y z)
def Aw(h:Wd G T W)(p:Pn G T W P)(hk:k < W.length)(e:yp b G T W P k=true){g:Nat}(hg:g0 b G T W P k=some g):¬ g∈up (lst b G T W (aS b W k)) k:=λhm=>by
 have hi:=jw h b hk;have hle:=p.am b _ hi;have hg:BJ b G T W P (aS b W k)=some g:=hg;unfold BJ at hg;by_cases c:jd b W P (aS b W k) < RD b G T (aS b W k)
 ·rw[yM c] at hg;cases hg
 rw[yO c] at hg;have nf:¬ Fl b G T W P k:=λz=>by rw[(JZ h p b hk).mpr z] at e;cases e
 have heq:sm (lst b G T W (aS b W k)) (vl P)=RD b G T (aS b W k):=by
  rw[<- jm h hi];have:jd b W P (aS b W k)<=RD b G T (aS b W k):=hle;lia
 let⟨ys,e1,e2⟩:=uF (fO (b:=b) h hi) (je h b hk);have hs:sm (lst b G T W (aS b W k)) (vl P)=sm (up (lst b G T W (aS b W k)) k) (vl P)+sm ys (vl P):=by rw[<- A5,<- e1]
 have hy:0 < sm ys (vl P):=by
  have h1:=EG (l:=ys) λq _=>p.nn q;refine Classical.byContradiction λz=>nf ?_;unfold Fl;lia
 obtain⟨q,hq,hp⟩:∃q∈ys,0 < vl P q:=Classical.byContradiction λz=>by
  have:=xb (l:=ys) (f:=vl P) (g:=λ_=>0) λq hq=>Classical.byContradiction λw=>z ⟨q,hq,by lia⟩;have e0:=K5 ys;lia
 have Xe:q∈lst b G T W (aS b W k):=by rw[e1];exact yF _ hq
 exact e2 q hq (Kh hm (yc h hi hg Xe hp))
def Bw{f f':Nat->Int}:∀ {l:List Nat}{k:Nat},k∈l->(∀q∈up l k,q≠k->f' q=f q)->f k < f' k->HT.lexLt (l.map f) (l.map f')=true
 | [],k,h,_,_=>by cases h
 | a::l,k,h,hu,hk=>by
  rw[zJ,zJ,HT.cD];by_cases e:k=a
  ·subst e;rw[yO (by lia)];exact yB hk
  ·rw[kf e] at hu;rw[yM (hu a zF (jN e)).symm];exact Bw (by rcases List.mem_cons.mp h with z|z;exact absurd z e;exact z) (λq hq=>hu q (zD _ hq)) hk
def tU(h:Wd G T W)(p:Pn G T W P)(hq:q < W.length):vl (cg G T W P k) q=vl P q+eD (some k) q - eD (g0 false G T W P k) q - eD (g0 true G T W P k) q:=Gh (by rw[p.len];exact hq)
def uT{o:Option Nat}(h:o≠some q):eD o q=0:=yO h
def Cd(h:Wd G T W)(p:Pn G T W P)(hk:k < W.length)(e:dW G T W P k=3):vl (cg G T W P k) k=vl P k+1:=by
 rw[tU h p hk,uT λz=>(il h p hk e false z).2.2.2 rfl,uT λz=>(il h p hk e true z).2.2.2 rfl];unfold eD;rw[yM rfl];lia
def II(h:Wd G T W)(p:Pn G T W P)(hk:k < W.length)(e:dW G T W P k=3)(b:Bool):HT.lexLt ((lst b G T W (aS b W k)).map (vl P)) ((lst b G T W (aS b W k)).map (vl (cg G T W P k)))=true:=by
 have hi:=jw h b hk;have hw:=(mh h p hk e).2;refine Bw (je h b hk) (λq hq Q7=>?_) (by rw[Cd h p hk e];lia);have Xe:=(fJ h hi).mp (EU hq);have z:∀c,eD (g0 c G T W P k) q=0:=λc=>uT λz=>by
  by_cases hc:c=b
  ·subst hc;exact Aw h p hk (hw c) z hq
  ·have:b=!c:=by cases b<;>cases c<;>first|rfl|exact absurd rfl hc
   have ne:=G9 h p hk e z;rw[<- this] at ne;exact ne Xe.2
 rw[tU h p Xe.1,z,z,uT λz=>Q7 (by cases z;rfl)];lia
def Iz(h:Wd G T W)(p:Pn G T W P)(hk:k < W.length)(e:dW G T W P k=3)(b:Bool):sm (lst b G T W (aS b W k)) (vl P)<=sm (lst b G T W (aS b W k)) (vl (cg G T W P k)):=by
 have hi:=jw h b hk;have hn:=fO (b:=b) h hi;have e1:sm (lst b G T W (aS b W k)) (vl (cg G T W P k))=sm (lst b G T W (aS b W k)) (λq=>vl P q+eD (some k) q - eD (g0 false G T W P k) q - eD (g0 true G T W P k) q):=by
  unfold sm
  congr 1
  exact yI λq hq=>tU h p ((fJ h hi).mp hq).1
 have s1:sm (lst b G T W (aS b W k)) (eD (some k))=1:=by rw[lO hn];exact yM (je h b hk)
 have s2:sm (lst b G T W (aS b W k)) (eD (g0 (!b) G T W P k))=0:=by
  rw[lO hn];cases z:g0 (!b) G T W P k with
  | none=>rfl
  | some g =>
   refine yO λhm=>?_;have:=G9 h p hk e z;rw[Bool.not_not] at this;exact this ((fJ h hi).mp hm).2
 have s3:sm (lst b G T W (aS b W k)) (eD (g0 b G T W P k))<=1:=by
  rw[lO hn];cases g0 b G T W P k with
  | none=>exact (by decide:(0:Int)<=1)
  | some g=>show (if _ then (1:Int) else 0)<=1;split<;>decide
 have e2:=qb (lst b G T W (aS b W k)) (λq=>vl P q+eD (some k) q - eD (g0 false G T W P k) q) (eD (g0 true G T W P k));have e3:=qb (lst b G T W (aS b W k)) (λq=>vl P q+eD (some k) q) (eD (g0 false G T W P k));have e4:=AU (lst b G T W (aS b W k)) (vl P) (eD (some k));rw[e1,e2,e3,e4];cases b<;>simp?[Bool.not_false,xZ] at s2<;>lia
def Jg(h:Wd G T W)(p:Pn G T W P)(hk:k < W.length)(e:dW G T W P k=3):(cg G T W P k).sum - P.sum<=1/\-1<=(cg G T W P k).sum - P.sum:=by
 have UL:∀ {X:List Int},X.length=W.length->X.sum=sm (List.range W.length) (vl X):=λ{X} hX=>by
  unfold sm vl
  congr 1
  refine jI (by rw[zE,zS,hX]) λi h1 h2=>?_;rw[List.getElem_map,List.getElem_range,zH,zL h1];rfl
 rw[UL (BM.trans p.len),UL p.len];have e1:sm (List.range W.length) (vl (cg G T W P k))=sm (List.range W.length) (λq=>vl P q+eD (some k) q - eD (g0 false G T W P k) q - eD (g0 true G T W P k) q):=by
  unfold sm
  congr 1
  exact yI λq hq=>tU h p (List.mem_range.mp hq)
 have sb:∀o,0<=sm (List.range W.length) (eD o)/\sm (List.range W.length) (eD o)<=1:=λo=>by
  rw[lO List.nodup_range];cases o with
  | none=>exact⟨(by decide:(0:Int)<=0),(by decide:(0:Int)<=1)⟩
  | some g=>show 0<=(if _ then (1:Int) else 0)/\(if _ then (1:Int) else 0)<=1;split<;>decide
 have s1:sm (List.range W.length) (eD (some k))=1:=by rw[lO List.nodup_range];exact yM (List.mem_range.mpr hk)
 have e2:=qb (List.range W.length) (λq=>vl P q+eD (some k) q - eD (g0 false G T W P k) q) (eD (g0 true G T W P k));have e3:=qb (List.range W.length) (λq=>vl P q+eD (some k) q) (eD (g0 false G T W P k));have e4:=AU (List.range W.length) (vl P) (eD (some k));have b0:=sb (g0 false G T W P k);have b1:=sb (g0 true G T W P k);rw[e1,e2,e3,e4];lia
def CQ(G T:List Pl)(W:List Wy):List Int->List (List Int)->Prop
 | _,[]=>True
 | X,Y::r=>(∃k,(iu G T W X).head?=some k/\Y=cg G T W X k)/\CQ G T W Y r
def cP:List Int->List (List Int)->List Int
 | X,[]=>X
 | _,Y::r=>cP Y r
def cL:∀ (X:List Int) (r:List (List Int)),(X::r).getLast?=some (cP X r)
 | X,[]=>rfl
 | X,Y::r=>by rw[List.getLast?_cons_cons];exact cL Y r
def Cv:∀ {X:List Int}{r:List (List Int)},CQ G T W X r->(iu G T W (cP X r)).head?=some k->CQ G T W X (r++[cg G T W (cP X r) k])
 | X,[],_,h=>⟨⟨k,h,rfl⟩,trivial⟩
 | X,Y::r,c,h=>⟨c.1,Cv c.2 h⟩
def B8(h:Wd G T W):∀ (n:Nat) {r:List (List Int)},zc G T W (P::r)->CQ G T W P r->∃r',Eb G T W n (P::r)=P::r'/\CQ G T W P r'
 | 0,r,_,c=>⟨r,rfl,c⟩
 | n+1,r,f,c=>by
  cases e:xm G T W (P::r) with
  | none=>rw[za e];exact⟨r,rfl,c⟩
  | some s' =>
   let⟨X,k,e1,_,e2,_,rfl,f'⟩:=oK h f e;rw[v7 e];rw[cL] at e1;cases e1;exact B8 h n (r:=r++[cg G T W (cP P r) k]) f' (Cv c e2)
def uz(p:Pn G T W P):zc G T W [P]:=⟨by simp,λX hX=>by rw[List.mem_singleton.mp hX];exact p,by simp⟩
def BK(h:Wd G T W)(h2:∀w∈W,w.2.2<=2)(hw:W.length<=9):∀ (n:Nat) {s:List (List Int)},zc G T W s->19683 < s.length+n->xm G T W (Eb G T W n s)=none
 | 0,s,f,hn=>by have:=f.few h2 hw;lia
 | n+1,s,f,hn=>by
  cases e:xm G T W s with
  | none=>rw[za e];exact e
  | some s' =>
   let⟨X,k,_,_,_,_,rfl,f'⟩:=oK h f e;rw[v7 e];exact BK h h2 hw n f' (by rw[zO,xD];lia)
def EK(h:Wd G T W)(p:Pn G T W P):∃r,gw G T W P=P::r/\CQ G T W P r/\zc G T W (P::r):=by
 let⟨r,e,c⟩:=B8 h Rf.turns (uz p) trivial;exact⟨r,e,c,by rw[<- e];exact Ae h _ (uz p)⟩
def Fd(h:Wd G T W)(p:Pn G T W P)(h2:∀w∈W,w.2.2<=2)(hw:W.length<=9):xm G T W (gw G T W P)=none :=
 BK h h2 hw _ (uz p) (show 19683 < 1+1000000 by decide)
def xo:∀ (X:List Int) (s t:List (List Int)),cP X (s++t)=cP (cP X s) t
 | X,[],t=>rfl
 | X,Y::s,t=>xo Y s t
def nv:∀ {X:List Int}{s t:List (List Int)},CQ G T W X (s++t)->CQ G T W (cP X s) t
 | X,[],t,c=>c
 | X,Y::s,t,c=>nv (X:=Y) (s:=s) c.2
def Ib{s:List (List Int)}(e:(iu G T W (cP X s)).head?=none):xm G T W (X::s)=none:=by
 unfold xm;rw[cL];simp?[e]
def NZ{s:List (List Int)}(e:(iu G T W (cP X s)).head?=some k)(hn:¬ cg G T W (cP X s) k∈X::s):xm G T W (X::s)=some (X::s++[cg G T W (cP X s) k]):=by
 unfold xm;rw[cL];simp?[e];rw[yO hn]
def BG:∀ (t s:List (List Int)) (n:Nat),CQ G T W X (s++t)->(X::(s++t)).Nodup->iu G T W (cP X (s++t))=[]->t.length < n->Eb G T W n (X::s)=X::(s++t)
 | t,s,0,_,_,_,hn=>by lia
 | [],s,n+1,c,nd,e,_=>by
  rw[qG] at e ⊢;exact za (Ib (by rw[e];rfl))
 | Y::t,s,n+1,c,nd,e,hn=>by
  let⟨⟨k,e1,rfl⟩,_⟩:=nv c;have hy:¬ cg G T W (cP X s) k∈X::s:=λz=>by
   rw[<- xG,wM] at nd;exact nd.2.2 _ z _ zF rfl
  rw[v7 (NZ e1 hy)];have:=BG t (s++[cg G T W (cP X s) k]) n (by rw[List.append_assoc];exact c) (by rw[List.append_assoc];exact nd) (by rw[List.append_assoc];exact e) (by simpa using hn);rw[List.append_assoc] at this;exact this
def Dj(h:Wd G T W)(h2:∀w∈W,w.2.2<=2)(hw:W.length<=9){r s t:List (List Int)}(c:CQ G T W P r)(F:zc G T W (P::r))(e:iu G T W (cP P r)=[])(hd:P::r=s++X::t):gw G T W X=X::t:=by
 have hX:CQ G T W X t/\cP P r=cP X t:=by
  cases s with
  | nil=>cases hd;exact⟨c,rfl⟩
  | cons y s =>
   obtain⟨rfl,rfl⟩:P=y/\r=s++X::t:=by rw[xG] at hd;injection hd with a b;exact⟨a,b⟩
   have:=nv (s:=s) c;exact⟨this.2,by rw[xo];rfl⟩
 have hl:=F.few h2 hw;have nd:=F.nd;rw[hd,zO,zM] at hl;rw[hd] at nd;have:=BG (X:=X) t [] 1000000 hX.1 (List.nodup_append.mp nd).2.1 (by rw[xP,<- hX.2];exact e) (by lia);exact this
def sH:∀l:List (List Int),sF (l.map af)=some l
 | []=>rfl
 | r::l=>by
  rw[zJ,sF,sH l];have:gG (af r)=some r:=aV r;rw[this];rfl
def E4(F:zc G T W s)(h2:∀w∈W,w.2.2<=2)(hw:W.length<=9):fX (.list (s.map af))=some (.int ((s.length:Nat):Int)):=by
 show (sF (s.map af)).bind _=_;rw[sH];refine yM (Sx.Vf hw (λr hr=>?_) F.nd);have p:=F.pn r hr;refine⟨p.len,λx hx=>?_⟩;let⟨q,hq,rfl⟩:=qS hx;have Xf:q < W.length:=by rw[<- p.len];exact hq
 have hb:=p.bd q Xf;have hl:=h2 _ (lU Xf);rw[zH,zL hq,qH] at hb;lia
def pr(b:Bool)(i o:Int):List Int:=if b=true then [o,i] else [i,o]
def pY{p:Nat->Bool}{k:Nat}:∀ {n:Nat},k < n->p k=true->(∀j,j < n->p j=true->j=k)->(List.range n).filter p=[k]
 | 0,h,_,_=>by lia
 | n+1,h,hk,hu=>by
  rw[vP,List.filter_append];by_cases e:k=n
  ·subst e;rw[List.filter_eq_nil_iff.mpr λj hj z=>by have:=List.mem_range.mp hj;have:=hu j (by lia) z;lia];simp[hk]
  ·rw[pY (by lia) hk λj hj=>hu j (by lia)];have:p n=false:=Bool.eq_false_iff.mpr λz=>e (hu n (by lia) z).symm;simp[this]
def GE(b:Bool)(w:Wy)(i o:Int):decide ([w.1,w.2.1]=pr b i o)=(decide (bz b w=i)&&decide (b9 b w=o)):=by
 unfold pr b9 bz;cases b<;>simp[Bool.and_comm]
def FK{i:Nat}{pl:Pl}{o:Int}(h:Wd G T W)(e:(bb b G T)[i]?=some pl)(ho:o∈pl.2):(List.range W.length).filter (λj=>decide ([(aJ W j).1,(aJ W j).2.1]=pr b i o))=[kn b W i o]:=by
 let⟨h1,h2,h3⟩:=oQ h e ho;refine pY h1 (by rw[GE,h2,h3];simp) λj hj z=>?_;rw[GE,zG,zK,zK] at z;have:=o5 (b:=b) (p:=((i:Nat):Int)) h.wp (fF.mpr ⟨hj,z.1⟩);rw[z.2] at this;exact this.symm
abbrev sB:Dl.Env->Option D:=VS
abbrev eB(G T:List Pl)(W:List Wy)(x1 x2 x3 x4 x5 x6 x8:Option D)(Z:List Int)(x10:Option D)(p:List Int):Dl.Env:=[some (aI G T W),x1,x2,x3,x4,x5,x6,none,x8,some (af Z),x10,some (af p)]
def Oe{i:Nat}{pl:Pl}{o:Int}(h:Wd G T W)(hz:Z.length=W.length)(hb:∀q,-1000000<=vl Z q/\vl Z q<=1000000)(e:(bb b G T)[i]?=some pl)(ho:o∈pl.2){x1 x2 x3 x4 x5 x6 x8 x10:Option D}:sB (eB G T W x1 x2 x3 x4 x5 x6 x8 Z x10 (pr b i o))=some (.int (vl Z (kn b W i o))):=by
 have hw:=h.wl;have hzi:dP VP (eB G T W x1 x2 x3 x4 x5 x6 x8 Z x10 (pr b i o))=some ((List.range W.length).map λi=>.tuple [.int (Z.getD i 0),ax (aJ W i)]):=by
  rw[<- ph hz];rfl
 have c:aw 2 [11] VQ (ip 0 1) VR (ae 0) (eB G T W x1 x2 x3 x4 x5 x6 x8 Z x10 (pr b i o))=some ([kn b W i o].map λi=>.int (Z.getD i 0)):=by
  rw[jq (p:=λj=>decide ([(aJ W j).1,(aJ W j).2.1]=pr b i o)) (h:=λi=>.int (Z.getD i 0)) hzi (by lia) λj hj=>⟨?_,λ_=>rfl⟩,FK h e ho];exact aN (ar (Ge [(aJ W j).1,(aJ W j).2.1] (pr b i o)) (Fo (k:=2) (ds:=[.int (aJ W j).1,.int (aJ W j).2.1,.int (aJ W j).2.2]) rfl rfl) rfl)
 show bh eV (aa (cZ _) ah) _=_;simp?[bh,aa,ah,cZ,c,zC,zA];have:=yb (l:=[vl Z (kn b W i o)]) (by simp) λx hx=>by rw[List.mem_singleton.mp hx];exact hb _
 rw[show ([vl Z (kn b W i o)]:List Int).sum=vl Z (kn b W i o) by simp] at this;exact this
abbrev P6:Dl.Env->Option D:=VO
abbrev Mo:ao->Option Out:=(aq (Dl.aE 11 [4,5,10] P6) (rY 7 (ae 8) sB))
abbrev KB:ao->Option Out:=(dB [6] (bG (ae 6)) (td 10) Mo)
abbrev Kp:Dl.Env->Option Bool:=(lA (fB (f2 Gx Tt Tu)) VT)
abbrev NJ:ao->Option Out:=(aq VJ (aq VL (aq (yu 7 RX RX) (aq (dB [1,2] VN (eL 8 9) KB) (dw Kp Rn cT)))))
abbrev uf(G T:List Pl)(W:List Wy)(X Y:List Int)(k:Nat)(x4 x5 x6 x7 x8 x9 x10 x11:Slot):ao:=[.val (aI G T W),.val (af X),.val (af Y),.val (nD k),x4,x5,x6,x7,x8,x9,x10,x11]
def EE{b:Bool}{i:Nat}{o:Int}{ρ:Dl.Env}(h4:ae 4 ρ=some (.int (sI b)))(h5:ae 5 ρ=some (nD i))(Xg:ae 10 ρ=some (.int o)):P6 ρ=some (af (pr b i o)):=by
 cases b with
 | false=>exact uE (aN (ar (bO 0 0) h4 rfl)) (tup_is (cons_of h5 (cons_of Xg rfl)) (by simp[pr]))
 | true=>exact Bc (aN (ar (bO 1 0) h4 rfl)) (tup_is (cons_of Xg (cons_of h5 rfl)) (by simp[pr]))
def EL{i:Nat}{pl:Pl}{o:Int}(h:Wd G T W)(hz:Z.length=W.length)(hb:∀q,-1000000<=vl Z q/\vl Z q<=1000000)(e:(bb b G T)[i]?=some pl)(ho:o∈pl.2){ds:List D}{j:Nat}(hj:dss[j]?=some ds)(hl:ds.length < 1000) :
  Mo (uf G T W X Y k (.val (.int (sI b))) (.val (nD i)) (.val (af pl.2)) (.nest dss) (.val (nD j)) (.val (af Z)) (.val (.int o)) x11)=some (.nx (uf G T W X Y k (.val (.int (sI b))) (.val (nD i)) (.val (af pl.2)) (.nest (dss.set j (ds++[.int (vl Z (kn b W i o))]))) (.val (nD j)) (.val (af Z)) (.val (.int o)) (.val (af (pr b i o))))):=by
 refine (aj (gS (l:=pr b i o) (EE rfl rfl rfl) (EE rfl rfl rfl))).trans ?_;have Vk:j < dss.length:=(List.getElem?_eq_some_iff.mp hj).1;have hs:ds.length < sizeLine:=by rw[qV];lia
 have hix:Dh dss.length (j:Int)=some j:=by
  unfold Dh;rw[yM (by lia),yM (by lia),yH]
 show rY 7 (ae 8) sB (uf G T W X Y k (.val (.int (sI b))) (.val (nD i)) (.val (af pl.2)) (.nest dss) (.val (nD j)) (.val (af Z)) (.val (.int o)) (.val (af (pr b i o))))=_;unfold rY;rw[show sB (bx (uf G T W X Y k (.val (.int (sI b))) (.val (nD i)) (.val (af pl.2)) (.nest dss) (.val (nD j)) (.val (af Z)) (.val (.int o)) (.val (af (pr b i o)))))=some (.int (vl Z (kn b W i o))) from Oe h hz hb e ho];show ((Dh dss.length (j:Int)).bind λj=>(dss[j]?).bind λds=>_)=_;rw[hix];show ((dss[j]?).bind λds=>_)=_;rw[hj];exact yM hs
def sG{i:Nat}{pl:Pl}(h:Wd G T W)(hz:Z.length=W.length)(hb:∀q,-1000000<=vl Z q/\vl Z q<=1000000)(e:(bb b G T)[i]?=some pl)(hp:pl.2.length<=16){j:Nat}(hj:dss[j]?=some []) :
  ∃R8 R9,(R8=x10\/∃d,R8=.val d)/\(R9=x11\/∃d,R9=.val d)/\KB (uf G T W X Y k (.val (.int (sI b))) (.val (nD i)) (.val (af pl.2)) (.nest dss) (.val (nD j)) (.val (af Z)) x10 x11)=some (.nx (uf G T W X Y k (.val (.int (sI b))) (.val (nD i)) (.val (af pl.2)) (.nest (dss.set j ((iw b W i pl.2).map λq=>.int (vl Z q)))) (.val (nD j)) (.val (af Z)) R8 R9)):=by
 have key:∀ (L:List Int) (ds:List D) (dss:List (List D)) (x10 x11:Slot),(∀o∈L,o∈pl.2)->dss[j]?=some ds->ds.length+L.length < 1000->∃R8 R9,(R8=x10\/∃d,R8=.val d)/\(R9=x11\/∃d,R9=.val d) /\
   dO (td 10) Mo (L.map PyData.int) (uf G T W X Y k (.val (.int (sI b))) (.val (nD i)) (.val (af pl.2)) (.nest dss) (.val (nD j)) (.val (af Z)) x10 x11)=some (.nx (uf G T W X Y k (.val (.int (sI b))) (.val (nD i)) (.val (af pl.2)) (.nest (dss.set j (ds++(L.map (kn b W i)).map λq=>.int (vl Z q)))) (.val (nD j)) (.val (af Z)) R8 R9)):=by
  intro L
  induction L with
  | nil =>
   intro ds dss x10 x11 _ hj _;refine⟨x10,x11,.inl rfl,.inl rfl,?_⟩;rw[yV,yV,yV,qG];have:dss.set j ds=dss:=by
    let⟨h1,h2⟩:=List.getElem?_eq_some_iff.mp hj;rw[<- h2];exact List.set_getElem_self h1
   rw[this];rfl
  | cons o L ih =>
   intro ds dss x10 x11 hL hj hl;rw[zM] at hl;have Vk:=(List.getElem?_eq_some_iff.mp hj).1;let⟨R8,R9,_,_,e2⟩:=ih (ds++[.int (vl Z (kn b W i o))]) (dss.set j (ds++[.int (vl Z (kn b W i o))])) (.val (.int o)) (.val (af (pr b i o))) (λo' RK=>hL o' (zD _ RK)) (by rw[xJ,yM rfl,yM Vk]) (by rw[zO,xD];lia);refine⟨R8,R9,.inr ?_,.inr ?_,?_⟩
   ·rename_i a _;rcases a with rfl|z;exact⟨_,rfl⟩;exact z
   ·rename_i a;rcases a with rfl|z;exact⟨_,rfl⟩;exact z
   ·rw[zJ];refine (cn rfl (EL h hz hb e (hL o zF) hj (by lia))).trans ?_;refine e2.trans ?_;rw[List.set_set,zJ,zJ,List.append_assoc];rfl
 let⟨R8,R9,a,b',f⟩:=key pl.2 [] dss x10 x11 (λ_ z=>z) hj (by rw[xM];lia);exact⟨R8,R9,a,b',cx f (HN rfl) rfl⟩
def ck(x:Slot):Prop:=x=.QK\/∃d,x=.val d
def mU{x:Slot}(h:ck x):l9 x=true:=by
 rcases h with rfl|⟨d,rfl⟩<;>rfl
def Cg{l:List Nat}{f:Nat->Int}(hl:l.length<=16)(hb:∀q,-1000000<=f q/\f q<=1000000):eV [.list (l.map λq=>.int (f q))]=some (.int (sm l f)):=by
 have:=yb (l:=l.map f) (by rw[zE];lia) λx hx=>by
  let⟨q,_,rfl⟩:=List.mem_map.mp hx;exact hb q
 rw[zN] at this;exact this
def yd(l:List Nat)(f:Nat->Int):oW (.list (l.map λq=>.int (f q)))=some (l.map f):=by
 have:=aV (l.map f);rw[zN] at this;exact this
def E8{l:List Nat}{f f':Nat->Int}(hl:l.length<=16)(hf:∀q,-1000000<=f q/\f q<=1000000)(T8:∀q,-1000000<=f' q/\f' q<=1000000)(h1:HT.lexLt (l.map f) (l.map f')=true)(h2:sm l f<=sm l f'){ρ:Dl.Env}(h7:ae 7 ρ=some (.list [.list (l.map λq=>.int (f q)),.list (l.map λq=>.int (f' q))])):Kp ρ=some false:=by
 have a0:f2 az (ae 7) (fC (.int 0)) ρ=some (.list (l.map λq=>.int (f q))):=ar (a:=.list [.list (l.map λq=>.int (f q)),.list (l.map λq=>.int (f' q))]) (b:=.int 0) rfl h7 rfl;have a1:f2 az (ae 7) (fC (.int 1)) ρ=some (.list (l.map λq=>.int (f' q))):=ar (a:=.list [.list (l.map λq=>.int (f q)),.list (l.map λq=>.int (f' q))]) (b:=.int 1) rfl h7 rfl;refine AY (aN ?_) (aN ?_)
 ·refine ar ?_ a1 a0;show (HD _ _).map PyData.bool=_;unfold HD;rw[yd,yd];show (if (l.map f').length=(l.map f).length then _ else none).map PyData.bool=_;rw[yM (by rw[zE,zE]),h1];rfl
 ·have s0:bh eV (aa Tu ah) ρ=some (.int (sm l f)):=by
   simp?[bh,aa,ah,a0,zA,zC];exact Cg hl hf
  have s1:bh eV (aa Tt ah) ρ=some (.int (sm l f')):=by
   simp?[bh,aa,ah,a1,zA,zC];exact Cg hl T8
  exact (ar (mN _ _) s1 s0).trans (by rw[yA (by lia)])
def xk(h:Wd G T W)(p:Pn G T W P)(q:Nat):-1000000<=vl P q/\vl P q<=1000000:=by
 by_cases hq:q < W.length
 ·have h1:=p.bd q hq;have h2:=(h.wr _ (lU hq)).2.2;unfold vl;lia
 ·unfold vl;rw[zH,jM (by rw[p.len];lia)];decide
def sr(h:Wd G T W)(p:Pn G T W X)(hk:k < W.length)(e:dW G T W X k=3)(b:Bool){x5 x6 x7 x8 x9 x10 x11:Slot}(h5:ck x5)(h6:ck x6)(h8:ck x8)(h9:ck x9)(Xg:ck x10)(h11:ck x11) :
  ∃y5 y6 y7 y8 y9 R8 R9,ck y5/\ck y6/\ck y8/\ck y9/\ck R8/\ck R9/\NJ (uf G T W X (cg G T W X k) k (.val (.int (sI b))) x5 x6 x7 x8 x9 x10 x11)=some (.nx (uf G T W X (cg G T W X k) k (.val (.int (sI b))) y5 y6 y7 y8 y9 R8 R9)):=by
 have hi:=jw h b hk;have q:=uM h p hk e;have e5:(bb b G T)[aS b W k]?=some (dg b G T (aS b W k)):=pf hi;have hl:(dg b G T (aS b W k)).2.length<=16:=by
  have:=Br (b:=b) h hi;unfold lst iw at this
  rwa [zE] at this
 have t5:=cq (i:=5) (fz:=[0,3,4]) (f:=f2 az VI (ae 4)) (ρ:=uf G T W X (cg G T W X k) k (.val (.int (sI b))) x5 x6 x7 x8 x9 x10 x11) (d:=nD (aS b W k))
  (ar (BQ h hk b) (ar (iG (f:=ax) (l:=W) (by simp[aJ,hk])) (ar (tN G T W) rfl rfl) rfl) rfl) rfl
 have l1:∀ρ:Dl.Env,ae 0 ρ=some (aI G T W)->ae 4 ρ=some (.int (sI b))->ae 5 ρ=some (nD (aS b W k))->f2 az Vj (fC (.int 1)) ρ=some (af (dg b G T (aS b W k)).2):=λρ a0 a4 a5 =>
  ar (a:=bc (dg b G T (aS b W k))) (b:=.int 1) rfl (ar (iG (f:=bc) (l:=bb b G T) e5) (ar (oO b G T W) a0 a4) a5) rfl
 have t6:=gS (i:=6) (fz:=[0,4,5]) (f:=f2 az Vj (fC (.int 1))) (ρ:=uf G T W X (cg G T W X k) k (.val (.int (sI b))) (.val (nD (aS b W k))) x6 x7 x8 x9 x10 x11) (l1 _ rfl rfl rfl) (l1 _ rfl rfl rfl);have t7:yu 7 RX RX (uf G T W X (cg G T W X k) k (.val (.int (sI b))) (.val (nD (aS b W k))) (.val (af (dg b G T (aS b W k)).2)) x7 x8 x9 x10 x11)=some (.nx (uf G T W X (cg G T W X k) k (.val (.int (sI b))) (.val (nD (aS b W k))) (.val (af (dg b G T (aS b W k)).2)) (.nest [[],[]]) x8 x9 x10 x11)):=by
  show (if (uf G T W X (cg G T W X k) k (.val (.int (sI b))) (.val (nD (aS b W k))) (.val (af (dg b G T (aS b W k)).2)) .QK x8 x9 x10 x11).all l9=true then _ else none)=_;rw[yM]
  ·rfl
  ·simp?[xU,List.all_nil,mU h8,mU h9,mU Xg,mU h11];rfl
 let⟨R8,R9,a10,a11,f1⟩:=sG (k:=k) (X:=X) (Y:=cg G T W X k) h p.len (xk h p) e5 hl (dss:=[[],[]]) (j:=0) rfl (x10:=x10) (x11:=x11);let⟨z10,z11,b10,b11,Se⟩:=sG (k:=k) (X:=X) (Y:=cg G T W X k) h q.len (xk h q) e5 hl (dss:=[(iw b W (aS b W k) (dg b G T (aS b W k)).2).map λq=>.int (vl X q),[]]) (j:=1) rfl (x10:=R8) (x11:=R9);have t8:=cx (fz:=[1,2]) (fi:=bj VM) (ds:=[.tuple [nD 0,af X],.tuple [nD 1,af (cg G T W X k)]])
  (ρ:=uf G T W X (cg G T W X k) k (.val (.int (sI b))) (.val (nD (aS b W k))) (.val (af (dg b G T (aS b W k)).2)) (.nest [[],[]]) x8 x9 x10 x11) ((cn (tgt:=eL 8 9) rfl f1).trans ((cn rfl Se).trans rfl)) rfl rfl
 have t9:=ba (g:=aO (fC (.bool false))) (E8 (l:=iw b W (aS b W k) (dg b G T (aS b W k)).2) (f:=vl X) (f':=vl (cg G T W X k)) (by unfold iw;rw[zE];exact hl) (xk h p) (xk h q) (II h p hk e b) (Iz h p hk e b)
  (ρ:=aP (uf G T W X (cg G T W X k) k (.val (.int (sI b))) (.val (nD (aS b W k))) (.val (af (dg b G T (aS b W k)).2)) (.nest [(iw b W (aS b W k) (dg b G T (aS b W k)).2).map λq=>.int (vl X q),(iw b W (aS b W k) (dg b G T (aS b W k)).2).map λq=>.int (vl (cg G T W X k) q)]) (.val (nD 1)) (.val (af (cg G T W X k))) z10 z11)) rfl)
 have v1:∀ {x y:Slot},ck x->(y=x\/∃d,y=.val d)->ck y:=λhx hy=>by
  rcases hy with rfl|z
  ·exact hx
  ·exact .inr z
 refine⟨_,_,_,_,_,z10,z11,.inr ⟨_,rfl⟩,.inr ⟨_,rfl⟩,.inr ⟨_,rfl⟩,.inr ⟨_,rfl⟩,v1 (v1 Xg a10) b10,v1 (v1 h11 a11) b11,(aj t5).trans ((aj t6).trans ((aj t7).trans ((aj t8).trans t9)))⟩
def FH(h:Wd G T W)(p:Pn G T W X)(hk:k < W.length)(e:dW G T W X k=3):eh [aI G T W,af X,af (cg G T W X k),nD k]=some (.bool true):=by
 let⟨y5,y6,y7,y8,y9,R8,R9,h5,h6,h8,h9,Xg,h11,f1⟩:=sr h p hk e false (x5:=.QK) (x6:=.QK) (x7:=.QK) (x8:=.QK) (x9:=.QK) (x10:=.QK) (x11:=.QK) (.inl rfl) (.inl rfl) (.inl rfl) (.inl rfl) (.inl rfl) (.inl rfl);let⟨z5,z6,z7,z8,z9,z10,z11,_,_,_,_,_,_,Se⟩:=sr h p hk e true (x5:=y5) (x6:=y6) (x7:=y7) (x8:=y8) (x9:=y9) (x10:=R8) (x11:=R9) h5 h6 h8 h9 Xg h11;refine aX ?_;show d9 (uf G T W X (cg G T W X k) k .QK .QK .QK .QK .QK .QK .QK .QK)=_;unfold d9;have ff:=cx (fz:=[]) (fi:=bw S5) (ds:=[nD 0,nD 1]) (ρ:=uf G T W X (cg G T W X k) k .QK .QK .QK .QK .QK .QK .QK .QK) ((cn (tgt:=td 4) rfl f1).trans ((cn rfl Se).trans rfl)) rfl rfl;exact (aj ff).trans (aW rfl)
def G0:List Pl:=[(1,[0,2,1]),(1,[1,0,2]),(1,[0,2,1])]
def T0:List Pl:=[(1,[1,0,2]),(1,[0,2,1]),(1,[2,1,0])]
def W0:List Wy:=[(0,0,1),(0,1,1),(0,2,1),(1,0,1),(1,1,1),(1,2,1),(2,0,1),(2,1,1),(2,2,1)]
def z0:List Int:=[0,0,0,0,0,0,0,0,0]
def Ob:Wd G0 T0 W0 where
 g1:=by decide
 g4:=by decide
 t1:=by decide
 t4:=by decide
 ga:=by decide
 ta:=by decide
 gl:=λi p e=>by
  match i,e with
  | 0,e=>cases e;decide
  | 1,e=>cases e;decide
  | 2,e=>cases e;decide
 tl:=λi p e=>by
  match i,e with
  | 0,e=>cases e;decide
  | 1,e=>cases e;decide
  | 2,e=>cases e;decide
 wr:=by decide
 wp:=by unfold Ea;decide
 wl:=by decide
def PN:Pn G0 T0 W0 z0 where
 len:=rfl
 bd:=by decide
 am:=λb i hi=>by
  cases b<;>(match i,hi with
  | 0,_=>decide
  | 1,_=>decide
  | 2,_=>decide)
def Oc:qf G0 T0 W0 z0=[0,0,0,1,0,0,0,1,0]:=by decide +kernel
def P4:iu G0 T0 W0 [0,0,0,1,0,0,0,1,0]=[1,2,8]:=by decide +kernel
def OV:cg G0 T0 W0 [0,0,0,1,0,0,0,1,0] 1=[0,1,0,1,0,0,0,0,0]:=by decide +kernel
def Pt:dW G0 T0 W0 [0,0,0,1,0,0,0,1,0] 1=3:=by decide +kernel
def rows0:gw G0 T0 W0 z0=[[0,0,0,0,0,0,0,0,0],[1,0,0,0,0,0,0,0,0],[0,0,0,1,0,0,0,0,0],[0,1,0,1,0,0,0,0,0],[0,0,1,1,0,0,0,0,0],[0,0,1,0,1,0,0,0,0],[1,0,0,0,1,0,0,0,0],[1,0,0,0,0,0,0,1,0],[0,0,0,1,0,0,0,1,0]]:=by decide +kernel
def yt{a:List Int}:∀ {l:List (List Int)}{j:Nat},l[j]?=some a->(∀m,m < j->l[m]?≠some a)->wk (af a) (l.map af)=some j
 | [],j,h,_=>by cases h
 | x::l,0,h,_=>by
  cases h;rw[zJ,wk,yM (by rw[hU];simp)]
 | x::l,j+1,h,hn=>by
  have:x≠a:=λe=>hn 0 (by lia) (by rw[e];rfl);rw[zJ,wk,yO (by rw[hU];simpa using this),yt (l:=l) (j:=j) (by simpa using h) λm hm=>by simpa using hn (m+1) (by lia)];rfl
def ER{l:List (List Int)}{a:List Int}{j:Nat}(h:l[j]?=some a)(hn:∀m,m < j->l[m]?≠some a)(hl:l.length<=30000):D2 (.list (l.map af)) (af a)=some (nD j):=by
 show (if _ then _ else none)=_;rw[yM ⟨iF a,gx l,by rw[zE,qV];lia⟩,yt h hn];rfl
def L4(hk:k < W.length):(∃i∈iu G T W P,((i:Nat):Int)=((k:Nat):Int))↔dW G T W P k=3:=by
 constructor
 ·rintro⟨i,hi,e⟩;obtain rfl:i=k:=by lia
  unfold iu at hi;rw[List.mem_filter,zK] at hi;exact hi.2
 ·exactλe=>⟨k,by unfold iu;rw[List.mem_filter,zT,zK];exact⟨hk,e⟩,rfl⟩
def pP(h:Wd G T W)(q:Pn G T W P)(hk:k < W.length)(e:dW G T W P k=3):cW [aI G T W,af P,nD k]=some (af (cg G T W P k)):=by
 refine aX ?_;show mr [.val (aI G T W),.val (af P),.val (nD k)]=_;unfold mr;refine (aj (lR (call_of (ft h q) rfl rfl))).trans ?_;refine (aj (lR (call_of (pN (i:=((k:Nat):Int)) (n:=((W.length:Nat):Int)) (by lia) (by lia)) (cons_of rfl (pZ q.len rfl)) rfl))).trans ?_;refine (aj (ba (aN (ar (a:=nD k) (b:=.list ((iu G T W P).map nD)) ((Dg _ _).trans (by rw[decide_eq_decide.mpr (L4 (G:=G) (T:=T) (P:=P) hk),yB e];rfl)) rfl (call_of (k6 h q) rfl rfl))))).trans ?_;exact aW (call_of (n9 h q hk e) rfl rfl)
def Jr:fK []=some (.bool true):=by
 have h2:∀w∈W0,w.2.2<=2:=by decide
 have hw:W0.length<=9:=by decide
 have eE:=(uS Ob PN)
 rw[Oc] at eE;have e3:da [aI G0 T0 W0,af z0]=some (.list ((gw G0 T0 W0 z0).map af)):=ui Ob PN h2 hw;have e4:=k6 Ob eE.2;rw[P4] at e4;have e5:=pP Ob eE.2 (k:=1) (by decide) Pt;rw[OV] at e5;have e6:=uY Ob PN h2 hw;rw[Oc,P4] at e6;have l3:∀ρ:Dl.Env,ae 3 ρ=some (.list ((gw G0 T0 W0 z0).map af))->f2 az (ae 3) T6 ρ=some (af [0,0,0,1,0,0,0,1,0]):=λρ h=>ar (mO eE.1) h rfl;refine aX ?_;show fA [.QK,.QK,.QK,.QK,.QK]=_;unfold fA;have s0:VV [.QK,.QK,.QK,.QK,.QK]=some (.nx [.val (.tuple (G0.map bc)),.QK,.QK,.QK,.QK]):=by kernel_rfl
 have s1:VW [.val (.tuple (G0.map bc)),.QK,.QK,.QK,.QK]=some (.nx [.val (.tuple (G0.map bc)),.val (.tuple (T0.map bc)),.QK,.QK,.QK]):=by kernel_rfl
 have s2:VY [.val (.tuple (G0.map bc)),.val (.tuple (T0.map bc)),.QK,.QK,.QK]=some (.nx [.val (.tuple (G0.map bc)),.val (.tuple (T0.map bc)),.val (aI G0 T0 W0),.QK,.QK]):=by kernel_rfl
 refine (aj s0).trans ((aj s1).trans ((aj s2).trans ?_));have a3:∀ρ:Dl.Env,ae 2 ρ=some (aI G0 T0 W0)->ai 2 da Tv ρ=some (.list ((gw G0 T0 W0 z0).map af)):=λρ h=>call_of e3 (cons_of h (cons_of (show f2 cA UG (fC (.int 9)) ρ=some (af z0) from rfl) rfl)) rfl;refine (aj (lJ rfl (a3 _ rfl) (a3 _ rfl) rfl)).trans ?_;have a4:∀ρ:Dl.Env,ae 2 ρ=some (aI G0 T0 W0)->ae 3 ρ=some (.list ((gw G0 T0 W0 z0).map af))->ai 3 cW V0 ρ=some (af [0,1,0,1,0,0,0,0,0]):=λρ h h3 =>
  call_of e5 (cons_of h (cons_of (l3 ρ h3) (cons_of (ar (a:=.list (([1,2,8]:List Nat).map nD)) (b:=.int 0) rfl (call_of e4 (cons_of h (cons_of (l3 ρ h3) rfl)) rfl) rfl) rfl))) rfl
 refine (aj (gS (a4 _ rfl rfl) (a4 _ rfl rfl))).trans ?_;refine aW ?_;have a6:∀ρ:Dl.Env,ae 2 ρ=some (aI G0 T0 W0)->f2 p9 (ai 2 aH Tv) (fC (.bool false)) ρ=some (.bool true):=λρ h=>ar (a:=.bool false) (b:=.bool false) rfl (call_of e6 (cons_of h (cons_of (show f2 cA UG (fC (.int 9)) ρ=some (af z0) from rfl) rfl)) rfl) rfl;have a7:D2 (.list ((gw G0 T0 W0 z0).map af)) (af [0,1,0,1,0,0,0,0,0])=some (nD 3):=by
  rw[rows0];exact ER rfl (by decide) (by decide)
 exact zf (a6 _ rfl) (ar (bO 3 3) (ar a7 rfl rfl) rfl)
namespace K44M
abbrev lS(ns:List Int)(G T:List Pl)(W:List Wy)(i:Nat)(P:List Int)(R:List (List Int))(x5 x6 x7 x8 x9:Slot):ao:=[.val (bP ns),.val (aI G T W),.val (nD i),.val (af P),.val (.list (R.map af)),x5,x6,x7,x8,x9]
abbrev zB:ao->Option Out:=V7
def CC{l:List Nat}(e:l.head?=some k):az (.list (l.map nD)) (.int 0)=some (nD k):=by
 cases l with
 | nil=>cases e
 | cons a t=>cases e;exact tM (f:=nD) (l:=k::t) (i:=0) rfl
def BR(h:Wd G T W)(p:Pn G T W P){f:Dl.Env->Option D}{ρ:Dl.Env}(hf:f ρ=some (af P)):bh eV (aa f ah) ρ=some (.int P.sum):=by
 simp?[bh,aa,ah,hf,zA,zC];refine wX (by rw[p.len];have:=h.wl;lia) λx hx=>?_;let⟨q,hq,rfl⟩:=qS hx;have:=xk h p q;unfold vl at this
 rwa [zH,zL hq] at this
def MR(h:Wd G T W)(p:Pn G T W X)(e:(iu G T W X).head?=some k){x7 x8 x9:Slot}(h7:ck x7):zB (lS ns G T W i P R (.val (af X)) (.val (af (cg G T W X k))) x7 x8 x9)=some (.nx (lS ns G T W i P R (.val (af X)) (.val (af (cg G T W X k))) (.val (nD k)) x8 x9)):=by
 let⟨hk,e3⟩:=me e;have q:=uM h p hk e3;have t7:=cq (i:=7) (fz:=[1,5]) (f:=f2 az V2 (fC (.int 0))) (ρ:=lS ns G T W i P R (.val (af X)) (.val (af (cg G T W X k))) x7 x8 x9) (d:=nD k) (ar (CC e) (call_of (k6 h p) rfl rfl) rfl) rfl;refine (aj t7).trans ?_;refine (aj (ba (AY (cw (aN (call_of (lb h q) rfl rfl))) (aN (ar (tJ _) (call_of (pP h p hk e3) rfl rfl) rfl))))).trans ?_;have i6:f2 az (ae 6) (ae 7) (aP (lS ns G T W i P R (.val (af X)) (.val (af (cg G T W X k))) (.val (nD k)) x8 x9))=some (.int (vl (cg G T W X k) k)):=ar (lG (by rw[q.len];exact hk)) rfl rfl;have i5:f2 az (ae 5) (ae 7) (aP (lS ns G T W i P R (.val (af X)) (.val (af (cg G T W X k))) (.val (nD k)) x8 x9))=some (.int (vl X k)):=ar (lG (by rw[p.len];exact hk)) rfl rfl;refine (aj (ba (aN (ar ((GP _ _).trans (by rw[Cd h p hk e3,yB rfl];rfl)) i6 (ar (gc _ _) i5 rfl))))).trans ?_;let⟨b1,b2⟩:=Jg h p hk e3;have ab:bh EC V6 (aP (lS ns G T W i P R (.val (af X)) (.val (af (cg G T W X k))) (.val (nD k)) x8 x9))=some (.int (if (cg G T W X k).sum - X.sum < 0 then -((cg G T W X k).sum - X.sum) else (cg G T W X k).sum - X.sum)):=by
  have s:f2 Dl.ig V4 V5 (aP (lS ns G T W i P R (.val (af X)) (.val (af (cg G T W X k))) (.val (nD k)) x8 x9))=some (.int ((cg G T W X k).sum - X.sum)):=ar (l4 _ _) (BR h q rfl) (BR h p rfl);simp?[bh,aa,ah,s,zA,zC];rfl
 refine (aj (ba (aN (ar ((eA _ _).trans (by rw[yA (by split<;>lia)])) ab rfl)))).trans ?_;exact ba (cw (aN (call_of (FH h p hk e3) rfl rfl)))
def Kt(h:Wd G T W):∀ {r:List (List Int)}{X:List Int}{x5 x6 x7 x8 x9:Slot},CQ G T W X r->(∀Y∈X::r,Pn G T W Y)->ck x5->ck x6->ck x7->∃y5 y6 y7,ck y5/\ck y6/\ck y7/\dO (eL 5 6) zB (ja ((X::r).map af) (r.map af)) (lS ns G T W i P R x5 x6 x7 x8 x9)=some (.nx (lS ns G T W i P R y5 y6 y7 x8 x9))
 | [],X,x5,x6,x7,x8,x9,_,_,h5,h6,h7=>⟨x5,x6,x7,h5,h6,h7,rfl⟩
 | Y::r,X,x5,x6,x7,x8,x9,⟨⟨k,e,eY⟩,c⟩,hp,h5,h6,h7=>by
  subst eY;let⟨y5,y6,y7,g5,g6,g7,f⟩:=Kt h (ns:=ns) (i:=i) (P:=P) (R:=R) (x5:=.val (af X)) (x6:=.val (af (cg G T W X k))) (x7:=.val (nD k)) (x8:=x8) (x9:=x9) c (λZ hZ=>hp Z (zD _ hZ)) (.inr ⟨_,rfl⟩) (.inr ⟨_,rfl⟩) (.inr ⟨_,rfl⟩);exact⟨y5,y6,y7,g5,g6,g7,(cn (tgt:=eL 5 6) rfl (MR h (hp X zF) e h7)).trans f⟩
abbrev OK:ao->Option Out:=(aq (Dl.aE 9 [0,2,4] (ai 3 ak (aa (ae 0) (aa (f2 Dl.aB (fC (.int 95)) (ae 2)) (aa (bh bA (aa (ae 4) ah)) ah))))) (aq (dw (fB (f2 dz (ai 2 da (aa (ae 1) (aa (f2 az (ae 4) (ae 9)) ah))) (hC du (ae 4) (sg (ae 9)) gX))) (aO (fC (.bool false))) cT) (dw (br (fB (ai 2 aH (aa (ae 1) (aa (f2 az (ae 4) (ae 9)) ah))))) (aO (fC (.bool false))) cT)))
def Hn(hl:ns.length<=63)(h:Wd G T W)(h2:∀w∈W,w.2.2<=2)(hw:W.length<=9){r:List (List Int)}(c:CQ G T W P r)(F:zc G T W (P::r))(e:iu G T W (cP P r)=[]){x5 x6 x7 x8 x9:Slot}:∃y9,ck y9/\OK (lS ns G T W i P (P::r) x5 x6 x7 x8 x9)=some (.nx (lS ns G T W i P (P::r) x5 x6 x7 x8 y9)):=by
 let⟨d1,d2,d3⟩:=eZ (ns:=ns) (95+(i:Int)) (((P::r).length:Nat):Int) hl (by rw[zM];lia);let⟨j,hj⟩:=vH d2;rw[hj] at d1 d3;have Vk:j < (P::r).length:=by lia
 have t9:=cq (i:=9) (fz:=[0,2,4]) (f:=ai 3 ak Wb) (ρ:=lS ns G T W i P (P::r) x5 x6 x7 x8 x9) (d:=nD j)
  (call_of d1 (cons_of rfl (cons_of (ar (gc 95 (i:Int)) rfl rfl) (cons_of (wY (r:=P::r) (g:=af) rfl) rfl))) rfl) rfl
 have hd:P::r=(P::r).take j++(P::r)[j]::(P::r).drop (j+1):=by rw[<- kZ Vk,List.take_append_drop]
 have hX:Pn G T W (P::r)[j]:=F.pn _ (qB Vk);have eW:=Dj h h2 hw c F e hd;have g9:∀ρ:Dl.Env,ae 4 ρ=some (.list ((P::r).map af))->ae 9 ρ=some (nD j)->f2 az (ae 4) (ae 9) ρ=some (af (P::r)[j]):=λρ a4 a9=>ar (tM (f:=af) (l:=P::r) (zL Vk)) a4 a9;refine⟨.val (nD j),.inr ⟨_,rfl⟩,(aj t9).trans ?_⟩;have w1:=ui h hX h2 hw;rw[eW,<- kZ Vk] at w1;refine (aj (ba (aN (ar ((tE _ _).trans (by rw[yB rfl];rfl)) (call_of w1 (cons_of rfl (cons_of (g9 _ rfl rfl) rfl)) rfl) ((ug (k:=j) rfl rfl).trans (by rw[List.map_drop])))))).trans ?_;have e6:=uY h hX h2 hw;have eE:qf G T W (P::r)[j]=cP P r:=by
  have z:=(uS h hX).1;rw[eW] at z;have z2:=cL P r;rw[hd,List.getLast?_append,z] at z2;simpa using z2
 rw[eE,e] at e6;exact ba (cw (aN (call_of e6 (cons_of rfl (cons_of (g9 _ rfl rfl) rfl)) rfl)))
abbrev On:ao->Option Out:=(aq (Dl.aE 3 [0,1,2] (ai 3 cF (aa (ae 0) (aa (f2 Dl.aB (fC (.int 70)) (f2 Dl.cA (fC (.int 10)) (ae 2))) (aa (ae 1) ah))))) (aq (Dl.aE 4 [1,3] (ai 2 da (aa (ae 1) (aa (ae 3) ah)))) (aq (dw (lA (fB (f2 dz (f2 az (ae 4) (fC (.int 0))) (ae 3))) (fB (f2 dz (f1 fX (ae 4)) (bh bA (aa (ae 4) ah))))) (aO (fC (.bool false))) cT) (aq (dw (dQ (fB (ai 2 cN (aa (ae 1) (aa (ae 3) ah)))) (fB (f2 dz (ae 4) (cZ (gu (aa (ae 3) ah)))))) (aO (fC (.bool false))) cT) (aq (dB [4] (dP (aa (ae 4) (aa (hC du (ae 4) (sg (fC (.int 1))) gX) ah))) (eL 5 6) zB) (aq (Dl.aE 8 [4] (f2 az (ae 4) (f1 Et (fC (.int 1))))) (aq (dw (fB (f2 dz (ai 2 aH (aa (ae 1) (aa (ae 3) ah))) (ai 2 cN (aa (ae 1) (aa (ae 8) ah))))) (aO (fC (.bool false))) cT) (aq (dw (dQ (br (fB (ai 2 cN (aa (ae 1) (aa (ae 8) ah))))) (fB (f2 qj (ai 3 cW (aa (ae 1) (aa (ae 8) (aa (f2 az (ai 2 bN (aa (ae 1) (aa (ae 8) ah))) (fC (.int 0))) ah)))) (ae 4)))) (aO (fC (.bool false))) cT) (dw (fB (ai 2 cN (aa (ae 1) (aa (ae 8) ah)))) OK cT)))))))))
abbrev l0(ns:List Int)(G T:List Pl)(W:List Wy)(i:Nat)(x3 x4 x5 x6 x7 x8 x9:Slot):ao:=[.val (bP ns),.val (aI G T W),.val (nD i),x3,x4,x5,x6,x7,x8,x9]
def oM(hl:ns.length<=63)(h:Wd G T W)(h2:∀w∈W,w.2.2<=2)(hw:W.length<=9){at':Int}(ha:f2 Dl.aB (fC (.int 70)) (f2 Dl.cA (fC (.int 10)) (ae 2)) [some (bP ns),some (aI G T W),some (nD i)]=some (.int at')){x3 x4 x5 x6 x7 x8 x9:Slot}(h3:ck x3)(h4:ck x4)(h5:ck x5)(h6:ck x6)(h7:ck x7)(h8:ck x8)(h9:ck x9) :
  ∃y3 y4 y5 y6 y7 y8 y9,ck y3/\ck y4/\ck y5/\ck y6/\ck y7/\ck y8/\ck y9/\On (l0 ns G T W i x3 x4 x5 x6 x7 x8 x9)=some (.nx (l0 ns G T W i y3 y4 y5 y6 y7 y8 y9)):=by
 obtain⟨P,eP,p⟩:∃P,cF [bP ns,.int at',aI G T W]=some (af P)/\Pn G T W P:=⟨_,zz hl h,Hq hl h⟩
 let⟨r,eR,c,F⟩:=EK h p;have e4:da [aI G T W,af P]=some (.list ((P::r).map af)):=by rw[<- eR];exact ui h p h2 hw
 have pE:Pn G T W (cP P r):=F.pn _ (List.mem_of_getLast? (cL P r));have eE:qf G T W P=cP P r:=by
  have z:=(uS h p).1;rw[eR,cL] at z;exact (xE z).symm
 have e6:=uY h p h2 hw;rw[eE] at e6;have e7:=B5 h pE;have a3:∀ρ:Dl.Env,ae 0 ρ=some (bP ns)->ae 1 ρ=some (aI G T W)->ae 2 ρ=some (nD i)->ai 3 cF (aa (ae 0) (aa (f2 Dl.aB (fC (.int 70)) (f2 Dl.cA (fC (.int 10)) (ae 2))) (aa (ae 1) ah))) ρ=some (af P):=λρ b0 b1 b2 =>
  call_of eP (cons_of b0 (cons_of (by
   have:f2 Dl.aB (fC (.int 70)) (f2 Dl.cA (fC (.int 10)) (ae 2)) ρ=f2 Dl.aB (fC (.int 70)) (f2 Dl.cA (fC (.int 10)) (ae 2)) [some (bP ns),some (aI G T W),some (nD i)]:=by
    simp?[f2,b2,fC];rfl
   rw[this];exact ha) (cons_of b1 rfl))) rfl
 have t3:=gS (i:=3) (fz:=[0,1,2]) (ρ:=l0 ns G T W i x3 x4 x5 x6 x7 x8 x9) (a3 _ rfl rfl rfl) (a3 _ rfl rfl rfl);have t4:=lJ (i:=4) (fz:=[1,3]) (f:=ai 2 da (aa (ae 1) (aa (ae 3) ah))) (ρ:=l0 ns G T W i (.val (af P)) x4 x5 x6 x7 x8 x9) rfl (call_of e4 rfl rfl) (call_of e4 rfl rfl) rfl;have n0:az (.list ((P::r).map af)) (.int 0)=some (af P):=tM (f:=af) (l:=P::r) (i:=0) rfl;have ls:f1 fX (ae 4) (aP (lS ns G T W i P (P::r) x5 x6 x7 x8 x9))=some (.int (((P::r).length:Nat):Int)):=(Nv rfl).trans (E4 F h2 hw);have t5:dw (lA (fB (f2 dz (f2 az (ae 4) (fC (.int 0))) (ae 3))) (fB (f2 dz (f1 fX (ae 4)) (bh bA (aa (ae 4) ah))))) (aO (fC (.bool false))) cT (lS ns G T W i P (P::r) x5 x6 x7 x8 x9)=some (.nx (lS ns G T W i P (P::r) x5 x6 x7 x8 x9)):=ba (AY (aN (ar (tJ P) (ar n0 rfl rfl) rfl)) (aN (ar (Hr _) ls (wY (f:=ae 4) (r:=P::r) (g:=af) rfl))));have t6:dw (dQ (fB (ai 2 cN (aa (ae 1) (aa (ae 3) ah)))) (fB (f2 dz (ae 4) (cZ (gu (aa (ae 3) ah)))))) (aO (fC (.bool false))) cT (lS ns G T W i P (P::r) x5 x6 x7 x8 x9)=some (.nx (lS ns G T W i P (P::r) x5 x6 x7 x8 x9)):=by
  have er:=B5 h p;by_cases z:iu G T W P=[]
  ·rw[yB z] at er;have hr:r=[]:=by
    cases r with
    | nil=>rfl
    | cons Y r=>let⟨⟨k,e1,_⟩,_⟩:=c;rw[z] at e1;cases e1
   refine ba (xy (aN (call_of er rfl rfl)) (aN (ar ((tE (P::r) [P]).trans (by rw[hr,yB rfl];rfl)) rfl rfl)))
  ·rw[yA z] at er;exact ba (BX (aN (call_of er rfl rfl)))
 let⟨y5,y6,y7,g5,g6,g7,fz⟩:=Kt h (ns:=ns) (i:=i) (P:=P) (R:=P::r) (x8:=x8) (x9:=x9) c F.pn h5 h6 h7;have t7:=cx (fz:=[4]) (fi:=dP (aa (ae 4) (aa (hC du (ae 4) (sg (fC (.int 1))) gX) ah))) (ρ:=lS ns G T W i P (P::r) x5 x6 x7 x8 x9) fz (by
  show (aa (ae 4) (aa (hC du (ae 4) (sg (fC (.int 1))) gX) ah) _).bind K9=_;rw[cons_of (d:=.list ((P::r).map af)) rfl (cons_of (ug (k:=1) rfl rfl) rfl)];rfl) rfl
 have l8:∀ρ:Dl.Env,ae 4 ρ=some (.list ((P::r).map af))->f2 az (ae 4) (f1 Et (fC (.int 1))) ρ=some (af (cP P r)):=λρ b=>ar (mO (cL P r)) b rfl;have t8:=gS (i:=8) (fz:=[4]) (ρ:=lS ns G T W i P (P::r) y5 y6 y7 x8 x9) (l8 _ rfl) (l8 _ rfl);have t9:dw (fB (f2 dz (ai 2 aH (aa (ae 1) (aa (ae 3) ah))) (ai 2 cN (aa (ae 1) (aa (ae 8) ah))))) (aO (fC (.bool false))) cT (lS ns G T W i P (P::r) y5 y6 y7 (.val (af (cP P r))) x9)=some (.nx (lS ns G T W i P (P::r) y5 y6 y7 (.val (af (cP P r))) x9)):=ba (aN (ar (C0 _) (call_of e6 rfl rfl) (call_of e7 rfl rfl)));have t10:dw (dQ (br (fB (ai 2 cN (aa (ae 1) (aa (ae 8) ah))))) (fB (f2 qj (ai 3 cW (aa (ae 1) (aa (ae 8) (aa (f2 az (ai 2 bN (aa (ae 1) (aa (ae 8) ah))) (fC (.int 0))) ah)))) (ae 4)))) (aO (fC (.bool false))) cT (lS ns G T W i P (P::r) y5 y6 y7 (.val (af (cP P r))) x9)=some (.nx (lS ns G T W i P (P::r) y5 y6 y7 (.val (af (cP P r))) x9)):=by
  by_cases z:iu G T W (cP P r)=[]
  ·rw[yB z] at e7;exact ba (BX (cw (aN (call_of e7 rfl rfl))))
  ·rw[yA z] at e7;have we:=Fd h p h2 hw;rw[eR] at we;let⟨X,q1,_,q2⟩:=BF F we;rw[cL] at q1;cases q1;rcases q2 with q2|⟨k,q2,q3⟩
   ·exact absurd (List.head?_eq_none_iff.mp q2) z
   ·let⟨hk,e3⟩:=me q2;exact ba (xy (cw (aN (call_of e7 rfl rfl))) (aN (ar ((De (P::r) _).trans (by rw[yB q3];rfl)) (call_of (pP h pE hk e3) (cons_of rfl (cons_of rfl (cons_of (ar (CC q2) (call_of (k6 h pE) rfl rfl) rfl) rfl))) rfl) rfl)))
 have Xv:∃y9,ck y9/\dw (fB (ai 2 cN (aa (ae 1) (aa (ae 8) ah)))) OK cT (lS ns G T W i P (P::r) y5 y6 y7 (.val (af (cP P r))) x9)=some (.nx (lS ns G T W i P (P::r) y5 y6 y7 (.val (af (cP P r))) y9)):=by
  by_cases z:iu G T W (cP P r)=[]
  ·rw[yB z] at e7;let⟨y9,g9,f9⟩:=Hn (ns:=ns) (i:=i) hl h h2 hw c F z (x5:=y5) (x6:=y6) (x7:=y7) (x8:=.val (af (cP P r))) (x9:=x9);exact⟨y9,g9,(fH (aN (call_of e7 rfl rfl))).trans f9⟩
  ·rw[yA z] at e7;exact⟨x9,h9,ba (aN (call_of e7 rfl rfl))⟩
 let⟨y9,g9,Xv⟩:=Xv;exact⟨_,_,y5,y6,y7,_,y9,.inr ⟨_,rfl⟩,.inr ⟨_,rfl⟩,g5,g6,g7,.inr ⟨_,rfl⟩,g9,(aj t3).trans ((aj t4).trans ((aj t5).trans ((aj t6).trans ((aj t7).trans ((aj t8).trans ((aj t9).trans ((aj t10).trans Xv)))))))⟩
def main(ns:List Int)(hl:ns.length<=63):gV [.list (ns.map PyData.int)]=some (.bool true):=by
 let⟨G,T,W,ew,h,f⟩:=xq (ns:=ns) (a:=0) (mo:=9) hl (by decide);have hw:W.length<=9:=by have:=f.wm;lia
 have h2:=f.w2;let⟨y3,y4,y5,y6,y7,y8,y9,g3,g4,g5,g6,g7,g8,g9,f0⟩:=oM (ns:=ns) (i:=0) hl h h2 hw rfl (x3:=.QK) (x4:=.QK) (x5:=.QK) (x6:=.QK) (x7:=.QK) (x8:=.QK) (x9:=.QK) (.inl rfl) (.inl rfl) (.inl rfl) (.inl rfl) (.inl rfl) (.inl rfl) (.inl rfl);let⟨z3,z4,z5,z6,z7,z8,z9,_,_,_,_,_,_,_,f1⟩:=oM (ns:=ns) (i:=1) hl h h2 hw rfl g3 g4 g5 g6 g7 g8 g9;refine aX ?_;show kh [.val (bP ns),.QK,.QK,.QK,.QK,.QK,.QK,.QK,.QK,.QK]=_;unfold kh;refine (aj (ba (cw (aN (call_of Jr rfl rfl))))).trans ?_;refine (aj (bI (call_of ew rfl rfl) (call_of ew rfl rfl) rfl)).trans ?_;have ff:=cx (fz:=[]) (fi:=bw S5) (ds:=[nD 0,nD 1]) (ρ:=[.val (bP ns),.val (aI G T W),.QK,.QK,.QK,.QK,.QK,.QK,.QK,.QK]) ((cn (tgt:=td 2) rfl f0).trans ((cn rfl f1).trans rfl)) rfl rfl;exact (aj ff).trans (aW rfl)
end K44M
end Wm
namespace K44
open PySem L2 Dl PySem.Spec PyProof.Rows Pg Hd PySem.W
def main(ns:List Int)(h:ns.length<=63):gV [.list (ns.map PyData.int)]=some (.bool true):=Wm.K44M.main ns h
def ins(P:Params){h:Heap}{mg:Str->Option Value}(X:(Kf P).In h)(G:h.Ns mainGlobals mg):bJ (Kf P) mg:=⟨aM.mg (f3 70 69 kj) X G,aM.mg (f2 77 76 kj) X G,aM.mg (f3 84 83 kj) X G,aM.mg (f2 89 88 kj) X G,aM.mg (f2 96 95 kj) X G,aM.mg (f3 103 102 kj) X G,aM.mg (f3 108 107 kj) X G,aM.mg (f1 113 112 kj) X G,aM.mg (f1 118 117 kj) X G,aM.mg (f4 123 122 kj) X G,aM.mg (f3 128 127 kj) X G,aM.mg (f2 133 132 kj) X G,aM.mg (f1 140 139 kj) X G,aM.mg (f2 147 146 kj) X G,aM.mg (f3 154 153 kj) X G,aM.mg (f2 161 160 kj) X G,aM.mg (f3 168 167 kj) X G,so.mg (l3 173 172 BL) X G,aM.mg (f4 178 177 BL) X G,aM.mg (f3 185 184 BL) X G,aM.mg (f2 192 191 BL) X G,aM.mg (f2 199 198 BL) X G,aM.mg (f2 204 203 BL) X G,aM.mg (f2 211 210 BL) X G,aM.mg (f4 216 215 Hi) X G,aM.mg (f3 223 222 Hi) X G,aM.mg (f3 230 229 Hi) X G,aM.mg (f2 237 236 Hi) X G,aM.mg (f2 244 243 Hi) X G,aM.mg (f2 251 250 sD) X G,aM.mg (f3 258 257 sD) X G,aM.mg (f3 265 264 sD) X G,aM.mg (f3 270 269 sD) X G,aM.mg (f4 275 274 sD) X G,aM.mg (f2 282 281 sD) X G,aM.mg (f3 289 288 sD) X G,aM.mg (f4 294 293 sD) X G,aM.mg (f0 299 298 sD) X G,aM.mg (f1 306 305 sD) X G,⟨257,mg_of X G (by kernel_rfl)⟩,⟨259,mg_of X G (by kernel_rfl)⟩,λx hx=>mg_none_of X G (Dl.Ll (by kernel_rfl) x hx)⟩
def Qw(w:World):mR (Kf w.params) [170]=true:=by kernel_rfl
end K44
open PySem PySem.W PyProof.Rows
theorem PySem.Challenge.cw_stillflow_k44_whole_walks_holds : PySem.Challenge.rw_stillflow_k44_whole_walks.Holds := by
 refine holds_law K44.OR λk1=>?_
 refine holds_open (XP:=XL K44.vw []) (YP:=K44.hk.says) K44.left K44.hk.of K44.hk.keeps (λs e=>xl_of s (Bool.and_eq_true_iff.mp e).1) XL.keeps (by rfl) (by rfl) (by rfl) (λs e=>recFacts_of (Bool.and_eq_true_iff.mp e).2) (by rfl) k1 (by decide +kernel) ⟨rfl,rfl,rfl,rfl,rfl,by decide +kernel⟩ ?hw ?hc
 case hw=>w_witness2
 case hc=>exact K44.walk (l:=PySem.Challenge.rw_stillflow_k44_whole_walks) (K:=K44.Kf) (ts:=[170]) rfl rfl rfl (λw h Y=>⟨Y.1,Y.2⟩) K44.Qw (λw=>K44.ins w.params) K44.main
